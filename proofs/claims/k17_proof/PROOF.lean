import PyProof.Rows.All
import Wide.All
import OpenK.AllK
import Wide.FinOn
import Lean
import PyProof.EqAt
import PyProof.EqKinds
import PyProof.TupleCall
import PyProof.Rows.SortRuns
import PyProof.Rows.SortShell
import PyProof.ZipIter
import PyProof.TupleIter
import PySem.Challenge.RW_keelbond_k17_whole_shared_is_paid_and_pa
open List (range length_map getD_eq_getElem?_getD getElem?_eq_getElem mem_range length_append mem_filter getElem_mem mem_map size_toArray map_append length_range mem_cons getElem?_map replicate map_cons mem_cons_self getElem?_append_right getElem?_append_left sum_cons mem_cons_of_mem take_length length_filter_le length_take range' mem_append_right mem_append mem_singleton not_mem_nil append_nil all_eq_true mem_of_getElem? map_congr_left length_cons take_succ_eq_append_getElem map_map mem_append_left getElem_of_mem getElem?_set_ne range_succ getElem?_eq_none length_replicate length_set getElem?_range Perm getElem?_replicate length_nil length_drop Pairwise lookup_cons any_eq_true nodup_cons replicate_succ forIn_cons ext_getElem? getElem?_set filter_congr pairwise_cons filter_filter flatten_cons append_assoc foldl_cons nil_append forIn_nil filter_cons foldl all_map)
open Int (gcd zero_mul mul_assoc mul_comm mul_le_mul_of_nonneg_right toNat_natCast le_of_lt mul_pos ediv_mul_cancel zero_add le_of_mul_le_mul_right eq_of_mul_eq_mul_right mul_right_comm mul_nonneg toNat_of_nonneg mul_nonpos_of_nonpos_of_nonneg add_mul sub_mul emod_nonneg emod_lt_of_pos one_mul mul_one natAbs_mul dvd_trans dvd_refl add_zero lcm)
open Nat (le_refl ne_of_lt le_trans lt_of_lt_of_le sub_self zero_le ne_of_gt le_of_ble_eq_true lt_succ_of_lt lt_succ_self lt_irrefl le_succ lt_trans pow_succ not_lt Coprime)
open Or (inl inr)
open PySem.Heap (lt_size get?_push_of_some get?_push_size SameBut size_push get?_update_self get?_push_ne get?_update_other size_update Ns)
open Array (map length_toList size_map getD)
open PySem.W (nsIn mg_none_of kia_one fnOf Looks keepIn findIn codeIn instObj methodObj hideAll_get lookIn excIn hideAll plainGet isFn kitOne mg_of)
open Bool (and_eq_true false_eq_true or_eq_true)
set_option Elab.async false
set_option linter.all false
set_option maxRecDepth 100000
namespace L2
open PySem PySem.Spec PyProof.Rows
abbrev Key:=Sum Int Str
def FU:Key->Value->Bool
 | .inl k,v=>Value.isInt k v
 | .inr x,v=>Value.isStrOf x v
def Of(w:World):Key->Int
 | .inl k=>hashInt k
 | .inr x=>hashStr w x
theorem cb:∀{k:Key}{v:Value},FU k v=true->(∃ i t,k=Sum.inl i/\v=Value.int i t)\/(∃ x t,k=Sum.inr x/\v=Value.str x t)
 | .inl i,v,h=>by
  obtain⟨t,e⟩:=Value.isInt_shape (k:=i) (v:=v) h
  exact .inl ⟨i,t,rfl,e⟩
 | .inr x,v,h=>by
  obtain⟨t,e⟩:=Value.isStrOf_shape (x:=x) (v:=v) h
  exact .inr ⟨x,t,rfl,e⟩
theorem Ih(a b:Int):decide ((Sum.inl a:Key)=Sum.inl b)=(a == b):=by
 by_cases e:a=b
 ·subst e;simp
 ·have h:¬ (Sum.inl a:Key)=Sum.inl b:=fun q=>e (Sum.inl.inj q)
  rw[decide_eq_false h]
  exact (beq_eq_false_iff_ne.mpr e).symm
theorem Hs(a b:Str):decide ((Sum.inr a:Key)=Sum.inr b)=decide (a=b):=by
 by_cases e:a=b
 ·subst e;simp
 ·have h:¬ (Sum.inr a:Key)=Sum.inr b:=fun q=>e (Sum.inr.inj q)
  rw[decide_eq_false h,decide_eq_false e]
theorem GQ(a:Int)(b:Str):decide ((Sum.inl a:Key)=Sum.inr b)=false:=decide_eq_false (fun q=>nomatch q)
theorem HI(a:Str)(b:Int):decide ((Sum.inr a:Key)=Sum.inl b)=false:=decide_eq_false (fun q=>nomatch q)
def yb(prog:Program)(w:World):PySem.KeyKind prog w Key where
 is:=FU
 hash:=Of w
 inj:=fun v a b ha hb=>by
  rcases cb ha with ⟨i,t,rfl,rfl⟩ | ⟨x,t,rfl,rfl⟩
  ·rcases cb hb with ⟨j,u,rfl,e⟩ | ⟨y,u,rfl,e⟩
   ·injection e with e1 _;rw[e1]
   ·exact nomatch e
  ·rcases cb hb with ⟨j,u,rfl,e⟩ | ⟨y,u,rfl,e⟩
   ·exact nomatch e
   ·injection e with e1 _;rw[e1]
 byValue:=fun k v h=>by
  rcases cb h with ⟨i,t,rfl,rfl⟩ | ⟨x,t,rfl,rfl⟩<;>rfl
 pyHash:=fun hv h=>by
  rcases cb hv with ⟨i,t,rfl,rfl⟩ | ⟨x,t,rfl,rfl⟩
  ·exact wpAny_pyHash_int h
  ·exact wpAny_pyHash_str h
 eqBool:=fun hu hv h=>by
  rcases cb hu with ⟨i,t,rfl,rfl⟩ | ⟨x,t,rfl,rfl⟩
  ·rcases cb hv with ⟨j,u,rfl,rfl⟩ | ⟨y,u,rfl,rfl⟩
   ·rw[Ih] at h;exact wpAny_eqBool_int h
   ·rw[GQ] at h;exact SeqAt.EqAt.int_str i t y u _ _ _ _ h
  ·rcases cb hv with ⟨j,u,rfl,rfl⟩ | ⟨y,u,rfl,rfl⟩
   ·rw[HI] at h;exact SeqAt.EqAt.str_int x t j u _ _ _ _ h
   ·rw[Hs] at h;exact wpAny_eqBool_str h
 «strs»:=fun k x t v h=>by
  rcases cb h with ⟨i,u,rfl,e⟩ | ⟨y,u,rfl,e⟩
  ·exact nomatch e
  ·injection e with e1 _
   subst e1
   cases v<;>rfl
end L2
namespace L2
open PySem PySem.Spec PyProof.Rows
inductive V where
 | non | bl (b:Bool) | int (i:Int) | str (x:Str) | byt (b:Array UInt8) | flt (b:UInt64) | ref (a:Addr) | ty (n:String)
 deriving DecidableEq
def RelV:V->Value->Prop
 | .non,u=>u=Value.none
 | .bl b,u=>u=Value.bool b
 | .int i,u=>∃ t,u=Value.int i t
 | .str x,u=>∃ t,u=Value.str x t
 | .byt b,u=>∃ t,u=Value.bytes b t
 | .flt b,u=>∃ t,u=Value.float b t
 | .ref a,u=>u=Value.ref a
 | .ty n,u=>u=Value.type n
abbrev bc:List V->List Value->Prop:=Paired RelV
theorem bc.length{xs:List V}{us:List Value}(r:bc xs us):xs.length=us.length:=Paired.length r
theorem bc.get:∀{xs:List V}{us:List Value}{i:Nat}{x:V},bc xs us->xs[i]?=some x->∃ u,us[i]?=some u/\RelV x u
 | _,_,_,_,.nil,e=>by simp at e
 | _,_,0,_,.cons r _,e=>by simp at e;subst e;exact⟨_,rfl,r⟩
 | _,_,i+1,x,.cons _ t,e=>by
  obtain⟨u,h1,h2⟩:=bc.get (i:=i) (x:=x) t (by simpa using e)
  exact⟨u,by simpa using h1,h2⟩
theorem bc.set{x:V}{u:Value}(r:RelV x u):∀{xs:List V}{us:List Value}(i:Nat),bc xs us->bc (xs.set i x) (us.set i u)
 | _,_,_,.nil=>.nil
 | _,_,0,.cons _ t=>.cons r t
 | _,_,i+1,.cons q t=>.cons q (bc.set r i t)
theorem bc.append:∀{xs ys:List V}{us ws:List Value},bc xs us->bc ys ws->bc (xs++ys) (us++ws)
 | _,_,_,_,.nil,s=>s
 | _,_,_,_,.cons r t,s=>.cons r (bc.append t s)
theorem bc.take:∀{xs:List V}{us:List Value}(n:Nat),bc xs us->bc (xs.take n) (us.take n)
 | _,_,0,_=>.nil
 | _,_,_+1,.nil=>.nil
 | _,_,n+1,.cons r t=>.cons r (bc.take n t)
theorem bc.drop:∀{xs:List V}{us:List Value}(n:Nat),bc xs us->bc (xs.drop n) (us.drop n)
 | _,_,0,r=>r
 | _,_,_+1,.nil=>.nil
 | _,_,n+1,.cons _ t=>bc.drop n t
def HX:Option V->Option Value->Prop
 | some v,some u=>RelV v u
 | none,none=>True
 | _,_=>False
def KV{κ:Type}:List (κ×V)->List (κ×Value)->Prop:=Paired fun (p:κ×V) (q:κ×Value)=>p.1=q.1/\RelV p.2 q.2
def kV:Key->V
 | .inl i=>.int i
 | .inr x=>.str x
inductive HO where
 | lst (xs:List V)
 | tup (xs:List V)
 | dK (nK:List (Key×V)) | dT (nK:List (List Key×V))
 | set (S:Int->Bool) (n:Nat)
 | ins (C dx:Addr) (fs:List (Str×V))
 | own (x:Addr)
 | xd (fs:List (Str×V))
 | met (f x:Addr)
 | rng (lo hi:Int)
 | frz (o:Obj) (u:HO)
 | tbl (ps:Array Value)
 | ext (φ:Heap->Prop)
abbrev Hp:=Addr->Option HO
def upd(H:Hp)(a:Addr)(o:HO):Hp:=fun b=>if b=a then some o else H b
theorem af{H:Hp}{a:Addr}{o:HO}:upd H a o a=some o:=by unfold upd;rw[if_pos rfl]
theorem ax{H:Hp}{a b:Addr}{o:HO}(h:b≠a):upd H a o b=H b:=by unfold upd;rw[if_neg h]
theorem mw{H:Hp}{a:Addr}{o u:HO}:upd (upd H a o) a u=upd H a u:=by
 funext b;unfold upd;split<;>rfl
theorem K2{H:Hp}{a b:Addr}{o u:HO}(h:H a=some o)(h':H b=some u)(d:o≠u):a≠b:=by
 intro e;subst e;rw[h] at h';exact d (Option.some.inj h')
theorem cj{H:Hp}{a b:Addr}{o:HO}(h:H a=some o)(h':H b=none):a≠b:=by
 intro e;subst e;rw[h] at h';cases h'
section
variable (P:Program)(w:World)
def cM(H:Hp)(h:Heap)(a:Addr):HO->Prop
 | .lst xs=>xs.length<=sizeLine/\∃(aN:List Value)(n:Nat),bc xs aN/\h.get? a=some { cls:=.type "list", data:=.seq aN.toArray n }
 | .tup xs=>xs.length<=sizeLine/\∃ aN:List Value,bc xs aN/\IsTup h a aN.toArray
 | .dK nK=>nK.length<=sizeLine/\(a == sysModules)=false/\∃ vs,KV nK vs/\h.DictOf (yb P w) a vs
 | .dT nK=>nK.length<=sizeLine/\(a == sysModules)=false/\∃ xs:List (List Key×Addr×Value),
   Paired (fun (p:List Key×V) (q:List Key×Addr×Value)=>p.1=q.1/\H q.2.1=some (.tup (p.1.map kV))/\RelV p.2 q.2.2) nK xs /\
   ∃ o es ep,h.get? a=some o/\o.ExactDict/\o.data=.dict es ep/\es.toList=xs.map (entryOfKey (tupleKind (yb P w)))/\(xs.map (·.1)).Nodup
 | .set S n=>h.SetOf (intKind P w) a S n
 | .ins C dx fs=>H dx=some (.own a)/\fs.length<=1000/\dx≠a/\h.get? a=some (instObj C dx) /\
   ∃ mA,h.Ns1 dx mA/\(∀ f,HX (fs.lookup f) (mA f))/\PySem.Within mA (fs.map (·.1))
 | .own _=>∃ o,h.get? a=some o
 | .xd fs=>∃ mA,h.Ns1 a mA/\∀ f,HX (fs.lookup f) (mA f)
 | .rng lo hi=>∃ t u v,h.get? a=some { cls:=.type "range", data:=.fields #[.int lo t,.int hi u,.int 1 v] }
 | .frz o u=>h.get? a=some o/\cM H h a u
 | .tbl ps=>h.get? a=some { cls:=.none,data:=.fields ps }
 | .met f x=>h.get? a=some (methodObj (.ref f) (.ref x))
 | .ext φ=>φ h/\(∃ o,h.get? a=some o)/\∀ h1 h2:Heap,φ h1->(∀ o,h1.get? a=some o->h2.get? a=some o)->φ h2
def HOk(H:Hp)(h:Heap):Prop:=∀ a o,H a=some o->cM P w H h a o
end
section
variable {P:Program}{w:World}{H H':Hp}{h h':Heap}{a:Addr}{o:HO}
theorem cM.lt(x:cM P w H h a o):a < h.objs.size:=by
 cases o with
 | lst xs=>obtain⟨_,_,_,_,e⟩:=x;exact lt_size e
 | tup xs=>obtain⟨_,_,_,p⟩:=x;exact p.lt
 | dK nK=>obtain⟨_,_,_,_,o,_,_,e,_⟩:=x;exact lt_size e
 | dT nK=>obtain⟨_,_,_,_,o,_,_,e,_⟩:=x;exact lt_size e
 | set S n=>obtain⟨o,_,_,_,e,_⟩:=x;exact lt_size e
 | ins C dx fs=>obtain⟨_,_,_,e,_⟩:=x;exact lt_size e
 | own y=>obtain⟨_,e⟩:=x;exact lt_size e
 | xd fs=>obtain⟨_,⟨_,_,_,e,_⟩,_⟩:=x;exact lt_size e
 | rng lo hi=>obtain⟨_,_,_,e⟩:=x;exact lt_size e
 | frz ob u=>obtain⟨e,_⟩:=x;exact lt_size e
 | tbl ps=>exact lt_size (show h.get? a=some _ from x)
 | met f y=>exact lt_size (show h.get? a=some _ from x)
 | ext φ=>obtain⟨_,⟨_,e⟩,_⟩:=x;exact lt_size e
theorem Paired.Lw{α β:Type}{F G:α->β->Prop}:∀{l₁:List α}{l₂:List β},Paired F l₁ l₂->(∀ a b,F a b->G a b)->Paired G l₁ l₂
 | _,_,.nil,_=>.nil
 | _,_,.cons r t,f=>.cons (f _ _ r) (Paired.Lw t f)
theorem cM.ve(x:cM P w H h a o)(k:∀ b u,(b=a\/H b=some (.own a))->h.get? b=some u->h'.get? b=some u)
  (ho:∀ b,H b=some (.own a)->H' b=some (.own a)) (ht:∀ b xs,H b=some (.tup xs)->H' b=some (.tup xs)):cM P w H' h' a o:=by
 induction o with
 | lst xs=>obtain⟨z,aN,n,r,e⟩:=x;exact⟨z,aN,n,r,k _ _ (.inl rfl) e⟩
 | tup xs=>obtain⟨z,aN,r,ob,e,c⟩:=x;exact⟨z,aN,r,ob,k _ _ (.inl rfl) e,c⟩
 | dK nK=>obtain⟨z,y,vs,r,ob,es,ep,e,c⟩:=x;exact⟨z,y,vs,r,ob,es,ep,k _ _ (.inl rfl) e,c⟩
 | dT nK =>
  obtain⟨z,y,xs,r,ob,es,ep,e,c⟩:=x
  exact⟨z,y,xs,Paired.Lw r fun p q z=>⟨z.1,ht _ _ z.2.1,z.2.2⟩,ob,es,ep,k _ _ (.inl rfl) e,c⟩
 | set S n=>obtain⟨ob,es,ep,t,e,c⟩:=x;exact⟨ob,es,ep,t,k _ _ (.inl rfl) e,c⟩
 | ins C dx fs =>
  obtain⟨d,z,ne,e,mA,⟨od,es,ep,e2,c⟩,r⟩:=x
  exact⟨ho _ d,z,ne,k _ _ (.inl rfl) e,mA,⟨od,es,ep,k _ _ (.inr d) e2,c⟩,r⟩
 | own y=>obtain⟨ob,e⟩:=x;exact⟨ob,k _ _ (.inl rfl) e⟩
 | xd fs=>obtain⟨mA,⟨od,es,ep,e,c⟩,r⟩:=x;exact⟨mA,⟨od,es,ep,k _ _ (.inl rfl) e,c⟩,r⟩
 | rng lo hi=>obtain⟨t,u,v,e⟩:=x;exact⟨t,u,v,k _ _ (.inl rfl) e⟩
 | frz ob u ih=>obtain⟨e,q⟩:=x;exact⟨k _ _ (.inl rfl) e,ih q⟩
 | tbl ps =>
  have e:h.get? a=some { cls:=.none,data:=.fields ps }:=x
  show h'.get? a=some { cls:=.none,data:=.fields ps }
  exact k a _ (.inl rfl) e
 | met f y =>
  have e:h.get? a=some (methodObj (.ref f) (.ref y)):=x
  show h'.get? a=some (methodObj (.ref f) (.ref y))
  exact k a _ (.inl rfl) e
 | ext φ=>obtain⟨p,⟨o,e⟩,st⟩:=x;exact⟨st _ _ p fun o q=>k _ _ (.inl rfl) q,⟨o,k _ _ (.inl rfl) e⟩,st⟩
theorem HOk.lt(x:HOk P w H h)(e:H a=some o):a < h.objs.size:=(x a o e).lt
theorem HOk.fresh(x:HOk P w H h)(e:h.objs.size<=a):H a=none:=by
 cases q:H a with
 | none=>rfl
 | some u=>exact absurd (lt_of_lt_of_le (x.lt q) e) (lt_irrefl _)
theorem HOk.kept(x:HOk P w H h)(k:∀ b u,h.get? b=some u->h'.get? b=some u):HOk P w H h':=fun a o e =>
 (x a o e).ve (fun b u _ q=>k b u q) (fun _ q=>q) fun _ _ q=>q
theorem HOk.laid(x:HOk P w H h)(k:∀ b u,h.get? b=some u->h'.get? b=some u)(hp:h.objs.size<=a)(new:cM P w (upd H a o) h' a o):HOk P w (upd H a o) h':=fun b u e=>by
 have hn:=x.fresh hp
 by_cases hb:b=a
 ·subst hb;rw[af] at e;cases e;exact new
 ·rw[ax hb] at e
  exact (x b u e).ve (fun c v _ q=>k c v q) (fun c q=>by rw[ax (cj q hn)];exact q) fun c xs q=>by rw[ax (cj q hn)];exact q
end
def Rd(H:Hp)(a:Addr)(u:HO):Prop:=H a=some u\/∃ o,H a=some (.frz o u)
theorem Rd.ok{P:Program}{w:World}{H:Hp}{h:Heap}{a:Addr}{u:HO}(r:Rd H a u)(x:HOk P w H h):cM P w H h a u:=by
 rcases r with r | ⟨o,r⟩
 ·exact x a u r
 ·obtain⟨_,q⟩:=x a _ r
  exact q
def Mut:Option HO->Prop
 | some (.lst _)=>True
 | some (.dK _)=>True
 | some (.dT _)=>True
 | some (.set _ _)=>True
 | some (.ins _ _ _)=>True
 | some (.ext _)=>True
 | _=>False
section
variable {P:Program}{w:World}{H:Hp}{h h':Heap}{x e:Addr}{o':HO}
theorem HOk.write(ok:HOk P w H h)(mu:Mut (H x))(he:e=x\/H e=some (.own x))(k:∀ b u,b≠e->h.get? b=some u->h'.get? b=some u)(heo:∃ u,h'.get? e=some u)
  (new:cM P w (upd H x o') h' x o'):HOk P w (upd H x o') h':=fun b u q=>by
 have nown:∀ c y,H c=some (.own y)->c≠x:=fun c y r z=>by subst z;rw[r] at mu;exact mu
 have ntup:∀ c xs,H c=some (.tup xs)->c≠x:=fun c xs r z=>by subst z;rw[r] at mu;exact mu
 by_cases hb:b=x
 ·subst hb;rw[af] at q;cases q;exact new
 ·rw[ax hb] at q
  by_cases hbe:b=e
  ·have q':H b=some (.own x):=by
    rcases he with z | z
    ·exact absurd (hbe.trans z) hb
    ·rw[hbe];exact z
   rw[q] at q';cases q'
   obtain⟨v,hv⟩:=heo
   exact⟨v,by rw[hbe];exact hv⟩
  ·refine (ok b u q).ve (fun c v hc r=>k c v ?_ r) (fun c r=>by rw[ax (nown c b r)];exact r) fun c xs r=>by rw[ax (ntup c xs r)];exact r
   rcases hc with rfl | hc
   ·exact hbe
   ·rintro rfl
    rcases he with z | z
    ·exact nown c b hc z
    ·rw[hc] at z;cases z;exact hb rfl
end
structure Un(fs ex:List Addr)(H H':Hp)(h h':Heap):Prop where
 keep:∀ b o,h.get? b=some o->H b=none->b∉fs->b∉ex->h'.get? b=some o
 slot:∀ b o,h.get? b=some o->H b=none->b∈fs->b∉ex->∃ sl,h'.get? b=some { o with slots:=sl }
 free:∀ b o,h.get? b=some o->H b=none->b∉ex->H' b=none
 there:∀ b o,h.get? b=some o->b∉ex->∃ o',h'.get? b=some o'
 tups:∀ b xs,H b=some (.tup xs)->H' b=some (.tup xs)
 frzs:∀ b o u,H b=some (.frz o u)->H' b=some (.frz o u)
 tbls:∀ b ps,H b=some (.tbl ps)->∃ more,H' b=some (.tbl (ps++more))
section
variable {fs Hj ex BR:List Addr}{H H1 H2:Hp}{h h1 h2 h':Heap}{a x e:Addr}{o:HO}
theorem Un.any(u:Un fs ex H H1 h h1){b:Addr}{ob:Obj}(q:h.get? b=some ob)(n:H b=none)(hx:b∉ex):∃ sl,h1.get? b=some { ob with slots:=sl }:=by
 by_cases hb:b∈fs
 ·exact u.slot b ob q n hb hx
 ·exact⟨ob.slots,u.keep b ob q n hb hx⟩
theorem Un.kept(k:∀ b u,h.get? b=some u->h'.get? b=some u):Un fs ex H H h h' :=
 ⟨fun b ob q _ _ _=>k b ob q,fun b ob q _ _ _=>⟨ob.slots,k b ob q⟩,fun _ _ _ n _=>n,fun b ob q _=>⟨ob,k b ob q⟩,fun _ _ q=>q,fun _ _ _ q=>q,fun _ ps q=>⟨#[],by rw[q];simp⟩⟩
theorem Un.refl:Un fs ex H H h h:=Un.kept fun _ _ q=>q
theorem Un.laid(k:∀ b u,h.get? b=some u->h'.get? b=some u)(hp:h.objs.size<=a)(hn:H a=none):Un fs ex H (upd H a o) h h' where
 keep:=fun b u q _ _ _=>k b u q
 slot:=fun b u q _ _ _=>⟨u.slots,k b u q⟩
 free:=fun b u q n _=>by rw[ax (ne_of_lt (lt_of_lt_of_le (lt_size q) hp))];exact n
 there:=fun b u q _=>⟨u,k b u q⟩
 tups:=fun b xs q=>by rw[ax (cj q hn)];exact q
 frzs:=fun b u xs q=>by rw[ax (cj q hn)];exact q
 tbls:=fun b ps q=>⟨#[],by rw[ax (cj q hn),q];simp⟩
theorem Un.write(mu:Mut (H x))(he:e=x\/H e=some (.own x))(k:∀ b u,b≠e->h.get? b=some u->h'.get? b=some u)(heo:∃ u,h'.get? e=some u):Un fs ex H (upd H x o) h h':=by
 have hx:∀ b,H b=none->b≠x:=fun b n z=>by subst z;rw[n] at mu;exact mu
 have hb:∀ b,H b=none->b≠e:=fun b n z=>by
  subst z
  rcases he with r | r
  ·exact hx b n r
  ·rw[n] at r;cases r
 have hm:∀ b u,H b=some u->¬ Mut (some u)->b≠x:=fun b u q nm z=>by subst z;rw[q] at mu;exact nm mu
 refine⟨fun b u q n _ _=>k b u (hb b n) q,fun b u q n _ _=>⟨u.slots,k b u (hb b n) q⟩,fun b u q n _=>by rw[ax (hx b n)];exact n,fun b u q _=>?_,
  fun b xs q=>by rw[ax (hm b _ q fun z=>z)];exact q,fun b u xs q=>by rw[ax (hm b _ q fun z=>z)];exact q,fun b ps q=>⟨#[],by rw[ax (hm b _ q fun z=>z),q];simp⟩⟩
 by_cases hbe:b=e
 ·subst hbe;exact heo
 ·exact⟨u,k b u hbe q⟩
end
def trk(h:Heap)(H:Hp):List Addr:=(range h.objs.size).filter fun a=>(H a).isSome
def ua(h:Heap)(H:Hp):Heap:=hideAll h (trk h H)
theorem zH(h:Heap)(H:Hp):(ua h H).objs.size=h.objs.size:=PySem.W.hideAll_size _ _
theorem AM{h:Heap}{H:Hp}{b:Addr}{o:Obj}(e:h.get? b=some o)(n:H b=none):(ua h H).get? b=some o :=
 hideAll_get _ e fun hm=>by
  have q:(H b).isSome=true:=(mem_filter.mp hm).2
  rw[n] at q;simp at q
theorem EH{h:Heap}{H:Hp}{b:Addr}{o:Obj}(e:(ua h H).get? b=some o):h.get? b=some o/\H b=none:=by
 have e':h.get? b=some o:=PySem.W.of_hideAll (trk h H) e
 refine⟨e',?_⟩
 cases q:H b with
 | none=>rfl
 | some x =>
  have hm:b∈trk h H:=mem_filter.mpr ⟨mem_range.mpr (lt_size e'),by simp[q]⟩
  have z:(ua h H).get? b=none:=PySem.W.hideAll_none (trk h H) hm
  rw[z] at e;cases e
def FE(g h:Heap)(L:Addr):List (Addr×Obj):=(range h.objs.size).filterMap fun a=>if a=L\/(g.get? a).isSome=true then none else (h.get? a).map fun o=>(a,o)
def rest(g h:Heap)(L d:Addr):List (Addr×Obj):=(FE g h L).filter fun p=>decide (p.1≠d)
end L2
namespace L2
open PySem PySem.Spec PyProof.Rows
structure Mod(K:PySem.W.Frag)(mg:Str->Option Value)(base:Heap):Prop where
 kin:K.In base
 glob:base.Ns mainGlobals mg
 blt:∃ mb,base.Ns builtinsNs mb/\∀ x:Str,x ≠ "__name__" -> mb x=bootBuiltins x
 nolimit:base.NoLimit
structure Cx where
 prog:Program
 w:World
 K:PySem.W.Frag
 mg:Str->Option Value
 base:Heap
 A:Around
 N:List Str
 s₀:Shared
 H₀:Hp
 env:Env
 outer:List Env
 stack:List Env
 ex:List Addr
 fn:Str->Bool
 calm:Bool
 pn:List (Addr×Obj)
 xe:Value->Shared->Prop
def frs(l:List Env):List Addr:=l.filterMap (·.frame)
abbrev Cx.fs(X:Cx):List Addr:=frs X.outer
def Vis(sc:Scope)(x:Str):Prop:=sc.names.lookup x=some .local\/sc.names.lookup x=some .cell\/sc.names.lookup x=some .free
def Loc(sc:Scope)(x:Str):Prop:=sc.names.lookup x=some .local\/sc.names.lookup x=some .cell
def Look(env:Env)(h:Heap)(m:Str->Option Value)(x:Str)(u:Value):Prop :=
 (env.kindOf x=some .local/\m x=some u)\/((env.kindOf x=some .cell\/env.kindOf x=some .free)/\∃ c,env.cells.lookup x=some c/\h.IsCell c (some u))
structure Cx.Ok(X:Cx):Prop where
 mod:Mod X.K X.mg X.base
 kind:X.env.scope.kind=.function
 glob:X.env.globals=mainGlobals
 blt:X.env.builtins=builtinsNs
 above:X.s₀.heap.objs.size<=X.env.locals
 inj:∀ x y c,X.env.cells.lookup x=some c->X.env.cells.lookup y=some c->x=y
 has:∀ x,(X.env.kindOf x=some .cell\/X.env.kindOf x=some .free)->∃ c,X.env.cells.lookup x=some c
 cab:∀ x c,X.fn x=true->X.env.cells.lookup x=some c->X.s₀.heap.objs.size<=c
 hd:X.calm=true->X.A.handled=none
 frames:X.A.frames=some X.stack
 stk:X.stack=X.outer\/(X.stack=X.env::X.outer/\X.env.frame=some X.env.locals)
 exf:∀ b∈X.ex,b≠X.env.locals/\∀ x c,X.env.cells.lookup x=some c->c≠b
 bs:∀ b o,X.base.get? b=some o->X.s₀.heap.get? b=some o/\X.H₀ b=none
 bsz:X.base.objs.size<=X.s₀.heap.objs.size
 noex:∀ b o,X.base.get? b=some o->b∉X.ex
 exfs:∀ b∈X.ex,b∉X.fs
 nO:X.s₀.heap.FunFrames X.base X.outer
 frf:∀ b∈X.fs,X.H₀ b=none
structure Inv(X:Cx)(pins:List (Addr×Obj))(σ:List (Option V))(H:Hp)(s:Shared):Prop where
 ok:X.Ok
 os:s.os=X.s₀.os
 bare:AllBare s.gens
 base:Un X.fs X.ex X.H₀ H X.s₀.heap s.heap
 loc:∃ m,s.heap.Ns X.env.locals m/\∀(i:Nat)(x:Str)(v:V),X.N[i]?=some x->σ[i]?=some (some v)->Vis X.env.scope x->∃ u,RelV v u/\Look X.env s.heap m x u
 cell:∀ x c,X.env.cells.lookup x=some c->∃ v,s.heap.IsCell c v
 free:H X.env.locals=none
 freeC:∀ x c,X.env.cells.lookup x=some c->H c=none
 pin:∀ p∈X.pn++pins,s.heap.get? p.1=some p.2/\H p.1=none/\p.1≠X.env.locals/\p.1∉X.fs/\∀ v,p.2.data≠.cell v
 hok:HOk X.prog X.w H s.heap
 len:σ.length=X.N.length
section
variable {X:Cx}{pins:List (Addr×Obj)}{σ:List (Option V)}{H H':Hp}{s:Shared}{h':Heap}
theorem Cx.Ok.Ou(ok:X.Ok){b:Addr}{o:Obj}(e:X.base.get? b=some o):b∉X.fs:=fun hb=>by
 have:=(ok.nO.mem hb).1
 rw[e] at this;cases this
theorem Inv.bs(I:Inv X pins σ H s):∀ b o,X.base.get? b=some o->s.heap.get? b=some o/\H b=none:=fun b o e =>
 ⟨I.base.keep b o (I.ok.bs b o e).1 (I.ok.bs b o e).2 (I.ok.Ou e) (I.ok.noex b o e),I.base.free b o (I.ok.bs b o e).1 (I.ok.bs b o e).2 (I.ok.noex b o e)⟩
theorem Inv.bk(I:Inv X pins σ H s):∀ b o,X.base.get? b=some o->s.heap.get? b=some o:=fun b o e=>(I.bs b o e).1
theorem Inv.mod(I:Inv X pins σ H s):Mod X.K X.mg X.base:=I.ok.mod
theorem Inv.kIn(I:Inv X pins σ H s):X.K.In s.heap:=I.ok.mod.kin.keeps I.bk
theorem Inv.lt(I:Inv X pins σ H s):X.env.locals < s.heap.objs.size:=let ⟨_,hn,_⟩:=I.loc;hn.lt
theorem Inv.sz(I:Inv X pins σ H s):X.s₀.heap.objs.size<=s.heap.objs.size:=le_trans I.ok.above (Nat.le_of_lt I.lt)
theorem Inv.MW(I:Inv X pins σ H s){a:Addr}(h:s.heap.objs.size<=a):a∉X.fs:=fun hb=>by
 obtain⟨_,o,ho,_⟩:=I.ok.nO.mem hb
 exact absurd (lt_of_lt_of_le (lt_size ho) (le_trans I.sz h)) (lt_irrefl _)
theorem Inv.cne(I:Inv X pins σ H s):∀ x c,X.env.cells.lookup x=some c->c≠X.env.locals:=fun x c e z=>by
 obtain⟨v,o,ho,hd⟩:=I.cell x c e
 obtain⟨m,⟨o',es,ep,IT,HM,_⟩,_⟩:=I.loc
 rw[z,IT] at ho;cases ho;rw[HM] at hd;cases hd
theorem Inv.nO(I:Inv X pins σ H s):s.heap.FunFrames X.base X.outer:=by
 have all:∀(l:List Env),(∀ b∈frs l,b∈X.fs)->X.s₀.heap.FunFrames X.base l->s.heap.FunFrames X.base l:=by
  intro l
  induction l with
  | nil=>intro _ _;trivial
  | cons env r ih =>
   intro hs hl
   obtain⟨hk,⟨L,o,hf,hn,ho,hd⟩,hr⟩:=hl
   have hL:L∈X.fs:=hs L (by unfold frs;rw[List.filterMap_cons,hf];exact mem_cons_self)
   obtain⟨sl,e⟩:=I.base.slot L o ho (I.ok.frf L hL) hL fun z=>I.ok.exfs L z hL
   exact⟨hk,⟨L,_,hf,hn,e,hd⟩,ih (fun b hb=>hs b (by unfold frs;rw[List.filterMap_cons,hf];exact mem_cons_of_mem _ hb)) hr⟩
 exact all X.outer (fun _ hb=>hb) I.ok.nO
theorem Inv.stack(I:Inv X pins σ H s):s.heap.FunFrames X.base X.stack:=by
 rcases I.ok.stk with e | ⟨e,hf⟩
 ·rw[e];exact I.nO
 ·rw[e]
  obtain⟨m,hn,_⟩:=I.loc
  refine .cons (by rw[I.ok.kind];decide) hf hn ?_ I.nO
  exact Heap.get?_none_of_le (le_trans I.ok.bsz I.ok.above)
theorem Inv.mU(I:Inv X pins σ H s):∀ b∈frs X.stack,b∈X.env.locals::X.fs:=fun b hb=>by
 rcases I.ok.stk with e | ⟨e,hf⟩
 ·rw[e] at hb;exact mem_cons_of_mem _ hb
 ·rw[e] at hb
  unfold frs at hb
  rw[List.filterMap_cons,hf] at hb
  exact hb
theorem Inv.mr(I:Inv X pins σ H s):∀ b∈frs X.stack,H b=none:=fun b hb=>by
 rcases mem_cons.mp (I.mU b hb) with e | hb
 ·rw[e];exact I.free
 ·obtain⟨_,o,ho,_⟩:=I.ok.nO.mem hb
  exact I.base.free b o ho (I.ok.frf b hb) fun z=>I.ok.exfs b z hb
theorem Inv.step{g':Array GenState}{t':Nat}{d':Drawn}{ch:List Addr}(I:Inv X pins σ H s)
  (hch:∀ b∈ch,(b∈X.ex\/X.s₀.heap.objs.size<=b)/\b≠X.env.locals/\(∀ x c,X.env.cells.lookup x=some c->c≠b)/\∀ p∈X.pn++pins,p.1≠b)
  (keep:∀ b o,b≠X.env.locals->b∉X.fs->b∉ch->s.heap.get? b=some o->H b=none->h'.get? b=some o)
  (slot:∀ b o,b≠X.env.locals->b∈X.fs->b∉ch->s.heap.get? b=some o->H b=none->∃ sl,h'.get? b=some { o with slots:=sl }) (free:∀ b o,b∉ch->s.heap.get? b=some o->H b=none->H' b=none)
  (there:∀ b o,b∉ch->s.heap.get? b=some o->∃ o',h'.get? b=some o')
  (tups:∀ b xs,H b=some (.tup xs)->H' b=some (.tup xs)) (frzs:∀ b o u,H b=some (.frz o u)->H' b=some (.frz o u)) (tbls:∀ b ps,H b=some (.tbl ps)->∃ more,H' b=some (.tbl (ps++more)))
  (ns:∀ m,s.heap.Ns X.env.locals m->h'.Ns X.env.locals m) (hok:HOk X.prog X.w H' h') (hg:AllBare g') :
  Inv X pins σ H' { s with heap:=h',gens:=g',drawn:=d',toks:=t' }:=by
 have neL:∀ b o,X.s₀.heap.get? b=some o->b≠X.env.locals:=fun b o e=>ne_of_lt (lt_of_lt_of_le (lt_size e) I.ok.above)
 have Mx:∀ b o,X.s₀.heap.get? b=some o->b∉X.ex->b∉ch:=fun b o e hx hb=>by
  rcases (hch b hb).1 with z | z
  ·exact hx z
  ·exact absurd (lt_of_lt_of_le (lt_size e) z) (lt_irrefl _)
 have cellK:∀ x c,X.env.cells.lookup x=some c->∀ v,s.heap.IsCell c v->h'.IsCell c v:=fun x c e v ⟨o,ho,hd⟩=>by
  have nch:c∉ch:=fun z=>(hch c z).2.2.1 x c e rfl
  by_cases hc:c∈X.fs
  ·obtain⟨sl,q⟩:=slot c o (I.cne x c e) hc nch ho (I.freeC x c e)
   exact⟨_,q,hd⟩
  ·exact⟨o,keep c o (I.cne x c e) hc nch ho (I.freeC x c e),hd⟩
 refine⟨I.ok,I.os,hg,⟨fun b o e n hb hx=>?_,fun b o e n hb hx=>?_,fun b o e n hx=>?_,fun b o e hx=>?_,fun b xs e=>tups b xs (I.base.tups b xs e),fun b o xs e=>frzs b o xs (I.base.frzs b o xs e),fun b ps e=>?_⟩,?_,fun x c e=>?_,?_,fun x c e=>?_,fun p hp=>?_,hok,I.len⟩
 ·exact keep b o (neL b o e) hb (Mx b o e hx) (I.base.keep b o e n hb hx) (I.base.free b o e n hx)
 ·obtain⟨sl,e1⟩:=I.base.slot b o e n hb hx
  obtain⟨Rz,e2⟩:=slot b _ (neL b o e) hb (Mx b o e hx) e1 (I.base.free b o e n hx)
  exact⟨Rz,e2⟩
 ·obtain⟨o',e1⟩:=I.base.there b o e hx
  exact free b o' (Mx b o e hx) e1 (I.base.free b o e n hx)
 ·obtain⟨o',e1⟩:=I.base.there b o e hx
  exact there b o' (Mx b o e hx) e1
 ·obtain⟨m1,e1⟩:=I.base.tbls b ps e
  obtain⟨m2,e2⟩:=tbls b _ e1
  exact⟨m1++m2,by rw[e2,Array.append_assoc]⟩
 ·obtain⟨m,hn,hl⟩:=I.loc
  refine⟨m,ns m hn,fun i x v e1 e2 e3=>?_⟩
  obtain⟨u,r,l⟩:=hl i x v e1 e2 e3
  refine⟨u,r,?_⟩
  rcases l with l | ⟨k,c,e,z⟩
  ·exact .inl l
  ·exact .inr ⟨k,c,e,cellK x c e _ z⟩
 ·obtain⟨v,z⟩:=I.cell x c e
  exact⟨v,cellK x c e v z⟩
 ·obtain⟨m,⟨o,_,_,ho,_⟩,_⟩:=I.loc
  exact free _ o (fun z=>(hch _ z).2.1 rfl) ho I.free
 ·obtain⟨v,o,ho,hd⟩:=I.cell x c e
  exact free c o (fun z=>(hch c z).2.2.1 x c e rfl) ho (I.freeC x c e)
 ·obtain⟨e,n,ne,nf,d⟩:=I.pin p hp
  have nch:p.1∉ch:=fun z=>(hch p.1 z).2.2.2 p hp rfl
  exact⟨keep p.1 p.2 ne nf nch e n,free p.1 p.2 nch e n,ne,nf,d⟩
theorem Inv.un{t':Nat}(I:Inv X pins σ H s)(u:Un X.fs [] H H' s.heap h')(hok:HOk X.prog X.w H' h'):Inv X pins σ H' { s with heap:=h',toks:=t' }:=by
 obtain⟨m,⟨o,es,ep,ho,r⟩,_⟩:=id I.loc
 obtain⟨sl,hL⟩:=u.any ho I.free (by simp)
 exact I.step (g':=s.gens) (d':=s.drawn) (ch:=[]) (fun _ z=>nomatch z) (fun b o _ hb _ e n=>u.keep b o e n hb (by simp)) (fun b o _ hb _ e n=>u.slot b o e n hb (by simp)) (fun b o _ e n=>u.free b o e n (by simp)) (fun b o _ e=>u.there b o e (by simp)) u.tups u.frzs u.tbls (fun m' hm=>by
  obtain⟨o',es',zk,IT,r'⟩:=hm
  rw[ho] at IT;cases IT
  exact⟨_,es',zk,hL,r'⟩) hok I.bare
theorem Inv.call{g':Array GenState}{t':Nat}{d':Drawn}{ch:List Addr}(I:Inv X pins σ H s)(u:Un (frs X.stack) ch H H' s.heap h')(hok:HOk X.prog X.w H' h')(hg:AllBare g')
  (hch:∀ b∈ch,(b∈X.ex\/X.s₀.heap.objs.size<=b)/\b≠X.env.locals/\(∀ x c,X.env.cells.lookup x=some c->c≠b)/\∀ p∈X.pn++pins,p.1≠b) :
  Inv X pins σ H' { s with heap:=h',gens:=g',drawn:=d',toks:=t' }:=by
 obtain⟨m,⟨o,es,ep,ho,r⟩,_⟩:=id I.loc
 obtain⟨sl,hL⟩:=u.any ho I.free fun z=>(hch _ z).2.1 rfl
 exact I.step (ch:=ch) hch (fun b o hL hb hc e n=>u.keep b o e n (fun z=>(mem_cons.mp (I.mU b z)).elim hL hb) hc) (fun b o _ _ hc e n=>u.any e n hc) (fun b o hc e n=>u.free b o e n hc) (fun b o hc e=>u.there b o e hc) u.tups u.frzs u.tbls (fun m' hm=>by
  obtain⟨o',es',zk,IT,r'⟩:=hm
  rw[ho] at IT;cases IT
  exact⟨_,es',zk,hL,r'⟩) hok hg
theorem Inv.turned{t':Nat}{it:Addr}(I:Inv X pins σ H s)(k:∀ b o,b≠it->s.heap.get? b=some o->h'.get? b=some o)(hn:H it=none)(hL:it≠X.env.locals)
  (h1:it∈X.ex\/X.s₀.heap.objs.size<=it) (h2:∀ x c,X.env.cells.lookup x=some c->c≠it) (h3:∀ p∈X.pn++pins,p.1≠it):Inv X pins σ H { s with heap:=h',toks:=t' }:=by
 have nit:∀ b u,H b=some u->b≠it:=fun b u e z=>by rw[z,hn] at e;cases e
 refine I.step (g':=s.gens) (d':=s.drawn) (ch:=[it]) (fun b hb=>?_) (fun b o _ _ hc e _=>k b o (fun z=>hc (by simp[z])) e) (fun b o _ _ hc e _=>⟨o.slots,k b o (fun z=>hc (by simp[z])) e⟩) (fun _ _ _ _ n=>n)
  (fun b o hc e=>⟨o,k b o (fun z=>hc (by simp[z])) e⟩) (fun _ _ e=>e) (fun _ _ _ e=>e) (fun b ps e=>⟨#[],by rw[e];simp⟩) (fun m hm=>?_) (fun b u e=>?_) I.bare
 ·have e:b=it:=by simpa using hb
  subst e
  exact⟨h1,hL,h2,h3⟩
 ·obtain⟨o,es,ep,ho,r⟩:=hm
  exact⟨o,es,ep,k _ o (Ne.symm hL) ho,r⟩
 ·refine (I.hok b u e).ve (fun c v hc q=>k c v ?_ q) (fun _ q=>q) fun _ _ q=>q
  rcases hc with z | z
  ·rw[z];exact nit b u e
  ·exact nit c _ z
theorem Inv.tok(I:Inv X pins σ H s)(t:Nat):Inv X pins σ H { s with toks:=t }:=I.un (h':=s.heap) (t':=t) Un.refl I.hok
theorem Inv.kept{t':Nat}(I:Inv X pins σ H s)(k:∀ b u,s.heap.get? b=some u->h'.get? b=some u):Inv X pins σ H { s with heap:=h',toks:=t' }:=I.un (Un.kept k) (I.hok.kept k)
theorem Inv.laid{a:Addr}{o:HO}{t':Nat}(I:Inv X pins σ H s)(k:∀ b u,s.heap.get? b=some u->h'.get? b=some u)(hp:s.heap.objs.size<=a)(new:cM X.prog X.w (upd H a o) h' a o) :
  Inv X pins σ (upd H a o) { s with heap:=h',toks:=t' }:=I.un (Un.laid k hp (I.hok.fresh hp)) (I.hok.laid k hp new)
theorem Inv.write{x e:Addr}{o:HO}{t':Nat}(I:Inv X pins σ H s)(mu:Mut (H x))(he:e=x\/H e=some (.own x))(k:∀ b u,b≠e->s.heap.get? b=some u->h'.get? b=some u)(heo:∃ u,h'.get? e=some u)
  (new:cM X.prog X.w (upd H x o) h' x o):Inv X pins σ (upd H x o) { s with heap:=h',toks:=t' }:=I.un (Un.write mu he k heo) (I.hok.write mu he k heo new)
theorem Inv.weak{σ':List (Option V)}(I:Inv X pins σ H s)(hl:σ'.length=σ.length)(w:∀(i:Nat) v,σ'[i]?=some (some v)->σ[i]?=some (some v)):Inv X pins σ' H s :=
 ⟨I.ok,I.os,I.bare,I.base,let ⟨m,hn,iT⟩:=I.loc;⟨m,hn,fun i x v e1 e2 e3=>iT i x v e1 (w i v e2) e3⟩,I.cell,I.free,I.freeC,I.pin,I.hok,hl.trans I.len⟩
theorem Inv.yr{GB:List (Addr×Obj)}(I:Inv X pins σ H s)(h:∀ p∈GB,s.heap.get? p.1=some p.2/\H p.1=none/\p.1≠X.env.locals/\p.1∉X.fs/\∀ v,p.2.data≠.cell v):Inv X GB σ H s :=
 ⟨I.ok,I.os,I.bare,I.base,I.loc,I.cell,I.free,I.freeC,fun p hp=>(mem_append.mp hp).elim (fun z=>I.pin p (mem_append_left _ z)) (h p),I.hok,I.len⟩
theorem u_{N:List Str}(hN:N.Nodup){i j:Nat}{x:Str}(a:N[i]?=some x)(b:N[j]?=some x):i=j:=by
 obtain⟨h1,e1⟩:=List.getElem?_eq_some_iff.mp a
 obtain⟨h2,e2⟩:=List.getElem?_eq_some_iff.mp b
 exact (List.getElem_inj hN).mp (e1.trans e2.symm)
theorem mZ{M:Model}{A:Around}{E:Value->Shared->Prop}{i:Nat}{x:Str}{v:V}{u:Value}{Q:Unit->Shared->Prop}(I:Inv X pins σ H s)(hN:X.N.Nodup)(hi:X.N[i]?=some x)(hx:Loc X.env.scope x)(r:RelV v u)
  (h:∀ s',Inv X pins (σ.set i (some v)) H s'->(∃ a,SameBut a s.heap s'.heap/\(a=X.env.locals\/X.env.cells.lookup x=some a))->Q () s') (hf:X.fn x=true\/X.env.scope.names.lookup x=some .local:=by first | exact .inl rfl | exact .inr rfl | assumption):wpAny M A (storeName X.env x u) Q E s:=by
 obtain⟨m,hn,hl⟩:=id I.loc
 have hcls:(X.env.scope.kind == .class || (X.env.scope.kind == .module && X.env.locals != X.env.globals))=false:=by rw[I.ok.kind];rfl
 have hiσ:i < σ.length:=by rw[I.len];exact (List.getElem?_eq_some_iff.mp hi).1
 have cne:=I.cne
 have tracked:∀{a:Addr}{h':Heap},(∃ o,s.heap.get? a=some o/\H a=none)->SameBut a s.heap h'->HOk X.prog X.w H h':=fun {a h'} ha hs b ob e=>by
  obtain⟨_,_,hfree⟩:=ha
  refine (I.hok b ob e).ve (fun c w' hc q=>(hs.2 c ?_).trans q) (fun _ q=>q) fun _ _ q=>q
  rintro rfl
  rcases hc with rfl | hc
  ·rw[hfree] at e;cases e
  ·rw[hfree] at hc;cases hc
 rcases hx with hk | hk
 ·refine wpAny_storeName_local hk hn (fun h' Qs hs=>?_) hcls
  obtain⟨oL,_,_,MB,_⟩:=id hn
  refine h _ ⟨I.ok,I.os,I.bare,⟨fun b o e n hb hx=>?_,fun b o e n hb hx=>?_,I.base.free,fun b o e hx=>?_,I.base.tups,I.base.frzs,I.base.tbls⟩,⟨_,Qs,fun j y v' e1 e2 e3=>?_⟩,fun y c e=>?_,I.free,I.freeC,fun p hp=>?_,tracked ⟨oL,MB,I.free⟩ hs,by simpa using I.len⟩ ⟨_,hs,.inl rfl⟩
  ·exact (hs.2 b (ne_of_lt (lt_of_lt_of_le (lt_size e) I.ok.above))).trans (I.base.keep b o e n hb hx)
  ·obtain⟨sl,e1⟩:=I.base.slot b o e n hb hx
   exact⟨sl,(hs.2 b (ne_of_lt (lt_of_lt_of_le (lt_size e) I.ok.above))).trans e1⟩
  ·obtain⟨o',e1⟩:=I.base.there b o e hx
   exact⟨o',(hs.2 b (ne_of_lt (lt_of_lt_of_le (lt_size e) I.ok.above))).trans e1⟩
  ·by_cases hj:j=i
   ·subst hj
    rw[hi] at e1;cases e1
    rw[List.getElem?_set_self hiσ] at e2
    cases e2
    exact⟨u,r,.inl ⟨hk,by simp⟩⟩
   ·rw[getElem?_set_ne (Ne.symm hj)] at e2
    obtain⟨u',r',q⟩:=hl j y v' e1 e2 e3
    refine⟨u',r',?_⟩
    rcases q with ⟨k,e⟩ | ⟨k,c,e,z⟩
    ·refine .inl ⟨k,?_⟩
     have:y≠x:=fun e=>hj (u_ hN e1 (e▸hi))
     simp[this,e]
    ·exact .inr ⟨k,c,e,z.sameBut hs (cne y c e)⟩
  ·obtain⟨w',z⟩:=I.cell y c e
   exact⟨w',z.sameBut hs (cne y c e)⟩
  ·obtain⟨e,n,ne,nf,d⟩:=I.pin p hp
   exact⟨(hs.2 p.1 ne).trans e,n,ne,nf,d⟩
 ·have hfn:X.fn x=true:=by
   rcases hf with z | z
   ·exact z
   ·rw[z] at hk;cases hk
  obtain⟨c,hc⟩:=I.ok.has x (.inl hk)
  obtain⟨w',z⟩:=I.cell x c hc
  refine wpAny_storeName_cell I.ok.kind hk hc z (fun h' Ar hs=>?_)
  obtain⟨oc,hoc,hocd⟩:=id z
  refine h { s with heap:=h' } ⟨I.ok,I.os,I.bare,⟨fun b o e n hb hx=>?_,fun b o e n hb hx=>?_,I.base.free,fun b o e hx=>?_,I.base.tups,I.base.frzs,I.base.tbls⟩,⟨m,hn.sameBut hs (Ne.symm (cne x c hc)),fun j y v' e1 e2 e3=>?_⟩,fun y c' e=>?_,I.free,I.freeC,fun p hp=>?_,tracked ⟨oc,hoc,I.freeC x c hc⟩ hs,by simpa using I.len⟩ ⟨c,hs,.inr hc⟩
  ·exact (hs.2 b (ne_of_lt (lt_of_lt_of_le (lt_size e) (I.ok.cab x c hfn hc)))).trans (I.base.keep b o e n hb hx)
  ·obtain⟨sl,e1⟩:=I.base.slot b o e n hb hx
   exact⟨sl,(hs.2 b (ne_of_lt (lt_of_lt_of_le (lt_size e) (I.ok.cab x c hfn hc)))).trans e1⟩
  ·obtain⟨o',e1⟩:=I.base.there b o e hx
   exact⟨o',(hs.2 b (ne_of_lt (lt_of_lt_of_le (lt_size e) (I.ok.cab x c hfn hc)))).trans e1⟩
  ·by_cases hj:j=i
   ·subst hj
    rw[hi] at e1;cases e1
    rw[List.getElem?_set_self hiσ] at e2
    cases e2
    exact⟨u,r,.inr ⟨.inl hk,c,hc,Ar⟩⟩
   ·rw[getElem?_set_ne (Ne.symm hj)] at e2
    obtain⟨u',r',q⟩:=hl j y v' e1 e2 e3
    refine⟨u',r',?_⟩
    rcases q with q | ⟨k,c',e,z'⟩
    ·exact .inl q
    ·refine .inr ⟨k,c',e,z'.sameBut hs ?_⟩
     rintro rfl
     exact hj (u_ hN e1 (I.ok.inj _ _ _ e hc▸hi))
  ·by_cases hcc:c'=c
   ·subst hcc;exact⟨_,Ar⟩
   ·obtain⟨w2,z2⟩:=I.cell y c' e
    exact⟨w2,z2.sameBut hs hcc⟩
  ·obtain⟨e,n,ne,nf,d⟩:=I.pin p hp
   refine⟨(hs.2 p.1 ?_).trans e,n,ne,nf,d⟩
   intro q
   rw[q,hoc] at e
   have q':oc=p.2:=Option.some.inj e
   exact d w' (by rw[<- q'];exact hocd)
theorem jG{M:Model}{A:Around}{E:Value->Shared->Prop}{i:Nat}{x:Str}{v:V}{u:Value}{Q:Unit->Shared->Prop}(I:Inv X pins σ H s)(hN:X.N.Nodup)(hi:X.N[i]?=some x)(hx:Loc X.env.scope x)(r:RelV v u)
  (h:∀ s',Inv X pins (σ.set i (some v)) H s'->Q () s') (hf:X.fn x=true\/X.env.scope.names.lookup x=some .local:=by first | exact .inl rfl | exact .inr rfl | assumption):wpAny M A (storeName X.env x u) Q E s :=
 mZ I hN hi hx r (fun s' I' _=>h s' I') hf
theorem Inv.yI{s':Shared}{ch:List Addr}(I:Inv X pins σ H s)(ho:s'.os=s.os)(u:Un (frs X.stack) ch H H' s.heap s'.heap)(hok:HOk X.prog X.w H' s'.heap)(hg:AllBare s'.gens)
  (hch:∀ b∈ch,(b∈X.ex\/X.s₀.heap.objs.size<=b)/\b≠X.env.locals/\(∀ x c,X.env.cells.lookup x=some c->c≠b)/\∀ p∈X.pn++pins,p.1≠b):Inv X pins σ H' s':=by
 obtain⟨h',g',d',t',o'⟩:=s'
 have e:o'=s.os:=ho
 subst e
 exact I.call (g':=g') (t':=t') (d':=d') u hok hg hch
end
abbrev XK:=Value->Option Addr->Hp->Prop
abbrev St:=List (Option V)
abbrev VK:=V->Hp->Prop
abbrev TE:=St->Hp->VK->Prop
abbrev TT:=St->Hp->(Bool->Hp->Prop)->Prop
abbrev TA:=St->Hp->(List V->Hp->Prop)->Prop
structure Ends where
 nx:St->Hp->Prop
 rt:VK
 bk:St->Hp->Prop:=fun _ _=>False
 ct:St->Hp->Prop:=fun _ _=>False
abbrev TS:=Ends->St->Hp->Prop
def EP(X:Cx)(pins:List (Addr×Obj))(σ:St)(Q:VK)(u:Value)(s':Shared):Prop:=∃ v H',Inv X pins σ H' s'/\RelV v u/\Q v H'
def TP(X:Cx)(pins:List (Addr×Obj))(σ:St)(Q:Bool->Hp->Prop)(b:Bool)(s':Shared):Prop:=∃ H',Inv X pins σ H' s'/\Q b H'
def AP(X:Cx)(pins:List (Addr×Obj))(σ:St)(Q:List V->Hp->Prop)(us:List Value)(s':Shared):Prop:=∃ vs H',Inv X pins σ H' s'/\bc vs us/\Q vs H'
def SP(X:Cx)(pins:List (Addr×Obj))(D:Ends)(f:Flow)(s':Shared):Prop :=
 match f with
 | .next=>∃ σ' H',Inv X pins σ' H' s'/\D.nx σ' H'
 | .brk=>∃ σ' H',Inv X pins σ' H' s'/\D.bk σ' H'
 | .cont=>∃ σ' H',Inv X pins σ' H' s'/\D.ct σ' H'
 | .ret u=>∃ v σ' H',Inv X pins σ' H' s'/\RelV v u/\D.rt v H'
def PE(X:Cx)(e:Expr)(t:TE):Prop :=
 ∀ (pins:List (Addr×Obj)) (s:Shared) (σ:St) (H:Hp) (Q:VK),Inv X pins σ H s->t σ H Q->wpAny (model X.prog X.w) X.A (eval e X.env) (EP X pins σ Q) X.xe s
def PT(X:Cx)(e:Expr)(t:TT):Prop :=
 ∀ (pins:List (Addr×Obj)) (s:Shared) (σ:St) (H:Hp) (Q:Bool->Hp->Prop),Inv X pins σ H s->t σ H Q->wpAny (model X.prog X.w) X.A (isTrue e X.env (eval e X.env)) (TP X pins σ Q) X.xe s
def PW(X:Cx)(e:Expr)(t:TT):Prop :=
 ∀(whole:Sem Value) (pins:List (Addr×Obj)) (s:Shared) (σ:St) (H:Hp) (Q:Bool->Hp->Prop),Inv X pins σ H s->t σ H Q->wpAny (model X.prog X.w) X.A (isTrue e X.env whole) (TP X pins σ Q) X.xe s
theorem PW.pt{X:Cx}{e:Expr}{t:TT}(h:PW X e t):PT X e t:=h _
def PA(X:Cx)(es:List Expr)(t:TA):Prop :=
 ∀(pos:Pos) (pins:List (Addr×Obj)) (s:Shared) (σ:St) (H:Hp) (Q:List V->Hp->Prop),Inv X pins σ H s->t σ H Q->wpAny (model X.prog X.w) X.A (spliced (backTo pos (starEach es X.env))) (AP X pins σ Q) X.xe s
def PS(X:Cx)(st:Stmt)(t:TS):Prop :=
 ∀ (pins:List (Addr×Obj)) (s:Shared) (σ:St) (H:Hp) (D:Ends),Inv X pins σ H s->t D σ H->wpAny (model X.prog X.w) X.A (exec st X.env) (SP X pins D) X.xe s
def PSs(X:Cx)(st:List Stmt)(t:TS):Prop :=
 ∀ (pins:List (Addr×Obj)) (s:Shared) (σ:St) (H:Hp) (D:Ends),Inv X pins σ H s->t D σ H->wpAny (model X.prog X.w) X.A (execs st X.env) (SP X pins D) X.xe s
theorem thn{α:Type}{t:Sem α}{Q Q':α->Shared->Prop}{M:Model}{A:Around}{E:Value->Shared->Prop}{s:Shared}(h:wpAny M A t Q E s)(hQ:∀ a s,Q a s->Q' a s):wpAny M A t Q' E s:=wpAny_mono h hQ fun _ _ x=>x
end L2
namespace L2
open PySem PySem.Spec PyProof.Rows
section
variable {X:Cx}
def Cq(i:Nat):TE:=fun σ H Q=>∃ v,σ[i]?=some (some v)/\Q v H
def tC(v:V):TE:=fun _ H Q=>Q v H
theorem Cn{i:Nat}{x:Str}{pos:Pos}(hN:X.N[i]?=some x)(hv:Vis X.env.scope x)(hd:(x == ("__debug__" : Str))=false:=by decide)(hcd:(x == ("__classdict__" : Str))=false:=by decide):PE X (.Name x pos) (Cq i):=by
 intro pins s σ H Q I h
 obtain⟨v,e,h⟩:=h
 obtain⟨m,hn,hl⟩:=I.loc
 obtain⟨u,r,l⟩:=hl i x v hN e hv
 have fin:EP X pins σ Q u s:=⟨v,H,I,r,h⟩
 rcases l with ⟨hk,hm⟩ | ⟨hk,c,hc,hcell⟩
 ·exact wpAny_Name (wpAny_loadName_local I.ok.kind hk hn hm fin) hd
 ·rcases hk with hk | hk
  ·exact wpAny_Name (wpAny_loadName_cell I.ok.kind hk hc hcell fin) hd
  ·exact wpAny_Name (wpAny_loadName_free I.ok.kind hk hc hcell fin hcd) hd
theorem Ha{i j pos}:PE X (.Constant (.int i) j pos) (tC (.int i)):=fun _ _ _ H _ I h=>wpAny_Constant_int ⟨.int i,H,I.tok _,⟨_,rfl⟩,h⟩
theorem K7{b j pos}:PE X (.Constant (.bool b) j pos) (tC (.bl b)):=fun _ _ _ H _ I h=>Constant_bool ⟨.bl b,H,I,rfl,h⟩
theorem Ia{j pos}:PE X (.Constant .none j pos) (tC .non):=fun _ _ _ H _ I h=>Constant_none ⟨.non,H,I,rfl,h⟩
theorem HB{x j pos}:PE X (.Constant (.str x) j pos) (tC (.str x)):=fun _ _ _ H _ I h=>Calls.Constant_str ⟨.str x,H,I.tok _,⟨_,rfl⟩,h⟩
def Gl(X:Cx)(x:Str):Prop:=X.env.kindOf x=some .globalImplicit
theorem yp{E:Value->Shared->Prop}{pins:List (Addr×Obj)}{s:Shared}{σ:St}{H:Hp}{x:Str}{u:Value}{pos:Pos}{Q:Value->Shared->Prop}(I:Inv X pins σ H s)(hg:Gl X x)(hm:X.mg x=some u)(h:Q u s)
  (hd:(x == ("__debug__" : Str))=false:=by decide):wpAny (model X.prog X.w) X.A (eval (.Name x pos) X.env) Q E s :=
 Calls.Name_function_global I.ok.kind hg (Calls.loadGlobal_global (by rw[I.ok.glob];exact I.mod.glob.keeps I.bk) hm h) hd
theorem kv{E:Value->Shared->Prop}{pins:List (Addr×Obj)}{s:Shared}{σ:St}{H:Hp}{x:Str}{u:Value}{pos:Pos}{Q:Value->Shared->Prop}(I:Inv X pins σ H s)(hg:Gl X x)(hm:X.mg x=none)(hv:bootBuiltins x=some u)(h:Q u s)
  (hn:x ≠ "__name__" := by decide) (hd:(x == ("__debug__" : Str))=false:=by decide):wpAny (model X.prog X.w) X.A (eval (.Name x pos) X.env) Q E s:=by
 obtain⟨mb,h1,h2⟩:=I.mod.blt
 exact Calls.Name_function_global I.ok.kind hg (Calls.loadGlobal_builtin (by rw[I.ok.glob];exact I.mod.glob.keeps I.bk) hm (by rw[I.ok.blt];exact h1.keeps I.bk) ((h2 x hn).trans hv) h) hd
theorem Ed{x:Str}{v:V}{u:Value}{pos:Pos}(hg:Gl X x)(hm:X.mg x=none)(hv:bootBuiltins x=some u)(r:RelV v u)(hn:x ≠ "__name__" := by decide)(hd:(x == ("__debug__" : Str))=false:=by decide):PE X (.Name x pos) (tC v) :=
 fun _ _ _ H _ I h=>kv I hg hm hv ⟨v,H,I,r,h⟩ hn hd
variable {a b:Expr}{ta tb:TE}{pos:Pos}
def PC(X:Cx)(op:CmpOp)(a b:Expr)(t:TE):Prop :=
 ∀ (pins:List (Addr×Obj)) (s:Shared) (σ:St) (H:Hp) (Q:VK),Inv X pins σ H s->t σ H Q ->
  wpAny (model X.prog X.w) X.A (eval a X.env) (fun v s₁=>wpAny (model X.prog X.w) X.A (eval b X.env) (fun u s₂=>wpAny (model X.prog X.w) X.A (compareOp op v u) (EP X pins σ Q) X.xe s₂) X.xe s₁) X.xe s
theorem A7(b:Expr){op:CmpOp}(h:op≠.In)(h2:op≠.NotIn):behindInMarks op b=false:=by
 have e1:(op == CmpOp.In)=false:=by cases op<;>first | rfl | exact absurd rfl h
 have e2:(op == CmpOp.NotIn)=false:=by cases op<;>first | rfl | exact absurd rfl h2
 cases b<;>simp[behindInMarks,e1,e2]
def Hl(ta:TE):TE:=fun σ H Q=>ta σ H fun x H1=>Q (.bl (decide (x=.non))) H1
def KC(ta:TE):TE:=fun σ H Q=>ta σ H fun x H1=>Q (.bl (!decide (x=.non))) H1
theorem RelV.Cr{x:V}{v:Value}(r:RelV x v):(v == Value.none)=decide (x=.non):=by
 cases x with
 | non=>cases r;rfl
 | bl _=>cases r;rfl
 | int _=>obtain⟨t,rfl⟩:=r;rfl
 | str _=>obtain⟨t,rfl⟩:=r;rfl
 | byt _=>obtain⟨t,rfl⟩:=r;rfl
 | flt _=>obtain⟨t,rfl⟩:=r;rfl
 | ref _=>cases r;rfl
 | ty _=>cases r;rfl
theorem HZ{j pos'}(ha:PE X a ta):PC X .Is a (.Constant .none j pos') (Hl ta):=by
 intro pins s σ H Q I h
 refine thn (ha pins s σ H _ I h) fun v s1 ⟨x,H1,I1,r1,q1⟩=>?_
 exact Constant_none (is_none_gen ⟨.bl _,H1,I1,by rw[r1.Cr];rfl,q1⟩)
def tB(t:TE):TT:=fun σ H Q=>t σ H fun x H1=>∃ c,x=.bl c/\Q c H1
theorem Jw{op:CmpOp}{t:TE}(h:PC X op a b t)(h1:behindInMarks op b=false:=by first | exact A7 _ (by decide) (by decide) | rfl):PT X (.Compare a [op] [b] pos) (tB t):=by
 intro pins s σ H Q I hw
 refine wpAny_isTrue_Compare1 (thn (h pins s σ H _ I hw) fun v s1 h1=>thn h1 fun u s2 h2=>thn h2 fun c s3 ⟨x,H1,I1,r1,q1⟩=>?_) h1
 obtain⟨d,rfl,q⟩:=q1
 cases r1
 exact wpAny_truthy_bool ⟨H1,I1,q⟩
theorem Hn{e:Expr}{t:TE}(h:PE X e t)(he:∀ whole,isTrue e X.env whole=(do let v <- whole;standAt e.pos;holding [v] (truthy v)):=by intro _;rfl):PT X e (tB t):=by
 intro pins s σ H Q I hw
 refine isTrue_plain (thn (h pins s σ H _ I hw) fun v s1 ⟨x,H1,I1,r1,q1⟩=>?_) (he _)
 obtain⟨d,rfl,q⟩:=q1
 cases r1
 exact wpAny_truthy_bool ⟨H1,I1,q⟩
variable {tA DA:TT}{rest:List Expr}
def FJ(t u:TT):TT:=fun σ H Q=>t σ H fun c H1=>if c=true then u σ H1 Q else Q false H1
def tOr(t u:TT):TT:=fun σ H Q=>t σ H fun c H1=>if c=true then Q true H1 else u σ H1 Q
def DQ(t:TT):TT:=fun σ H Q=>t σ H fun c H1=>Q (!c) H1
theorem Dv(ha:PT X a tA):PW X (.BoolOp .And [a] pos) tA:=by
 intro wh pins s σ H Q I h
 refine isTrue_and (thn (ha pins s σ H Q I h) fun c s1 e=>?_)
 cases c with
 | true=>exact isTrue_and_nil e
 | false=>exact e
theorem IJ(ha:PT X a tA):PW X (.BoolOp .Or [a] pos) tA:=by
 intro wh pins s σ H Q I h
 refine isTrue_or (thn (ha pins s σ H Q I h) fun c s1 e=>?_)
 cases c with
 | false=>exact isTrue_or_nil e
 | true=>exact e
theorem Jm(ha:PT X a tA)(hb:PW X (.BoolOp .And (b::rest) pos) DA):PW X (.BoolOp .And (a::b::rest) pos) (FJ tA DA):=by
 intro wh pins s σ H Q I h
 refine isTrue_and (thn (ha pins s σ H _ I h) fun c s1 ⟨H1,I1,q1⟩=>?_)
 cases c with
 | true=>exact hb wh pins s1 σ H1 Q I1 q1
 | false=>exact⟨H1,I1,q1⟩
theorem La(ha:PT X a tA)(hb:PW X (.BoolOp .Or (b::rest) pos) DA):PW X (.BoolOp .Or (a::b::rest) pos) (tOr tA DA):=by
 intro wh pins s σ H Q I h
 refine isTrue_or (thn (ha pins s σ H _ I h) fun c s1 ⟨H1,I1,q1⟩=>?_)
 cases c with
 | true=>exact⟨H1,I1,q1⟩
 | false=>exact hb wh pins s1 σ H1 Q I1 q1
theorem Hw(ha:PT X a tA):PT X (.UnaryOp .Not a pos) (DQ tA):=by
 intro pins s σ H Q I h
 exact isTrue_not (ha pins s σ H (fun c H1=>Q (!c) H1) I h)
def yO(ta tb:TE):TE:=fun σ H Q=>ta σ H fun x H1=>∃ c,x=.bl c/\if c=true then tb σ H1 Q else Q (.bl false) H1
def I0(ta tb:TE):TE:=fun σ H Q=>ta σ H fun x H1=>∃ c,x=.bl c/\if c=true then Q (.bl true) H1 else tb σ H1 Q
def xW(ta:TE):TE:=fun σ H Q=>ta σ H fun x H1=>∃ c,x=.bl c/\Q (.bl (!c)) H1
theorem HC{op}{t:TE}(h:PE X a t):PE X (.BoolOp op [a] pos) t:=fun pins s σ H Q I hw=>BoolOp_one (h pins s σ H Q I hw)
theorem HV(ha:PE X a ta)(hb:PE X (.BoolOp .And (b::rest) pos) tb):PE X (.BoolOp .And (a::b::rest) pos) (yO ta tb):=by
 intro pins s σ H Q I h
 refine BoolOp_and (thn (ha pins s σ H _ I h) fun v s1 ⟨x,H1,I1,r1,q1⟩=>?_)
 obtain⟨c,rfl,q1⟩:=q1
 cases r1
 refine wpAny_truthy_bool ?_
 cases c with
 | true=>exact hb pins s1 σ H1 Q I1 q1
 | false=>exact⟨.bl false,H1,I1,rfl,q1⟩
theorem Kv(ha:PE X a ta)(hb:PE X (.BoolOp .Or (b::rest) pos) tb):PE X (.BoolOp .Or (a::b::rest) pos) (I0 ta tb):=by
 intro pins s σ H Q I h
 refine BoolOp_or (thn (ha pins s σ H _ I h) fun v s1 ⟨x,H1,I1,r1,q1⟩=>?_)
 obtain⟨c,rfl,q1⟩:=q1
 cases r1
 refine wpAny_truthy_bool ?_
 cases c with
 | false=>exact hb pins s1 σ H1 Q I1 q1
 | true=>exact⟨.bl true,H1,I1,rfl,q1⟩
theorem Ja(ha:PE X a ta):PE X (.UnaryOp .Not a pos) (xW ta):=by
 intro pins s σ H Q I h
 refine UnaryOp_ (thn (ha pins s σ H _ I h) fun v s1 ⟨x,H1,I1,r1,q1⟩=>?_)
 obtain⟨c,rfl,q1⟩:=q1
 cases r1
 exact not_of (wpAny_truthy_bool ⟨.bl (!c),H1,I1,rfl,q1⟩)
def tIf(t:TT)(ta tb:TE):TE:=fun σ H Q=>t σ H fun c H1=>if c=true then ta σ H1 Q else tb σ H1 Q
theorem AF{c:Expr}(hc:PT X c tA)(ha:PE X a ta)(hb:PE X b tb):PE X (.IfExp c a b pos) (tIf tA ta tb):=by
 intro pins s σ H Q I h
 refine wpAny_IfExp (thn (hc pins s σ H _ I h) fun d s1 ⟨H1,I1,q1⟩=>?_)
 cases d with
 | true=>exact ha pins s1 σ H1 Q I1 q1
 | false=>exact hb pins s1 σ H1 Q I1 q1
end
end L2
namespace L2
open PySem PySem.Spec PyProof.Rows
def SqL(K:PySem.W.Frag)(H:Hp)(a:Addr)(xs:List V):Prop :=
 Rd H a (.lst xs) \/
  ∃(o:Obj)(aN:Array Value)(n:Nat),K.lookup a=some o/\o.cls=.type "list" /\ o.dict=none/\o.data=.seq aN n/\aN.size<=sizeLine/\bc xs aN.toList
def SqT(K:PySem.W.Frag)(H:Hp)(a:Addr)(xs:List V):Prop :=
 Rd H a (.tup xs) \/
  ∃(o:Obj)(aN:Array Value)(n:Nat),K.lookup a=some o/\o.cls=.type "tuple" /\ o.data=.seq aN n/\aN.size<=sizeLine/\bc xs aN.toList
def NS:Value->Option V
 | .none=>some .non
 | .bool b=>some (.bl b)
 | .int i _=>some (.int i)
 | .str x _=>some (.str x)
 | .bytes b _=>some (.byt b)
 | .float b _=>some (.flt b)
 | .ref a=>some (.ref a)
 | .type n=>some (.ty n)
 | _=>none
theorem RelV.abs{x:V}{u:Value}(r:RelV x u):NS u=some x:=by
 cases x with
 | non=>cases r;rfl
 | bl _=>cases r;rfl
 | int _=>obtain⟨t,rfl⟩:=r;rfl
 | str _=>obtain⟨t,rfl⟩:=r;rfl
 | byt _=>obtain⟨t,rfl⟩:=r;rfl
 | flt _=>obtain⟨t,rfl⟩:=r;rfl
 | ref _=>cases r;rfl
 | ty _=>cases r;rfl
theorem RelV.inj{x y:V}{u:Value}(r:RelV x u)(q:RelV y u):x=y:=Option.some.inj (r.abs.symm.trans q.abs)
theorem bc.inj:∀{xs ys:List V}{us:List Value},bc xs us->bc ys us->xs=ys
 | _,_,_,.nil,.nil=>rfl
 | _,_,_,.cons r t,.cons r' t'=>by rw[r.inj r',bc.inj t t']
section
variable {X:Cx}{pins:List (Addr×Obj)}{σ:St}{H:Hp}{s:Shared}{a:Addr}{xs ys:List V}
theorem SqL.of{K:PySem.W.Frag}(h:H a=some (.lst xs)):SqL K H a xs:=.inl (.inl h)
theorem SqT.of{K:PySem.W.Frag}(h:H a=some (.tup xs)):SqT K H a xs:=.inl (.inl h)
theorem Inv.list(I:Inv X pins σ H s)(h:SqL X.K H a xs):∃ aN:List Value,bc xs aN/\PlainL s.heap a aN.toArray/\xs.length<=sizeLine:=by
 rcases h with h | ⟨o,aN,n,hk,hc,hd,hs,hz,r⟩
 ·obtain⟨z,aN,n,r,e⟩:=h.ok I.hok
  exact⟨aN,r,⟨_,n,e,rfl,rfl,rfl⟩,z⟩
 ·refine⟨aN.toList,r,⟨o,n,I.kIn a o hk,hc,hd,by simpa using hs⟩,?_⟩
  have e:=r.length
  simp only[length_toList] at e
  omega
theorem Inv.tuple(I:Inv X pins σ H s)(h:SqT X.K H a xs):∃ aN:List Value,bc xs aN/\IsTup s.heap a aN.toArray/\xs.length<=sizeLine:=by
 rcases h with h | ⟨o,aN,n,hk,hc,hs,hz,r⟩
 ·obtain⟨z,aN,r,p⟩:=h.ok I.hok
  exact⟨aN,r,p,z⟩
 ·refine⟨aN.toList,r,⟨o,I.kIn a o hk,hc,n,by simpa using hs⟩,?_⟩
  have e:=r.length
  simp only[length_toList] at e
  omega
theorem Inv.vt(I:Inv X pins σ H s)(h:SqL X.K H a xs)(h':SqL X.K H a ys):xs=ys:=by
 obtain⟨aN,r,⟨o,n,e,_,_,d⟩,_⟩:=I.list h
 obtain⟨its',r',⟨o',n',e',_,_,d'⟩,_⟩:=I.list h'
 rw[e] at e';cases e'
 rw[d] at d'
 injection d' with d1 _
 have:aN=its':=by simpa using congrArg Array.toList d1
 subst this
 exact r.inj r'
theorem Inv.ni(I:Inv X pins σ H s)(h:SqT X.K H a xs)(h':SqT X.K H a ys):xs=ys:=by
 obtain⟨aN,r,⟨o,e,_,n,d⟩,_⟩:=I.tuple h
 obtain⟨its',r',⟨o',e',_,n',d'⟩,_⟩:=I.tuple h'
 rw[e] at e';cases e'
 rw[d] at d'
 injection d' with d1 _
 have:aN=its':=by simpa using congrArg Array.toList d1
 subst this
 exact r.inj r'
end
abbrev Cx.q8(X:Cx)(E:Value->Shared->Prop):Cx:={ X with xe:=E }
abbrev Cx.nox(X:Cx):Cx:=X.q8 fun _ _=>False
theorem Cx.Ok.q8{X:Cx}(ok:X.Ok)(E:Value->Shared->Prop):(X.q8 E).Ok :=
 ⟨ok.mod,ok.kind,ok.glob,ok.blt,ok.above,ok.inj,ok.has,ok.cab,ok.hd,ok.frames,ok.stk,ok.exf,ok.bs,ok.bsz,ok.noex,ok.exfs,ok.nO,ok.frf⟩
theorem Cx.Ok.kz{X:Cx}{E:Value->Shared->Prop}(ok:(X.q8 E).Ok):X.Ok :=
 ⟨ok.mod,ok.kind,ok.glob,ok.blt,ok.above,ok.inj,ok.has,ok.cab,ok.hd,ok.frames,ok.stk,ok.exf,ok.bs,ok.bsz,ok.noex,ok.exfs,ok.nO,ok.frf⟩
section
variable {X:Cx}{pins:List (Addr×Obj)}{σ:St}{H:Hp}{s:Shared}{E:Value->Shared->Prop}
theorem Inv.q8(I:Inv X pins σ H s)(E:Value->Shared->Prop):Inv (X.q8 E) pins σ H s:=⟨I.ok.q8 E,I.os,I.bare,I.base,I.loc,I.cell,I.free,I.freeC,I.pin,I.hok,I.len⟩
theorem Inv.kz(I:Inv (X.q8 E) pins σ H s):Inv X pins σ H s:=⟨I.ok.kz,I.os,I.bare,I.base,I.loc,I.cell,I.free,I.freeC,I.pin,I.hok,I.len⟩
theorem SP.kz{D:Ends}{f:Flow}{s':Shared}(h:SP (X.q8 E) pins D f s'):SP X pins D f s':=by
 cases f with
 | next=>obtain⟨σ',H',I,q⟩:=h;exact⟨σ',H',I.kz,q⟩
 | brk=>obtain⟨σ',H',I,q⟩:=h;exact⟨σ',H',I.kz,q⟩
 | cont=>obtain⟨σ',H',I,q⟩:=h;exact⟨σ',H',I.kz,q⟩
 | ret u=>obtain⟨v,σ',H',I,r,q⟩:=h;exact⟨v,σ',H',I.kz,r,q⟩
theorem PSs.nox{st:List Stmt}{t:TS}(h:PSs X.nox st t):PSs X st t:=fun pins s σ H D I hw =>
 wpAny_mono (h pins s σ H D (I.q8 _) hw) (fun _ _ q=>q.kz) fun _ _ z=>False.elim z
end
section
variable {X:Cx}{st:Stmt}{rest:List Stmt}{t u:TS}{e:Expr}{te:TE}{pos:Pos}
def yi:TS:=fun D σ H=>D.nx σ H
def gP(t u:TS):TS:=fun D σ H=>t { D with nx:=u D } σ H
theorem FL:PSs X [] yi:=fun _ _ σ H _ I h=>wpAny_execs_nil ⟨σ,H,I,h⟩
theorem B8(h1:PS X st t)(h2:PSs X rest u):PSs X (st::rest) (gP t u):=by
 intro pins s σ H D I h
 refine wpAny_execs_cons (thn (h1 pins s σ H { D with nx:=u D } I h) fun f s1 q=>?_)
 cases f with
 | next =>
  obtain⟨σ',H',I',q⟩:=q
  exact h2 pins s1 σ' H' D I' q
 | ret v=>exact q
 | brk=>exact q
 | cont=>exact q
theorem FD(h1:PS X st t):PSs X [st] t:=by
 intro pins s σ H D I h
 refine wpAny_execs_cons (thn (h1 pins s σ H D I h) fun f s1 q=>?_)
 cases f with
 | next=>exact wpAny_execs_nil q
 | ret v=>exact q
 | brk=>exact q
 | cont=>exact q
theorem Inv.quiet{pins:List (Addr×Obj)}{σ:St}{H:Hp}{s:Shared}(I:Inv X pins σ H s):interactive X.env=false:=by simp[interactive,I.ok.kind]
def yz(te:TE):TS:=fun D σ H=>te σ H fun _ H1=>D.nx σ H1
theorem Ep(he:PE X e te)(hs:swapsWith e none pos.line X.env=pure false:=by rfl):PS X (.Expr e pos) (yz te):=by
 intro pins s σ H D I h
 exact wpAny_Expr_any (thn (he pins s σ H _ I h) fun v s1 ⟨x,H1,I1,r1,q1⟩=>⟨σ,H1,I1,q1⟩) I.quiet hs
def EZ(te:TE):TS:=fun D σ H=>te σ H D.rt
theorem IE(he:PE X e te):PS X (.Return (some e) pos) (EZ te):=by
 intro pins s σ H D I h
 exact wpAny_Return_some (thn (he pins s σ H _ I h) fun v s1 ⟨x,H1,I1,r1,q1⟩=>⟨x,σ,H1,I1,r1,q1⟩)
def Ma:TS:=fun D _ H=>D.rt .non H
def y_(c:TT)(t u:TS):TS:=fun D σ H=>c σ H fun b H1=>if b=true then t D σ H1 else u D σ H1
theorem LN{c:Expr}{a b:List Stmt}{tc:TT}(hc:PT X c tc)(ha:PSs X a t)(hb:PSs X b u):PS X (.If c a b pos) (y_ tc t u):=by
 intro pins s σ H D I h
 refine wpAny_If (thn (hc pins s σ H _ I h) fun d s1 ⟨H1,I1,q1⟩=>?_)
 cases d with
 | true=>exact ha pins s1 σ H1 D I1 q1
 | false=>exact hb pins s1 σ H1 D I1 q1
end
abbrev TG:=V->St->Hp->(St->Hp->Prop)->Prop
abbrev TGs:=List V->St->Hp->(St->Hp->Prop)->Prop
def PG(X:Cx)(target:Expr)(t:TG):Prop :=
 ∀ (pins:List (Addr×Obj)) (s:Shared) (σ:St) (H:Hp) (v:V) (u:Value) (Q:St->Hp->Prop),Inv X pins σ H s->RelV v u->t v σ H Q ->
  wpAny (model X.prog X.w) X.A (assign target X.env u) (fun _ s'=>∃ σ' H',Inv X pins σ' H' s'/\Q σ' H') X.xe s
def PGs(X:Cx)(ts:List Expr)(t:TGs):Prop :=
 ∀ (pins:List (Addr×Obj)) (s:Shared) (σ:St) (H:Hp) (vs:List V) (us:List Value) (Q:St->Hp->Prop),Inv X pins σ H s->bc vs us->t vs σ H Q ->
  wpAny (model X.prog X.w) X.A (assignInOrder ((assignEach ts X.env).map (·.2)) us) (fun _ s'=>∃ σ' H',Inv X pins σ' H' s'/\Q σ' H') X.xe s
abbrev qB:=V->V->V->Hp->(Hp->Prop)->Prop
def Aq(X:Cx)(t:qB):Prop :=
 ∀ (pins:List (Addr×Obj)) (s:Shared) (σ:St) (H:Hp) (o i v:V) (ov iv u:Value) (Q:Hp->Prop),Inv X pins σ H s->RelV o ov->RelV i iv->RelV v u->t o i v H Q ->
  wpAny (model X.prog X.w) X.A (setItem ov iv u) (fun _ s'=>∃ H',Inv X pins σ H' s'/\Q H') X.xe s
abbrev TIp:=V->V->Hp->VK->Prop
def PIp(X:Cx)(op:Operator)(t:TIp):Prop :=
 ∀ (pins:List (Addr×Obj)) (s:Shared) (σ:St) (H:Hp) (x y:V) (v u:Value) (Q:VK),Inv X pins σ H s->RelV x v->RelV y u->t x y H Q ->
  wpAny (model X.prog X.w) X.A (inplaceOp op v u) (EP X pins σ Q) X.xe s
section
variable {X:Cx}{pos:Pos}
def eS(i:Nat):TG:=fun v σ H Q=>Q (σ.set i (some v)) H
theorem DN{i:Nat}{x:Str}(hN:X.N.Nodup)(hi:X.N[i]?=some x)(hx:Loc X.env.scope x)(hf:X.fn x=true\/X.env.scope.names.lookup x=some .local:=by first | exact .inl rfl | exact .inr rfl | assumption):PG X (.Name x pos) (eS i):=by
 intro pins s σ H v u Q I r h
 exact wpAny_assign_Name (jG I hN hi hx r (fun s' I'=>⟨_,H,I',h⟩) hf)
def EB:TGs:=fun vs σ H Q=>vs=[]/\Q σ H
def qh(t:TG)(u:TGs):TGs:=fun vs σ H Q=>∃ v r,vs=v::r/\t v σ H fun σ' H'=>u r σ' H' Q
theorem Ft:PGs X [] EB:=by
 intro pins s σ H vs us Q I r h
 obtain⟨e,h⟩:=h
 subst e
 cases r
 exact assignInOrder_nil ⟨σ,H,I,h⟩
theorem Ct{e:Expr}{es:List Expr}{t:TG}{u:TGs}(h1:PG X e t)(h2:PGs X es u)
  (hs:(assignEach (e::es) X.env).map (·.2)=assign e X.env::(assignEach es X.env).map (·.2):=by rfl):PGs X (e::es) (qh t u):=by
 intro pins s σ H vs us Q I r h
 obtain⟨v,vr,e1,h⟩:=h
 subst e1
 cases r with
 | cons r rr =>
  rw[hs]
  refine assignInOrder_cons (thn (h1 pins s σ H _ _ _ I r h) fun _ s1 ⟨σ1,H1,I1,q1⟩=>?_)
  exact h2 pins s1 σ1 H1 _ _ Q I1 rr q1
def CB(K:PySem.W.Frag)(n:Nat)(t:TGs):TG:=fun v σ H Q=>∃ a xs,v=.ref a/\SqT K H a xs/\xs.length=n/\t xs σ H Q
theorem Jd{es:List Expr}{k:Nat}{t:TGs}{n:Nat}(hc:X.calm=true)(h:PGs X es t)
  (hn:(assignEach es X.env).length=n:=by rfl) (hst:(assignEach es X.env).findIdx? (·.1)=none:=by rfl):PG X (.Tuple es k pos) (CB X.K n t):=by
 intro pins s σ H v u Q I r hw
 obtain⟨a,xs,e1,hq,hl,hw⟩:=hw
 subst e1
 cases r
 obtain⟨aN,rv,ht,hz⟩:=I.tuple hq
 refine assign_Tuple_tuple (I.ok.hd hc) ht (by simp[hn,<- hl,rv.length]) hst fun h' hx=>?_
 have I1:Inv X pins σ H { s with heap:=h' }:=I.kept (t':=s.toks) fun b o e=>hx b o (ne_of_lt (lt_size e)) e
 exact h pins _ σ H xs _ Q I1 (by simpa using rv) hw
def Dk(to ti:TE)(t:qB):TG:=fun v σ H Q=>to σ H fun o H1=>ti σ H1 fun i H2=>t o i v H2 fun H3=>Q σ H3
theorem JG{o i:Expr}{to ti:TE}{t:qB}(ho:PE X o to)(hi:PE X i ti)(hs:Aq X t)
  (ha:∀ v,assign (.Subscript o i pos) X.env v=(do
   let ov <- holding [v] (eval o X.env)
   let iv <- holding [v,ov] (eval i X.env)
   standAt pos
   holding [v,ov,iv] (setItem ov iv v)
   release [v,ov,iv] []):=by intro _;rfl):PG X (.Subscript o i pos) (Dk to ti t):=by
 intro pins s σ H v u Q I r h
 rw[ha]
 refine wpAny_bind (wpAny_holding (thn (ho pins s σ H _ I h) fun ov s1 ⟨x,H1,I1,r1,q1⟩=>?_))
 refine wpAny_bind (wpAny_holding (thn (hi pins s1 σ H1 _ I1 q1) fun iv s2 ⟨y,H2,I2,r2,q2⟩=>?_))
 refine wpAny_bind (wpAny_standAt (wpAny_bind (wpAny_holding (thn (hs pins s2 σ H2 x y v ov iv u _ I2 r1 r2 r q2) fun _ s3 ⟨H3,I3,q3⟩=>?_))))
 exact wpAny_release ⟨σ,H3,I3,q3⟩
def oy(te:TE)(g:TG):TS:=fun D σ H=>te σ H fun x H1=>g x σ H1 D.nx
theorem Jk{tg e:Expr}{te:TE}{g:TG}(he:PE X e te)(hg:PG X tg g)(hs:swapsWithSole [tg] e pos.line X.env=pure false:=by rfl)(hw:swappedStores [tg] e X.env=pure none:=by rfl)
  (h1:(assignEach [tg] X.env).map (·.2)=[assign tg X.env]:=by rfl):PS X (.Assign [tg] e pos) (oy te g):=by
 intro pins s σ H D I h
 refine wpAny_Assign_stores (thn (he pins s σ H _ I h) fun v s1 ⟨x,H1,I1,r1,q1⟩=>?_) hs hw
 rw[h1]
 exact thn (hg pins s1 σ H1 x v _ I1 r1 q1) fun _ s2 q=>q
theorem JA{i:Nat}{x:Str}{e:Expr}{te:TE}{pos':Pos}(hN:X.N.Nodup)(hi:X.N[i]?=some x)(hx:Loc X.env.scope x)(he:PE X e te)(hs:swapsWith e (some (.Name x pos')) pos.line X.env=pure false:=by rfl)(hf:X.fn x=true\/X.env.scope.names.lookup x=some .local:=by first | exact .inl rfl | exact .inr rfl | assumption) :
  PS X (.Assign [.Name x pos'] e pos) (oy te (eS i)):=by
 intro pins s σ H D I h
 refine wpAny_Assign_Name (thn (he pins s σ H _ I h) fun v s1 ⟨y,H1,I1,r1,q1⟩=>?_) hs
 exact jG I1 hN hi hx r1 (fun s2 I2=>⟨_,H1,I2,q1⟩) hf
def IM(i j:Nat)(ta:TA):TS:=fun D σ H=>ta σ H fun vs H1=>∃ v w,vs=[v,w]/\D.nx ((σ.set i (some v)).set j (some w)) H1
theorem Jf{i j:Nat}{x y:Str}{a b:Expr}{ta:TA}{px py pt:Pos}{kt k2 GO}(hc:X.calm=true)(hN:X.N.Nodup)(hi:X.N[i]?=some x)(hj:X.N[j]?=some y)(hij:i≠j)
  (hx:X.env.scope.names.lookup x=some .local) (hy:X.env.scope.names.lookup y=some .local) (ha:PA X [a,b] ta)
  (hw:swappedStores [.Tuple [.Name x px,.Name y py] kt pt] (.Tuple [a,b] k2 GO) X.env=pure (some [x,y]))
  (hs:swapsWithSole [.Tuple [.Name x px,.Name y py] kt pt] (.Tuple [a,b] k2 GO) pos.line X.env=pure false:=by rfl) :
  PS X (.Assign [.Tuple [.Name x px,.Name y py] kt pt] (.Tuple [a,b] k2 GO) pos) (IM i j ta):=by
 intro pins s σ H D I h
 rw[exec_Assign_arm]
 refine wpAny_bind (wpAny_standAt ?_)
 rw[hs]
 refine wpAny_bind (wpAny_pure ?_)
 rw[if_neg (by decide)]
 refine wpAny_bind (Tuple_ (thn (ha _ pins s σ H _ I h) fun us s1 ⟨vs,H1,I1,r1,q1⟩=>?_))
 obtain⟨v,w,e1,q1⟩:=q1
 subst e1
 obtain⟨u1,u2,rfl,rv,Lh⟩:∃ u1 u2,us=[u1,u2]/\RelV v u1/\RelV w u2:=by
  cases r1 with
  | cons p q =>
   cases q with
   | cons p' q' =>
    cases q'
    exact⟨_,_,rfl,p,p'⟩
 refine wpAny_newObj_type ?_ (by show 2<=sizeLine;decide)
 have I2:Inv X pins σ H1 { s1 with heap:=s1.heap.push { cls:=.type "tuple", data:=.seq [u1,u2].toArray } }:=I1.kept (t':=s1.toks) fun b o e=>get?_push_of_some _ e
 rw[hw]
 refine wpAny_bind (wpAny_pure ?_)
 show wpAny (model X.prog X.w) X.A (do rule "assign.swapped-stores"; let items <- unpackItems (.ref s1.heap.objs.size) 2 none;assignInOrder [fun v=>bindName X.env y v,fun v=>bindName X.env x v] items.reverse;pure Flow.next) _ _ _
 refine wpAny_bind (wpAny_rule (wpAny_bind (unpackItems_tuple (items:=#[u1,u2]) (I.ok.hd hc) (IsTup.new s1.heap _) fun h' PR=>?_)))
 have I3:=I2.kept (h':=h') (t':=s1.toks) fun b o e=>PR b o (ne_of_lt (lt_size e)) e
 show wpAny _ _ (assignInOrder [fun v=>bindName X.env y v,fun v=>bindName X.env x v] [u2,u1] >>= fun _=>pure Flow.next) _ _ _
 refine wpAny_bind (assignInOrder_cons (wpAny_bindName (jG I3 hN hj (.inl hy) Lh (fun s2 I4=>?_) (.inr hy))))
 refine assignInOrder_cons (wpAny_bindName (jG I4 hN hi (.inl hx) rv (fun s3 I5=>assignInOrder_nil (wpAny_pure ?_)) (.inr hx)))
 rw[List.set_comm _ _ (Ne.symm hij)] at I5
 exact⟨_,H1,I5,q1⟩
def Lx(i:Nat)(te:TE)(ti:TIp):TS:=fun D σ H=>∃ x,σ[i]?=some (some x)/\te σ H fun y H1=>ti x y H1 fun z H2=>D.nx (σ.set i (some z)) H2
theorem Jc{i:Nat}{x:Str}{e:Expr}{te:TE}{op:Operator}{ti:TIp}{pos':Pos}(hN:X.N.Nodup)(hi:X.N[i]?=some x)(hx:Loc X.env.scope x)(he:PE X e te)(ho:PIp X op ti)(hf:X.fn x=true\/X.env.scope.names.lookup x=some .local:=by first | exact .inl rfl | exact .inr rfl | assumption) :
  PS X (.AugAssign (.Name x pos') op e pos) (Lx i te ti):=by
 intro pins s σ H D I h
 obtain⟨v,e1,h⟩:=h
 obtain⟨m,hn,hl⟩:=I.loc
 have vis:Vis X.env.scope x:=by rcases hx with k | k;exact .inl k;exact .inr (.inl k)
 obtain⟨u,r,l⟩:=hl i x v hi e1 vis
 refine wpAny_AugAssign_Name ?_
 have go:wpAny (model X.prog X.w) X.A (eval e X.env) (fun w s₂=>wpAny (model X.prog X.w) X.A (inplaceOp op u w) (fun r s₃=>wpAny (model X.prog X.w) X.A (storeName X.env x r) (fun _=>SP X pins D .next) X.xe s₃) X.xe s₂) X.xe s:=by
  refine thn (he pins s σ H _ I h) fun w s1 ⟨y,H1,I1,r1,q1⟩=>?_
  refine thn (ho pins s1 σ H1 v y u w _ I1 r r1 q1) fun z s2 ⟨zv,H2,I2,r2,q2⟩=>?_
  exact jG I2 hN hi hx r2 (fun s3 I3=>⟨_,H2,I3,q2⟩) hf
 rcases l with ⟨hk,hm⟩ | ⟨hk,c,hc,hcell⟩
 ·exact wpAny_loadName_local I.ok.kind hk hn hm go
 ·rcases hk with hk | hk
  ·exact wpAny_loadName_cell I.ok.kind hk hc hcell go
  ·rcases hx with k | k
   ·have:X.env.scope.names.lookup x=some .free:=hk
    rw[k] at this;cases this
   ·have:X.env.scope.names.lookup x=some .free:=hk
    rw[k] at this;cases this
def yg(to ti te:TE)(uA:V->V->Hp->VK->Prop)(tip:TIp)(tset:qB):TS:=fun D σ H=>to σ H fun o H1=>ti σ H1 fun i H2=>uA o i H2 fun x H3=>te σ H3 fun y H4=>tip x y H4 fun z H5=>tset o i z H5 fun H6=>D.nx σ H6
def Jj(X:Cx)(t:V->V->Hp->VK->Prop):Prop :=
 ∀ (pins:List (Addr×Obj)) (s:Shared) (σ:St) (H:Hp) (o i:V) (ov iv:Value) (Q:VK),Inv X pins σ H s->RelV o ov->RelV i iv->t o i H Q ->
  wpAny (model X.prog X.w) X.A (getItem ov iv) (EP X pins σ Q) X.xe s
theorem De{o i e:Expr}{to ti te:TE}{uA:V->V->Hp->VK->Prop}{tip:TIp}{tset:qB}{op:Operator}{tpos:Pos}(ho:PE X o to)(hi:PE X i ti)(hg:Jj X uA)(he:PE X e te)(hp:PIp X op tip)(hs:Aq X tset)
  (ha:∀ ov iv new,augStore i ov iv new=(do holding [new,ov,iv] (setItem ov iv new);release [new,ov,iv] [];pure .next):=by intros;rfl):PS X (.AugAssign (.Subscript o i tpos) op e pos) (yg to ti te uA tip tset):=by
 intro pins s σ H D I h
 refine wpAny_AugAssign_SubscriptAny (thn (ho pins s σ H _ I h) fun ov s1 ⟨x1,H1,I1,r1,q1⟩=>?_) ha
 refine thn (hi pins s1 σ H1 _ I1 q1) fun iv s2 ⟨x2,H2,I2,r2,q2⟩=>?_
 refine thn (hg pins s2 σ H2 x1 x2 ov iv _ I2 r1 r2 q2) fun old s3 ⟨x3,H3,I3,r3,q3⟩=>?_
 refine thn (he pins s3 σ H3 _ I3 q3) fun v s4 ⟨x4,H4,I4,r4,q4⟩=>?_
 refine thn (hp pins s4 σ H4 x3 x4 old v _ I4 r3 r4 q4) fun new s5 ⟨x5,H5,I5,r5,q5⟩=>?_
 exact thn (hs pins s5 σ H5 x1 x2 x5 ov iv new _ I5 r1 r2 r5 q5) fun _ s6 ⟨H6,I6,q6⟩=>⟨σ,H6,I6,q6⟩
def ipI(f:Int->Int->Int):TIp:=fun x y H Q=>∃ i j,x=.int i/\y=.int j/\Q (.int (f i j)) H
theorem sN:PIp X .Add (ipI fun i j=>i+j):=by
 intro pins s σ H x y v u Q I r1 r2 h
 obtain⟨i,j,e1,e2,q⟩:=h
 subst e1;subst e2
 obtain⟨t,rfl⟩:=r1
 obtain⟨t',rfl⟩:=r2
 exact iadd_int ⟨.int _,H,I.tok _,⟨_,rfl⟩,q⟩
theorem wy:PIp X .Sub (ipI fun i j=>i - j):=by
 intro pins s σ H x y v u Q I r1 r2 h
 obtain⟨i,j,e1,e2,q⟩:=h
 subst e1;subst e2
 obtain⟨t,rfl⟩:=r1
 obtain⟨t',rfl⟩:=r2
 exact isub_int ⟨.int _,H,I.tok _,⟨_,rfl⟩,q⟩
end
section
variable {X:Cx}{pos:Pos}
def Bn(c:TT)(tb:TS):TS:=fun D σ H=>∃ W:Nat->St->Hp->Prop,(∃ m,W m σ H)/\∀ m σ H,W m σ H ->
 c σ H fun b H1=>if b=true then ∃ N:St->Hp->Prop,(∀ σ' H',N σ' H'->∃ m',m' < m/\W m' σ' H')/\tb { D with nx:=N,ct:=N,bk:=D.nx } σ H1 else D.nx σ H1
theorem Cm{c:Expr}{body:List Stmt}{tc:TT}{tb:TS}(hp:PassesOwn (model X.prog X.w) X.A X.env X.xe)(hc:PT X c tc)(hb:PSs X body tb):PS X (.While c body [] pos) (Bn tc tb):=by
 intro pins s σ H D I h
 obtain⟨W,⟨m0,w0⟩,turn⟩:=h
 refine wpAny_While (codeAny_whileLoop (fun n s'=>∃ σ' H',Inv X pins σ' H' s'/\W n σ' H') ?_ m0 ⟨σ,H,I,w0⟩)
 rintro n s1 ⟨σ1,H1,I1,w1⟩
 refine wpAny_passesOwn hp (thn (hc pins s1 σ1 H1 _ I1 (turn n σ1 H1 w1)) fun b s2 ⟨H2,I2,q2⟩=>?_)
 cases b with
 | true =>
  obtain⟨N,hN,q2⟩:=q2
  rw[if_pos rfl]
  refine wpAny_passesOwn hp (thn (hb pins s2 σ1 H2 _ I2 q2) fun f s3 q3=>?_)
  cases f with
  | next =>
   obtain⟨σ3,H3,I3,n3⟩:=q3
   obtain⟨m',hm,w3⟩:=hN σ3 H3 n3
   exact⟨m',hm,σ3,H3,I3,w3⟩
  | cont =>
   obtain⟨σ3,H3,I3,n3⟩:=q3
   obtain⟨m',hm,w3⟩:=hN σ3 H3 n3
   exact⟨m',hm,σ3,H3,I3,w3⟩
  | brk=>exact q3
  | ret v=>exact q3
 | false =>
  rw[if_neg Bool.false_ne_true]
  exact wpAny_execs_nil ⟨σ1,H2,I2,q2⟩
end
structure It where
 go:Nat->Hp->Prop
 yld:Nat->Hp->V->Hp->Prop
 stop:Nat->Hp->Prop
def j8(X:Cx)(pins:List (Addr×Obj))(H:Hp)(b:Addr):Prop :=
 H b=none/\b≠X.env.locals/\b∉X.fs/\(b∈X.ex\/X.s₀.heap.objs.size<=b)/\(∀ x c,X.env.cells.lookup x=some c->c≠b)/\∀ p∈X.pn++pins,p.1≠b
theorem Inv.B9{X:Cx}{pins:List (Addr×Obj)}{σ:St}{H H':Hp}{s:Shared}{b:Addr}(I:Inv X pins σ H s)(hb:s.heap.objs.size<=b)(hn:H' b=none):j8 X pins H' b:=by
 refine⟨hn,ne_of_gt (lt_of_lt_of_le I.lt hb),I.MW hb,.inr (le_trans I.sz hb),fun x c e z=>?_,fun p hp z=>?_⟩
 ·obtain⟨v,q⟩:=I.cell x c e
  exact absurd (lt_of_lt_of_le q.lt (by rw[z];exact hb)) (lt_irrefl _)
 ·exact absurd (lt_of_lt_of_le (lt_size (I.pin p hp).1) (by rw[z];exact hb)) (lt_irrefl _)
structure Turn(P:Program)(w:World)(K:PySem.W.Frag)(tg:Expr)(J:It)(fp:List Addr)(it:Addr)(tn:Nat->Heap->Prop):Prop where
 mem:it∈fp
 obj:∀ i h,tn i h->∀ b∈fp,∃ o,h.get? b=some o/\∀ v,o.data≠.cell v
 keep:∀ i h h',tn i h->(∀ b∈fp,∀ o,h.get? b=some o->h'.get? b=some o)->tn i h'
 item:∀(X:Cx),X.prog=P->X.w=w->X.K=K->X.calm=true->∀(i:Nat) (pins:List (Addr×Obj)) (s:Shared) (σ:St) (H:Hp) (E:Value->Shared->Prop),Inv X pins σ H s->(∀ b∈fp,j8 X pins H b)->tn i s.heap->J.go i H ->
  wpAny (model P w) X.A (pyNext (.ref it)) (fun r s1=>∃ u,r=some u /\
   wpAny (model P w) X.A (letOwnedTupleGo tg (.ref it) u) (fun _ s2=>∃ x H',Inv X pins σ H' s2/\RelV x u/\J.yld i H x H'/\tn (i+1) s2.heap/\∀ b∈fp,H' b=none) E s1) E s
 done:∀(X:Cx),X.prog=P->X.w=w->X.K=K->X.calm=true->∀(i:Nat) (pins:List (Addr×Obj)) (s:Shared) (σ:St) (H:Hp) (E:Value->Shared->Prop),Inv X pins σ H s->(∀ b∈fp,j8 X pins H b)->tn i s.heap->J.stop i H ->
  wpAny (model P w) X.A (pyNext (.ref it)) (fun r s1=>r=none/\Inv X pins σ H s1) E s
 self:∀(A:Around)(i:Nat)(s:Shared)(Q:Value->Shared->Prop)(E:Value->Shared->Prop),tn i s.heap->Q (.ref it) s->wpAny (model P w) A (pyIter (.ref it)) Q E s
abbrev TI:=St->Hp->(It->Hp->Prop)->Prop
def PIE(X:Cx)(pins:List (Addr×Obj))(σ:St)(tg:Expr)(R:It->Hp->Prop)(itv:Value)(s2:Shared):Prop :=
 ∃(it:Addr)(fp:List Addr)(tn:Nat->Heap->Prop)(J:It)(H':Hp),itv=.ref it/\Inv X pins σ H' s2/\Turn X.prog X.w X.K tg J fp it tn/\tn 0 s2.heap/\(∀ b∈fp,j8 X pins H' b)/\R J H'
def PI(X:Cx)(tg iter:Expr)(wi:TI):Prop :=
 ∀ (pins:List (Addr×Obj)) (s:Shared) (σ:St) (H:Hp) (R:It->Hp->Prop),Inv X pins σ H s->wi σ H R ->
  wpAny (model X.prog X.w) X.A (eval iter X.env) (fun v s1=>wpAny (model X.prog X.w) X.A (pyIter v) (PIE X pins σ tg R) X.xe s1) X.xe s
theorem B6{M:Model}{A:Around}{E:Value->Shared->Prop}{s:Shared}{tg:Expr}{it:Addr}{u:Value}{o:Obj}{n:String}{vs:Array Value}{Q:Unit->Shared->Prop}(ho:s.heap.get? it=some o)(hc:o.cls=.type n)(hd:o.data=.fields vs)
  (hn:["enumerate", "zip", "dict_itemiterator", "dict_reverseitemiterator", "odict_iterator", "itertools.zip_longest", "itertools.pairwise"].contains n=false) (hQ:Q () s):wpAny M A (letOwnedTupleGo tg (.ref it) u) Q E s:=by
 unfold letOwnedTupleGo
 cases tg<;>first
  | exact wpAny_pure hQ
  | (cases u<;>first
    | exact wpAny_pure hQ
    | (refine wpAny_bind (wpAny_load ho ?_)
       rw[hc,hd]
       show wpAny M A (if (["enumerate", "zip", "dict_itemiterator", "dict_reverseitemiterator", "odict_iterator", "itertools.zip_longest", "itertools.pairwise"].contains n && vs[0]? == some (rawInt _))=true then _ else _) Q E s
       rw[if_neg (by intro h;rw[hn,Bool.false_and] at h;cases h)]
       exact wpAny_pure hQ))
def Itl(K:PySem.W.Frag)(a:Addr):It :=
 ⟨fun i H=>∃ xs x,SqL K H a xs/\xs[i]?=some x,fun i H x H'=>H'=H/\∀ xs,SqL K H a xs->xs[i]?=some x,fun i H=>∃ xs,SqL K H a xs/\xs.length<=i⟩
def Itt(K:PySem.W.Frag)(a:Addr):It :=
 ⟨fun i H=>∃ xs x,SqT K H a xs/\xs[i]?=some x,fun i H x H'=>H'=H/\∀ xs,SqT K H a xs->xs[i]?=some x,fun i H=>∃ xs,SqT K H a xs/\xs.length<=i⟩
def Itr(lo:Int)(n:Nat):It:=⟨fun i _=>i < n,fun i H x H'=>H'=H/\x=.int (lo+i),fun i _=>n<=i⟩
theorem yZ{P:Program}{w:World}{K:PySem.W.Frag}{tg:Expr}(a it:Addr):Turn P w K tg (Itl K a) [it] it (fun i h=>h.IsListIter it a i) where
 mem:=by simp
 obj:=fun i h st b hb=>by
  have e:b=it:=by simpa using hb
  subst e
  obtain⟨o,e,c,d⟩:=st
  exact⟨o,e,fun v z=>by rw[d] at z;cases z⟩
 keep:=fun i h h' st k=>st.at fun o e=>k it (by simp) o e
 item:=by
  intro X hP hw hK hc i pins s σ H E I hf st hg
  subst hP hw hK
  obtain⟨xs,x,hq,hx⟩:=hg
  obtain⟨aN,rv,p,hz⟩:=I.list hq
  obtain⟨u,hu,ru⟩:=rv.get hx
  obtain⟨f0,f1,f2,f3,f4,f5⟩:=hf it (by simp)
  refine wpAny_pyNext_list_item st p.isList (x:=u) (by simpa using hu) fun h' y6 sb=>?_
  have I1:Inv X pins σ H { s with heap:=h' }:=I.turned (t':=s.toks) (fun b o hb e=>(sb.2 b hb).trans e) f0 f1 f3 f4 f5
  obtain⟨o,e,c,d⟩:=id y6
  exact⟨u,rfl,B6 (s:={ s with heap:=h' }) e c d (by decide) ⟨x,H,I1,ru,⟨rfl,fun ys hy=>by rw[I.vt hy hq];exact hx⟩,y6,fun b hb=>(hf b hb).1⟩⟩
 done:=by
  intro X hP hw hK hc i pins s σ H E I hf st hg
  subst hP hw hK
  obtain⟨xs,hq,hx⟩:=hg
  obtain⟨aN,rv,p,hz⟩:=I.list hq
  obtain⟨f0,f1,f2,f3,f4,f5⟩:=hf it (by simp)
  have hl:=rv.length
  exact wpAny_pyNext_list_end (I.ok.hd hc) st p.isList (by simp;omega) fun h' eb=>⟨rfl,I.turned (t':=s.toks) (fun b o hb e=>eb b o hb e) f0 f1 f3 f4 f5⟩
 self:=fun _ _ _ _ _ st h=>wpAny_pyIter_listiter st h
theorem wm{P:Program}{w:World}{K:PySem.W.Frag}{tg:Expr}(a it:Addr):Turn P w K tg (Itt K a) [it] it (fun i h=>h.IsTupleIter it a i) where
 mem:=by simp
 obj:=fun i h st b hb=>by
  have e:b=it:=by simpa using hb
  subst e
  obtain⟨o,e,c,d⟩:=st
  exact⟨o,e,fun v z=>by rw[d] at z;cases z⟩
 keep:=fun i h h' st k=>st.at fun o e=>k it (by simp) o e
 item:=by
  intro X hP hw hK hc i pins s σ H E I hf st hg
  subst hP hw hK
  obtain⟨xs,x,hq,hx⟩:=hg
  obtain⟨aN,rv,p,hz⟩:=I.tuple hq
  obtain⟨u,hu,ru⟩:=rv.get hx
  obtain⟨f0,f1,f2,f3,f4,f5⟩:=hf it (by simp)
  refine wpAny_pyNext_tuple_item st (show s.heap.IsTuple a aN.toArray from p) (x:=u) (by simpa using hu) fun h' y6 sb=>?_
  have I1:Inv X pins σ H { s with heap:=h' }:=I.turned (t':=s.toks) (fun b o hb e=>(sb.2 b hb).trans e) f0 f1 f3 f4 f5
  obtain⟨o,e,c,d⟩:=id y6
  exact⟨u,rfl,B6 (s:={ s with heap:=h' }) e c d (by decide) ⟨x,H,I1,ru,⟨rfl,fun ys hy=>by rw[I.ni hy hq];exact hx⟩,y6,fun b hb=>(hf b hb).1⟩⟩
 done:=by
  intro X hP hw hK hc i pins s σ H E I hf st hg
  subst hP hw hK
  obtain⟨xs,hq,hx⟩:=hg
  obtain⟨aN,rv,p,hz⟩:=I.tuple hq
  obtain⟨f0,f1,f2,f3,f4,f5⟩:=hf it (by simp)
  have hl:=rv.length
  exact wpAny_pyNext_tuple_end (I.ok.hd hc) st (show s.heap.IsTuple a aN.toArray from p) (by simp;omega) fun h' eb=>⟨rfl,I.turned (t':=s.toks) (fun b o hb e=>eb b o hb e) f0 f1 f3 f4 f5⟩
 self:=fun _ _ _ _ _ st h=>wpAny_pyIter_tupleiter st h
theorem wH{P:Program}{w:World}{K:PySem.W.Frag}{tg:Expr}(it:Addr)(lo:Int)(n:Nat):Turn P w K tg (Itr lo n) [it] it (fun i h=>IsRangeIter h it (lo+(i:Nat)*1) ((n:Int) - (i:Nat)) 1) where
 mem:=by simp
 obj:=fun i h st b hb=>by
  have e:b=it:=by simpa using hb
  subst e
  exact⟨_,st,fun v z=>by
   have z':Data.fields _=Data.cell v:=z
   cases z'⟩
 keep:=fun i h h' st k=>k it (by simp) _ st
 item:=by
  intro X hP hw hK hc i pins s σ H E I hf st hg
  subst hP hw hK
  obtain⟨f0,f1,f2,f3,f4,f5⟩:=hf it (by simp)
  have W:=Walks.range (prog:=X.prog) (w:=X.w) (I.ok.hd hc) it lo 1 n
  refine W.item i s _ _ hg st fun v h' tk hv y6 kk=>?_
  obtain⟨t,rfl⟩:=hv
  have I1:Inv X pins σ H { s with heap:=h',toks:=tk }:=I.turned (fun b o hb e=>kk b o (by simpa using hb) e) f0 f1 f3 f4 f5
  refine⟨_,rfl,B6 (s:={ s with heap:=h',toks:=tk }) (n := "range_iterator") y6 rfl rfl (by decide) ⟨.int (lo+i),H,I1,⟨t,?_⟩,⟨rfl,rfl⟩,y6,fun b hb=>(hf b hb).1⟩⟩
  rw[mul_one]
 done:=by
  intro X hP hw hK hc i pins s σ H E I hf st hg
  subst hP hw hK
  obtain⟨f0,f1,f2,f3,f4,f5⟩:=hf it (by simp)
  exact wpAny_pyNext_range_end (I.ok.hd hc) st (by have:n<=i:=hg;omega) fun h' eb=>⟨rfl,I.turned (t':=s.toks) (fun b o hb e=>eb b o hb e) f0 f1 f3 f4 f5⟩
 self:=fun _ _ _ _ _ st h=>wpAny_pyIter_rangeiter st h
end L2
namespace L2
open PySem PySem.Spec PyProof.Rows
section
variable {X:Cx}{tg:Expr}
def Bq(K:PySem.W.Frag)(tl:TE):TI:=fun σ H R=>tl σ H fun x H1=>∃ a,x=.ref a/\(∃ xs,SqL K H1 a xs)/\R (Itl K a) H1
def Hx(K:PySem.W.Frag)(tl:TE):TI:=fun σ H R=>tl σ H fun x H1=>∃ a,x=.ref a/\(∃ xs,SqT K H1 a xs)/\R (Itt K a) H1
theorem Dd{l:Expr}{tl:TE}(hl:PE X l tl):PI X tg l (Bq X.K tl):=by
 intro pins s σ H R I h
 refine thn (hl pins s σ H _ I h) fun v s1 ⟨x,H1,I1,r1,q1⟩=>?_
 obtain⟨a,e,⟨xs,hq⟩,q⟩:=q1
 subst e
 cases r1
 obtain⟨aN,rv,p,hz⟩:=I1.list hq
 refine wpAny_pyIter_list p.isList ?_
 refine⟨s1.heap.objs.size,[s1.heap.objs.size],_,_,H1,rfl,I1.kept (t':=s1.toks) fun b o e=>get?_push_of_some _ e,yZ a _,⟨_,get?_push_size _ rfl,rfl,rfl⟩,fun b hb=>?_,q⟩
 have e:b=s1.heap.objs.size:=by simpa using hb
 subst e
 exact I1.B9 (le_refl _) (I1.hok.fresh (le_refl _))
theorem IA{l:Expr}{tl:TE}(hl:PE X l tl):PI X tg l (Hx X.K tl):=by
 intro pins s σ H R I h
 refine thn (hl pins s σ H _ I h) fun v s1 ⟨x,H1,I1,r1,q1⟩=>?_
 obtain⟨a,e,⟨xs,hq⟩,q⟩:=q1
 subst e
 cases r1
 obtain⟨aN,rv,p,hz⟩:=I1.tuple hq
 refine wpAny_pyIter_tuple (show s1.heap.IsTuple a aN.toArray from p) ?_
 refine⟨s1.heap.objs.size,[s1.heap.objs.size],_,_,H1,rfl,I1.kept (t':=s1.toks) fun b o e=>get?_push_of_some _ e,wm a _,⟨_,get?_push_size _ rfl,rfl,rfl⟩,fun b hb=>?_,q⟩
 have e:b=s1.heap.objs.size:=by simpa using hb
 subst e
 exact I1.B9 (le_refl _) (I1.hok.fresh (le_refl _))
theorem A2{pins:List (Addr×Obj)}{σ:St}{H:Hp}{s:Shared}{R:It->Hp->Prop}{E:Value->Shared->Prop}{lo hi:Int}{t u v:Tok}{tk:Nat}(I:Inv X pins σ H s)(h1:-(2 ^ 62)<=lo)(h2:lo < 2 ^ 62)(h3:-(2 ^ 62)<=hi)(h4:hi < 2 ^ 62)
  (q:R (Itr lo (hi - lo).toNat) H):wpAny (model X.prog X.w) X.A (pyIter (.ref s.heap.objs.size)) (PIE X pins σ tg R) E { s with heap:=s.heap.push { cls:=.type "range", data:=.fields #[.int lo t,.int hi u,.int 1 v] },toks:=tk }:=by
 refine wpAny_pyIter_range (IsRange.new ..) (small_one h1 h2 h3 h4) ?_
 have I1:Inv X pins σ H { s with heap:=s.heap.push { cls:=.type "range", data:=.fields #[.int lo t,.int hi u,.int 1 v] },toks:=tk }:=I.kept fun b o e=>get?_push_of_some _ e
 refine⟨(s.heap.push { cls:=.type "range", data:=.fields #[.int lo t,.int hi u,.int 1 v] }).objs.size,[(s.heap.push { cls:=.type "range", data:=.fields #[.int lo t,.int hi u,.int 1 v] }).objs.size],_,_,H,rfl,
  I1.kept (t':=tk) fun b o e=>get?_push_of_some _ e,wH _ lo (hi - lo).toNat,?_,fun b hb=>?_,q⟩
 ·have e1:lo+((0:Nat):Int)*1=lo:=by simp
  have e2:(((hi - lo).toNat:Nat):Int) - ((0:Nat):Int)=Builtin.Range.rangeSize lo hi 1:=by rw[rangeSize_one];split<;>omega
  show IsRangeIter _ _ (lo+((0:Nat):Int)*1) ((((hi - lo).toNat:Nat):Int) - ((0:Nat):Int)) 1
  rw[e1,e2]
  exact get?_push_size _ rfl
 ·have e:b=(s.heap.push { cls:=.type "range", data:=.fields #[.int lo t,.int hi u,.int 1 v] }).objs.size:=by simpa using hb
  subst e
  exact I1.B9 (le_refl _) (I1.hok.fresh (le_refl _))
def Gj(ta:TA):TI:=fun σ H R=>ta σ H fun vs H1=>∃ j:Int,vs=[.int j]/\-(2 ^ 62)<=j/\j < 2 ^ 62/\R (Itr 0 j.toNat) H1
theorem zC{a:Expr}{ta:TA}{p pos:Pos}(hg:Gl X "range")(hm:X.mg "range" = none)(ha:PA X [a] ta)(hs:starEach [a] X.env=[(false,eval a X.env)]:=by rfl):PI X tg (.Call (.Name "range" p) [a] [] pos) (Gj ta):=by
 intro pins s σ H R I h
 refine Call_ (kv I hg hm boot_range (PyProof.Rows.callWith_type1 (thn (ha pos pins s σ H _ I h) fun us s1 ⟨vs,H1,I1,r1,q1⟩=>?_) hs rfl))
 obtain⟨j,e,q1,q2,q⟩:=q1
 subst e
 cases r1 with
 | cons r rr =>
  cases rr
  obtain⟨t,rfl⟩:=r
  exact call_range_1 (A2 I1 (by omega) (by omega) q1 q2 (by simpa using q))
def Km(wi:TI)(g:TG)(tb:TS):TS:=fun D σ H=>wi σ H fun J H1=>∃ W:Nat->Nat->St->Hp->Prop,(∃ m,W 0 m σ H1)/\∀ i m σ H,W i m σ H ->
 (J.stop i H/\D.nx σ H)\/(J.go i H/\∃ N:St->Hp->Prop,(∀ σ' H',N σ' H'->∃ m',m' < m/\W (i+1) m' σ' H')/\∀ x H',J.yld i H x H'->g x σ H' fun σ2 H2=>tb { D with nx:=N,ct:=N,bk:=D.nx } σ2 H2)
def lX(fp:List Addr)(h:Heap):List (Addr×Obj):=fp.filterMap fun b=>(h.get? b).map fun o=>(b,o)
theorem cY{fp:List Addr}{h:Heap}{b:Addr}{o:Obj}(hb:b∈fp)(e:h.get? b=some o):(b,o)∈lX fp h:=List.mem_filterMap.mpr ⟨b,hb,by rw[e];rfl⟩
theorem zT{fp:List Addr}{h:Heap}{p:Addr×Obj}(hp:p∈lX fp h):p.1∈fp/\h.get? p.1=some p.2:=by
 obtain⟨b,hb,e⟩:=List.mem_filterMap.mp hp
 cases q:h.get? b with
 | none=>rw[q] at e;cases e
 | some o =>
  rw[q] at e
  have e':(b,o)=p:=Option.some.inj e
  subst e'
  exact⟨hb,q⟩
theorem Inv.pinned{pins:List (Addr×Obj)}{σ:St}{H:Hp}{s:Shared}{fp:List Addr}(I:Inv X pins σ H s)(hf:∀ b∈fp,j8 X pins H b)(ho:∀ b∈fp,∃ o,s.heap.get? b=some o/\∀ v,o.data≠.cell v):Inv X (pins++lX fp s.heap) σ H s :=
 I.yr fun p hp=>(mem_append.mp hp).elim (fun z=>I.pin p (mem_append_right _ z)) fun z=>by
  obtain⟨hb,e⟩:=zT z
  obtain⟨f0,f1,f2,_⟩:=hf p.1 hb
  obtain⟨o,e',d⟩:=ho p.1 hb
  rw[e] at e';cases e'
  exact⟨e,f0,f1,f2,d⟩
theorem Inv.iL{pins pl:List (Addr×Obj)}{σ:St}{H:Hp}{s:Shared}(I:Inv X (pins++pl) σ H s):Inv X pins σ H s:=I.yr fun p hp=>I.pin p (mem_append_right _ (mem_append_left _ hp))
theorem HU{iter:Expr}{body:List Stmt}{wi:TI}{g:TG}{tb:TS}{pos:Pos}(hp:PassesOwn (model X.prog X.w) X.A X.env X.xe)(hc:X.calm=true)(hi:PI X tg iter wi)(hg:PG X tg g)(hb:PSs X body tb)
  (hs:∀ x,foldedSetIterable iter X.env x=pure x:=by intro _;rfl):PS X (.For tg iter body [] pos) (Km wi g tb):=by
 intro pins s σ H D I h
 refine wpAny_For (thn (hi pins s σ H _ I h) fun v s1 h1=>thn h1 fun itv s2 h2=>?_) hs
 obtain⟨it,fp,tn,J,H2,e,I2,T,xk,f2,W,⟨m0,w0⟩,turn⟩:=h2
 subst e
 have stat:∀{H':Hp},(∀ b∈fp,H' b=none)->∀ b∈fp,j8 X pins H' b:=fun hn b hb=>⟨hn b hb,(f2 b hb).2⟩
 refine codeAny_forLoop_any (fun n s'=>∃ i σ' H',Inv X pins σ' H' s'/\tn i s'.heap/\(∀ b∈fp,H' b=none)/\W i n σ' H') ?_ m0 ⟨0,σ,H2,I2,xk,fun b hb=>(f2 b hb).1,w0⟩
 rintro n s3 ⟨i,σ3,H3,I3,AI,BL,w3⟩
 rcases turn i n σ3 H3 w3 with ⟨stop,qn⟩ | ⟨go,N,hN,step⟩
 ·refine wpAny_passesOwn hp (thn (T.done X rfl rfl rfl hc i pins s3 σ3 H3 X.xe I3 (stat BL) AI stop) fun r s4 ⟨hr,I4⟩=>?_)
  subst hr
  exact wpAny_execs_nil ⟨σ3,H3,I4,qn⟩
 ·refine wpAny_passesOwn hp (thn (T.item X rfl rfl rfl hc i pins s3 σ3 H3 X.xe I3 (stat BL) AI go) fun r s4 ⟨u,hr,h4⟩=>?_)
  subst hr
  refine wpAny_passesOwn hp (thn h4 fun _ s5 ⟨x,H5,I5,r5,y5,xJ,Hg⟩=>?_)
  have I5':=I5.pinned (stat Hg) (T.obj _ _ xJ)
  refine wpAny_passesOwn hp (thn (hg _ s5 σ3 H5 x u _ I5' r5 (step x H5 y5)) fun _ s6 ⟨σ6,H6,I6,q6⟩=>?_)
  refine wpAny_passesOwn hp (thn (hb _ s6 σ6 H6 _ I6 q6) fun f s7 q7=>?_)
  have again:∀{σ7:St}{H7:Hp},Inv X (pins++lX fp s5.heap) σ7 H7 s7->N σ7 H7->∃ m,m < n/\∃ i σ' H',Inv X pins σ' H' s7/\tn i s7.heap/\(∀ b∈fp,H' b=none)/\W i m σ' H':=fun {σ7 H7} I7 n7=>by
   obtain⟨m',hm,w7⟩:=hN σ7 H7 n7
   refine⟨m',hm,i+1,σ7,H7,I7.iL,T.keep _ _ _ xJ fun b hb o e=>(I7.pin (b,o) (mem_append_right _ (mem_append_right _ (cY hb e)))).1,fun b hb=>?_,w7⟩
   obtain⟨o,e,d⟩:=T.obj _ _ xJ b hb
   exact (I7.pin (b,o) (mem_append_right _ (mem_append_right _ (cY hb e)))).2.1
  cases f with
  | next=>obtain⟨σ7,H7,I7,n7⟩:=q7;exact again I7 n7
  | cont=>obtain⟨σ7,H7,I7,n7⟩:=q7;exact again I7 n7
  | brk=>obtain⟨σ7,H7,I7,q7⟩:=q7;exact⟨σ7,H7,I7.iL,q7⟩
  | ret v=>obtain⟨x7,σ7,H7,I7,r7,q7⟩:=q7;exact⟨x7,σ7,H7,I7.iL,r7,q7⟩
end
theorem jE{K:PySem.W.Frag}{a:Addr}{xs:List V}{g:TG}{tb:TS}{D:Ends}{σ:St}{H:Hp}(Pv:Nat->St->Hp->Prop)(h0:Pv 0 σ H)(hl:∀ i σ H,i<=xs.length->Pv i σ H->SqL K H a xs)
  (hs:∀ i x σ H,xs[i]?=some x->Pv i σ H->g x σ H fun σ2 H2=>tb { D with nx:=Pv (i+1),ct:=Pv (i+1),bk:=D.nx } σ2 H2) (hd:∀ σ H,Pv xs.length σ H->D.nx σ H) :
  ∃ W:Nat->Nat->St->Hp->Prop,(∃ m,W 0 m σ H)/\∀ i m σ H,W i m σ H ->
   ((Itl K a).stop i H/\D.nx σ H)\/((Itl K a).go i H/\∃ N:St->Hp->Prop,(∀ σ' H',N σ' H'->∃ m',m' < m/\W (i+1) m' σ' H')/\∀ x H',(Itl K a).yld i H x H'->g x σ H' fun σ2 H2=>tb { D with nx:=N,ct:=N,bk:=D.nx } σ2 H2):=by
 refine⟨fun i m σ H=>m=xs.length - i/\i<=xs.length/\Pv i σ H,⟨xs.length,by simp,zero_le _,h0⟩,?_⟩
 rintro i m σ H ⟨rfl,hi,p⟩
 have q:=hl i σ H hi p
 by_cases hlt:i < xs.length
 ·refine .inr ⟨⟨xs,xs[i],q,by simp[hlt]⟩,Pv (i+1),fun σ' H' p'=>⟨xs.length - (i+1),by omega,rfl,hlt,p'⟩,fun x H' y=>?_⟩
  obtain⟨e,y⟩:=y
  subst e
  exact hs i x σ _ (y xs q) p
 ·have e:i=xs.length:=by omega
  subst e
  exact .inl ⟨⟨xs,q,le_refl _⟩,hd σ H p⟩
theorem DK{K:PySem.W.Frag}{a:Addr}{xs:List V}{g:TG}{tb:TS}{D:Ends}{σ:St}{H:Hp}(Pv:Nat->St->Hp->Prop)(h0:Pv 0 σ H)(hl:∀ i σ H,i<=xs.length->Pv i σ H->SqT K H a xs)
  (hs:∀ i x σ H,xs[i]?=some x->Pv i σ H->g x σ H fun σ2 H2=>tb { D with nx:=Pv (i+1),ct:=Pv (i+1),bk:=D.nx } σ2 H2) (hd:∀ σ H,Pv xs.length σ H->D.nx σ H) :
  ∃ W:Nat->Nat->St->Hp->Prop,(∃ m,W 0 m σ H)/\∀ i m σ H,W i m σ H ->
   ((Itt K a).stop i H/\D.nx σ H)\/((Itt K a).go i H/\∃ N:St->Hp->Prop,(∀ σ' H',N σ' H'->∃ m',m' < m/\W (i+1) m' σ' H')/\∀ x H',(Itt K a).yld i H x H'->g x σ H' fun σ2 H2=>tb { D with nx:=N,ct:=N,bk:=D.nx } σ2 H2):=by
 refine⟨fun i m σ H=>m=xs.length - i/\i<=xs.length/\Pv i σ H,⟨xs.length,by simp,zero_le _,h0⟩,?_⟩
 rintro i m σ H ⟨rfl,hi,p⟩
 have q:=hl i σ H hi p
 by_cases hlt:i < xs.length
 ·refine .inr ⟨⟨xs,xs[i],q,by simp[hlt]⟩,Pv (i+1),fun σ' H' p'=>⟨xs.length - (i+1),by omega,rfl,hlt,p'⟩,fun x H' y=>?_⟩
  obtain⟨e,y⟩:=y
  subst e
  exact hs i x σ _ (y xs q) p
 ·have e:i=xs.length:=by omega
  subst e
  exact .inl ⟨⟨xs,q,le_refl _⟩,hd σ H p⟩
theorem nv{lo:Int}{n:Nat}{g:TG}{tb:TS}{D:Ends}{σ:St}{H:Hp}(Pv:Nat->St->Hp->Prop)(h0:Pv 0 σ H)
  (hs:∀ i σ H,i < n->Pv i σ H->g (.int (lo+i)) σ H fun σ2 H2=>tb { D with nx:=Pv (i+1),ct:=Pv (i+1),bk:=D.nx } σ2 H2) (hd:∀ σ H,Pv n σ H->D.nx σ H) :
  ∃ W:Nat->Nat->St->Hp->Prop,(∃ m,W 0 m σ H)/\∀ i m σ H,W i m σ H ->
   ((Itr lo n).stop i H/\D.nx σ H)\/((Itr lo n).go i H/\∃ N:St->Hp->Prop,(∀ σ' H',N σ' H'->∃ m',m' < m/\W (i+1) m' σ' H')/\∀ x H',(Itr lo n).yld i H x H'->g x σ H' fun σ2 H2=>tb { D with nx:=N,ct:=N,bk:=D.nx } σ2 H2):=by
 refine⟨fun i m σ H=>m=n - i/\i<=n/\Pv i σ H,⟨n,by simp,zero_le _,h0⟩,?_⟩
 rintro i m σ H ⟨rfl,hi,p⟩
 by_cases hlt:i < n
 ·refine .inr ⟨hlt,Pv (i+1),fun σ' H' p'=>⟨n - (i+1),by omega,rfl,hlt,p'⟩,fun x H' y=>?_⟩
  obtain⟨e,y⟩:=y
  subst e y
  exact hs i σ _ hlt p
 ·have e:i=n:=by omega
  subst e
  exact .inl ⟨le_refl _,hd σ H p⟩
end L2
namespace L2
open PySem PySem.Spec PyProof.Rows
abbrev R2:=V->V->Hp->VK->Prop
def OpR(X:Cx)(f:Value->Value->Sem Value)(r:R2):Prop :=
 ∀ (pins:List (Addr×Obj)) (s:Shared) (σ:St) (H:Hp) (x y:V) (v u:Value) (Q:VK),Inv X pins σ H s->RelV x v->RelV y u->r x y H Q ->
  wpAny (model X.prog X.w) X.A (f v u) (EP X pins σ Q) X.xe s
def UnR(X:Cx)(f:Value->Sem Value)(r:V->Hp->VK->Prop):Prop :=
 ∀ (pins:List (Addr×Obj)) (s:Shared) (σ:St) (H:Hp) (x:V) (v:Value) (Q:VK),Inv X pins σ H s->RelV x v->r x H Q ->
  wpAny (model X.prog X.w) X.A (f v) (EP X pins σ Q) X.xe s
def fJ(X:Cx)(f:Value)(r:List V->Hp->VK->Prop):Prop :=
 ∀ (pins:List (Addr×Obj)) (s:Shared) (σ:St) (H:Hp) (xs:List V) (us:List Value) (Q:VK),Inv X pins σ H s->bc xs us->r xs H Q ->
  wpAny (model X.prog X.w) X.A (call f us) (EP X pins σ Q) X.xe s
def tOp(r:R2)(ta tb:TE):TE:=fun σ H Q=>ta σ H fun x H1=>tb σ H1 fun y H2=>r x y H2 Q
def tUn(r:V->Hp->VK->Prop)(ta:TE):TE:=fun σ H Q=>ta σ H fun x H1=>r x H1 Q
def rI(C:Int->Int->Prop)(g:Int->Int->V):R2:=fun x y H Q=>∃ i j,x=.int i/\y=.int j/\C i j/\Q (g i j) H
def rI0(g:Int->Int->V):R2:=fun x y H Q=>∃ i j,x=.int i/\y=.int j/\Q (g i j) H
def rU(g:Int->V):V->Hp->VK->Prop:=fun x H Q=>∃ i,x=.int i/\Q (g i) H
section
variable {X:Cx}{a b c:Expr}{ta tb tc:TE}{pos:Pos}
theorem Hv(ha:PE X a ta)(hb:PE X b tb){pins:List (Addr×Obj)}{s:Shared}{σ:St}{H:Hp}{R:V->V->Hp->Prop}(I:Inv X pins σ H s)
  (h:ta σ H fun x H1=>tb σ H1 fun y H2=>R x y H2) {Q:Value->Shared->Prop} {f:Value->Value->Sem Value}
  (hf:∀ v u s2 x y H2,Inv X pins σ H2 s2->RelV x v->RelV y u->R x y H2->wpAny (model X.prog X.w) X.A (f v u) Q X.xe s2) :
  wpAny (model X.prog X.w) X.A (eval a X.env) (fun v s₁=>wpAny (model X.prog X.w) X.A (eval b X.env) (fun u s₂=>wpAny (model X.prog X.w) X.A (f v u) Q X.xe s₂) X.xe s₁) X.xe s:=by
 refine thn (ha pins s σ H _ I h) fun v s1 ⟨x,H1,I1,r1,q1⟩=>?_
 refine thn (hb pins s1 σ H1 _ I1 q1) fun u s2 ⟨y,H2,I2,r2,q2⟩=>?_
 exact hf v u s2 x y H2 I2 r1 r2 q2
theorem K6{op:Operator}{r:R2}(ho:OpR X (binaryOp op) r)(ha:PE X a ta)(hb:PE X b tb):PE X (.BinOp a op b pos) (tOp r ta tb):=by
 intro pins s σ H Q I h
 exact wpAny_BinOp (Hv ha hb I h fun v u s2 x y H2 I2 rx ry q=>ho pins s2 σ H2 x y v u Q I2 rx ry q)
theorem Lu{op:UnaryOp}{r:V->Hp->VK->Prop}(ho:UnR X (unaryOp op) r)(ha:PE X a ta):PE X (.UnaryOp op a pos) (tUn r ta):=by
 intro pins s σ H Q I h
 exact UnaryOp_ (thn (ha pins s σ H _ I h) fun v s1 ⟨x,H1,I1,r1,q1⟩=>ho pins s1 σ H1 x v Q I1 r1 q1)
theorem opI{f:Value->Value->Sem Value}{C:Int->Int->Prop}{g:Int->Int->Int}
  (rule:∀(i j:Int)(t u:Tok)(s:Shared)(Q:Value->Shared->Prop)(E:Value->Shared->Prop),C i j->Q (.int (g i j) s.toks) { s with toks:=s.toks+1 }->wpAny (model X.prog X.w) X.A (f (.int i t) (.int j u)) Q E s) :
  OpR X f (rI C fun i j=>.int (g i j)):=by
 intro pins s σ H x y v u Q I rx ry h
 obtain⟨i,j,rfl,rfl,hc,q⟩:=h
 obtain⟨t,rfl⟩:=rx
 obtain⟨t',rfl⟩:=ry
 exact rule i j t t' s _ _ hc ⟨.int (g i j),H,I.tok _,⟨_,rfl⟩,q⟩
theorem LS{f:Value->Value->Sem Value}{g:Int->Int->Int}
  (rule:∀(i j:Int)(t u:Tok)(s:Shared)(Q:Value->Shared->Prop)(E:Value->Shared->Prop),Q (.int (g i j) s.toks) { s with toks:=s.toks+1 }->wpAny (model X.prog X.w) X.A (f (.int i t) (.int j u)) Q E s) :
  OpR X f (rI0 fun i j=>.int (g i j)):=by
 intro pins s σ H x y v u Q I rx ry h
 obtain⟨i,j,rfl,rfl,q⟩:=h
 obtain⟨t,rfl⟩:=rx
 obtain⟨t',rfl⟩:=ry
 exact rule i j t t' s _ _ ⟨.int (g i j),H,I.tok _,⟨_,rfl⟩,q⟩
theorem Fg{f:Value->Value->Sem Value}{g:Int->Int->Bool}
  (rule:∀(i j:Int)(t u:Tok)(s:Shared)(Q:Value->Shared->Prop)(E:Value->Shared->Prop),Q (.bool (g i j)) s->wpAny (model X.prog X.w) X.A (f (.int i t) (.int j u)) Q E s) :
  OpR X f (rI0 fun i j=>.bl (g i j)):=by
 intro pins s σ H x y v u Q I rx ry h
 obtain⟨i,j,rfl,rfl,q⟩:=h
 obtain⟨t,rfl⟩:=rx
 obtain⟨t',rfl⟩:=ry
 exact rule i j t t' s _ _ ⟨.bl (g i j),H,I,rfl,q⟩
def IF(i j:Int):Prop:=0<=j/\j<=1000000/\i.natAbs < 2 ^ 64
def P6(i j:Int):Prop:=(-(2 ^ 64) < i/\i < 2 ^ 64)\/(-(2 ^ 64) < j/\j < 2 ^ 64)
theorem gu:OpR X (binaryOp .Add) (rI0 fun i j=>.int (i+j)):=LS fun _ _ _ _ _ _ _ q=>add_int q
theorem xn:OpR X (binaryOp .Sub) (rI0 fun i j=>.int (i - j)):=LS fun _ _ _ _ _ _ _ q=>sub_int q
theorem iZ:OpR X (binaryOp .Mod) (rI (fun _ j=>0 < j) fun i j=>.int (i % j)):=opI fun i j _ _ _ _ _ hc q=>by
 have h1:(0:Int) < j:=hc
 exact mod_int' (by omega) (by rw[Int.fmod_eq_emod_of_nonneg i (by omega)];exact q)
theorem pX:OpR X (binaryOp .Pow) (rI IF fun i j=>.int (i ^ j.toNat)):=opI fun _ _ _ _ _ _ _ hc q=>pow_int_small hc.1 hc.2.1 hc.2.2 q
theorem unI{f:Value->Sem Value}{g:Int->Int}
  (rule:∀(i:Int)(t:Tok)(s:Shared)(Q:Value->Shared->Prop)(E:Value->Shared->Prop),Q (.int (g i) s.toks) { s with toks:=s.toks+1 }->wpAny (model X.prog X.w) X.A (f (.int i t)) Q E s) :
  UnR X f (rU fun i=>.int (g i)):=by
 intro pins s σ H x v Q I rx h
 obtain⟨i,rfl,q⟩:=h
 obtain⟨t,rfl⟩:=rx
 exact rule i t s _ _ ⟨.int (g i),H,I.tok _,⟨_,rfl⟩,q⟩
theorem oV:UnR X (unaryOp .USub) (rU fun i=>.int (-i)):=unI fun _ _ _ _ _ q=>neg_int q
end
def vK:V->V->Bool
 | .non,.non=>true | .non,.int _=>true | .int _,.non=>true | .non,.bl _=>true | .bl _,.non=>true | .non,.str _=>true | .str _,.non=>true
 | .int _,.int _=>true | .bl _,.bl _=>true | .str _,.str _=>true | .byt _,.byt _=>true
 | .int _,.str _=>true | .str _,.int _=>true | .bl _,.str _=>true | .str _,.bl _=>true
 | _,_=>false
def rEq:R2:=fun x y H Q=>vK x y=true/\Q (.bl (decide (x=y))) H
def rNe:R2:=fun x y H Q=>vK x y=true/\Q (.bl (!decide (x=y))) H
theorem yd{i j:Int}:decide (V.int i=V.int j)=(i == j):=by
 rw[Bool.eq_iff_iff]
 simp
theorem Au{i j:Bool}:decide (V.bl i=V.bl j)=(i == j):=by
 rw[Bool.eq_iff_iff]
 simp
theorem xR{i j:Str}:decide (V.str i=V.str j)=(i == j):=by
 rw[Bool.eq_iff_iff]
 simp
theorem yq{i j:Array UInt8}:decide (V.byt i=V.byt j)=(i.toList == j.toList):=by
 rw[Bool.eq_iff_iff]
 cases i
 cases j
 simp
section
variable {X:Cx}{a b c:Expr}{ta tb tc:TE}{pos:Pos}
theorem bC{pins:List (Addr×Obj)}{σ:St}{H:Hp}{s:Shared}{Q:VK}{k k':Bool}(I:Inv X pins σ H s)(q:Q (.bl k) H)(e:k=k'):EP X pins σ Q (.bool k') s:=by
 subst e
 exact⟨.bl k,H,I,rfl,q⟩
theorem lg:OpR X (compareOp .Eq) rEq:=by
 intro pins s σ H x y v u Q I rx ry h
 obtain⟨hs,q⟩:=h
 cases x with
 | non =>
  cases rx
  cases y with
  | non=>cases ry;exact PySem.EqNone.eq_none_none (bC I q (by simp))
  | bl j=>cases ry;exact PySem.EqNone.eq_none_bool (bC I q (by simp))
  | int j=>obtain⟨t',rfl⟩:=ry;exact PySem.EqNone.eq_none_int (bC I q (by simp))
  | str j=>obtain⟨t',rfl⟩:=ry;exact PySem.EqNone.eq_none_str (bC I q (by simp))
  | _=>exact absurd (show false=true from hs) Bool.false_ne_true
 | bl i =>
  cases rx
  cases y with
  | non=>cases ry;exact PySem.EqNone.eq_bool_none (bC I q (by simp))
  | bl j=>cases ry;exact eq_bool (bC I q Au)
  | str j=>obtain⟨t',rfl⟩:=ry;exact PySem.EqMixed.eq_bool_str (bC I q (by simp))
  | _=>exact absurd (show false=true from hs) Bool.false_ne_true
 | int i =>
  obtain⟨t,rfl⟩:=rx
  cases y with
  | non=>cases ry;exact PySem.EqNone.eq_int_none (bC I q (by simp))
  | int j=>obtain⟨t',rfl⟩:=ry;exact eq_int (bC I q yd)
  | str j=>obtain⟨t',rfl⟩:=ry;exact PySem.EqMixed.eq_int_str (bC I q (by simp))
  | _=>exact absurd (show false=true from hs) Bool.false_ne_true
 | str i =>
  obtain⟨t,rfl⟩:=rx
  cases y with
  | non=>cases ry;exact PySem.EqNone.eq_str_none (bC I q (by simp))
  | bl j=>cases ry;exact PySem.EqMixed.eq_str_bool (bC I q (by simp))
  | int j=>obtain⟨t',rfl⟩:=ry;exact PySem.EqMixed.eq_str_int (bC I q (by simp))
  | str j=>obtain⟨t',rfl⟩:=ry;exact eq_str (bC I q xR)
  | _=>exact absurd (show false=true from hs) Bool.false_ne_true
 | byt i =>
  obtain⟨t,rfl⟩:=rx
  cases y with
  | byt j=>obtain⟨t',rfl⟩:=ry;exact PySem.W.eq_bytes (bC I q yq)
  | _=>exact absurd (show false=true from hs) Bool.false_ne_true
 | _=>cases y<;>exact absurd (show false=true from hs) Bool.false_ne_true
theorem yh:OpR X (compareOp .NotEq) rNe:=by
 intro pins s σ H x y v u Q I rx ry h
 obtain⟨hs,q⟩:=h
 cases x with
 | non =>
  cases rx
  cases y with
  | non=>cases ry;exact PySem.EqNone.ne_none_none (bC I q (by simp))
  | bl j=>cases ry;exact PySem.EqNone.ne_none_bool (bC I q (by simp))
  | int j=>obtain⟨t',rfl⟩:=ry;exact PySem.EqNone.ne_none_int (bC I q (by simp))
  | str j=>obtain⟨t',rfl⟩:=ry;exact PySem.EqNone.ne_none_str (bC I q (by simp))
  | _=>exact absurd (show false=true from hs) Bool.false_ne_true
 | bl i =>
  cases rx
  cases y with
  | non=>cases ry;exact PySem.EqNone.ne_bool_none (bC I q (by simp))
  | bl j=>cases ry;exact ne_bool (bC I q (congrArg not Au))
  | str j=>obtain⟨t',rfl⟩:=ry;exact PySem.EqMixed.ne_bool_str (bC I q (by simp))
  | _=>exact absurd (show false=true from hs) Bool.false_ne_true
 | int i =>
  obtain⟨t,rfl⟩:=rx
  cases y with
  | non=>cases ry;exact PySem.EqNone.ne_int_none (bC I q (by simp))
  | int j=>obtain⟨t',rfl⟩:=ry;exact ne_int (bC I q (congrArg not yd))
  | str j=>obtain⟨t',rfl⟩:=ry;exact PySem.EqMixed.ne_int_str (bC I q (by simp))
  | _=>exact absurd (show false=true from hs) Bool.false_ne_true
 | str i =>
  obtain⟨t,rfl⟩:=rx
  cases y with
  | non=>cases ry;exact PySem.EqNone.ne_str_none (bC I q (by simp))
  | bl j=>cases ry;exact PySem.EqMixed.ne_str_bool (bC I q (by simp))
  | int j=>obtain⟨t',rfl⟩:=ry;exact PySem.EqMixed.ne_str_int (bC I q (by simp))
  | str j=>obtain⟨t',rfl⟩:=ry;exact ne_str (bC I q (congrArg not xR))
  | _=>exact absurd (show false=true from hs) Bool.false_ne_true
 | byt i =>
  obtain⟨t,rfl⟩:=rx
  cases y with
  | byt j=>obtain⟨t',rfl⟩:=ry;exact PySem.W.ne_bytes (bC I q (congrArg not yq))
  | _=>exact absurd (show false=true from hs) Bool.false_ne_true
 | _=>cases y<;>exact absurd (show false=true from hs) Bool.false_ne_true
theorem n5:OpR X (compareOp .Lt) (rI0 fun i j=>.bl (decide (i < j))):=Fg fun _ _ _ _ _ _ _ q=>lt_int q
theorem Gq:OpR X (compareOp .LtE) (rI0 fun i j=>.bl (decide (i<=j))):=Fg fun _ _ _ _ _ _ _ q=>le_int q
theorem pK:OpR X (compareOp .Gt) (rI0 fun i j=>.bl (decide (j < i))):=Fg fun _ _ _ _ _ _ _ q=>gt_int q
theorem L5:OpR X (compareOp .GtE) (rI0 fun i j=>.bl (decide (j<=i))):=Fg fun _ _ _ _ _ _ _ q=>ge_int q
theorem aX(b:Expr){op:CmpOp}(h:op≠.In:=by decide)(h2:op≠.NotIn:=by decide):behindInMarks op b=false:=by
 have e1:(op == CmpOp.In)=false:=by cases op<;>first | rfl | exact absurd rfl h
 have e2:(op == CmpOp.NotIn)=false:=by cases op<;>first | rfl | exact absurd rfl h2
 cases b<;>simp[behindInMarks,e1,e2]
theorem EM{op:CmpOp}{r:R2}(ho:OpR X (compareOp op) r)(ha:PE X a ta)(hb:PE X b tb)(hm:behindInMarks op b=false):PE X (.Compare a [op] [b] pos) (tOp r ta tb):=by
 intro pins s σ H Q I h
 exact wpAny_Compare1 (Hv ha hb I h fun v u s2 x y H2 I2 rx ry q=>ho pins s2 σ H2 x y v u Q I2 rx ry q) hm
def xO(t:TE):TT:=fun σ H Q=>t σ H fun x H'=>∃ k,x=.bl k/\Q k H'
theorem DJ{op:CmpOp}{r:R2}(ho:OpR X (compareOp op) r)(ha:PE X a ta)(hb:PE X b tb)(hm:behindInMarks op b=false):PT X (.Compare a [op] [b] pos) (xO (tOp r ta tb)):=by
 intro pins s σ H Q I h
 refine wpAny_isTrue_Compare1 (thn (ha pins s σ H _ I h) fun v s1 ⟨x,H1,I1,r1,q1⟩=>thn (hb pins s1 σ H1 _ I1 q1) fun u s2 ⟨y,H2,I2,r2,q2⟩ =>
  thn (ho pins s2 σ H2 x y v u _ I2 r1 r2 q2) fun c s3 ⟨z,H3,I3,r3,k,e,q3⟩=>?_) hm
 subst e
 cases r3
 exact wpAny_truthy_bool ⟨H3,I3,q3⟩
def Ii(r r':R2)(ta tb tc:TE):TE:=fun σ H Q=>ta σ H fun x H1=>tb σ H1 fun y H2=>r x y H2 fun z H3=>∃ k,z=.bl k /\
 (if k=true then tc σ H3 fun w' H4=>r' y w' H4 Q else Q (.bl false) H3)
theorem pQ:(sizeLine:Nat) < 2 ^ 63:=by rw[sizeLine_eq];decide
theorem vals1{x:V}{us:List Value}(r:bc [x] us):∃ u,us=[u]/\RelV x u:=by
 cases r with
 | cons r1 r2=>cases r2;exact⟨_,rfl,r1⟩
theorem vals2{x y:V}{us:List Value}(r:bc [x,y] us):∃ u w',us=[u,w']/\RelV x u/\RelV y w':=by
 cases r with
 | cons r1 r2 =>
  cases r2 with
  | cons r3 r4=>cases r4;exact⟨_,_,rfl,r1,r3⟩
theorem u9:fJ X (.builtin "abs") (fun xs H Q=>∃ i,xs=[.int i]/\Q (.int (if i < 0 then -i else i)) H):=by
 intro pins s σ H xs us Q I r h
 obtain⟨i,rfl,q⟩:=h
 obtain⟨u,rfl,t,rfl⟩:=vals1 r
 exact call_abs_int fun u tk=>⟨.int (if i < 0 then -i else i),H,I.tok _,⟨_,rfl⟩,q⟩
theorem nG(hc:X.calm=true):fJ X (.builtin "min") (fun xs H Q=>∃ i j,xs=[.int i,.int j]/\Q (.int (if j < i then j else i)) H):=by
 intro pins s σ H xs us Q I r h
 obtain⟨i,j,rfl,q⟩:=h
 obtain⟨u,w',rfl,⟨t,rfl⟩,⟨t',rfl⟩⟩:=vals2 r
 refine min_two_ints (I.ok.hd hc) fun h' tk k=>⟨_,H,I.kept k,?_,q⟩
 by_cases hj:j < i
 ·rw[if_pos hj,if_pos hj];exact⟨_,rfl⟩
 ·rw[if_neg hj,if_neg hj];exact⟨_,rfl⟩
end
end L2
namespace L2
open PySem PySem.Spec PyProof.Rows
structure B_(h:Heap)(x dx C:Addr)(mA:Str->Option Value):Prop where
 obj:h.get? x=some (instObj C dx)
 ns:h.Ns1 dx mA
 ne:dx≠x
theorem y3{h:Heap}{dx:Addr}{mA:Str->Option Value}(n:h.Ns1 dx mA):∃ od,h.get? dx=some od/\∀ name,lookIn name od=some (mA name):=by
 obtain⟨o,es,ep,ho,hd,hk,_,hm⟩:=n
 refine⟨o,ho,fun name=>?_⟩
 have e:=hm name
 unfold nsFind findBy at e
 rw[<- Array.find?_toList] at e
 unfold lookIn
 rw[hd]
 dsimp only
 split
 ·rename_i y q
  rw[q] at e
  exact congrArg some e
 ·rename_i q
  rw[q] at e
  have a:es.toList.any (·.refKey)=false:=by
   rw[List.any_eq_false]
   intro y hy
   obtain⟨z,t,hkey⟩:=hk y (Array.mem_toList_iff.mp hy)
   simp[DictEntry.refKey,hkey]
  have a':¬ es.toList.any (·.refKey)=true:=by rw[a];exact Bool.false_ne_true
  rw[if_neg a']
  exact congrArg some e
theorem B_.look{h:Heap}{x dx C:Addr}{mA:Str->Option Value}(I:B_ h x dx C mA):∃ od,PySem.W.InstAt h x (instObj C dx) C (some od)/\∀ name,lookIn name od=some (mA name) :=
 let ⟨od,ho,hl⟩:=y3 I.ns
 ⟨od,⟨I.obj,rfl,rfl,ho⟩,hl⟩
section
variable {prog:Program}{w:World}{A:Around}{E:Value->Shared->Prop}{s:Shared}{K:PySem.W.Frag}{x dx C f:Addr}{mA:Str->Option Value}{name:Str}{v:Value}
theorem sR{ns:List Str}{Q:Unit->Shared->Prop}(X:K.In s.heap)(I:B_ s.heap x dx C mA)
  (hs:findIn K (.ref C) "__setattr__" = some (some (.builtin "object.__setattr__"))) (hp:PySem.W.plainOver K C=true) (ht:PySem.W.takerIn K C name=some none) (hh:PySem.W.hasDictIn K C=true)
  (hw:PySem.Within mA ns) (hsz:ns.length<=sizeLine)
  (h:∀ h',B_ h' x dx C (fun y=>if y=name then some v else mA y)->SameBut dx s.heap h'->Q () { s with heap:=h',toks:=s.toks+2 }) :
  wpAny (model prog w) A (setAttr (.ref x) name v) Q E s:=by
 obtain⟨od,J,hl⟩:=I.look
 refine PySem.W.set_plain X J hs (PySem.W.osa_open (s:={ s with toks:=s.toks+1 }) (r:=none) X J hp ht fun b=>?_)
 obtain⟨cd,hc,HM⟩:=PySem.W.any_some hh
 have hx:s.heap.get? x=some ⟨.ref C,some dx,.plain,#[]⟩:=I.obj
 refine wpAny_bind (wpAny_pure (wpAny_bind (wpAny_bind (wpAny_loadPart hx (wpAny_bind (Looks.here (s:={ s with toks:=s.toks+1 }) (PySem.W.looks_clsIn X hc) ?_))))))
 rw[HM]
 refine wpAny_pure (a:=some dx) (wpAny_bind (wpAny_pure (wpAny_bind ?_)))
 refine wpAny_nsSet1 (s:={ s with toks:=s.toks+1 }) I.ns fun h' C7 FQ=>?_
 obtain⟨oD,S8,S6,Ry,Qg,M_⟩:=C7.count (PySem.Within.cons name v hw)
 refine wpAny_bind (wpAny_lookBehind Ry (by rw[Qg];exact pastItsLine_dict (le_trans M_ (by rw[length_cons];omega))) ?_)
 exact wpAny_pure (h _ ⟨(FQ.2 _ (Ne.symm I.ne)).trans I.obj,C7,I.ne⟩ FQ)
end
section
variable {P:Program}{w:World}{H H':Hp}{h h':Heap}{a C dx:Addr}{fs Hj:List (Str×V)}
theorem Em(hok:HOk P w H h)(e:H a=some (.ins C dx fs)):∃ mA,B_ h a dx C mA/\(∀ f,HX (fs.lookup f) (mA f))/\PySem.Within mA (fs.map (·.1))/\fs.length<=1000/\H dx=some (.own a):=by
 obtain⟨d,z,ne,ob,mA,n,r,q⟩:=(show cM P w H h a (.ins C dx fs) from hok a _ e)
 exact⟨mA,⟨ob,n,ne⟩,r,q,z,d⟩
end
structure Cls(K:PySem.W.Frag)(C:Addr):Prop where
 pg:plainGet K C Str.empty=true
 hd:PySem.W.hasDictIn K C=true
 po:PySem.W.plainOver K C=true
 sa:findIn K (.ref C) "__setattr__" = some (some (.builtin "object.__setattr__"))
theorem Cls.get{K:PySem.W.Frag}{C:Addr}(c:Cls K C)(f:Str):plainGet K C f=true:=c.pg
structure Con(K:PySem.W.Frag)(C:Addr)(f:Str)(v:V)(u:Value):Prop where
 at_:findIn K (.ref C) f=some (some u)
 rel:RelV v u
 get:PySem.W.specialIn K u "__get__" = some none
 cp:PySem.W.copiedNames.contains f=false
structure RQ(K:PySem.W.Frag)(C:Addr)(m:Str)(f:Addr):Prop where
 at_:findIn K (.ref C) m=some (some (.ref f))
 fn:isFn K (.ref f)=true
 kp:keepIn K (.ref f)=true
section
variable {X:Cx}{pins:List (Addr×Obj)}{σ:St}{H:Hp}{s:Shared}{a C dx:Addr}{fs:List (Str×V)}{f:Str}{v:V}{A:Around}{E:Value->Shared->Prop}
end
section
variable {X:Cx}{o e value:Expr}{f:Str}{pos pos' tpos:Pos}{ta tv:TE}
end
section
variable {X:Cx}{pins:List (Addr×Obj)}{σ:St}{H:Hp}{s:Shared}{A:Around}{E:Value->Shared->Prop}{Q:Value->Shared->Prop}{c:Value}{b:Bool}
inductive nj (K:PySem.W.Frag) (H:Hp):V->Value->Prop where
 | non:nj K H .non (.type "NoneType")
 | bl (x:Bool):nj K H (.bl x) (.type "bool")
 | int (i:Int):nj K H (.int i) (.type "int")
 | str (x:Str):nj K H (.str x) (.type "str")
 | flt (x:UInt64):nj K H (.flt x) (.type "float")
 | lst {a:Addr} {xs:List V} (e:H a=some (.lst xs)):nj K H (.ref a) (.type "list")
 | frz {a:Addr} {o:Obj} {xs:List V} (e:H a=some (.frz o (.lst xs))):nj K H (.ref a) (.type "list")
 | tup {a:Addr} {xs:List V} (e:H a=some (.tup xs)):nj K H (.ref a) (.type "tuple")
 | dK {a:Addr} {nK:List (Key×V)} (e:H a=some (.dK nK)):nj K H (.ref a) (.type "dict")
 | dT {a:Addr} {nK:List (List Key×V)} (e:H a=some (.dT nK)):nj K H (.ref a) (.type "dict")
 | ins {a C dx:Addr} {fs:List (Str×V)} (e:H a=some (.ins C dx fs)) (cl:Cls K C) (ha:findIn K (.ref C) "__class__" = some (some (.builtin "object.__class__")))
   (hn:PySem.W.specialIn K (.builtin "object.__class__") "__get__" = some (some (.builtin "getset_descriptor.__get__"))) (htk:PySem.W.takesIn K (.builtin "object.__class__")=some true)
   (hm:PySem.W.mroIn K C (.type "object")=some true):nj K H (.ref a) (.ref C)
theorem zJ{x:V}{u t:Value}(I:Inv X pins σ H s)(rx:RelV x u)(ty:nj X.K H x t)(e:kitOne X.K t c=some b)(h:∀ tk,Q (.bool b) { s with toks:=tk }) :
  wpAny (model X.prog X.w) A (call (.builtin "isinstance") [u,c]) Q E s:=by
 cases ty with
 | non=>cases (show u=Value.none from rx);exact kia_one PySem.W.kitx_none I.kIn True.intro e (fun z=>nomatch z) h
 | bl y=>cases (show u=Value.bool y from rx);exact kia_one PySem.W.kitx_bool I.kIn True.intro e (fun z=>nomatch z) h
 | int i=>obtain⟨t,q⟩:=(show ∃ t,u=Value.int i t from rx);cases q;exact kia_one PySem.W.kitx_int I.kIn True.intro e (fun z=>nomatch z) h
 | str y=>obtain⟨t,q⟩:=(show ∃ t,u=Value.str y t from rx);cases q;exact kia_one PySem.W.kitx_str I.kIn True.intro e (fun z=>nomatch z) h
 | flt y=>obtain⟨t,q⟩:=(show ∃ t,u=Value.float y t from rx);cases q;exact kia_one PySem.W.kitx_float I.kIn True.intro e (fun z=>nomatch z) h
 | @lst a xs ea =>
  cases (show u=Value.ref a from rx)
  obtain⟨_,_,n,_,h1⟩:=(show cM X.prog X.w H s.heap a (.lst xs) from I.hok a _ ea)
  exact kia_one PySem.W.kitx_list I.kIn ⟨_,h1,rfl⟩ e (fun z=>nomatch z) h
 | @frz a ob xs ea =>
  cases (show u=Value.ref a from rx)
  obtain⟨_,_,_,n,_,h1⟩:=(show cM X.prog X.w H s.heap a (.frz ob (.lst xs)) from I.hok a _ ea)
  exact kia_one PySem.W.kitx_list I.kIn ⟨_,h1,rfl⟩ e (fun z=>nomatch z) h
 | @tup a xs ea =>
  cases (show u=Value.ref a from rx)
  obtain⟨_,_,_,p⟩:=(show cM X.prog X.w H s.heap a (.tup xs) from I.hok a _ ea)
  obtain⟨o,h1,h2,_⟩:=p
  exact kia_one PySem.W.kitx_tuple I.kIn ⟨o,h1,h2⟩ e (fun z=>nomatch z) h
 | @dK a nK ea =>
  cases (show u=Value.ref a from rx)
  obtain⟨_,_,vs,_,p⟩:=(show cM X.prog X.w H s.heap a (.dK nK) from I.hok a _ ea)
  obtain⟨o,es,ep,h1,h2,_⟩:=p
  exact kia_one PySem.W.kitx_dict I.kIn ⟨o,h1,h2.1⟩ e (fun z=>nomatch z) h
 | @dT a nK ea =>
  cases (show u=Value.ref a from rx)
  obtain⟨_,_,xs,_,o,es,ep,h1,h2,_⟩:=(show cM X.prog X.w H s.heap a (.dT nK) from I.hok a _ ea)
  exact kia_one PySem.W.kitx_dict I.kIn ⟨o,h1,h2.1⟩ e (fun z=>nomatch z) h
 | @ins a C dx fs ea cl ha hn htk hm =>
  cases (show u=Value.ref a from rx)
  obtain⟨mA,O,_⟩:=Em I.hok ea
  obtain⟨od,J,_⟩:=O.look
  exact kia_one (PySem.W.kitx_own (cl.get _) cl.hd ha hn htk hm) I.kIn J e (fun z=>nomatch z) h
end
end L2
namespace L2
open PySem PySem.Spec PyProof.Rows
structure eM(k:Nat)(A:Around):Prop where
 hd:A.handled=none
 dp:A.depth+3*k+5 < recursionLimit
 un:A.units+16*k+200 < cLine
theorem eM.mono{j k:Nat}{A:Around}(r:eM k A)(h:j<=k):eM j A:=⟨r.hd,by have:=r.dp;omega,by have:=r.un;omega⟩
theorem eM.deeper{k:Nat}{A:Around}(r:eM (k+1) A)(env:Env):eM k (A.deeper env) :=
 ⟨r.hd,by have:=r.dp;show A.depth+1+3*k+5 < _;omega,by have:=r.un;show A.units+3+16*k+200 < _;omega⟩
theorem eM.depth{k:Nat}{A:Around}(r:eM k A):A.depth < recursionLimit:=by have:=r.dp;omega
theorem eM.units{k:Nat}{A:Around}(r:eM k A):A.units+64 < cLine:=by have:=r.un;omega
def xt:TA:=fun _ H Q=>Q [] H
def k_(ta:TE)(tr:TA):TA:=fun σ H Q=>ta σ H fun x H1=>tr σ H1 fun xs H2=>Q (x::xs) H2
section
variable {X:Cx}{e:Expr}{es:List Expr}{te:TE}{t:TA}{pos:Pos}
theorem JE:PA X [] xt:=fun _ _ _ _ H Q I h=>Calls.spliced_nil ⟨[],H,I,.nil,h⟩
theorem E3(ha:PE X e te)(hr:PA X es t)(hs:starEach (e::es) X.env=(false,eval e X.env)::starEach es X.env:=by rfl):PA X (e::es) (k_ te t):=by
 intro pos pins s σ H Q I h
 rw[hs]
 show wpAny _ _ (spliced ((false,eval e X.env)::backTo pos (starEach es X.env))) _ _ s
 refine Calls.spliced_cons (thn (ha pins s σ H _ I h) fun u s1 ⟨x,H1,I1,r1,q1⟩=>?_)
 exact thn (hr pos pins s1 σ H1 _ I1 q1) fun us s2 ⟨xs,H2,I2,r2,q2⟩=>⟨x::xs,H2,I2,.cons r1 r2,q2⟩
def Ea(t:TA):TE:=fun σ H Q=>t σ H fun xs H1=>xs.length<=sizeLine/\∀ p,H1 p=none->Q (.ref p) (upd H1 p (.tup xs))
def Fy(t:TA):TE:=fun σ H Q=>t σ H fun xs H1=>xs.length<=sizeLine/\∀ p,H1 p=none->Q (.ref p) (upd H1 p (.lst xs))
theorem GG{x1}(h:PA X es t):PE X (.Tuple es x1 pos) (Ea t):=by
 intro pins s σ H Q I hq
 refine wpAny_Tuple_spliced (thn (h pos pins s σ H _ I hq) fun us s1 ⟨xs,H1,I1,r,z,q⟩=>⟨by rw[<- r.length];exact z,?_⟩)
 have hf:H1 s1.heap.objs.size=none:=I1.hok.fresh (le_refl _)
 refine⟨.ref s1.heap.objs.size,upd H1 s1.heap.objs.size (.tup xs),I1.laid (t':=s1.toks) (fun b u e=>get?_push_of_some _ e) (le_refl _) ?_,rfl,q _ hf⟩
 exact⟨z,us,r,⟨_,get?_push_size _ rfl,rfl,_,rfl⟩⟩
theorem IG(h:PA X es t):PE X (.List es pos) (Fy t):=by
 intro pins s σ H Q I hq
 refine wpAny_List_spliced (thn (h pos pins s σ H _ I hq) fun us s1 ⟨xs,H1,I1,r,z,q⟩=>⟨by rw[<- r.length];exact z,?_⟩)
 have hf:H1 s1.heap.objs.size=none:=I1.hok.fresh (le_refl _)
 refine⟨.ref s1.heap.objs.size,upd H1 s1.heap.objs.size (.lst xs),I1.laid (t':=s1.toks) (fun b u e=>get?_push_of_some _ e) (le_refl _) ?_,rfl,q _ hf⟩
 exact⟨z,us,0,r,get?_push_size _ rfl⟩
end
abbrev Sp:=List V->Hp->VK->XK->Prop
abbrev CXT:=List Env->Hp->Shared->XK->Value->Shared->Prop
structure DF(P:Program)(w:World)(K:PySem.W.Frag)(mg:Str->Option Value)(base:Heap)(A:Around)(outer:List Env)(s:Shared)(H:Hp):Prop where
 frames:A.frames=some outer
 mod:Mod K mg base
 bs:∀ b o,base.get? b=some o->s.heap.get? b=some o/\H b=none
 bsz:base.objs.size<=s.heap.objs.size
 nO:s.heap.FunFrames base outer
 frf:∀ b∈frs outer,H b=none
 hok:HOk P w H s.heap
 bare:AllBare s.gens
def CE(outer:List Env)(P:Program)(w:World)(H:Hp)(s:Shared)(Q:VK)(u:Value)(s':Shared):Prop :=
 ∃ v H',s'.os=s.os/\AllBare s'.gens/\Un (frs outer) [] H H' s.heap s'.heap/\HOk P w H' s'.heap/\RelV v u/\Q v H'
def CR(CX:CXT)(outer:List Env)(P:Program)(w:World)(H:Hp)(s:Shared)(Q:VK)(E:XK)(r:Result)(s':Shared):Prop :=
 match r with
 | .ok (.ret u)=>CE outer P w H s Q u s'
 | .ok _=>False
 | .error e=>CX outer H s E e s'
structure mn(P:Program)(w:World)(K:PySem.W.Frag)(mg:Str->Option Value)(base:Heap)(CX:CXT)(k:Nat)(f:Addr)(fd:FuncData)(ps:List Str)(sp:Sp):Prop where
 len:∀ vs H Q E,sp vs H Q E->vs.length=ps.length
 run:∀(A:Around)(outer:List Env)(s:Shared)(H:Hp)(args:Args)(us:List Value)(vs:List V)(Q:VK)(E:XK),eM k A->DF P w K mg base A outer s H->BindsTo s fd args (ps.zip us)->bc vs us->sp vs H Q E ->
  codeAny (model P w) A (.call (.ref f) args) (CR CX outer P w H s Q E) s
section
variable {X:Cx}{pins:List (Addr×Obj)}{σ:St}{H:Hp}{s s':Shared}
theorem Inv.Na(I:Inv X pins σ H s):DF X.prog X.w X.K X.mg X.base X.A X.stack s H :=
 ⟨I.ok.frames,I.ok.mod,I.bs,le_trans I.ok.bsz I.sz,I.stack,I.mr,I.hok,I.bare⟩
theorem Inv.after{Q:VK}{u:Value}(I:Inv X pins σ H s)(h:CE X.stack X.prog X.w H s Q u s'):EP X pins σ Q u s':=by
 obtain⟨v,H',os,bare,un,hok,r,q⟩:=h
 obtain⟨hh,g,d,t,Ro⟩:=s'
 obtain rfl:Ro=s.os:=os
 exact⟨v,H',I.call (h':=hh) (g':=g) (d':=d) (t':=t) (ch:=[]) un hok bare (fun b z=>absurd z (by simp)),r,q⟩
end
def Ba(sp:Sp)(dvs:List V)(E:XK)(t:TA):TE:=fun σ H Q=>t σ H fun vs H1=>sp (vs++dvs) H1 Q E
def Binds(K:PySem.W.Frag)(fd:FuncData)(ps:List Str)(ds:List Value):Prop :=
 ∀(s:Shared)(us:List Value),K.In s.heap->(us++ds).length=ps.length->BindsTo s fd ⟨us,[]⟩ (ps.zip (us++ds))
theorem Binds.all{K:PySem.W.Frag}{fd:FuncData}{ps:List Str}(h:∀ us:List Value,us.length=ps.length->bindArgs fd ⟨us,[]⟩=pure (ps.zip us)):Binds K fd ps []:=fun s us _ hl=>by
 rw[append_nil] at hl |-
 exact .of_eq (h us hl)
def lx(CX:CXT)(X:Cx)(E:XK):Prop:=∀ (pins:List (Addr×Obj)) (σ:St) (H:Hp) (s:Shared) (e:Value) (s':Shared),Inv X pins σ H s->CX X.stack H s E e s'->X.xe e s'
section
variable {X:Cx}{CX:CXT}{k:Nat}{f C:Addr}{fd:FuncData}{ps:List Str}{sp:Sp}{dvs:List V}{ds:List Value}{E:XK}{x m:Str}{p pos apos:Pos}{e o:Expr}{es:List Expr}{ta:TE}{t:TA}
theorem Hk{pins:List (Addr×Obj)}{σ:St}{H:Hp}{s:Shared}{Q:VK}{us:List Value}{vs:List V}(F:mn X.prog X.w X.K X.mg X.base CX k f fd ps sp)(hr:eM k X.A)(hb:Binds X.K fd ps ds)(hd:bc dvs ds)(hx:lx CX X E)
  (I:Inv X pins σ H s) (r:bc vs us) (h:sp (vs++dvs) H Q E):wpAny (model X.prog X.w) X.A (call (.ref f) us) (EP X pins σ Q) X.xe s:=by
 have r2:bc (vs++dvs) (us++ds):=r.append hd
 have hl:(us++ds).length=ps.length:=by rw[<- r2.length];exact F.len _ _ _ _ h
 refine wpAny_call (codeAny_mono (F.run X.A X.stack s H ⟨us,[]⟩ (us++ds) (vs++dvs) Q E hr I.Na (hb s us I.kIn hl) r2 h) fun r s' hq=>?_)
 cases r with
 | error e=>exact hx pins σ H s e s' I hq
 | ok fl =>
  cases fl with
  | ret u=>exact I.after hq
  | next=>exact False.elim hq
  | brk=>exact False.elim hq
  | cont=>exact False.elim hq
theorem Dp(F:mn X.prog X.w X.K X.mg X.base CX k f fd ps sp)(hr:eM k X.A)(hg:Gl X x)(hm:X.mg x=some (.ref f))(hk:keepIn X.K (.ref f)=true)(hb:Binds X.K fd ps ds)(hd:bc dvs ds)(hx:lx CX X E)
  (ha:PA X (e::es) t) (hdb:(x == ("__debug__" : Str))=false:=by decide) (he:starEach (e::es) X.env=(false,eval e X.env)::starEach es X.env:=by rfl) (hpl:(backTo pos (starEach es X.env)).any (·.1)=false:=by rfl) :
  PE X (.Call (.Name x p) (e::es) [] pos) (Ba sp dvs E t):=by
 intro pins s σ H Q I h
 refine wpAny_Call_Name_kw (yp I hg hm ?_ hdb)
 refine PySem.W.callWith_K (h₀:=X.base) I.ok.mod.kin hk (thn (ha pos pins s σ H _ I h) fun us s1 ⟨vs,H1,I1,r,q⟩=>⟨I1.kIn,?_⟩) he hpl
 exact Hk F hr hb hd hx I1 r q
structure Mk(K:PySem.W.Frag)(C f:Addr):Prop where
 makes:PySem.W.makesIn K C=true
 init:findIn K (.ref C) "__init__" = some (some (.ref f))
 fn:isFn K (.ref f)=true
 kp:keepIn K (.ref C)=true
end
section
variable {X:Cx}{CX:CXT}{k:Nat}{f C:Addr}{fd:FuncData}{ps ks:List Str}{sp:Sp}{E:XK}{x m:Str}{p pos apos kpos:Pos}{e o:Expr}{es:List Expr}{kws:List Keyword}{te ta:TE}{t tk:TA}{nm:Option Str}
structure N9(K:PySem.W.Frag)(fd:FuncData)(ps ks:List Str)(g:List Value->List Value->List Value)(gV:List V->List V->List V):Prop where
 to:∀(s:Shared)(us ws:List Value),K.In s.heap->(g us ws).length=ps.length->BindsTo s fd ⟨us,ks.zip ws⟩ (ps.zip (g us ws))
 rel:∀{vs:List V}{us:List Value}{zs:List V}{ws:List Value},bc vs us->bc zs ws->bc (gV vs zs) (g us ws)
variable {g:List Value->List Value->List Value}{gV:List V->List V->List V}
end
structure az(N P:List Str)(sc:Scope):Prop where
 kind:sc.kind=.function
 co:sc.isCoroutine=false
 gen:sc.isGenerator=false
 nd:N.Nodup
 pre:N.take P.length=P
 par:∀ x∈P,sc.names.lookup x=some .local\/sc.names.lookup x=some .cell
 nofree:∀ y∈sc.names,y.2≠.free
theorem se{kindOf:Str->Option NameKind}{x:Str}:∀ {binds:List (Str×Value)} {m:Str->Option Value},(∀ v,(x,v)∉binds)->bindL kindOf binds m x=m x
 | [],_,_=>rfl
 | (n,v)::r,m,h=>by
  unfold bindL
  rw[se fun w hw=>h w (mem_cons_of_mem _ hw)]
  split
  ·have:x≠n:=by rintro rfl;exact h v mem_cons_self
   simp[this]
  ·rfl
theorem sf{kindOf:Str->Option NameKind}{x:Str}:∀ {binds:List (Str×Value)} {m:Str->Option Value},(∀ v,(x,v)∉binds)->bindC kindOf binds m x=m x
 | [],_,_=>rfl
 | (n,v)::r,m,h=>by
  unfold bindC
  rw[sf fun w hw=>h w (mem_cons_of_mem _ hw)]
  split
  ·rfl
  ·have:x≠n:=by rintro rfl;exact h v mem_cons_self
   simp[this]
theorem sg{kindOf:Str->Option NameKind}{x:Str}{v:Value}:∀{P:List Str}{vs:List Value}{i:Nat}{m:Str->Option Value},P.Nodup->P[i]?=some x->vs[i]?=some v->kindOf x=some .local ->
  bindL kindOf (P.zip vs) m x=some v
 | [],_,_,_,_,h,_,_=>by simp at h
 | _::_,[],_,_,_,_,h,_=>by simp at h
 | p::P,w::vs,0,m,nd,h1,h2,hk=>by
  simp at h1 h2;subst h1;subst h2
  show bindL kindOf ((p,w)::P.zip vs) m p=_
  unfold bindL
  rw[se fun v hv=>(nodup_cons.mp nd).1 (List.of_mem_zip hv).1,if_pos hk]
  simp
 | p::P,w::vs,i+1,m,nd,h1,h2,hk=>by
  show bindL kindOf ((p,w)::P.zip vs) m x=_
  unfold bindL
  exact sg (i:=i) (nodup_cons.mp nd).2 (by simpa using h1) (by simpa using h2) hk
theorem sx{kindOf:Str->Option NameKind}{x:Str}{v:Value}:∀{P:List Str}{vs:List Value}{i:Nat}{m:Str->Option Value},P.Nodup->P[i]?=some x->vs[i]?=some v->kindOf x≠some .local ->
  bindC kindOf (P.zip vs) m x=some v
 | [],_,_,_,_,h,_,_=>by simp at h
 | _::_,[],_,_,_,_,h,_=>by simp at h
 | p::P,w::vs,0,m,nd,h1,h2,hk=>by
  simp at h1 h2;subst h1;subst h2
  show bindC kindOf ((p,w)::P.zip vs) m p=_
  unfold bindC
  rw[sf fun v hv=>(nodup_cons.mp nd).1 (List.of_mem_zip hv).1,if_neg hk]
  simp
 | p::P,w::vs,i+1,m,nd,h1,h2,hk=>by
  show bindC kindOf ((p,w)::P.zip vs) m x=_
  unfold bindC
  exact sx (i:=i) (nodup_cons.mp nd).2 (by simpa using h1) (by simpa using h2) hk
def start(N:List Str)(vs:List V):St:=vs.map some++replicate (N.length - vs.length) none
def vm(CX:CXT)(P:Program)(w:World)(K:PySem.W.Frag)(mg:Str->Option Value)(base:Heap)(N:List Str)(qual:Str)(scope:Scope)(f:Addr)(cd:Value)(A:Around)(outer:List Env)(s:Shared)(H:Hp)(E:XK):Cx where
 prog:=P
 w:=w
 K:=K
 mg:=mg
 base:=base
 A:=A.deeper (envOfC qual scope s.heap.objs.size f cd)
 N:=N
 s₀:=s
 H₀:=H
 env:=envOfC qual scope s.heap.objs.size f cd
 outer:=outer
 stack:=envOfC qual scope s.heap.objs.size f cd::outer
 ex:=[]
 calm:=true
 fn:=fun _=>true
 pn:=[]
 xe:=fun e s'=>wpAny (model P w) (A.deeper (envOfC qual scope s.heap.objs.size f cd)) (leaving (envOfC qual scope s.heap.objs.size f cd) e) (fun _ Ag=>CX outer H s E e Ag) (fun e' Ag=>CX outer H s E e' Ag) s'
theorem vL{sc:Scope}{n:Nat}{x:Str}(h:sc.names.lookup x=some .cell):∃ c,(cellsFrom n sc.names []).lookup x=some c:=by
 have q:=PySem.W.cellsFrom_some sc.names n [] (.inl h)
 exact Option.isSome_iff_exists.mp q
theorem Ab{CX:CXT}{P:Program}{w:World}{K:PySem.W.Frag}{mg:Str->Option Value}{base:Heap}{N ps:List Str}{qual:Str}{scope:Scope}{f:Addr}{cd:Value}{A:Around}{outer:List Env}{s s1:Shared}{H:Hp}{E:XK}{us:List Value}{vs:List V}
  (S:az N ps scope) (hd:A.handled=none) (e0:DF P w K mg base A outer s H) (hl:vs.length=ps.length) (r:bc vs us)
  (x:InCallC s s.heap.objs.size (bindL (envOfC qual scope s.heap.objs.size f cd).kindOf (ps.zip us) fun _=>none) (cellsFrom (s.heap.objs.size+1) scope.names []) (bindC (envOfC qual scope s.heap.objs.size f cd).kindOf (ps.zip us) fun _=>none) s1) :
  Inv (vm CX P w K mg base N qual scope f cd A outer s H E) [] (start N vs) H s1:=by
 have hpl:ps.length<=N.length:=by have:=congrArg List.length S.pre;rw[length_take] at this;omega
 obtain⟨h1,tk,rfl,hk⟩:=x.done
 have J_:∀ b:Addr,b∉(vm CX P w K mg base N qual scope f cd A outer s H E).ex:=fun b z=>absurd (show b∈([]:List Addr) from z) (by simp)
 refine⟨⟨e0.mod,S.kind,rfl,rfl,le_refl _,fun y z c h1 h2=>?_,fun y hy=>?_,fun y c _ h=>?_,fun _=>hd,Around.frames_deeper e0.frames,.inr ⟨rfl,rfl⟩,fun b z=>absurd z (J_ b),e0.bs,e0.bsz,fun b _ _=>J_ b,fun b z=>absurd z (J_ b),e0.nO,e0.frf⟩,
  rfl,e0.bare,Un.kept hk,⟨_,x.toInCall.ns,fun i y v h1 h2 h3=>?_⟩,fun y c h=>⟨_,x.cell y c h⟩,e0.hok.fresh (le_refl _),fun y c h=>?_,fun p hp=>absurd (show p∈([]:List (Addr×Obj)) from hp) (by simp),e0.hok.kept hk,?_⟩
 ·exact name_of_addr x.apart (PySem.mem_of_lookup h1) (PySem.mem_of_lookup h2)
 ·have hy:scope.names.lookup y=some .cell\/scope.names.lookup y=some .free:=hy
  rcases hy with hy | hy
  ·exact vL hy
  ·exact absurd rfl (S.nofree _ (PySem.mem_of_lookup hy))
 ·exact Nat.le_of_lt (x.above y c (PySem.mem_of_lookup h))
 ·have hi:i < vs.length:=by
   unfold start at h2
   by_cases hi:i < vs.length
   ·exact hi
   ·rw[getElem?_append_right (by simpa using hi)] at h2
    rw[getElem?_replicate] at h2
    split at h2<;>cases h2
  have ha:vs[i]?=some v:=by
   unfold start at h2
   rw[getElem?_append_left (by simpa using hi),getElem?_map] at h2
   cases e:vs[i]? with
   | none=>rw[e] at h2;cases h2
   | some a=>rw[e] at h2;cases h2;rfl
  obtain⟨u,hu,rv⟩:=r.get ha
  have hp:ps[i]?=some y:=by
   rw[<- S.pre,List.getElem?_take_of_lt (by omega)];exact h1
  have OF:ps.Nodup:=by rw[<- S.pre];exact S.nd.sublist (List.take_sublist _ _)
  refine⟨u,rv,?_⟩
  rcases S.par y (mem_of_getElem? hp) with k | k
  ·exact .inl ⟨k,sg OF hp hu k⟩
  ·obtain⟨c,e⟩:=vL (n:=s.heap.objs.size+1) k
   refine .inr ⟨.inl k,c,e,?_⟩
   have q:=x.cell y c e
   rw[sx OF hp hu (by show scope.names.lookup y≠_;rw[k];decide)] at q
   exact q
 ·exact e0.hok.fresh (Nat.le_of_lt (x.above y c (PySem.mem_of_lookup h)))
 ·unfold start
  show _=N.length
  rw[length_append,length_map,length_replicate]
  omega
theorem FX{CX:CXT}{P:Program}{w:World}{K:PySem.W.Frag}{mg:Str->Option Value}{base:Heap}{k:Nat}{f:Addr}{name qual:Str}{params:Arguments}{body:List Stmt}{scope:Scope}{dV kV doc pm bW ct oc:Value}{an od:Option Addr}
  {osl:Array (Option Value)} {N ps:List Str} {sp:Sp} (lk:K.lookup f=some ⟨oc,od,.func (fnOf name qual params body scope dV kV doc pm an bW ct),osl⟩) (hcd:codeIn K bW qual=true) (S:az N ps scope)
  (len:∀ vs H Q E,sp vs H Q E->vs.length=ps.length)
  (hbody:∀(A:Around)(outer:List Env)(s:Shared)(H:Hp)(vs:List V)(Q:VK)(E:XK),eM k (A.deeper (envOfC qual scope s.heap.objs.size f bW))->sp vs H Q E ->
   ∃ t,PSs (vm CX P w K mg base N qual scope f bW A outer s H E) body t/\t { nx:=fun _ H'=>Q .non H',rt:=Q } (start N vs) H) :
  mn P w K mg base CX (k+1) f (fnOf name qual params body scope dV kV doc pm an bW ct) ps sp:=by
 refine⟨len,fun A outer s H args us vs Q E hr e0 hb r hsp=>?_⟩
 have hl:=len _ _ _ _ hsp
 have KX:K.In s.heap:=e0.mod.kin.keeps fun b o e=>(e0.bs b o e).1
 have lim:s.heap.NoLimit:=e0.mod.nolimit.keeps fun b o e=>(e0.bs b o e).1
 have hkind:∀ y∈ps.zip us,scope.names.lookup y.1=some .local\/(scope.names.lookup y.1=some .cell/\((cellsFrom (s.heap.objs.size+1) scope.names []).lookup y.1).isSome=true):=fun ⟨n,v⟩ hy=>by
  rcases S.par n (List.of_mem_zip hy).1 with q | q
  ·exact .inl q
  ·exact .inr ⟨q,PySem.W.cellsFrom_some _ _ _ (.inl q)⟩
 refine codeAny_call_function hr.depth (KX _ _ lk) rfl S.co S.gen rfl (PySem.W.codeRec_of KX hcd) (hb _ _ _ _ ?_)
 refine wpAny_newFunctionEnv_cells S.kind hkind fun env he s1 x=>?_
 subst he
 refine⟨lim.keeps x.toInCall.keep,codeAny_func ?_⟩
 obtain⟨t,ht,hq⟩:=hbody A outer s H vs Q E (hr.deeper _) hsp
 have I:Inv (vm CX P w K mg base N qual scope f bW A outer s H E) [] (start N vs) H s1:=Ab S hr.hd e0 hl r x
 refine wpAny_mono (ht [] s1 (start N vs) H _ I hq) (fun fl s' hs=>?_) fun e s' hs=>hs
 have fin:∀{σ':St}{H':Hp}{v:V}{u:Value},Inv (vm CX P w K mg base N qual scope f bW A outer s H E) [] σ' H' s'->RelV v u->Q v H'->CE outer P w H s Q u s' :=
  fun {σ' H' v u} J rv q=>⟨v,H',J.os,J.bare,J.base,J.hok,rv,q⟩
 cases fl with
 | ret u =>
  obtain⟨v,σ',H',J,rv,q⟩:=hs
  exact fin J rv q
 | next =>
  obtain⟨σ',H',J,q⟩:=hs
  exact fin (v:=V.non) (u:=Value.none) J rfl q
 | brk =>
  obtain⟨_,_,_,q⟩:=hs
  exact False.elim q
 | cont =>
  obtain⟨_,_,_,q⟩:=hs
  exact False.elim q
end L2
namespace L2
open PySem PySem.Spec PyProof.Rows
section
variable {X:Cx}{x:Str}{p pos:Pos}{e:Expr}{es:List Expr}{t:TA}{id T:String}{r:List V->Hp->VK->Prop}
def tCB(r:List V->Hp->VK->Prop)(t:TA):TE:=fun σ H Q=>t σ H fun vs H1=>r vs H1 Q
theorem CV(hc:fJ X (.builtin id) r)(hg:Gl X x)(hm:X.mg x=none)(hv:bootBuiltins x=some (.builtin id))(ha:PA X (e::es) t)(hn:x ≠ "__name__" := by decide)(hdb:(x == ("__debug__" : Str))=false:=by decide)
  (he:starEach (e::es) X.env=(false,eval e X.env)::starEach es X.env:=by rfl) (hpl:(backTo pos (starEach es X.env)).any (·.1)=false:=by rfl):PE X (.Call (.Name x p) (e::es) [] pos) (tCB r t):=by
 intro pins s σ H Q I h
 refine wpAny_Call_Name_kw (kv I hg hm hv ?_ hn hdb)
 exact PyProof.Rows.callWith_builtin1 (thn (ha pos pins s σ H _ I h) fun us s1 ⟨vs,H1,I1,r1,q1⟩=>hc pins s1 σ H1 vs us Q I1 r1 q1) he hpl
theorem zN(hc:fJ X (.type T) r)(hg:Gl X x)(hm:X.mg x=none)(hv:bootBuiltins x=some (.type T))(ha:PA X (e::es) t)(hn:x ≠ "__name__" := by decide)(hdb:(x == ("__debug__" : Str))=false:=by decide)
  (he:starEach (e::es) X.env=(false,eval e X.env)::starEach es X.env:=by rfl) (hpl:(backTo pos (starEach es X.env)).any (·.1)=false:=by rfl):PE X (.Call (.Name x p) (e::es) [] pos) (tCB r t):=by
 intro pins s σ H Q I h
 refine wpAny_Call_Name_kw (kv I hg hm hv ?_ hn hdb)
 exact PyProof.Rows.callWith_type1 (thn (ha pos pins s σ H _ I h) fun us s1 ⟨vs,H1,I1,r1,q1⟩=>hc pins s1 σ H1 vs us Q I1 r1 q1) he hpl
end
end L2
namespace HT
open PySem PyProof.Rows
def lexLt:List Int->List Int->Bool
 | [],[]=>false
 | [],_::_=>true
 | _::_,[]=>false
 | x::xs,y::ys=>if x=y then lexLt xs ys else decide (x < y)
theorem xu(x y:Int)(xs ys:List Int):lexLt (x::xs) (y::ys)=if x=y then lexLt xs ys else decide (x < y):=rfl
theorem qV:lexLt [] []=false:=rfl
theorem pJ(y:Int)(ys:List Int):lexLt [] (y::ys)=true:=rfl
theorem pw(x:Int)(xs:List Int):lexLt (x::xs) []=false:=rfl
theorem Cy(A:Around)(s:Shared)(a:Int)(t:Tok)(c:Int)(u:Tok):∃ e,SeqAt.EqAt A s (.int a t) (.int c u) e/\(e=true↔a=c) :=
 ⟨(a == c),SeqAt.EqAt.int_int a t c u,by simp⟩
theorem Bh(A:Around)(s:Shared)(a:Int)(t:Tok)(c:Int)(u:Tok)(prog:Program)(w:World)(E:Value->Shared->Prop)(Q:Value->Shared->Prop)(h:Q (.bool (decide (a < c))) s) :
  wpAny (model prog w) A (richCompare .Lt (.int a t) (.int c u)) Q E s :=
 (PyProof.Rows.lt_int h:wpAny (model prog w) A (compareOp .Lt (.int a t) (.int c u)) Q E s)
section
open PySem.SeqAt
open PySem.AutoSeq1 (wpAny_loadPart')
open PySem.MeetsSeq PySem.MeetsSeq2 PySem.MeetsSeq3
theorem qZ(l b:Addr)(items nQ:Array Value)(n n2:Nat)(dd JL:Option Addr)(sl Gi:Array (Option Value))(ns ms:List Int)(hi:IntsAre items.toList ns)(hj:IntsAre nQ.toList ms) :
  Meets (Builtin.«tuple.__lt__» ⟨[.ref l,.ref b],[]⟩)
   (fun _ R s=>s.heap.get? l=some { cls:=.type "tuple", dict:=dd,data:=.seq items n,slots:=sl }/\s.heap.get? b=some { cls:=.type "tuple", dict:=JL,data:=.seq nQ n2,slots:=Gi } /\
    R (.ok (.ret (.bool (lexLt ns ms)))) s) :=
 .of_wp fun prog w A R s h=>by
  obtain⟨hp,g,d,tk,os⟩:=s;obtain⟨hl,hb,h⟩:=h
  have f2:=AutoSeq1.sub_tuple_tuple
  have z1:items.size=ns.length:=by rw[<- hi.length];simp
  have z2:nQ.size=ms.length:=by rw[<- hj.length];simp
  wp_walk using wpAny_loadPart' hl,wpAny_loadPart' hb,wpAny_forIn_list _ (fun rest b s'=>b.1=none/\s'=⟨hp,g,d,tk,os⟩/\∃(vs ws:List Value)(JN JT:List Int),rest=vs.zip ws /\
   IntsAre vs JN/\IntsAre ws JT/\JN.length+nQ.size=JT.length+items.size/\R (.ok (.ret (.bool (lexLt JN JT)))) ⟨hp,g,d,tk,os⟩) _
  case turn =>
   rintro ⟨y,x⟩ rest b s' ⟨C2,rfl,vs,ws,JN,JT,hz,hvi,hwi,hlen,hR⟩
   cases hvi with
   | nil=>rw[List.zip_nil_left] at hz;cases hz
   | cons a t NR =>
    cases hwi with
    | nil=>rw[List.zip_nil_right] at hz;cases hz
    | cons c u MY =>
     rw[List.zip_cons_cons] at hz
     injection hz with hyx hrest
     injection hyx with hy hx
     subst hy hx
     rw[xu] at hR
     simp only[length_cons] at hlen
     obtain⟨e,he,hiff⟩:=Cy A.in1 ⟨hp,g,d,tk,os⟩ a t c u
     refine wpAny_bind (he prog w _ _ ?_)
     cases e with
     | true =>
      rw[if_pos (hiff.mp rfl)] at hR
      wp_walk
      exact⟨rfl,rfl,_,_,_,_,hrest,NR,MY,by omega,hR⟩
     | false =>
      rw[if_neg (fun q=>absurd (hiff.mpr q) Bool.false_ne_true)] at hR
      have hri:=Bh A.in1 ⟨hp,g,d,tk,os⟩ a t c u prog w
      wp_walk using hri
      exact⟨_,rfl,by simpa using hR⟩
  case fin =>
   rintro ⟨b1,b2⟩ s' ⟨C2,rfl,vs,ws,JN,JT,hz,hvi,hwi,hlen,hR⟩
   simp only at C2
   subst C2
   have hv:lexLt JN JT=decide (items.size < nQ.size):=by
    cases hvi with
    | nil =>
     cases hwi with
     | nil =>
      simp only[length_nil] at hlen
      rw[qV]
      exact (decide_eq_false (by omega)).symm
     | cons c u hw =>
      simp only[length_nil,length_cons] at hlen
      rw[pJ]
      exact (decide_eq_true (by omega)).symm
    | cons a t hv =>
     cases hwi with
     | nil =>
      simp only[length_nil,length_cons] at hlen
      rw[pw]
      exact (decide_eq_false (by omega)).symm
     | cons c u hw =>
      rw[List.zip_cons_cons] at hz
      cases hz
   rw[hv] at hR
   wp_walk
   exact⟨_,rfl,by simpa [Builtin.Tuple.tupleCompareSizes] using hR⟩
  case h =>
   exact⟨rfl,rfl,items.toList,nQ.toList,ns,ms,rfl,hi,hj,by omega,h⟩
end
section
variable {prog:Program}{w:World}{A:Around}{E:Value->Shared->Prop}{s:Shared}
theorem Fp{t b:Addr}{vs ws:List Value}{Q:Value->Shared->Prop}(ht:IsTup s.heap t vs.toArray)(hb:IsTup s.heap b ws.toArray)(hv:vs≠[])
  (h1:ws=[]->Q (.ref t) s) (h2:ws≠[]->Q (.ref s.heap.objs.size) { s with heap:=s.heap.push { cls:=.type "tuple", data:=.seq (vs++ws).toArray } })
  (hsz:vs.length+ws.length<=sizeLine):wpAny (model prog w) A (binaryOp .Add (.ref t) (.ref b)) Q E s:=by
 obtain⟨⟨cls,dd,data,sl⟩,ho,hc,n,hd⟩:=id ht
 obtain⟨⟨MP,JL,data2,Gi⟩,DC,uO,n2,hd2⟩:=id hb
 simp only at hc hd uO hd2
 subst hc hd uO hd2
 have e:vs.toArray++ws.toArray=(vs++ws).toArray:=by simp
 by_cases hw:ws=[]
 ·exact concat_meets ⟨_,ho,rfl⟩ ⟨_,DC,rfl⟩ noFill_tuple_add seq_tuple_add PySem.F.slot_tuple_add PySem.F.entry_tuple_add (PySem.F.args_tuple_add_2 _ _)
   (tuple_addW1 t b vs.toArray ws.toArray n n2 dd JL sl Gi (by simpa using hv) (by simp[hw])) ⟨ho,DC,h1 hw⟩
 ·refine concat_meets ⟨_,ho,rfl⟩ ⟨_,DC,rfl⟩ noFill_tuple_add seq_tuple_add PySem.F.slot_tuple_add PySem.F.entry_tuple_add (PySem.F.args_tuple_add_2 _ _)
   (tuple_addW2 t b vs.toArray ws.toArray n n2 dd JL sl Gi (by simpa using hv) (by simpa using hw) (by rw[size_toArray,size_toArray];exact hsz)) ⟨ho,DC,?_⟩
  rw[e]
  exact h2 hw
def sIx(n d:Nat):Option Int->Nat
 | none=>d
 | some v=>if v < 0 then (v+(n:Int)).toNat else min v.toNat n
theorem A_(n d:Nat):sIx n d none=d:=rfl
theorem Fl(n d k:Nat):sIx n d (some (k:Int))=min k n:=by
 show (if (k:Int) < 0 then ((k:Int)+(n:Int)).toNat else min (k:Int).toNat n)=min k n
 rw[if_neg (by omega),toNat_natCast]
theorem GW(n d:Nat)(hd:d<=n)(o:Option Int):sIx n d o<=n:=by
 cases o with
 | none=>exact hd
 | some v =>
  show (if v < 0 then (v+(n:Int)).toNat else min v.toNat n)<=n
  by_cases hv:v < 0
  ·rw[if_pos hv];omega
  ·rw[if_neg hv];exact Nat.min_le_right _ _
theorem xT(v:Int)(n d:Nat):(if v < 0 then max (v+(n:Int)) 0 else min v (n:Int))=((sIx n d (some v):Nat):Int):=by
 show (if v < 0 then max (v+(n:Int)) 0 else min v (n:Int))=(((if v < 0 then (v+(n:Int)).toNat else min v.toNat n):Nat):Int)
 by_cases hv:v < 0
 ·simp only[if_pos hv];omega
 ·simp only[if_neg hv];omega
theorem wq(lo hi:Option Int)(n:Nat):Builtin.Slice.sliceAdjust lo hi 1 (n:Int)=(((sIx n 0 lo:Nat):Int),((sIx n n hi:Nat):Int)):=by
 have h1:¬ ((1:Int) < 0):=by omega
 unfold Builtin.Slice.sliceAdjust
 simp only[h1,if_false]
 refine Prod.ext ?_ ?_
 ·cases lo with
  | none=>rfl
  | some v=>exact xT v n 0
 ·cases hi with
  | none=>rfl
  | some v=>exact xT v n n
theorem wg(i j:Nat):Builtin.Slice.slicePlaces (i:Int) (j:Int) 1=j - i:=by
 unfold Builtin.Slice.slicePlaces
 have h1:(1:Int) > 0:=by omega
 simp only[h1,if_true,Int.ediv_one]
 split<;>omega
theorem qD{v:Value}{o:Option Int}{Q:Option Int->Shared->Prop}(p:IsPart v o)(h:Q o s):wpAny (model prog w) A (Builtin.Slice.slicePartIndex v) Q E s:=by
 cases p with
 | none=>exact slicePart_none h
 | int i t=>exact slicePart_int h
theorem iQ{sl:Addr}{vl vu:Value}{lo hi:Option Int}{n:Nat}{Q:Int×Int×Nat->Shared->Prop}(hs:s.heap.IsSliceOf sl vl vu .none)(pl:IsPart vl lo)(pu:IsPart vu hi)
  (h:Q (((sIx n 0 lo:Nat):Int),1,sIx n n hi - sIx n 0 lo) s):wpAny (model prog w) A (Builtin.Slice.sliceApplied (.ref sl) (pure (n:Int))) Q E s:=by
 obtain⟨os,hos,hcs,hds⟩:=id hs
 unfold Builtin.Slice.sliceApplied Builtin.Slice.sliceFields
 refine wpAny_bind (wpAny_bind (wpAny_field hos hds (x:=vl) rfl (wpAny_bind (wpAny_field hos hds (x:=vu) rfl (wpAny_bind (wpAny_field hos hds (x:=.none) rfl (wpAny_pure ?_)))))))
 refine wpAny_bind (slicePart_none ?_)
 show wpAny _ _ (if ((1:Int) == 0)=true then _ else _) _ _ s
 rw[if_neg (by decide)]
 refine wpAny_bind (qD pl (wpAny_bind (qD pu (wpAny_bind (wpAny_pure ?_)))))
 show wpAny _ _ (match Builtin.Slice.sliceAdjust lo hi 1 (n:Int) with | (lo,hi)=>pure (lo,(1:Int),Builtin.Slice.slicePlaces lo hi 1)) _ _ s
 rw[wq lo hi n]
 show wpAny _ _ (pure (((sIx n 0 lo:Nat):Int),(1:Int),Builtin.Slice.slicePlaces ((sIx n 0 lo:Nat):Int) ((sIx n n hi:Nat):Int) 1)) _ _ s
 rw[wg]
 exact wpAny_pure h
theorem Ce(xs:Array Value)(i k:Nat):((range k).filterMap fun (m:Nat)=>xs[((i:Int)+(m:Int)*1).toNat]?).toArray=((xs.toList.drop i).take k).toArray:=by
 have e:(fun (m:Nat)=>xs[((i:Int)+(m:Int)*1).toNat]?)=fun m=>xs[i+m]?:=by
  funext m
  have:((i:Int)+(m:Int)*1).toNat=i+m:=by omega
  rw[this]
 rw[e]
 have:=pick_run xs i k
 rw[List.filterMap_map] at this
 have e2:((fun x=>xs[x]?) ∘ fun x=>i+x)=fun m=>xs[i+m]?:=rfl
 rw[e2] at this
 rw[this]
theorem mJ{t sl:Addr}{items:Array Value}{vl vu:Value}{lo hi:Option Int}{Q:Value->Shared->Prop}(ht:IsTup s.heap t items)(hs:s.heap.IsSliceOf sl vl vu .none)(pl:IsPart vl lo)(pu:IsPart vu hi)
  (hw:¬ (sIx items.size 0 lo=0/\sIx items.size items.size hi=items.size))
  (h:Q (.ref s.heap.objs.size) { s with heap:=s.heap.push { cls:=.type "tuple", data:=.seq ((items.toList.drop (sIx items.size 0 lo)).take (sIx items.size items.size hi - sIx items.size 0 lo)).toArray } })
  (hsz:items.size<=sizeLine):wpAny (model prog w) A (getItem (.ref t) (.ref sl)) Q E s:=by
 have htake:sizeOk (.seq ((items.toList.drop (sIx items.size 0 lo)).take (sIx items.size items.size hi - sIx items.size 0 lo)).toArray):=by
  show ((items.toList.drop (sIx items.size 0 lo)).take (sIx items.size items.size hi - sIx items.size 0 lo)).toArray.size<=sizeLine
  rw[size_toArray,length_take,length_drop,length_toList]
  omega
 have hj:sIx items.size items.size hi<=items.size:=GW _ _ (le_refl _) hi
 obtain⟨os,hos,hcs,hds⟩:=id hs
 have NC:s.TypeIs (.ref sl) "slice" := ⟨os,hos,hcs⟩
 unfold getItem
 try with_reducible refine wpAny_holding ?_
 first | refine wpAny_bind (wpAny_pure ?_) | skip
 refine wpAny_bind (wpAny_sequenceKey ht.typeIs (by decide) ?_)
 refine wpAny_bind (wpAny_callSpecial?_slot (name:=Str.ofString "__getitem__") ht.typeIs PyProof.Rows.slot_tuple_getitem
  (wpAny_call_entry PyProof.Rows.slot_tuple_getitem ht.typeIs entry_tuple_getitem ?_ (args_tuple_getitem _ _)))
 show wpAny _ _ (Builtin.Tuple.tupleItemsOf (.ref t) >>= _) _ _ s
 refine wpAny_bind (tupleItemsOf_ ht ?_)
 refine wpAny_bind (wpAny_typeOf NC ?_)
 rw[if_pos (by decide)]
 refine wpAny_bind (iQ hs pl pu ?_)
 have hno:¬ ((((sIx items.size 0 lo:Nat):Int) == 0 && (1:Int) == 1 && (sIx items.size items.size hi - sIx items.size 0 lo) == items.size)=true):=by
  intro q
  rw[and_eq_true,and_eq_true] at q
  have q1:((sIx items.size 0 lo:Nat):Int)=0:=eq_of_beq q.1.1
  have q2:sIx items.size items.size hi - sIx items.size 0 lo=items.size:=eq_of_beq q.2
  exact hw ⟨by omega,by omega⟩
 show wpAny _ _ (if (((sIx items.size 0 lo:Nat):Int) == 0 && (1:Int) == 1 && (sIx items.size items.size hi - sIx items.size 0 lo) == items.size)=true then _ else _) _ _ s
 rw[if_neg hno,Ce]
 first
  | exact wpAny_bind (m:=Builtin.Tuple.tupleExact _) (wpAny_newObj_type (wpAny_pure ⟨_,rfl,wpAny_pure h⟩) htake)
  | exact wpAny_bind (m:=Builtin.Tuple.tupleExact _) (wpAny_newObj_type (wpAny_bind (wpAny_pure (wpAny_pure ⟨_,rfl,wpAny_pure h⟩))) htake)
  | exact wpAny_bind (wpAny_bind (m:=Builtin.Tuple.tupleExact _) (wpAny_newObj_type (wpAny_pure (wpAny_pure ⟨_,rfl,wpAny_pure h⟩)) htake))
  | exact wpAny_bind (wpAny_bind (m:=Builtin.Tuple.tupleExact _) (wpAny_newObj_type (wpAny_pure ⟨_,rfl,wpAny_pure h⟩) htake))
end
end HT
namespace L2
open PySem PySem.Spec PyProof.Rows
abbrev TO:=St->Hp->(Option Int->Hp->Prop)->Prop
def PO(X:Cx)(e:Option Expr)(t:TO):Prop :=
 ∀ (pins:List (Addr×Obj)) (s:Shared) (σ:St) (H:Hp) (Q:Option Int->Hp->Prop),Inv X pins σ H s->t σ H Q ->
  wpAny (model X.prog X.w) X.A (evalPart e X.env) (fun u s'=>∃ o H',Inv X pins σ H' s'/\IsPart u o/\Q o H') X.xe s
def tw:TO:=fun _ H Q=>Q none H
def AK(t:TE):TO:=fun σ H Q=>t σ H fun x H1=>∃ i,x=.int i/\Q (some i) H1
section
variable {X:Cx}{e:Expr}{te:TE}{lo hi:Option Expr}{tl th:TO}{pos p2:Pos}
theorem Ec:PO X none tw:=by
 intro pins s σ H Q I h
 rw[evalPart_none]
 exact wpAny_pure ⟨none,H,I,.none,h⟩
theorem El(h:PE X e te):PO X (some e) (AK te):=by
 intro pins s σ H Q I hw
 rw[evalPart_some]
 refine thn (h pins s σ H _ I hw) fun u s1 ⟨x,H1,I1,r1,q1⟩=>?_
 obtain⟨i,rfl,q⟩:=q1
 obtain⟨t,rfl⟩:=r1
 exact⟨some i,H1,I1,.int i t,q⟩
def SlR(X:Cx)(r:V->Option Int->Option Int->Hp->VK->Prop):Prop :=
 ∀ (pins:List (Addr×Obj)) (s:Shared) (σ:St) (H:Hp) (x:V) (v vl vu:Value) (lo hi:Option Int) (sl:Addr) (Q:VK),Inv X pins σ H s->RelV x v->s.heap.IsSliceOf sl vl vu .none->IsPart vl lo->IsPart vu hi->r x lo hi H Q ->
  ∃ T id,typeLookup (.type T) "__getitem__" = pure (some (.builtin id))/\s.TypeIs v T/\wpAny (model X.prog X.w) X.A (getItem v (.ref sl)) (EP X pins σ Q) X.xe s
def tSl(r:V->Option Int->Option Int->Hp->VK->Prop)(te:TE)(tl th:TO):TE:=fun σ H Q=>te σ H fun x H1=>tl σ H1 fun l H2=>th σ H2 fun u H3=>r x l u H3 Q
theorem Bc{r:V->Option Int->Option Int->Hp->VK->Prop}(hr:SlR X r)(he:PE X e te)(hl:PO X lo tl)(hu:PO X hi th):PE X (.Subscript e (.Slice lo hi none p2) pos) (tSl r te tl th):=by
 intro pins s σ H Q I h
 refine Subscript_ (thn (he pins s σ H _ I h) fun v s1 ⟨x,H1,I1,r1,q1⟩=>?_)
 refine wpAny_Slice (thn (hl pins s1 σ H1 _ I1 q1) fun vl s2 ⟨l,H2,I2,pl,q2⟩=>thn (hu pins s2 σ H2 _ I2 q2) fun vu s3 ⟨u,H3,I3,pu,q3⟩=>?_)
 rw[evalPart_none]
 refine wpAny_pure ?_
 have I4:Inv X pins σ H3 { s3 with heap:=s3.heap.push { cls:=.type "slice", data:=.fields #[vl,vu,.none] } }:=I3.kept (t':=s3.toks) fun b ob q=>get?_push_of_some _ q
 obtain⟨T,id,hT,ht,hg⟩:=hr pins { s3 with heap:=s3.heap.push { cls:=.type "slice", data:=.fields #[vl,vu,.none] } } σ H3 x v vl vu l u s3.heap.objs.size Q I4 r1 (Heap.IsSliceOf.new ..) pl pu q3
 show wpAny (model X.prog X.w) X.A (subscriptTail e (.Slice lo hi none p2) v (.ref s3.heap.objs.size)) (EP X pins σ Q) X.xe { s3 with heap:=s3.heap.push { cls:=.type "slice", data:=.fields #[vl,vu,.none] } }
 exact tail_any (ops:=[.ref s3.heap.objs.size,v]) ht hT hg (by with_unfolding_all rfl)
def lA(xs:List V)(lo hi:Option Int):List V:=(xs.drop (HT.sIx xs.length 0 lo)).take (HT.sIx xs.length xs.length hi - HT.sIx xs.length 0 lo)
theorem oa(xs:List V)(lo hi:Option Int):(lA xs lo hi).length<=xs.length:=by
 unfold lA
 rw[length_take,length_drop]
 omega
def NF(K:PySem.W.Frag):V->Option Int->Option Int->Hp->VK->Prop:=fun x lo hi H Q=>∃ a xs,x=.ref a/\SqT K H a xs /\
 ¬ (HT.sIx xs.length 0 lo=0/\HT.sIx xs.length xs.length hi=xs.length)/\∀ p,H p=none->Q (.ref p) (upd H p (.tup (lA xs lo hi)))
theorem HL:SlR X (NF X.K):=by
 intro pins s σ H x v vl vu lo hi sl Q I rx hs pl pu h
 obtain⟨a,xs,rfl,hx,hw,q⟩:=h
 cases rx
 obtain⟨aN,r,ht,hz⟩:=I.tuple hx
 have hlen:aN.toArray.size=xs.length:=by rw[size_toArray];exact r.length.symm
 refine⟨"tuple", _,PyProof.Rows.slot_tuple_getitem.lookup,ht.typeIs,?_⟩
 refine HT.mJ ht hs pl pu (by rw[hlen];exact hw) ?_ (by rw[hlen];exact hz)
 rw[hlen]
 refine⟨.ref s.heap.objs.size,_,I.laid (t':=s.toks) (o:=.tup (lA xs lo hi)) (fun b ob q=>get?_push_of_some _ q) (le_refl _) ?_,rfl,q _ (I.hok.fresh (le_refl _))⟩
 exact⟨le_trans (oa xs lo hi) hz,_,(r.drop (HT.sIx xs.length 0 lo)).take (HT.sIx xs.length xs.length hi - HT.sIx xs.length 0 lo),IsTup.new _ _⟩
def K0(K:PySem.W.Frag):R2:=fun x y H Q=>∃ a b xs ys,x=.ref a/\y=.ref b/\SqT K H a xs/\SqT K H b ys/\xs≠[]/\xs.length+ys.length<=sizeLine /\
 (ys=[]->Q (.ref a) H)/\(ys≠[]->∀ p,H p=none->Q (.ref p) (upd H p (.tup (xs++ys))))
theorem bc.uJ{xs:List V}{us:List Value}(r:bc xs us):us=[]↔xs=[]:=by
 cases r with
 | nil=>simp
 | cons _ _=>simp
theorem Ei:OpR X (binaryOp .Add) (K0 X.K):=by
 intro pins s σ H x y v u Q I rx ry h
 obtain⟨a,b,xs,ys,rfl,rfl,ha,hb,hx,hz,q1,q2⟩:=h
 cases rx
 cases ry
 obtain⟨aN,r1,p1,_⟩:=I.tuple ha
 obtain⟨pT,r2,p2,_⟩:=I.tuple hb
 refine HT.Fp p1 p2 (fun z=>hx (r1.uJ.mp z)) (fun z=>⟨.ref a,H,I,rfl,q1 (r2.uJ.mp z)⟩) (fun z=>?_) (by rw[<- r1.length,<- r2.length];exact hz)
 refine⟨.ref s.heap.objs.size,_,I.laid (t':=s.toks) (o:=.tup (xs++ys)) (fun b ob q=>get?_push_of_some _ q) (le_refl _) ?_,rfl,q2 (fun w=>z (r2.uJ.mpr w)) _ (I.hok.fresh (le_refl _))⟩
 exact⟨by rw[length_append];exact hz,_,r1.append r2,IsTup.new _ _⟩
end
end L2
namespace L2
open PySem PySem.Spec PyProof.Rows
def ixN(n:Nat)(i:Int):Option Nat:=if 0<=i then (if i < n then some i.toNat else none) else if -(n:Int)<=i then some (i+n).toNat else none
def atI{α:Type}(xs:List α)(i:Int):Option α:=(ixN xs.length i).bind fun j=>xs[j]?
theorem yC{n:Nat}{i:Int}{j:Nat}(h:ixN n i=some j):seqIndex? i n=some j/\j < n/\-(n:Int)<=i/\i < n:=by
 unfold ixN at h
 by_cases h0:0<=i
 ·rw[if_pos h0] at h
  by_cases h1:i < n
  ·rw[if_pos h1] at h
   have e:i.toNat=j:=Option.some.inj h
   exact⟨by rw[seqIndex_of h0 h1,e],by omega,by omega,h1⟩
  ·rw[if_neg h1] at h;cases h
 ·rw[if_neg h0] at h
  by_cases h1:-(n:Int)<=i
  ·rw[if_pos h1] at h
   have e:(i+n).toNat=j:=Option.some.inj h
   exact⟨by rw[seqIndex_neg (by omega) h1,e],by omega,h1,by omega⟩
  ·rw[if_neg h1] at h;cases h
theorem uH{α:Type}{xs:List α}{i:Int}{v:α}(h:atI xs i=some v):∃ j,seqIndex? i xs.length=some j/\xs[j]?=some v/\j < xs.length/\-(xs.length:Int)<=i/\i < xs.length:=by
 unfold atI at h
 cases e:ixN xs.length i with
 | none=>rw[e] at h;cases h
 | some j =>
  rw[e] at h
  obtain⟨h1,h2,h3,h4⟩:=yC e
  exact⟨j,h1,h,h2,h3,h4⟩
theorem aQ{α:Type}{xs:List α}{j:Nat}{v:α}(h:xs[j]?=some v):atI xs (j:Int)=some v:=by
 have hj:j < xs.length:=(List.getElem?_eq_some_iff.mp h).1
 have e:ixN xs.length (j:Int)=some j:=by
  unfold ixN
  rw[if_pos (by omega),if_pos (by omega)];simp
 unfold atI;rw[e];exact h
def uF(b:Expr):Prop:=∀ o i,subscripted b false o i=operate [o,i] (getItem o i)
def IxR(X:Cx)(r:R2):Prop :=
 ∀(value slice:Expr) (pins:List (Addr×Obj)) (s:Shared) (σ:St) (H:Hp) (x y:V) (v u:Value) (Q:VK),Inv X pins σ H s->RelV x v->RelV y u->r x y H Q ->
  subscripted slice false v u=operate [v,u] (getItem v u)->wpAny (model X.prog X.w) X.A (subscriptTail value slice v u) (EP X pins σ Q) X.xe s
def MtR(X:Cx)(id:String)(r:V->List V->Hp->VK->Prop):Prop :=
 ∀ (pins:List (Addr×Obj)) (s:Shared) (σ:St) (H:Hp) (x:V) (xs:List V) (v:Value) (us:List Value) (Q:VK),Inv X pins σ H s->RelV x v->bc xs us->r x xs H Q ->
  wpAny (model X.prog X.w) X.A (call (.builtin id) (v::us)) (EP X pins σ Q) X.xe s
section
variable {X:Cx}{a b:Expr}{ta tb:TE}{pos:Pos}
theorem KA{r:R2}(hr:IxR X r)(ha:PE X a ta)(hb:PE X b tb)(hs:uF b):PE X (.Subscript a b pos) (tOp r ta tb):=by
 intro pins s σ H Q I h
 exact Subscript_ (Hv ha hb I h fun v u s2 x y H2 I2 rx ry q=>hr a b pins s2 σ H2 x y v u Q I2 rx ry q (hs _ _))
def M0(K:PySem.W.Frag):R2:=fun x y H Q=>∃ p xs i v,x=.ref p/\y=.int i/\SqL K H p xs/\atI xs i=some v/\Q v H
def M1(K:PySem.W.Frag):R2:=fun x y H Q=>∃ p xs i v,x=.ref p/\y=.int i/\SqT K H p xs/\atI xs i=some v/\Q v H
theorem DE:IxR X (M0 X.K):=by
 intro value slice pins s σ H x y v u Q I rx ry h hs
 obtain⟨p,xs,i,z,rfl,rfl,hq,he,q⟩:=h
 cases rx
 obtain⟨t,rfl⟩:=ry
 obtain⟨aN,r,pl,hz⟩:=I.list hq
 obtain⟨j,h1,h2,h3,h4,h5⟩:=uH he
 obtain⟨w,ew,Lh⟩:=r.get h2
 have hl:=r.length
 have hn:=pQ
 have fin:EP X pins σ Q w s:=⟨z,H,I,Lh,q⟩
 by_cases h0:0<=i
 ·have hj:i.toNat=j:=by
   rw[seqIndex_of h0 h5] at h1
   exact Option.some.inj h1
  exact item_listR pl.isList h0 (by omega) (by rw[hj];simpa using ew) fin hs
 ·have hj:(i+(aN.toArray.size:Int)).toNat=j:=by
   rw[seqIndex_neg (by omega) h4] at h1
   rw[size_toArray,<- hl]
   exact Option.some.inj h1
  exact subscriptTail_builtinR (x:=w) pl.isList.typeIs slot_list_getitem.lookup
   (wpAny_getItem_list_neg (Q:=fun r s'=>r=w/\EP X pins σ Q r s') pl.isList (by omega) (by rw[size_toArray]<;>omega) (by omega) (by rw[hj];simpa using ew) ⟨rfl,fin⟩) hs
theorem Ic:IxR X (M1 X.K):=by
 intro value slice pins s σ H x y v u Q I rx ry h hs
 obtain⟨p,xs,i,z,rfl,rfl,hq,he,q⟩:=h
 cases rx
 obtain⟨t,rfl⟩:=ry
 obtain⟨aN,r,pl,hz⟩:=I.tuple hq
 obtain⟨j,h1,h2,h3,h4,h5⟩:=uH he
 obtain⟨w,ew,Lh⟩:=r.get h2
 have hl:=r.length
 have hn:=pQ
 have fin:EP X pins σ Q w s:=⟨z,H,I,Lh,q⟩
 exact subscriptTail_builtinR (x:=w) pl.typeIs slot_tuple_getitem.lookup
  (getItem_tuple (j:=j) (Q:=fun r s'=>r=w/\EP X pins σ Q r s') pl (by omega) (by omega) (by rw[size_toArray,<- hl];exact h1) (by simpa using ew) ⟨rfl,fin⟩) hs
theorem wU(aN:List Value)(n j:Nat)(u:Value):Obj.mapSeq (·.setIfInBounds j u) { cls:=.type "list", data:=.seq aN.toArray n }={ cls:=.type "list", data:=.seq (aN.set j u).toArray n }:=by
 simp[Obj.mapSeq]
theorem Inv.lst{pins:List (Addr×Obj)}{σ:St}{H:Hp}{s:Shared}{p:Addr}{xs:List V}(I:Inv X pins σ H s)(h:H p=some (.lst xs)) :
  ∃(aN:List Value)(n:Nat),bc xs aN/\s.heap.get? p=some { cls:=.type "list", data:=.seq aN.toArray n }/\xs.length<=sizeLine:=by
 obtain⟨z,aN,n,r,e⟩:=I.hok p _ h
 exact⟨aN,n,r,e,z⟩
theorem Inv.Jg{pins:List (Addr×Obj)}{σ:St}{H:Hp}{s:Shared}{p:Addr}{xs ys:List V}{aN its':List Value}{n n':Nat}{f:Obj->Obj}(I:Inv X pins σ H s)(h:H p=some (.lst xs))
  (ho:s.heap.get? p=some { cls:=.type "list", data:=.seq aN.toArray n }) (hf:f { cls:=.type "list", data:=.seq aN.toArray n }={ cls:=.type "list", data:=.seq its'.toArray n' }) (r:bc ys its') (hz:ys.length<=sizeLine) (t:Nat) :
  Inv X pins σ (upd H p (.lst ys)) { s with heap:=s.heap.update p f,toks:=t }:=by
 have e:(s.heap.update p f).get? p=some { cls:=.type "list", data:=.seq its'.toArray n' }:=by
  rw[get?_update_self f ho (by rw[hf]<;>rfl),hf]
 refine I.write (x:=p) (e:=p) (by rw[h];trivial) (.inl rfl) (fun b u hb q=>(get?_update_other _ _ (Ne.symm hb)).trans q) ⟨_,e⟩ ?_
 exact⟨hz,its',n',r,e⟩
def CF:V->V->V->Hp->(Hp->Prop)->Prop:=fun o i v H Q=>∃ p xs k j,o=.ref p/\i=.int k/\H p=some (.lst xs)/\ixN xs.length k=some j/\Q (upd H p (.lst (xs.set j v)))
theorem set_list:Aq X CF:=by
 intro pins s σ H o i v ov iv u Q I ro ri rv h
 obtain⟨p,xs,k,j,rfl,rfl,hp,hj,q⟩:=h
 cases ro
 obtain⟨t,rfl⟩:=ri
 obtain⟨aN,n,r,ho,hz⟩:=I.lst hp
 obtain⟨h1,h2,h3,h4⟩:=yC hj
 have hl:=r.length
 have hn:=pQ
 have I':Inv X pins σ (upd H p (.lst (xs.set j v))) { s with heap:=s.heap.update p (Obj.mapSeq (·.setIfInBounds j u)) } :=
  I.Jg hp ho (wU aN n j u) (r.set rv j) (by rw[length_set];exact hz) s.toks
 by_cases h0:0<=k
 ·have hk:k.toNat=j:=by
   rw[seqIndex_of h0 h4] at h1
   exact Option.some.inj h1
  exact PySem.W.ki_setAt ho h0 (by omega) (by rw[size_toArray,<- hl];exact h4) (by rw[hk];exact⟨_,I',q⟩)
 ·have hk:(k+(aN.toArray.size:Int)).toNat=j:=by
   rw[seqIndex_neg (by omega) h3] at h1
   rw[size_toArray,<- hl]
   exact Option.some.inj h1
  exact PySem.W.ki_setBack ho (by omega) (by rw[size_toArray,<- hl];exact h3) (by omega) (by rw[hk];exact⟨_,I',q⟩)
theorem ux(lo hi:Option Int)(n:Nat):(sliceBounds lo hi none n).1=((HT.sIx n 0 lo:Nat):Int)/\(sliceBounds lo hi none n).2.1=((HT.sIx n n hi:Nat):Int)/\(sliceBounds lo hi none n).2.2=1:=by
 refine⟨?_,?_,rfl⟩
 ·cases lo with
  | none=>simp[sliceBounds,HT.sIx]
  | some i =>
   simp only[sliceBounds,HT.sIx,Option.getD_none,show (1:Int) > 0 by decide,if_true]
   by_cases h:i < 0
   ·simp only[h,if_true]<;>omega
   ·simp only[h,if_false]<;>omega
 ·cases hi with
  | none=>simp[sliceBounds,HT.sIx]
  | some i =>
   simp only[sliceBounds,HT.sIx,Option.getD_none,show (1:Int) > 0 by decide,if_true]
   by_cases h:i < 0
   ·simp only[h,if_true]<;>omega
   ·simp only[h,if_false]<;>omega
theorem qX(aN:List Value)(lo hi:Option Int):slicePick aN.toArray lo hi none=((aN.drop (HT.sIx aN.length 0 lo)).take (HT.sIx aN.length aN.length hi - HT.sIx aN.length 0 lo)).toArray:=by
 obtain⟨h1,h2,h3⟩:=ux lo hi aN.toArray.size
 unfold slicePick
 rw[h1,h2,h3]
 simp only[sliceRange_one,pick_run,size_toArray]<;>rfl
def NO(K:PySem.W.Frag):V->Option Int->Option Int->Hp->VK->Prop:=fun x lo hi H Q=>∃ a xs,x=.ref a/\SqL K H a xs/\∀ p,H p=none->Q (.ref p) (upd H p (.lst (lA xs lo hi)))
theorem uc:SlR X (NO X.K):=by
 intro pins s σ H x v vl vu lo hi sl Q I rx hs pl pu h
 obtain⟨a,xs,rfl,hx,q⟩:=h
 cases rx
 obtain⟨aN,r,ht,hz⟩:=I.list hx
 have hlen:=r.length
 refine⟨"list", _,slot_list_getitem.lookup,ht.isList.typeIs,?_⟩
 refine wpAny_getItem_list_slice ht.isList hs pl pu .none (by simp) ?_ (by rw[size_toArray]<;>omega)
 rw[qX,<- hlen]
 refine⟨.ref s.heap.objs.size,_,I.laid (t':=s.toks) (o:=.lst (lA xs lo hi)) (fun b ob q=>get?_push_of_some _ q) (le_refl _) ?_,rfl,q _ (I.hok.fresh (le_refl _))⟩
 exact⟨le_trans (oa xs lo hi) hz,_,0,(r.drop (HT.sIx xs.length 0 lo)).take (HT.sIx xs.length xs.length hi - HT.sIx xs.length 0 lo),get?_push_size _ rfl⟩
def h7:V->Bool
 | .non=>true
 | .bl _=>true
 | .int _=>true
 | .str _=>true
 | _=>false
def eqV:V->V->Bool
 | .non,.non=>true
 | .bl a,.bl b=>a == b
 | .bl a,.int b=>(if a then 1 else 0) == b
 | .int a,.bl b=>a == (if b then 1 else 0)
 | .int a,.int b=>a == b
 | .str a,.str b=>a == b
 | _,_=>false
theorem Ht{A:Around}{s:Shared}{y x:V}{u v:Value}(ry:RelV y u)(rx:RelV x v)(fy:h7 y=true)(fx:h7 x=true):SeqAt.EqAt A s u v (eqV y x):=by
 cases y with
 | non =>
  cases ry
  cases x with
  | non=>cases rx;exact SeqAt.EqAt.same _
  | bl b=>cases rx;exact SeqAt.EqAt.none_bool b
  | int b=>obtain⟨t,rfl⟩:=rx;exact SeqAt.EqAt.none_int b t
  | str b=>obtain⟨t,rfl⟩:=rx;exact SeqAt.EqAt.none_str b t
  | _=>exact absurd (show false=true from fx) Bool.false_ne_true
 | bl a =>
  cases ry
  cases x with
  | non=>cases rx;exact SeqAt.EqAt.bool_none a
  | bl b=>cases rx;exact SeqAt.EqAt.bool_bool a b
  | int b=>obtain⟨t,rfl⟩:=rx;exact SeqAt.EqAt.bool_int a b t
  | str b=>obtain⟨t,rfl⟩:=rx;exact SeqAt.EqAt.bool_str a b t
  | _=>exact absurd (show false=true from fx) Bool.false_ne_true
 | int a =>
  obtain⟨t',rfl⟩:=ry
  cases x with
  | non=>cases rx;exact SeqAt.EqAt.int_none a t'
  | bl b=>cases rx;exact SeqAt.EqAt.int_bool a t' b
  | int b=>obtain⟨t,rfl⟩:=rx;exact SeqAt.EqAt.int_int a t' b t
  | str b=>obtain⟨t,rfl⟩:=rx;exact SeqAt.EqAt.int_str a t' b t
  | _=>exact absurd (show false=true from fx) Bool.false_ne_true
 | str a =>
  obtain⟨t',rfl⟩:=ry
  cases x with
  | non=>cases rx;exact SeqAt.EqAt.str_none a t'
  | bl b=>cases rx;exact SeqAt.EqAt.str_bool a t' b
  | int b=>obtain⟨t,rfl⟩:=rx;exact SeqAt.EqAt.str_int a t' b t
  | str b=>obtain⟨t,rfl⟩:=rx;exact SeqAt.EqAt.str_str a t' b t
  | _=>exact absurd (show false=true from fx) Bool.false_ne_true
 | _=>exact absurd (show false=true from fy) Bool.false_ne_true
def eqU(x:V)(u:Value):Bool:=match u with
 | .none=>eqV .non x
 | .bool b=>eqV (.bl b) x
 | .int i _=>eqV (.int i) x
 | .str z _=>eqV (.str z) x
 | _=>false
theorem CP{x y:V}{u:Value}(r:RelV y u)(f:h7 y=true):eqU x u=eqV y x:=by
 cases y with
 | non=>cases r;rfl
 | bl b=>cases r;rfl
 | int i=>obtain⟨t,rfl⟩:=r;rfl
 | str z=>obtain⟨t,rfl⟩:=r;rfl
 | _=>exact absurd (show false=true from f) Bool.false_ne_true
theorem mR{x:V}:∀{xs:List V}{us:List Value},bc xs us->xs.all h7=true->us.any (eqU x)=xs.any fun y=>eqV y x
 | _,_,.nil,_=>rfl
 | y::xs,u::us,.cons r t,f=>by
  rw[List.all_cons,and_eq_true] at f
  rw[List.any_cons,List.any_cons,CP r f.1,mR t f.2]
theorem jU{A:Around}{s:Shared}{x:V}{v:Value}(rx:RelV x v)(fx:h7 x=true):∀{xs:List V}{us:List Value},bc xs us->xs.all h7=true->∀ u∈us,SeqAt.EqAt A s u v (eqU x u)
 | _,_,.nil,_=>fun u hu=>by cases hu
 | y::xs,u::us,.cons r t,f=>fun u' hu=>by
  rw[List.all_cons,and_eq_true] at f
  rcases mem_cons.mp hu with rfl | hu
  ·rw[CP r f.1];exact Ht r rx f.1 fx
  ·exact jU rx fx t f.2 u' hu
def inV(x:V)(xs:List V):Bool:=xs.any fun y=>eqV y x
def rIn(K:PySem.W.Frag)(neg:Bool):R2:=fun x y H Q=>∃ p xs,y=.ref p/\(SqL K H p xs\/SqT K H p xs)/\h7 x=true/\xs.all h7=true/\Q (.bl (if neg then !inV x xs else inV x xs)) H
theorem zo:OpR X (compareOp .In) (rIn X.K false):=by
 intro pins s σ H x y v u Q I rx ry h
 obtain⟨p,xs,rfl,hq,fx,fs,q⟩:=h
 cases ry
 rcases hq with hq | hq
 ·obtain⟨aN,r,pl,hz⟩:=I.list hq
  refine SeqAt.in_listAt (eqU x) pl.isList (fun w hw=>jU rx fx r fs w (by simpa using hw)) ⟨.bl _,H,I,rfl,?_⟩
  rw[show aN.toArray.any (eqU x)=aN.any (eqU x) by simp,mR r fs]
  exact q
 ·obtain⟨aN,r,pl,hz⟩:=I.tuple hq
  refine SeqAt.in_tupleAt (eqU x) pl (fun w hw=>jU rx fx r fs w (by simpa using hw)) ⟨.bl _,H,I,rfl,?_⟩
  rw[show aN.toArray.any (eqU x)=aN.any (eqU x) by simp,mR r fs]
  exact q
theorem tu:OpR X (compareOp .NotIn) (rIn X.K true):=by
 intro pins s σ H x y v u Q I rx ry h
 obtain⟨p,xs,rfl,hq,fx,fs,q⟩:=h
 cases ry
 rcases hq with hq | hq
 ·obtain⟨aN,r,pl,hz⟩:=I.list hq
  refine SeqAt.notIn_listAt (eqU x) pl.isList (fun w hw=>jU rx fx r fs w (by simpa using hw)) ⟨.bl _,H,I,rfl,?_⟩
  rw[show aN.toArray.any (eqU x)=aN.any (eqU x) by simp,mR r fs]
  exact q
 ·obtain⟨aN,r,pl,hz⟩:=I.tuple hq
  refine SeqAt.notIn_tupleAt (eqU x) pl (fun w hw=>jU rx fx r fs w (by simpa using hw)) ⟨.bl _,H,I,rfl,?_⟩
  rw[show aN.toArray.any (eqU x)=aN.any (eqU x) by simp,mR r fs]
  exact q
theorem ue:fJ X (.builtin "len") (fun xs H Q=>∃ p ys,xs=[.ref p]/\(SqL X.K H p ys\/SqT X.K H p ys)/\Q (.int ys.length) H):=by
 intro pins s σ H xs us Q I r h
 obtain⟨p,ys,rfl,hq,q⟩:=h
 obtain⟨u,rfl,rx⟩:=vals1 r
 cases rx
 have hn:=pQ
 rcases hq with hq | hq
 ·obtain⟨aN,r',pl,hz⟩:=I.list hq
  have hlen:=r'.length
  exact Calls.call_len_list pl.isList (by simp only[size_toArray]<;>omega) ⟨.int ys.length,H,I.tok _,⟨s.toks+1,by rw[size_toArray,hlen]⟩,q⟩
 ·obtain⟨aN,r',pl,hz⟩:=I.tuple hq
  have hlen:=r'.length
  exact len_tuple pl (by simp only[size_toArray]<;>omega) ⟨.int ys.length,H,I.tok _,⟨s.toks+1,by rw[size_toArray,hlen]⟩,q⟩
theorem sY:fJ X (.type "list") (fun xs H Q=>∃ p ys,xs=[.ref p]/\(SqL X.K H p ys\/SqT X.K H p ys)/\∀ l,H l=none->Q (.ref l) (upd H l (.lst ys))):=by
 intro pins s σ H xs us Q I r h
 obtain⟨p,ys,rfl,hq,q⟩:=h
 obtain⟨u,rfl,rx⟩:=vals1 r
 cases rx
 have fin:∀(aN:List Value),bc ys aN->ys.length<=sizeLine->∀(h':Heap)(c':Nat),(∀ b o',s.heap.get? b=some o'->h'.get? b=some o') ->
   h'.get? s.heap.objs.size=some { cls:=.type "list", dict:=none,data:=.seq aN.toArray c',slots:=#[] }->EP X pins σ Q (.ref s.heap.objs.size) { s with heap:=h' }:=fun aN r' hz h' c' kp e =>
  ⟨.ref s.heap.objs.size,_,I.laid (t':=s.toks) kp (le_refl _) (show cM X.prog X.w _ h' _ (.lst ys) from ⟨hz,aN,c',r',e⟩),rfl,q _ (I.hok.fresh (le_refl _))⟩
 rcases hq with hq | hq
 ·obtain⟨aN,r',pl,hz⟩:=I.list hq
  have hlen:=r'.length
  obtain⟨o,ho,hc,n,hd⟩:=pl.isList
  exact call_list_seq p (.inl rfl) ho hc hd (fun h' c' kp e=>fin aN r' hz h' c' kp e) (by simp only[size_toArray]<;>omega)
 ·obtain⟨aN,r',pl,hz⟩:=I.tuple hq
  have hlen:=r'.length
  obtain⟨o,ho,hc,n,hd⟩:=pl
  exact call_list_seq p (.inr rfl) ho hc hd (fun h' c' kp e=>fin aN r' hz h' c' kp e) (by simp only[size_toArray]<;>omega)
theorem rO:fJ X (.type "tuple") (fun xs H Q=>∃ p ys,xs=[.ref p]/\((SqL X.K H p ys/\∀ l,H l=none->Q (.ref l) (upd H l (.tup ys)))\/(SqT X.K H p ys/\Q (.ref p) H))):=by
 intro pins s σ H xs us Q I r h
 obtain⟨p,ys,rfl,h⟩:=h
 obtain⟨u,rfl,rx⟩:=vals1 r
 cases rx
 rcases h with ⟨hq,q⟩ | ⟨hq,q⟩
 ·obtain⟨aN,r',pl,hz⟩:=I.list hq
  have hlen:=r'.length
  refine call_tuple_list pl.isList (fun h' kp=>?_) (by simp only[size_toArray]<;>omega)
  have I1:Inv X pins σ H { s with heap:=h' }:=I.kept (t':=s.toks) kp
  have I2:Inv X pins σ (upd H h'.objs.size (.tup ys)) { s with heap:=h'.push { cls:=.type "tuple", data:=.seq aN.toArray } } :=
   I1.laid (t':=s.toks) (fun b o e=>get?_push_of_some _ e) (le_refl _) (show cM X.prog X.w _ _ _ (.tup ys) from ⟨hz,aN,r',IsTup.new _ _⟩)
  exact⟨.ref h'.objs.size,_,I2,rfl,q _ (I1.hok.fresh (le_refl _))⟩
 ·obtain⟨aN,r',pl,hz⟩:=I.tuple hq
  exact call_tuple_same pl ⟨.ref p,H,I,rfl,q⟩
def tyV(K:PySem.W.Frag)(T:String)(x:V)(H:Hp):Prop:=match x with
 | .str _=>T = "str"
 | .int _=>T = "int"
 | .ref p=>(T = "list" /\ ∃ xs,SqL K H p xs)\/(T = "tuple" /\ ∃ o,K.lookup p=some o/\o.cls=.type "tuple" /\ o.dict=none) \/
   (T = "dict" /\ ((∃ nK,H p=some (.dK nK))\/∃ nK,H p=some (.dT nK)))\/(T = "set" /\ ∃ S n,H p=some (.set S n))
 | _=>False
theorem Jp{pins:List (Addr×Obj)}{σ:St}{H:Hp}{s:Shared}{T:String}{x:V}{v:Value}(I:Inv X pins σ H s)(r:RelV x v)(ty:tyV X.K T x H) :
  s.TypeIs v T/\∀ a,v=.ref a->∃ ob,s.heap.get? a=some ob/\ob.dict=none:=by
 cases x with
 | str z =>
  obtain⟨t,rfl⟩:=r
  cases (show T = "str" from ty)
  exact⟨typeIs_str s z t,fun _ e=>nomatch e⟩
 | int i =>
  obtain⟨t,rfl⟩:=r
  cases (show T = "int" from ty)
  exact⟨typeIs_int s i t,fun _ e=>nomatch e⟩
 | ref p =>
  cases r
  rcases ty with ⟨rfl,xs,hq⟩ | ⟨rfl,o,hk,hc,hd⟩ | ⟨rfl,hk⟩ | ⟨rfl,S,n,hk⟩
  ·obtain⟨aN,_,pl,_⟩:=I.list hq
   refine⟨pl.isList.typeIs,fun a e=>?_⟩
   cases e
   obtain⟨o,n,e,c,hd,_⟩:=pl
   exact⟨o,e,hd⟩
  ·refine⟨⟨o,I.kIn p o hk,hc⟩,fun a e=>?_⟩
   cases e
   exact⟨o,I.kIn _ o hk,hd⟩
  ·have z:∃ o,s.heap.get? p=some o/\o.ExactDict:=by
    rcases hk with ⟨nK,hk⟩ | ⟨nK,hk⟩
    ·obtain⟨_,_,_,_,o,_,_,e,ex,_⟩:=I.hok p _ hk
     exact⟨o,e,ex⟩
    ·obtain⟨_,_,_,_,o,_,_,e,ex,_⟩:=I.hok p _ hk
     exact⟨o,e,ex⟩
   obtain⟨o,e,ex⟩:=z
   refine⟨⟨o,e,ex.1⟩,fun a e2=>?_⟩
   cases e2
   exact⟨o,e,ex.2.1⟩
  ·obtain⟨o,_,_,_,e,ex,_⟩:=I.hok p _ hk
   refine⟨⟨o,e,ex.1⟩,fun a e2=>?_⟩
   cases e2
   exact⟨o,e,ex.2.1⟩
 | _=>exact False.elim ty
def tBM(K:PySem.W.Frag)(T:String)(r:V->List V->Hp->VK->Prop)(to:TE)(t:TA):TE:=fun σ H Q=>to σ H fun x H1=>tyV K T x H1/\t σ H1 fun xs H2=>r x xs H2 Q
variable {o e:Expr}{es:List Expr}{to:TE}{t:TA}{name:Str}{apos cpos:Pos}{T id:String}{r:V->List V->Hp->VK->Prop}
theorem Ls(pa:PlainAttrs T)(slot:Slot T name id)(hty:typeOf (.builtin id)=pure (.type "method_descriptor"))(hm:MtR X id r)(ho:PE X o to)(ha:PA X (e::es) t)
  (hbase:attributeBase o name X.env (eval o X.env)=eval o X.env:=by rfl)
  (hfew:((backTo cpos (starEach (e::es) X.env)).all (fun x=>!x.1) && (backToKw cpos (keywordEach [] X.env)).all (fun x=>x.1.isSome)
   && decide ((e::es).length+([]:List Keyword).length+(if ([]:List Keyword).isEmpty then 0 else 1) < 30))=true:=by rfl)
  (hline:(apos.endLine == cpos.line)=true:=by rfl) (hs:starEach (e::es) X.env=(false,eval e X.env)::starEach es X.env:=by rfl) (hplain:(backTo cpos (starEach es X.env)).any (·.1)=false:=by rfl) :
  PE X (.Call (.Attribute o name apos) (e::es) [] cpos) (tBM X.K T r to t):=by
 intro pins s σ H Q I h
 refine wpAny_Call_method_late hbase hfew hline rfl (thn (ho pins s σ H _ I h) fun v s1 ⟨x,H1,I1,r1,ty,q1⟩=>?_)
 obtain⟨h1,h2⟩:=Jp I1 r1 ty
 refine⟨T,id,pa,slot,hty,h1,h2,?_⟩
 have hA:=ha cpos pins s1 σ H1 _ I1 q1
 rw[hs] at hA |-
 refine Calls.callWith_builtin (by show (false || (backTo cpos (starEach es X.env)).any (·.1))=false;rw[hplain]<;>rfl) (Calls.evalArgs_plain ?_)
 exact thn hA fun us s2 ⟨vs,H2,I2,r2,q2⟩=>hm pins s2 σ H2 x vs v us Q I2 r1 r2 q2
end
end L2
namespace L2
open PySem PySem.Spec PyProof.Rows
def MtM(X:Cx)(id:String)(r:V->List V->Hp->VK->Prop):Prop :=
 ∀ (pins:List (Addr×Obj)) (s:Shared) (σ:St) (H:Hp) (x:V) (xs:List V) (v:Value) (us:List Value) (Q:VK),Inv X pins σ H s->RelV x v->bc xs us->r x xs H Q ->
  wpAny (model X.prog X.w) X.A (call (.builtin id) (v::us)) (EP X pins σ Q) X.xe s
theorem bc.one:∀{x:V}{us:List Value},bc [x] us->∃ u,us=[u]/\RelV x u
 | _,_,.cons r .nil=>⟨_,rfl,r⟩
theorem bc.two:∀{x y:V}{us:List Value},bc [x,y] us->∃ u v,us=[u,v]/\RelV x u/\RelV y v
 | _,_,_,.cons r (.cons q .nil)=>⟨_,_,rfl,r,q⟩
theorem bc.rep{xs:List V}{us:List Value}(h:bc xs us):∀ k:Nat,bc (replicate k xs).flatten (replicate k us).flatten
 | 0=>.nil
 | k+1=>by
  rw[replicate_succ,replicate_succ,flatten_cons,flatten_cons]
  exact bc.append h (bc.rep h k)
theorem foldl_rep(aN:List Value):∀(k:Nat)(acc:List Value),
  foldl (fun x1 x2=>x1++x2) acc.toArray (replicate k aN.toArray)=(acc++(replicate k aN).flatten).toArray
 | 0,acc=>by simp
 | k+1,acc=>by
  have e:acc.toArray++aN.toArray=(acc++aN).toArray:=by simp
  have e2:(acc++aN)++(replicate k aN).flatten=acc++(replicate (k+1) aN).flatten:=by
   rw[replicate_succ,flatten_cons,append_assoc]
  rw[<- e2,<- foldl_rep aN k (acc++aN),<- e,replicate_succ,foldl_cons]
section
variable {X:Cx}{pins:List (Addr×Obj)}{σ:St}{H:Hp}{s:Shared}{l b:Addr}{xs ys zs:List V}
theorem Inv.MZ{aN its':List Value}{n:Nat}{f:Array Value->Array Value}{t':Nat}(I:Inv X pins σ H s)(hH:H l=some (.lst xs))
  (e:s.heap.get? l=some { cls:=.type "list", data:=.seq aN.toArray n }) (hf:f aN.toArray=its'.toArray) (hv:bc ys its') (hz:ys.length<=sizeLine) :
  Inv X pins σ (upd H l (.lst ys)) { s with heap:=s.heap.update l (Obj.mapSeq f),toks:=t' }:=by
 have q:=PySem.IsL.update e f
 rw[hf] at q
 refine I.write (x:=l) (e:=l) (by rw[hH];exact trivial) (.inl rfl) (fun b' u hb hu=>(get?_update_other s.heap (Obj.mapSeq f) (Ne.symm hb)).trans hu) ⟨_,q⟩ ?_
 exact⟨hz,its',_,hv,q⟩
theorem Inv.K5{aN:List Value}{t':Nat}(I:Inv X pins σ H s)(hv:bc ys aN)(hz:ys.length<=sizeLine) :
  Inv X pins σ (upd H s.heap.objs.size (.lst ys)) { s with heap:=s.heap.push { cls:=.type "list", data:=.seq aN.toArray },toks:=t' } :=
 I.laid (fun _ _ q=>get?_push_of_some _ q) (le_refl _) ⟨hz,aN,0,hv,get?_push_size _ rfl⟩
theorem Inv.fresh(I:Inv X pins σ H s):H s.heap.objs.size=none:=I.hok.fresh (le_refl _)
theorem Inv.EJ(I:Inv X pins σ H s)(hH:H l=some (.lst xs)):xs.length<=sizeLine/\∃(aN:List Value)(n:Nat),bc xs aN/\xs.length=aN.length/\s.heap.get? l=some { cls:=.type "list", data:=.seq aN.toArray n }:=by
 obtain⟨z,aN,n,r,e⟩:=I.hok l _ hH
 exact⟨z,aN,n,r,r.length,e⟩
theorem BF{n:Nat}(h:n<=sizeLine):Builtin.List.listTooLong n=false:=by
 unfold Builtin.List.listTooLong
 exact decide_eq_false (by omega)
end
section
variable {X:Cx}
def mh:V->List V->Hp->VK->Prop:=fun x vs H Q=>∃ l xs y,x=.ref l/\vs=[y]/\H l=some (.lst xs)/\xs.length < sizeLine/\Q .non (upd H l (.lst (xs++[y])))
theorem bT:MtM X "list.append" mh:=by
 intro pins s σ H x vs v us Q I rx rv h
 obtain⟨l,xs,y,rfl,rfl,hH,hz,q⟩:=h
 cases rx
 obtain⟨u,rfl,ru⟩:=rv.one
 obtain⟨z,aN,n,r,hl,e⟩:=I.EJ hH
 refine call_meets F.slot_list_append ⟨_,e,rfl⟩ F.entry_list_append (F.args_list_append_2 _ _) (PySem.list_append l aN.toArray n u (by rw[size_toArray];omega)) ⟨e,?_⟩
 refine⟨.non,_,I.MZ (its':=aN++[u]) hH e (by simp) (r.append (.cons ru .nil)) ?_,rfl,q⟩
 rw[length_append,List.length_singleton]
 omega
def Oe:R2:=fun x y H Q=>∃ l b xs zs,x=.ref l/\y=.ref b/\H l=some (.lst xs)/\H b=some (.lst zs)/\xs.length+zs.length<=sizeLine/\∀ p,H p=none->Q (.ref p) (upd H p (.lst (xs++zs)))
theorem wI:OpR X (binaryOp .Add) Oe:=by
 intro pins s σ H x y v u Q I rx ry h
 obtain⟨l,b,xs,zs,rfl,rfl,hH,hB,hz,q⟩:=h
 cases rx
 cases ry
 obtain⟨z,aN,n,r,hl,e⟩:=I.EJ hH
 obtain⟨z2,pT,n2,r2,cG,e2⟩:=I.EJ hB
 refine PySem.P.add_list e e2 ?_ (by rw[size_toArray,size_toArray];omega)
 have ea:aN.toArray++pT.toArray=(aN++pT).toArray:=by simp
 rw[ea]
 exact⟨.ref _,_,I.K5 (t':=s.toks) (r.append r2) (by rw[length_append];omega),rfl,q _ I.fresh⟩
def N3:R2:=fun x y H Q=>∃ l k xs,x=.ref l/\y=.int k/\H l=some (.lst xs)/\-(2 ^ 63)<=k/\k < 2 ^ 63/\xs.length*k.toNat<=sizeLine /\
 ∀ p,H p=none->Q (.ref p) (upd H p (.lst (replicate k.toNat xs).flatten))
theorem len_rep{α:Type}(xs:List α)(k:Nat):(replicate k xs).flatten.length=k*xs.length:=by
 induction k with
 | zero=>simp
 | succ k ih=>rw[replicate_succ,flatten_cons,length_append,ih,Nat.succ_mul,Nat.add_comm]
theorem HH:OpR X (binaryOp .Mult) N3:=by
 intro pins s σ H x y v u Q I rx ry h
 obtain⟨l,k,xs,rfl,rfl,hH,h1,h2,hz,q⟩:=h
 cases rx
 obtain⟨t,rfl⟩:=ry
 obtain⟨z,aN,n,r,hl,e⟩:=I.EJ hH
 have hlen:aN.toArray.size*k.toNat<=sizeLine:=by rw[size_toArray,<- hl];exact hz
 have hcap:¬ aN.toArray.size*k.toNat > (2 ^ 63 - 1) / 8:=by
  have:(sizeLine:Nat)<=(2 ^ 63 - 1) / 8:=by decide
  omega
 have hfit:¬ (!Builtin.List.listFitsIndex k)=true:=by
  rw[fitsIndex_both h1 h2]
  exact Bool.false_ne_true
 have hlong:¬ Builtin.List.listTooLong (aN.toArray.size*k.toNat)=true:=by
  rw[BF hlen]
  exact Bool.false_ne_true
 have hnew:foldl (fun x1 x2=>x1++x2) #[] (replicate (if aN.toArray.isEmpty=true then 0 else k.toNat) aN.toArray)=(replicate k.toNat aN).flatten.toArray:=by
  have f0:∀ m:Nat,foldl (fun x1 x2=>x1++x2) #[] (replicate m aN.toArray)=(replicate m aN).flatten.toArray:=fun m=>by
   have:=foldl_rep aN m []
   rw[nil_append] at this
   exact this
  rw[f0]
  cases aN with
  | nil=>simp
  | cons a r'=>rw[if_neg (by simp)]
 refine wpAny_binaryOp_repeat_ref (T := "list") (U := "int") (by decide) ⟨_,e,rfl⟩ (fun s'=>typeIs_int s' k t) noFill_list_mul F.fills_int_mul F.slot_int_rmul repeat_list F.slot_int_index.lookup
  (call_meets F.slot_int_rmul (typeIs_int s k t) F.entry_int_rmul (F.args_int_rmul_2 _ _) (int___rmul___int_list k t l aN.toArray n)
   ⟨e,rfl,⟨_,e,rfl⟩,call_meets F.slot_list_mul ⟨_,e,rfl⟩ F.entry_list_mul (F.args_list_mul_2 _ _) (AutoListH.list___mul___list_int_3 l aN.toArray n k t hfit hcap hlong) ⟨e,?_⟩⟩)
 rw[hnew]
 exact⟨.ref _,_,I.K5 (t':=s.toks) (r.rep k.toNat) (by rw[len_rep,Nat.mul_comm];exact hz),rfl,q _ I.fresh⟩
end
section
variable {prog:Program}{w:World}{A:Around}{E:Value->Shared->Prop}{s:Shared}
end
section
variable {X:Cx}
end
end L2
namespace Att
open PySem PySem.W PySem.Calls PyProof.Rows
theorem oA{P:Params}{h:Heap}:∀(ns:List Int)(vs:List Value),WellAll P h vs (ns.map WData.int)->IntsAre vs ns:=by
 intro ns
 induction ns with
 | nil =>
  intro vs w
  rw[List.map_nil] at w
  cases w
  exact .nil
 | cons n ns ih =>
  intro vs w
  rw[map_cons] at w
  cases w with
  | cons a b =>
   cases a
   exact .cons _ _ (ih _ b)
theorem zZ{l:OpenLaw}{n:Nat}(hn:l.most=some n){P:Params}{h:Heap}{args:List WData}{vals:List Value}
  (hpre:l.row.toRowW.claim.pre args=true) (hwl:WellAll P h vals args) :
  ∃ a vs ns,vals=[Value.ref a]/\args=[WData.list (ns.map WData.int)]/\h.get? a=some { cls:=.type "list", data:=.seq vs.toArray }/\IntsAre vs ns/\ns.length<=n:=by
 have hsh:WShape.hasAll [] args [.list .int]=true:=(pre_splitW hpre).1
 have hc:l.pre.holds [] { args:=args }=true:=(pre_splitW hpre).2
 obtain⟨d,r,rfl,h1,h2⟩:=hasAllW_cons hsh
 obtain rfl:=hasAllW_nil h2
 obtain⟨xs,rfl,h3⟩:=hasW_list h1
 obtain⟨ns,rfl⟩:=items_int h3
 have hlen:ns.length<=n:=by
  unfold OpenLaw.pre at hc
  have h4:(WTm.not (.lt (.lit (.int (n:Int))) (.len (.arg 0)))).holds [] { args:=[.list (ns.map .int)] }=true:=by
   have h4:=(holds_andW hc).1
   rw[hn] at h4
   exact h4
  have h5:=condW_of h4 (w_not (w_lt w_lit (w_len_list (w_arg rfl))))
  rw[length_map] at h5
  refine Nat.le_of_not_lt fun q=>?_
  have q':(n:Int) < ((ns.length:Nat):Int):=by omega
  first
   | (rw[decide_eq_true q'] at h5;exact absurd h5 (by decide))
   | (simp at h5;omega)
 cases hwl with
 | cons w1 w2 =>
  cases w2
  cases w1 with
  | list ho hall=>exact⟨_,_,ns,rfl,rfl,ho,oA ns _ hall,hlen⟩
theorem zY(l:OpenLaw)(args:List WData):l.row.toRowW.claim.post args (.bool true) args=true :=
 postW_of (r:=l.row.toRowW) (X:=(true == true))
  (show WShape.has [] (.bool true) .bool=true by first | rfl | decide | simp[WShape.has,WShape.arms,WShape.armsAll])
  (show (WTm.eq .res (.lit (.bool true))).value [] { args:=args,res:=some (.bool true),after:=args }=some (.bool (true == true)) from w_eq_bool (w_res rfl) w_lit) rfl
theorem vM{l:OpenLaw}{n:Nat}{q:Program}{loose:List Str}{XP:(Str->Option Value)->Heap->Prop}{YP:World->Heap->Prop}{d:DefRec}
  (hn:l.most=some n) (hdf:d.params.defaults=[])
  (call:∀(w:World)(s₀ s₁:Shared)(mg mb:Str->Option Value)(fa:Addr)(o:Obj)(pm cd doc:Value)(a:Addr)(vs:List Value)(ns:List Int),
   Ground q loose [] XP w s₀ mg mb s₁.heap->YP w s₁.heap ->
   s₁.heap.get? fa=some o->o.data=.func (docDef d.name d.params d.body d.scope pm cd doc)->s₁.heap.CodeRec cd d.name->mg d.name=some (.ref fa) ->
   s₁.heap.get? a=some { cls:=.type "list", data:=.seq vs.toArray }->IntsAre vs ns->ns.length<=n->s₁.gens=#[] ->
   codeAny (model l.prog w) callerA (.call (.ref fa) ⟨[.ref a],[]⟩) (fun r s'=>r=.ok (.ret (.bool true))/\OldK s₁.heap s'.heap/\s'.os=s₁.os/\AllBare s'.gens) s₁) :
  WalkO q loose XP YP l.row.toRowW d [] (fun f vs=>PySem.call f vs):=by
 intro w s₀ s₁ mg mb G Y fa o pm cd doc dV kV ho hd hcd hD hmg hg args vals as hpre hlay hrd hwl hlo
 obtain rfl:dV=.none:=Dflts.none hD hdf
 obtain rfl:kV=.none:=Dflts.noKw hD
 obtain⟨a,vs,ns,rfl,rfl,hobj,hints,hlen⟩:=zZ hn hpre hwl
 refine enter_call (codeAny_mono (call w s₀ s₁ mg mb fa o pm cd doc a vs ns G Y ho (fd_plain hd) hcd hmg hobj hints hlen hg) fun r s' hq=>?_)
 obtain⟨rfl,h2,h3,h4⟩:=hq
 exact⟨.inl ⟨.bool true,.bool true,[],rfl,fun _=>rfl,.bool true,zY l _,fun _=>⟨Pairwise.nil,fun _ hm=>(nomatch hm)⟩⟩,h2,h3,h4⟩
section
variable {prog:Program}{w:World}{A:Around}{E:Value->Shared->Prop}{s:Shared}{K:Frag}
end
end Att
namespace L2
open PySem PySem.Spec PyProof.Rows
theorem sD:∀{vs:List Value}{ns:List Int},IntsAre vs ns->bc (ns.map V.int) vs
 | _,_,.nil=>.nil
 | _,_,.cons n t h=>.cons ⟨t,rfl⟩ (sD h)
def GV(H:Hp):Prop:=∀ b,H b=none\/∃ o xs,H b=some (.frz o (.lst xs))
theorem BX{P:Program}{w:World}{K:PySem.W.Frag}{mg mb:Str->Option Value}{CX:CXT}{k:Nat}{fa a:Addr}{fd:FuncData}{x:Str}{sp:Sp}{s₁:Shared}{vs:List Value}{ns:List Int}
  (KX:K.In s₁.heap) (hns:s₁.heap.Ns mainGlobals mg) (hb:s₁.heap.Ns builtinsNs mb) (hbb:∀ x:Str,x ≠ "__name__" -> mb x=bootBuiltins x) (hlim:s₁.heap.NoLimit) (hg:s₁.gens=#[])
  (ha:s₁.heap.get? a=some { cls:=.type "list", data:=.seq vs.toArray }) (hi:IntsAre vs ns) (hl:ns.length<=sizeLine) (hr:eM k callerA)
  (F:∀ base:Heap,K.In base->base.Ns mainGlobals mg->mn P w K mg base CX k fa fd [x] sp) (hbind:∀(s:Shared)(u:Value),BindsTo s fd ⟨[u],[]⟩ [(x,u)])
  (hsp:∀ H:Hp,GV H->SqL K H a (ns.map V.int)->sp [.ref a] H (fun v _=>v=.bl true) fun _ _ _=>False)
  (Nb:∀ H e s',CX [] H s₁ (fun _ _ _=>False) e s'->False) :
  codeAny (model P w) callerA (.call (.ref fa) ⟨[.ref a],[]⟩) (fun r s'=>r=.ok (.ret (.bool true))/\OldK s₁.heap s'.heap/\s'.os=s₁.os/\AllBare s'.gens) s₁:=by
 have rv:=sD hi
 have M3:=hi.length
 have core:∀ H:Hp,GV H->SqL K H a (ns.map V.int)->HOk P w H s₁.heap->(∀ b,H b≠none->b=a)->(H a≠none->K.lookup a=none) ->
   codeAny (model P w) callerA (.call (.ref fa) ⟨[.ref a],[]⟩) (fun r s'=>r=.ok (.ret (.bool true))/\OldK s₁.heap s'.heap/\s'.os=s₁.os/\AllBare s'.gens) s₁:=by
  intro H hO hS hok hA hK
  have base_of:∀{b:Addr}{o:Obj},s₁.heap.get? b=some o->H b=none->(ua s₁.heap H).get? b=some o:=fun e n=>AM e n
  have J_:∀{b:Addr}{o:Obj}{es:Array DictEntry}{ep:Nat},s₁.heap.get? b=some o->o.data=.dict es ep->H b=none:=fun {b o es ep} e d=>by
   cases q:H b with
   | none=>rfl
   | some u =>
    have e':b=a:=hA b (by rw[q];simp)
    subst e'
    rw[ha] at e;cases e
    have d':Data.seq vs.toArray _=Data.dict es ep:=d
    cases d'
  have MH:∀{b:Addr}{m:Str->Option Value},s₁.heap.Ns b m->(ua s₁.heap H).Ns b m:=fun {b m} ⟨o,es,ep,e,d,r⟩=>⟨o,es,ep,base_of e (J_ e d),d,r⟩
  have Pq:K.In (ua s₁.heap H):=fun b o e=>base_of (KX b o e) (by
   cases q:H b with
   | none=>rfl
   | some u =>
    have e':b=a:=hA b (by rw[q];simp)
    subst e'
    rw[hK (by rw[q];simp)] at e;cases e)
  have hM:Mod K mg (ua s₁.heap H):=⟨Pq,MH hns,⟨mb,MH hb,hbb⟩,let ⟨mc,h1,h2⟩:=hlim;⟨mc,MH h1,h2⟩⟩
  have e0:DF P w K mg (ua s₁.heap H) callerA [] s₁ H:=⟨rfl,hM,fun b o e=>EH e,Nat.le_of_eq (zH _ _),trivial,fun b hb=>absurd (show b∈([]:List Addr) from hb) (by simp),hok,.of_eq hg⟩
  refine codeAny_mono ((F _ Pq (MH hns)).run callerA [] s₁ H ⟨[.ref a],[]⟩ [.ref a] [.ref a] _ _ hr e0 (hbind s₁ (.ref a)) (.cons rfl .nil) (hsp H hO hS)) fun r s' h=>?_
  cases r with
  | error e=>exact (Nb H e s' h).elim
  | ok fl =>
   cases fl with
   | next=>exact False.elim h
   | brk=>exact False.elim h
   | cont=>exact False.elim h
   | ret u =>
    obtain⟨v,H',os,bare,un,IU,r',q⟩:=h
    have q':v=.bl true:=q
    subst q'
    obtain rfl:u=Value.bool true:=r'
    refine⟨rfl,OldK.of_keep fun b o e=>?_,os,bare⟩
    cases q:H b with
    | none=>exact un.keep b o e q (by intro z;exact absurd (show b∈([]:List Addr) from z) (by simp)) (by simp)
    | some u =>
     rcases hO b with z | ⟨ob,xs,z⟩
     ·rw[q] at z;cases z
     ·have z2:=un.frzs b ob _ z
      obtain⟨e1,_⟩:=hok b _ z
      obtain⟨e2,_⟩:=IU b _ z2
      rw[e] at e1;cases e1
      exact e2
 cases hk:K.lookup a with
 | some o =>
  have e:=KX a o hk
  rw[ha] at e
  cases e
  refine core (fun _=>none) (fun _=>.inl rfl) (.inr ⟨_,vs.toArray,_,hk,rfl,rfl,rfl,by rw[size_toArray,M3];exact hl,by simpa using rv⟩) (fun b u z=>by have z':(none:Option HO)=some u:=z;cases z') (fun b z=>absurd rfl z) fun z=>absurd rfl z
 | none =>
  refine core (fun b=>if b=a then some (.frz { cls:=.type "list", data:=.seq vs.toArray } (.lst (ns.map V.int))) else none) (fun b=>?_) (.inl (.inr ⟨{ cls:=.type "list", data:=.seq vs.toArray },if_pos rfl⟩)) (fun b u z=>?_) (fun b z=>?_) fun _=>hk
  ·by_cases hb:b=a
   ·exact .inr ⟨_,_,if_pos hb⟩
   ·exact .inl (if_neg hb)
  ·by_cases hb:b=a
   ·have z':=(if_pos hb).symm.trans z
    cases z'
    subst hb
    exact⟨ha,by rw[length_map];exact hl,vs,_,rv,ha⟩
   ·have z':=(if_neg hb).symm.trans z
    cases z'
  ·by_cases hb:b=a
   ·exact hb
   ·exact absurd (if_neg hb) z
end L2
namespace L2
open PySem PySem.Spec PyProof.Rows
theorem Dy{l:PySem.W.OpenLaw}{n k:Nat}{q:Program}{loose:List Str}{XP:(Str->Option Value)->Heap->Prop}{YP:World->Heap->Prop}{d:DefRec}{K:Params->PySem.W.Frag}{CX:World->CXT}{sp:World->Sp}{x:Str}
  (hn:l.most=some n) (C7:n<=sizeLine) (hdf:d.params.defaults=[]) (hr:eM k callerA)
  (hY:∀(w:World)(h:Heap),YP w h->(K w.params).In h)
  (F:∀(w:World)(mg:Str->Option Value)(fa:Addr)(h:Heap),(K w.params).In h->h.Ns mainGlobals mg->mg d.name=some (.ref fa) ->
   ∃ fd:FuncData,(∀(s:Shared)(u:Value),BindsTo s fd ⟨[u],[]⟩ [(x,u)]) /\
    ∀ base:Heap,(K w.params).In base->base.Ns mainGlobals mg->mn l.prog w (K w.params) mg base (CX w) k fa fd [x] (sp w))
  (hsp:∀(w:World)(H:Hp)(a:Addr)(ns:List Int),ns.length<=n->GV H->SqL (K w.params) H a (ns.map V.int)->sp w [.ref a] H (fun v _=>v=.bl true) fun _ _ _=>False)
  (Nb:∀(w:World)(H:Hp)(s:Shared)(e:Value)(s':Shared),CX w [] H s (fun _ _ _=>False) e s'->False) :
  PySem.W.WalkO q loose XP YP l.row.toRowW d [] (fun f vs=>PySem.call f vs):=by
 refine Att.vM hn hdf fun w s₀ s₁ mg mb fa o pm cd doc a vs ns G Y ho hd hcd hmg hobj hints hlen hg=>?_
 have KX:=hY w _ Y
 obtain⟨fd,hb,hF⟩:=F w mg fa _ KX G.T.g hmg
 exact BX KX G.T.g G.T.b G.T.builtins G.T.nolimit hg hobj hints (le_trans hlen C7) hr hF hb (fun H hO hS=>hsp w H a ns hlen hO hS) fun H e s'=>Nb w H s₁ e s'
end L2
namespace L2
open PySem PySem.Spec PyProof.Rows
def kJ(s:Stmt):Arguments:=match s with
 | .FunctionDef _ a _ _ _ _ _ _ _ _=>a
 | _=>{ posonlyargs:=[],args:=[],vararg:=none,kwonlyargs:=[],kw_defaults:=[],kwarg:=none,defaults:=[] }
def fI(s:Stmt):List Stmt:=match s with
 | .FunctionDef _ _ b _ _ _ _ _ _ _=>b
 | _=>[]
def ao(s:Stmt):Scope:=match s with
 | .FunctionDef _ _ _ _ _ _ sc _ _ _=>sc
 | _=>{ kind:=.function,names:=[],isGenerator:=false,isCoroutine:=false }
abbrev CX0:CXT:=fun _ _ _ _ _ _=>False
abbrev E0:XK:=fun _ _ _=>False
theorem L_{X:Cx}:lx CX0 X E0:=fun _ _ _ _ _ _ _ h=>h.elim
structure Fun(K:PySem.W.Frag)(x qual:Str)(st:Stmt)(f:Addr)(fd:FuncData):Prop where
 ex:∃(oc:Value)(od:Option Addr)(kV doc pm:Value)(an:Option Addr)(bW ct:Value) (osl:Array (Option Value)),
  fd=fnOf x qual (kJ st) (fI st) (ao st) .none kV doc pm an bW ct/\K.lookup f=some ⟨oc,od,.func fd,osl⟩/\codeIn K bW qual=true
 kp:keepIn K (.ref f)=true
section
variable {P:Program}{w:World}{K:PySem.W.Frag}{mg:Str->Option Value}{base:Heap}
theorem Fun.ok{x qual:Str}{st:Stmt}{f:Addr}{fd:FuncData}{N ps:List Str}{k:Nat}{sp:Sp}(F:Fun K x qual st f fd)(S:az N ps (ao st))(len:∀ vs H Q E,sp vs H Q E->vs.length=ps.length)
  (hbody:∀(bW:Value)(A:Around)(outer:List Env)(s:Shared)(H:Hp)(vs:List V)(Q:VK)(E:XK),eM k (A.deeper (envOfC qual (ao st) s.heap.objs.size f bW))->sp vs H Q E ->
   ∃ t,PSs (vm CX0 P w K mg base N qual (ao st) f bW A outer s H E).nox (fI st) t/\t { nx:=fun _ H'=>Q .non H',rt:=Q } (start N vs) H):mn P w K mg base CX0 (k+1) f fd ps sp:=by
 obtain⟨oc,od,kV,doc,pm,an,bW,ct,osl,rfl,lk,hcd⟩:=F.ex
 refine FX lk hcd S len fun A outer s H vs Q E hr hsp=>?_
 obtain⟨t,h,q⟩:=hbody bW A outer s H vs Q E hr hsp
 exact⟨t,h.nox,q⟩
theorem Fun.binds{x qual:Str}{st:Stmt}{f:Addr}{fd:FuncData}{ps:List Str}(F:Fun K x qual st f fd)
  (h:∀(kV doc pm:Value)(an:Option Addr)(bW ct:Value)(us:List Value),us.length=ps.length->bindArgs (fnOf x qual (kJ st) (fI st) (ao st) .none kV doc pm an bW ct) ⟨us,[]⟩=pure (ps.zip us)):Binds K fd ps []:=by
 obtain⟨oc,od,kV,doc,pm,an,bW,ct,osl,rfl,lk,hcd⟩:=F.ex
 exact .all (h kV doc pm an bW ct)
theorem Jx{x qual:Str}{st:Stmt}{f:Addr}{oc:Value}{od an:Option Addr}{osl:Array (Option Value)}{kV doc pm bW ct:Value}(l:K.lookup f=some ⟨oc,od,.func (fnOf x qual (kJ st) (fI st) (ao st) .none kV doc pm an bW ct),osl⟩)
  (c:codeIn K bW qual=true) (k:keepIn K (.ref f)=true):Fun K x qual st f (fnOf x qual (kJ st) (fI st) (ao st) .none kV doc pm an bW ct):=⟨⟨oc,od,kV,doc,pm,an,bW,ct,osl,rfl,l,c⟩,k⟩
end
theorem ay{n:Nat}(h:n<=1000):n < sizeLine:=Nat.lt_of_le_of_lt h (by decide)
section
variable {X:Cx}
theorem pv(i:Nat){x:Str}{pos:Pos}(hN:X.N[i]?=some x:=by rfl)(hv:Vis X.env.scope x:=by first | exact inl rfl | exact inr (inl rfl) | exact inr (inr rfl))(hd:(x == ("__debug__" : Str))=false:=by decide)
  (hcd:(x == ("__classdict__" : Str))=false:=by decide):PE X (.Name x pos) (Cq i):=Cn hN hv hd hcd
end
theorem JF{c A B:Prop}[Decidable c](h1:c->A)(h2:¬ c->B):if c then A else B:=by
 by_cases h:c
 ·rw[if_pos h]
  exact h1 h
 ·rw[if_neg h]
  exact h2 h
def ak(H H':Hp):Prop:=∀ b o,H b=some o->H' b=some o
theorem ak.refl(H:Hp):ak H H:=fun _ _ h=>h
theorem ak.trans{H H1 H2:Hp}(a:ak H H1)(b:ak H1 H2):ak H H2:=fun c o h=>b c o (a c o h)
theorem ak.free{H H':Hp}(e:ak H H'){l:Addr}(h:H' l=Option.none):H l=Option.none:=by
 cases q:H l with
 | none=>rfl
 | some o =>
  rw[e l o q] at h
  cases h
theorem ak.seq{K:PySem.W.Frag}{H H':Hp}{a:Addr}{xs:List V}(e:ak H H')(h:SqL K H a xs):SqL K H' a xs:=by
 rcases h with (h | ⟨o,h⟩) | h
 ·exact .inl (.inl (e _ _ h))
 ·exact .inl (.inr ⟨o,e _ _ h⟩)
 ·exact .inr h
end L2
namespace L2
open PySem PySem.Spec PyProof.Rows
section
variable {P:Program}{w:World}{H H':Hp}{h h':Heap}{a:Addr}{o:HO}
theorem cM.there(x:cM P w H h a o):∃ ob,h.get? a=some ob:=by
 induction o with
 | lst xs=>obtain⟨_,aN,n,_,e⟩:=x;exact⟨_,e⟩
 | tup xs=>obtain⟨_,aN,_,ob,e,_⟩:=x;exact⟨_,e⟩
 | dK nK=>obtain⟨_,_,vs,_,ob,es,ep,e,_⟩:=x;exact⟨_,e⟩
 | dT nK=>obtain⟨_,_,xs,_,ob,es,ep,e,_⟩:=x;exact⟨_,e⟩
 | set S n=>obtain⟨ob,es,ep,tb,e,_⟩:=(x:h.SetOf (intKind P w) a S n);exact⟨_,e⟩
 | ins C dx fs=>obtain⟨_,_,_,e,_⟩:=x;exact⟨_,e⟩
 | own x'=>exact x
 | xd fs=>obtain⟨mA,⟨ob,es,ep,e,_⟩,_⟩:=x;exact⟨_,e⟩
 | met f y=>exact⟨_,x⟩
 | rng lo hi=>obtain⟨t,u,v,e⟩:=x;exact⟨_,e⟩
 | frz ob u ih=>exact⟨_,x.1⟩
 | tbl ps=>exact⟨_,x⟩
 | ext φ=>exact x.2.1
theorem HOk.stays(x:HOk P w H h)(k:∀ b u,H b≠none->h.get? b=some u->h'.get? b=some u):HOk P w H h':=fun a o e =>
 (x a o e).ve (fun b u hb q=>k b u (by
  rcases hb with z | z
  ·rw[z,e];exact Option.some_ne_none _
  ·rw[z];exact Option.some_ne_none _) q) (fun _ q=>q) fun _ _ q=>q
end
def Fly(outer:List Env)(H':Hp)(h₀ h':Heap)(e:Addr)(cls:Value):Prop :=
 ∃ B a0,Heap.FlyingW B outer e cls a0 h'/\∀ b o,h'.get? b=some o->(H' b≠none\/∃ o₀,h₀.get? b=some o₀)->b∉frs outer->B.get? b=some o
def CXR(P:Program)(w:World):CXT:=fun outer H s E e s'=>∃ ea cls H',e=.ref ea/\s'.os=s.os/\AllBare s'.gens/\Un (frs outer) [] H H' s.heap s'.heap/\HOk P w H' s'.heap/\Fly outer H' s.heap s'.heap ea cls/\E cls none H'
theorem AO{env:Env}{l:List Env}{L:Addr}(hf:env.frame=some L){b:Addr}:b∈frs (env::l)↔b=L\/b∈frs l:=by
 unfold frs
 rw[List.filterMap_cons,hf]
 exact mem_cons
theorem Un.EW{fs Hj:List Addr}{H H1:Hp}{h h1 h2:Heap}(u:Un fs [] H H1 h h1)(hsub:∀ b o,h.get? b=some o->b∈Hj->b∈fs)
  (k:∀ b o,(∃ o₀,h.get? b=some o₀)->h1.get? b=some o->b∉Hj->h2.get? b=some o) (sl:∀ b o,h1.get? b=some o->b∈Hj->∃ sl,h2.get? b=some { o with slots:=sl }):Un fs [] H H1 h h2 where
 keep:=fun b o e n hb hx=>k b o ⟨o,e⟩ (u.keep b o e n hb hx) fun z=>hb (hsub b o e z)
 slot:=fun b o e n hb hx=>by
  obtain⟨s1,e1⟩:=u.slot b o e n hb hx
  by_cases z:b∈Hj
  ·obtain⟨s2,e2⟩:=sl b _ e1 z
   exact⟨s2,e2⟩
  ·exact⟨s1,k b _ ⟨o,e⟩ e1 z⟩
 free:=u.free
 there:=fun b o e hx=>by
  obtain⟨o1,e1⟩:=u.there b o e hx
  by_cases z:b∈Hj
  ·obtain⟨s2,e2⟩:=sl b _ e1 z
   exact⟨_,e2⟩
  ·exact⟨_,k b _ ⟨o,e⟩ e1 z⟩
 tups:=u.tups
 frzs:=u.frzs
 tbls:=u.tbls
section
variable {P:Program}{w:World}{K:PySem.W.Frag}{mg:Str->Option Value}{base:Heap}{N:List Str}{qual:Str}{scope:Scope}{f:Addr}{cd:Value}{A:Around}{outer:List Env}{s:Shared}{H:Hp}{E:XK}
abbrev cxR(P:Program)(w:World)(K:PySem.W.Frag)(mg:Str->Option Value)(base:Heap)(N:List Str)(qual:Str)(scope:Scope)(f:Addr)(cd:Value)(A:Around)(outer:List Env)(s:Shared)(H:Hp)(E:XK):Cx :=
 vm (CXR P w) P w K mg base N qual scope f cd A outer s H E
theorem vh{l:List Env}{B h h':Heap}(hl:h.FunFrames B l)(k:h.UpToSlots h'){b:Addr}{o:Obj}(hb:b∈frs l)(e:h.get? b=some o):∃ sl,h'.get? b=some { o with slots:=sl }:=by
 obtain⟨_,o',e',nf⟩:=hl.mem hb
 rw[e] at e'
 cases e'
 exact k b o e nf
theorem zQ{pins:List (Addr×Obj)}{σ:St}{H1:Hp}{s1:Shared}{h2:Heap}{e:Addr}{cls:Value}{vs:List Value}
  (I:Inv (cxR P w K mg base N qual scope f cd A outer s H E) pins σ H1 s1) (hx:Heap.MadeExcOf s1.heap h2 e cls vs) (hE:E cls none H1) :
  (cxR P w K mg base N qual scope f cd A outer s H E).xe (.ref e) { s1 with heap:=h2 }:=by
 have hF:=I.stack
 have hin:∀ env∈(envOfC qual scope s.heap.objs.size f cd::outer),∀ b,env.frame=some b->b∈(envOfC qual scope s.heap.objs.size f cd::outer).filterMap (·.frame):=fun env he b hb=>List.mem_filterMap.mpr ⟨env,he,hb⟩
 have hfr:(envOfC qual scope s.heap.objs.size f cd).frame=some s.heap.objs.size:=rfl
 refine wpAny_leaves_madeW (s:={ s1 with heap:=h2 }) (base:=hideAll s1.heap ((envOfC qual scope s.heap.objs.size f cd::outer).filterMap (·.frame))) (h:=s1.heap) I.ok.frames hfr (fun b o q=>PySem.W.of_hideAll _ q) (PySem.W.funFrames_hide hF hin) hx fun h' t x1 x2 x3 x4=>?_
 have k1:∀ b o,s1.heap.get? b=some o->b∉frs (envOfC qual scope s.heap.objs.size f cd::outer)->h'.get? b=some o:=fun b o q n=>x1.1 b o (hideAll_get _ q n)
 have Aj:h2.FunFrames base (envOfC qual scope s.heap.objs.size f cd::outer):=hF.of_keeps fun b o q _=>⟨o,hx.keeps b o q,rfl⟩
 have k2:∀ b o,s1.heap.get? b=some o->b∈frs (envOfC qual scope s.heap.objs.size f cd::outer)->∃ sl,h'.get? b=some { o with slots:=sl }:=fun b o q n=>vh Aj x4 n (hx.keeps b o q)
 have old:∀ b o,s.heap.get? b=some o->b∈frs (envOfC qual scope s.heap.objs.size f cd::outer)->b∈frs outer:=fun b o q z=>by
  rcases (AO hfr).mp z with z | z
  ·rw[z] at q
   exact absurd (lt_size q) (lt_irrefl _)
  ·exact z
 have un:Un (frs outer) [] H H1 s.heap h':=Un.EW (show Un (frs outer) [] H H1 s.heap s1.heap from I.base) old (fun b o _=>k1 b o) k2
 refine⟨e,cls,H1,rfl,I.os,I.bare,un,I.hok.stays fun b u n q=>k1 b u q fun z=>n (I.mr b z),⟨_,_,x1,fun b o q hb hn=>?_⟩,hE⟩
 have hs:b∉frs (envOfC qual scope s.heap.objs.size f cd::outer):=fun z=>by
  rcases hb with hb | ⟨o₀,hb⟩
  ·exact hb (I.mr b z)
  ·exact hn (old b o₀ hb z)
 have h1:∃ o1,s1.heap.get? b=some o1:=by
  rcases hb with hb | ⟨o₀,hb⟩
  ·cases q':H1 b with
   | none=>exact absurd q' hb
   | some u=>exact (I.hok b u q').there
  ·exact I.base.there b o₀ hb (by intro z;exact absurd (show b∈([]:List Addr) from z) (by simp))
 obtain⟨o1,h1⟩:=h1
 have:=k1 b o1 h1 hs
 rw[q] at this
 cases this
 exact hideAll_get _ h1 hs
theorem wb{X:Cx}:lx (CXR P w) X E0:=fun _ _ _ _ _ _ _ h=>by
 obtain⟨_,_,_,_,_,_,_,_,_,z⟩:=h
 exact z.elim
end
abbrev vY:List Value:=[.type "ValueError", .type "Exception", .type "BaseException", .type "object"]
structure Exc(K:PySem.W.Frag)(mg:Str->Option Value)(x:Str)(C:Addr):Prop where
 bound:mg x=some (.ref C)
 isIn:excIn K C vY "ValueError.__new__" = true
theorem Exc.obj{K:PySem.W.Frag}{mg:Str->Option Value}{x:Str}{C:Addr}{h:Heap}(O:Exc K mg x C)(X:K.In h) :
  ∃ bm N nm q bs hdct sn sub ab col dd k0 k1 k2 k3 k5 mN,h.get? C=some (excClassObj nm q C N bs bm hdct sn sub ab col dd k0 k1 k2 k3 k5 "ValueError.__new__")/\h.Ns N mN/\mN "__init__" = none/\OwnTail h vY bm:=by
 have q:=O.isIn
 unfold excIn at q
 split at q
 case h_2=>cases q
 rename_i dd cd sl ho
 split at q
 case h_2=>cases q
 rename_i C' bm k0 k1 k2 k3 n k5 hm hs
 simp only[and_eq_true,beq_iff_eq,Bool.not_eq_true'] at q
 obtain⟨⟨⟨⟨⟨e1,e2⟩,hdel⟩,ht⟩,hok⟩,hni⟩:=q
 subst e1;subst e2
 cases cd with
 | mk nm bs mro ns qn hd sn sub ab col del =>
  dsimp only at hm hdel hok hni
  subst hm;subst hdel
  obtain rfl:sl=#[k0,k1,k2,k3,some (.builtin "ValueError.__new__"),k5]:=by
   cases sl with
   | mk l=>exact congrArg Array.mk hs
  exact⟨bm,ns,nm,qn,bs,hd,sn,sub,ab,col,dd,k0,k1,k2,k3,k5,_,X _ _ ho,.of_isNs (PySem.W.isNs_of_in X hok),PySem.W.nsMap_none_of_in X hok hni,PySem.W.tail_of_in X ht⟩
def xA(X:Cx)(E:XK):Prop:=∀ (pins:List (Addr×Obj)) (σ:St) (H:Hp) (s:Shared) (h':Heap) (e:Addr) (cls:Value) (vs:List Value),Inv X pins σ H s->Heap.MadeExcOf s.heap h' e cls vs->E cls none H->X.xe (.ref e) { s with heap:=h' }
theorem Fc{P:Program}{w:World}{K:PySem.W.Frag}{mg:Str->Option Value}{base:Heap}{N:List Str}{qual:Str}{scope:Scope}{f:Addr}{cd:Value}{A:Around}{outer:List Env}{s:Shared}{H:Hp}{E:XK} :
  xA (cxR P w K mg base N qual scope f cd A outer s H E) E:=fun _ _ _ _ _ _ _ _ I hx hE=>zQ I hx hE
def vU(C:Addr)(E:XK)(t:TA):TS:=fun _ σ H=>t σ H fun vs H1=>vs.length<=sizeLine/\E (.ref C) none H1
theorem CI{X:Cx}{E:XK}{x:Str}{C:Addr}{np cpos pos:Pos}{e:Expr}{es:List Expr}{t:TA}(hR:xA X E)(O:Exc X.K X.mg x C)(hc:X.calm=true)(hg:Gl X x)(ha:PA X (e::es) t)
  (hdb:(x == ("__debug__" : Str))=false:=by decide) (he:starEach (e::es) X.env=(false,eval e X.env)::starEach es X.env:=by rfl) (hpl:(backTo cpos (starEach es X.env)).any (·.1)=false:=by rfl) :
  PS X (.Raise (some (.Call (.Name x np) (e::es) [] cpos)) none pos) (vU C E t):=by
 intro pins s σ H D I h
 obtain⟨tl,Nn,nm,q,bs,hdct,sn,sub,ab,col,dd,k0,k1,k2,k3,k5,mN,hC,hN,hni,T⟩:=O.obj I.ok.mod.kin
 refine wpAny_Raise_call_subT (C:=C) (nm:=nm) (q:=q) (N:=Nn) (bs:=bs) (bm:=tl) (hdct:=hdct) (sn:=sn) (sub:=sub) (ab:=ab) (col:=col) (dd:=dd) (k0:=k0) (k1:=k1) (k2:=k2) (k3:=k3) (k5:=k5)
  PySem.F.excBase_ValueError (mN:=mN) (T.hasType PySem.F.excBase_ValueError.hasBase) (I.ok.hd hc) (by rw[he];show (false || (backTo cpos (starEach es X.env)).any (·.1))=false;rw[hpl];rfl) hni (yp I hg O.bound ⟨rfl,?_⟩ hdb)
 have hp:=ha cpos pins s σ H _ I h
 rw[he] at hp |-
 refine Calls.evalArgs_plain (thn hp fun us s2 ⟨vs,H1,I1,r,hl,hE⟩=>⟨rfl,?_,I1.bk _ _ hC,hN.keeps I1.bk,T.keeps I1.bk,fun h' e' hm=>hR pins σ H1 s2 h' e' _ us I1 hm hE⟩)
 show us.length<=sizeLine
 rw[<- r.length]
 exact hl
abbrev XEx:=Value->St->Hp->Prop
abbrev Cx.pinned(X:Cx)(pn:List (Addr×Obj)):Cx:={ X with pn:=pn }
def Hq(sp:Sp)(EX:XEx)(t:TA):TE:=fun σ H Q=>t σ H fun vs H1=>sp vs H1 Q fun cls _ H2=>EX cls σ H2
def Nt(C:Addr)(tb:XEx->TS)(th:TS):TS:=fun D σ H=>tb (fun cls σ' H'=>cls=.ref C/\th D σ' H') D σ H
theorem Fun.okR{P:Program}{w:World}{K:PySem.W.Frag}{mg:Str->Option Value}{base:Heap}{x qual:Str}{st:Stmt}{f:Addr}{fd:FuncData}{N ps:List Str}{k:Nat}{sp:Sp}(F:Fun K x qual st f fd)(S:az N ps (ao st))(len:∀ vs H Q E,sp vs H Q E->vs.length=ps.length)
  (hbody:∀(bW:Value)(A:Around)(outer:List Env)(s:Shared)(H:Hp)(vs:List V)(Q:VK)(E:XK),eM k (A.deeper (envOfC qual (ao st) s.heap.objs.size f bW))->sp vs H Q E ->
   ∃ t,PSs (cxR P w K mg base N qual (ao st) f bW A outer s H E) (fI st) t/\t { nx:=fun _ H'=>Q .non H',rt:=Q } (start N vs) H):mn P w K mg base (CXR P w) (k+1) f fd ps sp:=by
 obtain⟨oc,od,kV,doc,pm,an,bW,ct,osl,rfl,lk,hcd⟩:=F.ex
 exact FX lk hcd S len fun A outer s H vs Q E hr hsp=>hbody bW A outer s H vs Q E hr hsp
end L2
namespace L2
open PySem PySem.Spec PyProof.Rows
theorem ls{env:Env}:∀ (names:List (Str×NameKind)) (cs:List (Str×Addr)),(∀ y∈names,y.2=.free->∃ c,env.cells.lookup y.1=some c)->(∀ y c,cs.lookup y=some c->env.cells.lookup y=some c) ->
  ∃ cl:List (Str×Addr),(forIn names cs fun (x:Str×NameKind) (r:List (Str×Addr))=>(if (x.2 == NameKind.free)=true then (cellOf env x.1 >>= fun a=>(pure (ForInStep.yield ((x.1,a)::r)):Sem _)) else pure (ForInStep.yield r)))=(pure cl:Sem (List (Str×Addr))) /\
   (∀ y c,cl.lookup y=some c->env.cells.lookup y=some c)/\(∀ y c,cs.lookup y=some c->∃ c',cl.lookup y=some c')/\∀ y∈names,y.2=.free->∃ c,cl.lookup y.1=some c
 | [],cs,_,h2=>⟨cs,rfl,h2,fun y c e=>⟨c,e⟩,fun _ z=>nomatch z⟩
 | (n,k)::r,cs,h1,h2=>by
  have yv:∀ y∈r,y.2=.free->∃ c,env.cells.lookup y.1=some c:=fun y hy=>h1 y (mem_cons_of_mem _ hy)
  by_cases hk:k=.free
  ·subst hk
   obtain⟨c,hc⟩:=h1 (n,.free) mem_cons_self rfl
   obtain⟨cl,e,a1,a2,a3⟩:=ls r ((n,c)::cs) yv (fun y c' hy=>by
    rw[lookup_cons] at hy
    split at hy
    ·rename_i hyn
     have:y=n:=by simpa using hyn
     subst this
     cases hy
     exact hc
    ·exact h2 y c' hy)
   refine⟨cl,?_,a1,fun y c' hy=>?_,fun y hy hf=>?_⟩
   ·rw[forIn_cons]
    have e1:cellOf env n=(pure c:Sem Addr):=by unfold cellOf;rw[hc]
    simp only[beq_self_eq_true,if_true,e1,pure_bind]
    exact e
   ·by_cases hyn:(y == n)=true
    ·exact a2 y c (by rw[lookup_cons,hyn])
    ·exact a2 y c' (by rw[lookup_cons];simp only[hyn];exact hy)
   ·rcases mem_cons.mp hy with rfl | hy
    ·exact a2 n c (by rw[lookup_cons];simp)
    ·exact a3 y hy hf
  ·obtain⟨cl,e,a1,a2,a3⟩:=ls r cs yv h2
   refine⟨cl,?_,a1,a2,fun y hy hf=>?_⟩
   ·rw[forIn_cons]
    have hb:(k == NameKind.free)=false:=by simpa using hk
    simp only[hb,false_eq_true,if_false,pure_bind]
    exact e
   ·rcases mem_cons.mp hy with rfl | hy
    ·exact absurd hf hk
    ·exact a3 y hy hf
theorem lr{env:Env}{scope:Scope}(h:∀ y∈scope.names,y.2=.free->∃ c,env.cells.lookup y.1=some c) :
  ∃ cl,closureFor scope env=pure cl/\(∀ y c,cl.lookup y=some c->env.cells.lookup y=some c)/\∀ y∈scope.names,y.2=.free->∃ c,cl.lookup y.1=some c:=by
 obtain⟨cl,e,a1,_,a3⟩:=ls (env:=env) scope.names [] h (fun y c z=>by simp at z)
 refine⟨cl,?_,a1,a3⟩
 unfold closureFor
 refine Eq.trans (congrArg (fun z=>z >>= fun (r:List (Str×Addr))=>(pure r:Sem (List (Str×Addr)))) ?_) (by rw[pure_bind])
 exact e
abbrev Cx.comp(X:Cx)(N':List Str)(scope:Scope)(cl:List (Str×Addr))(C:Addr)(fp:List Addr)(s2:Shared)(H2:Hp):Cx :=
 { X with N:=N',s₀:=s2,H₀:=H2,env:=compEnvC scope cl C X.env,outer:=X.stack,ex:=fp,fn:=fun _=>false,pn:=[],xe:=fun _ _=>False }
def PFs(X:Cx)(ifs:List Expr)(t:TT):Prop :=
 ∀ (pins:List (Addr×Obj)) (s:Shared) (σ:St) (H:Hp) (Q:Bool->Hp->Prop),Inv X pins σ H s->t σ H Q ->
  wpAny (model X.prog X.w) X.A (forIn ifs true fun c r=>if r=true then do let ok <- isTrue c X.env (eval c X.env);pure (ForInStep.yield ok) else pure (ForInStep.yield r)) (TP X pins σ Q) X.xe s
def eC:TT:=fun _ H Q=>Q true H
theorem H_{X:Cx}:PFs X [] eC:=fun _ _ _ H _ I h=>wpAny_tests_nil ⟨H,I,h⟩
theorem He{X:Cx}{c:Expr}{t:TT}(h:PT X c t):PFs X [c] t:=fun pins s σ H Q I q=>wpAny_tests_one (h pins s σ H Q I q)
def bj(n:Nat)(js:List Nat)(σ:St):St:=replicate n none++js.map fun j=>(σ[j]?).join
def Ext(σ σ':St):Prop:=σ.length=σ'.length/\∀(i:Nat) v,σ[i]?=some (some v)->σ'[i]?=some (some v)
def qF(g:TG)(n:Nat):Prop:=∀(r:St) x H Q,g x (replicate n none++r) H Q->g x (replicate n none++r) H fun σ2 H2=>Ext (replicate n none++r) σ2/\Q σ2 H2
theorem kL{n k:Nat}(hk:k < n)(r:St){σ:St}(e:Ext (replicate n none++r) σ)(v:V):Ext (replicate n none++r) (σ.set k (some v)):=by
 refine⟨by rw[length_set];exact e.1,fun i w h=>?_⟩
 by_cases hi:i=k
 ·subst hi
  rw[getElem?_append_left (by simpa using hk),getElem?_replicate] at h
  split at h<;>cases h
 ·rw[getElem?_set_ne (fun z=>hi z.symm)]
  exact e.2 i w h
theorem Ext.refl(σ:St):Ext σ σ:=⟨rfl,fun _ _ h=>h⟩
theorem aE{n k:Nat}(hk:k < n):qF (eS k) n:=fun r x H Q h=>⟨kL hk r (Ext.refl _) x,h⟩
theorem nh{K:PySem.W.Frag}{m n k j:Nat}(hk:k < n)(hj:j < n):qF (CB K m (qh (eS k) (qh (eS j) EB))) n:=fun r x H Q h=>by
 obtain⟨a,xs,e1,h1,h2,v,r1,e2,v2,r2,e3,e4,q⟩:=h
 exact⟨a,xs,e1,h1,h2,v,r1,e2,v2,r2,e3,e4,kL hj r (kL hk r (Ext.refl _) v) v2,q⟩
def nY(n:Nat)(js:List Nat)(wi:TI)(g:TG)(tt:TT)(te:TE):TE:=fun σ H Q=>wi σ H fun J H1=>∀ l,H1 l=none->∃ W:Nat->Nat->List V->Hp->Prop,(∃ m,W 0 m [] (upd H1 l (.lst [])))/\∀ i m acc H,W i m acc H ->
 (J.stop i H/\Q (.ref l) H)\/(J.go i H/\∃ N:List V->Hp->Prop,(∀ bu H',N bu H'->∃ m',m' < m/\W (i+1) m' bu H') /\
  ∀ x H',J.yld i H x H'->g x (bj n js σ) H' fun σ2 H2=>tt σ2 H2 fun b H3=>if b=true then te σ2 H3 fun y H4=>H4 l=some (.lst acc)/\acc.length < sizeLine/\N (acc++[y]) (upd H4 l (.lst (acc++[y]))) else N acc H3)
section
variable {prog:Program}{w:World}{A:Around}{R:Result->Shared->Prop}{s:Shared}
theorem i_{elt tg iter:Expr}{ifs:List Expr}{scope:Scope}{pos:Pos}{it acc:Value}{env:Env}(I:Nat->Shared->Prop){E:Value->Shared->Prop}(hE:∀ e s',E e s'->False)
  (turn:∀ n s,I n s->wpAny (model prog w) A (pyNext it) (fun r s₁=>match r with
   | none=>R (.ok .next) s₁
   | some v=>wpAny (model prog w) A (letOwnedTupleGo tg it v) (fun _ s₁=>wpAny (model prog w) A (assign tg env v) (fun _ s₂ =>
     wpAny (model prog w) A (forIn ifs true fun c r=>if r=true then do let ok <- isTrue c env (eval c env);pure (ForInStep.yield ok) else pure (ForInStep.yield r)) (fun ok s₃ =>
      if ok=true then wpAny (model prog w) A (eval elt env) (fun x s₄=>wpAny (model prog w) A (call (.builtin "list.append") [acc,x]) (fun _ s₅=>∃ m,m < n/\I m s₅) E s₄) E s₃
      else ∃ m,m < n/\I m s₃) E s₂) E s₁) E s₁) E s)
  (n:Nat) (h:I n s):codeAny (model prog w) A (.compLoop (.ListComp elt [⟨tg,iter,ifs,0⟩] scope pos) 0 it acc env) R s:=by
 refine codeAny_loop rfl I (fun n s hI=>?_) n h
 show wpAny _ A ((compTurn (.ListComp elt [⟨tg,iter,ifs,0⟩] scope pos) 0 it acc env).onRaise (fun x=>do noteFrame x env;theTreesLotGoes x)) _ _ s
 refine wpAny_noted ?_
 rw[compTurn_list]
 have up:∀{α:Type}{t:Sem α}{Q:α->Shared->Prop}{E':Value->Shared->Prop}{s:Shared},wpAny (model prog w) A t Q E s->wpAny (model prog w) A t Q E' s:=fun h=>wpAny_mono h (fun _ _ z=>z) fun _ _ z=>(hE _ _ z).elim
 refine wpAny_bind (wpAny_standAt (wpAny_bind (up (wpAny_mono (turn n s hI) (fun r s₁ h₁=>?_) fun _ _ z=>z))))
 cases r with
 | none=>exact wpAny_pure h₁
 | some v =>
  refine wpAny_bind (up (thn h₁ fun _ s₂ h₂=>wpAny_bind (up (thn h₂ fun _ s₃ h₃=>wpAny_bind (up (thn h₃ fun ok s₄ h₄=>?_))))))
  cases ok with
  | false=>exact wpAny_pure ⟨rfl,h₄⟩
  | true=>exact wpAny_bind (wpAny_bind (up (thn h₄ fun x s₅ h₅=>wpAny_bind (up (thn h₅ fun _ s₆ h₆=>wpAny_pure (wpAny_pure ⟨rfl,h₆⟩))))))
end
section
variable {X:Cx}
theorem Inv.AN{pins:List (Addr×Obj)}{σ:St}{H H':Hp}{s:Shared}{fp:List Addr}{N':List Str}{scope:Scope}{cl:List (Str×Addr)}{C:Addr}(I:Inv X pins σ H s)(f:∀ b∈fp,j8 X pins H b)
  (hb:∀ b∈fp,b < s.heap.objs.size) (hC:s.heap.objs.size<=C) (hcl:∀ y c,cl.lookup y=some c->X.env.cells.lookup y=some c) (hn:∀ b∈fp,H' b=none) :
  ∀ b∈fp,j8 (X.comp N' scope cl C fp s H) [] H' b:=fun b z=>by
 obtain⟨_,f1,f2,f3,f4,f5⟩:=f b z
 exact⟨hn b z,ne_of_lt (lt_of_lt_of_le (hb b z) hC),fun q=>(mem_cons.mp (I.mU b q)).elim f1 f2,.inl z,fun x c e=>f4 x c (hcl x c e),fun p hp=>absurd (show p∈([]:List (Addr×Obj))++[] from hp) (by simp)⟩
theorem Inv.comp{pins:List (Addr×Obj)}{σ:St}{H:Hp}{s s4:Shared}{fp:List Addr}{own:List Str}{fr:List (Str×Nat)}{scope:Scope}{cl:List (Str×Addr)}{C D:Addr}(I:Inv X pins σ H s)(f:∀ b∈fp,j8 X pins H b)
  (hb:∀ b∈fp,b < s.heap.objs.size) (hkind:scope.kind=.function) (hcell:∀ y∈scope.names,y.2≠.cell)
  (hcl:∀ y c,cl.lookup y=some c->X.env.cells.lookup y=some c) (pI:∀ y∈scope.names,y.2=.free->∃ c,cl.lookup y.1=some c)
  (hfr:∀ p∈fr,X.N[p.2]?=some p.1/\(X.env.kindOf p.1=some .cell\/X.env.kindOf p.1=some .free)/\(p.1,NameKind.free)∈scope.names/\((relabel scope X.env).names.lookup p.1=some .cell\/(relabel scope X.env).names.lookup p.1=some .free))
  (hD:s.heap.objs.size<=D) (hC:s.heap.objs.size<=C) (M4:C≠D) (hns:s4.heap.Ns C (fun _=>none)) (k:∀ b o,s.heap.get? b=some o->s4.heap.get? b=some o) (hl:s4.heap.get? D=some { cls:=.type "list", data:=.seq ([]:List Value).toArray })
  (os:s4.os=s.os) (bare:AllBare s4.gens):Inv (X.comp (own++fr.map (·.1)) scope cl C fp s H) [] (bj own.length (fr.map (·.2)) σ) (upd H D (.lst [])) s4:=by
 have fresh:∀ b,s.heap.objs.size<=b->H b=none:=fun b h=>I.hok.fresh h
 have gN:∀ y c,X.env.cells.lookup y=some c->c < s.heap.objs.size:=fun y c e=>by
  obtain⟨v,q⟩:=I.cell y c e
  exact q.lt
 have HF:∀ y,((relabel scope X.env).names.lookup y=some .cell\/(relabel scope X.env).names.lookup y=some .free)->∃ z∈scope.names,z.1=y/\z.2=.free:=fun y h=>by
  have mem:∃ kk,(y,kk)∈(relabel scope X.env).names/\(kk=.cell\/kk=.free):=by
   rcases h with h | h
   ·exact⟨_,PySem.mem_of_lookup h,.inl rfl⟩
   ·exact⟨_,PySem.mem_of_lookup h,.inr rfl⟩
  obtain⟨kk,hm,hk⟩:=mem
  obtain⟨⟨n,k0⟩,hz,e⟩:=mem_map.mp hm
  refine⟨(n,k0),hz,?_,?_⟩
  ·dsimp only at e
   split at e<;>cases e<;>rfl
  ·dsimp only at e |-
   split at e
   ·rename_i hc
    simp only[and_eq_true,beq_iff_eq] at hc
    exact hc.1.1
   ·cases e
    rcases hk with hk | hk
    ·exact absurd hk (hcell _ hz)
    ·exact hk
 have ok:(X.comp (own++fr.map (·.1)) scope cl C fp s H).Ok :=
  {mod:=I.ok.mod
   kind:=hkind
   glob:=I.ok.glob
   blt:=I.ok.blt
   above:=hC
   inj:=fun x y c e1 e2=>I.ok.inj x y c (hcl x c e1) (hcl y c e2)
   has:=fun y hy=>by
    obtain⟨z,hz,rfl,hf⟩:=HF y hy
    exact pI z hz hf
   cab:=fun x c z=>by cases (show false=true from z)
   hd:=I.ok.hd
   frames:=I.ok.frames
   stk:=.inl rfl
   exf:=fun b z=>⟨ne_of_lt (lt_of_lt_of_le (hb b z) hC),fun x c e=>(f b z).2.2.2.2.1 x c (hcl x c e)⟩
   bs:=fun b o e=>I.bs b o e
   bsz:=le_trans I.ok.bsz I.sz
   noex:=fun b o e z=>by
    obtain⟨_,_,_,h4,_⟩:=f b z
    rcases h4 with h4 | h4
    ·exact I.ok.noex b o e h4
    ·exact absurd (lt_size (I.ok.bs b o e).1) (not_lt.mpr h4)
   exfs:=fun b z q=>(mem_cons.mp (I.mU b q)).elim (f b z).2.1 (f b z).2.2.1
   nO:=I.stack
   frf:=I.mr }
 refine⟨ok,os,bare,Un.laid k hD (fresh D hD),⟨fun _=>none,hns,fun i x v h1 h2 h3=>?_⟩,fun x c e=>?_,?_,fun x c e=>?_,fun p hp=>absurd (show p∈([]:List (Addr×Obj))++[] from hp) (by simp),I.hok.laid k hD ⟨zero_le _,[],0,.nil,hl⟩,?_⟩
 ·-- a closed-over name
  have vx:(bj own.length (fr.map (·.2)) σ)[i]?=some (some v):=h2
  have yv:(own++fr.map (·.1))[i]?=some x:=h1
  unfold bj at vx
  by_cases hi:i < own.length
  ·rw[getElem?_append_left (by simpa using hi),getElem?_replicate] at vx
   split at vx<;>cases vx
  ·rw[getElem?_append_right (by simpa using hi),length_replicate,getElem?_map,getElem?_map] at vx
   rw[getElem?_append_right (by omega),getElem?_map] at yv
   cases e:fr[i - own.length]? with
   | none=>rw[e] at yv;cases yv
   | some p =>
    rw[e] at yv vx
    have hx:p.1=x:=Option.some.inj yv
    have hv:(σ[p.2]?).join=some v:=Option.some.inj vx
    have xG:σ[p.2]?=some (some v):=by
     cases q:σ[p.2]? with
     | none=>rw[q] at hv;cases hv
     | some o=>rw[q] at hv;rw[show o=some v from hv]
    obtain⟨hN,hkx,hmem,hrel⟩:=hfr p (mem_of_getElem? e)
    obtain⟨m,hn,cG⟩:=I.loc
    obtain⟨u,r,lk⟩:=cG p.2 p.1 v hN xG (hkx.elim (fun z=>.inr (.inl z)) fun z=>.inr (.inr z))
    rcases lk with ⟨lk,_⟩ | ⟨_,c,hc,xo⟩
    ·rcases hkx with z | z
     ·rw[lk] at z;cases z
     ·rw[lk] at z;cases z
    ·subst hx
     obtain⟨c',Ar⟩:=pI _ hmem rfl
     have:=hcl _ _ Ar
     rw[hc] at this
     cases this
     refine⟨u,r,.inr ⟨hrel,c,Ar,?_⟩⟩
     obtain⟨ob,e1,e2⟩:=xo
     exact⟨ob,k _ _ e1,e2⟩
 ·obtain⟨v,ob,e1,e2⟩:=I.cell x c (hcl x c e)
  exact⟨v,ob,k _ _ e1,e2⟩
 ·show upd H D (.lst []) C=none
  rw[ax M4]
  exact fresh C hC
 ·rw[ax (ne_of_lt (lt_of_lt_of_le (gN x c (hcl x c e)) hD))]
  exact I.freeC x c (hcl x c e)
 ·show (bj own.length (fr.map (·.2)) σ).length=(own++fr.map (·.1)).length
  unfold bj
  simp
theorem DI{elt iter tg:Expr}{ifs:List Expr}{scope:Scope}{pos:Pos}{wi:TI}{g:TG}{tt:TT}{te:TE}(own:List Str)(fr:List (Str×Nat))(hc:X.calm=true)(hi:PI X tg iter wi)
  (hgx:qF g own.length) (hB:∀ cl C fp s2 H2,PG (X.comp (own++fr.map (·.1)) scope cl C fp s2 H2) tg g/\PFs (X.comp (own++fr.map (·.1)) scope cl C fp s2 H2) ifs tt/\PE (X.comp (own++fr.map (·.1)) scope cl C fp s2 H2) elt te)
  (hkind:scope.kind=.function) (hcell:∀ y∈scope.names,y.2≠.cell) (hnames:∀ y∈scope.names,y.2=.local->scope.names.lookup y.1=some .local)
  (hfree:∀ y∈scope.names,y.2=.free->X.env.kindOf y.1=some .cell\/X.env.kindOf y.1=some .free)
  (hfr:∀ p∈fr,X.N[p.2]?=some p.1/\(X.env.kindOf p.1=some .cell\/X.env.kindOf p.1=some .free)/\(p.1,NameKind.free)∈scope.names/\((relabel scope X.env).names.lookup p.1=some .cell\/(relabel scope X.env).names.lookup p.1=some .free))
  (hs:∀ x,foldedSetIterable iter X.env x=pure x:=by intro _;rfl):PE X (.ListComp elt [⟨tg,iter,ifs,0⟩] scope pos) (nY own.length (fr.map (·.2)) wi g tt te):=by
 intro pins s σ H Q I h
 obtain⟨cl,hclos,hcl,pI⟩:=lr (env:=X.env) (scope:=scope) fun y hy hf=>I.ok.has y.1 (hfree y hy hf)
 rw[eval_ListComp]
 refine wpAny_comprehension_free (use:=none) rfl hs hclos hkind hnames (thn (hi pins s σ H _ I h) fun v s1 h1=>thn h1 fun itv s2 h2=>?_)
 obtain⟨it,fp,tn,J,H2,e,I2,T,xk,f2,h3⟩:=h2
 subst e
 obtain⟨W,⟨m0,w0⟩,turn⟩:=h3 s2.heap.objs.size I2.fresh
 have hb:∀ b∈fp,b < s2.heap.objs.size:=fun b z=>by
  obtain⟨o,e,_⟩:=T.obj _ _ xk b z
  exact lt_size e
 refine wpAny_newObj_type (wpAny_newFunctionEnv hcell (by intro y hy;simp at hy) (fun h₁ hns₁ hsb₁=>?_) hkind)
 dsimp only at hns₁ hsb₁ |-
 generalize Ak:s2.heap.push { cls:=.type "list", dict:=none,data:=.seq ([]:List Value).toArray }=G at hns₁ hsb₁ |-
 have uK:G.objs.size=s2.heap.objs.size+1:=by rw[<- Ak,size_push]
 have old:∀ b o,s2.heap.get? b=some o->h₁.get? b=some o:=fun b o e=>hsb₁.extBut b o (ne_of_lt (by rw[uK];exact lt_succ_of_lt (lt_size e))) (get?_push_of_some _ (Ak▸get?_push_of_some _ e))
 have hD:h₁.get? s2.heap.objs.size=some { cls:=.type "list", data:=.seq ([]:List Value).toArray }:=hsb₁.extBut _ _ (ne_of_lt (by rw[uK];exact lt_succ_self _)) (get?_push_of_some _ (Ak▸get?_push_size _ rfl))
 generalize hC:G.objs.size=C at hns₁ hsb₁ uK |-
 have wx:h₁.Ns C (fun _=>none):=by
  have e:(fun x=>(([]:List (Str×Value)).reverse.lookup x))=fun _=>(none:Option Value):=by funext x;rfl
  rw[<- e]
  exact hns₁
 have hle:s2.heap.objs.size<=C:=by rw[uK];exact le_succ _
 have hne:C≠s2.heap.objs.size:=ne_of_gt (by rw[uK];exact lt_succ_self _)
 let Y:Cx:=X.comp (own++fr.map (·.1)) scope cl C fp s2 H2
 have stat:∀{H':Hp},(∀ b∈fp,H' b=none)->∀ b∈fp,j8 Y [] H' b:=fun hn=>Inv.AN I2 f2 hb hle hcl hn
 obtain⟨gY,pY,eY⟩:=hB cl C fp s2 H2
 have IY:Inv Y [] (bj own.length (fr.map (·.2)) σ) (upd H2 s2.heap.objs.size (.lst [])) { s2 with heap:=h₁,toks:=s2.toks+([]:List (Str×Value)).length } :=
  Inv.comp (D:=s2.heap.objs.size) I2 f2 hb hkind hcell hcl pI hfr (le_refl _) hle hne wx old hD rfl I2.bare
 have loop:codeAny (model X.prog X.w) X.A (.compLoop (.ListComp elt [⟨tg,iter,ifs,0⟩] scope pos) 0 (.ref it) (.ref s2.heap.objs.size) (compEnvC scope cl C X.env)) (compPost (model X.prog X.w) X.A X.xe none (EP X pins σ Q) (.ref s2.heap.objs.size) C)
   { s2 with heap:=h₁,toks:=s2.toks+([]:List (Str×Value)).length }:=by
  refine i_ (E:=fun _ _=>False) (fun n s'=>∃ i acc H',Inv Y [] (bj own.length (fr.map (·.2)) σ) H' s'/\tn i s'.heap/\(∀ b∈fp,H' b=none)/\W i n acc H') (fun _ _ z=>z) ?_ m0
   ⟨0,[],_,IY,T.keep _ _ _ xk fun b _ o e=>old b o e,fun b z=>by rw[ax (ne_of_lt (hb b z))];exact (f2 b z).1,w0⟩
  rintro n s3 ⟨i,acc,H3,I3,AI,BL,w3⟩
  rcases turn i n acc H3 w3 with ⟨stop,q⟩ | ⟨go,Nn,hN,step⟩
  ·refine thn (T.done Y rfl rfl rfl hc i [] s3 _ H3 _ I3 (stat BL) AI stop) fun r s4 ⟨hr,I4⟩=>?_
   subst hr
   obtain⟨m4,L6,_⟩:=I4.loc
   refine⟨m4,L6,fun h' LW=>?_⟩
   have kb:∀ b o,b≠C->s4.heap.get? b=some o->h'.get? b=some o:=fun b o hne e=>LW.extBut b o hne e
   have IU:HOk X.prog X.w H3 h':=HOk.stays (show HOk X.prog X.w H3 s4.heap from I4.hok) fun b u hn e=>kb b u (fun z=>hn (by rw[z];exact I4.free)) e
   have bI:Un (frs X.stack) fp H2 H3 s2.heap s4.heap:=I4.base
   have lt:∀ b o,s2.heap.get? b=some o->b≠C:=fun b o e=>ne_of_lt (lt_of_lt_of_le (lt_size e) hle)
   have un:Un (frs X.stack) fp H2 H3 s2.heap h' :=
    {keep:=fun b o e n hb hx=>kb b o (lt b o e) (bI.keep b o e n hb hx)
     slot:=fun b o e n hb hx=>by
      obtain⟨sl,e1⟩:=bI.slot b o e n hb hx
      exact⟨sl,kb b _ (lt b o e) e1⟩
     free:=bI.free
     there:=fun b o e hx=>by
      obtain⟨o1,e1⟩:=bI.there b o e hx
      exact⟨o1,kb b _ (lt b o e) e1⟩
     tups:=bI.tups
     frzs:=bI.frzs
     tbls:=bI.tbls }
   exact⟨.ref s2.heap.objs.size,H3,I2.yI (s':={ s4 with heap:=h' }) (ch:=fp) I4.os un IU I4.bare (fun b z=>⟨(f2 b z).2.2.2.1,(f2 b z).2.1,(f2 b z).2.2.2.2.1,(f2 b z).2.2.2.2.2⟩),rfl,q⟩
  ·refine thn (T.item Y rfl rfl rfl hc i [] s3 _ H3 _ I3 (stat BL) AI go) fun r s4 ⟨u,hr,h4⟩=>?_
   subst hr
   refine thn h4 fun _ s5 ⟨x,H5,I5,r5,y5,xJ,Hg⟩=>?_
   have I5':=I5.pinned (stat Hg) (T.obj _ _ xJ)
   refine thn (gY _ s5 _ H5 x u _ I5' r5 (hgx _ x H5 _ (step x H5 y5))) fun _ s6 ⟨σ6,H6,I6,FP,q6⟩=>?_
   refine thn (pY _ s6 σ6 H6 _ I6 q6) fun ok s7 ⟨H7,I7,q7⟩=>?_
   have again:∀{bu:List V}{H8:Hp}{s8:Shared},Inv Y ([]++lX fp s5.heap) σ6 H8 s8->Nn bu H8->∃ m,m < n/\∃ i acc H',Inv Y [] (bj own.length (fr.map (·.2)) σ) H' s8/\tn i s8.heap/\(∀ b∈fp,H' b=none)/\W i m acc H':=fun {bu H8 s8} I8 n8=>by
    obtain⟨m',hm,w8⟩:=hN bu H8 n8
    refine⟨m',hm,i+1,bu,H8,I8.iL.weak FP.1 FP.2,T.keep _ _ _ xJ fun b hb o e=>(I8.pin (b,o) (mem_append_right _ (mem_append_right _ (cY hb e)))).1,fun b hb=>?_,w8⟩
    obtain⟨o,e,d⟩:=T.obj _ _ xJ b hb
    exact (I8.pin (b,o) (mem_append_right _ (mem_append_right _ (cY hb e)))).2.1
   cases ok with
   | false=>exact again I7 (by simpa using q7)
   | true =>
    have Kk:=(by simpa using q7:te σ6 H7 _)
    refine thn (eY _ s7 σ6 H7 _ I7 Kk) fun xv s8 ⟨y,H8,I8,r8,lq,G7,n8⟩=>?_
    refine thn (bT (X:=Y) _ s8 σ6 H8 (.ref s2.heap.objs.size) [y] (.ref s2.heap.objs.size) [xv] (fun v H9=>v=.non/\H9=upd H8 s2.heap.objs.size (.lst (acc++[y]))) I8 rfl (.cons r8 .nil) ⟨_,acc,y,rfl,rfl,lq,G7,rfl,rfl⟩) fun _ s9 ⟨v9,H9,I9,_,_,e9⟩=>?_
    subst e9
    exact again I9 n8
 exact codeAny_compStart_list loop (T.self X.A 0 _ _ _ (T.keep _ _ _ xk fun b _ o e=>old b o e) loop)
theorem FF{elt iter tg:Expr}{ifs:List Expr}{scope:Scope}{pos spos py:Pos}{wi:TI}{g:TG}{tt:TT}{te:TE}{k:Nat}{y:Str}(own:List Str)(fr:List (Str×Nat))(Ey:X.N.Nodup)(hk:X.N[k]?=some y)(hy:X.env.scope.names.lookup y=some .local)(hc:X.calm=true)(hi:PI X tg iter wi)
  (hgx:qF g own.length) (hB:∀ cl C fp s2 H2,PG (X.comp (own++fr.map (·.1)) scope cl C fp s2 H2) tg g/\PFs (X.comp (own++fr.map (·.1)) scope cl C fp s2 H2) ifs tt/\PE (X.comp (own++fr.map (·.1)) scope cl C fp s2 H2) elt te)
  (hkind:scope.kind=.function) (hcell:∀ y∈scope.names,y.2≠.cell) (hnames:∀ y∈scope.names,y.2=.local->scope.names.lookup y.1=some .local)
  (hfree:∀ y∈scope.names,y.2=.free->X.env.kindOf y.1=some .cell\/X.env.kindOf y.1=some .free)
  (hfr:∀ p∈fr,X.N[p.2]?=some p.1/\(X.env.kindOf p.1=some .cell\/X.env.kindOf p.1=some .free)/\(p.1,NameKind.free)∈scope.names/\((relabel scope X.env).names.lookup p.1=some .cell\/(relabel scope X.env).names.lookup p.1=some .free))
  (hsw:swapsWith (.ListComp elt [⟨tg,iter,ifs,0⟩] scope pos) (some (.Name y py)) spos.line X.env=pure true:=by rfl)
  (hs:∀ x,foldedSetIterable iter X.env x=pure x:=by intro _;rfl):PS X (.Assign [.Name y py] (.ListComp elt [⟨tg,iter,ifs,0⟩] scope pos) spos) (oy (nY own.length (fr.map (·.2)) wi g tt te) (eS k)):=by
 intro pins s σ H DD I h
 obtain⟨cl,hclos,hcl,pI⟩:=lr (env:=X.env) (scope:=scope) fun y hy hf=>I.ok.has y.1 (hfree y hy hf)
 rw[exec_Assign_Name_used _ _ _ _ hsw]
 refine wpAny_bind (wpAny_standAt (wpAny_bind ?_))
 refine wpAny_bind (thn (wpAny_comprehension_free (M:=model X.prog X.w) (A:=X.A) (E:=X.xe) (e:=.ListComp elt [⟨tg,iter,ifs,0⟩] scope pos) (first:=eval iter X.env) (newAcc:=newList []) (use:=some (assign (.Name y py) X.env)) (Q:=fun _ s'=>SP X pins DD .next s') rfl hs hclos hkind hnames
  (thn (hi pins s σ H _ I h) fun v s1 h1=>thn h1 fun itv s2 h2=>?_)) fun _ s' hq=>wpAny_pure (wpAny_pure hq))
 obtain⟨it,fp,tn,J,H2,e,I2,T,xk,f2,h3⟩:=h2
 subst e
 obtain⟨W,⟨m0,w0⟩,turn⟩:=h3 s2.heap.objs.size I2.fresh
 have hb:∀ b∈fp,b < s2.heap.objs.size:=fun b z=>by
  obtain⟨o,e,_⟩:=T.obj _ _ xk b z
  exact lt_size e
 refine wpAny_newObj_type (wpAny_newFunctionEnv hcell (by intro y hy;simp at hy) (fun h₁ hns₁ hsb₁=>?_) hkind)
 dsimp only at hns₁ hsb₁ |-
 generalize Ak:s2.heap.push { cls:=.type "list", dict:=none,data:=.seq ([]:List Value).toArray }=G at hns₁ hsb₁ |-
 have uK:G.objs.size=s2.heap.objs.size+1:=by rw[<- Ak,size_push]
 have old:∀ b o,s2.heap.get? b=some o->h₁.get? b=some o:=fun b o e=>hsb₁.extBut b o (ne_of_lt (by rw[uK];exact lt_succ_of_lt (lt_size e))) (get?_push_of_some _ (Ak▸get?_push_of_some _ e))
 have hD:h₁.get? s2.heap.objs.size=some { cls:=.type "list", data:=.seq ([]:List Value).toArray }:=hsb₁.extBut _ _ (ne_of_lt (by rw[uK];exact lt_succ_self _)) (get?_push_of_some _ (Ak▸get?_push_size _ rfl))
 generalize hC:G.objs.size=C at hns₁ hsb₁ uK |-
 have wx:h₁.Ns C (fun _=>none):=by
  have e:(fun x=>(([]:List (Str×Value)).reverse.lookup x))=fun _=>(none:Option Value):=by funext x;rfl
  rw[<- e]
  exact hns₁
 have hle:s2.heap.objs.size<=C:=by rw[uK];exact le_succ _
 have hne:C≠s2.heap.objs.size:=ne_of_gt (by rw[uK];exact lt_succ_self _)
 let Y:Cx:=X.comp (own++fr.map (·.1)) scope cl C fp s2 H2
 have stat:∀{H':Hp},(∀ b∈fp,H' b=none)->∀ b∈fp,j8 Y [] H' b:=fun hn=>Inv.AN I2 f2 hb hle hcl hn
 obtain⟨gY,pY,eY⟩:=hB cl C fp s2 H2
 have IY:Inv Y [] (bj own.length (fr.map (·.2)) σ) (upd H2 s2.heap.objs.size (.lst [])) { s2 with heap:=h₁,toks:=s2.toks+([]:List (Str×Value)).length } :=
  Inv.comp (D:=s2.heap.objs.size) I2 f2 hb hkind hcell hcl pI hfr (le_refl _) hle hne wx old hD rfl I2.bare
 have loop:codeAny (model X.prog X.w) X.A (.compLoop (.ListComp elt [⟨tg,iter,ifs,0⟩] scope pos) 0 (.ref it) (.ref s2.heap.objs.size) (compEnvC scope cl C X.env)) (compPost (model X.prog X.w) X.A X.xe (some (assign (.Name y py) X.env)) (fun _ s'=>SP X pins DD .next s') (.ref s2.heap.objs.size) C)
   { s2 with heap:=h₁,toks:=s2.toks+([]:List (Str×Value)).length }:=by
  refine i_ (E:=fun _ _=>False) (fun n s'=>∃ i acc H',Inv Y [] (bj own.length (fr.map (·.2)) σ) H' s'/\tn i s'.heap/\(∀ b∈fp,H' b=none)/\W i n acc H') (fun _ _ z=>z) ?_ m0
   ⟨0,[],_,IY,T.keep _ _ _ xk fun b _ o e=>old b o e,fun b z=>by rw[ax (ne_of_lt (hb b z))];exact (f2 b z).1,w0⟩
  rintro n s3 ⟨i,acc,H3,I3,AI,BL,w3⟩
  rcases turn i n acc H3 w3 with ⟨stop,q⟩ | ⟨go,Nn,hN,step⟩
  ·refine thn (T.done Y rfl rfl rfl hc i [] s3 _ H3 _ I3 (stat BL) AI stop) fun r s4 ⟨hr,I4⟩=>?_
   subst hr
   obtain⟨m4,L6,_⟩:=I4.loc
   have IX:Inv X pins σ H3 s4:=I2.yI (s':=s4) (ch:=fp) I4.os (show Un (frs X.stack) fp H2 H3 s2.heap s4.heap from I4.base) I4.hok I4.bare (fun b z=>⟨(f2 b z).2.2.2.1,(f2 b z).2.1,(f2 b z).2.2.2.2.1,(f2 b z).2.2.2.2.2⟩)
   have Lz:C≠X.env.locals:=ne_of_gt (lt_of_lt_of_le I2.lt hle)
   show wpAny _ _ (assign (.Name y py) X.env (.ref s2.heap.objs.size)) _ _ s4
   have gN:∀ z c,X.env.cells.lookup z=some c->c < C:=fun z c e=>by
    obtain⟨v,q'⟩:=I2.cell z c e
    exact lt_of_lt_of_le q'.lt hle
   refine wpAny_assign_Name (mZ IX Ey hk (inl hy) (v:=.ref s2.heap.objs.size) (u:=.ref s2.heap.objs.size) rfl (fun s5 I5 k5=>?_) (inr hy))
   obtain⟨a5,NJ,MJ⟩:=k5
   have Nu:C≠a5:=by
    rcases MJ with z | z
    ·rw[z];exact Lz
    ·exact ne_of_gt (gN _ _ z)
   refine⟨m4,Ns.sameBut L6 NJ Nu,fun h' LW=>?_⟩
   refine⟨σ.set k (some (.ref s2.heap.objs.size)),H3,?_,q⟩
   refine I5.turned (it:=C) (t':=s5.toks) (fun b o hne e=>LW.extBut b o hne e) I4.free Lz (.inr (le_trans I2.sz hle)) (fun z c e=>ne_of_lt (gN z c e)) fun p hp=>?_
   exact ne_of_lt (lt_of_lt_of_le (lt_size (I2.pin p hp).1) hle)
  ·refine thn (T.item Y rfl rfl rfl hc i [] s3 _ H3 _ I3 (stat BL) AI go) fun r s4 ⟨u,hr,h4⟩=>?_
   subst hr
   refine thn h4 fun _ s5 ⟨x,H5,I5,r5,y5,xJ,Hg⟩=>?_
   have I5':=I5.pinned (stat Hg) (T.obj _ _ xJ)
   refine thn (gY _ s5 _ H5 x u _ I5' r5 (hgx _ x H5 _ (step x H5 y5))) fun _ s6 ⟨σ6,H6,I6,FP,q6⟩=>?_
   refine thn (pY _ s6 σ6 H6 _ I6 q6) fun ok s7 ⟨H7,I7,q7⟩=>?_
   have again:∀{bu:List V}{H8:Hp}{s8:Shared},Inv Y ([]++lX fp s5.heap) σ6 H8 s8->Nn bu H8->∃ m,m < n/\∃ i acc H',Inv Y [] (bj own.length (fr.map (·.2)) σ) H' s8/\tn i s8.heap/\(∀ b∈fp,H' b=none)/\W i m acc H':=fun {bu H8 s8} I8 n8=>by
    obtain⟨m',hm,w8⟩:=hN bu H8 n8
    refine⟨m',hm,i+1,bu,H8,I8.iL.weak FP.1 FP.2,T.keep _ _ _ xJ fun b hb o e=>(I8.pin (b,o) (mem_append_right _ (mem_append_right _ (cY hb e)))).1,fun b hb=>?_,w8⟩
    obtain⟨o,e,d⟩:=T.obj _ _ xJ b hb
    exact (I8.pin (b,o) (mem_append_right _ (mem_append_right _ (cY hb e)))).2.1
   cases ok with
   | false=>exact again I7 (by simpa using q7)
   | true =>
    have Kk:=(by simpa using q7:te σ6 H7 _)
    refine thn (eY _ s7 σ6 H7 _ I7 Kk) fun xv s8 ⟨y,H8,I8,r8,lq,G7,n8⟩=>?_
    refine thn (bT (X:=Y) _ s8 σ6 H8 (.ref s2.heap.objs.size) [y] (.ref s2.heap.objs.size) [xv] (fun v H9=>v=.non/\H9=upd H8 s2.heap.objs.size (.lst (acc++[y]))) I8 rfl (.cons r8 .nil) ⟨_,acc,y,rfl,rfl,lq,G7,rfl,rfl⟩) fun _ s9 ⟨v9,H9,I9,_,_,e9⟩=>?_
    subst e9
    exact again I9 n8
 exact codeAny_compStart_list loop (T.self X.A 0 _ _ _ (T.keep _ _ _ xk fun b _ o e=>old b o e) loop)
end
theorem rW{K:PySem.W.Frag}{a l:Addr}{xs:List V}{n:Nat}{js:List Nat}{g:TG}{tt:TT}{te:TE}{σ:St}{H1:Hp}{Q:VK}(Pv:Nat->List V->Hp->Prop)(h0:Pv 0 [] (upd H1 l (.lst [])))(hl:∀ i acc H,i<=xs.length->Pv i acc H->SqL K H a xs)
  (hs:∀ i x acc H,xs[i]?=some x->Pv i acc H->g x (bj n js σ) H fun σ2 H2=>tt σ2 H2 fun b H3=>if b=true then te σ2 H3 fun y H4=>H4 l=some (.lst acc)/\acc.length < sizeLine/\Pv (i+1) (acc++[y]) (upd H4 l (.lst (acc++[y]))) else Pv (i+1) acc H3)
  (hd:∀ acc H,Pv xs.length acc H->Q (.ref l) H) :
  ∃ W:Nat->Nat->List V->Hp->Prop,(∃ m,W 0 m [] (upd H1 l (.lst [])))/\∀ i m acc H,W i m acc H ->
   ((Itl K a).stop i H/\Q (.ref l) H)\/((Itl K a).go i H/\∃ N:List V->Hp->Prop,(∀ bu H',N bu H'->∃ m',m' < m/\W (i+1) m' bu H') /\
    ∀ x H',(Itl K a).yld i H x H'->g x (bj n js σ) H' fun σ2 H2=>tt σ2 H2 fun b H3=>if b=true then te σ2 H3 fun y H4=>H4 l=some (.lst acc)/\acc.length < sizeLine/\N (acc++[y]) (upd H4 l (.lst (acc++[y]))) else N acc H3):=by
 refine⟨fun i m acc H=>m=xs.length - i/\i<=xs.length/\Pv i acc H,⟨xs.length,by simp,zero_le _,h0⟩,?_⟩
 rintro i m acc H ⟨rfl,hi,p⟩
 have q:=hl i acc H hi p
 by_cases hlt:i < xs.length
 ·refine .inr ⟨⟨xs,xs[i],q,by simp[hlt]⟩,Pv (i+1),fun bu H' p'=>⟨xs.length - (i+1),by omega,rfl,hlt,p'⟩,fun x H' y=>?_⟩
  obtain⟨e,y⟩:=y
  subst e
  exact hs i x acc _ (y xs q) p
 ·have e:i=xs.length:=by omega
  subst e
  exact .inl ⟨⟨xs,q,le_refl _⟩,hd acc H p⟩
theorem Co{K:PySem.W.Frag}{a l:Addr}{xs:List V}{n:Nat}{js:List Nat}{g:TG}{tt:TT}{te:TE}{σ:St}{H1:Hp}{Q:VK}(Pv:Nat->List V->Hp->Prop)(h0:Pv 0 [] (upd H1 l (.lst [])))(hl:∀ i acc H,i<=xs.length->Pv i acc H->SqT K H a xs)
  (hs:∀ i x acc H,xs[i]?=some x->Pv i acc H->g x (bj n js σ) H fun σ2 H2=>tt σ2 H2 fun b H3=>if b=true then te σ2 H3 fun y H4=>H4 l=some (.lst acc)/\acc.length < sizeLine/\Pv (i+1) (acc++[y]) (upd H4 l (.lst (acc++[y]))) else Pv (i+1) acc H3)
  (hd:∀ acc H,Pv xs.length acc H->Q (.ref l) H) :
  ∃ W:Nat->Nat->List V->Hp->Prop,(∃ m,W 0 m [] (upd H1 l (.lst [])))/\∀ i m acc H,W i m acc H ->
   ((Itt K a).stop i H/\Q (.ref l) H)\/((Itt K a).go i H/\∃ N:List V->Hp->Prop,(∀ bu H',N bu H'->∃ m',m' < m/\W (i+1) m' bu H') /\
    ∀ x H',(Itt K a).yld i H x H'->g x (bj n js σ) H' fun σ2 H2=>tt σ2 H2 fun b H3=>if b=true then te σ2 H3 fun y H4=>H4 l=some (.lst acc)/\acc.length < sizeLine/\N (acc++[y]) (upd H4 l (.lst (acc++[y]))) else N acc H3):=by
 refine⟨fun i m acc H=>m=xs.length - i/\i<=xs.length/\Pv i acc H,⟨xs.length,by simp,zero_le _,h0⟩,?_⟩
 rintro i m acc H ⟨rfl,hi,p⟩
 have q:=hl i acc H hi p
 by_cases hlt:i < xs.length
 ·refine .inr ⟨⟨xs,xs[i],q,by simp[hlt]⟩,Pv (i+1),fun bu H' p'=>⟨xs.length - (i+1),by omega,rfl,hlt,p'⟩,fun x H' y=>?_⟩
  obtain⟨e,y⟩:=y
  subst e
  exact hs i x acc _ (y xs q) p
 ·have e:i=xs.length:=by omega
  subst e
  exact .inl ⟨⟨xs,q,le_refl _⟩,hd acc H p⟩
theorem xy{lo:Int}{k:Nat}{l:Addr}{n:Nat}{js:List Nat}{g:TG}{tt:TT}{te:TE}{σ:St}{H1:Hp}{Q:VK}(Pv:Nat->List V->Hp->Prop)(h0:Pv 0 [] (upd H1 l (.lst [])))
  (hs:∀ i acc H,i < k->Pv i acc H->g (.int (lo+i)) (bj n js σ) H fun σ2 H2=>tt σ2 H2 fun b H3=>if b=true then te σ2 H3 fun y H4=>H4 l=some (.lst acc)/\acc.length < sizeLine/\Pv (i+1) (acc++[y]) (upd H4 l (.lst (acc++[y]))) else Pv (i+1) acc H3)
  (hd:∀ acc H,Pv k acc H->Q (.ref l) H) :
  ∃ W:Nat->Nat->List V->Hp->Prop,(∃ m,W 0 m [] (upd H1 l (.lst [])))/\∀ i m acc H,W i m acc H ->
   ((Itr lo k).stop i H/\Q (.ref l) H)\/((Itr lo k).go i H/\∃ N:List V->Hp->Prop,(∀ bu H',N bu H'->∃ m',m' < m/\W (i+1) m' bu H') /\
    ∀ x H',(Itr lo k).yld i H x H'->g x (bj n js σ) H' fun σ2 H2=>tt σ2 H2 fun b H3=>if b=true then te σ2 H3 fun y H4=>H4 l=some (.lst acc)/\acc.length < sizeLine/\N (acc++[y]) (upd H4 l (.lst (acc++[y]))) else N acc H3):=by
 refine⟨fun i m acc H=>m=k - i/\i<=k/\Pv i acc H,⟨k,by simp,zero_le _,h0⟩,?_⟩
 rintro i m acc H ⟨rfl,hi,p⟩
 by_cases hlt:i < k
 ·refine .inr ⟨hlt,Pv (i+1),fun bu H' p'=>⟨k - (i+1),by omega,rfl,hlt,p'⟩,fun x H' y=>?_⟩
  obtain⟨e,y⟩:=y
  subst e y
  exact hs i acc _ hlt p
 ·have e:i=k:=by omega
  subst e
  exact .inl ⟨le_refl _,hd acc H p⟩
theorem aV{K:PySem.W.Frag}{a l:Addr}{xs:List V}{n:Nat}{js:List Nat}{g:TG}{tt:TT}{te:TE}{σ:St}{H1:Hp}{R:Hp->Prop}(Pv:Nat->List V->Hp->Prop)(h0:Pv 0 [] (upd H1 l (.lst [])))(hl:∀ i acc H,i<=xs.length->Pv i acc H->SqL K H a xs)
  (hs:∀ i x acc H,xs[i]?=some x->Pv i acc H->g x (bj n js σ) H fun σ2 H2=>tt σ2 H2 fun b H3=>if b=true then te σ2 H3 fun y H4=>H4 l=some (.lst acc)/\acc.length < sizeLine/\Pv (i+1) (acc++[y]) (upd H4 l (.lst (acc++[y]))) else Pv (i+1) acc H3)
  (hd:∀ acc H,Pv xs.length acc H->R H) :
  ∃ W:Nat->Nat->List V->Hp->Prop,(∃ m,W 0 m [] (upd H1 l (.lst [])))/\∀ i m acc H,W i m acc H ->
   ((Itl K a).stop i H/\R H)\/((Itl K a).go i H/\∃ N:List V->Hp->Prop,(∀ bu H',N bu H'->∃ m',m' < m/\W (i+1) m' bu H') /\
    ∀ x H',(Itl K a).yld i H x H'->g x (bj n js σ) H' fun σ2 H2=>tt σ2 H2 fun b H3=>if b=true then te σ2 H3 fun y H4=>H4 l=some (.lst acc)/\acc.length < sizeLine/\N (acc++[y]) (upd H4 l (.lst (acc++[y]))) else N acc H3):=rW (Q:=fun _ H=>R H) Pv h0 hl hs hd
theorem gn{K:PySem.W.Frag}{a l:Addr}{xs:List V}{n:Nat}{js:List Nat}{g:TG}{tt:TT}{te:TE}{σ:St}{H1:Hp}{R:Hp->Prop}(Pv:Nat->List V->Hp->Prop)(h0:Pv 0 [] (upd H1 l (.lst [])))(hl:∀ i acc H,i<=xs.length->Pv i acc H->SqT K H a xs)
  (hs:∀ i x acc H,xs[i]?=some x->Pv i acc H->g x (bj n js σ) H fun σ2 H2=>tt σ2 H2 fun b H3=>if b=true then te σ2 H3 fun y H4=>H4 l=some (.lst acc)/\acc.length < sizeLine/\Pv (i+1) (acc++[y]) (upd H4 l (.lst (acc++[y]))) else Pv (i+1) acc H3)
  (hd:∀ acc H,Pv xs.length acc H->R H) :
  ∃ W:Nat->Nat->List V->Hp->Prop,(∃ m,W 0 m [] (upd H1 l (.lst [])))/\∀ i m acc H,W i m acc H ->
   ((Itt K a).stop i H/\R H)\/((Itt K a).go i H/\∃ N:List V->Hp->Prop,(∀ bu H',N bu H'->∃ m',m' < m/\W (i+1) m' bu H') /\
    ∀ x H',(Itt K a).yld i H x H'->g x (bj n js σ) H' fun σ2 H2=>tt σ2 H2 fun b H3=>if b=true then te σ2 H3 fun y H4=>H4 l=some (.lst acc)/\acc.length < sizeLine/\N (acc++[y]) (upd H4 l (.lst (acc++[y]))) else N acc H3):=Co (Q:=fun _ H=>R H) Pv h0 hl hs hd
theorem de{lo:Int}{k:Nat}{l:Addr}{n:Nat}{js:List Nat}{g:TG}{tt:TT}{te:TE}{σ:St}{H1:Hp}{R:Hp->Prop}(Pv:Nat->List V->Hp->Prop)(h0:Pv 0 [] (upd H1 l (.lst [])))
  (hs:∀ i acc H,i < k->Pv i acc H->g (.int (lo+i)) (bj n js σ) H fun σ2 H2=>tt σ2 H2 fun b H3=>if b=true then te σ2 H3 fun y H4=>H4 l=some (.lst acc)/\acc.length < sizeLine/\Pv (i+1) (acc++[y]) (upd H4 l (.lst (acc++[y]))) else Pv (i+1) acc H3)
  (hd:∀ acc H,Pv k acc H->R H) :
  ∃ W:Nat->Nat->List V->Hp->Prop,(∃ m,W 0 m [] (upd H1 l (.lst [])))/\∀ i m acc H,W i m acc H ->
   ((Itr lo k).stop i H/\R H)\/((Itr lo k).go i H/\∃ N:List V->Hp->Prop,(∀ bu H',N bu H'->∃ m',m' < m/\W (i+1) m' bu H') /\
    ∀ x H',(Itr lo k).yld i H x H'->g x (bj n js σ) H' fun σ2 H2=>tt σ2 H2 fun b H3=>if b=true then te σ2 H3 fun y H4=>H4 l=some (.lst acc)/\acc.length < sizeLine/\N (acc++[y]) (upd H4 l (.lst (acc++[y]))) else N acc H3):=xy (Q:=fun _ H=>R H) Pv h0 hs hd
end L2
namespace L2
open PySem PySem.Spec PyProof.Rows
open PySem.Builtin.Int (intBits)
abbrev Sz(k:Nat)(x:Int):Prop:=intBits x<=k
theorem Sz.of{k:Nat}{x:Int}(h:x.natAbs < 2 ^ k):Sz k x:=PySem.intBits_le_iff.mpr h
theorem Sz.lt{k:Nat}{x:Int}(h:Sz k x):x.natAbs < 2 ^ k:=PySem.intBits_le_iff.mp h
theorem Sz.mono{j k:Nat}{x:Int}(h:Sz j x)(q:j<=k):Sz k x:=le_trans h q
theorem Sz.le{k:Nat}{x y:Int}(h:Sz k y)(q:x.natAbs<=y.natAbs):Sz k x:=PySem.intBits_le_of_natAbs q h
theorem Sz.mul{j k:Nat}{x y:Int}(h:Sz j x)(q:Sz k y):Sz (j+k) (x*y):=PySem.intBits_mul_le h q
theorem Sz.add{k:Nat}{x y:Int}(h:Sz k x)(q:Sz k y):Sz (k+1) (x+y):=le_trans (PySem.intBits_add_le h q) (by omega)
theorem Sz.sub{k:Nat}{x y:Int}(h:Sz k x)(q:Sz k y):Sz (k+1) (x - y):=le_trans (PySem.intBits_sub_le h q) (by omega)
theorem Sz.neg{k:Nat}{x:Int}(h:Sz k x):Sz k (-x):=PySem.intBits_neg_le h
theorem Sz.ok{j k:Nat}{x y:Int}(h:Sz j x)(q:Sz k y)(e:j+k<=134217728):IntMulOk x y:=PySem.IntMulOk.of_le h q e
theorem Sz.okR{k:Nat}{x y:Int}(q:Sz k y)(e:k<=64):IntMulOk x y:=IntMulOk.of_right (le_trans q e)
theorem Sz.Np{k:Nat}{x y:Int}(q:Sz k y)(e:k<=9000):Builtin.divisionGoesByPylong x y=false:=by
 refine PyProof.noPylong_of_log2 ?_
 by_cases h0:y.natAbs=0
 ·rw[h0];decide +kernel
 ·exact (Nat.log2_lt h0).mpr (Sz.lt (q.mono e))
section
variable {X:Cx}
def Gx(i j:Int):Prop:=IntMulOk i j
def Gc(i j:Int):Prop:=0 < j/\Sz 9000 j
theorem bz:OpR X (binaryOp .Mult) (rI Gx fun i j=>.int (i*j)):=opI fun _ _ _ _ _ _ _ hc q=>mul_int q hc
theorem dH:OpR X (binaryOp .FloorDiv) (rI Gc fun i j=>.int (i / j)):=opI fun i j _ _ _ _ _ hc q=>by
 have h1:(0:Int) < j:=hc.1
 exact floordiv_int (by omega) (by rw[Int.fdiv_eq_ediv_of_nonneg i (by omega)];exact q) (.inl (Sz.Np hc.2 (le_refl _)))
def qw(x:V)(H:Hp):Option String:=match x with
 | .non=>some "NoneType"
 | .bl _=>some "bool"
 | .int _=>some "int"
 | .str _=>some "str"
 | .ref a=>(match H a with
  | some (.lst _)=>some "list"
  | some (.tup _)=>some "tuple"
  | some (.dK _)=>some "dict"
  | _=>none)
 | _=>none
theorem Fk{K:PySem.W.Frag}{H:Hp}{x:V}{n:String}(h:qw x H=some n):nj K H x (.type n):=by
 unfold qw at h
 split at h
 ·cases h;exact .non
 ·cases h;exact .bl _
 ·cases h;exact .int _
 ·cases h;exact .str _
 ·split at h
  ·cases h;exact .lst (by assumption)
  ·cases h;exact .tup (by assumption)
  ·cases h;exact .dK (by assumption)
  ·cases h
 ·cases h
def pA(t c:String):Bool:=t == c || (t == "bool" && c == "int")
def o9:List String:=["NoneType", "bool", "int", "str", "list", "tuple", "dict"]
theorem Hi(K:PySem.W.Frag):∀ t∈o9,∀ c∈["bool", "int", "str", "list", "tuple", "dict"],kitOne K (.type t) (.type c)=some (pA t c):=by
 intro t ht c hc
 simp only[o9,mem_cons,not_mem_nil,or_false] at ht hc
 rcases ht with rfl | rfl | rfl | rfl | rfl | rfl | rfl<;>rcases hc with rfl | rfl | rfl | rfl | rfl | rfl<;>kernel_rfl
theorem Bp{x:V}{H:Hp}{n:String}(h:qw x H=some n):n∈o9:=by
 unfold qw at h
 split at h
 ·cases h;decide
 ·cases h;decide
 ·cases h;decide
 ·cases h;decide
 ·split at h
  ·cases h;decide
  ·cases h;decide
  ·cases h;decide
  ·cases h
 ·cases h
def KN:List V->Hp->VK->Prop:=fun xs H Q=>∃ x n t,xs=[x,.ty n]/\n∈["bool", "int", "str", "list", "tuple", "dict"]/\qw x H=some t/\Q (.bl (pA t n)) H
theorem jO:fJ X (.builtin "isinstance") KN:=by
 intro pins s σ H xs us Q I r h
 obtain⟨x,n,t,rfl,hn,ty,q⟩:=h
 obtain⟨u,v,rfl,ru,rv⟩:=r.two
 obtain rfl:v=Value.type n:=rv
 exact zJ I ru (Fk ty) (Hi X.K t (Bp ty) n hn) fun tk=>⟨.bl _,H,I.tok tk,rfl,q⟩
theorem Br:("int" ∈ ["bool", "int", "str", "list", "tuple", "dict"])=True:=eq_true (by decide)
theorem zK:("bool" ∈ ["bool", "int", "str", "list", "tuple", "dict"])=True:=eq_true (by decide)
theorem yR:("list" ∈ ["bool", "int", "str", "list", "tuple", "dict"])=True:=eq_true (by decide)
theorem xM:("tuple" ∈ ["bool", "int", "str", "list", "tuple", "dict"])=True:=eq_true (by decide)
theorem B7:("str" ∈ ["bool", "int", "str", "list", "tuple", "dict"])=True:=eq_true (by decide)
theorem IC:pA "int" "int" = true:=rfl
theorem Iy:pA "int" "bool" = false:=rfl
theorem IQ:pA "bool" "bool" = true:=rfl
theorem GH:pA "bool" "int" = true:=rfl
theorem JJ:pA "tuple" "tuple" = true:=rfl
theorem JD:pA "list" "list" = true:=rfl
theorem Jn:pA "NoneType" "tuple" = false:=rfl
theorem Hz:pA "NoneType" "int" = false:=rfl
def gq(H:Hp)(p:Addr):Option (List V):=match H p with
 | some (.lst xs)=>some xs
 | some (.tup xs)=>some xs
 | some (.frz _ (.lst xs))=>some xs
 | _=>none
theorem CM{K:PySem.W.Frag}{H:Hp}{p:Addr}{xs:List V}(h:gq H p=some xs):SqL K H p xs\/SqT K H p xs:=by
 unfold gq at h
 split at h
 ·rename_i e;cases h;exact .inl (SqL.of e)
 ·rename_i e;cases h;exact .inr (SqT.of e)
 ·rename_i e;cases h;exact .inl (.inl (.inr ⟨_,e⟩))
 ·cases h
def AD:R2:=fun x y H Q=>∃ p xs i v,x=.ref p/\y=.int i/\gq H p=some xs/\atI xs i=some v/\Q v H
theorem Df:IxR X AD:=by
 intro value slice pins s σ H x y v u Q I rx ry h hs
 obtain⟨p,xs,i,z,e1,e2,hq,he,q⟩:=h
 rcases CM (K:=X.K) hq with h' | h'
 ·exact DE value slice pins s σ H x y v u Q I rx ry ⟨p,xs,i,z,e1,e2,h',he,q⟩ hs
 ·exact Ic value slice pins s σ H x y v u Q I rx ry ⟨p,xs,i,z,e1,e2,h',he,q⟩ hs
def Bz:List V->Hp->VK->Prop:=fun xs H Q=>∃ p ys,xs=[.ref p]/\gq H p=some ys/\Q (.int ys.length) H
theorem aW:fJ X (.builtin "len") Bz:=by
 intro pins s σ H xs us Q I r h
 obtain⟨p,ys,e1,hq,q⟩:=h
 exact ue pins s σ H xs us Q I r ⟨p,ys,e1,CM hq,q⟩
def AS:V->V->Hp->VK->Prop:=fun x y H Q=>∃ p xs i v,x=.ref p/\y=.int i/\H p=some (.lst xs)/\0<=i/\atI xs i=some v/\Q v H
theorem jP:Jj X AS:=by
 intro pins s σ H o i ov iv Q I r1 r2 h
 obtain⟨p,xs,k,v,rfl,rfl,hl,h0,he,q⟩:=h
 obtain rfl:ov=Value.ref p:=r1
 obtain⟨t,rfl⟩:=r2
 obtain⟨aN,rv,pl,hz⟩:=I.list (SqL.of hl)
 obtain⟨j,h1,h2,h3,h4,h5⟩:=uH he
 obtain⟨u,hu,ru⟩:=rv.get h2
 have hlen:=rv.length
 have hn:=pQ
 have hj:k.toNat=j:=by
  rw[seqIndex_of h0 h5] at h1
  exact Option.some.inj h1
 exact wpAny_getItem_list pl.isList h0 (by omega) (by rw[hj];simpa using hu) ⟨v,H,I,ru,q⟩
theorem Lp{α:Type}{a:α}{l:List α}:atI (a::l) 0=some a:=aQ (j:=0) rfl
theorem Lb{α:Type}{a b:α}{l:List α}:atI (a::b::l) 1=some b:=aQ (j:=1) rfl
theorem KY{α:Type}{a b c:α}{l:List α}:atI (a::b::c::l) 2=some c:=aQ (j:=2) rfl
theorem KS{α:Type}{a b c d:α}{l:List α}:atI (a::b::c::d::l) 3=some d:=aQ (j:=3) rfl
theorem EA:ixN 4 0=some 0:=rfl
theorem EN:ixN 4 1=some 1:=rfl
theorem DP:ixN 4 2=some 2:=rfl
theorem Eh:ixN 4 3=some 3:=rfl
theorem CH{α:Type}{xs:List α}{i:Int}(h0:0<=i)(h1:i < xs.length):∃ v,atI xs i=some v/\v∈xs:=by
 have hl:i.toNat < xs.length:=by omega
 refine⟨xs[i.toNat],?_,getElem_mem hl⟩
 have:=aQ (xs:=xs) (j:=i.toNat) (v:=xs[i.toNat]) (by simp[hl])
 rwa [toNat_of_nonneg h0] at this
end
theorem bQ:bootBuiltins "len" = some (.builtin "len"):=by decide +kernel
theorem A1:bootBuiltins "abs" = some (.builtin "abs"):=by decide +kernel
theorem dJ:bootBuiltins "isinstance" = some (.builtin "isinstance"):=by decide +kernel
theorem sk:bootBuiltins "sorted" = some (.builtin "sorted"):=by decide +kernel
theorem tY:bootBuiltins "sum" = some (.builtin "sum"):=by decide +kernel
theorem lD:bootBuiltins "all" = some (.builtin "all"):=by decide +kernel
theorem wK:bootBuiltins "min" = some (.builtin "min"):=by decide +kernel
theorem JB:bootBuiltins "int" = some (.type "int"):=by decide +kernel
theorem EG:bootBuiltins "bool" = some (.type "bool"):=by decide +kernel
theorem dM:bootBuiltins "list" = some (.type "list"):=by decide +kernel
theorem vF:bootBuiltins "tuple" = some (.type "tuple"):=by decide +kernel
theorem Fn{i j:Int}:vK (.int i) (.int j)=true:=rfl
theorem DO{i j:Bool}:vK (.bl i) (.bl j)=true:=rfl
theorem Fv{i j:Str}:vK (.str i) (.str j)=true:=rfl
theorem Dc:vK .non .non=true:=rfl
theorem xb:(1<=sizeLine)=True:=eq_true (by decide)
theorem wV:(2<=sizeLine)=True:=eq_true (by decide)
theorem wX:(3<=sizeLine)=True:=eq_true (by decide)
theorem wk:(4<=sizeLine)=True:=eq_true (by decide)
theorem wj:(5<=sizeLine)=True:=eq_true (by decide)
theorem wA:(6<=sizeLine)=True:=eq_true (by decide)
theorem wQ:(7<=sizeLine)=True:=eq_true (by decide)
theorem Io:(((2:Nat):Int))=2:=rfl
theorem Ij:(Int.natAbs 10 < 2 ^ 64)=True:=eq_true (by decide)
theorem Jy:((0:Int)<=1)=True:=eq_true (by decide)
section
variable {X:Cx}
def AJ:List V->Hp->VK->Prop:=fun xs H Q=>∃ p ys,xs=[.ref p]/\gq H p=some ys/\∀ l,H l=none->Q (.ref l) (upd H l (.lst ys))
theorem cg:fJ X (.type "list") AJ:=by
 intro pins s σ H xs us Q I r h
 obtain⟨p,ys,e1,hq,q⟩:=h
 exact sY pins s σ H xs us Q I r ⟨p,ys,e1,CM hq,q⟩
def Gk:List V->Hp->VK->Prop:=fun xs H Q=>∃ p ys,xs=[.ref p]/\H p=some (.lst ys)/\∀ l,H l=none->Q (.ref l) (upd H l (.tup ys))
theorem yW:fJ X (.type "tuple") Gk:=by
 intro pins s σ H xs us Q I r h
 obtain⟨p,ys,e1,hq,q⟩:=h
 exact rO pins s σ H xs us Q I r ⟨p,ys,e1,.inl ⟨SqL.of hq,q⟩⟩
theorem A5{ns:List V}{k:Nat}(h:ns.length<=k):lA ns none (some (k:Int))=ns:=by
 unfold lA
 rw[HT.A_,HT.Fl,List.drop_zero,Nat.sub_zero,Nat.min_eq_right h,take_length]
end
def aq(P:Program)(w:World)(K:PySem.W.Frag)(mg:Str->Option Value)(base:Heap)(CX:CXT)(k:Nat)(x:Str)(ps:List Str)(sp:Sp):Prop :=
 ∃ f fd,mn P w K mg base CX k f fd ps sp/\mg x=some (.ref f)/\keepIn K (.ref f)=true/\Binds K fd ps []
inductive Tg.{u} {α:Sort u} (a:α):Type
 | mk
def Bb(Q:VK)(_:Tg Q):VK:=Q
theorem Dj{Q:VK}{k:Tg Q}{v:V}{H:Hp}:Bb Q k v H=Q v H:=propext Iff.rfl
def tD(sp:Sp)(E:XK)(t:TA):TE:=fun σ H Q=>t σ H fun vs H1=>sp vs H1 (Bb Q .mk) E
section
variable {X:Cx}{CX:CXT}{k:Nat}{ps:List Str}{sp:Sp}{E:XK}{x:Str}{p pos:Pos}{e:Expr}{es:List Expr}{t:TA}
theorem Nw(d:aq X.prog X.w X.K X.mg X.base CX k x ps sp)(hr:eM k X.A)(hx:lx CX X E)(hg:Gl X x)(ha:PA X (e::es) t)
  (hdb:(x == ("__debug__" : Str))=false:=by decide) (he:starEach (e::es) X.env=(false,eval e X.env)::starEach es X.env:=by rfl) (hpl:(backTo pos (starEach es X.env)).any (·.1)=false:=by rfl) :
  PE X (.Call (.Name x p) (e::es) [] pos) (tD sp E t):=by
 obtain⟨f,fd,F,hm,hk,hb⟩:=d
 intro pins s σ H Q I h
 refine Dp (dvs:=[]) (ds:=[]) F hr hg hm hk hb .nil hx ha hdb he hpl pins s σ H Q I ?_
 have e0:Ba sp [] E t=tD sp E t:=by
  funext σ H Q
  unfold Ba tD Bb
  simp only[append_nil]
 rw[e0]
 exact h
end
structure aS(K:PySem.W.Frag)(mg:Str->Option Value)(x:Str)(st:Stmt)(f:Addr)(fd:FuncData):Prop where
 fn:Fun K x x st f fd
 mg:mg x=some (.ref f)
theorem aS.ok{P:Program}{w:World}{K:PySem.W.Frag}{mg:Str->Option Value}{base:Heap}{CX:CXT}{k:Nat}{x:Str}{st:Stmt}{f:Addr}{fd:FuncData}{ps:List Str}{sp:Sp}(D:aS K mg x st f fd)(F:mn P w K mg base CX k f fd ps sp)(b:Binds K fd ps []):aq P w K mg base CX k x ps sp :=
 ⟨f,fd,F,D.mg,D.fn.kp,b⟩
theorem pick{P:Int->Prop}(l:List Int){d:Int}(h0:0<=d)(h1:d < l.length)(hp:∀ x∈l,P x):∃ x,atI (l.map V.int) d=some (.int x)/\P x:=by
 obtain⟨v,e,hv⟩:=CH (xs:=l.map V.int) h0 (by rw[length_map];exact h1)
 obtain⟨x,hx,rfl⟩:=mem_map.mp hv
 exact⟨x,e,hp x hx⟩
def Fr1(B:Addr)(H H':Hp):Prop:=∀ b o,b≠B->H b=some o->H' b=some o
theorem Fr1.refl{B:Addr}{H:Hp}:Fr1 B H H:=fun _ _ _ h=>h
theorem Fr1.trans{B:Addr}{H H1 H2:Hp}(a:Fr1 B H H1)(b:Fr1 B H1 H2):Fr1 B H H2:=fun c o n h=>b c o n (a c o n h)
theorem Fr1.upd{B:Addr}{H:Hp}{o:HO}:Fr1 B H (L2.upd H B o):=fun c u n h=>by rw[ax n];exact h
theorem Fr1.new{B p:Addr}{H:Hp}{o:HO}(hp:H p=none):Fr1 B H (L2.upd H p o):=fun c u n h=>by rw[ax (cj h hp)];exact h
theorem ak.new{p:Addr}{H:Hp}{o:HO}(hp:H p=none):ak H (L2.upd H p o):=fun c u h=>by rw[ax (cj h hp)];exact h
theorem eM.le{j k:Nat}{A:Around}(r:eM k A)(h:j<=k:=by decide):eM j A:=r.mono h
def Brk(b:Bool)(A B:Prop)(_:Tg A)(_:Tg B):Prop:=if b=true then A else B
theorem FO{A B:Prop}{k:Tg A}{l:Tg B}:Brk true A B k l=A:=by unfold Brk;rw[if_pos rfl]
theorem Gd{A B:Prop}{k:Tg A}{l:Tg B}:Brk false A B k l=B:=by unfold Brk;rw[if_neg Bool.false_ne_true]
theorem brk{b:Bool}{A B:Prop}{k:Tg A}{l:Tg B}(h1:b=true->A)(h2:b=false->B):Brk b A B k l:=by
 cases b with
 | true=>rw[FO];exact h1 rfl
 | false=>rw[Gd];exact h2 rfl
theorem gO{p:Prop}[Decidable p]{A B:Prop}{k:Tg A}{l:Tg B}(h1:p->A)(h2:¬ p->B):Brk (decide p) A B k l:=brk (fun h=>h1 (of_decide_eq_true h)) (fun h=>h2 (of_decide_eq_false h))
theorem E_{p:Prop}[Decidable p]{A B:Prop}{k:Tg A}{l:Tg B}(h1:¬ p->A)(h2:p->B):Brk (!decide p) A B k l:=brk (fun h=>h1 (by simpa using h)) (fun h=>h2 (by simpa using h))
section
variable {σ:St}{H:Hp}{Q:VK}{D:Ends}{te ta tb:TE}{t u:TS}{c c':TT}{tr:TA}{QT:Bool->Hp->Prop}{QA:List V->Hp->Prop}{x y:V}{xs:List V}{v:V}
theorem Eb:gP t u D σ H=t { D with nx:=u D } σ H:=propext Iff.rfl
theorem Ex:y_ c t u D σ H=c σ H fun b H1=>Brk b (t D σ H1) (u D σ H1) .mk .mk:=propext Iff.rfl
theorem BQ:yi D σ H=D.nx σ H:=propext Iff.rfl
theorem CJ:yz te D σ H=te σ H fun _ H1=>D.nx σ H1:=propext Iff.rfl
theorem Dg:EZ te D σ H=te σ H D.rt:=propext Iff.rfl
theorem Ck:Ma D σ H=D.rt .non H:=propext Iff.rfl
theorem ET{g:TG}:oy te g D σ H=te σ H fun x H1=>g x σ H1 D.nx:=propext Iff.rfl
theorem aD{i:Nat}{R:St->Hp->Prop}:eS i v σ H R=R (σ.set i (some v)) H:=propext Iff.rfl
theorem Ee{to ti:TE}{ts:qB}{R:St->Hp->Prop}:Dk to ti ts v σ H R=to σ H fun o H1=>ti σ H1 fun i H2=>ts o i v H2 fun H3=>R σ H3:=propext Iff.rfl
theorem ER{i j:Nat}:IM i j tr D σ H=tr σ H fun vs H1=>∃ v w,vs=[v,w]/\D.nx ((σ.set i (some v)).set j (some w)) H1:=propext Iff.rfl
theorem Az{to ti:TE}{tg:V->V->Hp->VK->Prop}{tp:TIp}{ts:qB}:yg to ti te tg tp ts D σ H=to σ H fun o H1=>ti σ H1 fun i H2=>tg o i H2 fun x H3=>te σ H3 fun y H4=>tp x y H4 fun z H5=>ts o i z H5 fun H6=>D.nx σ H6:=propext Iff.rfl
theorem Dh{i:Nat}:Cq i σ H Q=∃ v,σ[i]?=some (some v)/\Q v H:=propext Iff.rfl
theorem LC:tC v σ H Q=Q v H:=propext Iff.rfl
theorem LY:tB te σ H QT=te σ H fun x H1=>∃ c,x=.bl c/\QT c H1:=propext Iff.rfl
theorem Cw:xO te σ H QT=te σ H fun x H1=>∃ c,x=.bl c/\QT c H1:=propext Iff.rfl
theorem IB{r:R2}:tOp r ta tb σ H Q=ta σ H fun x H1=>tb σ H1 fun y H2=>r x y H2 Q:=propext Iff.rfl
theorem IZ{r:V->Hp->VK->Prop}:tUn r ta σ H Q=ta σ H fun x H1=>r x H1 Q:=propext Iff.rfl
theorem HY{r:List V->Hp->VK->Prop}:tCB r tr σ H Q=tr σ H fun vs H1=>r vs H1 Q:=propext Iff.rfl
theorem Dw:xt σ H QA=QA [] H:=propext Iff.rfl
theorem Ca:k_ ta tr σ H QA=ta σ H fun x H1=>tr σ H1 fun xs H2=>QA (x::xs) H2:=propext Iff.rfl
theorem Ds:Ea tr σ H Q=tr σ H fun xs H1=>xs.length<=sizeLine/\∀ p,H1 p=none->Q (.ref p) (upd H1 p (.tup xs)):=propext Iff.rfl
theorem Ej:Fy tr σ H Q=tr σ H fun xs H1=>xs.length<=sizeLine/\∀ p,H1 p=none->Q (.ref p) (upd H1 p (.lst xs)):=propext Iff.rfl
theorem DR:FJ c c' σ H QT=c σ H fun b H1=>Brk b (c' σ H1 QT) (QT false H1) .mk .mk:=propext Iff.rfl
theorem Jr:tOr c c' σ H QT=c σ H fun b H1=>Brk b (QT true H1) (c' σ H1 QT) .mk .mk:=propext Iff.rfl
theorem ED:DQ c σ H QT=c σ H fun b H1=>QT (!b) H1:=propext Iff.rfl
theorem AY:yO ta tb σ H Q=ta σ H fun x H1=>∃ c,x=.bl c/\Brk c (tb σ H1 Q) (Q (.bl false) H1) .mk .mk:=propext Iff.rfl
theorem yc:I0 ta tb σ H Q=ta σ H fun x H1=>∃ c,x=.bl c/\Brk c (Q (.bl true) H1) (tb σ H1 Q) .mk .mk:=propext Iff.rfl
theorem vD:xW ta σ H Q=ta σ H fun x H1=>∃ c,x=.bl c/\Q (.bl (!c)) H1:=propext Iff.rfl
theorem GS:tIf c ta tb σ H Q=c σ H fun b H1=>Brk b (ta σ H1 Q) (tb σ H1 Q) .mk .mk:=propext Iff.rfl
theorem KO{sp:Sp}{E:XK}:tD sp E tr σ H Q=tr σ H fun vs H1=>sp vs H1 (Bb Q .mk) E:=propext Iff.rfl
theorem zO{sp:Sp}{EX:XEx}:Hq sp EX tr σ H Q=tr σ H fun vs H1=>sp vs H1 (Bb Q .mk) fun cls _ H2=>EX cls σ H2:=propext Iff.rfl
theorem Dr{C:Addr}{uM:XEx->TS}{th:TS}:Nt C uM th D σ H=uM (fun cls σ' H'=>cls=.ref C/\th D σ' H') D σ H:=propext Iff.rfl
theorem yS{C:Addr}{E:XK}:vU C E tr D σ H=tr σ H fun vs H1=>vs.length<=sizeLine/\E (.ref C) none H1:=propext Iff.rfl
theorem yK:Hl ta σ H Q=ta σ H fun x H1=>Q (.bl (decide (x=.non))) H1:=propext Iff.rfl
theorem CT:KC ta σ H Q=ta σ H fun x H1=>Q (.bl (!decide (x=.non))) H1:=propext Iff.rfl
theorem Lv{C:Int->Int->Prop}{g:Int->Int->V}:rI C g x y H Q=∃ i j,x=.int i/\y=.int j/\C i j/\Q (g i j) H:=propext Iff.rfl
theorem GX{g:Int->Int->V}:rI0 g x y H Q=∃ i j,x=.int i/\y=.int j/\Q (g i j) H:=propext Iff.rfl
theorem Lj{g:Int->V}:rU g x H Q=∃ i,x=.int i/\Q (g i) H:=propext Iff.rfl
theorem IL:rEq x y H Q=(vK x y=true/\Q (.bl (decide (x=y))) H):=propext Iff.rfl
theorem GN:rNe x y H Q=(vK x y=true/\Q (.bl (!decide (x=y))) H):=propext Iff.rfl
theorem Ju{f:Int->Int->Int}:ipI f x y H Q=∃ i j,x=.int i/\y=.int j/\Q (.int (f i j)) H:=propext Iff.rfl
theorem Ek:AD x y H Q=∃ p xs i v,x=.ref p/\y=.int i/\gq H p=some xs/\atI xs i=some v/\Q v H:=propext Iff.rfl
theorem Cs:Bz xs H Q=∃ p ys,xs=[.ref p]/\gq H p=some ys/\Q (.int ys.length) H:=propext Iff.rfl
theorem CL:AS x y H Q=∃ p xs i v,x=.ref p/\y=.int i/\H p=some (.lst xs)/\0<=i/\atI xs i=some v/\Q v H:=propext Iff.rfl
theorem BP{R:Hp->Prop}:CF x y v H R=∃ p xs k j,x=.ref p/\y=.int k/\H p=some (.lst xs)/\ixN xs.length k=some j/\R (upd H p (.lst (xs.set j v))):=propext Iff.rfl
theorem Dz:KN xs H Q=∃ x n t,xs=[x,.ty n]/\n∈["bool", "int", "str", "list", "tuple", "dict"]/\qw x H=some t/\Q (.bl (pA t n)) H:=propext Iff.rfl
theorem zS:AJ xs H Q=∃ p ys,xs=[.ref p]/\gq H p=some ys/\∀ l,H l=none->Q (.ref l) (upd H l (.lst ys)):=propext Iff.rfl
theorem Bo:Gk xs H Q=∃ p ys,xs=[.ref p]/\H p=some (.lst ys)/\∀ l,H l=none->Q (.ref l) (upd H l (.tup ys)):=propext Iff.rfl
end
theorem aP{H:Hp}{p:Addr}{xs:List V}(h:H p=some (.lst xs)):gq H p=some xs:=by unfold gq;rw[h]
theorem dZ{H:Hp}{p:Addr}{xs:List V}(h:H p=some (.tup xs)):gq H p=some xs:=by unfold gq;rw[h]
end L2
namespace L2
open PySem PySem.Spec PyProof.Rows
structure QE(X:Cx)(e:Expr)(t:TE):Prop where
 p:PE X e t
structure QT(X:Cx)(e:Expr)(t:TT):Prop where
 p:PT X e t
structure QW(X:Cx)(e:Expr)(t:TT):Prop where
 p:PW X e t
structure QA(X:Cx)(e:List Expr)(t:TA):Prop where
 p:PA X e t
structure QS(X:Cx)(e:Stmt)(t:TS):Prop where
 p:PS X e t
structure QB(X:Cx)(e:List Stmt)(t:TS):Prop where
 p:PSs X e t
structure QI(X:Cx)(tg e:Expr)(t:TI):Prop where
 p:PI X tg e t
structure QG(X:Cx)(e:Expr)(t:TG):Prop where
 p:PG X e t
structure QGs(X:Cx)(e:List Expr)(t:TGs):Prop where
 p:PGs X e t
structure QF(X:Cx)(e:List Expr)(t:TT):Prop where
 p:PFs X e t
structure QO(X:Cx)(e:Option Expr)(t:TO):Prop where
 p:PO X e t
section
variable {X:Cx}{a b c e o:Expr}{es rest:List Expr}{ta tb tc te:TE}{t tr:TA}{tA DA:TT}{pos p:Pos}{x:Str}{st:Stmt}{sts:List Stmt}{ts us:TS}
theorem qv(i:Nat)(hN:X.N[i]?=some x:=by rfl)(hv:Vis X.env.scope x:=by first | exact inl rfl | exact inr (inl rfl) | exact inr (inr rfl))(hd:(x == ("__debug__" : Str))=false:=by decide)
  (hcd:(x == ("__classdict__" : Str))=false:=by decide):QE X (.Name x pos) (Cq i):=⟨Cn hN hv hd hcd⟩
theorem ae{i j}:QE X (.Constant (.int i) j pos) (tC (.int i)):=⟨Ha⟩
theorem jz{i j}:QE X (.Constant (.bool i) j pos) (tC (.bl i)):=⟨K7⟩
theorem Cg{j}:QE X (.Constant .none j pos) (tC .non):=⟨Ia⟩
theorem Hu{i j}:QE X (.Constant (.str i) j pos) (tC (.str i)):=⟨HB⟩
theorem ma{v:V}{u:Value}(hg:Gl X x)(hm:X.mg x=none)(hv:bootBuiltins x=some u)(r:RelV v u)(hn:x ≠ "__name__" := by decide)(hd:(x == ("__debug__" : Str))=false:=by decide):QE X (.Name x pos) (tC v):=⟨Ed hg hm hv r hn hd⟩
theorem aG{op:Operator}{r:R2}(ho:OpR X (binaryOp op) r)(ha:QE X a ta)(hb:QE X b tb):QE X (.BinOp a op b pos) (tOp r ta tb):=⟨K6 ho ha.p hb.p⟩
theorem vE{op:UnaryOp}{r:V->Hp->VK->Prop}(ho:UnR X (unaryOp op) r)(ha:QE X a ta):QE X (.UnaryOp op a pos) (tUn r ta):=⟨Lu ho ha.p⟩
theorem AW(ha:QE X a ta):QE X (.UnaryOp .Not a pos) (xW ta):=⟨Ja ha.p⟩
theorem tM{op}(h:QE X a ta):QE X (.BoolOp op [a] pos) ta:=⟨HC h.p⟩
theorem tG(ha:QE X a ta)(hb:QE X (.BoolOp .And (b::rest) pos) tb):QE X (.BoolOp .And (a::b::rest) pos) (yO ta tb):=⟨HV ha.p hb.p⟩
theorem Kx(ha:QE X a ta)(hb:QE X (.BoolOp .Or (b::rest) pos) tb):QE X (.BoolOp .Or (a::b::rest) pos) (I0 ta tb):=⟨Kv ha.p hb.p⟩
theorem HG{j pos'}(ha:QE X a ta):QT X (.Compare a [.Is] [.Constant .none j pos'] pos) (tB (Hl ta)):=⟨Jw (HZ ha.p)⟩
theorem fD{op:CmpOp}{r:R2}(ho:OpR X (compareOp op) r)(ha:QE X a ta)(hb:QE X b tb)(hm:behindInMarks op b=false):QE X (.Compare a [op] [b] pos) (tOp r ta tb):=⟨EM ho ha.p hb.p hm⟩
theorem Aw(hc:QT X c tA)(ha:QE X a ta)(hb:QE X b tb):QE X (.IfExp c a b pos) (tIf tA ta tb):=⟨AF hc.p ha.p hb.p⟩
theorem bh{x1}(h:QA X es t):QE X (.Tuple es x1 pos) (Ea t):=⟨GG h.p⟩
theorem bJ(h:QA X es t):QE X (.List es pos) (Fy t):=⟨IG h.p⟩
theorem km{r:V->Option Int->Option Int->Hp->VK->Prop}{lo hi:Option Expr}{tl th:TO}{p2:Pos}(hr:SlR X r)(he:QE X e te)(hl:QO X lo tl)(hu:QO X hi th):QE X (.Subscript e (.Slice lo hi none p2) pos) (tSl r te tl th):=⟨Bc hr he.p hl.p hu.p⟩
theorem Kn{r:R2}(hr:IxR X r)(ha:QE X a ta)(hb:QE X b tb)(hs:uF b):QE X (.Subscript a b pos) (tOp r ta tb):=⟨KA hr ha.p hb.p hs⟩
theorem aA{id:String}{r:List V->Hp->VK->Prop}(hc:fJ X (.builtin id) r)(hg:Gl X x)(hm:X.mg x=none)(hv:bootBuiltins x=some (.builtin id))(ha:QA X (e::es) t)(hn:x ≠ "__name__" := by decide)(hdb:(x == ("__debug__" : Str))=false:=by decide)
  (he:starEach (e::es) X.env=(false,eval e X.env)::starEach es X.env:=by rfl) (hpl:(backTo pos (starEach es X.env)).any (·.1)=false:=by rfl):QE X (.Call (.Name x p) (e::es) [] pos) (tCB r t):=⟨CV hc hg hm hv ha.p hn hdb he hpl⟩
theorem cm{T:String}{r:List V->Hp->VK->Prop}(hc:fJ X (.type T) r)(hg:Gl X x)(hm:X.mg x=none)(hv:bootBuiltins x=some (.type T))(ha:QA X (e::es) t)(hn:x ≠ "__name__" := by decide)(hdb:(x == ("__debug__" : Str))=false:=by decide)
  (he:starEach (e::es) X.env=(false,eval e X.env)::starEach es X.env:=by rfl) (hpl:(backTo pos (starEach es X.env)).any (·.1)=false:=by rfl):QE X (.Call (.Name x p) (e::es) [] pos) (tCB r t):=⟨zN hc hg hm hv ha.p hn hdb he hpl⟩
theorem LZ{CX:CXT}{k:Nat}{ps:List Str}{sp:Sp}{E:XK}(d:aq X.prog X.w X.K X.mg X.base CX k x ps sp)(hr:eM k X.A)(hx:lx CX X E)(hg:Gl X x)(ha:QA X (e::es) t)
  (hdb:(x == ("__debug__" : Str))=false:=by decide) (he:starEach (e::es) X.env=(false,eval e X.env)::starEach es X.env:=by rfl) (hpl:(backTo pos (starEach es X.env)).any (·.1)=false:=by rfl) :
  QE X (.Call (.Name x p) (e::es) [] pos) (tD sp E t):=⟨Nw d hr hx hg ha.p hdb he hpl⟩
theorem aK{op:CmpOp}{r:R2}(ho:OpR X (compareOp op) r)(ha:QE X a ta)(hb:QE X b tb)(hm:behindInMarks op b=false):QT X (.Compare a [op] [b] pos) (xO (tOp r ta tb)):=⟨DJ ho ha.p hb.p hm⟩
theorem kf(ha:QT X a tA):QT X (.UnaryOp .Not a pos) (DQ tA):=⟨Hw ha.p⟩
theorem uI(ha:QT X a tA)(hb:QW X (.BoolOp .And (b::rest) pos) DA):QW X (.BoolOp .And (a::b::rest) pos) (FJ tA DA):=⟨Jm ha.p hb.p⟩
theorem oH(ha:QT X a tA):QW X (.BoolOp .And [a] pos) tA:=⟨Dv ha.p⟩
theorem ll(ha:QT X a tA)(hb:QW X (.BoolOp .Or (b::rest) pos) DA):QW X (.BoolOp .Or (a::b::rest) pos) (tOr tA DA):=⟨La ha.p hb.p⟩
theorem jv(ha:QT X a tA):QW X (.BoolOp .Or [a] pos) tA:=⟨IJ ha.p⟩
theorem QW.pt(h:QW X e tA):QT X e tA:=⟨h.p.pt⟩
theorem cE(h:QE X e te)(he:∀ whole,isTrue e X.env whole=(do let v <- whole;standAt e.pos;holding [v] (truthy v)):=by intro _;rfl):QT X e (tB te):=⟨Hn h.p he⟩
theorem bq:QA X [] xt:=⟨JE⟩
theorem ai(ha:QE X e te)(hr:QA X es t)(hs:starEach (e::es) X.env=(false,eval e X.env)::starEach es X.env:=by rfl):QA X (e::es) (k_ te t):=⟨E3 ha.p hr.p hs⟩
theorem EE{tg:Expr}(hl:QE X e te):QI X tg e (Bq X.K te):=⟨Dd hl.p⟩
theorem Jb{tg:Expr}(hl:QE X e te):QI X tg e (Hx X.K te):=⟨IA hl.p⟩
theorem bG{tg:Expr}(hg:Gl X "range")(hm:X.mg "range" = none)(ha:QA X [a] t)(hs:starEach [a] X.env=[(false,eval a X.env)]:=by rfl):QI X tg (.Call (.Name "range" p) [a] [] pos) (Gj t):=⟨zC hg hm ha.p hs⟩
theorem au{i:Nat}(hN:X.N.Nodup)(hi:X.N[i]?=some x)(hx:Loc X.env.scope x)(hf:X.fn x=true\/X.env.scope.names.lookup x=some .local:=by first | exact .inl rfl | exact .inr rfl | assumption):QG X (.Name x pos) (eS i):=⟨DN hN hi hx hf⟩
theorem Iv{k:Nat}{tg:TGs}{n:Nat}(hc:X.calm=true)(h:QGs X es tg)(hn:(assignEach es X.env).length=n:=by rfl)(hst:(assignEach es X.env).findIdx? (·.1)=none:=by rfl):QG X (.Tuple es k pos) (CB X.K n tg):=⟨Jd hc h.p hn hst⟩
theorem sV{i:Expr}{ti:TE}{tset:qB}(ho:QE X o ta)(hi:QE X i ti)(hs:Aq X tset)
  (ha:∀ v,assign (.Subscript o i pos) X.env v=(do
   let ov <- holding [v] (eval o X.env)
   let iv <- holding [v,ov] (eval i X.env)
   standAt pos
   holding [v,ov,iv] (setItem ov iv v)
   release [v,ov,iv] []):=by intro _;rfl):QG X (.Subscript o i pos) (Dk ta ti tset):=⟨JG ho.p hi.p hs ha⟩
theorem eo:QGs X [] EB:=⟨Ft⟩
theorem aY{tg:TG}{tgs:TGs}(h1:QG X e tg)(h2:QGs X es tgs)(hs:(assignEach (e::es) X.env).map (·.2)=assign e X.env::(assignEach es X.env).map (·.2):=by rfl):QGs X (e::es) (qh tg tgs):=⟨Ct h1.p h2.p hs⟩
theorem be:QB X [] yi:=⟨FL⟩
theorem ag(h1:QS X st ts)(h2:QB X sts us):QB X (st::sts) (gP ts us):=⟨B8 h1.p h2.p⟩
theorem ah(h1:QS X st ts):QB X [st] ts:=⟨FD h1.p⟩
theorem jJ{i:Nat}{pos':Pos}(hN:X.N.Nodup)(hi:X.N[i]?=some x)(hx:Loc X.env.scope x)(he:QE X e te)(hs:swapsWith e (some (.Name x pos')) pos.line X.env=pure false:=by rfl)(hf:X.fn x=true\/X.env.scope.names.lookup x=some .local:=by first | exact .inl rfl | exact .inr rfl | assumption) :
  QS X (.Assign [.Name x pos'] e pos) (oy te (eS i)):=⟨JA hN hi hx he.p hs hf⟩
theorem II{i j:Nat}{y:Str}{px py pt:Pos}{kt k2 GO}(hc:X.calm=true)(hN:X.N.Nodup)(hi:X.N[i]?=some x)(hj:X.N[j]?=some y)(hij:i≠j)
  (hx:X.env.scope.names.lookup x=some .local) (hy:X.env.scope.names.lookup y=some .local) (ha:QA X [a,b] t)
  (hw:swappedStores [.Tuple [.Name x px,.Name y py] kt pt] (.Tuple [a,b] k2 GO) X.env=pure (some [x,y]))
  (hs:swapsWithSole [.Tuple [.Name x px,.Name y py] kt pt] (.Tuple [a,b] k2 GO) pos.line X.env=pure false:=by rfl) :
  QS X (.Assign [.Tuple [.Name x px,.Name y py] kt pt] (.Tuple [a,b] k2 GO) pos) (IM i j t):=⟨Jf hc hN hi hj hij hx hy ha.p hw hs⟩
theorem nk{tg:Expr}{g:TG}(he:QE X e te)(hg:QG X tg g)(hs:swapsWithSole [tg] e pos.line X.env=pure false:=by rfl)(hw:swappedStores [tg] e X.env=pure none:=by rfl)(h1:List.map (fun x=>x.snd) (assignEach [tg] X.env)=[assign tg X.env]:=by rfl):QS X (.Assign [tg] e pos) (oy te g):=⟨Jk he.p hg.p hs hw h1⟩
theorem mO{i:Expr}{ti:TE}{uA:V->V->Hp->VK->Prop}{tip:TIp}{tset:qB}{op:Operator}{tpos:Pos}(ho:QE X o ta)(hi:QE X i ti)(hg:Jj X uA)(he:QE X e te)(hp:PIp X op tip)(hs:Aq X tset)
  (ha:∀ ov iv new,augStore i ov iv new=(do holding [new,ov,iv] (setItem ov iv new);release [new,ov,iv] [];pure .next):=by intros;rfl):QS X (.AugAssign (.Subscript o i tpos) op e pos) (yg ta ti te uA tip tset):=⟨De ho.p hi.p hg he.p hp hs ha⟩
theorem aB(he:QE X e te):QS X (.Return (some e) pos) (EZ te):=⟨IE he.p⟩
theorem bX{ss:List Stmt}(hc:QT X c tA)(ha:QB X sts ts)(hb:QB X ss us):QS X (.If c sts ss pos) (y_ tA ts us):=⟨LN hc.p ha.p hb.p⟩
theorem jR(hp:PassesOwn (model X.prog X.w) X.A X.env X.xe)(hc:QT X c tA)(hb:QB X sts ts):QS X (.While c sts [] pos) (Bn tA ts):=⟨Cm hp hc.p hb.p⟩
theorem bR{tg iter:Expr}{wi:TI}{g:TG}(hp:PassesOwn (model X.prog X.w) X.A X.env X.xe)(hc:X.calm=true)(hi:QI X tg iter wi)(hg:QG X tg g)(hb:QB X sts ts)
  (hs:∀ x,foldedSetIterable iter X.env x=pure x:=by intro _;rfl):QS X (.For tg iter sts [] pos) (Km wi g ts):=⟨HU hp hc hi.p hg.p hb.p hs⟩
theorem dN(he:QE X e te)(hs:swapsWith e none pos.line X.env=pure false:=by rfl):QS X (.Expr e pos) (yz te):=⟨Ep he.p hs⟩
theorem mC:QO X none tw:=⟨Ec⟩
theorem mE(h:QE X e te):QO X (some e) (AK te):=⟨El h.p⟩
theorem AV{E:XK}{C:Addr}{np cpos:Pos}(hR:xA X E)(O:Exc X.K X.mg x C)(hc:X.calm=true)(hg:Gl X x)(ha:QA X (e::es) t)
  (hdb:(x == ("__debug__" : Str))=false:=by decide) (he:starEach (e::es) X.env=(false,eval e X.env)::starEach es X.env:=by rfl) (hpl:(backTo cpos (starEach es X.env)).any (·.1)=false:=by rfl) :
  QS X (.Raise (some (.Call (.Name x np) (e::es) [] cpos)) none pos) (vU C E t):=⟨CI hR O hc hg ha.p hdb he hpl⟩
end
section
variable {X:Cx}{elt iter tg c:Expr}{ifs:List Expr}{scope:Scope}{pos spos py:Pos}{wi:TI}{g:TG}{tt:TT}{te:TE}
theorem bF:QF X [] eC:=⟨H_⟩
theorem iA(h:QT X c tt):QF X [c] tt:=⟨He h.p⟩
theorem DZ(own:List Str)(fr:List (Str×Nat))(hc:X.calm=true)(hi:QI X tg iter wi)
  (hgx:qF g own.length) (hB:∀ cl C fp s2 H2,QG (X.comp (own++fr.map (·.1)) scope cl C fp s2 H2) tg g/\QF (X.comp (own++fr.map (·.1)) scope cl C fp s2 H2) ifs tt/\QE (X.comp (own++fr.map (·.1)) scope cl C fp s2 H2) elt te)
  (hkind:scope.kind=.function) (hcell:∀ y∈scope.names,y.2≠.cell) (hnames:∀ y∈scope.names,y.2=.local->scope.names.lookup y.1=some .local)
  (hfree:∀ y∈scope.names,y.2=.free->X.env.kindOf y.1=some .cell\/X.env.kindOf y.1=some .free)
  (hfr:∀ p∈fr,X.N[p.2]?=some p.1/\(X.env.kindOf p.1=some .cell\/X.env.kindOf p.1=some .free)/\(p.1,NameKind.free)∈scope.names/\((relabel scope X.env).names.lookup p.1=some .cell\/(relabel scope X.env).names.lookup p.1=some .free))
  (hs:∀ x,foldedSetIterable iter X.env x=pure x:=by intro _;rfl):QE X (.ListComp elt [⟨tg,iter,ifs,0⟩] scope pos) (nY own.length (fr.map (·.2)) wi g tt te) :=
 ⟨DI own fr hc hi.p hgx (fun cl C fp s2 H2=>⟨(hB cl C fp s2 H2).1.p,(hB cl C fp s2 H2).2.1.p,(hB cl C fp s2 H2).2.2.p⟩) hkind hcell hnames hfree hfr hs⟩
theorem Eo{k:Nat}{y:Str}(own:List Str)(fr:List (Str×Nat))(Ey:X.N.Nodup)(hk:X.N[k]?=some y)(hy:X.env.scope.names.lookup y=some .local)(hc:X.calm=true)(hi:QI X tg iter wi)
  (hgx:qF g own.length) (hB:∀ cl C fp s2 H2,QG (X.comp (own++fr.map (·.1)) scope cl C fp s2 H2) tg g/\QF (X.comp (own++fr.map (·.1)) scope cl C fp s2 H2) ifs tt/\QE (X.comp (own++fr.map (·.1)) scope cl C fp s2 H2) elt te)
  (hkind:scope.kind=.function) (hcell:∀ y∈scope.names,y.2≠.cell) (hnames:∀ y∈scope.names,y.2=.local->scope.names.lookup y.1=some .local)
  (hfree:∀ y∈scope.names,y.2=.free->X.env.kindOf y.1=some .cell\/X.env.kindOf y.1=some .free)
  (hfr:∀ p∈fr,X.N[p.2]?=some p.1/\(X.env.kindOf p.1=some .cell\/X.env.kindOf p.1=some .free)/\(p.1,NameKind.free)∈scope.names/\((relabel scope X.env).names.lookup p.1=some .cell\/(relabel scope X.env).names.lookup p.1=some .free))
  (hsw:swapsWith (.ListComp elt [⟨tg,iter,ifs,0⟩] scope pos) (some (.Name y py)) spos.line X.env=pure true:=by rfl)
  (hs:∀ x,foldedSetIterable iter X.env x=pure x:=by intro _;rfl):QS X (.Assign [.Name y py] (.ListComp elt [⟨tg,iter,ifs,0⟩] scope pos) spos) (oy (nY own.length (fr.map (·.2)) wi g tt te) (eS k)) :=
 ⟨FF own fr Ey hk hy hc hi.p hgx (fun cl C fp s2 H2=>⟨(hB cl C fp s2 H2).1.p,(hB cl C fp s2 H2).2.1.p,(hB cl C fp s2 H2).2.2.p⟩) hkind hcell hnames hfree hfr hsw hs⟩
theorem zq{r r':R2}{ta tb tc:TE}{σ:St}{H:Hp}{Q:VK}:Ii r r' ta tb tc σ H Q=ta σ H fun x H1=>tb σ H1 fun y H2=>r x y H2 fun z H3=>∃ k,z=.bl k/\Brk k (tc σ H3 fun w' H4=>r' y w' H4 Q) (Q (.bl false) H3) .mk .mk:=propext Iff.rfl
end
theorem tE{names:List (Str×NameKind)}{k:Str->Option NameKind}(h:names.all (fun y=>!decide (y.2=.free) || (decide (k y.1=some .cell) || decide (k y.1=some .free)))=true):∀ y∈names,y.2=.free->k y.1=some .cell\/k y.1=some .free:=fun y hy hf=>by
 have:=all_eq_true.mp h y hy
 simpa [hf] using this
theorem A8{N:List Str}{names rel:List (Str×NameKind)}{k:Str->Option NameKind}{fr:List (Str×Nat)}
  (h:fr.all (fun p=>decide (N[p.2]?=some p.1) && (decide (k p.1=some .cell) || decide (k p.1=some .free)) && decide ((p.1,NameKind.free)∈names) && (decide (rel.lookup p.1=some .cell) || decide (rel.lookup p.1=some .free)))=true) :
  ∀ p∈fr,N[p.2]?=some p.1/\(k p.1=some .cell\/k p.1=some .free)/\(p.1,NameKind.free)∈names/\(rel.lookup p.1=some .cell\/rel.lookup p.1=some .free):=fun p hp=>by
 have:=all_eq_true.mp h p hp
 simp only[and_eq_true,or_eq_true,decide_eq_true_eq] at this
 exact⟨this.1.1.1,this.1.1.2,this.1.2,this.2⟩
theorem aS.q{P:Program}{w:World}{K:PySem.W.Frag}{mg:Str->Option Value}{base:Heap}{x:Str}{st:Stmt}{f:Addr}{fd:FuncData}{N ps:List Str}{k:Nat}{sp:Sp}(D:aS K mg x st f fd)(S:az N ps (ao st))(len:∀ vs H Q E,sp vs H Q E->vs.length=ps.length)
  (hbody:∀(bW:Value)(A:Around)(outer:List Env)(s:Shared)(H:Hp)(vs:List V)(Q:VK)(E:XK),eM k (A.deeper (envOfC x (ao st) s.heap.objs.size f bW))->sp vs H Q E ->
   ∃ t,QB (vm CX0 P w K mg base N x (ao st) f bW A outer s H E).nox (fI st) t/\t { nx:=fun _ H'=>Q .non H',rt:=Q } (start N vs) H):mn P w K mg base CX0 (k+1) f fd ps sp :=
 D.fn.ok S len fun bW A outer s H vs Q E hr h=>by
  obtain⟨t,h1,h2⟩:=hbody bW A outer s H vs Q E hr h
  exact⟨t,h1.p,h2⟩
theorem aS.qR{P:Program}{w:World}{K:PySem.W.Frag}{mg:Str->Option Value}{base:Heap}{x:Str}{st:Stmt}{f:Addr}{fd:FuncData}{N ps:List Str}{k:Nat}{sp:Sp}(D:aS K mg x st f fd)(S:az N ps (ao st))(len:∀ vs H Q E,sp vs H Q E->vs.length=ps.length)
  (hbody:∀(bW:Value)(A:Around)(outer:List Env)(s:Shared)(H:Hp)(vs:List V)(Q:VK)(E:XK),eM k (A.deeper (envOfC x (ao st) s.heap.objs.size f bW))->sp vs H Q E ->
   ∃ t,QB (cxR P w K mg base N x (ao st) f bW A outer s H E) (fI st) t/\t { nx:=fun _ H'=>Q .non H',rt:=Q } (start N vs) H):mn P w K mg base (CXR P w) (k+1) f fd ps sp :=
 D.fn.okR S len fun bW A outer s H vs Q E hr h=>by
  obtain⟨t,h1,h2⟩:=hbody bW A outer s H vs Q E hr h
  exact⟨t,h1.p,h2⟩
end L2
namespace L2
open PySem PySem.Spec PyProof.Rows
inductive Dt where
 | non | bl (b:Bool) | int (i:Int) | str (x:Str) | tup (l:List Dt) | lst (l:List Dt)
mutual
def Den(H:Hp):Dt->V->Prop
 | .non,x=>x=.non
 | .bl b,x=>x=.bl b
 | .int i,x=>x=.int i
 | .str z,x=>x=.str z
 | .tup ds,x=>∃ a xs,x=.ref a/\H a=some (.tup xs)/\bM H ds xs
 | .lst ds,x=>∃ a xs,x=.ref a/\H a=some (.lst xs)/\bM H ds xs
def bM(H:Hp):List Dt->List V->Prop
 | [],xs=>xs=[]
 | d::ds,xs=>∃ y ys,xs=y::ys/\Den H d y/\bM H ds ys
end
theorem bM.length{H:Hp}:∀{ds:List Dt}{xs:List V},bM H ds xs->ds.length=xs.length
 | [],xs,h=>by
  unfold bM at h
  rw[h]
  rfl
 | d::ds,xs,h=>by
  unfold bM at h
  obtain⟨y,ys,rfl,_,h2⟩:=h
  rw[length_cons,length_cons,bM.length h2]
theorem bM.get{H:Hp}:∀{ds:List Dt}{xs:List V}{j:Nat}{d:Dt},bM H ds xs->ds[j]?=some d->∃ y,xs[j]?=some y/\Den H d y
 | [],xs,j,d,h,e=>by simp at e
 | c::ds,xs,0,d,h,e=>by
  unfold bM at h
  obtain⟨y,ys,rfl,h1,h2⟩:=h
  cases e
  exact⟨y,rfl,h1⟩
 | c::ds,xs,j+1,d,h,e=>by
  unfold bM at h
  obtain⟨y,ys,rfl,h1,h2⟩:=h
  obtain⟨y',g,n⟩:=bM.get (j:=j) h2 (by simpa using e)
  exact⟨y',by simpa using g,n⟩
mutual
theorem Den.same{H H':Hp}(s:∀ b o,H b=some o->H' b=some o):∀{d:Dt}{x:V},Den H d x->Den H' d x
 | .non,x,h=>by unfold Den at h |-;exact h
 | .bl b,x,h=>by unfold Den at h |-;exact h
 | .int i,x,h=>by unfold Den at h |-;exact h
 | .str z,x,h=>by unfold Den at h |-;exact h
 | .tup ds,x,h=>by
  unfold Den at h |-
  obtain⟨a,xs,e,h1,h2⟩:=h
  exact⟨a,xs,e,s _ _ h1,bM.same s h2⟩
 | .lst ds,x,h=>by
  unfold Den at h |-
  obtain⟨a,xs,e,h1,h2⟩:=h
  exact⟨a,xs,e,s _ _ h1,bM.same s h2⟩
theorem bM.same{H H':Hp}(s:∀ b o,H b=some o->H' b=some o):∀{ds:List Dt}{xs:List V},bM H ds xs->bM H' ds xs
 | [],xs,h=>by unfold bM at h |-;exact h
 | d::ds,xs,h=>by
  unfold bM at h |-
  obtain⟨y,ys,e,h1,h2⟩:=h
  exact⟨y,ys,e,Den.same s h1,bM.same s h2⟩
end
mutual
theorem Den.inj{H:Hp}:∀{d e:Dt}{x:V},Den H d x->Den H e x->d=e
 | d,e,x,h1,h2=>by
  cases d with
  | tup ds =>
   unfold Den at h1
   obtain⟨a,xs,rfl,g1,g2⟩:=h1
   cases e<;>unfold Den at h2
   case tup es =>
    obtain⟨b,ys,eb,k1,k2⟩:=h2
    cases eb
    rw[g1] at k1
    cases k1
    rw[bM.inj g2 k2]
   case lst es =>
    obtain⟨b,ys,eb,k1,k2⟩:=h2
    cases eb
    rw[g1] at k1
    cases k1
   all_goals cases h2
  | lst ds =>
   unfold Den at h1
   obtain⟨a,xs,rfl,g1,g2⟩:=h1
   cases e<;>unfold Den at h2
   case lst es =>
    obtain⟨b,ys,eb,k1,k2⟩:=h2
    cases eb
    rw[g1] at k1
    cases k1
    rw[bM.inj g2 k2]
   case tup es =>
    obtain⟨b,ys,eb,k1,k2⟩:=h2
    cases eb
    rw[g1] at k1
    cases k1
   all_goals cases h2
  | non=>unfold Den at h1;subst h1;cases e<;>unfold Den at h2<;>first | (obtain⟨_,_,z,_⟩:=h2;cases z;done) | (cases h2;rfl) | (cases h2;done) | rfl
  | bl b=>unfold Den at h1;subst h1;cases e<;>unfold Den at h2<;>first | (obtain⟨_,_,z,_⟩:=h2;cases z;done) | (cases h2;rfl) | (cases h2;done) | rfl
  | int b=>unfold Den at h1;subst h1;cases e<;>unfold Den at h2<;>first | (obtain⟨_,_,z,_⟩:=h2;cases z;done) | (cases h2;rfl) | (cases h2;done) | rfl
  | str b=>unfold Den at h1;subst h1;cases e<;>unfold Den at h2<;>first | (obtain⟨_,_,z,_⟩:=h2;cases z;done) | (cases h2;rfl) | (cases h2;done) | rfl
theorem bM.inj{H:Hp}:∀{ds es:List Dt}{xs:List V},bM H ds xs->bM H es xs->ds=es
 | [],[],_,_,_=>rfl
 | [],e::es,xs,h1,h2=>by
  unfold bM at h1 h2
  obtain⟨_,_,z,_⟩:=h2
  rw[h1] at z
  cases z
 | d::ds,[],xs,h1,h2=>by
  unfold bM at h1 h2
  obtain⟨_,_,z,_⟩:=h1
  rw[h2] at z
  cases z
 | d::ds,e::es,xs,h1,h2=>by
  unfold bM at h1 h2
  obtain⟨y,ys,rfl,a1,a2⟩:=h1
  obtain⟨y',u3,ez,b1,b2⟩:=h2
  cases ez
  rw[Den.inj a1 b1,bM.inj a2 b2]
end
def Cmp:Nat->Dt->Dt->Prop
 | _,.int _,.int _=>True
 | _,.bl _,.bl _=>True
 | _,.str _,.str _=>True
 | _,.non,.non=>True
 | _,.non,.tup _=>True
 | _,.tup _,.non=>True
 | k+1,.tup ds,.tup es=>∀(j:Nat) d e,ds[j]?=some d->es[j]?=some e->Cmp k d e
 | k+1,.lst ds,.lst es=>ds.length=es.length->∀(j:Nat) d e,ds[j]?=some d->es[j]?=some e->Cmp k d e
 | _,_,_=>False
section
open Classical
theorem all_range{ds es:List Dt}(n:Nat)(hn:n=min ds.length es.length):((range n).all (fun j=>decide (ds[j]?=es[j]?)) && decide (ds.length=es.length))=decide (ds=es):=by
 rw[Bool.eq_iff_iff]
 simp only[and_eq_true,all_eq_true,mem_range,decide_eq_true_eq]
 constructor
 ·rintro ⟨h1,h2⟩
  refine ext_getElem? fun i=>?_
  by_cases hi:i < n
  ·exact h1 i hi
  ·rw[List.getElem?_eq_none_iff.mpr (by omega),List.getElem?_eq_none_iff.mpr (by omega)]
 ·rintro rfl
  exact⟨fun _ _=>rfl,rfl⟩
theorem wG{ds es:List Dt}(hl:ds.length=es.length):((range ds.length).all (fun j=>decide (ds[j]?=es[j]?)))=decide (ds=es):=by
 have h:=all_range (ds:=ds) (es:=es) ds.length (by omega)
 rw[decide_eq_true hl,Bool.and_true] at h
 exact h
theorem Fo(ds es:List Dt):decide (Dt.tup ds=Dt.tup es)=decide (ds=es):=by
 rw[decide_eq_decide]
 exact⟨fun h=>Dt.tup.inj h,fun h=>by rw[h]⟩
theorem Fh(ds es:List Dt):decide (Dt.lst ds=Dt.lst es)=decide (ds=es):=by
 rw[decide_eq_decide]
 exact⟨fun h=>Dt.lst.inj h,fun h=>by rw[h]⟩
variable {X:Cx}{pins:List (Addr×Obj)}{σ:St}{H:Hp}{s:Shared}
theorem tq(I:Inv X pins σ H s){k:Nat}(ih:∀ d e x y u v (A:Around),Den H d x->Den H e y->Cmp k d e->A.units+k+2 < cLine->RelV x u->RelV y v->SeqAt.EqAt A s u v (decide (d=e)))
  {ds es:List Dt} {a b:Addr} {A:Around} (hu:A.units+(k+1)+2 < cLine) :
  (∀ xs ys,H a=some (.tup xs)->H b=some (.tup ys)->bM H ds xs->bM H es ys->(∀(j:Nat) d e,ds[j]?=some d->es[j]?=some e->Cmp k d e)->SeqAt.RcAt A s (.ref a) (.ref b) (decide (Dt.tup ds=Dt.tup es))/\SeqAt.RcNeAt A s (.ref a) (.ref b) (!decide (Dt.tup ds=Dt.tup es))) /\
  (∀ xs ys,H a=some (.lst xs)->H b=some (.lst ys)->bM H ds xs->bM H es ys->(ds.length=es.length->∀(j:Nat) d e,ds[j]?=some d->es[j]?=some e->Cmp k d e)->SeqAt.RcAt A s (.ref a) (.ref b) (decide (Dt.lst ds=Dt.lst es))/\SeqAt.RcNeAt A s (.ref a) (.ref b) (!decide (Dt.lst ds=Dt.lst es))):=by
 have Jl:A.units < cLine:=by omega
 have el:∀(xs ys:List V)(i1 i2:List Value),bM H ds xs->bM H es ys->bc xs i1->bc ys i2->(∀(j:Nat) d e,ds[j]?=some d->es[j]?=some e->Cmp k d e) ->
   ∀ j (h1:j < i1.toArray.size) (h2:j < i2.toArray.size),SeqAt.EqAt A.in1 s i1.toArray[j] i2.toArray[j] (decide (ds[j]?=es[j]?)):=fun xs ys i1 i2 d1 d2 v1 v2 hc j h1 h2=>by
  have l1:=v1.length
  have l2:=v2.length
  have l3:=d1.length
  have l4:=d2.length
  have k1:j < i1.length:=by simpa using h1
  have k2:j < i2.length:=by simpa using h2
  have m1:j < ds.length:=by omega
  have m2:j < es.length:=by omega
  have e1:ds[j]?=some ds[j]:=getElem?_eq_getElem m1
  have e2:es[j]?=some es[j]:=getElem?_eq_getElem m2
  obtain⟨y1,g1,n1⟩:=d1.get e1
  obtain⟨y2,g2,n2⟩:=d2.get e2
  obtain⟨u1,w1,r1⟩:=v1.get g1
  obtain⟨u2,w2,r2⟩:=v2.get g2
  have z1:i1.toArray[j]=u1:=by
   rw[getElem?_eq_getElem k1] at w1
   simpa using w1
  have z2:i2.toArray[j]=u2:=by
   rw[getElem?_eq_getElem k2] at w2
   simpa using w2
  have key:=ih _ _ _ _ _ _ A.in1 n1 n2 (hc j _ _ e1 e2) (by show A.units+1+k+2 < cLine;omega) r1 r2
  have ed:decide (ds[j]?=es[j]?)=decide (ds[j]=es[j]):=by
   rw[decide_eq_decide,e1,e2]
   exact⟨fun h=>Option.some.inj h,fun h=>by rw[h]⟩
  rw[z1,z2,ed]
  exact key
 refine⟨fun xs ys ha hb d1 d2 hc=>?_,fun xs ys ha hb d1 d2 hc=>?_⟩
 ·obtain⟨i1,v1,t1,_⟩:=I.tuple (SqT.of ha)
  obtain⟨i2,v2,t2,_⟩:=I.tuple (SqT.of hb)
  have l1:=v1.length
  have l2:=v2.length
  have l3:=d1.length
  have l4:=d2.length
  have e:=el xs ys i1 i2 d1 d2 v1 v2 hc
  have s1:i1.toArray.size=ds.length:=by rw[size_toArray];omega
  have s2:i2.toArray.size=es.length:=by rw[size_toArray];omega
  have b1:((range (min i1.toArray.size i2.toArray.size)).all (fun j=>decide (ds[j]?=es[j]?)) && i1.toArray.size == i2.toArray.size)=decide (Dt.tup ds=Dt.tup es):=by
   rw[s1,s2,Fo,<- all_range (ds:=ds) (es:=es) _ rfl]
   congr 1
   all_goals (rw[Bool.eq_iff_iff];simp)
  rw[<- b1]
  exact⟨SeqAt.RcAt.tuples t1 t2 Jl e,SeqAt.RcNeAt.tuples t1 t2 Jl e⟩
 ·obtain⟨i1,v1,t1,_⟩:=I.list (SqL.of ha)
  obtain⟨i2,v2,t2,_⟩:=I.list (SqL.of hb)
  have l1:=v1.length
  have l2:=v2.length
  have l3:=d1.length
  have l4:=d2.length
  have s1:i1.toArray.size=ds.length:=by rw[size_toArray];omega
  have s2:i2.toArray.size=es.length:=by rw[size_toArray];omega
  by_cases hl:ds.length=es.length
  ·have e:=el xs ys i1 i2 d1 d2 v1 v2 (hc hl)
   have b1:(range i1.toArray.size).all (fun j=>decide (ds[j]?=es[j]?))=decide (Dt.lst ds=Dt.lst es):=by
    rw[s1,Fh,<- wG hl]
   rw[<- b1]
   exact⟨SeqAt.RcAt.lists t1.isList t2.isList (by omega) Jl e,SeqAt.RcNeAt.lists t1.isList t2.isList (by omega) Jl e⟩
  ·have b1:decide (Dt.lst ds=Dt.lst es)=false:=decide_eq_false fun h=>hl (by rw[Dt.lst.inj h])
   have nz:(i1.toArray.size != i2.toArray.size)=true:=by
    rw[s1,s2]
    simpa using hl
   rw[b1]
   exact⟨SeqAt.RcAt.lists_lengths t1.isList t2.isList nz Jl,SeqAt.RcNeAt.lists_lengths t1.isList t2.isList nz Jl⟩
theorem qI(a b:Int):decide (Dt.int a=Dt.int b)=(a == b):=by
 rw[Bool.eq_iff_iff]
 simp
theorem sP(a b:Bool):decide (Dt.bl a=Dt.bl b)=(a == b):=by
 rw[Bool.eq_iff_iff]
 simp
theorem qj(a b:Str):decide (Dt.str a=Dt.str b)=(a == b):=by
 rw[Bool.eq_iff_iff]
 simp
theorem BI(I:Inv X pins σ H s):∀(k:Nat)(d e:Dt)(x y:V)(u v:Value)(A:Around),Den H d x->Den H e y->Cmp k d e->A.units+k+2 < cLine->RelV x u->RelV y v->SeqAt.EqAt A s u v (decide (d=e)):=by
 intro k
 induction k with
 | zero =>
  intro d e x y u v A h1 h2 hc hu r1 r2
  cases d<;>cases e<;>first | exact hc.elim | skip
  ·unfold Den at h1 h2;subst h1;subst h2;cases r1;cases r2
   rw[decide_eq_true rfl];exact SeqAt.EqAt.same _
  ·unfold Den at h1 h2;subst h1;cases r1
   obtain⟨a,xs,rfl,ha,_⟩:=h2;cases r2
   obtain⟨i1,_,t1,_⟩:=I.tuple (SqT.of ha)
   rw[decide_eq_false (by intro z;cases z)];exact SeqAt.EqAt.none_tuple t1 (by omega)
  ·unfold Den at h1 h2;subst h1;subst h2;cases r1;cases r2
   rw[sP];exact SeqAt.EqAt.bool_bool _ _
  ·unfold Den at h1 h2;subst h1;subst h2;obtain⟨t1,rfl⟩:=r1;obtain⟨t2,rfl⟩:=r2
   rw[qI];exact SeqAt.EqAt.int_int _ _ _ _
  ·unfold Den at h1 h2;subst h1;subst h2;obtain⟨t1,rfl⟩:=r1;obtain⟨t2,rfl⟩:=r2
   rw[qj];exact SeqAt.EqAt.str_str _ _ _ _
  ·unfold Den at h1 h2;subst h2;cases r2
   obtain⟨a,xs,rfl,ha,_⟩:=h1;cases r1
   obtain⟨i1,_,t1,_⟩:=I.tuple (SqT.of ha)
   rw[decide_eq_false (by intro z;cases z)];exact SeqAt.EqAt.tuple_none t1 (by omega)
 | succ k ih =>
  intro d e x y u v A h1 h2 hc hu r1 r2
  cases d<;>cases e<;>first | exact hc.elim | skip
  ·unfold Den at h1 h2;subst h1;subst h2;cases r1;cases r2
   rw[decide_eq_true rfl];exact SeqAt.EqAt.same _
  ·unfold Den at h1 h2;subst h1;cases r1
   obtain⟨a,xs,rfl,ha,_⟩:=h2;cases r2
   obtain⟨i1,_,t1,_⟩:=I.tuple (SqT.of ha)
   rw[decide_eq_false (by intro z;cases z)];exact SeqAt.EqAt.none_tuple t1 (by omega)
  ·unfold Den at h1 h2;subst h1;subst h2;cases r1;cases r2
   rw[sP];exact SeqAt.EqAt.bool_bool _ _
  ·unfold Den at h1 h2;subst h1;subst h2;obtain⟨t1,rfl⟩:=r1;obtain⟨t2,rfl⟩:=r2
   rw[qI];exact SeqAt.EqAt.int_int _ _ _ _
  ·unfold Den at h1 h2;subst h1;subst h2;obtain⟨t1,rfl⟩:=r1;obtain⟨t2,rfl⟩:=r2
   rw[qj];exact SeqAt.EqAt.str_str _ _ _ _
  ·unfold Den at h1 h2;subst h2;cases r2
   obtain⟨a,xs,rfl,ha,_⟩:=h1;cases r1
   obtain⟨i1,_,t1,_⟩:=I.tuple (SqT.of ha)
   rw[decide_eq_false (by intro z;cases z)];exact SeqAt.EqAt.tuple_none t1 (by omega)
  ·have g1:=h1
   have g2:=h2
   unfold Den at h1 h2
   obtain⟨a,xs,rfl,ha,da⟩:=h1
   obtain⟨b,ys,rfl,hb,db⟩:=h2
   cases r1;cases r2
   by_cases hab:a=b
   ·subst hab
    rw[decide_eq_true (g1.inj g2)]
    exact SeqAt.EqAt.same _
   ·exact SeqAt.EqAt.of_refs hab ((tq I ih hu).1 xs ys ha hb da db hc).1
  ·have g1:=h1
   have g2:=h2
   unfold Den at h1 h2
   obtain⟨a,xs,rfl,ha,da⟩:=h1
   obtain⟨b,ys,rfl,hb,db⟩:=h2
   cases r1;cases r2
   by_cases hab:a=b
   ·subst hab
    rw[decide_eq_true (g1.inj g2)]
    exact SeqAt.EqAt.same _
   ·exact SeqAt.EqAt.of_refs hab ((tq I ih hu).2 xs ys ha hb da db hc).1
def NX:R2:=fun x y H Q=>∃ d e,Den H d x/\Den H e y/\Cmp 8 d e/\Q (.bl (decide (d=e))) H
def MN:R2:=fun x y H Q=>∃ d e,Den H d x/\Den H e y/\Cmp 8 d e/\Q (.bl (!decide (d=e))) H
theorem rcs(I:Inv X pins σ H s){d e:Dt}{x y:V}{u v:Value}{A:Around}(h1:Den H d x)(h2:Den H e y)(hc:Cmp 8 d e)(hu:A.units+64 < cLine)(r1:RelV x u)(r2:RelV y v) :
  SeqAt.RcAt A s u v (decide (d=e))/\SeqAt.RcNeAt A s u v (!decide (d=e)):=by
 cases d<;>cases e<;>first | exact hc.elim | skip
 ·unfold Den at h1 h2;subst h1;subst h2;cases r1;cases r2
  rw[decide_eq_true rfl];exact⟨SeqAt.RcAt.none_none,SeqAt.RcNeAt.none_none⟩
 ·unfold Den at h1 h2;subst h1;cases r1
  obtain⟨a,xs,rfl,ha,_⟩:=h2;cases r2
  obtain⟨i1,_,t1,_⟩:=I.tuple (SqT.of ha)
  rw[decide_eq_false (by intro z;cases z)];exact⟨SeqAt.RcAt.none_tuple t1 (by omega),SeqAt.RcNeAt.none_tuple t1 (by omega)⟩
 ·unfold Den at h1 h2;subst h1;subst h2;cases r1;cases r2
  rw[sP];exact⟨SeqAt.RcAt.bool_bool _ _,SeqAt.RcNeAt.bool_bool _ _⟩
 ·unfold Den at h1 h2;subst h1;subst h2;obtain⟨t1,rfl⟩:=r1;obtain⟨t2,rfl⟩:=r2
  rw[qI];exact⟨SeqAt.RcAt.int_int _ _ _ _,SeqAt.RcNeAt.int_int _ _ _ _⟩
 ·unfold Den at h1 h2;subst h1;subst h2;obtain⟨t1,rfl⟩:=r1;obtain⟨t2,rfl⟩:=r2
  rw[qj];exact⟨SeqAt.RcAt.str_str _ _ _ _,SeqAt.RcNeAt.str_str _ _ _ _⟩
 ·unfold Den at h1 h2;subst h2;cases r2
  obtain⟨a,xs,rfl,ha,_⟩:=h1;cases r1
  obtain⟨i1,_,t1,_⟩:=I.tuple (SqT.of ha)
  rw[decide_eq_false (by intro z;cases z)];exact⟨SeqAt.RcAt.tuple_none t1 (by omega),SeqAt.RcNeAt.tuple_none t1 (by omega)⟩
 ·unfold Den at h1 h2
  obtain⟨a,xs,rfl,ha,da⟩:=h1
  obtain⟨b,ys,rfl,hb,db⟩:=h2
  cases r1;cases r2
  exact (tq I (BI I 7) (by omega)).1 xs ys ha hb da db hc
 ·unfold Den at h1 h2
  obtain⟨a,xs,rfl,ha,da⟩:=h1
  obtain⟨b,ys,rfl,hb,db⟩:=h2
  cases r1;cases r2
  exact (tq I (BI I 7) (by omega)).2 xs ys ha hb da db hc
theorem Bv(hu:X.A.units+64 < cLine):OpR X (compareOp .Eq) NX:=by
 intro pins s σ H x y v u Q I rx ry h
 obtain⟨d,e,h1,h2,hc,q⟩:=h
 exact (rcs I h1 h2 hc hu rx ry).1 _ _ _ _ ⟨.bl _,H,I,rfl,q⟩
theorem xK(hu:X.A.units+64 < cLine):OpR X (compareOp .NotEq) MN:=by
 intro pins s σ H x y v u Q I rx ry h
 obtain⟨d,e,h1,h2,hc,q⟩:=h
 exact (rcs I h1 h2 hc hu rx ry).2 _ _ _ _ ⟨.bl _,H,I,rfl,q⟩
end
theorem Ay{H:Hp}{p:Addr}{a b:Int}(h:H p=some (.tup [.int a,.int b])):Den H (.tup [.int a,.int b]) (.ref p):=by
 unfold Den
 refine⟨p,_,rfl,h,?_⟩
 unfold bM
 refine⟨_,_,rfl,by unfold Den;rfl,?_⟩
 unfold bM
 refine⟨_,_,rfl,by unfold Den;rfl,?_⟩
 unfold bM
 rfl
theorem GP{k:Nat}(a b c d:Int):Cmp (k+1) (.tup [.int a,.int b]) (.tup [.int c,.int d]):=by
 intro j x y h1 h2
 match j,h1,h2 with
 | 0,h1,h2=>cases h1;cases h2;cases k<;>exact trivial
 | 1,h1,h2=>cases h1;cases h2;cases k<;>exact trivial
 | j+2,h1,h2=>simp at h1
theorem dt2(a b c d:Int):(Dt.tup [.int a,.int b]=Dt.tup [.int c,.int d])↔(a=c/\b=d):=by
 constructor
 ·intro h
  injection h with h
  injection h with h1 h2
  injection h1 with h1
  injection h2 with h2 _
  injection h2 with h2
  exact⟨h1,h2⟩
 ·rintro ⟨rfl,rfl⟩
  rfl
section
variable {X:Cx}
def KJ:R2:=fun x y H Q=>∃ p q a b c d,x=.ref p/\y=.ref q/\H p=some (.tup [.int a,.int b])/\H q=some (.tup [.int c,.int d])/\Q (.bl (decide (a=c/\b=d))) H
def Kq:R2:=fun x y H Q=>∃ p q a b c d,x=.ref p/\y=.ref q/\H p=some (.tup [.int a,.int b])/\H q=some (.tup [.int c,.int d])/\Q (.bl (!decide (a=c/\b=d))) H
open Classical in
theorem ur(hu:X.A.units+64 < cLine):OpR X (compareOp .Eq) KJ:=by
 intro pins s σ H x y v u Q I rx ry h
 obtain⟨p,q,a,b,c,d,rfl,rfl,h1,h2,h3⟩:=h
 refine Bv hu pins s σ H _ _ v u Q I rx ry ⟨_,_,Ay h1,Ay h2,GP a b c d,?_⟩
 have e:decide (Dt.tup [.int a,.int b]=Dt.tup [.int c,.int d])=decide (a=c/\b=d):=by rw[decide_eq_decide];exact dt2 a b c d
 rw[e]
 exact h3
open Classical in
theorem wY(hu:X.A.units+64 < cLine):OpR X (compareOp .NotEq) Kq:=by
 intro pins s σ H x y v u Q I rx ry h
 obtain⟨p,q,a,b,c,d,rfl,rfl,h1,h2,h3⟩:=h
 refine xK hu pins s σ H _ _ v u Q I rx ry ⟨_,_,Ay h1,Ay h2,GP a b c d,?_⟩
 have e:decide (Dt.tup [.int a,.int b]=Dt.tup [.int c,.int d])=decide (a=c/\b=d):=by rw[decide_eq_decide];exact dt2 a b c d
 rw[e]
 exact h3
theorem Ef{x y:V}{H:Hp}{Q:VK}:KJ x y H Q=∃ p q a b c d,x=.ref p/\y=.ref q/\H p=some (.tup [.int a,.int b])/\H q=some (.tup [.int c,.int d])/\Q (.bl (decide (a=c/\b=d))) H:=propext Iff.rfl
theorem Fs{x y:V}{H:Hp}{Q:VK}:Kq x y H Q=∃ p q a b c d,x=.ref p/\y=.ref q/\H p=some (.tup [.int a,.int b])/\H q=some (.tup [.int c,.int d])/\Q (.bl (!decide (a=c/\b=d))) H:=propext Iff.rfl
end
end L2
namespace L2
open PySem PySem.Spec PyProof.Rows
section
variable {X:Cx}
abbrev Cx.jA(X:Cx)(N':List Str)(scope:Scope)(x0:Str)(c0:Addr)(cl:List (Str×Addr))(C:Addr)(fp:List Addr)(s2:Shared)(H2:Hp):Cx :=
 { X with N:=N',s₀:=s2,H₀:=H2,env:=compEnvC scope ((x0,c0)::cl) C X.env,outer:=X.stack,ex:=fp,fn:=fun y=>y == x0,pn:=[],xe:=fun _ _=>False }
theorem tI{x0:Str}{c0:Addr}{cl:List (Str×Addr)}{x:Str}{c:Addr}(h:((x0,c0)::cl).lookup x=some c):c=c0\/cl.lookup x=some c:=by
 rw[lookup_cons] at h
 cases e:(x == x0) with
 | true=>rw[e] at h;exact .inl (Option.some.inj h).symm
 | false=>rw[e] at h;exact .inr h
theorem kP{x0:Str}{c0:Addr}{cl:List (Str×Addr)}:((x0,c0)::cl).lookup x0=some c0:=by rw[lookup_cons,beq_self_eq_true]
theorem iK{x0:Str}{c0:Addr}{cl:List (Str×Addr)}{x:Str}(h:x≠x0):((x0,c0)::cl).lookup x=cl.lookup x:=by
 rw[lookup_cons,beq_eq_false_iff_ne.mpr h]
theorem E4{M:Model}{A:Around}{E:Value->Shared->Prop}{s:Shared}{scope:Scope}{globals:Addr}{cl:List (Str×Addr)}{qual:Str}{func:Option Addr}{code:Value}{outer:Env}{builtins:Addr}{Q:Env->Shared->Prop}{x0:Str}
  (hcf:∀ n cs,cellsFrom n scope.names cs=(x0,n)::cs) (hpc:∀ h:Heap,pushCells h scope.names=h.push { cls:=.type "cell", data:=.cell none })
  (hQ:Q (newEnv scope s.heap.objs.size globals ((x0,s.heap.objs.size+1)::cl) qual func code (some outer) builtins) { s with heap:=(s.heap.push { cls:=.type "dict", data:=.dict #[] }).push { cls:=.type "cell", data:=.cell none } }) :
  wpAny M A (newFunctionEnv scope globals cl [] qual func code (some outer) builtins) Q E s:=by
 simp only[newFunctionEnv,Option.isSome_some,if_true]
 refine wpAny_bind (wpAny_alloc ?_)
 refine wpAny_bind (wpAny_layCells _ (fun name kind cells=>by cases hkc:kind == NameKind.cell<;>simp[hkc]) _ _ _ _ ?_)
 rw[hcf,hpc]
 refine wpAny_bind ?_
 rw[forIn_nil]
 refine wpAny_pure (wpAny_pure ?_)
 simp only[size_push]
 exact hQ
theorem Inv.En{pins:List (Addr×Obj)}{σ:St}{H H':Hp}{s:Shared}{fp:List Addr}{N':List Str}{scope:Scope}{cl:List (Str×Addr)}{C c0:Addr}{x0:Str}(I:Inv X pins σ H s)(f:∀ b∈fp,j8 X pins H b)
  (hb:∀ b∈fp,b < s.heap.objs.size) (hC:s.heap.objs.size<=C) (HK:s.heap.objs.size<=c0) (hcl:∀ y c,cl.lookup y=some c->X.env.cells.lookup y=some c) (hn:∀ b∈fp,H' b=none) :
  ∀ b∈fp,j8 (X.jA N' scope x0 c0 cl C fp s H) [] H' b:=fun b z=>by
 obtain⟨_,f1,f2,f3,f4,f5⟩:=f b z
 exact⟨hn b z,ne_of_lt (lt_of_lt_of_le (hb b z) hC),fun q=>(mem_cons.mp (I.mU b q)).elim f1 f2,.inl z,fun x c e=>(tI e).elim (fun q=>by rw[q];exact ne_of_gt (lt_of_lt_of_le (hb b z) HK)) fun q=>f4 x c (hcl x c q),fun p hp=>absurd (show p∈([]:List (Addr×Obj))++[] from hp) (by simp)⟩
theorem Inv.jA{pins:List (Addr×Obj)}{σ:St}{H:Hp}{s s4:Shared}{fp:List Addr}{own:List Str}{fr:List (Str×Nat)}{scope:Scope}{cl:List (Str×Addr)}{C D c0:Addr}{x0:Str}(I:Inv X pins σ H s)(f:∀ b∈fp,j8 X pins H b)
  (hb:∀ b∈fp,b < s.heap.objs.size) (hkind:scope.kind=.function) (hcell:∀ y∈scope.names,y.2=.cell->y.1=x0) (hnx:∀ p∈fr,p.1≠x0)
  (hcl:∀ y c,cl.lookup y=some c->X.env.cells.lookup y=some c) (pI:∀ y∈scope.names,y.2=.free->∃ c,cl.lookup y.1=some c)
  (hfr:∀ p∈fr,X.N[p.2]?=some p.1/\(X.env.kindOf p.1=some .cell\/X.env.kindOf p.1=some .free)/\(p.1,NameKind.free)∈scope.names/\((relabel scope X.env).names.lookup p.1=some .cell\/(relabel scope X.env).names.lookup p.1=some .free))
  (hD:s.heap.objs.size<=D) (hC:s.heap.objs.size<=C) (M4:C≠D) (HK:s.heap.objs.size<=c0) (M_:c0≠D) (hcv:s4.heap.IsCell c0 none) (hns:s4.heap.Ns C (fun _=>none)) (k:∀ b o,s.heap.get? b=some o->s4.heap.get? b=some o) (hl:s4.heap.get? D=some { cls:=.type "list", data:=.seq ([]:List Value).toArray })
  (os:s4.os=s.os) (bare:AllBare s4.gens):Inv (X.jA (own++fr.map (·.1)) scope x0 c0 cl C fp s H) [] (bj own.length (fr.map (·.2)) σ) (upd H D (.lst [])) s4:=by
 have fresh:∀ b,s.heap.objs.size<=b->H b=none:=fun b h=>I.hok.fresh h
 have gN:∀ y c,X.env.cells.lookup y=some c->c < s.heap.objs.size:=fun y c e=>by
  obtain⟨v,q⟩:=I.cell y c e
  exact q.lt
 have HF:∀ y,((relabel scope X.env).names.lookup y=some .cell\/(relabel scope X.env).names.lookup y=some .free)->∃ z∈scope.names,z.1=y/\(z.2=.free\/z.2=.cell):=fun y h=>by
  have mem:∃ kk,(y,kk)∈(relabel scope X.env).names/\(kk=.cell\/kk=.free):=by
   rcases h with h | h
   ·exact⟨_,PySem.mem_of_lookup h,.inl rfl⟩
   ·exact⟨_,PySem.mem_of_lookup h,.inr rfl⟩
  obtain⟨kk,hm,hk⟩:=mem
  obtain⟨⟨n,k0⟩,hz,e⟩:=mem_map.mp hm
  refine⟨(n,k0),hz,?_,?_⟩
  ·dsimp only at e
   split at e<;>cases e<;>rfl
  ·dsimp only at e |-
   split at e
   ·rename_i hc
    simp only[and_eq_true,beq_iff_eq] at hc
    exact .inl hc.1.1
   ·cases e
    rcases hk with hk | hk
    ·exact .inr hk
    ·exact .inl hk
 have MO:∀ x y c,((x0,c0)::cl).lookup x=some c->((x0,c0)::cl).lookup y=some c->x=y:=fun x y c e1 e2=>by
  by_cases qx:x=x0
  ·by_cases qy:y=x0
   ·rw[qx,qy]
   ·subst qx
    rw[kP] at e1
    cases e1
    rw[iK qy] at e2
    exact absurd (gN y _ (hcl y _ e2)) (not_lt.mpr HK)
  ·rw[iK qx] at e1
   by_cases qy:y=x0
   ·subst qy
    rw[kP] at e2
    cases e2
    exact absurd (gN x _ (hcl x _ e1)) (not_lt.mpr HK)
   ·rw[iK qy] at e2
    exact I.ok.inj x y c (hcl x c e1) (hcl y c e2)
 have ok:(X.jA (own++fr.map (·.1)) scope x0 c0 cl C fp s H).Ok :=
  {mod:=I.ok.mod
   kind:=hkind
   glob:=I.ok.glob
   blt:=I.ok.blt
   above:=hC
   inj:=fun x y c e1 e2=>MO x y c e1 e2
   has:=fun y hy=>by
    obtain⟨z,hz,rfl,hf⟩:=HF y hy
    by_cases q:z.1=x0
    ·rw[q];exact⟨c0,kP⟩
    ·obtain⟨c,hc⟩:=pI z hz (hf.elim id fun w=>absurd (hcell z hz w) q)
     exact⟨c,(iK q).trans hc⟩
   cab:=fun x c z e=>by
    have q:x=x0:=beq_iff_eq.mp (show (x == x0)=true from z)
    subst q
    have e':((x,c0)::cl).lookup x=some c:=e
    rw[kP] at e'
    cases e'
    exact HK
   hd:=I.ok.hd
   frames:=I.ok.frames
   stk:=.inl rfl
   exf:=fun b z=>⟨ne_of_lt (lt_of_lt_of_le (hb b z) hC),fun x c e=>(tI e).elim (fun q=>by rw[q];exact ne_of_gt (lt_of_lt_of_le (hb b z) HK)) fun q=>(f b z).2.2.2.2.1 x c (hcl x c q)⟩
   bs:=fun b o e=>I.bs b o e
   bsz:=le_trans I.ok.bsz I.sz
   noex:=fun b o e z=>by
    obtain⟨_,_,_,h4,_⟩:=f b z
    rcases h4 with h4 | h4
    ·exact I.ok.noex b o e h4
    ·exact absurd (lt_size (I.ok.bs b o e).1) (not_lt.mpr h4)
   exfs:=fun b z q=>(mem_cons.mp (I.mU b q)).elim (f b z).2.1 (f b z).2.2.1
   nO:=I.stack
   frf:=I.mr }
 refine⟨ok,os,bare,Un.laid k hD (fresh D hD),⟨fun _=>none,hns,fun i x v h1 h2 h3=>?_⟩,fun x c e=>?_,?_,fun x c e=>?_,fun p hp=>absurd (show p∈([]:List (Addr×Obj))++[] from hp) (by simp),I.hok.laid k hD ⟨zero_le _,[],0,.nil,hl⟩,?_⟩
 ·-- a closed-over name
  have vx:(bj own.length (fr.map (·.2)) σ)[i]?=some (some v):=h2
  have yv:(own++fr.map (·.1))[i]?=some x:=h1
  unfold bj at vx
  by_cases hi:i < own.length
  ·rw[getElem?_append_left (by simpa using hi),getElem?_replicate] at vx
   split at vx<;>cases vx
  ·rw[getElem?_append_right (by simpa using hi),length_replicate,getElem?_map,getElem?_map] at vx
   rw[getElem?_append_right (by omega),getElem?_map] at yv
   cases e:fr[i - own.length]? with
   | none=>rw[e] at yv;cases yv
   | some p =>
    rw[e] at yv vx
    have hx:p.1=x:=Option.some.inj yv
    have hv:(σ[p.2]?).join=some v:=Option.some.inj vx
    have xG:σ[p.2]?=some (some v):=by
     cases q:σ[p.2]? with
     | none=>rw[q] at hv;cases hv
     | some o=>rw[q] at hv;rw[show o=some v from hv]
    obtain⟨hN,hkx,hmem,hrel⟩:=hfr p (mem_of_getElem? e)
    obtain⟨m,hn,cG⟩:=I.loc
    obtain⟨u,r,lk⟩:=cG p.2 p.1 v hN xG (hkx.elim (fun z=>.inr (.inl z)) fun z=>.inr (.inr z))
    rcases lk with ⟨lk,_⟩ | ⟨_,c,hc,xo⟩
    ·rcases hkx with z | z
     ·rw[lk] at z;cases z
     ·rw[lk] at z;cases z
    ·subst hx
     obtain⟨c',Ar⟩:=pI _ hmem rfl
     have:=hcl _ _ Ar
     rw[hc] at this
     cases this
     refine⟨u,r,.inr ⟨hrel,c,(iK (hnx p (mem_of_getElem? e))).trans Ar,?_⟩⟩
     obtain⟨ob,e1,e2⟩:=xo
     exact⟨ob,k _ _ e1,e2⟩
 ·rcases tI e with q | q
  ·rw[q];exact⟨none,hcv⟩
  ·obtain⟨v,ob,e1,e2⟩:=I.cell x c (hcl x c q)
   exact⟨v,ob,k _ _ e1,e2⟩
 ·show upd H D (.lst []) C=none
  rw[ax M4]
  exact fresh C hC
 ·rcases tI e with q | q
  ·rw[q,ax M_];exact fresh c0 HK
  ·rw[ax (ne_of_lt (lt_of_lt_of_le (gN x c (hcl x c q)) hD))]
   exact I.freeC x c (hcl x c q)
 ·show (bj own.length (fr.map (·.2)) σ).length=(own++fr.map (·.1)).length
  unfold bj
  simp
theorem By{elt iter tg:Expr}{ifs:List Expr}{scope:Scope}{pos spos py:Pos}{wi:TI}{g:TG}{tt:TT}{te:TE}{k:Nat}{y:Str}(x0:Str)(own:List Str)(fr:List (Str×Nat))(Ey:X.N.Nodup)(hk:X.N[k]?=some y)(hy:X.env.scope.names.lookup y=some .local)(hc:X.calm=true)(hi:PI X tg iter wi)
  (hgx:qF g own.length) (hB:∀ c0 cl C fp s2 H2,PG (X.jA (own++fr.map (·.1)) scope x0 c0 cl C fp s2 H2) tg g/\PFs (X.jA (own++fr.map (·.1)) scope x0 c0 cl C fp s2 H2) ifs tt/\PE (X.jA (own++fr.map (·.1)) scope x0 c0 cl C fp s2 H2) elt te)
  (hkind:scope.kind=.function) (hcell:∀ y∈scope.names,y.2=.cell->y.1=x0) (hnx:∀ p∈fr,p.1≠x0) (hcf:∀ n cs,cellsFrom n scope.names cs=(x0,n)::cs) (hpc:∀ h:Heap,pushCells h scope.names=h.push { cls:=.type "cell", data:=.cell none }) (hnames:∀ y∈scope.names,y.2=.local->scope.names.lookup y.1=some .local)
  (hfree:∀ y∈scope.names,y.2=.free->X.env.kindOf y.1=some .cell\/X.env.kindOf y.1=some .free)
  (hfr:∀ p∈fr,X.N[p.2]?=some p.1/\(X.env.kindOf p.1=some .cell\/X.env.kindOf p.1=some .free)/\(p.1,NameKind.free)∈scope.names/\((relabel scope X.env).names.lookup p.1=some .cell\/(relabel scope X.env).names.lookup p.1=some .free))
  (hsw:swapsWith (.ListComp elt [⟨tg,iter,ifs,0⟩] scope pos) (some (.Name y py)) spos.line X.env=pure true:=by rfl)
  (hs:∀ x,foldedSetIterable iter X.env x=pure x:=by intro _;rfl):PS X (.Assign [.Name y py] (.ListComp elt [⟨tg,iter,ifs,0⟩] scope pos) spos) (oy (nY own.length (fr.map (·.2)) wi g tt te) (eS k)):=by
 intro pins s σ H DD I h
 obtain⟨cl,hclos,hcl,pI⟩:=lr (env:=X.env) (scope:=scope) fun y hy hf=>I.ok.has y.1 (hfree y hy hf)
 rw[exec_Assign_Name_used _ _ _ _ hsw]
 refine wpAny_bind (wpAny_standAt (wpAny_bind ?_))
 refine wpAny_bind (thn (wpAny_comprehension_free (M:=model X.prog X.w) (A:=X.A) (E:=X.xe) (e:=.ListComp elt [⟨tg,iter,ifs,0⟩] scope pos) (first:=eval iter X.env) (newAcc:=newList []) (use:=some (assign (.Name y py) X.env)) (Q:=fun _ s'=>SP X pins DD .next s') rfl hs hclos hkind hnames
  (thn (hi pins s σ H _ I h) fun v s1 h1=>thn h1 fun itv s2 h2=>?_)) fun _ s' hq=>wpAny_pure (wpAny_pure hq))
 obtain⟨it,fp,tn,J,H2,e,I2,T,xk,f2,h3⟩:=h2
 subst e
 obtain⟨W,⟨m0,w0⟩,turn⟩:=h3 s2.heap.objs.size I2.fresh
 have hb:∀ b∈fp,b < s2.heap.objs.size:=fun b z=>by
  obtain⟨o,e,_⟩:=T.obj _ _ xk b z
  exact lt_size e
 refine wpAny_newObj_type (E4 hcf hpc ?_)
 dsimp only
 generalize Ak:s2.heap.push { cls:=.type "list", dict:=none,data:=.seq ([]:List Value).toArray }=G
 have uK:G.objs.size=s2.heap.objs.size+1:=by rw[<- Ak,size_push]
 have Hf:∀ b o,G.get? b=some o->((G.push { cls:=.type "dict", data:=.dict #[] }).push { cls:=.type "cell", data:=.cell none }).get? b=some o:=fun b o e=>get?_push_of_some _ (get?_push_of_some _ e)
 have old:∀ b o,s2.heap.get? b=some o->((G.push { cls:=.type "dict", data:=.dict #[] }).push { cls:=.type "cell", data:=.cell none }).get? b=some o:=fun b o e=>Hf b o (Ak▸get?_push_of_some _ e)
 have hD:((G.push { cls:=.type "dict", data:=.dict #[] }).push { cls:=.type "cell", data:=.cell none }).get? s2.heap.objs.size=some { cls:=.type "list", data:=.seq ([]:List Value).toArray }:=Hf _ _ (Ak▸get?_push_size _ rfl)
 have wx:((G.push { cls:=.type "dict", data:=.dict #[] }).push { cls:=.type "cell", data:=.cell none }).Ns G.objs.size (fun _=>none):=(Ns.new G (.type "dict")).keeps fun b o e=>get?_push_of_some _ e
 have hcv:((G.push { cls:=.type "dict", data:=.dict #[] }).push { cls:=.type "cell", data:=.cell none }).IsCell (G.objs.size+1) none:=by
  have q:=get?_push_size (G.push { cls:=.type "dict", data:=.dict #[] }) (o:={ cls:=.type "cell", data:=.cell none }) rfl
  rw[size_push] at q
  exact⟨_,q,rfl⟩
 generalize (G.push { cls:=.type "dict", data:=.dict #[] }).push { cls:=.type "cell", data:=.cell none }=h₁ at Hf old hD wx hcv |-
 generalize hC:G.objs.size=C at wx uK hcv |-
 have hle:s2.heap.objs.size<=C:=by rw[uK];exact le_succ _
 have Kz:s2.heap.objs.size<=C+1:=Nat.le_succ_of_le hle
 have hne:C≠s2.heap.objs.size:=ne_of_gt (by rw[uK];exact lt_succ_self _)
 have Ny:C+1≠s2.heap.objs.size:=ne_of_gt (Nat.lt_succ_of_le hle)
 let Y:Cx:=X.jA (own++fr.map (·.1)) scope x0 (C+1) cl C fp s2 H2
 have stat:∀{H':Hp},(∀ b∈fp,H' b=none)->∀ b∈fp,j8 Y [] H' b:=fun hn=>Inv.En I2 f2 hb hle Kz hcl hn
 obtain⟨gY,pY,eY⟩:=hB (C+1) cl C fp s2 H2
 have IY:Inv Y [] (bj own.length (fr.map (·.2)) σ) (upd H2 s2.heap.objs.size (.lst [])) { s2 with heap:=h₁ } :=
  Inv.jA (D:=s2.heap.objs.size) I2 f2 hb hkind hcell hnx hcl pI hfr (le_refl _) hle hne Kz Ny hcv wx old hD rfl I2.bare
 have loop:codeAny (model X.prog X.w) X.A (.compLoop (.ListComp elt [⟨tg,iter,ifs,0⟩] scope pos) 0 (.ref it) (.ref s2.heap.objs.size) (compEnvC scope ((x0,C+1)::cl) C X.env)) (compPost (model X.prog X.w) X.A X.xe (some (assign (.Name y py) X.env)) (fun _ s'=>SP X pins DD .next s') (.ref s2.heap.objs.size) C)
   { s2 with heap:=h₁ }:=by
  refine i_ (E:=fun _ _=>False) (fun n s'=>∃ i acc H',Inv Y [] (bj own.length (fr.map (·.2)) σ) H' s'/\tn i s'.heap/\(∀ b∈fp,H' b=none)/\W i n acc H') (fun _ _ z=>z) ?_ m0
   ⟨0,[],_,IY,T.keep _ _ _ xk fun b _ o e=>old b o e,fun b z=>by rw[ax (ne_of_lt (hb b z))];exact (f2 b z).1,w0⟩
  rintro n s3 ⟨i,acc,H3,I3,AI,BL,w3⟩
  rcases turn i n acc H3 w3 with ⟨stop,q⟩ | ⟨go,Nn,hN,step⟩
  ·refine thn (T.done Y rfl rfl rfl hc i [] s3 _ H3 _ I3 (stat BL) AI stop) fun r s4 ⟨hr,I4⟩=>?_
   subst hr
   obtain⟨m4,L6,_⟩:=I4.loc
   have IX:Inv X pins σ H3 s4:=I2.yI (s':=s4) (ch:=fp) I4.os (show Un (frs X.stack) fp H2 H3 s2.heap s4.heap from I4.base) I4.hok I4.bare (fun b z=>⟨(f2 b z).2.2.2.1,(f2 b z).2.1,(f2 b z).2.2.2.2.1,(f2 b z).2.2.2.2.2⟩)
   have Lz:C≠X.env.locals:=ne_of_gt (lt_of_lt_of_le I2.lt hle)
   show wpAny _ _ (assign (.Name y py) X.env (.ref s2.heap.objs.size)) _ _ s4
   have gN:∀ z c,X.env.cells.lookup z=some c->c < C:=fun z c e=>by
    obtain⟨v,q'⟩:=I2.cell z c e
    exact lt_of_lt_of_le q'.lt hle
   refine wpAny_assign_Name (mZ IX Ey hk (inl hy) (v:=.ref s2.heap.objs.size) (u:=.ref s2.heap.objs.size) rfl (fun s5 I5 k5=>?_) (inr hy))
   obtain⟨a5,NJ,MJ⟩:=k5
   have Nu:C≠a5:=by
    rcases MJ with z | z
    ·rw[z];exact Lz
    ·exact ne_of_gt (gN _ _ z)
   refine⟨m4,Ns.sameBut L6 NJ Nu,fun h' LW=>?_⟩
   refine⟨σ.set k (some (.ref s2.heap.objs.size)),H3,?_,q⟩
   refine I5.turned (it:=C) (t':=s5.toks) (fun b o hne e=>LW.extBut b o hne e) I4.free Lz (.inr (le_trans I2.sz hle)) (fun z c e=>ne_of_lt (gN z c e)) fun p hp=>?_
   exact ne_of_lt (lt_of_lt_of_le (lt_size (I2.pin p hp).1) hle)
  ·refine thn (T.item Y rfl rfl rfl hc i [] s3 _ H3 _ I3 (stat BL) AI go) fun r s4 ⟨u,hr,h4⟩=>?_
   subst hr
   refine thn h4 fun _ s5 ⟨x,H5,I5,r5,y5,xJ,Hg⟩=>?_
   have I5':=I5.pinned (stat Hg) (T.obj _ _ xJ)
   refine thn (gY _ s5 _ H5 x u _ I5' r5 (hgx _ x H5 _ (step x H5 y5))) fun _ s6 ⟨σ6,H6,I6,FP,q6⟩=>?_
   refine thn (pY _ s6 σ6 H6 _ I6 q6) fun ok s7 ⟨H7,I7,q7⟩=>?_
   have again:∀{bu:List V}{H8:Hp}{s8:Shared},Inv Y ([]++lX fp s5.heap) σ6 H8 s8->Nn bu H8->∃ m,m < n/\∃ i acc H',Inv Y [] (bj own.length (fr.map (·.2)) σ) H' s8/\tn i s8.heap/\(∀ b∈fp,H' b=none)/\W i m acc H':=fun {bu H8 s8} I8 n8=>by
    obtain⟨m',hm,w8⟩:=hN bu H8 n8
    refine⟨m',hm,i+1,bu,H8,I8.iL.weak FP.1 FP.2,T.keep _ _ _ xJ fun b hb o e=>(I8.pin (b,o) (mem_append_right _ (mem_append_right _ (cY hb e)))).1,fun b hb=>?_,w8⟩
    obtain⟨o,e,d⟩:=T.obj _ _ xJ b hb
    exact (I8.pin (b,o) (mem_append_right _ (mem_append_right _ (cY hb e)))).2.1
   cases ok with
   | false=>exact again I7 (by simpa using q7)
   | true =>
    have Kk:=(by simpa using q7:te σ6 H7 _)
    refine thn (eY _ s7 σ6 H7 _ I7 Kk) fun xv s8 ⟨y,H8,I8,r8,lq,G7,n8⟩=>?_
    refine thn (bT (X:=Y) _ s8 σ6 H8 (.ref s2.heap.objs.size) [y] (.ref s2.heap.objs.size) [xv] (fun v H9=>v=.non/\H9=upd H8 s2.heap.objs.size (.lst (acc++[y]))) I8 rfl (.cons r8 .nil) ⟨_,acc,y,rfl,rfl,lq,G7,rfl,rfl⟩) fun _ s9 ⟨v9,H9,I9,_,_,e9⟩=>?_
    subst e9
    exact again I9 n8
 exact codeAny_compStart_list loop (T.self X.A 0 _ _ _ (T.keep _ _ _ xk fun b _ o e=>old b o e) loop)
theorem BN{X:Cx}{elt iter tg:Expr}{ifs:List Expr}{scope:Scope}{pos spos py:Pos}{wi:TI}{g:TG}{tt:TT}{te:TE}{k:Nat}{y:Str}(x0:Str)(own:List Str)(fr:List (Str×Nat))(Ey:X.N.Nodup)(hk:X.N[k]?=some y)(hy:X.env.scope.names.lookup y=some .local)(hc:X.calm=true)(hi:QI X tg iter wi)
  (hgx:qF g own.length) (hB:∀ c0 cl C fp s2 H2,QG (X.jA (own++fr.map (·.1)) scope x0 c0 cl C fp s2 H2) tg g/\QF (X.jA (own++fr.map (·.1)) scope x0 c0 cl C fp s2 H2) ifs tt/\QE (X.jA (own++fr.map (·.1)) scope x0 c0 cl C fp s2 H2) elt te)
  (hkind:scope.kind=.function) (hcell:∀ y∈scope.names,y.2=.cell->y.1=x0) (hnx:∀ p∈fr,p.1≠x0) (hcf:∀ n cs,cellsFrom n scope.names cs=(x0,n)::cs) (hpc:∀ h:Heap,pushCells h scope.names=h.push { cls:=.type "cell", data:=.cell none }) (hnames:∀ y∈scope.names,y.2=.local->scope.names.lookup y.1=some .local)
  (hfree:∀ y∈scope.names,y.2=.free->X.env.kindOf y.1=some .cell\/X.env.kindOf y.1=some .free)
  (hfr:∀ p∈fr,X.N[p.2]?=some p.1/\(X.env.kindOf p.1=some .cell\/X.env.kindOf p.1=some .free)/\(p.1,NameKind.free)∈scope.names/\((relabel scope X.env).names.lookup p.1=some .cell\/(relabel scope X.env).names.lookup p.1=some .free))
  (hsw:swapsWith (.ListComp elt [⟨tg,iter,ifs,0⟩] scope pos) (some (.Name y py)) spos.line X.env=pure true:=by rfl)
  (hs:∀ x,foldedSetIterable iter X.env x=pure x:=by intro _;rfl):QS X (.Assign [.Name y py] (.ListComp elt [⟨tg,iter,ifs,0⟩] scope pos) spos) (oy (nY own.length (fr.map (·.2)) wi g tt te) (eS k)) :=
 ⟨By x0 own fr Ey hk hy hc hi.p hgx (fun c0 cl C fp s2 H2=>⟨(hB c0 cl C fp s2 H2).1.p,(hB c0 cl C fp s2 H2).2.1.p,(hB c0 cl C fp s2 H2).2.2.p⟩) hkind hcell hnx hcf hpc hnames hfree hfr hsw hs⟩
end
theorem GR:bootBuiltins "any" = some (.builtin "any"):=by decide +kernel
theorem aM{X:Cx}{K:PySem.W.Frag}{e tg:Expr}{te:TE}(hK:X.K=K)(hl:QE X e te):QI X tg e (Bq K te):=hK▸EE hl
theorem ja{X:Cx}{K:PySem.W.Frag}{e tg:Expr}{te:TE}(hK:X.K=K)(hl:QE X e te):QI X tg e (Hx K te):=hK▸Jb hl
theorem y4{K:PySem.W.Frag}{m n k j i:Nat}(hk:k < n)(hj:j < n)(hi:i < n):qF (CB K m (qh (eS k) (qh (eS j) (qh (eS i) EB)))) n:=fun r x H Q h=>by
 obtain⟨a,xs,e1,h1,h2,v,r1,e2,v2,r2,e3,v3,r3,e4,e5,q⟩:=h
 exact⟨a,xs,e1,h1,h2,v,r1,e2,v2,r2,e3,v3,r3,e4,e5,kL hi r (kL hj r (kL hk r (Ext.refl _) v) v2) v3,q⟩
section
variable {H:Hp}{Q:VK}{v:V}{l:St}
end
end L2
namespace L2
open PySem PySem.Spec PyProof.Rows
section
variable {X:Cx}
theorem fY:∀{ns:List Int}{vs:List Value},bc (ns.map V.int) vs->IntsAre vs ns
 | [],vs,h=>by
  cases vs with
  | nil=>exact .nil
  | cons _ _=>cases h
 | n::ns,vs,h=>by
  cases vs with
  | nil=>cases h
  | cons v vs =>
   cases h with
   | cons r rr =>
    obtain⟨t,rfl⟩:=r
    exact .cons n t (fY rr)
def FY:List V->Hp->VK->Prop:=fun xs H Q=>∃(p:Addr)(ns:List Int),xs=[.ref p]/\H p=some (.lst (ns.map V.int))/\Q (.int ns.sum) H
theorem kW(hc:X.calm=true):fJ X (.builtin "sum") FY:=by
 intro pins s σ H xs us Q I r h
 obtain⟨p,ns,rfl,hp,q⟩:=h
 obtain⟨u,rfl,rx⟩:=vals1 r
 cases rx
 obtain⟨aN,r',pl,hz⟩:=I.list (SqL.of hp)
 have hi:=fY r'
 obtain⟨ys,e⟩:=hi.allInts.items
 have hn:=hi.numsOf
 have e2:ns=ys.toList.map (·.1):=by
  rw[<- nums_intItems,<- e]
  exact hn.symm
 have hl:=pl.isList
 rw[e] at hl
 refine sum_intListG (I.ok.hd hc) hl fun h' tk t' hk=>⟨.int ns.sum,H,I.kept hk,⟨t',?_⟩,q⟩
 rw[preSum_eq,List.take_of_length_le (by simp),<- e2]
def Gp:List V->Hp->VK->Prop:=fun xs H Q=>∃(p:Addr)(bs:List Bool),xs=[.ref p]/\H p=some (.lst (bs.map V.bl))/\Q (.bl (bs.all id)) H
def Gn:List V->Hp->VK->Prop:=fun xs H Q=>∃(p:Addr)(bs:List Bool),xs=[.ref p]/\H p=some (.lst (bs.map V.bl))/\Q (.bl (bs.any id)) H
theorem lh{bs:List Bool}{vs:List Value}(h:bc (bs.map V.bl) vs):vs=bs.map Value.bool:=by
 induction bs generalizing vs with
 | nil=>cases h;rfl
 | cons b bs ih =>
  cases vs with
  | nil=>cases h
  | cons v vs =>
   cases h with
   | cons r rr =>
    cases r
    rw[ih rr];rfl
theorem range_all(bs:List Bool):((range bs.length).all fun i=>bs.getD i false)=bs.all id:=by
 rw[Bool.eq_iff_iff,all_eq_true,all_eq_true]
 constructor
 ·intro h b hb
  obtain⟨i,hi,rfl⟩:=getElem_of_mem hb
  have:=h i (mem_range.mpr hi)
  simpa [getD_eq_getElem?_getD,hi] using this
 ·intro h i hi
  have HQ:=mem_range.mp hi
  have:=h bs[i] (getElem_mem HQ)
  simpa [getD_eq_getElem?_getD,HQ] using this
theorem range_any(bs:List Bool):((range bs.length).any fun i=>bs.getD i false)=bs.any id:=by
 rw[Bool.eq_iff_iff,any_eq_true,any_eq_true]
 constructor
 ·rintro ⟨i,hi,h⟩
  have HQ:=mem_range.mp hi
  exact⟨bs[i],getElem_mem HQ,by simpa [getD_eq_getElem?_getD,HQ] using h⟩
 ·rintro ⟨b,hb,h⟩
  obtain⟨i,hi,rfl⟩:=getElem_of_mem hb
  exact⟨i,mem_range.mpr hi,by simpa [getD_eq_getElem?_getD,hi] using h⟩
theorem l7{M:Program}{w:World}{A:Around}{E:Value->Shared->Prop}{s:Shared}{l:Addr}{items:Array Value}{Q:Value->Shared->Prop}(hl:s.heap.IsList l items)
  (h:∀ s₂:Shared,s₂={ s with heap:=s.heap.push { cls:=.type "list_iterator", data:=.fields #[.ref l,.int 0 0] } } ->
   (s₂.heap.IsListIter s.heap.objs.size l 0/\s₂.heap.IsList l items)->l≠s.heap.objs.size->Q (.ref s.heap.objs.size) s₂) :
  wpAny (model M w) A (pyIter (.ref l)) Q E s:=by
 have hlt:l < s.heap.objs.size:=by obtain⟨_,e,_⟩:=hl;exact lt_size e
 exact wpAny_pyIter_list hl (h _ rfl ⟨⟨_,get?_push_size _ rfl,rfl,rfl⟩,hl.push _⟩ (ne_of_lt hlt))
theorem oo{P:Program}{w:World}{A:Around}{bs:List Bool}:TruthOf P w A (fun i v=>(List.toArray (bs.map Value.bool))[i]?=some v) (fun i=>bs.getD i false):=by
 intro i v s Q E hv hq
 have xG:(bs.map Value.bool)[i]?=some v:=by simpa using hv
 rw[getElem?_map] at xG
 cases e:bs[i]? with
 | none=>rw[e] at xG;cases xG
 | some b =>
  rw[e] at xG
  cases xG
  have:bs.getD i false=b:=by simp[getD_eq_getElem?_getD,e]
  have OC:Q (bs.getD i false) s:=hq
  rw[this] at OC
  exact wpAny_truthy_bool OC
theorem fe(hc:X.calm=true):fJ X (.builtin "all") Gp:=by
 intro pins s σ H xs us Q I r h
 obtain⟨p,bs,rfl,hp,q⟩:=h
 obtain⟨u,rfl,rx⟩:=vals1 r
 cases rx
 obtain⟨aN,r',pl,hz⟩:=I.list (SqL.of hp)
 rw[lh r'] at pl
 refine call_all_walk (l7 pl.isList fun s₂ e st hne=>?_)
 subst e
 refine⟨_,_,_,_,_,_,_,rfl,Walks.list (A:=X.A.in1) (I.ok.hd hc) _ p hne _,st,oo,fun h' tk hk=>⟨.bl (bs.all id),H,I.kept (old_kept hk),?_,q⟩⟩
 show Value.bool _=Value.bool _
 rw[size_toArray,length_map,range_all]
theorem z_(hc:X.calm=true):fJ X (.builtin "any") Gn:=by
 intro pins s σ H xs us Q I r h
 obtain⟨p,bs,rfl,hp,q⟩:=h
 obtain⟨u,rfl,rx⟩:=vals1 r
 cases rx
 obtain⟨aN,r',pl,hz⟩:=I.list (SqL.of hp)
 rw[lh r'] at pl
 refine call_any_walk (l7 pl.isList fun s₂ e st hne=>?_)
 subst e
 refine⟨_,_,_,_,_,_,_,rfl,Walks.list (A:=X.A.in1) (I.ok.hd hc) _ p hne _,st,oo,fun h' tk hk=>⟨.bl (bs.any id),H,I.kept (old_kept hk),?_,q⟩⟩
 show Value.bool _=Value.bool _
 rw[size_toArray,length_map,range_any]
theorem Inv.Ge{pins:List (Addr×Obj)}{σ:St}{H:Hp}{s:Shared}{h':Heap}{t':Nat}{wr:List Addr}{T:Addr}{o:HO}(I:Inv X pins σ H s)(k:∀ b u,b∉wr->s.heap.get? b=some u->h'.get? b=some u)(hw:∀ b∈wr,j8 X pins H b)
  (hp:s.heap.objs.size<=T) (new:cM X.prog X.w (upd H T o) h' T o):Inv X pins σ (upd H T o) { s with heap:=h',toks:=t' }:=by
 have hn:H T=none:=I.hok.fresh hp
 have neT:∀ b ob,s.heap.get? b=some ob->b≠T:=fun b ob e=>ne_of_lt (lt_of_lt_of_le (lt_size e) hp)
 have up:∀{b:Addr}{u:HO},H b=some u->upd H T o b=some u:=fun e=>by rw[ax (cj e hn)];exact e
 have nit:∀ b u,H b=some u->b∉wr:=fun b u e z=>by rw[(hw b z).1] at e;cases e
 refine I.step (g':=s.gens) (d':=s.drawn) (ch:=wr) (fun b hb=>?_) (fun b ob _ _ hc e _=>k b ob hc e) (fun b ob _ _ hc e _=>⟨ob.slots,k b ob hc e⟩) (fun b ob _ e n=>by rw[ax (neT b ob e)];exact n)
  (fun b ob hc e=>⟨ob,k b ob hc e⟩) (fun _ _ e=>up e) (fun _ _ _ e=>up e) (fun b ps e=>⟨#[],by rw[up e];simp⟩) (fun m hm=>?_) (fun b u e=>?_) I.bare
 ·obtain⟨_,f1,_,f3,f4,f5⟩:=hw b hb
  exact⟨f3,f1,f4,f5⟩
 ·obtain⟨ob,es,ep,ho,r⟩:=hm
  exact⟨ob,es,ep,k _ ob (fun z=>(hw _ z).2.1 rfl) ho,r⟩
 ·by_cases hb:b=T
  ·subst hb;rw[af] at e;cases e;exact new
  ·rw[ax hb] at e
   refine (I.hok b u e).ve (fun c v hc q=>k c v ?_ q) (fun c q=>up q) fun c xs q=>up q
   rcases hc with z | z
   ·rw[z];exact nit b u e
   ·exact nit c _ z
theorem Inv.yf{pins:List (Addr×Obj)}{σ:St}{H:Hp}{s:Shared}{h':Heap}{t':Nat}{wr:List Addr}(I:Inv X pins σ H s)(k:∀ b o,b∉wr->s.heap.get? b=some o->h'.get? b=some o)(hw:∀ b∈wr,j8 X pins H b):Inv X pins σ H { s with heap:=h',toks:=t' }:=by
 have nit:∀ b u,H b=some u->b∉wr:=fun b u e z=>by rw[(hw b z).1] at e;cases e
 refine I.step (g':=s.gens) (d':=s.drawn) (ch:=wr) (fun b hb=>?_) (fun b o _ _ hc e _=>k b o hc e) (fun b o _ _ hc e _=>⟨o.slots,k b o hc e⟩) (fun _ _ _ _ n=>n)
  (fun b o hc e=>⟨o,k b o hc e⟩) (fun _ _ e=>e) (fun _ _ _ e=>e) (fun b ps e=>⟨#[],by rw[e];simp⟩) (fun m hm=>?_) (fun b u e=>?_) I.bare
 ·obtain⟨_,f1,_,f3,f4,f5⟩:=hw b hb
  exact⟨f3,f1,f4,f5⟩
 ·obtain⟨o,es,ep,ho,r⟩:=hm
  exact⟨o,es,ep,k _ o (fun z=>(hw _ z).2.1 rfl) ho,r⟩
 ·refine (I.hok b u e).ve (fun c v hc q=>k c v ?_ q) (fun _ q=>q) fun _ _ q=>q
  rcases hc with z | z
  ·rw[z];exact nit b u e
  ·exact nit c _ z
def Itn(K:PySem.W.Frag)(a:Addr):It :=
 ⟨fun i H=>∃ xs x,SqL K H a xs/\xs[i]?=some x,
   fun i H v H'=>∃ p x,H p=none/\(∀ xs,SqL K H a xs->xs[i]?=some x)/\v=.ref p/\H'=upd H p (.tup [.int i,x]),
   fun i H=>∃ xs,SqL K H a xs/\i=xs.length⟩
theorem zW{P:Program}{w:World}{K:PySem.W.Frag}{elts:List Expr}{k:Nat}{tp:Pos}(e it a:Addr)(hei:e≠it)(hle:a≠e)(hli:a≠it) :
  Turn P w K (.Tuple elts k tp) (Itn K a) [e,it] e (fun i h=>(∃ old,IsEnum h e it i old)/\h.IsListIter it a i) where
 mem:=by simp
 obj:=fun i h st c hb=>by
  obtain⟨⟨old,s1⟩,⟨o4,e4,_,d4⟩⟩:=st
  simp only[mem_cons,not_mem_nil,or_false] at hb
  rcases hb with rfl | rfl
  ·exact⟨_,s1,fun v z=>by cases (show Data.fields _=Data.cell v from z)⟩
  ·exact⟨_,e4,fun v z=>by rw[d4] at z;cases z⟩
 keep:=fun i h h' st hk=>by
  obtain⟨⟨old,s1⟩,s4⟩:=st
  exact⟨⟨old,hk e (by simp) _ s1⟩,s4.at fun o q=>hk it (by simp) o q⟩
 item:=by
  intro X hP hw hK hc i pins s σ H E I hf st hg
  subst hP hw hK
  obtain⟨xs,x,m7,hx⟩:=hg
  obtain⟨ox,DV,p1,yV⟩:=I.list m7
  obtain⟨u1,Gs,MC⟩:=DV.get hx
  obtain⟨s1,s4⟩:=st
  have W:=WalksT.enumerate (prog:=X.prog) (w:=X.w) (A:=X.A) (I.ok.hd hc) e it a hei hle hli ox.toArray
  have l1:=(List.getElem?_eq_some_iff.mp Gs).1
  refine W.item i s _ E (by rw[size_toArray];exact l1) ⟨s1,s4,p1.isList⟩ fun T vals h' tk hv hT ht mid kk=>?_
  obtain⟨t,v1,e1,rfl⟩:=hv
  have RA:v1=u1:=by simpa [Gs] using e1.symm
  subst RA
  refine⟨.ref T,rfl,W.go elts k tp i T _ _ E mid fun h2 xk OY=>?_⟩
  have kept:∀ c o,c∉[e,it]->s.heap.get? c=some o->h2.get? c=some o:=fun c o hc q=>OY c o hc (kk c o hc q)
  have nT:=W.apart i T _ mid
  obtain⟨oT,eT,cT,Qf,dT⟩:=ht
  obtain⟨t1,t4,_⟩:=xk
  refine⟨.ref T,upd H T (.tup [.int i,x]),I.Ge (t':=tk) kept hf hT ⟨by show 2<=sizeLine;decide,[.int i t,v1],.cons ⟨t,rfl⟩ (.cons MC .nil),oT,OY T _ nT eT,cT,Qf,dT⟩,rfl,
   ⟨T,x,I.hok.fresh hT,fun zs hzs=>by rw[I.vt hzs m7];exact hx,rfl,rfl⟩,⟨t1,t4⟩,fun c hc=>?_⟩
  have hcn:=(hf c hc).1
  have hcl:c < s.heap.objs.size:=by
   obtain⟨old,s1⟩:=s1
   obtain⟨o4,e4,_⟩:=s4
   simp only[mem_cons,not_mem_nil,or_false] at hc
   rcases hc with rfl | rfl
   ·exact lt_size s1
   ·exact lt_size e4
  rw[ax (ne_of_lt (lt_of_lt_of_le hcl hT))]
  exact hcn
 done:=by
  intro X hP hw hK hc i pins s σ H E I hf st hg
  subst hP hw hK
  obtain⟨xs,m7,hx⟩:=hg
  obtain⟨ox,DV,p1,yV⟩:=I.list m7
  obtain⟨s1,s4⟩:=st
  have W:=WalksT.enumerate (prog:=X.prog) (w:=X.w) (A:=X.A) (I.ok.hd hc) e it a hei hle hli ox.toArray
  have hm:ox.toArray.size=i:=by
   rw[size_toArray,<- DV.length];exact hx.symm
  refine W.done s _ E ?_ fun h' tk kk=>⟨rfl,I.yf kk hf⟩
  rw[hm]
  exact⟨s1,s4,p1.isList⟩
 self:=fun _ _ _ _ _ st h=>by
  obtain⟨⟨old,s1⟩,_⟩:=st
  exact wpAny_pyIter_enum s1 h
def B4(K:PySem.W.Frag)(ta:TA):TI:=fun σ H R=>ta σ H fun vs H1=>∃ a,vs=[.ref a]/\(∃ xs,SqL K H1 a xs)/\R (Itn K a) H1
theorem DX{a:Expr}{ta:TA}{p pos tp:Pos}{elts:List Expr}{k:Nat}(hg:Gl X "enumerate")(hm:X.mg "enumerate" = none)(ha:PA X [a] ta)(hs:starEach [a] X.env=[(false,eval a X.env)]:=by rfl) :
  PI X (.Tuple elts k tp) (.Call (.Name "enumerate" p) [a] [] pos) (B4 X.K ta):=by
 intro pins s σ H R I h
 refine Call_ (kv I hg hm boot_enumerate (PyProof.Rows.callWith_type1 (thn (ha pos pins s σ H _ I h) fun us s1 ⟨vs,H1,I1,r1,q1⟩=>?_) hs rfl))
 obtain⟨a',e,⟨xs,m7⟩,q⟩:=q1
 subst e
 cases r1 with
 | cons r rr =>
  cases rr
  cases r
  obtain⟨ox,DV,p1,yV⟩:=I1.list m7
  have KP:a' < s1.heap.objs.size:=by obtain⟨_,e,_⟩:=p1.isList;exact lt_size e
  refine call_enumerate_list p1.isList fun h' hE hI hsz hk=>?_
  refine wpAny_pyIter_enum hE ?_
  refine⟨_,[_,_],_,_,H1,rfl,I1.kept (t':=s1.toks) hk,zW _ _ a' (Nat.succ_ne_self _) (ne_of_lt (lt_succ_of_lt KP)) (ne_of_lt KP),⟨⟨_,hE⟩,hI⟩,fun c hc=>?_,q⟩
  have hle:s1.heap.objs.size<=c:=by
   simp only[mem_cons,not_mem_nil,or_false] at hc
   rcases hc with rfl | rfl<;>first | exact le_refl _ | exact Nat.le_add_right _ _
  exact I1.B9 hle (I1.hok.fresh hle)
end
section
variable {X:Cx}{a b:Expr}{t:TA}{p pos tp:Pos}{elts:List Expr}{k:Nat}
theorem Fm(hg:Gl X "enumerate")(hm:X.mg "enumerate" = none)(ha:QA X [a] t)(hs:starEach [a] X.env=[(false,eval a X.env)]:=by rfl) :
  QI X (.Tuple elts k tp) (.Call (.Name "enumerate" p) [a] [] pos) (B4 X.K t):=⟨DX hg hm ha.p hs⟩
end
theorem BH{xs:List V}{H:Hp}{Q:VK}:FY xs H Q=∃(p:Addr)(ns:List Int),xs=[.ref p]/\H p=some (.lst (ns.map V.int))/\Q (.int ns.sum) H:=propext Iff.rfl
theorem Ax{xs:List V}{H:Hp}{Q:VK}:Gp xs H Q=∃(p:Addr)(bs:List Bool),xs=[.ref p]/\H p=some (.lst (bs.map V.bl))/\Q (.bl (bs.all id)) H:=propext Iff.rfl
theorem Cv{xs:List V}{H:Hp}{Q:VK}:Gn xs H Q=∃(p:Addr)(bs:List Bool),xs=[.ref p]/\H p=some (.lst (bs.map V.bl))/\Q (.bl (bs.any id)) H:=propext Iff.rfl
theorem lN{K:PySem.W.Frag}{a l:Addr}{xs:List V}{n:Nat}{js:List Nat}{g:TG}{tt:TT}{te:TE}{σ:St}{H1:Hp}{R:Hp->Prop}(Pv:Nat->List V->Hp->Prop)(h0:Pv 0 [] (upd H1 l (.lst [])))
  (hl:∀ i acc H,i<=xs.length->Pv i acc H->SqL K H a xs)
  (hs:∀ i x p acc H,xs[i]?=some x->H p=none->Pv i acc H->g (.ref p) (bj n js σ) (upd H p (.tup [.int i,x])) fun σ2 H2=>tt σ2 H2 fun b H3=>if b=true then te σ2 H3 fun y H4=>H4 l=some (.lst acc)/\acc.length < sizeLine/\Pv (i+1) (acc++[y]) (upd H4 l (.lst (acc++[y]))) else Pv (i+1) acc H3)
  (hd:∀ acc H,Pv xs.length acc H->R H) :
  ∃ W:Nat->Nat->List V->Hp->Prop,(∃ m,W 0 m [] (upd H1 l (.lst [])))/\∀ i m acc H,W i m acc H ->
   ((Itn K a).stop i H/\R H)\/((Itn K a).go i H/\∃ N:List V->Hp->Prop,(∀ bu H',N bu H'->∃ m',m' < m/\W (i+1) m' bu H') /\
    ∀ x H',(Itn K a).yld i H x H'->g x (bj n js σ) H' fun σ2 H2=>tt σ2 H2 fun b H3=>if b=true then te σ2 H3 fun y H4=>H4 l=some (.lst acc)/\acc.length < sizeLine/\N (acc++[y]) (upd H4 l (.lst (acc++[y]))) else N acc H3):=by
 refine⟨fun i m acc H=>m=xs.length - i/\i<=xs.length/\Pv i acc H,⟨xs.length,by simp,zero_le _,h0⟩,?_⟩
 rintro i m acc H ⟨rfl,hi,p⟩
 have q1:=hl i acc H hi p
 by_cases hlt:i < xs.length
 ·refine .inr ⟨⟨xs,xs[i],q1,by simp[hlt]⟩,Pv (i+1),fun bu H' p'=>⟨xs.length - (i+1),by omega,rfl,hlt,p'⟩,fun v H' y=>?_⟩
  obtain⟨pp,x,hn,y1,rfl,rfl⟩:=y
  exact hs i x pp acc _ (y1 xs q1) hn p
 ·have e:i=xs.length:=by omega
  subst e
  exact .inl ⟨⟨xs,q1,rfl⟩,hd acc H p⟩
end L2
namespace L2
open PySem PySem.Spec PyProof.Rows
section
variable {X:Cx}
def Ku:R2:=fun x y H Q=>∃ a b xs ys,x=.ref a/\y=.ref b/\H a=some (.tup xs)/\H b=some (.tup ys)/\ys≠[]/\xs.length+ys.length<=sizeLine/\∀ p H',ak H H'->H' p=some (.tup (xs++ys))->Q (.ref p) H'
theorem ui:OpR X (binaryOp .Add) Ku:=by
 intro pins s σ H x y v u Q I rx ry h
 obtain⟨a,b,xs,ys,rfl,rfl,ha,hb,hy,hz,q⟩:=h
 by_cases hx:xs=[]
 ·subst hx
  cases rx
  cases ry
  obtain⟨aN,r1,p1,_⟩:=I.tuple (SqT.of ha)
  obtain⟨pT,r2,p2,_⟩:=I.tuple (SqT.of hb)
  cases r1
  obtain⟨⟨cls,dd,data,sl⟩,ho,hc,n,hd⟩:=id p1
  obtain⟨⟨MP,JL,data2,Gi⟩,DC,uO,n2,hd2⟩:=id p2
  simp only at hc hd uO hd2
  subst hc hd uO hd2
  exact concat_meets ⟨_,ho,rfl⟩ ⟨_,DC,rfl⟩ noFill_tuple_add seq_tuple_add PySem.F.slot_tuple_add PySem.F.entry_tuple_add (PySem.F.args_tuple_add_2 _ _)
   (tuple_addW0 a b _ _ n n2 dd JL sl Gi (by simp)) ⟨ho,DC,⟨.ref b,H,I,rfl,q b H (ak.refl H) (by simpa using hb)⟩⟩
 ·exact Ei pins s σ H (.ref a) (.ref b) _ _ Q I rx ry ⟨a,b,xs,ys,rfl,rfl,SqT.of ha,SqT.of hb,hx,hz,fun z=>absurd z hy,fun _ p hp=>q p _ (ak.new hp) af⟩
end
theorem HE{K:PySem.W.Frag}{T:String}{r:V->List V->Hp->VK->Prop}{to:TE}{t:TA}{σ:St}{H:Hp}{Q:VK}:tBM K T r to t σ H Q=to σ H fun x H1=>tyV K T x H1/\t σ H1 fun vs H2=>r x vs H2 Q:=propext Iff.rfl
theorem wu{x:V}{vs:List V}{H:Hp}{Q:VK}:mh x vs H Q=∃ l xs y,x=.ref l/\vs=[y]/\H l=some (.lst xs)/\xs.length < sizeLine/\Q .non (upd H l (.lst (xs++[y]))):=propext Iff.rfl
theorem xH:(8<=sizeLine)=True:=eq_true (by decide)
theorem vA:(10<=sizeLine)=True:=eq_true (by decide)
end L2
namespace L2
open PySem PySem.Spec PyProof.Rows
section
variable {X:Cx}{o e:Expr}{es:List Expr}{to:TE}{t:TA}{name:Str}{apos cpos:Pos}{T id:String}{r:V->List V->Hp->VK->Prop}
theorem Kt(pa:PlainAttrs T)(slot:Slot T name id)(hty:typeOf (.builtin id)=pure (.type "method_descriptor"))(hm:MtR X id r)(ho:QE X o to)(ha:QA X (e::es) t)
  (hbase:attributeBase o name X.env (eval o X.env)=eval o X.env:=by rfl)
  (hfew:((backTo cpos (starEach (e::es) X.env)).all (fun x=>!x.1) && (backToKw cpos (keywordEach [] X.env)).all (fun x=>x.1.isSome)
   && decide ((e::es).length+([]:List Keyword).length+(if ([]:List Keyword).isEmpty then 0 else 1) < 30))=true:=by rfl)
  (hline:(apos.endLine == cpos.line)=true:=by rfl) (hs:starEach (e::es) X.env=(false,eval e X.env)::starEach es X.env:=by rfl) (hplain:(backTo cpos (starEach es X.env)).any (·.1)=false:=by rfl) :
  QE X (.Call (.Attribute o name apos) (e::es) [] cpos) (tBM X.K T r to t):=⟨Ls pa slot hty hm ho.p ha.p hbase hfew hline hs hplain⟩
end
end L2
namespace L2
theorem zc{n:Nat}{js:List Nat}{σ:St}:bj n js σ=replicate n none++js.map fun j=>(σ[j]?).join:=by unfold bj;exact rfl
theorem za{α:Type}{x:Option α}:(some x).join=x:=rfl
end L2
namespace L2
open PySem
theorem pj{X:Cx}{K:PySem.W.Frag}(hK:X.K=K):OpR X (compareOp .In) (rIn K false):=hK▸zo
theorem nu{X:Cx}{K:PySem.W.Frag}(hK:X.K=K):OpR X (compareOp .NotIn) (rIn K true):=hK▸tu
end L2
namespace L2
open PySem
theorem eK{X:Cx}{K:PySem.W.Frag}{es:List Expr}{pos:Pos}{k:Nat}{tg:TGs}{n:Nat}(hK:X.K=K)(hc:X.calm=true)(h:QGs X es tg)(hn:(assignEach es X.env).length=n:=by rfl)(hst:(assignEach es X.env).findIdx? (·.1)=none:=by rfl):QG X (.Tuple es k pos) (CB K n tg):=hK▸Iv hc h hn hst
end L2
namespace L2
theorem xw:(0<=PySem.sizeLine)=True:=eq_true (zero_le _)
end L2
namespace L2
theorem vg{b:Bool}{A B:Prop}{k:Tg A}{l:Tg B}(h1:b=false->A)(h2:b=true->B):Brk (!b) A B k l:=brk (fun h=>h1 (by simpa using h)) (fun h=>h2 (by simpa using h))
end L2
set_option maxHeartbeats 4000000
namespace Srt
open PySem PyProof.Rows
abbrev PS:=Array Nat×Array (Nat×Nat×Nat)×Nat
abbrev TW(β:Type):=PS->Option (β×PS)
abbrev enc(k:Nat->Keyed)(t:PS):SortSt:=SortSt.mk' oneType' (t.1.map k) t.2.1 t.2.2 none
structure jD(P:Program)(w:World)(A:Around)(s:Shared)(k:Nat->Keyed)(c:Nat->Nat->Bool)(N:Nat):Prop where
 lt:∀ i j,i < N->j < N->∀(E:Value->Shared->Prop)(Q:Bool->Shared->Prop),Q (c i j) s->wpAny (model P w) A (oneLt' true (k i).1 (k j).1) Q E s
structure Sim(c:Nat->Nat->Bool)(N:Nat){α β:Type}(φ:(Nat->Keyed)->β->α)(m:(Nat->Keyed)->StateT SortSt Sem α)(n:TW β):Prop where
 run:∀(P:Program)(w:World)(A:Around)(E:Value->Shared->Prop)(s:Shared)(k:Nat->Keyed),jD P w A s k c N->∀ t b t',n t=some (b,t')->wpS (model P w) A E s (m k) (fun a st=>a=φ k b/\st=enc k t') (enc k t)
section
variable {c:Nat->Nat->Bool}{N:Nat}{α β γ δ:Type}
def jL(b:β):TW β:=fun t=>some (b,t)
def l_(n:TW β)(g:β->TW δ):TW δ:=fun t=>match n t with
 | none=>none
 | some (b,t')=>g b t'
def yU(f:Nat->β->TW (ForInStep β)):List Nat->β->TW β
 | [],b=>jL b
 | x::l,b=>fun t=>match f x b t with
  | none=>none
  | some (.done b',t')=>some (b',t')
  | some (.yield b',t')=>yU f l b' t'
def Je(p:Prop)[Decidable p](x y:TW β):TW β:=fun t=>if p then x t else y t
def FW:TW β:=fun _=>none
def uA:TW PS:=fun t=>some (t,t)
def tmod(f:PS->PS):TW Unit:=fun t=>some ((),f t)
def tlt(c:Nat->Nat->Bool)(N i j:Nat):TW Bool:=fun t=>if i < N/\j < N then some (c i j,t) else none
def tel(p:Array Nat)(i:Nat):TW Nat:=fun t=>match p[i]? with
 | none=>none
 | some j=>some (j,t)
abbrev ident:(Nat->Keyed)->β->β:=fun _ b=>b
theorem qg(b:β):Sim c N ident (fun _=>pure b) (jL b):=by
 refine⟨?_⟩
 intro P w A E s k h t b' t' e
 cases e
 exact wpS_pure ⟨rfl,rfl⟩
theorem eX{φ:(Nat->Keyed)->β->α}{v:(Nat->Keyed)->α}(b:β)(hv:∀ k,v k=φ k b):Sim c N φ (fun k=>pure (v k)) (jL b):=by
 refine⟨?_⟩
 intro P w A E s k h t b' t' e
 cases e
 exact wpS_pure ⟨hv k,rfl⟩
theorem cq{φ:(Nat->Keyed)->β->α}{ψ:(Nat->Keyed)->δ->γ}{m:(Nat->Keyed)->StateT SortSt Sem α}{f:(Nat->Keyed)->α->StateT SortSt Sem γ}{n:TW β}{g:β->TW δ}
  (h1:Sim c N φ m n) (h2:∀ b,Sim c N ψ (fun k=>f k (φ k b)) (g b)):Sim c N ψ (fun k=>m k >>= f k) (l_ n g):=by
 refine⟨?_⟩
 intro P w A E s k h t b t' e
 unfold l_ at e
 cases e1:n t with
 | none=>rw[e1] at e;cases e
 | some r =>
  obtain⟨b1,t1⟩:=r
  rw[e1] at e
  refine wpS_bind (wpS_mono (h1.run P w A E s k h t b1 t1 e1) fun a st ⟨ea,es⟩=>?_)
  rw[ea,es]
  exact (h2 b1).run P w A E s k h t1 b t' e
theorem kX{φ:(Nat->Keyed)->β->α}{p:Prop}{d:(Nat->Keyed)->Decidable p}[Decidable p]{m1 m2:(Nat->Keyed)->StateT SortSt Sem α}{n1 n2:TW β}(h1:Sim c N φ m1 n1)(h2:Sim c N φ m2 n2):Sim c N φ (fun k=>@ite _ p (d k) (m1 k) (m2 k)) (Je p n1 n2):=by
 refine⟨?_⟩
 intro P w A E s k h t b t' e
 unfold Je at e
 by_cases hp:p
 ·rw[if_pos hp] at e
  simp only[if_pos hp]
  exact h1.run P w A E s k h t b t' e
 ·rw[if_neg hp] at e
  simp only[if_neg hp]
  exact h2.run P w A E s k h t b t' e
theorem Cb{φ:(Nat->Keyed)->β->α}{m:(Nat->Keyed)->StateT SortSt Sem α}:Sim c N φ m FW:=⟨fun _ _ _ _ _ _ _ _ _ _ e=>nomatch e⟩
theorem EC:Sim c N enc (fun _=>get) uA:=by
 refine⟨?_⟩
 intro P w A E s k h t b' t' e
 cases e
 exact wpS_get ⟨rfl,rfl⟩
theorem tU{f:SortSt->SortSt}(f':PS->PS)(hf:∀ k t,f (enc k t)=enc k (f' t)):Sim c N ident (fun _=>modify f) (tmod f'):=by
 refine⟨?_⟩
 intro P w A E s k h t b' t' e
 cases e
 exact wpS_modify ⟨rfl,hf k t⟩
theorem my{x:String}:Sim c N ident (fun _=>(liftM (rule x):StateT SortSt Sem Unit)) (jL ()):=by
 refine⟨?_⟩
 intro P w A E s k h t b' t' e
 cases e
 exact wpS_lift (wpAny_rule ⟨rfl,rfl,rfl⟩)
theorem nU{i j:Nat}:Sim c N (fun _ b=>some b) (fun k=>lt' (k i) (k j)) (tlt c N i j):=by
 refine⟨?_⟩
 intro P w A E s k h t b' t' e
 unfold tlt at e
 split at e
 case isFalse=>cases e
 rename_i hij
 cases e
 try dsimp only
 rw[lt'_eq]
 refine wpS_bind (wpS_get ?_)
 show wpS _ _ _ _ (do let r <- (keyLt' oneType' (k i).1 (k j).1).attempt;_) _ _
 rw[keyLt'_oneType]
 refine wpS_bind (wpS_lift (wpAny_attempt (h.lt i j hij.1 hij.2 _ _ ⟨rfl,?_⟩)))
 exact wpS_pure ⟨rfl,rfl⟩
theorem lQ{p:Array Nat}{i:Nat}:Sim c N (fun k j=>k j) (fun k=>elem' (p.map k) i) (tel p i):=by
 refine⟨?_⟩
 intro P w A E s k h t b' t' e
 unfold tel at e
 try dsimp only
 rw[elem'_eq]
 cases e1:p[i]? with
 | none=>rw[e1] at e;cases e
 | some j =>
  rw[e1] at e
  cases e
  rw[Array.getElem?_map,e1]
  exact wpS_pure ⟨rfl,rfl⟩
def mm(φ:(Nat->Keyed)->β->α)(k:Nat->Keyed):ForInStep β->ForInStep α
 | .done b=>.done (φ k b)
 | .yield b=>.yield (φ k b)
theorem u5{φ:(Nat->Keyed)->β->α}{F:(Nat->Keyed)->Nat->α->StateT SortSt Sem (ForInStep α)}{f:Nat->β->TW (ForInStep β)}(h:∀ x b,Sim c N (mm φ) (fun k=>F k x (φ k b)) (f x b)) :
  ∀(l:List Nat)(b:β),Sim c N φ (fun k=>forIn l (φ k b) (F k)) (yU f l b)
 | [],b=>by
  refine⟨?_⟩
  intro P w A E s k ha t b' t' e
  cases e
  simp only[forIn_nil]
  exact wpS_pure ⟨rfl,rfl⟩
 | x::l,b=>by
  refine⟨?_⟩
  intro P w A E s k ha t b' t' e
  simp only[forIn_cons]
  unfold yU at e
  cases e1:f x b t with
  | none=>rw[e1] at e;cases e
  | some r =>
   obtain⟨r,t1⟩:=r
   rw[e1] at e
   refine wpS_bind (wpS_mono ((h x b).run P w A E s k ha t r t1 e1) fun a st ⟨ea,es⟩=>?_)
   rw[ea,es]
   cases r with
   | done b1 =>
    cases e
    exact wpS_pure ⟨rfl,rfl⟩
   | yield b1=>exact (u5 h l b1).run P w A E s k ha t1 b' t' e
theorem xU{φ:(Nat->Keyed)->β->α}{F:(Nat->Keyed)->Nat->α->StateT SortSt Sem (ForInStep α)}{f:Nat->β->TW (ForInStep β)}{a b:Nat}{v:(Nat->Keyed)->α}(b0:β)(hv:∀ k,v k=φ k b0)(h:∀ x b,Sim c N (mm φ) (fun k=>F k x (φ k b)) (f x b)) :
  Sim c N φ (fun k=>forIn [a:b] (v k) (F k)) (yU f (range' a (b - a)) b0):=by
 refine⟨?_⟩
 intro P w A E s k ha t b' t' e
 have:=(u5 h _ b0).run P w A E s k ha t b' t' e
 try dsimp only
 rw[hv k,Std.Legacy.Range.forIn_eq_forIn_range']
 have hsz:([a:b]:Std.Legacy.Range).size=b - a:=by simp[Std.Legacy.Range.size]
 show wpS _ _ _ _ (forIn (range' a ([a:b]:Std.Legacy.Range).size 1) _ _) _ _
 rw[hsz]
 exact this
theorem qO{F:(Nat->Keyed)->Nat->β->StateT SortSt Sem (ForInStep β)}{f:Nat->β->TW (ForInStep β)}{a b:Nat}{b0:β}(h:∀ x b,Sim c N (mm ident) (fun k=>F k x b) (f x b)) :
  Sim c N ident (fun k=>forIn [a:b] b0 (F k)) (yU f (range' a (b - a)) b0):=xU b0 (fun _=>rfl) h
theorem pU(b:β):Sim c N (mm ident) (fun _=>pure (ForInStep.done b)) (jL (.done b)):=eX _ fun _=>rfl
theorem nH(b:β):Sim c N (mm ident) (fun _=>pure (ForInStep.yield b)) (jL (.yield b)):=eX _ fun _=>rfl
def KH{ρ τ:Type}(g1:ρ->τ->TW δ)(g2:τ->TW δ):Option ρ×τ->TW δ
 | (some r,y)=>g1 r y
 | (none,y)=>g2 y
theorem qE{ρ τ:Type}{ψ:(Nat->Keyed)->δ->γ}{f:(Nat->Keyed)->Option ρ×τ->StateT SortSt Sem γ}{g1:ρ->τ->TW δ}{g2:τ->TW δ}(h1:∀ r y,Sim c N ψ (fun k=>f k (some r,y)) (g1 r y))(h2:∀ y,Sim c N ψ (fun k=>f k (none,y)) (g2 y)) :
  ∀ b,Sim c N ψ (fun k=>f k b) (KH g1 g2 b)
 | (some r,y)=>h1 r y
 | (none,y)=>h2 y
theorem uV{i j:Nat}:Sim c N (fun _ b=>some b) (fun _=>ltAt' i j) (fun t=>l_ (tel t.1 i) (fun x=>l_ (tel t.1 j) (tlt c N x)) t):=by
 refine⟨?_⟩
 intro P w A E s k h t b' t' e
 try dsimp only
 rw[ltAt'_eq]
 refine wpS_bind (wpS_get ?_)
 have g:Sim c N (fun _ b=>some b) (fun k=>do let x <- elem' (t.1.map k) i;let y <- elem' (t.1.map k) j;lt' x y) (l_ (tel t.1 i) (fun x=>l_ (tel t.1 j) (tlt c N x))):=cq lQ fun x=>cq lQ fun y=>nU
 exact g.run P w A E s k h t b' t' e
theorem vO(k:Nat->Keyed)(xs:Array Nat)(i j:Nat):(xs.map k).swapIfInBounds i j=(xs.swapIfInBounds i j).map k:=by
 by_cases hi:i < xs.size
 ·by_cases hj:j < xs.size
  ·apply Array.ext_getElem?
   intro q
   rw[getElem?_swapIB (by rw[size_map];exact hi) (by rw[size_map];exact hj)]
   simp only[Array.getElem?_map]
   rw[getElem?_swapIB hi hj]
   by_cases h1:j=q<;>by_cases h2:i=q<;>simp[h1,h2]
  ·simp[Array.swapIfInBounds_def,hi,hj]
 ·simp[Array.swapIfInBounds_def,hi]
theorem xD(k:Nat->Keyed)(xs:Array Nat)(i j d:Nat):mirror (xs.map k) i j d=(mirror xs i j d).map k:=by
 have go:∀(l:List Nat)(xs:Array Nat),l.foldl (fun a q=>a.swapIfInBounds (i+q) (j - 1 - q)) (xs.map k)=(l.foldl (fun a q=>a.swapIfInBounds (i+q) (j - 1 - q)) xs).map k:=by
  intro l
  induction l with
  | nil=>intro xs;rfl
  | cons x l ih=>intro xs;simp only[foldl_cons];rw[vO,ih]
 exact go _ _
theorem wM(k:Nat->Keyed)(xs:Array Nat)(src d:Nat):bubble (xs.map k) src d=(bubble xs src d).map k:=by
 have go:∀(l:List Nat)(xs:Array Nat),l.foldl (fun a q=>a.swapIfInBounds (src - q) (src - q - 1)) (xs.map k)=(l.foldl (fun a q=>a.swapIfInBounds (src - q) (src - q - 1)) xs).map k:=by
  intro l
  induction l with
  | nil=>intro xs;rfl
  | cons x l ih=>intro xs;simp only[foldl_cons];rw[vO,ih]
 exact go _ _
end
end Srt
set_option maxHeartbeats 4000000
namespace Srt
open PySem PyProof.Rows
variable {c:Nat->Nat->Bool}{N:Nat}
theorem mL{src dst:Nat}:Sim c N ident (fun _=>moveDown' src dst) (tmod fun t=>(bubble t.1 src (src - dst),t.2)):=by
 simp only[moveDown'_eq]
 exact tU _ fun k t=>by
  show SortSt.mk' oneType' (bubble (t.1.map k) src (src - dst)) t.2.1 t.2.2 none=_
  rw[wM]
theorem og{i j:Nat}:Sim c N ident (fun _=>reverseSlice' i j) (tmod fun t=>(mirror t.1 i j ((j - i) / 2),t.2)):=by
 simp only[reverseSlice'_eq]
 exact tU _ fun k t=>by
  show SortSt.mk' oneType' (mirror (t.1.map k) i j ((j - i) / 2)) t.2.1 t.2.2 none=_
  rw[xD]
def mkS{α β:Type}{φ:(Nat->Keyed)->β->α}{m:(Nat->Keyed)->StateT SortSt Sem α}{n:TW β}(h:Sim c N φ m n):{ n:TW β // Sim c N φ m n }:=⟨n,h⟩
def oB(c:Nat->Nat->Bool)(N lo n ok:Nat):{ m:TW Bool // Sim c N ident (fun _=>binarySort' lo n ok) m }:=by
 apply mkS
 ·simp only[binarySort'_eq]
  repeat' (first
   | with_reducible exact pU _ | with_reducible exact nH _ | with_reducible exact qg _ | with_reducible exact uV | with_reducible exact mL | with_reducible exact og | with_reducible exact my | with_reducible exact lQ | with_reducible exact nU
   | apply kX | with_reducible apply qO | with_reducible apply qE | with_reducible apply cq | (intro _;try dsimp only[ident]))
def eG(c:Nat->Nat->Bool)(N lo nrem:Nat):{ m:TW (Option Nat) // Sim c N ident (fun _=>countRun' lo nrem) m }:=by
 apply mkS
 ·simp only[countRun'_eq]
  repeat' (first
   | with_reducible exact pU _ | with_reducible exact nH _ | with_reducible exact qg _ | with_reducible exact uV | with_reducible exact mL | with_reducible exact og | with_reducible exact my | with_reducible exact lQ | with_reducible exact nU
   | apply kX | with_reducible apply qO | with_reducible apply qE | with_reducible apply cq | (intro _;try dsimp only[ident]))
end Srt
set_option maxHeartbeats 4000000
namespace Srt
open PySem PyProof.Rows
variable {c:Nat->Nat->Bool}{N:Nat}
def yt:Bool->Keyed->Array Keyed->Nat->Nat->Nat->StateT SortSt Sem (Option Nat):=sortPriv% PySem.Builtin.gallop
def uP:Array Keyed->Array Keyed->StateT SortSt Sem (Array Keyed):=sortPriv% PySem.Builtin.mergeLo
def rM:Nat->StateT SortSt Sem Unit:=sortPriv% PySem.Builtin.setMinGallop
def KD(c:Nat->Nat->Bool)(N:Nat)(left:Bool)(p:Array Nat)(i j:Nat):TW Bool:=l_ (tel p i) fun x=>Je (left=true) (tlt c N x j) (l_ (tlt c N j x) fun r=>jL (!r))
theorem pP{left:Bool}{p:Array Nat}{i j:Nat}:Sim c N (fun _ b=>some b) (fun k=>elem' (p.map k) i >>= fun x=>if left=true then lt' x (k j) else lt' (k j) x >>= fun r=>pure (Option.map (fun x=>!x) r)) (KD c N left p i j):=by
 unfold KD
 apply cq
 ·exact lQ
 ·intro x
  apply kX
  ·exact nU
  ·apply cq
   ·exact nU
   ·intro r
    exact eX (φ:=fun _ b=>some b) (!r) fun _=>rfl
def NW{ρ δ:Type}(g1:ρ->TW δ)(g2:TW δ):Option ρ->TW δ
 | some r=>g1 r
 | none=>g2
theorem E6{ρ δ γ:Type}{ψ:(Nat->Keyed)->δ->γ}{f:(Nat->Keyed)->Option ρ->StateT SortSt Sem γ}{g1:ρ->TW δ}{g2:TW δ}(h1:∀ r,Sim c N ψ (fun k=>f k (some r)) (g1 r))(h2:Sim c N ψ (fun k=>f k none) g2):∀ b,Sim c N ψ (fun k=>f k b) (NW g1 g2 b)
 | some r=>h1 r
 | none=>h2
def oQ(c:Nat->Nat->Bool)(N:Nat)(left:Bool)(j:Nat)(p:Array Nat)(base n hint:Nat):{ m:TW (Option Nat) // Sim c N ident (fun k=>yt left (k j) (p.map k) base n hint) m }:=by
 apply mkS
 ·apply cq
  ·exact pP
  ·intro b
   dsimp only
   repeat' (first
    | with_reducible exact pU _ | with_reducible exact nH _ | with_reducible exact qg _ | exact pP
    | apply kX | with_reducible apply qO | with_reducible apply qE | with_reducible apply cq | (intro _;try dsimp only[ident]))
theorem lM{left:Bool}{j:Nat}{p:Array Nat}{base n hint:Nat}:Sim c N ident (fun k=>yt left (k j) (p.map k) base n hint) (oQ c N left j p base n hint).1:=(oQ c N left j p base n hint).2
theorem zV{g:Nat}:Sim c N ident (fun _=>rM g) (tmod fun t=>(t.1,t.2.1,g)):=tU _ fun k t=>rfl
theorem y7{α β:Type}{φ:(Nat->Keyed)->β->α}{x:String}:Sim c N φ (fun _=>(liftM (unsupported x:Sem α):StateT SortSt Sem α)) FW:=Cb
abbrev phA:(Nat->Keyed)->Array Nat->Array Keyed:=fun k p=>map k p
def phM{τ:Type}:(Nat->Keyed)->Option (Array Nat)×Array Nat×τ->Option (Array Keyed)×Array Keyed×τ:=fun k r=>(r.1.map (map k),map k r.2.1,r.2.2)
theorem G8{τ:Type}(k:Nat->Keyed)(r:Option (Array Nat)×Array Nat×τ):phM k r=(r.1.map (map k),map k r.2.1,r.2.2):=rfl
theorem nm1(k:Nat->Keyed)(o:Array Nat)(j:Nat):(map k o).push (k j)=map k (o.push j):=by simp
theorem nm2(k:Nat->Keyed)(o:Array Nat)(i j:Nat):(map k o).extract i j=map k (o.extract i j):=by simp
theorem nm3(k:Nat->Keyed)(o q:Array Nat):map k o++map k q=map k (o++q):=by simp
theorem nm4(k:Nat->Keyed)(o:Array Nat):(map k o).size=o.size:=by simp
theorem nm5(k:Nat->Keyed)(j:Nat):(#[k j]:Array Keyed)=map k #[j]:=by simp
section
variable {τ δ γ:Type}
theorem uT{F:(Nat->Keyed)->Nat->(Option (Array Keyed)×Array Keyed×τ)->StateT SortSt Sem (ForInStep (Option (Array Keyed)×Array Keyed×τ))}{f:Nat->(Option (Array Nat)×Array Nat×τ)->TW (ForInStep (Option (Array Nat)×Array Nat×τ))}{a b:Nat}{p0:Array Nat}{y0:τ}
  (h:∀ x b,Sim c N (mm phM) (fun k=>F k x (phM k b)) (f x b)):Sim c N phM (fun k=>forIn [a:b] (none,map k p0,y0) (F k)) (yU f (range' a (b - a)) (none,p0,y0)):=xU (none,p0,y0) (fun _=>rfl) h
theorem qk{o:Array Nat}{y:τ}:Sim c N (mm phM) (fun k=>pure (ForInStep.done (none,map k o,y))) (jL (.done (none,o,y))):=eX _ fun _=>rfl
theorem o_{r o:Array Nat}{y:τ}:Sim c N (mm phM) (fun k=>pure (ForInStep.done (some (map k r),map k o,y))) (jL (.done (some r,o,y))):=eX _ fun _=>rfl
theorem qf{o:Array Nat}{y:τ}:Sim c N (mm phM) (fun k=>pure (ForInStep.yield (none,map k o,y))) (jL (.yield (none,o,y))):=eX _ fun _=>rfl
theorem sC{r:Array Nat}:Sim c N phA (fun k=>pure (map k r)) (jL r):=eX _ fun _=>rfl
def Am(g1:Array Nat->Array Nat->τ->TW δ)(g2:Array Nat->τ->TW δ):Option (Array Nat)×Array Nat×τ->TW δ
 | (some r,o,y)=>g1 r o y
 | (none,o,y)=>g2 o y
theorem yQ{ψ:(Nat->Keyed)->δ->γ}{f:(Nat->Keyed)->Option (Array Keyed)×Array Keyed×τ->StateT SortSt Sem γ}{g1:Array Nat->Array Nat->τ->TW δ}{g2:Array Nat->τ->TW δ}(h1:∀ r o y,Sim c N ψ (fun k=>f k (some (map k r),map k o,y)) (g1 r o y))(h2:∀ o y,Sim c N ψ (fun k=>f k (none,map k o,y)) (g2 o y)) :
  ∀ b,Sim c N ψ (fun k=>f k (phM k b)) (Am g1 g2 b)
 | (some r,o,y)=>h1 r o y
 | (none,o,y)=>h2 o y
theorem rT{ψ:(Nat->Keyed)->δ->γ}{m:(Nat->Keyed)->StateT SortSt Sem (Option (Array Keyed)×Array Keyed×τ)}{f:(Nat->Keyed)->Option (Array Keyed)×Array Keyed×τ->StateT SortSt Sem γ}{n:TW (Option (Array Nat)×Array Nat×τ)}{g1:Array Nat->Array Nat->τ->TW δ}{g2:Array Nat->τ->TW δ}
  (h:Sim c N phM m n) (h1:∀ r o y,Sim c N ψ (fun k=>f k (some (map k r),map k o,y)) (g1 r o y)) (h2:∀ o y,Sim c N ψ (fun k=>f k (none,map k o,y)) (g2 o y)) :
  Sim c N ψ (fun k=>m k >>= f k) (l_ n (Am g1 g2)):=cq h (yQ h1 h2)
end
def An(c:Nat->Nat->Bool)(N:Nat)(a b:Array Nat):{ m:TW (Array Nat) // Sim c N phA (fun k=>uP (a.map k) (b.map k)) m }:=by
 apply mkS
 ·apply cq
  ·exact my
  ·intro _
   dsimp only
   apply cq
   ·exact lQ
   ·intro j
    try dsimp only
    simp only[nm1,nm2,nm3,nm4,nm5]
    repeat' (first
     | exact my | exact y7 | exact zV | exact lQ | exact nU | exact lM | exact EC
     | apply kX | with_reducible apply uT | with_reducible apply E6 | with_reducible apply rT | with_reducible apply cq | exact qk | exact o_ | exact qf | exact sC | (simp only[nm1,nm2,nm3,nm4,nm5];first | exact qk | exact o_ | exact qf | exact sC | apply kX | with_reducible apply rT | with_reducible apply cq | with_reducible apply uT) | (intro _;try dsimp only[ident,enc,G8];try simp only[nm1,nm2,nm3,nm4,nm5]))
end Srt
set_option maxHeartbeats 4000000
namespace Srt
open PySem PyProof.Rows
def sub(i:Nat):List Int:=((range 6).filter fun b=>i.testBit b).map Int.ofNat
def llt:List Int->List Int->Bool
 | [],[]=>false
 | [],_::_=>true
 | _::_,[]=>false
 | x::xs,y::ys=>if x=y then llt xs ys else decide (x < y)
def cmp(i j:Nat):Bool:=llt (sub i) (sub j)
theorem dA{c:Nat->Nat->Bool}{N:Nat}{α β:Type}{φ:(Nat->Keyed)->β->α}{m:(Nat->Keyed)->StateT SortSt Sem α}{n:TW β}{P:Program}{w:World}{A:Around}{E:Value->Shared->Prop}{s:Shared}{k:Nat->Keyed}{t t':PS}{b:β}{Q:α->SortSt->Prop}
  (S:Sim c N φ m n) (h:jD P w A s k c N) (e:n t=some (b,t')) (q:Q (φ k b) (enc k t')):wpS (model P w) A E s (m k) Q (enc k t):=wpS_mono (S.run P w A E s k h t b t' e) fun a st ⟨ea,es⟩=>by rw[ea,es];exact q
theorem bw{M:Model}{A:Around}{E:Value->Shared->Prop}{s:Shared}{σ β:Type}{x:Nat}{l:List Nat}{b:β}{f:Nat->β->StateT σ Sem (ForInStep β)}{Q:β->σ->Prop}{st:σ}
  (h:wpS M A E s (f x b) (fun r y6=>match r with | .done b'=>Q b' y6 | .yield b'=>wpS M A E s (forIn l b' f) Q y6) st):wpS M A E s (forIn (x::l) b f) Q st:=by
 rw[forIn_cons]
 refine wpS_bind (wpS_mono h fun r y6 h'=>?_)
 cases r with
 | done b'=>exact wpS_pure h'
 | yield b'=>exact h'
theorem bU{M:Model}{A:Around}{E:Value->Shared->Prop}{s:Shared}{σ β:Type}{a n:Nat}{b:β}{f:Nat->β->StateT σ Sem (ForInStep β)}{Q:β->σ->Prop}{st:σ}(h:wpS M A E s (forIn (range' a (n - a)) b f) Q st):wpS M A E s (forIn [a:n] b f) Q st:=by
 rw[Std.Legacy.Range.forIn_eq_forIn_range']
 have hsz:([a:n]:Std.Legacy.Range).size=n - a:=by simp[Std.Legacy.Range.size]
 show wpS _ _ _ _ (forIn (range' a ([a:n]:Std.Legacy.Range).size 1) _ _) _ _
 rw[hsz]
 exact h
theorem Eg{M:Model}{A:Around}{E:Value->Shared->Prop}{s:Shared}{σ:Type}{v:σ}{Q:PUnit->σ->Prop}{st:σ}(h:Q ⟨⟩ v):wpS M A E s (set v:StateT σ Sem PUnit) Q st:=by
 unfold wpS;rw[StateT.run_set];exact wpAny_pure ⟨rfl,h⟩
theorem xN{M:Model}{A:Around}{E:Value->Shared->Prop}{s:Shared}{σ:Type}{v:σ}(v':σ){Q:PUnit->σ->Prop}{st:σ}(e:v=v')(h:Q ⟨⟩ v'):wpS M A E s (set v:StateT σ Sem PUnit) Q st:=Eg (e▸h)
theorem cy{M:Model}{A:Around}{E:Value->Shared->Prop}{s:Shared}{σ:Type}{f:σ->σ}(v':σ){Q:PUnit->σ->Prop}{st:σ}(e:f st=v')(h:Q ⟨⟩ v'):wpS M A E s (modify f:StateT σ Sem PUnit) Q st:=wpS_modify (e▸h)
theorem sR(k:Nat->Keyed)(sa:Nat):∀ (l:List (Nat×Nat)) (p:Array Nat),(l.map fun x=>(k x.1,x.2)).foldl (fun a (x:Keyed×Nat)=>match x with | (q,j)=>a.setIfInBounds (sa+j) q) (p.map k)=(l.foldl (fun a x=>a.setIfInBounds (sa+x.2) x.1) p).map k
 | [],p=>rfl
 | x::l,p=>by
  simp only[map_cons,foldl_cons]
  have e:(p.map k).setIfInBounds (sa+x.2) (k x.1)=(p.setIfInBounds (sa+x.2) x.1).map k:=by simp
  rw[e,sR k sa l]
theorem zip_map(k:Nat->Keyed)(m:Array Nat):(m.map k).toList.zipIdx=m.toList.zipIdx.map fun x=>(k x.1,x.2):=by
 rw[Array.toList_map,List.zipIdx_map]
 rfl
def a1:Array Nat:=#[0,1,3,7,15,31,23,11,27,19,5,13,29,21,9,25,17,2,6,14,30,22,10,26,18,4,12,28,20,8,24,16,32,33,34,35,36,37,38,39,40,41,42,43,44,45,46,47,48,49,50,51,52,53,54,55,56,57,58,59,60,61,62,63]
def a3:Array Nat:=#[0,1,3,7,15,31,23,11,27,19,5,13,29,21,9,25,17,2,6,14,30,22,10,26,18,4,12,28,20,8,24,16,33,32,34,35,36,37,38,39,40,41,42,43,44,45,46,47,48,49,50,51,52,53,54,55,56,57,58,59,60,61,62,63]
def a4:Array Nat:=#[0,1,3,7,15,31,23,11,27,19,5,13,29,21,9,25,17,2,6,14,30,22,10,26,18,4,12,28,20,8,24,16,63,47,55,39,59,43,51,35,61,45,53,37,57,41,49,33,62,46,54,38,58,42,50,34,60,44,52,36,56,40,48,32]
def order:Array Nat:=#[0,1,3,7,15,31,63,47,23,55,39,11,27,59,43,19,51,35,5,13,29,61,45,21,53,37,9,25,57,41,17,49,33,2,6,14,30,62,46,22,54,38,10,26,58,42,18,50,34,4,12,28,60,44,20,52,36,8,24,56,40,16,48,32]
def t0:PS:=((range 64).toArray,#[],7)
def t2:PS:=(a1,#[(0,32,0)],7)
def t4:PS:=(a4,#[(0,32,0)],7)
def t5:PS:=(a4,#[(0,32,1),(32,32,0)],7)
def t6:PS:=(a4,#[(0,64,1)],7)
theorem e0:(eG cmp 64 0 64).1 t0=some (some 3,t0):=by kernel_rfl
theorem e1:(oB cmp 64 0 32 3).1 t0=some (true,(a1,#[],7)):=by kernel_rfl
theorem e2:(eG cmp 64 32 32).1 t2=some (some 2,(a3,#[(0,32,0)],7)):=by kernel_rfl
theorem e3:(oB cmp 64 32 32 2).1 (a3,#[(0,32,0)],7)=some (true,t4):=by kernel_rfl
theorem e4:(oQ cmp 64 false (a4.getD 32 0) a4 0 32 0).1 t6=some (some 6,t6):=by kernel_rfl
theorem e5:(oQ cmp 64 true (a4.getD 31 0) a4 32 32 31).1 t6=some (some 30,t6):=by kernel_rfl
def mg:Array Nat:=order.extract 6 62
theorem e6:(An cmp 64 (a4.extract 6 32) (a4.extract 32 62)).1 t6=some (mg,t6):=by kernel_rfl
theorem e7:(mg.toList.zipIdx).foldl (fun a x=>a.setIfInBounds (6+x.2) x.1) a4=order:=by kernel_rfl
section
variable {P:Program}{w:World}{A:Around}{E:Value->Shared->Prop}{s:Shared}{k:Nat->Keyed}
theorem F5{p:Array Nat}{i j:Nat}{Q:Keyed->SortSt->Prop}{st:SortSt}(e:p[i]?=some j)(q:Q (k j) st):wpS (model P w) A E s (elem' (p.map k) i) Q st:=by
 rw[elem'_eq,Array.getElem?_map,e]
 exact wpS_pure q
theorem Er(h:jD P w A s k cmp 64){Q:Bool->SortSt->Prop}(q:Q true (enc k (order,#[(0,64,1)],7))):wpS (model P w) A E s (mergeAt' 0) Q (enc k t5):=by
 refine wpS_bind (wpS_get ?_)
 refine wpS_bind (xN (enc k t6) (by kernel_rfl) ?_)
 refine wpS_bind (F5 (p:=a4) (i:=32) (j:=a4.getD 32 0) (by kernel_rfl) ?_)
 refine wpS_bind (dA (t:=t6) (lM (c:=cmp) (N:=64) (left:=false) (j:=a4.getD 32 0) (p:=a4) (base:=0) (n:=32) (hint:=0)) h e4 ?_)
 refine wpS_bind (F5 (p:=a4) (i:=31) (j:=a4.getD 31 0) (by kernel_rfl) ?_)
 refine wpS_bind (dA (t:=t6) (lM (c:=cmp) (N:=64) (left:=true) (j:=a4.getD 31 0) (p:=a4) (base:=32) (n:=32) (hint:=31)) h e5 ?_)
 have x1:(map k a4).extract 6 32=map k (a4.extract 6 32):=nm2 _ _ _ _
 have x2:(map k a4).extract 32 62=map k (a4.extract 32 62):=nm2 _ _ _ _
 have mS:=(An cmp 64 (a4.extract 6 32) (a4.extract 32 62)).2
 refine wpS_bind (m:=uP ((map k a4).extract 6 32) ((map k a4).extract 32 62)) ?_
 rw[x1,x2]
 refine dA (t:=t6) mS h e6 ?_
 refine wpS_bind (cy (enc k (order,#[(0,64,1)],7)) ?_ ?_)
 ·have y:=sR k 6 mg.toList.zipIdx a4
  rw[<- zip_map,e7] at y
  show SortSt.mk' oneType' _ #[(0,64,1)] 7 none=SortSt.mk' oneType' (map k order) #[(0,64,1)] 7 none
  rw[<- y]
  rfl
 ·refine wpS_bind (wpS_get ?_)
  exact wpS_pure q
theorem GK(h:jD P w A s k cmp 64){Q:Unit->SortSt->Prop}(q:Q () (enc k (order,#[(0,64,1)],7))):wpS (model P w) A E s sortRuns' Q (enc k t0):=by
 rw[sortRuns'_eq]
 refine wpS_bind (wpS_get ?_)
 have hs:(arrOf (enc k t0)).size=64:=by show (map k t0.1).size=64;rw[size_map];rfl
 have hm:minRun' 64 64 0=32:=rfl
 dsimp only
 rw[hs,hm]
 refine wpS_bind (bU ?_)
 refine bw ?_
 rw[if_neg (by decide)]
 refine wpS_bind (dA (t:=t0) (eG cmp 64 0 64).2 h e0 ?_)
 dsimp only
 rw[if_pos (by decide)]
 refine wpS_bind (wpS_lift (wpAny_rule ⟨rfl,?_⟩))
 refine wpS_bind (dA (t:=t0) (oB cmp 64 0 32 3).2 h e1 ?_)
 rw[if_neg (show ¬ (!true)=true by decide)]
 refine wpS_bind (wpS_get ?_)
 refine wpS_bind (cy (enc k t2) (by kernel_rfl) ?_)
 refine wpS_pure ?_
 refine bw (x:=1) (l:=range' 2 62) (b:=(none,32)) ?_
 rw[if_neg (by decide)]
 refine wpS_bind (dA (t:=t2) (eG cmp 64 32 32).2 h e2 ?_)
 dsimp only
 rw[if_pos (by decide)]
 refine wpS_bind (wpS_lift (wpAny_rule ⟨rfl,?_⟩))
 refine wpS_bind (dA (t:=(a3,#[(0,32,0)],7)) (oB cmp 64 32 32 2).2 h e3 ?_)
 rw[if_neg (show ¬ (!true)=true by decide)]
 refine wpS_bind (wpS_get ?_)
 refine wpS_bind (bU (bw (x:=0) (l:=range' 1 63) ?_))
 refine wpS_bind (wpS_get ?_)
 refine wpS_pure ?_
 refine wpS_bind (cy (enc k (a4,#[(0,32,1)],7)) (by kernel_rfl) ?_)
 refine wpS_bind (cy (enc k t5) (by kernel_rfl) ?_)
 refine wpS_pure ?_
 refine bw (x:=2) (l:=range' 3 61) (b:=(none,64)) ?_
 rw[if_pos (by decide)]
 refine wpS_pure ?_
 refine wpS_bind (bU (bw (x:=0) (l:=range' 1 63) ?_))
 refine wpS_bind (wpS_get ?_)
 rw[if_neg (show ¬ ((pendingOf (enc k t5)).size<=1) from (by decide:¬ (2<=1)))]
 refine wpS_bind (Er h ?_)
 rw[if_neg (show ¬ (!true)=true by decide)]
 refine wpS_pure ?_
 refine bw (x:=1) (l:=range' 2 62) ?_
 refine wpS_bind (wpS_get ?_)
 rw[if_pos (show (pendingOf (enc k (order,#[(0,64,1)],7))).size<=1 from (by decide:1<=1))]
 refine wpS_pure ?_
 exact wpS_pure q
end
end Srt
set_option maxHeartbeats 4000000
namespace Srt
open PySem PyProof.Rows
section
variable {P:Program}{w:World}{A:Around}{E:Value->Shared->Prop}{s:Shared}{k:Nat->Keyed}
def o2:Array Nat:=#[0,1]
theorem c2:(eG cmp 2 0 2).1 ((range 2).toArray,#[],7)=some (some 2,((range 2).toArray,#[],7)):=by kernel_rfl
theorem K8(h:jD P w A s k cmp 2){Q:Unit->SortSt->Prop}(q:Q () (enc k (o2,#[(0,2,0)],7))):wpS (model P w) A E s sortRuns' Q (enc k ((range 2).toArray,#[],7)):=by
 rw[sortRuns'_eq]
 refine wpS_bind (wpS_get ?_)
 have hs:(arrOf (enc k ((range 2).toArray,#[],7))).size=2:=by show (map k (range 2).toArray).size=2;rw[size_map];rfl
 have hm:minRun' 2 2 0=2:=rfl
 dsimp only
 rw[hs,hm]
 refine wpS_bind (bU ?_)
 refine bw (x:=0) (l:=range' 1 1) ?_
 rw[if_neg (by decide)]
 refine wpS_bind (dA (t:=((range 2).toArray,#[],7)) (eG cmp 2 0 2).2 h c2 ?_)
 dsimp only
 rw[if_neg (by decide)]
 refine wpS_bind (wpS_get ?_)
 refine wpS_bind (cy (enc k (o2,#[(0,2,0)],7)) (by kernel_rfl) ?_)
 refine wpS_pure ?_
 refine bw (x:=1) (l:=range' 2 0) (b:=(none,2)) ?_
 rw[if_pos (by decide)]
 refine wpS_pure ?_
 refine wpS_bind (bU (bw (x:=0) (l:=range' 1 1) ?_))
 refine wpS_bind (wpS_get ?_)
 rw[if_pos (show (pendingOf (enc k (o2,#[(0,2,0)],7))).size<=1 from (by decide:1<=1))]
 refine wpS_pure ?_
 exact wpS_pure q
def o4:Array Nat:=#[0,1,3,2]
theorem c4:(eG cmp 4 0 4).1 ((range 4).toArray,#[],7)=some (some 3,((range 4).toArray,#[],7)):=by kernel_rfl
theorem b4:(oB cmp 4 0 4 3).1 ((range 4).toArray,#[],7)=some (true,(o4,#[],7)):=by kernel_rfl
theorem Lo(h:jD P w A s k cmp 4){Q:Unit->SortSt->Prop}(q:Q () (enc k (o4,#[(0,4,0)],7))):wpS (model P w) A E s sortRuns' Q (enc k ((range 4).toArray,#[],7)):=by
 rw[sortRuns'_eq]
 refine wpS_bind (wpS_get ?_)
 have hs:(arrOf (enc k ((range 4).toArray,#[],7))).size=4:=by show (map k (range 4).toArray).size=4;rw[size_map];rfl
 have hm:minRun' 4 4 0=4:=rfl
 dsimp only
 rw[hs,hm]
 refine wpS_bind (bU ?_)
 refine bw (x:=0) (l:=range' 1 3) ?_
 rw[if_neg (by decide)]
 refine wpS_bind (dA (t:=((range 4).toArray,#[],7)) (eG cmp 4 0 4).2 h c4 ?_)
 dsimp only
 rw[if_pos (by decide)]
 refine wpS_bind (wpS_lift (wpAny_rule ⟨rfl,?_⟩))
 refine wpS_bind (dA (t:=((range 4).toArray,#[],7)) (oB cmp 4 0 4 3).2 h b4 ?_)
 rw[if_neg (show ¬ (!true)=true by decide)]
 refine wpS_bind (wpS_get ?_)
 refine wpS_bind (cy (enc k (o4,#[(0,4,0)],7)) (by kernel_rfl) ?_)
 refine wpS_pure ?_
 refine bw (x:=1) (l:=range' 2 2) (b:=(none,4)) ?_
 rw[if_pos (by decide)]
 refine wpS_pure ?_
 refine wpS_bind (bU (bw (x:=0) (l:=range' 1 3) ?_))
 refine wpS_bind (wpS_get ?_)
 rw[if_pos (show (pendingOf (enc k (o4,#[(0,4,0)],7))).size<=1 from (by decide:1<=1))]
 refine wpS_pure ?_
 exact wpS_pure q
def o8:Array Nat:=#[0,1,3,7,5,2,6,4]
theorem c8:(eG cmp 8 0 8).1 ((range 8).toArray,#[],7)=some (some 3,((range 8).toArray,#[],7)):=by kernel_rfl
theorem b8:(oB cmp 8 0 8 3).1 ((range 8).toArray,#[],7)=some (true,(o8,#[],7)):=by kernel_rfl
theorem Le(h:jD P w A s k cmp 8){Q:Unit->SortSt->Prop}(q:Q () (enc k (o8,#[(0,8,0)],7))):wpS (model P w) A E s sortRuns' Q (enc k ((range 8).toArray,#[],7)):=by
 rw[sortRuns'_eq]
 refine wpS_bind (wpS_get ?_)
 have hs:(arrOf (enc k ((range 8).toArray,#[],7))).size=8:=by show (map k (range 8).toArray).size=8;rw[size_map];rfl
 have hm:minRun' 8 8 0=8:=rfl
 dsimp only
 rw[hs,hm]
 refine wpS_bind (bU ?_)
 refine bw (x:=0) (l:=range' 1 7) ?_
 rw[if_neg (by decide)]
 refine wpS_bind (dA (t:=((range 8).toArray,#[],7)) (eG cmp 8 0 8).2 h c8 ?_)
 dsimp only
 rw[if_pos (by decide)]
 refine wpS_bind (wpS_lift (wpAny_rule ⟨rfl,?_⟩))
 refine wpS_bind (dA (t:=((range 8).toArray,#[],7)) (oB cmp 8 0 8 3).2 h b8 ?_)
 rw[if_neg (show ¬ (!true)=true by decide)]
 refine wpS_bind (wpS_get ?_)
 refine wpS_bind (cy (enc k (o8,#[(0,8,0)],7)) (by kernel_rfl) ?_)
 refine wpS_pure ?_
 refine bw (x:=1) (l:=range' 2 6) (b:=(none,8)) ?_
 rw[if_pos (by decide)]
 refine wpS_pure ?_
 refine wpS_bind (bU (bw (x:=0) (l:=range' 1 7) ?_))
 refine wpS_bind (wpS_get ?_)
 rw[if_pos (show (pendingOf (enc k (o8,#[(0,8,0)],7))).size<=1 from (by decide:1<=1))]
 refine wpS_pure ?_
 exact wpS_pure q
def o16:Array Nat:=#[0,1,3,7,15,11,5,13,9,2,6,14,10,4,12,8]
theorem c16:(eG cmp 16 0 16).1 ((range 16).toArray,#[],7)=some (some 3,((range 16).toArray,#[],7)):=by kernel_rfl
theorem b16:(oB cmp 16 0 16 3).1 ((range 16).toArray,#[],7)=some (true,(o16,#[],7)):=by kernel_rfl
theorem Hm(h:jD P w A s k cmp 16){Q:Unit->SortSt->Prop}(q:Q () (enc k (o16,#[(0,16,0)],7))):wpS (model P w) A E s sortRuns' Q (enc k ((range 16).toArray,#[],7)):=by
 rw[sortRuns'_eq]
 refine wpS_bind (wpS_get ?_)
 have hs:(arrOf (enc k ((range 16).toArray,#[],7))).size=16:=by show (map k (range 16).toArray).size=16;rw[size_map];rfl
 have hm:minRun' 16 16 0=16:=rfl
 dsimp only
 rw[hs,hm]
 refine wpS_bind (bU ?_)
 refine bw (x:=0) (l:=range' 1 15) ?_
 rw[if_neg (by decide)]
 refine wpS_bind (dA (t:=((range 16).toArray,#[],7)) (eG cmp 16 0 16).2 h c16 ?_)
 dsimp only
 rw[if_pos (by decide)]
 refine wpS_bind (wpS_lift (wpAny_rule ⟨rfl,?_⟩))
 refine wpS_bind (dA (t:=((range 16).toArray,#[],7)) (oB cmp 16 0 16 3).2 h b16 ?_)
 rw[if_neg (show ¬ (!true)=true by decide)]
 refine wpS_bind (wpS_get ?_)
 refine wpS_bind (cy (enc k (o16,#[(0,16,0)],7)) (by kernel_rfl) ?_)
 refine wpS_pure ?_
 refine bw (x:=1) (l:=range' 2 14) (b:=(none,16)) ?_
 rw[if_pos (by decide)]
 refine wpS_pure ?_
 refine wpS_bind (bU (bw (x:=0) (l:=range' 1 15) ?_))
 refine wpS_bind (wpS_get ?_)
 rw[if_pos (show (pendingOf (enc k (o16,#[(0,16,0)],7))).size<=1 from (by decide:1<=1))]
 refine wpS_pure ?_
 exact wpS_pure q
def o32:Array Nat:=#[0,1,3,7,15,31,23,11,27,19,5,13,29,21,9,25,17,2,6,14,30,22,10,26,18,4,12,28,20,8,24,16]
theorem c32:(eG cmp 32 0 32).1 ((range 32).toArray,#[],7)=some (some 3,((range 32).toArray,#[],7)):=by kernel_rfl
theorem b32:(oB cmp 32 0 32 3).1 ((range 32).toArray,#[],7)=some (true,(o32,#[],7)):=by kernel_rfl
theorem GU(h:jD P w A s k cmp 32){Q:Unit->SortSt->Prop}(q:Q () (enc k (o32,#[(0,32,0)],7))):wpS (model P w) A E s sortRuns' Q (enc k ((range 32).toArray,#[],7)):=by
 rw[sortRuns'_eq]
 refine wpS_bind (wpS_get ?_)
 have hs:(arrOf (enc k ((range 32).toArray,#[],7))).size=32:=by show (map k (range 32).toArray).size=32;rw[size_map];rfl
 have hm:minRun' 32 32 0=32:=rfl
 dsimp only
 rw[hs,hm]
 refine wpS_bind (bU ?_)
 refine bw (x:=0) (l:=range' 1 31) ?_
 rw[if_neg (by decide)]
 refine wpS_bind (dA (t:=((range 32).toArray,#[],7)) (eG cmp 32 0 32).2 h c32 ?_)
 dsimp only
 rw[if_pos (by decide)]
 refine wpS_bind (wpS_lift (wpAny_rule ⟨rfl,?_⟩))
 refine wpS_bind (dA (t:=((range 32).toArray,#[],7)) (oB cmp 32 0 32 3).2 h b32 ?_)
 rw[if_neg (show ¬ (!true)=true by decide)]
 refine wpS_bind (wpS_get ?_)
 refine wpS_bind (cy (enc k (o32,#[(0,32,0)],7)) (by kernel_rfl) ?_)
 refine wpS_pure ?_
 refine bw (x:=1) (l:=range' 2 30) (b:=(none,32)) ?_
 rw[if_pos (by decide)]
 refine wpS_pure ?_
 refine wpS_bind (bU (bw (x:=0) (l:=range' 1 31) ?_))
 refine wpS_bind (wpS_get ?_)
 rw[if_pos (show (pendingOf (enc k (o32,#[(0,32,0)],7))).size<=1 from (by decide:1<=1))]
 refine wpS_pure ?_
 exact wpS_pure q
end
end Srt
namespace L2
open PySem PySem.Spec PyProof.Rows Srt
theorem BJ:∀ a b:List Int,llt a b=HT.lexLt a b
 | [],[]=>rfl
 | [],_::_=>rfl
 | _::_,[]=>rfl
 | x::xs,y::ys=>by
  show (if x=y then llt xs ys else decide (x < y))=(if x=y then HT.lexLt xs ys else decide (x < y))
  rw[BJ xs ys]
section
variable {prog:Program}{w:World}{A:Around}{E:Value->Shared->Prop}{s:Shared}
theorem Av{k:Nat->Keyed}{N:Nat}(hu:A.units < cLine)(ad:Nat->Addr)(hk:∀ i,i < N->(k i).1=.ref (ad i))(ht:∀ i,i < N->∃ aN:List Value,IsTup s.heap (ad i) aN.toArray/\IntsAre aN (sub i)):jD prog w A s k cmp N:=by
 refine⟨fun i j hi hj E Q q=>?_⟩
 obtain⟨ox,⟨⟨c1,d1,S2,QN⟩,Eu,J1,n1,Mm⟩,i1⟩:=ht i hi
 obtain⟨pT,⟨⟨c2,d2,SW,Gi⟩,DC,uO,n2,hd2⟩,i2⟩:=ht j hj
 simp only at J1 Mm uO hd2
 subst J1 Mm uO hd2
 rw[oneLt'_eq,hk i hi,hk j hj]
 simp only[if_true]
 refine wpAny_bind (wpAny_cRoomFor hu ?_)
 refine wpAny_bind (wpAny_callSpecialIfBound?_slot ⟨_,Eu,rfl⟩ PySem.F.slot_tuple_lt (call_meets PySem.F.slot_tuple_lt ⟨_,Eu,rfl⟩ PySem.F.entry_tuple_lt (PySem.F.args_tuple_lt_2 _ _)
  (HT.qZ _ _ _ _ n1 n2 d1 d2 QN Gi (sub i) (sub j) i1 i2) ⟨Eu,DC,?_⟩))
 have e:cmp i j=HT.lexLt (sub i) (sub j):=BJ _ _
 rw[e] at q
 exact wpAny_truthy_bool q
def LR(h:Heap)(v:Value):Prop:=∃ a o xs n,v=.ref a/\h.get? a=some o/\o.cls=.type "tuple" /\ o.data=.seq xs n
theorem vN{a:Addr}{o:Obj}{xs:Array Value}{n:Nat}{Q:Option Value->Shared->Prop}{M:Model}(ho:s.heap.get? a=some o)(hc:o.cls=.type "tuple")(hd:o.data=.seq xs n)(h:Q xs[0]? s):wpAny M A (firstOfTuple' (.ref a)) Q E s:=by
 rw[PySem.W.kas_first_eq]
 refine wpAny_bind (Looks.here (show Looks M s.heap (typeOf (.ref a)) o.cls from (Looks.ld ho).andThen .now) ?_)
 rw[hc,if_neg (by first | decide | simp)]
 exact wpAny_bind (listItems_at ho hd (wpAny_pure h))
theorem r_{M:Model}:∀(vs:List Value),(∀ v∈vs,LR s.heap v)->∃ fs:List (Option Value),∀ (Q:List (Option Value)->Shared->Prop),Q fs s->wpAny M A (vs.mapM firstOfTuple') Q E s
 | [],_=>⟨[],fun Q h=>by rw[List.mapM_nil];exact wpAny_pure h⟩
 | v::vs,hv=>by
  obtain⟨fs,hf⟩:=r_ (M:=M) vs fun u hu=>hv u (mem_cons_of_mem _ hu)
  obtain⟨a,o,xs,n,rfl,ho,hc,hd⟩:=hv v mem_cons_self
  refine⟨xs[0]?::fs,fun Q h=>?_⟩
  rw[List.mapM_cons]
  exact wpAny_bind (vN ho hc hd (wpAny_bind (hf _ (wpAny_pure h))))
theorem Fi{M:Model}{v0:Value}{vs:List Value}{Q:SortKind->Shared->Prop}(h0:∃ a o n,v0=.ref a/\s.heap.get? a=some o/\o.cls=.type "tuple" /\ o.data=.seq #[] n)(hv:∀ v∈vs,LR s.heap v)(h:Q oneType' s) :
  wpAny M A (keyKind' (v0::vs).toArray) Q E s:=by
 obtain⟨a,o,n,rfl,ho,hc,hd⟩:=h0
 obtain⟨fs,hf⟩:=r_ (M:=M) (A:=A) (E:=E) vs hv
 rw[PyProof.Rows.kat_kind_eq,List.mapM_toArray,map_eq_pure_bind]
 refine wpAny_bind (wpAny_bind ?_)
 rw[List.mapM_cons]
 refine wpAny_bind (vN ho hc hd (wpAny_bind (hf _ (wpAny_pure (wpAny_pure ?_)))))
 have e0:(#[]:Array Value)[0]?=none:=rfl
 rw[e0]
 have e1:((none::fs:List (Option Value)).toArray.all fun x=>x.isSome)=false:=by simp
 rw[if_neg (by rw[e1];decide)]
 have e2:¬ ((((none::fs:List (Option Value)).toArray)[0]?.bind id).isSome=true):=by simp
 rw[if_neg e2,oneTypeOnly'_eq,List.mapM_toArray,map_eq_pure_bind]
 have hT:∀ v∈(Value.ref a::vs),Looks M s.heap (typeOf v) (.type "tuple"):=fun v xG=>by
  rcases mem_cons.mp xG with rfl | xG
  ·rw[<- hc];exact (Looks.ld ho).andThen .now
  ·obtain⟨b,ob,xs,nb,rfl,hob,hcb,hdb⟩:=hv v xG
   rw[<- hcb];exact (Looks.ld hob).andThen .now
 refine wpAny_bind (wpAny_bind (wpAny_bind (PySem.W.kas_mapM (r:=Value.type "tuple") _ (fun v hv Q' hq=>(hT v hv).here hq) (wpAny_pure ?_))))
 have LU:((List.map (fun _=>Value.type "tuple") (Value.ref a::vs)).toArray.all fun x=>x == Value.type "tuple")=true:=by
  simp only[List.all_toArray,all_map,all_eq_true]
  intro _ _
  rfl
 have SI:(List.map (fun _=>Value.type "tuple") (Value.ref a::vs)).toArray[0]?=some (Value.type "tuple"):=by simp
 rw[SI]
 simp only[LU,if_true]
 exact wpAny_pure (wpAny_pure h)
def oP(a:Addr)(h h':Heap):Prop:=∀ b o,b≠a->h.get? b=some o->h'.get? b=some o
theorem uq{a:Addr}{vs:List Value}{n:Nat}{P:PySem.Fin->Shared->Prop}{out:Array Value}(ho:s.heap.get? a=some (seqObj "list" vs.toArray n))(h2:2<=vs.length)(Gz:vs.length<=64)(hout:out.size=vs.length)
  (hk:∀ s':Shared,oP a s.heap s'.heap->∀ Q:SortKind->Shared->Prop,Q oneType' s'->wpAny (model prog w) A (keyKind' vs.toArray) Q E s')
  (hr:∀ s':Shared,oP a s.heap s'.heap->wpS (model prog w) A E s' sortRuns' (fun _ st=>(arrOf st).map (·.2)=out/\failedOf st=none) (SortSt.mk' oneType' (vs.toArray.zip vs.toArray) #[] 7 none))
  (h:P (.done (.ret .none)) { s with heap:=sortedHeap s.heap a vs out }):wpAny (model prog w) A (Builtin.«list.sort» ⟨[.ref a],[]⟩) P E s:=by
 rw[list_sort_plain]
 have ha:a < s.heap.objs.size:=lt_size ho
 refine wpAny_bind (listItems_at ho rfl ?_)
 refine wpAny_bind (listUpdate_at ho rfl ?_ (by rw[size_toArray,sizeLine_eq];omega) (zero_le _))
 obtain⟨e1,Eu⟩:∃ e1,(s.heap.update a (Obj.mapSeq fun _=>#[])).get? a=some (seqObj "list" #[] e1):=⟨_,get?_update_seq ho (fun _=>#[])⟩
 refine wpAny_bind (seqEpoch_at Eu rfl ?_)
 refine wpAny_bind (wpAny_newTuple ?_ (by show vs.length<=_;rw[sizeLine_eq];omega))
 refine wpAny_bind (wpAny_newList ?_ (zero_le _))
 refine wpAny_holding ?_
 have LX:(((s.heap.update a (Obj.mapSeq fun _=>#[])).push (seqObj "tuple" vs.toArray 0)).push (seqObj "list" #[] 0)).get? a=some (seqObj "list" #[] e1):=by
  rw[get?_push_ne _ _ _ (by rw[size_push',size_update];exact ne_of_lt (lt_succ_of_lt ha)),get?_push_ne _ _ _ (by rw[size_update];exact ne_of_lt ha)]
  exact Eu
 have kept:oP a s.heap (((s.heap.update a (Obj.mapSeq fun _=>(#[]:Array Value))).push (seqObj "tuple" vs.toArray 0)).push (seqObj "list" #[] 0)):=fun b o hb e=>by
  refine get?_push_of_some _ (get?_push_of_some _ ?_)
  rw[Heap.get?_update_ne _ _ _ _ hb]
  exact e
 show wpAny (model prog w) A _ P E { s with heap:=((s.heap.update a (Obj.mapSeq fun _=>#[])).push (seqObj "tuple" vs.toArray 0)).push (seqObj "list" #[] 0) }
 dsimp only
 have C7:¬ vs.toArray.size < 2:=by rw[size_toArray];omega
 rw[if_neg C7,if_neg C7]
 refine wpAny_bind (hk _ kept _ ?_)
 refine wpAny_bind (wpAny_mono (hr _ kept) ?_ fun _ _ e=>e)
 rintro ⟨⟨⟩,y6⟩ s' ⟨rfl,hp,hf⟩
 dsimp only at hp hf |-
 refine wpAny_bind (seqEpoch_at LX rfl ?_)
 rw[hp]
 refine wpAny_bind (listUpdate_at LX rfl ?_ (zero_le _) (by rw[hout,sizeLine_eq];omega))
 rw[hf]
 simp only[bne_self_eq_false,false_eq_true,if_false]
 exact wpAny_pure h
theorem rm{a:Addr}{vs:List Value}{n:Nat}{P:PySem.Fin->Shared->Prop}(ho:s.heap.get? a=some (seqObj "list" vs.toArray n))(h2:vs.length < 2)
  (h:P (.done (.ret .none)) { s with heap:=sortedHeap s.heap a vs vs.toArray }):wpAny (model prog w) A (Builtin.«list.sort» ⟨[.ref a],[]⟩) P E s:=by
 rw[list_sort_plain]
 have ha:a < s.heap.objs.size:=lt_size ho
 refine wpAny_bind (listItems_at ho rfl ?_)
 refine wpAny_bind (listUpdate_at ho rfl ?_ (by rw[size_toArray,sizeLine_eq];omega) (zero_le _))
 obtain⟨e1,Eu⟩:∃ e1,(s.heap.update a (Obj.mapSeq fun _=>#[])).get? a=some (seqObj "list" #[] e1):=⟨_,get?_update_seq ho (fun _=>#[])⟩
 refine wpAny_bind (seqEpoch_at Eu rfl ?_)
 refine wpAny_bind (wpAny_newTuple ?_ (by show vs.length<=_;rw[sizeLine_eq];omega))
 refine wpAny_bind (wpAny_newList ?_ (zero_le _))
 refine wpAny_holding ?_
 have LX:(((s.heap.update a (Obj.mapSeq fun _=>#[])).push (seqObj "tuple" vs.toArray 0)).push (seqObj "list" #[] 0)).get? a=some (seqObj "list" #[] e1):=by
  rw[get?_push_ne _ _ _ (by rw[size_push',size_update];exact ne_of_lt (lt_succ_of_lt ha)),get?_push_ne _ _ _ (by rw[size_update];exact ne_of_lt ha)]
  exact Eu
 show wpAny (model prog w) A _ P E { s with heap:=((s.heap.update a (Obj.mapSeq fun _=>#[])).push (seqObj "tuple" vs.toArray 0)).push (seqObj "list" #[] 0) }
 dsimp only
 have C7:vs.toArray.size < 2:=by rw[size_toArray];omega
 rw[if_pos C7,if_pos C7]
 refine wpAny_bind (wpAny_pure ?_)
 rw[StateT.run_pure]
 refine wpAny_bind (wpAny_pure ?_)
 dsimp only
 refine wpAny_bind (seqEpoch_at LX rfl ?_)
 have e:(vs.toArray.zip vs.toArray).map (·.2)=vs.toArray:=by
  apply Array.ext_getElem?
  intro i
  simp only[Array.getElem?_map,Array.getElem?_zip_eq_some]
  cases hi:vs.toArray[i]?<;>simp_all [Array.zip,Array.getElem?_zipWith]
 show wpAny (model prog w) A (Builtin.List.listUpdate (.ref a) (fun _=>(vs.toArray.zip vs.toArray).map (·.2)) >>= _) P E _
 rw[e]
 refine wpAny_bind (listUpdate_at LX rfl ?_ (zero_le _) (by rw[size_toArray,sizeLine_eq];omega))
 simp only[bne_self_eq_false,false_eq_true,if_false]
 exact wpAny_pure h
theorem yY{l:Addr}{vs:List Value}{Q:Value->Shared->Prop}{out:Array Value}(hl:s.heap.IsList l vs.toArray)(Gz:vs.length<=64)
  (hs:∀(A':Around)(s':Shared)(a:Addr)(P:PySem.Fin->Shared->Prop)(E':Value->Shared->Prop),A'.units<=A.units+2->s'.heap.get? a=some (seqObj "list" vs.toArray 0)->(∀ b o,s.heap.get? b=some o->b≠a/\s'.heap.get? b=some o)->P (.done (.ret .none)) { s' with heap:=sortedHeap s'.heap a vs out }->wpAny (model prog w) A' (Builtin.«list.sort» ⟨[.ref a],[]⟩) P E' s')
  (h:Q (.ref (s.heap.objs.size+1)) { s with heap:=sortedAll s.heap vs out }):wpAny (model prog w) A (call (.builtin "sorted") [.ref l]) Q E s:=by
 refine Calls.call_function_entry kind_sorted plain_sorted entry_sorted (args_sorted1 _) ?_
 unfold Builtin.«sorted»
 refine wpAny_bind (m:=checkCount "sorted" 1 1 _) (wpAny_pure ?_)
 refine wpAny_bind (collect_list hl ?_ (by rw[sizeLine_eq];omega))
 refine wpAny_bind (wpAny_newList ?_ (by rw[sizeLine_eq];omega))
 have hsz:((s.heap.push (seqObj "list" #[] 0)).update s.heap.objs.size (Obj.mapSeq (·++vs.toArray))).objs.size=s.heap.objs.size+1:=by
  rw[size_update,size_push']
 have MB:(((s.heap.push (seqObj "list" #[] 0)).update s.heap.objs.size (Obj.mapSeq (·++vs.toArray))).push (seqObj "list" vs.toArray 0)).get? (s.heap.objs.size+1)=some (seqObj "list" vs.toArray 0):=by
  rw[<- hsz];exact get?_push_size _ rfl
 have keep:∀ b o,s.heap.get? b=some o->b≠s.heap.objs.size+1/\(((s.heap.push (seqObj "list" #[] 0)).update s.heap.objs.size (Obj.mapSeq (·++vs.toArray))).push (seqObj "list" vs.toArray 0)).get? b=some o:=fun b o q=>by
  have hlt:b < s.heap.objs.size:=lt_size q
  refine⟨ne_of_lt (lt_succ_of_lt hlt),?_⟩
  rw[get?_push_ne _ _ _ (by rw[hsz];exact ne_of_lt (lt_succ_of_lt hlt)),Heap.get?_update_ne _ _ _ _ (ne_of_lt hlt),get?_push_ne _ _ _ (ne_of_lt hlt)]
  exact q
 show wpAny _ _ _ _ _ { s with heap:=((s.heap.push (seqObj "list" #[] 0)).update s.heap.objs.size (Obj.mapSeq (·++vs.toArray))).push (seqObj "list" vs.toArray 0) }
 rw[hsz]
 refine wpAny_bind (wpAny_holding (wpAny_call_entry slot_list_sort ⟨_,MB,rfl⟩ entry_list_sort (hs _ _ _ _ _ ?_ MB keep ⟨_,rfl,?_⟩) (args_list_sort _)))
 ·show _<=_
  simp only[Around.in1_units]
  omega
 ·exact wpAny_pure ⟨_,rfl,h⟩
end
end L2
namespace L2
open PySem PySem.Spec PyProof.Rows Srt
def dg(n:Nat):List Nat:=order.toList.filter fun i=>decide (i < n)
theorem oW{n i:Nat}(h:i∈dg n):i < n:=by
 unfold dg at h
 exact of_decide_eq_true (mem_filter.mp h).2
def oY(H:Hp)(vs:List V)(n:Nat):Prop:=vs.length=n/\∀ i,i < n->∃ t,vs[i]?=some (.ref t)/\H t=some (.tup ((sub i).map V.int))
theorem sr{vs:List V}{aN:List Value}(h:bc vs aN):∀(l:List Nat),(∀ i∈l,i < vs.length)->bc (l.map fun i=>vs.getD i .non) (l.map fun i=>aN.getD i .none)
 | [],_=>.nil
 | i::l,hl=>by
  have hi:=hl i mem_cons_self
  obtain⟨u,hu,ru⟩:=h.get (getElem?_eq_getElem hi)
  refine .cons ?_ (sr h l fun j hj=>hl j (mem_cons_of_mem _ hj))
  have e1:vs.getD i .non=vs[i]:=by simp[getD_eq_getElem?_getD,hi]
  have e2:aN.getD i .none=u:=by simp[getD_eq_getElem?_getD,hu]
  show RelV (vs.getD i .non) (aN.getD i .none)
  rw[e1,e2]
  exact ru
theorem oG:∀ m,m<=6->(dg (2 ^ m)).length=2 ^ m:=by decide +kernel
theorem Kb{aN:List Value}{n:Nat}(hn:aN.length=n):aN.toArray.zip aN.toArray=(range n).toArray.map fun i=>((aN.getD i Value.none,aN.getD i Value.none):Keyed):=by
 apply Array.toList_inj.mp
 subst hn
 apply ext_getElem?
 intro i
 simp only[Array.toList_zip,Array.toList_map,getElem?_map,List.getElem?_zip_eq_some]
 by_cases h:i < aN.length
 ·simp[List.zip,List.getElem?_zipWith,h,getD_eq_getElem?_getD]
 ·simp[List.zip,List.getElem?_zipWith,h]
section
variable {X:Cx}
def Ie:List V->Hp->VK->Prop:=fun xs H Q=>∃ p vs m,xs=[.ref p]/\H p=some (.lst vs)/\m<=6/\oY H vs (2 ^ m)/\∀ l,H l=none->Q (.ref l) (upd H l (.lst ((dg (2 ^ m)).map fun i=>vs.getD i .non)))
theorem G0{P:Program}{w:World}{A:Around}{E:Value->Shared->Prop}{s:Shared}{aN:List Value}{m:Nat}(h1:1<=m)(h6:m<=6)(hl:aN.length=2 ^ m)
  (h:jD P w A s (fun i=>(aN.getD i Value.none,aN.getD i Value.none)) cmp (2 ^ m)) :
  wpS (model P w) A E s sortRuns' (fun _ st=>(arrOf st).map (·.2)=((dg (2 ^ m)).map fun i=>aN.getD i Value.none).toArray/\failedOf st=none) (SortSt.mk' oneType' (aN.toArray.zip aN.toArray) #[] 7 none):=by
 rw[Kb hl]
 have fin:∀(o:Array Nat) (p:Array (Nat×Nat×Nat)),o.toList=dg (2 ^ m)->((arrOf (enc (fun i=>((aN.getD i Value.none,aN.getD i Value.none):Keyed)) (o,p,7))).map (·.2)=((dg (2 ^ m)).map fun i=>aN.getD i Value.none).toArray/\failedOf (enc (fun i=>((aN.getD i Value.none,aN.getD i Value.none):Keyed)) (o,p,7))=none):=fun o p e=>by
  refine⟨?_,rfl⟩
  show map (fun x:Keyed=>x.2) (map (fun i=>((aN.getD i Value.none,aN.getD i Value.none):Keyed)) o)=_
  rw[Array.map_map,<- e]
  apply Array.toList_inj.mp
  simp[Function.comp_def]
 have:m=1\/m=2\/m=3\/m=4\/m=5\/m=6:=by omega
 rcases this with rfl | rfl | rfl | rfl | rfl | rfl
 ·exact K8 h (fin o2 _ (by decide +kernel))
 ·exact Lo h (fin o4 _ (by decide +kernel))
 ·exact Le h (fin o8 _ (by decide +kernel))
 ·exact Hm h (fin o16 _ (by decide +kernel))
 ·exact GU h (fin o32 _ (by decide +kernel))
 ·exact GK h (fin order _ (by decide +kernel))
theorem xa(hu:X.A.units+64 < cLine):fJ X (.builtin "sorted") Ie:=by
 intro pins s σ H xs us Q I r h
 obtain⟨p,vs,m,rfl,hp,hm,⟨hlen,hS⟩,q⟩:=h
 obtain⟨u,rfl,rx⟩:=vals1 r
 cases rx
 obtain⟨aN,rv,pl,hz⟩:=I.list (SqL.of hp)
 have hil:aN.length=2 ^ m:=by rw[<- rv.length];exact hlen
 have Gz:2 ^ m<=64:=by
  have:m=0\/m=1\/m=2\/m=3\/m=4\/m=5\/m=6:=by omega
  rcases this with rfl | rfl | rfl | rfl | rfl | rfl | rfl<;>decide
 have tup:∀ i,i < 2 ^ m->∃(t:Addr)(us:List Value),aN[i]?=some (.ref t)/\IsTup s.heap t us.toArray/\IntsAre us (sub i):=fun i hi=>by
  obtain⟨t,et,ht⟩:=hS i hi
  obtain⟨v,ev,Q6⟩:=rv.get et
  cases Q6
  obtain⟨us,ru,pt,_⟩:=I.tuple (SqT.of ht)
  exact⟨t,us,ev,pt,fY ru⟩
 let ad:Nat->Addr:=fun i=>match aN[i]? with
  | some (.ref a)=>a
  | _=>0
 have had:∀ i,i < 2 ^ m->aN.getD i Value.none=.ref (ad i):=fun i hi=>by
  obtain⟨t,us,e,_⟩:=tup i hi
  show aN.getD i Value.none=.ref (match aN[i]? with | some (.ref a)=>a | _=>0)
  rw[e,getD_eq_getElem?_getD,e]
  rfl
 refine yY (out:=((dg (2 ^ m)).map fun i=>aN.getD i Value.none).toArray) pl.isList (by rw[hil];exact Gz) ?_ ?_
 ·intro A' s' a P E' Jl hL keep hP
  by_cases h0:m=0
  ·subst h0
   have e:((dg (2 ^ 0)).map fun i=>aN.getD i Value.none).toArray=aN.toArray:=by
    have e1:dg (2 ^ 0)=[0]:=by decide +kernel
    rw[e1]
    match aN,hil with
    | [x],_=>rfl
   rw[e] at hP
   exact rm hL (by rw[hil];decide) hP
  ·have h2:2<=2 ^ m:=by
    have:m=1\/m=2\/m=3\/m=4\/m=5\/m=6:=by omega
    rcases this with rfl | rfl | rfl | rfl | rfl | rfl<;>decide
   have on:∀ Ag:Shared,oP a s'.heap Ag.heap->∀ i,i < 2 ^ m->∃ us:List Value,IsTup Ag.heap (ad i) us.toArray/\IntsAre us (sub i):=fun Ag JM i hi=>by
    obtain⟨t,us,e,⟨o,ho,hc,hd⟩,iu⟩:=tup i hi
    have et:ad i=t:=by
     have:=had i hi
     rw[getD_eq_getElem?_getD,e] at this
     exact (Value.ref.inj this).symm
    obtain⟨n1,n2⟩:=keep _ _ ho
    exact⟨us,⟨o,by rw[et];exact JM _ _ n1 n2,hc,hd⟩,iu⟩
   refine uq hL (by rw[hil];exact h2) (by rw[hil];exact Gz) (by rw[size_toArray,length_map,oG m hm,hil]) ?_ ?_ hP
   ·intro Ag JM Q' q'
    match aN,hil,had with
    | [],hil,_=>exfalso;simp at hil;omega
    | v0::rest,hil,had =>
     refine Fi ?_ ?_ q'
     ·obtain⟨us,⟨o,ho,hc,n,hd⟩,iu⟩:=on Ag JM 0 (by omega)
      have e0:v0=.ref (ad 0):=had 0 (by omega)
      have e1:sub 0=[]:=by decide +kernel
      rw[e1] at iu
      cases iu
      exact⟨_,o,n,e0,ho,hc,hd⟩
     ·intro v hv
      obtain⟨i,hi,rfl⟩:=getElem_of_mem hv
      have jK:i+1 < 2 ^ m:=by rw[<- hil];simpa using hi
      obtain⟨us,⟨o,ho,hc,n,hd⟩,iu⟩:=on Ag JM (i+1) jK
      have e0:=had (i+1) jK
      have e1:(v0::rest).getD (i+1) Value.none=rest[i]:=by simp[getD_eq_getElem?_getD,hi]
      rw[e1] at e0
      exact⟨_,o,_,n,e0,ho,hc,hd⟩
   ·intro Ag JM
    exact G0 (by omega) hm hil (Av (by omega) ad had (on Ag JM))
 ·obtain⟨e,he⟩:=sortedAll_at s.heap aN ((dg (2 ^ m)).map fun i=>aN.getD i Value.none).toArray
  refine⟨.ref (s.heap.objs.size+1),_,I.laid (t':=s.toks) (fun b o e=>sortedAll_old e) (le_succ _) (show cM X.prog X.w _ _ _ (.lst ((dg (2 ^ m)).map fun i=>vs.getD i .non)) from ⟨?_,_,e,sr rv _ fun i hi=>by rw[hlen];exact oW hi,he⟩),rfl,q _ (I.hok.fresh (le_succ _))⟩
  rw[length_map,oG m hm]
  exact Nat.le_of_lt (ay (by omega))
end
end L2
namespace L2
open PySem PySem.Spec PyProof.Rows
section
variable {X:Cx}
def NM(te:TE)(ts:TO):TE:=fun σ H Q=>te σ H fun x H1=>ts σ H1 fun l H2=>l=some (-1)/\∃ a xs,x=.ref a/\H2 a=some (.lst xs)/\∀ p,H2 p=none->Q (.ref p) (upd H2 p (.lst xs.reverse))
def EF:V->List V->Hp->VK->Prop:=fun x vs H Q=>∃ l xs i y,x=.ref l/\vs=[.int i,y]/\H l=some (.lst xs)/\0<=i/\i<=xs.length/\xs.length < 1000/\Q .non (upd H l (.lst (xs.take i.toNat++y::xs.drop i.toNat)))
end
theorem Fe{te:TE}{ts:TO}{σ:St}{H:Hp}{Q:VK}:NM te ts σ H Q=te σ H fun x H1=>ts σ H1 fun l H2=>l=some (-1)/\∃ a xs,x=.ref a/\H2 a=some (.lst xs)/\∀ p,H2 p=none->Q (.ref p) (upd H2 p (.lst xs.reverse)):=propext Iff.rfl
theorem wJ{x:V}{vs:List V}{H:Hp}{Q:VK}:EF x vs H Q=∃ l xs i y,x=.ref l/\vs=[.int i,y]/\H l=some (.lst xs)/\0<=i/\i<=xs.length/\xs.length < 1000/\Q .non (upd H l (.lst (xs.take i.toNat++y::xs.drop i.toNat))):=propext Iff.rfl
end L2
namespace L2
open PySem
theorem BU{te:TE}{σ:St}{H:Hp}{K:Option Int->Hp->Prop}:AK te σ H K=te σ H fun x H1=>∃ i,x=.int i/\K (some i) H1:=propext Iff.rfl
theorem xI{σ:St}{H:Hp}{K:Option Int->Hp->Prop}:tw σ H K=K none H:=propext Iff.rfl
end L2
namespace Toy
open PySem L2
open PySem.Builtin.Int (intBits)
structure br(H:Hp)(B L:Addr):Prop where
 ex:∃ ns i r salt,H B=some (.lst [.ref L,.int i,.int r,.int salt])/\H L=some (.lst (List.map V.int ns))/\(0:Int)<=i
theorem br.new{H:Hp}{B L p:Addr}{o:HO}(b:br H B L)(hp:H p=none):br (upd H p o) B L:=by
 obtain⟨ns,i,r,salt,h1,h2,h3⟩:=b
 exact⟨ns,i,r,salt,by rw[ax (cj h1 hp)];exact h1,by rw[ax (cj h2 hp)];exact h2,h3⟩
theorem br.ne{H:Hp}{B L p:Addr}(b:br H B L)(hp:H p=none):p≠B:=fun e=>by
 obtain⟨_,_,_,_,z,_⟩:=b
 rw[<- e,hp] at z
 cases z
abbrev kg(n u:Int):Int:=n / (gcd n u:Int)
abbrev jI(n u:Int):Int:=u / (gcd n u:Int)
def fM(a b:Int×Int):Int×Int:=(kg (a.1*b.2+b.1*a.2) (a.2*b.2),jI (a.1*b.2+b.1*a.2) (a.2*b.2))
def bN(l:List (Int×Int)):Int×Int:=l.foldl fM (0,1)
theorem zi{l:List (Int×Int)}{i:Nat}(h:i < l.length):bN (l.take (i+1))=fM (bN (l.take i)) l[i]:=by
 unfold bN
 rw[take_succ_eq_append_getElem h,List.foldl_append]
 rfl
def lJ(r:Int)(p:Int×Int):Int:=r / (gcd r p.2:Int)*p.2
def bS(l:List (Int×Int)):Int:=l.foldl lJ 1
def dD(U:Int)(l:List (Int×Int)):List Int:=l.map fun p=>p.1*(U / p.2)
def OT(H:Hp)(xs:List V)(ps:List (Int×Int)):Prop:=xs.length=ps.length/\∀(i:Nat) p,ps[i]?=some p->∃ r,xs[i]?=some (.ref r)/\H r=some (.tup [.int p.1,.int p.2])/\0 < p.2/\Sz 100 p.1/\Sz 31 p.2
def pD(p:Int×Int):Dt:=.tup [.int p.1,.int p.2]
def TS(H H':Hp):Prop:=∀ b xs,H b=some (.tup xs)->H' b=some (.tup xs)
theorem TS.of{H H':Hp}(s:ak H H'):TS H H':=fun b xs h=>s b _ h
theorem TS.fr{H H':Hp}{B L:Addr}(b:br H B L)(f:Fr1 B H H'):TS H H':=fun c xs h=>f c _ (fun e=>by
 obtain⟨_,_,_,_,z,_⟩:=b
 rw[<- e,h] at z
 cases z) h
theorem TS.lst{H:Hp}{l:Addr}{xs:List V}{o:HO}(h:H l=some (.lst xs)):TS H (L2.upd H l o):=fun c ys hc=>by
 rw[ax (fun e=>by rw[e,h] at hc;cases hc)]
 exact hc
theorem br.put{H:Hp}{B L F:Addr}{o:HO}(b:br H B L)(nB:F≠B)(nL:F≠L):br (L2.upd H F o) B L:=by
 obtain⟨ns,i,r,salt,h1,h2,h3⟩:=b
 exact⟨ns,i,r,salt,by rw[ax nB.symm];exact h1,by rw[ax nL.symm];exact h2,h3⟩
theorem br.neL{H:Hp}{B L p:Addr}(b:br H B L)(hp:H p=none):p≠L:=fun e=>by
 obtain⟨_,_,_,_,_,z,_⟩:=b
 rw[<- e,hp] at z
 cases z
theorem br.keep{H H':Hp}{B L:Addr}(b:br H B L)(s:ak H H'):br H' B L:=by
 obtain⟨ns,i,r,salt,h1,h2,h3⟩:=b
 exact⟨ns,i,r,salt,s _ _ h1,s _ _ h2,h3⟩
theorem Fr1.of{H H':Hp}{B:Addr}(s:ak H H'):Fr1 B H H':=fun b o _ h=>s b o h
structure Cl where
 n:Int
 u:Int
 hp:List Int
 rk:Int
def tF(H:Hp)(v:V)(c:Cl):Prop:=∃ r p h,v=.ref r/\H r=some (.tup [.ref p,.ref h,.int c.rk])/\H p=some (.tup [.int c.n,.int c.u])/\H h=some (.tup (c.hp.map V.int))
theorem tF.ts{H H':Hp}{v:V}{c:Cl}(h:tF H v c)(s:TS H H'):tF H' v c:=by
 obtain⟨r,p,k,e,h1,h2,h3⟩:=h
 exact⟨r,p,k,e,s _ _ h1,s _ _ h2,s _ _ h3⟩
def ClsAt(H:Hp)(xs:List V)(cs:List Cl):Prop:=xs.length=cs.length/\∀(i:Nat) c,cs[i]?=some c->∃ v,xs[i]?=some v/\tF H v c
theorem ClsAt.ts{H H':Hp}{xs:List V}{cs:List Cl}(h:ClsAt H xs cs)(s:TS H H'):ClsAt H' xs cs:=⟨h.1,fun i c hc=>by
 obtain⟨v,e,h1⟩:=h.2 i c hc
 exact⟨v,e,h1.ts s⟩⟩
theorem ClsAt.nil{H:Hp}:ClsAt H [] []:=⟨rfl,fun i p h=>by simp at h⟩
theorem ClsAt.snoc{H:Hp}{xs:List V}{cs:List Cl}{v:V}{c:Cl}(h:ClsAt H xs cs)(hv:tF H v c):ClsAt H (xs++[v]) (cs++[c]):=by
 refine⟨by rw[length_append,length_append,h.1];rfl,fun i p hp=>?_⟩
 by_cases hi:i < cs.length
 ·rw[getElem?_append_left hi] at hp
  rw[getElem?_append_left (by rw[h.1];exact hi)]
  exact h.2 i p hp
 ·have hl:=(List.getElem?_eq_some_iff.mp hp).1
  rw[length_append] at hl
  have e:i=cs.length:=by
   have:([c]:List Cl).length=1:=rfl
   omega
  subst e
  rw[getElem?_append_right (le_refl _),sub_self] at hp
  cases hp
  exact⟨v,by rw[getElem?_append_right (by rw[h.1];exact le_refl _),h.1,sub_self];rfl,hv⟩
def cD(c:Cl):Dt:=.tup [.tup [.int c.n,.int c.u],.tup (c.hp.map Dt.int),.int c.rk]
theorem kM{H:Hp}:∀ hs:List Int,bM H (hs.map Dt.int) (hs.map V.int)
 | []=>by unfold List.map bM;rfl
 | x::hs=>by
  show bM H (Dt.int x::hs.map Dt.int) (V.int x::hs.map V.int)
  unfold bM
  exact⟨_,_,rfl,by unfold Den;rfl,kM hs⟩
theorem pO{H:Hp}{d:Dt}{ds:List Dt}{x:V}{xs:List V}(h:Den H d x)(h2:bM H ds xs):bM H (d::ds) (x::xs):=by
 unfold bM
 exact⟨_,_,rfl,h,h2⟩
theorem so{H:Hp}:bM H [] []:=by unfold bM;rfl
theorem oR{H:Hp}{a:Addr}{xs:List V}{ds:List Dt}(h:H a=some (.tup xs))(h2:bM H ds xs):Den H (.tup ds) (.ref a):=by unfold Den;exact⟨a,xs,rfl,h,h2⟩
theorem kO{H:Hp}{a:Addr}{xs:List V}{ds:List Dt}(h:H a=some (.lst xs))(h2:bM H ds xs):Den H (.lst ds) (.ref a):=by unfold Den;exact⟨a,xs,rfl,h,h2⟩
theorem EO{H:Hp}{i:Int}:Den H (.int i) (.int i):=by unfold Den;rfl
theorem tF.den{H:Hp}{v:V}{c:Cl}(h:tF H v c):Den H (cD c) v:=by
 obtain⟨r,p,k,rfl,h1,h2,h3⟩:=h
 exact oR h1 (pO (Ay h2) (pO (oR h3 (kM _)) (pO EO so)))
theorem ClsAt.BM{H:Hp}:∀{cs:List Cl}{xs:List V},ClsAt H xs cs->bM H (cs.map cD) xs
 | [],xs,h=>by
  have:xs=[]:=List.length_eq_zero_iff.mp h.1
  subst this
  exact so
 | c::cs,xs,h=>by
  obtain⟨v,e,hv⟩:=h.2 0 c rfl
  cases xs with
  | nil=>cases e
  | cons x xs =>
   cases e
   exact pO hv.den (ClsAt.BM (cs:=cs) ⟨by simpa using h.1,fun i c' hc=>by
    obtain⟨w,e,hw⟩:=h.2 (i+1) c' (by simpa using hc)
    exact⟨w,by simpa using e,hw⟩⟩)
theorem sJ{k:Nat}{ds:List Dt}(h:∀ d∈ds,Cmp k d d):Cmp (k+1) (.tup ds) (.tup ds):=by
 unfold Cmp
 intro j d e h1 h2
 rw[h1] at h2
 cases h2
 exact h d (mem_of_getElem? h1)
theorem yJ{k:Nat}{ds:List Dt}(h:∀ d∈ds,Cmp k d d):Cmp (k+1) (.lst ds) (.lst ds):=by
 unfold Cmp
 intro _ j d e h1 h2
 rw[h1] at h2
 cases h2
 exact h d (mem_of_getElem? h1)
theorem ym{k:Nat}{i:Int}:Cmp k (.int i) (.int i):=by unfold Cmp;trivial
theorem uQ{k:Nat}(hs:List Int):∀ d∈hs.map Dt.int,Cmp k d d:=fun d hd=>by
 obtain⟨x,_,rfl⟩:=mem_map.mp hd
 exact ym
theorem G1{k:Nat}(c:Cl):Cmp (k+2) (cD c) (cD c):=sJ fun d hd=>by
 simp only[mem_cons,not_mem_nil,or_false] at hd
 rcases hd with rfl | rfl | rfl
 ·exact GP _ _ _ _
 ·exact sJ (uQ _)
 ·exact ym
def lies(ts hs:List Int):Bool:=ts.all fun x=>decide (x∈hs)
def aZ(ws hs:List Int):Int:=(hs.map fun x=>ws.getD x.toNat 0).sum
def inside:List Cl->List (Int×Int)->List Int->List (Int×Int)
 | c::cs,p::ps,hs=>if lies c.hp hs=true then p::inside cs ps hs else inside cs ps hs
 | _,_,_=>[]
theorem kY:∀ hs:List Int,(hs.map V.int).all h7=true
 | []=>rfl
 | x::hs=>by
  show (h7 (.int x) && (hs.map V.int).all h7)=true
  rw[kY hs]
  rfl
theorem fS(x:Int):∀ hs:List Int,inV (.int x) (hs.map V.int)=decide (x∈hs)
 | []=>rfl
 | y::hs=>by
  show (eqV (.int y) (.int x) || inV (.int x) (hs.map V.int))=_
  rw[fS x hs]
  show ((y == x) || decide (x∈hs))=decide (x∈y::hs)
  rw[Bool.eq_iff_iff]
  simp only[or_eq_true,beq_iff_eq,decide_eq_true_eq,mem_cons]
  exact⟨fun h=>h.imp Eq.symm id,fun h=>h.imp Eq.symm id⟩
theorem bx{α β:Type}(f:α->β){l:List α}{i:Nat}(h:i < l.length):(l.take (i+1)).map f=(l.take i).map f++[f l[i]]:=by
 rw[take_succ_eq_append_getElem h,map_append]
 rfl
theorem int_at{ns:List Int}{i:Nat}{y:V}(h:(ns.map V.int)[i]?=some y):∃ hi:i < ns.length,y=.int ns[i]:=by
 rw[getElem?_map] at h
 cases e:ns[i]? with
 | none=>rw[e] at h;cases h
 | some k =>
  rw[e] at h
  obtain⟨hi,e2⟩:=List.getElem?_eq_some_iff.mp e
  exact⟨hi,by rw[e2];exact (Option.some.inj h).symm⟩
theorem pN{ws:List Int}{x:Int}(h0:0<=x)(h1:x < ws.length):atI (ws.map V.int) x=some (.int (ws.getD x.toNat 0)):=by
 have h2:x.toNat < ws.length:=by omega
 have e:x=((x.toNat:Nat):Int):=by omega
 rw[e]
 refine aQ ?_
 rw[getElem?_map,toNat_natCast,getD_eq_getElem?_getD]
 simp[h2]
def Mo(H:Hp)(xs:List V)(m:Int):Prop:=∀ v∈xs,∃(t:Addr)(hs:List Int),v=.ref t/\H t=some (.tup (hs.map V.int))/\(hs.length:Int)<=m/\∀ x∈hs,0<=x/\x < m
theorem vJ{g l:Int}(hl:0 < l):gcd l (g % l)=gcd g l:=by
 rw[Int.gcd_comm g l]
 have e:g=g % l+l*(g / l):=(Int.emod_add_mul_ediv g l).symm
 conv=>rhs;rw[e]
 rw[Int.gcd_add_mul_left_right]
theorem gS{n u:Int}(hu:0 < u):0 < (gcd n u:Int):=by
 have:0 < gcd n u:=Int.gcd_pos_of_ne_zero_right n (by omega)
 omega
theorem cO(a b:Int):(a / b).natAbs<=a.natAbs:=by
 by_cases h:0<=b
 ·have:=PySem.natAbs_fdiv_le a b
  rwa [Int.fdiv_eq_ediv_of_nonneg a h] at this
 ·have e:a / b=-(a / -b):=by rw[Int.ediv_neg,Int.neg_neg]
  rw[e,Int.natAbs_neg]
  have:=PySem.natAbs_fdiv_le a (-b)
  rwa [Int.fdiv_eq_ediv_of_nonneg a (by omega)] at this
theorem oK(n:Int){u:Int}(hu:0 < u):1<=u / (gcd n u:Int)/\gcd (n / (gcd n u:Int)) (u / (gcd n u:Int))=1/\n / (gcd n u:Int)*u=n*(u / (gcd n u:Int))/\0 < u / (gcd n u:Int):=by
 have hg:=gS (n:=n) hu
 have d1:(gcd n u:Int)∣n:=Int.gcd_dvd_left n u
 have d2:(gcd n u:Int)∣u:=Int.gcd_dvd_right n u
 have e1:=ediv_mul_cancel d1
 have e2:=ediv_mul_cancel d2
 have p:0 < u / (gcd n u:Int):=by
  by_cases h:0 < u / (gcd n u:Int)
  ·exact h
  ·have:u / (gcd n u:Int)*(gcd n u:Int)<=0:=mul_nonpos_of_nonpos_of_nonneg (by omega) (by omega)
   omega
 refine⟨p,Int.gcd_ediv_gcd_ediv_gcd (by omega),?_,p⟩
 generalize n / (gcd n u:Int)=a at e1
 generalize u / (gcd n u:Int)=b at e2
 generalize (gcd n u:Int)=g at e1 e2
 rw[<- e1,<- e2]
 rw[mul_comm b g,mul_assoc]
theorem HS{a b n u:Int}(hb:0 < b)(hu:0 < u)(hc:gcd n u=1)(h:a*u=n*b):kg a b=n/\jI a b=u:=by
 have hg:=gS (n:=a) hb
 have d1:(gcd a b:Int)∣a:=Int.gcd_dvd_left a b
 have d2:(gcd a b:Int)∣b:=Int.gcd_dvd_right a b
 have e1:=ediv_mul_cancel d1
 have e2:=ediv_mul_cancel d2
 have uO:gcd (a / (gcd a b:Int)) (b / (gcd a b:Int))=1:=Int.gcd_ediv_gcd_ediv_gcd (by omega)
 show a / (gcd a b:Int)=n/\b / (gcd a b:Int)=u
 generalize a / (gcd a b:Int)=A at e1 uO |-
 generalize b / (gcd a b:Int)=B at e2 uO |-
 generalize (gcd a b:Int)=g at e1 e2 hg
 have k:A*u=n*B:=by
  have:g*(A*u)=g*(n*B):=by
   rw[<- e1,<- e2] at h
   rw[Int.mul_left_comm g A u,Int.mul_left_comm g n B,<- mul_assoc,<- mul_assoc]
   rw[mul_assoc A g u,mul_comm B g] at h
   rw[mul_assoc A g u,mul_assoc n g B]
   exact h
  exact Int.eq_of_mul_eq_mul_left (by omega) this
 have hB:0 < B:=by
  by_cases q:0 < B
  ·exact q
  ·have:B*g<=0:=mul_nonpos_of_nonpos_of_nonneg (by omega) (by omega)
   omega
 have c1:Coprime u.natAbs n.natAbs:=by
  rw[Int.gcd_eq_natAbs_gcd_natAbs] at hc
  exact Coprime.symm hc
 have c2:Coprime B.natAbs A.natAbs:=by
  rw[Int.gcd_eq_natAbs_gcd_natAbs] at uO
  exact Coprime.symm uO
 have v1:u.natAbs∣B.natAbs:=c1.dvd_of_dvd_mul_left (by
  rw[<- natAbs_mul,Int.natAbs_dvd_natAbs,<- k]
  exact Int.dvd_mul_left A u)
 have v2:B.natAbs∣u.natAbs:=c2.dvd_of_dvd_mul_left (by
  rw[<- natAbs_mul,Int.natAbs_dvd_natAbs,k]
  exact Int.dvd_mul_left n B)
 have e:u=B:=by
  have:=Nat.dvd_antisymm v1 v2
  omega
 subst e
 exact⟨eq_of_mul_eq_mul_right (by omega) k,rfl⟩
theorem qd{a b:Int}(ha:0 < a)(hb:0 < b):0 < a*b:=mul_pos ha hb
theorem NA{k:Nat}(n:Int){u:Int}(hu:0 < u)(hz:Sz k u):Sz k (gcd n u:Int):=hz.le (by have:=Int.gcd_le_natAbs_right n (b:=u) (by omega);omega)
theorem zA{l:List (Int×Int)}{i:Nat}(h:i < l.length):bS (l.take (i+1))=lJ (bS (l.take i)) l[i]:=by
 unfold bS
 rw[take_succ_eq_append_getElem h,List.foldl_append]
 rfl
theorem yB{r:Int}{p:Int×Int}(hr:0 < r)(hu:0 < p.2):0 < lJ r p/\r∣lJ r p/\p.2∣lJ r p:=by
 have hg:=gS (n:=r) hu
 have e1:=ediv_mul_cancel (Int.gcd_dvd_left r p.2)
 have e2:=ediv_mul_cancel (Int.gcd_dvd_right r p.2)
 have p1:0 < r / (gcd r p.2:Int):=by
  by_cases h:0 < r / (gcd r p.2:Int)
  ·exact h
  ·have:r / (gcd r p.2:Int)*(gcd r p.2:Int)<=0:=mul_nonpos_of_nonpos_of_nonneg (by omega) (by omega)
   omega
 refine⟨mul_pos p1 hu,⟨p.2 / (gcd r p.2:Int),?_⟩,Int.dvd_mul_left _ _⟩
 show r / (gcd r p.2:Int)*p.2=r*(p.2 / (gcd r p.2:Int))
 generalize r / (gcd r p.2:Int)=A at e1 |-
 generalize p.2 / (gcd r p.2:Int)=C at e2 |-
 generalize (gcd r p.2:Int)=g at e1 e2
 grind
theorem u4:∀ (l:List (Int×Int)) (r:Int),0 < r->(∀ p∈l,0 < p.2)->0 < l.foldl lJ r/\r∣l.foldl lJ r/\∀ p∈l,p.2∣l.foldl lJ r
 | [],r,h,_=>⟨h,dvd_refl r,fun _ z=>nomatch z⟩
 | p::l,r,h,hp=>by
  obtain⟨a,b,c⟩:=yB h (hp p mem_cons_self)
  obtain⟨x,y,z⟩:=u4 l (lJ r p) a fun q hq=>hp q (mem_cons_of_mem _ hq)
  exact⟨x,dvd_trans b y,fun q hq=>(mem_cons.mp hq).elim (fun e=>by rw[e];exact dvd_trans c y) (z q)⟩
def hp(m:Int):Int->List Int->Bool
 | _,[]=>true
 | l,x::r=>if x<=l\/m<=x then false else hp m x r
theorem xY:∀ p,p < 6->∀ j,j < 2 ^ p->Srt.sub (2 ^ p+j)=Srt.sub j++[Int.ofNat p]:=by decide +kernel
def vG(H:Hp)(xs:List V)(n:Nat):Prop:=∃ ts:Nat->Addr,xs=(dg n).map (fun i=>V.ref (ts i))/\∀ i,i < n->H (ts i)=some (.tup ((Srt.sub i).map V.int))
theorem vG.ts{H H':Hp}{xs:List V}{n:Nat}(h:vG H xs n)(s:TS H H'):vG H' xs n:=by
 obtain⟨f,e,h1⟩:=h
 exact⟨f,e,fun i hi=>s _ _ (h1 i hi)⟩
theorem AR{H:Hp}{xs:List V}{n:Nat}(h:oY H xs n):vG H ((dg n).map fun i=>xs.getD i .non) n:=by
 refine⟨fun i=>match xs[i]? with | some (.ref t)=>t | _=>0,map_congr_left fun i hi=>?_,fun i hi=>?_⟩
 ·obtain⟨t,e,_⟩:=h.2 i (oW hi)
  show xs.getD i .non=V.ref (match xs[i]? with | some (.ref t)=>t | _=>0)
  rw[getD_eq_getElem?_getD,e]
  rfl
 ·obtain⟨t,e,h1⟩:=h.2 i hi
  show H (match xs[i]? with | some (.ref t)=>t | _=>0)=_
  rw[e]
  exact h1
def oD(n:Nat):List Dt:=(dg n).map fun i=>.tup ((Srt.sub i).map Dt.int)
theorem mH{ta tb:L2.TS}{D:Ends}{σ:St}{H:Hp}(W:St->Hp->Prop)(h2:∀ σ' H',W σ' H'->tb D σ' H')(h1:∀ uM:L2.TS,(∀ σ' H',W σ' H'->uM D σ' H')->gP ta uM D σ H):gP ta tb D σ H:=h1 tb h2
theorem u7{t1 t2 tb:L2.TS}{D:Ends}{σ:St}{H:Hp}(W:St->Hp->Prop)(h2:∀ σ' H',W σ' H'->tb D σ' H')(h1:∀ uM:L2.TS,(∀ σ' H',W σ' H'->uM D σ' H')->(gP t1 (gP t2 uM)) D σ H):(gP t1 (gP t2 tb)) D σ H:=h1 tb h2
theorem BD{t1 t2 t3 t4 t5 t6 tb:L2.TS}{D:Ends}{σ:St}{H:Hp}(W:St->Hp->Prop)(h2:∀ σ' H',W σ' H'->tb D σ' H')(h1:∀ uM:L2.TS,(∀ σ' H',W σ' H'->uM D σ' H')->(gP t1 (gP t2 (gP t3 (gP t4 (gP t5 (gP t6 uM)))))) D σ H):(gP t1 (gP t2 (gP t3 (gP t4 (gP t5 (gP t6 tb)))))) D σ H:=h1 tb h2
theorem sX{k:Nat}:∀(l:List Int),(∀ x∈l,Sz k x)->Sz (k+l.length) l.sum
 | [],_=>by
  refine Sz.of ?_
  show (0:Int).natAbs < 2 ^ (k+0)
  exact Nat.two_pow_pos _
 | x::l,h=>by
  have h1:=sX l fun y hy=>h y (mem_cons_of_mem _ hy)
  have h2:=h x mem_cons_self
  have e:(x::l).sum=x+l.sum:=rfl
  rw[e]
  exact Sz.mono (Sz.add (k:=k+l.length) (h2.mono (by omega)) h1) (by simp only[length_cons];omega)
theorem qA{k:Nat}{ws hs:List Int}(h:∀ x∈ws,Sz k x)(hl:hs.length<=6):Sz (k+6) (aZ ws hs):=by
 unfold aZ
 refine Sz.mono (sX (k:=k) _ fun y hy=>?_) (by rw[length_map];omega)
 obtain⟨i,_,rfl⟩:=mem_map.mp hy
 rw[getD_eq_getElem?_getD]
 cases e:ws[i.toNat]? with
 | none=>exact Sz.of (Nat.two_pow_pos _)
 | some v=>exact h v (mem_of_getElem? e)
def RT(H:Hp)(v:V):Option Nat->Prop
 | none=>v=.non
 | some i=>∃ t,v=.ref t/\H t=some (.tup ((Srt.sub i).map V.int))
theorem vX:∀ m:Nat,m<=6->∀ i,i < 2 ^ m->∀ x∈Srt.sub i,0<=x/\x < (m:Int):=by decide +kernel
theorem sub_len(i:Nat):(Srt.sub i).length<=6:=by
 unfold Srt.sub
 rw[length_map]
 exact le_trans (length_filter_le _ _) (by rw[length_range];exact le_refl _)
theorem Bu{k:Nat}(h:k<=6):2 ^ k<=64:=by
 have:k=0\/k=1\/k=2\/k=3\/k=4\/k=5\/k=6:=by omega
 rcases this with rfl | rfl | rfl | rfl | rfl | rfl | rfl<;>decide
theorem eW{K:PySem.W.Frag}{a:Addr}{xs:List V}{g:TG}{tb:L2.TS}{D:Ends}{σ:St}{H:Hp}(Pv:Nat->St->Hp->Prop)(h0:Pv 0 σ H)(hl:∀ i σ H,i<=xs.length->Pv i σ H->SqL K H a xs)
  (hs:∀ i x σ H (N B:St->Hp->Prop),xs[i]?=some x->Pv i σ H->(∀ σ' H',Pv (i+1) σ' H'->N σ' H')->(∀ σ' H',D.nx σ' H'->B σ' H')->g x σ H fun σ2 H2=>tb { nx:=N,rt:=D.rt,bk:=B,ct:=N } σ2 H2) (hd:∀ σ H,Pv xs.length σ H->D.nx σ H) :
  ∃ W:Nat->Nat->St->Hp->Prop,(∃ m,W 0 m σ H)/\∀ i m σ H,W i m σ H ->
   ((Itl K a).stop i H/\D.nx σ H)\/((Itl K a).go i H/\∃ N:St->Hp->Prop,(∀ σ' H',N σ' H'->∃ m',m' < m/\W (i+1) m' σ' H')/\∀ x H',(Itl K a).yld i H x H'->g x σ H' fun σ2 H2=>tb { D with nx:=N,ct:=N,bk:=D.nx } σ2 H2) :=
 jE Pv h0 hl (fun i x σ H hx hp=>hs i x σ H (Pv (i+1)) D.nx hx hp (fun _ _ h=>h) fun _ _ h=>h) hd
theorem Cp{K:PySem.W.Frag}{a:Addr}{xs:List V}{g:TG}{tb:L2.TS}{D:Ends}{σ:St}{H:Hp}(Pv:Nat->St->Hp->Prop)(h0:Pv 0 σ H)(hl:∀ i σ H,i<=xs.length->Pv i σ H->SqT K H a xs)
  (hs:∀ i x σ H (N B:St->Hp->Prop),xs[i]?=some x->Pv i σ H->(∀ σ' H',Pv (i+1) σ' H'->N σ' H')->(∀ σ' H',D.nx σ' H'->B σ' H')->g x σ H fun σ2 H2=>tb { nx:=N,rt:=D.rt,bk:=B,ct:=N } σ2 H2) (hd:∀ σ H,Pv xs.length σ H->D.nx σ H) :
  ∃ W:Nat->Nat->St->Hp->Prop,(∃ m,W 0 m σ H)/\∀ i m σ H,W i m σ H ->
   ((Itt K a).stop i H/\D.nx σ H)\/((Itt K a).go i H/\∃ N:St->Hp->Prop,(∀ σ' H',N σ' H'->∃ m',m' < m/\W (i+1) m' σ' H')/\∀ x H',(Itt K a).yld i H x H'->g x σ H' fun σ2 H2=>tb { D with nx:=N,ct:=N,bk:=D.nx } σ2 H2) :=
 DK Pv h0 hl (fun i x σ H hx hp=>hs i x σ H (Pv (i+1)) D.nx hx hp (fun _ _ h=>h) fun _ _ h=>h) hd
theorem fo{lo:Int}{n:Nat}{g:TG}{tb:L2.TS}{D:Ends}{σ:St}{H:Hp}(Pv:Nat->St->Hp->Prop)(h0:Pv 0 σ H)
  (hs:∀ i σ H (N B:St->Hp->Prop),i < n->Pv i σ H->(∀ σ' H',Pv (i+1) σ' H'->N σ' H')->(∀ σ' H',D.nx σ' H'->B σ' H')->g (.int (lo+i)) σ H fun σ2 H2=>tb { nx:=N,rt:=D.rt,bk:=B,ct:=N } σ2 H2) (hd:∀ σ H,Pv n σ H->D.nx σ H) :
  ∃ W:Nat->Nat->St->Hp->Prop,(∃ m,W 0 m σ H)/\∀ i m σ H,W i m σ H ->
   ((Itr lo n).stop i H/\D.nx σ H)\/((Itr lo n).go i H/\∃ N:St->Hp->Prop,(∀ σ' H',N σ' H'->∃ m',m' < m/\W (i+1) m' σ' H')/\∀ x H',(Itr lo n).yld i H x H'->g x σ H' fun σ2 H2=>tb { D with nx:=N,ct:=N,bk:=D.nx } σ2 H2) :=
 nv Pv h0 (fun i σ H hi hp=>hs i σ H (Pv (i+1)) D.nx hi hp (fun _ _ h=>h) fun _ _ h=>h) hd
theorem Hy{c:TT}{t u:L2.TS}{D:Ends}{σ:St}{H:Hp}(W:Hp->Prop)(hu:∀ H',W H'->u D σ H')(h:∀ u':L2.TS,(∀ H',W H'->u' D σ H')->y_ c t u' D σ H):y_ c t u D σ H:=h u hu
theorem iG{X:Cx}{K:PySem.W.Frag}(hK:X.K=K){o e:Expr}{es:List Expr}{to:TE}{t:TA}{name:Str}{apos cpos:Pos}{T id:String}{r:V->List V->Hp->VK->Prop}(pa:PlainAttrs T)(slot:PySem.Slot T name id)(hty:typeOf (.builtin id)=pure (.type "method_descriptor"))(hm:MtR X id r)(ho:QE X o to)(ha:QA X (e::es) t)
  (hbase:attributeBase o name X.env (eval o X.env)=eval o X.env:=by rfl)
  (hfew:((backTo cpos (starEach (e::es) X.env)).all (fun x=>!x.1) && (backToKw cpos (keywordEach [] X.env)).all (fun x=>x.1.isSome)
   && decide ((e::es).length+([]:List Keyword).length+(if ([]:List Keyword).isEmpty then 0 else 1) < 30))=true:=by rfl)
  (hline:(apos.endLine == cpos.line)=true:=by rfl) (hs:starEach (e::es) X.env=(false,eval e X.env)::starEach es X.env:=by rfl) (hplain:(backTo cpos (starEach es X.env)).any (·.1)=false:=by rfl) :
  QE X (.Call (.Attribute o name apos) (e::es) [] cpos) (tBM K T r to t):=hK▸Kt pa slot hty hm ho ha hbase hfew hline hs hplain
theorem kD{X:Cx}{K:PySem.W.Frag}(hK:X.K=K){a:Expr}{t:TA}{elts:List Expr}{k:Nat}{tp p pos:Pos}(hg:Gl X "enumerate")(hm:X.mg "enumerate" = none)(ha:QA X [a] t)(hs:starEach [a] X.env=[(false,eval a X.env)]:=by rfl) :
  QI X (.Tuple elts k tp) (.Call (.Name "enumerate" p) [a] [] pos) (B4 K t):=hK▸Fm hg hm ha hs
end Toy
namespace L2
open PySem
section
variable {σ:St}{H:Hp}{Q:VK}{D:Ends}{te ta tb:TE}{t u:TS}{c c':TT}{tr:TA}{QT:Bool->Hp->Prop}{QA:List V->Hp->Prop}{x y:V}{xs:List V}{v:V}{i j:Int}{p:Addr}
theorem JH(h:t { D with nx:=u D } σ H):gP t u D σ H:=h
theorem Hh(h:c σ H fun b H1=>Brk b (t D σ H1) (u D σ H1) .mk .mk):y_ c t u D σ H:=h
theorem bZ(h:D.nx σ H):yi D σ H:=h
theorem Fz(h:te σ H fun _ H1=>D.nx σ H1):yz te D σ H:=h
theorem Ik(h:te σ H D.rt):EZ te D σ H:=h
theorem IW{g:TG}(h:te σ H fun x H1=>g x σ H1 D.nx):oy te g D σ H:=h
theorem ba{k:Nat}{R:St->Hp->Prop}(h:R (σ.set k (some v)) H):eS k v σ H R:=h
theorem I_{to ti:TE}{ts:qB}{R:St->Hp->Prop}(h:to σ H fun o H1=>ti σ H1 fun i H2=>ts o i v H2 fun H3=>R σ H3):Dk to ti ts v σ H R:=h
theorem EI{to ti:TE}{tg:V->V->Hp->VK->Prop}{tp:TIp}{ts:qB}(h:to σ H fun o H1=>ti σ H1 fun i H2=>tg o i H2 fun x H3=>te σ H3 fun y H4=>tp x y H4 fun z H5=>ts o i z H5 fun H6=>D.nx σ H6):yg to ti te tg tp ts D σ H:=h
theorem Ho{k:Nat}(e:σ[k]?=some (some v))(h:Q v H):Cq k σ H Q:=⟨v,e,h⟩
theorem Nj(h:Q v H):tC v σ H Q:=h
theorem M7(h:te σ H fun x H1=>∃ c,x=.bl c/\QT c H1):tB te σ H QT:=h
theorem Dl(h:te σ H fun x H1=>∃ c,x=.bl c/\QT c H1):xO te σ H QT:=h
theorem L4{b:Bool}{P:Bool->Prop}(h:P b):∃ c,V.bl b=V.bl c/\P c:=⟨b,rfl,h⟩
theorem L8{r:R2}(h:ta σ H fun x H1=>tb σ H1 fun y H2=>r x y H2 Q):tOp r ta tb σ H Q:=h
theorem KL{r:V->Hp->VK->Prop}(h:ta σ H fun x H1=>r x H1 Q):tUn r ta σ H Q:=h
theorem Ky{r:List V->Hp->VK->Prop}(h:tr σ H fun vs H1=>r vs H1 Q):tCB r tr σ H Q:=h
theorem Jq(h:QA [] H):xt σ H QA:=h
theorem Fw(h:ta σ H fun x H1=>tr σ H1 fun xs H2=>QA (x::xs) H2):k_ ta tr σ H QA:=h
theorem Hb(h:c σ H fun b H1=>QT (!b) H1):DQ c σ H QT:=h
theorem Jh(h:c σ H fun b H1=>Brk b (c' σ H1 QT) (QT false H1) .mk .mk):FJ c c' σ H QT:=h
theorem Kw(h:c σ H fun b H1=>Brk b (QT true H1) (c' σ H1 QT) .mk .mk):tOr c c' σ H QT:=h
theorem Nx{sp:Sp}{E:XK}(h:tr σ H fun vs H1=>sp vs H1 Q E):tD sp E tr σ H Q:=h
theorem Kp{g:Int->Int->V}(h:Q (g i j) H):rI0 g (.int i) (.int j) H Q:=⟨i,j,rfl,rfl,h⟩
theorem MX{C:Int->Int->Prop}{g:Int->Int->V}(hc:C i j)(h:Q (g i j) H):rI C g (.int i) (.int j) H Q:=⟨i,j,rfl,rfl,hc,h⟩
theorem MT{g:Int->V}(h:Q (g i) H):rU g (.int i) H Q:=⟨i,rfl,h⟩
theorem vv(hp:H p=some (.lst xs))(e:atI xs i=some v)(h:Q v H):AD (.ref p) (.int i) H Q:=⟨p,xs,i,v,rfl,rfl,aP hp,e,h⟩
theorem sA(hp:H p=some (.tup xs))(e:atI xs i=some v)(h:Q v H):AD (.ref p) (.int i) H Q:=⟨p,xs,i,v,rfl,rfl,dZ hp,e,h⟩
theorem HP(hp:H p=some (.lst xs))(h:Q (.int xs.length) H):Bz [.ref p] H Q:=⟨p,xs,rfl,aP hp,h⟩
theorem qm(hp:H p=some (.lst xs))(h0:0<=i)(e:atI xs i=some v)(h:Q v H):AS (.ref p) (.int i) H Q:=⟨p,xs,i,v,rfl,rfl,hp,h0,e,h⟩
theorem Ka{f:Int->Int->Int}(h:Q (.int (f i j)) H):ipI f (.int i) (.int j) H Q:=⟨i,j,rfl,rfl,h⟩
end
section
variable {σ:St}{H:Hp}{Q:VK}{D:Ends}{tr:TA}{xs:List V}{A B:Prop}{k:Tg A}{l:Tg B}{q:Prop}[Decidable q]
theorem xg(h:A):Brk true A B k l:=brk (fun _=>h) (fun z=>by cases z)
theorem tJ(h:B):Brk false A B k l:=brk (fun z=>by cases z) (fun _=>h)
theorem ID(hq:q)(h:A):Brk (decide q) A B k l:=gO (fun _=>h) (fun z=>absurd hq z)
theorem wW(hq:¬ q)(h:B):Brk (decide q) A B k l:=gO (fun z=>absurd z hq) (fun _=>h)
end
end L2
namespace Toy
open PySem L2
open PySem.Builtin.Int (intBits)
def num(U:Int)(p:Int×Int):Int:=p.1*(U / p.2)
structure Ok(U:Int)(p:Int×Int):Prop where
 pos:0 < p.2
 dvd:p.2∣U
 cop:gcd p.1 p.2=1
def low(n u:Int):Int×Int:=(kg n u,jI n u)
theorem gg{n u:Int}(hu:0 < u):0 < (low n u).2:=(oK n hu).1
theorem kU{n u:Int}(hu:0 < u):gcd (low n u).1 (low n u).2=1:=(oK n hu).2.1
theorem jH{n u:Int}(hu:0 < u):(low n u).1*u=n*(low n u).2:=(oK n hu).2.2.1
theorem FV{n u:Int}:(low n u).2∣u:=⟨(gcd n u:Int),(ediv_mul_cancel (Int.gcd_dvd_right n u)).symm⟩
theorem iX{a b:Int}{p:Int×Int}(hb:0 < b)(hp:0 < p.2)(hc:gcd p.1 p.2=1)(h:a*p.2=p.1*b):low a b=p:=by
 obtain⟨e1,e2⟩:=HS hb hp hc h
 exact Prod.ext e1 e2
theorem pH{a b c d:Int}(hb:0 < b)(hd:0 < d)(h:a*d=c*b):low a b=low c d:=by
 refine iX hb (gg hd) (kU hd) ?_
 have x:=jH (n:=c) hd
 generalize low c d=q at x |-
 refine eq_of_mul_eq_mul_right (a:=d) (by omega) ?_
 grind
theorem qq{n U:Int}(hU:0 < U):Ok U (low n U):=⟨gg hU,FV,kU hU⟩
theorem num_mul{U:Int}{p:Int×Int}(h:Ok U p):num U p*p.2=p.1*U:=by
 unfold num
 rw[mul_assoc,ediv_mul_cancel h.dvd]
theorem wO{U N:Int}{p:Int×Int}(h:Ok U p)(e:N*p.2=p.1*U):num U p=N:=by
 have:=num_mul h
 have hp:=h.pos
 refine eq_of_mul_eq_mul_right (a:=p.2) (by omega) ?_
 omega
theorem oJ{n U:Int}(hU:0 < U):num U (low n U)=n:=wO (qq hU) (jH hU).symm
theorem yj{U:Int}{p:Int×Int}(hU:0 < U)(h:Ok U p):low (num U p) U=p:=iX hU h.pos h.cop (num_mul h)
theorem tP{U:Int}{p q:Int×Int}(hU:0 < U)(hp:Ok U p)(hq:Ok U q)(h:num U p=num U q):p=q:=by
 rw[<- yj hU hp,h,yj hU hq]
theorem Ok.low{n u U:Int}(hu:0 < u)(h:u∣U):Ok U (Toy.low n u):=⟨gg hu,dvd_trans FV h,kU hu⟩
theorem Ok.up{U V:Int}{p:Int×Int}(h:Ok U p)(d:U∣V):Ok V p:=⟨h.pos,dvd_trans h.dvd d,h.cop⟩
theorem jy{U V:Int}{p:Int×Int}(hU:0 < U)(h:Ok U p)(d:U∣V):num V p=num U p*(V / U):=by
 refine wO (h.up d) ?_
 have:=num_mul h
 have e:=ediv_mul_cancel d
 generalize V / U=k at e |-
 rw[<- e]
 grind
theorem A4(a b:Int×Int):fM a b=low (a.1*b.2+b.1*a.2) (a.2*b.2):=rfl
theorem Cu{U:Int}(hU:0 < U){a b:Int×Int}(ha:Ok U a)(hb:Ok U b):fM a b=low (num U a+num U b) U:=by
 rw[A4]
 refine pH (mul_pos ha.pos hb.pos) hU ?_
 have:=num_mul ha
 have:=num_mul hb
 grind
theorem kZ{U:Int}:Ok U (0,1):=⟨by decide,Int.one_dvd U,by decide⟩
theorem BK{U w:Int}:Ok U (w,1):=⟨by show (0:Int) < 1;decide,Int.one_dvd U,Int.gcd_one_right w⟩
theorem sQ{U w:Int}:num U (w,1)=w*U:=by unfold num;show w*(U / 1)=_;rw[Int.ediv_one]
theorem u6{U:Int}(hU:0 < U):∀ (l:List (Int×Int)) (s:Int×Int),Ok U s->(∀ p∈l,Ok U p)->Ok U (l.foldl fM s)/\num U (l.foldl fM s)=num U s+(l.map (num U)).sum
 | [],s,h,_=>⟨h,by show _=num U s+0;rw[add_zero];rfl⟩
 | p::l,s,h,hl=>by
  have hp:=hl p mem_cons_self
  have e:=Cu hU h hp
  have h1:Ok U (fM s p):=by rw[e];exact qq hU
  obtain⟨a,b⟩:=u6 hU l (fM s p) h1 fun q hq=>hl q (mem_cons_of_mem _ hq)
  refine⟨a,?_⟩
  have e2:num U (fM s p)=num U s+num U p:=by rw[e,oJ hU]
  show num U (l.foldl fM (fM s p))=_
  rw[b,e2]
  show _=num U s+(num U p+(l.map (num U)).sum)
  rw[Int.add_assoc]
theorem nD{U:Int}(hU:0 < U){l:List (Int×Int)}(hl:∀ p∈l,Ok U p):Ok U (bN l)/\num U (bN l)=(l.map (num U)).sum:=by
 obtain⟨a,b⟩:=u6 hU l (0,1) kZ hl
 refine⟨a,b.trans ?_⟩
 have:num U (0,1)=0:=by unfold num;exact zero_mul _
 rw[this,zero_add]
theorem lt_num{U:Int}(hU:0 < U){p q:Int×Int}(hp:Ok U p)(hq:Ok U q):p.1*q.2 < q.1*p.2↔num U p < num U q:=by
 have e1:=num_mul hp
 have e2:=num_mul hq
 have p1:=hp.pos
 have p2:=hq.pos
 have pp:=mul_pos p1 p2
 generalize num U p=A at e1 |-
 generalize num U q=B at e2 |-
 have k1:p.1*q.2*U=A*(p.2*q.2):=by grind
 have k2:q.1*p.2*U=B*(p.2*q.2):=by grind
 constructor
 ·intro h
  have:=Int.mul_lt_mul_of_pos_right h hU
  rw[k1,k2] at this
  exact Int.lt_of_mul_lt_mul_right this (by omega)
 ·intro h
  have:=Int.mul_lt_mul_of_pos_right h pp
  rw[<- k1,<- k2] at this
  exact Int.lt_of_mul_lt_mul_right this (by omega)
structure UOk(U:Int):Prop where
 pos:0 < U
 sz:Sz 4000 U
structure dS(U:Int)(k:Nat)(p:Int×Int):Prop extends Ok U p where
 sz:Sz k (num U p)
theorem cC{a b:Int}(h:a∣b)(hb:0 < b):a.natAbs<=b.natAbs:=Nat.le_of_dvd (by omega) (Int.natAbs_dvd_natAbs.mpr h)
theorem Ok.usz{U:Int}{p:Int×Int}(u:UOk U)(h:Ok U p):Sz 4000 p.2:=u.sz.le (cC h.dvd u.pos)
theorem Ok.nle{U:Int}{p:Int×Int}(hU:0 < U)(h:Ok U p):p.1.natAbs<=(num U p).natAbs:=by
 unfold num
 rw[natAbs_mul]
 have hd:0 < U / p.2:=by
  by_cases z:0 < U / p.2
  ·exact z
  ·have:=ediv_mul_cancel h.dvd
   have hp:=h.pos
   have:U / p.2*p.2<=0:=mul_nonpos_of_nonpos_of_nonneg (by omega) (by omega)
   omega
 exact Nat.le_mul_of_pos_right _ (by omega)
theorem dS.nsz{U:Int}{k:Nat}{p:Int×Int}(hU:0 < U)(h:dS U k p):Sz k p.1:=h.sz.le (h.toOk.nle hU)
theorem dS.mono{U:Int}{k j:Nat}{p:Int×Int}(h:dS U k p)(q:k<=j):dS U j p:=⟨h.toOk,h.sz.mono q⟩
theorem m5{U:Int}(hU:0 < U){k:Nat}{l:List (Int×Int)}(hl:∀ p∈l,dS U k p):dS U (k+l.length) (bN l):=by
 obtain⟨a,b⟩:=nD hU fun p hp=>(hl p hp).toOk
 refine⟨a,?_⟩
 rw[b]
 refine Sz.mono (sX (k:=k) _ fun x hx=>?_) (by rw[length_map];omega)
 obtain⟨p,hp,rfl⟩:=mem_map.mp hx
 exact (hl p hp).sz
def bL(U:Int)(k:Nat)(H:Hp)(xs:List V)(ps:List (Int×Int)):Prop:=xs.length=ps.length/\∀(i:Nat) p,ps[i]?=some p->∃ r,xs[i]?=some (.ref r)/\H r=some (.tup [.int p.1,.int p.2])/\dS U k p
theorem bL.ts{U:Int}{k:Nat}{H H':Hp}{xs:List V}{ps:List (Int×Int)}(h:bL U k H xs ps)(s:TS H H'):bL U k H' xs ps:=⟨h.1,fun i p hp=>by
 obtain⟨r,e,h1,h2⟩:=h.2 i p hp
 exact⟨r,e,s _ _ h1,h2⟩⟩
theorem bL.nil{U:Int}{k:Nat}{H:Hp}:bL U k H [] []:=⟨rfl,fun i p h=>by simp at h⟩
theorem bL.mem{U:Int}{k:Nat}{H:Hp}{xs:List V}{ps:List (Int×Int)}(h:bL U k H xs ps):∀ p∈ps,dS U k p:=fun p hp=>by
 obtain⟨i,hi⟩:=List.mem_iff_getElem?.mp hp
 obtain⟨r,_,_,h1⟩:=h.2 i p hi
 exact h1
theorem bL.snoc{U:Int}{k:Nat}{H:Hp}{xs:List V}{ps:List (Int×Int)}{r:Addr}{p:Int×Int}(h:bL U k H xs ps)(hr:H r=some (.tup [.int p.1,.int p.2]))(hp:dS U k p):bL U k H (xs++[.ref r]) (ps++[p]):=by
 refine⟨by rw[length_append,length_append,h.1];rfl,fun i q hq=>?_⟩
 by_cases hi:i < ps.length
 ·rw[getElem?_append_left hi] at hq
  rw[getElem?_append_left (by rw[h.1];exact hi)]
  exact h.2 i q hq
 ·have hl:=(List.getElem?_eq_some_iff.mp hq).1
  rw[length_append] at hl
  have e:i=ps.length:=by
   have:([p]:List (Int×Int)).length=1:=rfl
   omega
  subst e
  rw[getElem?_append_right (le_refl _),sub_self] at hq
  cases hq
  exact⟨r,by rw[getElem?_append_right (by rw[h.1];exact le_refl _),h.1,sub_self];rfl,hr,hp⟩
theorem bL.set{U:Int}{k:Nat}{H:Hp}{xs:List V}{ps:List (Int×Int)}{r:Addr}{p:Int×Int}{j:Nat}(h:bL U k H xs ps)(hr:H r=some (.tup [.int p.1,.int p.2]))(hp:dS U k p):bL U k H (xs.set j (.ref r)) (ps.set j p):=by
 refine⟨by rw[length_set,length_set,h.1],fun i q hq=>?_⟩
 by_cases e:j=i
 ·subst e
  rw[getElem?_set] at hq
  rw[if_pos rfl] at hq
  split at hq
  ·cases hq
   refine⟨r,?_,hr,hp⟩
   rw[getElem?_set,if_pos rfl,if_pos (by rw[h.1];assumption)]
  ·cases hq
 ·rw[getElem?_set_ne e] at hq
  rw[getElem?_set_ne e]
  exact h.2 i q hq
theorem BY{U r:Int}{p:Int×Int}(h0:0 < r)(hr:r∣U)(hp:0 < p.2)(hd:p.2∣U):lJ r p∣U:=by
 have e:lJ r p=(lcm r p.2:Int):=by
  unfold lJ
  have h1:(gcd r p.2:Int)*(lcm r p.2:Int)=r*p.2:=by
   have:=Int.gcd_mul_lcm r p.2
   have e2:((gcd r p.2*lcm r p.2:Nat):Int)=((r*p.2).natAbs:Int):=by rw[this,natAbs_mul]
   have p3:=mul_pos h0 hp
   rw[Int.natCast_mul] at e2
   omega
  have hg:=gS (n:=r) hp
  have e1:=ediv_mul_cancel (Int.gcd_dvd_left r p.2)
  refine Int.eq_of_mul_eq_mul_left (a:=(gcd r p.2:Int)) (by omega) ?_
  rw[h1]
  generalize r / (gcd r p.2:Int)=A at e1 |-
  generalize (gcd r p.2:Int)=g at e1 |-
  rw[<- e1]
  grind
 rw[e]
 exact Int.coe_lcm_dvd hr hd
theorem x_{U:Int}:∀ (l:List (Int×Int)) (r:Int),0 < r->r∣U->(∀ p∈l,0 < p.2/\p.2∣U)->l.foldl lJ r∣U
 | [],r,_,h,_=>h
 | p::l,r,h0,h,hp=>by
  obtain⟨a,b⟩:=hp p mem_cons_self
  exact x_ l (lJ r p) (yB h0 a).1 (BY h0 h a b) fun q hq=>hp q (mem_cons_of_mem _ hq)
theorem oN{U:Int}{l:List (Int×Int)}(h:∀ p∈l,Ok U p):0 < bS l/\bS l∣U/\∀ p∈l,Ok (bS l) p:=by
 obtain⟨a,_,c⟩:=u4 l 1 (by decide) fun p hp=>(h p hp).pos
 exact⟨a,x_ l 1 (by decide) (Int.one_dvd U) fun p hp=>⟨(h p hp).pos,(h p hp).dvd⟩,fun p hp=>⟨(h p hp).pos,c p hp,(h p hp).cop⟩⟩
structure Lvl(R D:Nat->Int)(n:Nat)(r:Int×Int):Prop where
 pos:0 < r.2
 cop:gcd r.1 r.2=1
 one:r.1<=r.2
 le:∀ i,i < n->0 < D i->r.1*D i<=R i*r.2
 at':r=(1,1)\/∃ i,i < n/\0 < D i/\r.1*D i=R i*r.2
theorem Lvl.below{R D:Nat->Int}{n:Nat}{r s:Int×Int}(a:Lvl R D n r)(b:Lvl R D n s):r.1*s.2<=s.1*r.2:=by
 have p1:=a.pos
 have p2:=b.pos
 rcases b.at' with rfl | ⟨i,hi,hD,e⟩
 ·have:=a.one
  show r.1*1<=1*r.2
  omega
 ·have h1:=a.le i hi hD
  have h2:=mul_le_mul_of_nonneg_right h1 (by omega:0<=s.2)
  have h3:R i*r.2*s.2=s.1*r.2*D i:=by grind
  have h4:r.1*D i*s.2=r.1*s.2*D i:=by grind
  rw[h3,h4] at h2
  exact le_of_mul_le_mul_right h2 hD
theorem Lvl.uniq{R D:Nat->Int}{n:Nat}{r s:Int×Int}(a:Lvl R D n r)(b:Lvl R D n s):r=s:=by
 have h1:=a.below b
 have h2:=b.below a
 have e:r.1*s.2=s.1*r.2:=by omega
 have:=iX (a:=r.1) (b:=r.2) a.pos b.pos b.cop e
 rw[<- this]
 exact (iX a.pos a.pos a.cop rfl).symm
theorem Lvl.scale{R D R' D':Nat->Int}{n:Nat}{r:Int×Int}{t:Int}(ht:0 < t)(hR:∀ i,R' i=R i*t)(hD:∀ i,D' i=D i*t)(a:Lvl R D n r):Lvl R' D' n r:=by
 have pos:∀ i,0 < D' i->0 < D i:=fun i h=>by
  rw[hD] at h
  by_cases z:0 < D i
  ·exact z
  ·have:D i*t<=0:=mul_nonpos_of_nonpos_of_nonneg (by omega) (by omega)
   omega
 refine⟨a.pos,a.cop,a.one,fun i hi h=>?_,?_⟩
 ·have:=mul_le_mul_of_nonneg_right (a.le i hi (pos i h)) (by omega:0<=t)
  rw[hR,hD]
  have e1:r.1*(D i*t)=r.1*D i*t:=by grind
  have e2:R i*t*r.2=R i*r.2*t:=by grind
  rw[e1,e2]
  exact this
 ·rcases a.at' with e | ⟨i,hi,h,e⟩
  ·exact .inl e
  ·refine .inr ⟨i,hi,by rw[hD];exact mul_pos h ht,?_⟩
   rw[hR,hD]
   have e1:r.1*(D i*t)=r.1*D i*t:=by grind
   have e2:R i*t*r.2=R i*r.2*t:=by grind
   rw[e1,e2,e]
def UM:Int:=9690712164777231700912800
theorem df:UOk UM:=⟨by decide,by decide⟩
theorem IV:∀ d,d < 61->0 < d->UM.toNat % d=0:=by decide +kernel
theorem GJ{u:Int}(h0:0 < u)(h1:u<=60):u∣UM:=by
 have h:=IV u.toNat (by omega) (by omega)
 have e:u=((u.toNat:Nat):Int):=by omega
 have e2:UM=((UM.toNat:Nat):Int):=by decide
 rw[e,e2]
 exact Int.natCast_dvd_natCast.mpr (Nat.dvd_of_mod_eq_zero h)
structure Du(U:Int)(k:Nat)(n u:Int):Prop where
 pt:dS U k (n,u)
 nn:0<=n
theorem cv{U u:Int}(hu:0 < u)(hU:0 < U)(h:u∣U):0 < U / u/\U / u<=U:=by
 have e:=ediv_mul_cancel h
 have p:0 < U / u:=by
  by_cases z:0 < U / u
  ·exact z
  ·have:U / u*u<=0:=mul_nonpos_of_nonpos_of_nonneg (by omega) (by omega)
   omega
 refine⟨p,?_⟩
 have:U / u*1<=U / u*u:=Int.mul_le_mul_of_nonneg_left (by omega) (by omega)
 omega
theorem CW{n u U:Int}(hu:0 < u)(hU:0 < U)(h:u∣U):num U (low n u)=n*(U / u):=by
 refine wO (Ok.low hu h) ?_
 have x:=jH (n:=n) hu
 have e:=ediv_mul_cancel h
 generalize low n u=q at x |-
 generalize U / u=k at e |-
 rw[<- e]
 refine eq_of_mul_eq_mul_right (a:=u) (by omega) ?_
 grind
theorem CC{n u:Int}(hu:0 < u)(hn:0<=n):0<=(low n u).1:=Int.ediv_nonneg hn (by have:=gS (n:=n) hu;omega)
theorem Gh{n u:Int}(h0:0<=n)(h1:n<=1000000000)(u0:0 < u)(u1:u<=60):Du UM 115 (kg n u) (jI n u):=by
 have hd:=GJ u0 u1
 refine⟨⟨Ok.low u0 hd,?_⟩,CC u0 h0⟩
 have e:num UM (low n u)=n*(UM / u):=CW u0 df.pos hd
 show Sz 115 (num UM (low n u))
 rw[e]
 have hz:Sz 84 (UM / u):=by
  have:=cv u0 df.pos hd
  have:(UM / u).natAbs<=UM.natAbs:=by omega
  exact Sz.le (by decide:Sz 84 UM) this
 exact Sz.mono (Sz.mul (Sz.of (k:=30) (by omega)) hz) (by decide)
theorem uo{U:Int}{k:Nat}:dS U k (0,1):=⟨kZ,by
 have:num U (0,1)=0:=by unfold num;exact zero_mul _
 rw[this]
 exact Sz.of (Nat.two_pow_pos _)⟩
theorem fN{U:Int}{p:Int×Int}(hU:0 < U)(h:Ok U p):0<=p.1↔0<=num U p:=by
 have:=lt_num hU h (kZ (U:=U))
 have e:num U (0,1)=0:=by unfold num;exact zero_mul _
 rw[e] at this
 simp only[zero_mul,mul_one] at this
 omega
theorem uf:∀(l:List Int),(∀ x∈l,0<=x)->0<=l.sum
 | [],_=>Int.le_refl _
 | x::l,h=>by
  have:=uf l fun y hy=>h y (mem_cons_of_mem _ hy)
  have:=h x mem_cons_self
  show 0<=x+l.sum
  omega
theorem xX{U:Int}(hU:0 < U){l:List (Int×Int)}(hl:∀ p∈l,Ok U p)(h0:∀ p∈l,0<=p.1):0<=(bN l).1:=by
 obtain⟨a,b⟩:=nD hU hl
 rw[fN hU a,b]
 refine uf _ fun x hx=>?_
 obtain⟨p,hp,rfl⟩:=mem_map.mp hx
 exact (fN hU (hl p hp)).mp (h0 p hp)
def dQ(X:List Addr)(U:Int)(k:Nat)(H:Hp)(zs:List V)(aU:List (List (Int×Int))):Prop:=zs.length=aU.length/\zs.Nodup/\∀(i:Nat) r,aU[i]?=some r->∃ l xs,zs[i]?=some (.ref l)/\H l=some (.lst xs)/\bL U k H xs r/\l∉X
theorem dQ.step{X:List Addr}{U:Int}{k:Nat}{H H':Hp}{zs:List V}{aU:List (List (Int×Int))}(h:dQ X U k H zs aU)(f:∀ l xs,V.ref l∈zs->l∉X->H l=some (.lst xs)->H' l=some (.lst xs))(s:TS H H'):dQ X U k H' zs aU:=⟨h.1,h.2.1,fun i r hr=>by
 obtain⟨l,xs,e,h1,h2,h3⟩:=h.2.2 i r hr
 exact⟨l,xs,e,f l xs (mem_of_getElem? e) h3 h1,h2.ts s,h3⟩⟩
theorem dQ.nil{X:List Addr}{U:Int}{k:Nat}{H:Hp}:dQ X U k H [] []:=⟨rfl,.nil,fun i p h=>by simp at h⟩
theorem dQ.fresh{X:List Addr}{U:Int}{k:Nat}{H:Hp}{zs:List V}{aU:List (List (Int×Int))}(h:dQ X U k H zs aU){l:Addr}(hl:H l=none):V.ref l∉zs:=fun z=>by
 obtain⟨i,hi,e⟩:=getElem_of_mem z
 have jK:i < aU.length:=by rw[<- h.1];exact hi
 obtain⟨l',xs,e',h1,_⟩:=h.2.2 i aU[i] (getElem?_eq_getElem jK)
 rw[getElem?_eq_getElem hi,e] at e'
 cases e'
 rw[hl] at h1
 cases h1
theorem dQ.snoc{X:List Addr}{U:Int}{k:Nat}{H:Hp}{zs:List V}{aU:List (List (Int×Int))}{l:Addr}{xs:List V}{r:List (Int×Int)}(h:dQ X U k H zs aU)(hn:V.ref l∉zs)(h1:H l=some (.lst xs))(h2:bL U k H xs r)(h3:l∉X):dQ X U k H (zs++[.ref l]) (aU++[r]):=by
 refine⟨by rw[length_append,length_append,h.1];rfl,?_,fun i q hq=>?_⟩
 ·rw[List.nodup_append]
  exact⟨h.2.1,nodup_cons.mpr ⟨by simp,.nil⟩,fun a ha b hb e=>by rw[mem_singleton.mp hb] at e;rw[e] at ha;exact hn ha⟩
 by_cases hi:i < aU.length
 ·rw[getElem?_append_left hi] at hq
  rw[getElem?_append_left (by rw[h.1];exact hi)]
  exact h.2.2 i q hq
 ·have hl:=(List.getElem?_eq_some_iff.mp hq).1
  rw[length_append] at hl
  have e:i=aU.length:=by
   have:([r]:List (List (Int×Int))).length=1:=rfl
   omega
  subst e
  rw[getElem?_append_right (le_refl _),sub_self] at hq
  cases hq
  exact⟨l,xs,by rw[getElem?_append_right (by rw[h.1];exact le_refl _),h.1,sub_self];rfl,h1,h2,h3⟩
end Toy
namespace Toy
open PySem L2
open PySem.Builtin.Int (intBits)
def aI(cs:List Cl)(i:Nat):Int×Int:=match cs[i]? with
 | some c=>(c.n,c.u)
 | none=>(0,1)
def aT(cs:List Cl)(i:Nat):List Int:=match cs[i]? with
 | some c=>c.hp
 | none=>[]
theorem fW{cs:List Cl}{i:Nat}(h:i < cs.length):aI cs i=(cs[i].n,cs[i].u):=by unfold aI;rw[getElem?_eq_getElem h]
theorem fK{cs:List Cl}{i:Nat}(h:i < cs.length):aT cs i=cs[i].hp:=by unfold aT;rw[getElem?_eq_getElem h]
def inn(cs:List Cl)(hs:List Int)(i:Nat):Bool:=lies (aT cs i) hs
def cI(cs:List Cl)(ps:List (Int×Int))(q:Nat->Bool)(i:Nat):Int×Int:=if q i=true then aI cs i else ps.getD i (0,1)
def lu(cs:List Cl)(ps:List (Int×Int))(q:Nat->Bool)(n:Nat):List (Int×Int):=(range n).map (cI cs ps q)
def plL(n:Nat)(q:Nat->Bool):List Int:=((range n).filter q).map fun i:Nat=>(i:Int)
def plV(n:Nat)(q:Nat->Bool):List V:=(plL n q).map V.int
theorem oO{n:Nat}{q:Nat->Bool}{i:Nat}(h:i < n):decide ((i:Int)∈plL n q)=q i:=by
 unfold plL
 rw[Bool.eq_iff_iff,decide_eq_true_eq]
 constructor
 ·intro z
  obtain⟨j,hj,e⟩:=mem_map.mp z
  have:j=i:=by omega
  subst this
  exact (mem_filter.mp hj).2
 ·intro z
  exact mem_map.mpr ⟨i,mem_filter.mpr ⟨mem_range.mpr h,z⟩,rfl⟩
theorem iO{α:Type}(f:Nat->Bool)(g:Nat->α)(i:Nat):((range (i+1)).filter f).map g=((range i).filter f).map g++(if f i=true then [g i] else []):=by
 rw[range_succ,List.filter_append,map_append]
 by_cases h:f i=true
 ·simp[h]
 ·simp[h]
theorem fh{α β:Type}(f:α->Bool)(g:α->β){l:List α}{j:Nat}(h:j < l.length):((l.take (j+1)).filter f).map g=((l.take j).filter f).map g++(if f l[j]=true then [g l[j]] else []):=by
 rw[take_succ_eq_append_getElem h,List.filter_append,map_append]
 by_cases e:f l[j]=true
 ·simp[e]
 ·simp[e]
def cU(cs:List Cl)(hs:List Int):List Nat:=(range cs.length).filter (inn cs hs)
def b_(U:Int)(cs:List Cl)(q:Nat->Bool)(hs:List Int):Int:=(((cU cs hs).filter q).map fun i=>num U (aI cs i)).sum
def gE(U:Int)(cs:List Cl)(ps:List (Int×Int))(q:Nat->Bool)(hs:List Int):Int:=(((cU cs hs).filter fun i=>!q i).map fun i=>num U (ps.getD i (0,1))).sum
def bE(U:Int)(ws:List Int)(cs:List Cl)(ps:List (Int×Int))(q:Nat->Bool)(hs:List Int):Int:=aZ ws hs*U - gE U cs ps q hs
theorem tm{α:Type}(f g:α->Int)(t:Int):∀ l:List α,(∀ x∈l,f x=g x*t)->(l.map f).sum=(l.map g).sum*t
 | [],_=>by show (0:Int)=0*t;rw[zero_mul]
 | x::l,h=>by
  show f x+(l.map f).sum=(g x+(l.map g).sum)*t
  rw[tm f g t l fun y hy=>h y (mem_cons_of_mem _ hy),h x mem_cons_self,add_mul]
theorem cX{cs:List Cl}{hs:List Int}{i:Nat}(h:i∈cU cs hs):i < cs.length:=mem_range.mp (mem_filter.mp h).1
theorem oM{U u:Int}{cs:List Cl}{ps:List (Int×Int)}{q:Nat->Bool}{hs:List Int}(hu:0 < u)(d:u∣U)(h:∀ i,i < cs.length->Ok u (cI cs ps q i)):b_ U cs q hs=b_ u cs q hs*(U / u):=by
 refine tm _ _ _ _ fun i hi=>?_
 obtain⟨h1,h2⟩:=mem_filter.mp hi
 have:=h i (cX h1)
 unfold cI at this
 rw[if_pos h2] at this
 exact jy hu this d
theorem oS{U u:Int}{ws:List Int}{cs:List Cl}{ps:List (Int×Int)}{q:Nat->Bool}{hs:List Int}(hu:0 < u)(d:u∣U)(h:∀ i,i < cs.length->Ok u (cI cs ps q i)):bE U ws cs ps q hs=bE u ws cs ps q hs*(U / u):=by
 have e:gE U cs ps q hs=gE u cs ps q hs*(U / u):=by
  refine tm _ _ _ _ fun i hi=>?_
  obtain⟨h1,h2⟩:=mem_filter.mp hi
  have:=h i (cX h1)
  unfold cI at this
  rw[if_neg (by simpa using h2)] at this
  exact jy hu this d
 have e2:=ediv_mul_cancel d
 unfold bE
 rw[e]
 generalize U / u=t at e2 |-
 rw[<- e2]
 grind
theorem G_{U u:Int}{p:Int×Int}(hu:0 < u)(hU:0 < U)(h:Ok u p)(d:u∣U):(num u p).natAbs<=(num U p).natAbs:=by
 rw[jy hu h d,natAbs_mul]
 have:=cv hu hU d
 exact Nat.le_mul_of_pos_right _ (by omega)
theorem j9(cs:List Cl)(hs:List Int):(cU cs hs).length<=cs.length:=by
 unfold cU
 exact le_trans (length_filter_le _ _) (by rw[length_range];exact le_refl _)
theorem uv{k n:Nat}{l:List Nat}{f:Nat->Int}(hl:l.length<=n)(h:∀ i∈l,Sz k (f i)):Sz (k+n) (l.map f).sum:=by
 refine Sz.mono (sX (k:=k) _ fun x hx=>?_) (by rw[length_map];omega)
 obtain⟨i,hi,rfl⟩:=mem_map.mp hx
 exact h i hi
def bB(r:Int×Int)(f:Nat×Int×Int):Int×Int:=if f.2.1*r.2 < r.1*f.2.2 then (f.2.1,f.2.2) else r
def dF(fs:List (Nat×Int×Int)):Int×Int:=fs.foldl bB (1,1)
theorem mM:∀ (fs:List (Nat×Int×Int)) (r:Int×Int),0 < r.2->(∀ f∈fs,0 < f.2.2)->0 < (fs.foldl bB r).2/\(fs.foldl bB r).1*r.2<=r.1*(fs.foldl bB r).2/\(∀ f∈fs,(fs.foldl bB r).1*f.2.2<=f.2.1*(fs.foldl bB r).2)/\(fs.foldl bB r=r\/∃ f∈fs,fs.foldl bB r=(f.2.1,f.2.2))
 | [],r,h,_=>⟨h,Int.le_refl _,(fun _ z=>nomatch z),.inl rfl⟩
 | f::fs,r,h,hf=>by
  have hD:=hf f mem_cons_self
  show 0 < (fs.foldl bB (bB r f)).2/\_
  by_cases c:f.2.1*r.2 < r.1*f.2.2
  ·have e:bB r f=(f.2.1,f.2.2):=by unfold bB;rw[if_pos c]
   have e2:(f::fs).foldl bB r=fs.foldl bB (f.2.1,f.2.2):=by show fs.foldl bB (bB r f)=_;rw[e]
   obtain⟨a1,a2,a3,a4⟩:=mM fs (f.2.1,f.2.2) hD fun g hg=>hf g (mem_cons_of_mem _ hg)
   rw[e2,e]
   generalize fs.foldl bB (f.2.1,f.2.2)=x at a1 a2 a3 a4 |-
   refine⟨a1,?_,fun g hg=>?_,.inr ?_⟩
   ·have Oz:x.1*f.2.2<=f.2.1*x.2:=a2
    have h1:=mul_le_mul_of_nonneg_right Oz (by omega:0<=r.2)
    have h2:=mul_le_mul_of_nonneg_right (le_of_lt c) (by omega:0<=x.2)
    have k1:x.1*f.2.2*r.2=x.1*r.2*f.2.2:=by grind
    have k2:f.2.1*x.2*r.2=f.2.1*r.2*x.2:=by grind
    have k3:r.1*f.2.2*x.2=r.1*x.2*f.2.2:=by grind
    rw[k1,k2] at h1
    rw[k3] at h2
    exact le_of_mul_le_mul_right (Int.le_trans h1 h2) hD
   ·rcases mem_cons.mp hg with rfl | hg
    ·exact a2
    ·exact a3 g hg
   ·rcases a4 with a4 | ⟨g,hg,a4⟩
    ·exact⟨f,mem_cons_self,a4⟩
    ·exact⟨g,mem_cons_of_mem _ hg,a4⟩
  ·have e:bB r f=r:=by unfold bB;rw[if_neg c]
   have e2:(f::fs).foldl bB r=fs.foldl bB r:=by show fs.foldl bB (bB r f)=_;rw[e]
   obtain⟨a1,a2,a3,a4⟩:=mM fs r h fun g hg=>hf g (mem_cons_of_mem _ hg)
   rw[e2,e]
   generalize fs.foldl bB r=x at a1 a2 a3 a4 |-
   refine⟨a1,a2,fun g hg=>?_,?_⟩
   ·rcases mem_cons.mp hg with rfl | hg
    ·have h1:=mul_le_mul_of_nonneg_right a2 (by omega:0<=g.2.2)
     have h2:=mul_le_mul_of_nonneg_right (Int.not_lt.mp c) (by omega:0<=x.2)
     have k1:x.1*r.2*g.2.2=x.1*g.2.2*r.2:=by grind
     have k2:r.1*x.2*g.2.2=r.1*g.2.2*x.2:=by grind
     have k3:g.2.1*r.2*x.2=g.2.1*x.2*r.2:=by grind
     rw[k1,k2] at h1
     rw[k3] at h2
     exact le_of_mul_le_mul_right (Int.le_trans h1 h2) h
    ·exact a3 g hg
   ·exact a4.imp id fun ⟨g,hg,e⟩=>⟨g,mem_cons_of_mem _ hg,e⟩
def gQ(R D:Nat->Int)(O:List Nat):List (Nat×Int×Int):=(O.filter fun i=>decide (0 < D i)).map fun i=>(i,R i,D i)
theorem yH:∀ m,m<=6->∀ i,i < 2 ^ m->i∈dg (2 ^ m):=by decide +kernel
theorem CO{n u a b:Int}(hu:0 < u)(h:n*a<=b*u):(low n u).1*a<=b*(low n u).2:=by
 have x:=jH (n:=n) hu
 have p:=gg (n:=n) hu
 generalize low n u=q at x p |-
 have h1:=mul_le_mul_of_nonneg_right h (by omega:0<=q.2)
 have k1:n*a*q.2=q.1*a*u:=by grind
 have k2:b*u*q.2=b*q.2*u:=by grind
 rw[k1,k2] at h1
 exact le_of_mul_le_mul_right h1 hu
theorem Bl{R D:Nat->Int}{m:Nat}(hm:m<=6):Lvl R D (2 ^ m) (low (dF (gQ R D (dg (2 ^ m)))).1 (dF (gQ R D (dg (2 ^ m)))).2):=by
 have hp:∀ f∈gQ R D (dg (2 ^ m)),0 < f.2.2:=fun f hf=>by
  obtain⟨i,hi,rfl⟩:=mem_map.mp hf
  exact of_decide_eq_true (mem_filter.mp hi).2
 obtain⟨a1,a2,a3,a4⟩:=mM (gQ R D (dg (2 ^ m))) (1,1) (by decide) hp
 have ex:(gQ R D (dg (2 ^ m))).foldl bB (1,1)=dF (gQ R D (dg (2 ^ m))):=rfl
 rw[ex] at a1 a2 a3 a4
 generalize dF (gQ R D (dg (2 ^ m)))=x at a1 a2 a3 a4 |-
 have Oz:x.1*1<=1*x.2:=a2
 refine⟨gg a1,kU a1,?_,fun i hi hD=>?_,?_⟩
 ·have:=CO (a:=1) (b:=1) a1 (by omega)
  omega
 ·exact CO a1 (a3 (i,R i,D i) (mem_map.mpr ⟨i,mem_filter.mpr ⟨yH m hm i hi,decide_eq_true hD⟩,rfl⟩))
 ·rcases a4 with rfl | ⟨f,hf,rfl⟩
  ·exact .inl (by decide)
  ·obtain⟨i,hi,rfl⟩:=mem_map.mp hf
   obtain⟨h1,h2⟩:=mem_filter.mp hi
   exact .inr ⟨i,oW h1,of_decide_eq_true h2,jH (of_decide_eq_true h2)⟩
def gB(R D:Nat->Int)(r:Int×Int)(i:Nat):Bool:=decide (0 < D i) && decide (low (R i) (D i)=r)
theorem mX{R D:Nat->Int}{r:Int×Int}{i:Nat}(hp:0 < r.2)(hc:gcd r.1 r.2=1)(hD:0 < D i):low (R i) (D i)=r↔D i*r.1=R i*r.2:=by
 constructor
 ·intro e
  have x:=jH (n:=R i) hD
  rw[e] at x
  rw[mul_comm]
  exact x
 ·intro e
  exact iX hD hp hc (by rw[<- e,mul_comm])
theorem vy{U R D:Int}{a b:Int×Int}(hU:0 < U)(ha:Ok U a)(hb:Ok U b)(ea:num U a=R)(eb:num U b=D)(hD:0 < D):0 < b.1/\low (a.1*b.2) (a.2*b.1)=low R D:=by
 have x:=num_mul ha
 have y:=num_mul hb
 rw[ea] at x
 rw[eb] at y
 have p1:=ha.pos
 have p2:=hb.pos
 have Pu:0 < b.1:=by
  have h1:0 < D*b.2:=mul_pos hD p2
  by_cases z:0 < b.1
  ·exact z
  ·have:b.1*U<=0:=mul_nonpos_of_nonpos_of_nonneg (by omega) (by omega)
   omega
 refine⟨Pu,pH (mul_pos p1 Pu) hD ?_⟩
 refine eq_of_mul_eq_mul_right (a:=U) (by omega) ?_
 grind
theorem yk{U:Int}{p:Int×Int}(hU:0 < U)(h:Ok U p):0 < p.1↔0 < num U p:=by
 have:=lt_num hU (kZ (U:=U)) h
 have e:num U (0,1)=0:=by unfold num;exact zero_mul _
 rw[e] at this
 simp only[zero_mul,mul_one] at this
 exact this
theorem Fq{u:Int}{cs:List Cl}{ps:List (Int×Int)}{q:Nat->Bool}{hs:List Int}:(((cU cs hs).filter q).map fun i=>num u (cI cs ps q i)).sum=b_ u cs q hs:=by
 unfold b_
 congr 1
 refine map_congr_left fun i hi=>?_
 unfold cI
 rw[if_pos (mem_filter.mp hi).2]
theorem Be{u:Int}{cs:List Cl}{ps:List (Int×Int)}{q:Nat->Bool}{hs:List Int}:(((cU cs hs).filter fun i=>!q i).map fun i=>num u (cI cs ps q i)).sum=gE u cs ps q hs:=by
 unfold gE
 congr 1
 refine map_congr_left fun i hi=>?_
 unfold cI
 rw[if_neg (by simpa using (mem_filter.mp hi).2)]
theorem r6{α:Type}{n i:Nat}(f:Nat->α)(g:α->V)(h:i < n):atI (((range n).map f).map g) (i:Int)=some (g (f i)):=by
 refine aQ ?_
 rw[getElem?_map,getElem?_map,getElem?_range h]
 rfl
end Toy
namespace L2
open PySem
section
variable {σ:St}{H:Hp}{Q:VK}{D:Ends}{te ta tb:TE}{t u:TS}{c c':TT}{tr:TA}{x y:V}{xs ys:List V}{v:V}{i j:Int}{p:Addr}
theorem jS{R:Hp->Prop}{k:Nat}(hp:H p=some (.lst xs))(e:ixN xs.length i=some k)(ey:xs.set k v=ys)(h:∀ H',H' p=some (.lst ys)->Fr1 p H H'->R H'):CF (.ref p) (.int i) v H R :=
 ⟨p,xs,i,k,rfl,rfl,hp,e,ey▸h _ (ey▸af) Fr1.upd⟩
theorem xB{a b:Int}:IntMulOk (a % 2147483647) (b % 2147483647):=Sz.okR (k:=31) (Sz.of (by
 have h1:=emod_nonneg b (by decide:(2147483647:Int)≠0)
 have h2:=emod_lt_of_pos b (by decide:(0:Int) < 2147483647)
 omega)) (by decide)
def Hr(f:List V->HO)(xs:List V)(H:Hp)(Q:VK):Prop:=xs.length<=sizeLine/\∀ p,H p=none->Q (.ref p) (upd H p (f xs))
theorem Ir(h:tr σ H fun xs H1=>Hr HO.tup xs H1 Q):Ea tr σ H Q:=h
theorem GI(h:tr σ H fun xs H1=>Hr HO.lst xs H1 Q):Fy tr σ H Q:=h
theorem bK{f:List V->HO}(hl:xs.length<=64)(h:∀ p H',H p=none->ak H H'->H' p=some (f xs)->Q (.ref p) H'):Hr f xs H Q :=
 ⟨le_trans hl (by decide),fun p hp=>h p _ hp (ak.new hp) af⟩
theorem n_{K:PySem.W.Frag}{T:String}{r:V->List V->Hp->VK->Prop}{to:TE}(h:to σ H fun x H1=>tyV K T x H1/\tr σ H1 fun xs H2=>r x xs H2 Q):tBM K T r to tr σ H Q:=h
theorem rV{l:Addr}(hl:H l=some (.lst xs))(hz:xs.length<=1000)(h:∀ H',H' l=some (.lst (xs++[y]))->Fr1 l H H'->Q .non H'):mh (.ref l) [y] H Q :=
 ⟨l,xs,y,rfl,rfl,hl,Nat.lt_of_le_of_lt hz (by decide),h _ af Fr1.upd⟩
theorem sG{b:Bool}{A B:Prop}(h1:b=true->A)(h2:b=false->B):if b=true then A else B:=by
 cases b with
 | true=>rw[if_pos rfl];exact h1 rfl
 | false=>rw[if_neg Bool.false_ne_true];exact h2 rfl
theorem yG{A B:Prop}{d:Decidable (true=true)}(h:A):@ite Prop (true=true) d A B:=by rw[if_pos rfl];exact h
theorem uX{A B:Prop}{d:Decidable (false=true)}(h:B):@ite Prop (false=true) d A B:=by rw[if_neg Bool.false_ne_true];exact h
theorem GD{q:Bool->Hp->Prop}(h:q true H):eC σ H q:=h
end
theorem AE{H H0 H':Hp}{B l:Addr}(f:Fr1 B H H0)(g:Fr1 l H0 H')(hl:H l=none):Fr1 B H H':=fun b o nb hb=>g b o (fun e=>by rw[e,hl] at hb;cases hb) (f b o nb hb)
theorem yu{H H':Hp}{B l:Addr}(f:Fr1 B H H')(n:l≠B)(hl:H' l=none):H l=none:=by
 cases e:H l with
 | none=>rfl
 | some o=>rw[f l o n e] at hl;cases hl
end L2
namespace Toy
open PySem L2
theorem br.frm{H H':Hp}{B L F:Addr}(b:br H B L)(f:Fr1 F H H')(nB:F≠B)(nL:F≠L):br H' B L:=by
 obtain⟨ns,i,r,salt,h1,h2,h3⟩:=b
 exact⟨ns,i,r,salt,f _ _ nB.symm h1,f _ _ nL.symm h2,h3⟩
theorem TS.frl{H H':Hp}{l:Addr}{xs:List V}(h:H l=some (.lst xs))(f:Fr1 l H H'):Toy.TS H H':=fun c ys hc=>f c _ (fun e=>by rw[e,h] at hc;cases hc) hc
end Toy
namespace L2
open PySem PySem.Spec PyProof.Rows
section
variable {X:Cx}{tg:Expr}
end
def Ot(c:Nat):Bool:=decide (97<=c) && decide (c<=122)
section
variable {H:Hp}{Q:VK}{z y:Str}{i:Int}
theorem tx{ta tb:TE}{σ:St}(h:ta σ H fun x H1=>∃ c,x=.bl c/\Brk c (tb σ H1 Q) (Q (.bl false) H1) .mk .mk):yO ta tb σ H Q:=h
end
theorem bg{H H2:Hp}{l:Addr}{o:HO}(hl:H l=none)(s:ak H H2):ak H (upd H2 l o):=fun b u hb=>by
 rw[ax (fun z=>by rw[z,hl] at hb;cases hb)]
 exact s b u hb
end L2
namespace Toy
open PySem L2
theorem eZ{α:Type}(p:α->Bool)(f:α->Int):∀ I:List α,((I.filter p).map f).sum=(I.map fun i=>if p i=true then f i else 0).sum
 | []=>rfl
 | i::I=>by
  rw[filter_cons,map_cons,sum_cons,<- eZ p f I]
  by_cases h:p i=true
  ·rw[if_pos h,if_pos h,map_cons,sum_cons]
  ·rw[if_neg h,if_neg h,zero_add]
theorem pb{α:Type}{f g:α->Int}:∀{I:List α},(∀ i∈I,f i<=g i)->(I.map f).sum<=(I.map g).sum
 | [],_=>Int.le_refl _
 | i::I,h=>by
  rw[map_cons,map_cons,sum_cons,sum_cons]
  exact Int.add_le_add (h i mem_cons_self) (pb fun j hj=>h j (mem_cons_of_mem _ hj))
theorem ub{α:Type}(c d:Int)(f g:α->Int):∀ I:List α,(I.map fun i=>c*f i+d*g i).sum=c*(I.map f).sum+d*(I.map g).sum
 | []=>by simp
 | i::I=>by
  rw[map_cons,map_cons,map_cons,sum_cons,sum_cons,sum_cons,ub c d f g I]
  grind
theorem xh{α:Type}(c:Int)(f:α->Int):∀ I:List α,(I.map fun i=>c*f i).sum=c*(I.map f).sum
 | []=>by simp
 | i::I=>by
  rw[map_cons,map_cons,sum_cons,sum_cons,xh c f I]
  grind
section
variable {I:List Nat}{q hq:Nat->Bool}{a x x':Nat->Int}{n d:Int}
theorem Es(hn:0<=n)(ha:∀ i∈I,0<=a i)(hx:∀ i∈I,hq i=true->d*x' i=n*a i)(wt:∀ i∈I,hq i=false->x' i=x i)(hsub:∀ i,hq i=true->q i=true) :
  d*((I.filter fun i=>!(q i && !hq i)).map x').sum<=d*((I.filter fun i=>!q i).map x).sum+n*((I.filter q).map a).sum:=by
 rw[eZ,eZ,eZ,<- xh,<- ub]
 refine pb fun i hi=>?_
 cases e:q i with
 | false =>
  have e2:hq i=false:=by
   cases z:hq i with
   | false=>rfl
   | true=>rw[hsub i z] at e;cases e
  simp[e2,wt i hi e2]
 | true =>
  cases e2:hq i with
  | true=>simp[hx i hi e2]
  | false=>simp[mul_nonneg hn (ha i hi)]
theorem FH(hx:∀ i∈I,hq i=true->d*x' i=n*a i)(wt:∀ i∈I,hq i=false->x' i=x i)(hsub:∀ i,hq i=true->q i=true)(hall:∀ i∈I,q i=true->hq i=true) :
  d*((I.filter fun i=>!(q i && !hq i)).map x').sum=d*((I.filter fun i=>!q i).map x).sum+n*((I.filter q).map a).sum:=by
 rw[eZ,eZ,eZ,<- xh,<- ub]
 refine congrArg List.sum (map_congr_left fun i hi=>?_)
 cases e:q i with
 | false =>
  have e2:hq i=false:=by
   cases z:hq i with
   | false=>rfl
   | true=>rw[hsub i z] at e;cases e
  simp[e2,wt i hi e2]
 | true=>simp[hall i hi e,hx i hi (hall i hi e)]
end
theorem Iz{U0 U t D0 R:Int}{due lv:Int×Int}(QJ:0 < U0)(ht:0 < t)(eU:U=U0*t)(Q4:0 < D0)(od:Ok U0 due)(hl:0 < lv.2)(hR:D0*t*lv.1=R*lv.2) :
  Ok (U*D0) (low (lv.1*due.1) (lv.2*due.2))/\num (U*D0) (low (lv.1*due.1) (lv.2*due.2))*lv.2=lv.1*num (U*D0) due:=by
 have hu:=od.pos
 have hb:0 < lv.2*due.2:=mul_pos hl hu
 have hU:0 < U:=by rw[eU];exact mul_pos QJ ht
 have hV:0 < U*D0:=mul_pos hU Q4
 have x:=jH (n:=lv.1*due.1) hb
 have y:=num_mul od
 have e:low (R*num U0 due) (U*D0)=low (lv.1*due.1) (lv.2*due.2):=by
  refine iX hV (gg hb) (kU hb) ?_
  generalize low (lv.1*due.1) (lv.2*due.2)=p at x |-
  generalize num U0 due=N at y |-
  refine eq_of_mul_eq_mul_right (a:=lv.2*due.2) (by omega) ?_
  rw[eU]
  have h1:R*N*p.2*(lv.2*due.2)=(R*lv.2)*p.2*(N*due.2):=by grind
  have h2:p.1*(U0*t*D0)*(lv.2*due.2)=(p.1*(lv.2*due.2))*(U0*t*D0):=by grind
  rw[h1,h2,x,y,<- hR]
  grind
 have o:Ok (U*D0) (low (lv.1*due.1) (lv.2*due.2)):=by rw[<- e];exact Ok.low hV (dvd_refl _)
 refine⟨o,?_⟩
 have z:=num_mul o
 have RL:Ok (U*D0) due:=od.up ⟨t*D0,by rw[eU];grind⟩
 have y2:=num_mul RL
 generalize low (lv.1*due.1) (lv.2*due.2)=p at x z o |-
 generalize num (U*D0) due=M at y2 |-
 generalize num (U*D0) p=P at z |-
 have hp:=o.pos
 refine eq_of_mul_eq_mul_right (a:=p.2*due.2) (by have:=mul_pos hp hu;omega) ?_
 have h1:P*lv.2*(p.2*due.2)=(P*p.2)*(lv.2*due.2):=by grind
 have h2:lv.1*M*(p.2*due.2)=lv.1*p.2*(M*due.2):=by grind
 rw[h1,h2,z,y2]
 have h3:p.1*(U*D0)*(lv.2*due.2)=(p.1*(lv.2*due.2))*(U*D0):=by grind
 rw[h3,x]
 grind
end Toy
namespace L2
open PySem
def Ris(xs:Array Nat):Prop:=xs.toList.Pairwise (· < ·)
theorem Ris.lt{xs:Array Nat}(h:Ris xs){i k:Nat}(hk:k < xs.size)(hik:i < k):xs.getD i 0 < xs.getD k 0:=by
 have hi:i < xs.size:=lt_trans hik hk
 have:=List.pairwise_iff_getElem.mp h i k (by simpa using hi) (by simpa using hk) hik
 simpa [getD,hi,hk] using this
theorem oZ{xs:Array Nat}(h:Ris xs)(j:Nat):∀(f lo hi:Nat),hi - lo<=f->lo<=hi->hi<=xs.size->(∀ i,i < lo->xs.getD i 0 < j)->(∀ i,hi<=i->i < xs.size->j<=xs.getD i 0) ->
  (SetTable.below.go xs j f lo hi<=xs.size/\(∀ i,i < SetTable.below.go xs j f lo hi->xs.getD i 0 < j)/\∀ i,SetTable.below.go xs j f lo hi<=i->i < xs.size->j<=xs.getD i 0)
 | 0,lo,hi,hf,h1,h2,a,b=>by
  have:lo=hi:=by omega
  subst this
  show lo<=xs.size/\_
  exact⟨h2,a,b⟩
 | f+1,lo,hi,hf,h1,h2,a,b=>by
  unfold SetTable.below.go
  by_cases c:lo < hi
  ·rw[if_pos c]
   have hm:(lo+hi) / 2 < xs.size:=by omega
   have e:xs.getD ((lo+hi) / 2) j=xs.getD ((lo+hi) / 2) 0:=by simp[getD,hm]
   show (if xs.getD ((lo+hi) / 2) j < j then _ else _)<=xs.size/\_
   by_cases d:xs.getD ((lo+hi) / 2) j < j
   ·simp only[if_pos d]
    refine oZ h j f _ hi (by omega) (by omega) h2 (fun i HQ=>?_) b
    rw[e] at d
    by_cases z:i=(lo+hi) / 2
    ·rw[z];exact d
    ·exact lt_trans (h.lt hm (by omega)) d
   ·simp only[if_neg d]
    refine oZ h j f lo _ (by omega) (by omega) (by omega) a fun i HQ hs=>?_
    rw[e] at d
    by_cases z:i=(lo+hi) / 2
    ·rw[z];omega
    ·have:=h.lt hs (by omega:(lo+hi) / 2 < i)
     omega
  ·rw[if_neg c]
   have:lo=hi:=by omega
   subst this
   exact⟨h2,a,b⟩
theorem uZ{xs:Array Nat}(h:Ris xs)(j:Nat):SetTable.below xs j<=xs.size/\(∀ i,i < SetTable.below xs j->xs.getD i 0 < j)/\∀ i,SetTable.below xs j<=i->i < xs.size->j<=xs.getD i 0 :=
 oZ h j xs.size 0 xs.size (by omega) (by omega) (by omega) (fun i hi=>by omega) fun i h1 h2=>by omega
def gH(xs:Array Nat):Nat->Nat
 | 0=>0
 | i+1=>xs.getD i 0+1
theorem vc{xs:Array Nat}(h:Ris xs){i:Nat}(hi:i<=xs.size):SetTable.below xs (gH xs i)=i:=by
 obtain⟨h1,h2,h3⟩:=uZ h (gH xs i)
 generalize SetTable.below xs (gH xs i)=p at h1 h2 h3
 cases i with
 | zero =>
  have z:gH xs 0=0:=rfl
  rw[z] at h2
  by_cases c:p=0
  ·exact c
  ·have:=h2 0 (by omega)
   omega
 | succ i =>
  have z:gH xs (i+1)=xs.getD i 0+1:=rfl
  rw[z] at h2 h3
  have a:i < p:=by
   by_cases c:i < p
   ·exact c
   ·have:=h3 i (by omega) (by omega)
    omega
  by_cases c:p=i+1
  ·exact c
  ·have:=h2 (i+1) (by omega)
   have:=h.lt (i:=i) (k:=i+1) (by omega) (by omega)
   omega
theorem AL{α:Type}(xs:Array α)(p:Nat)(x:α):(SetTable.insertAt xs p x).toList=xs.toList.take p++x::xs.toList.drop p:=by
 unfold SetTable.insertAt
 simp
 exact List.take_of_length_le (by rw[length_drop,length_toList];exact le_refl _)
theorem Ris.put{xs:Array Nat}(h:Ris xs){j:Nat}(hj:xs[SetTable.below xs j]?≠some j):Ris (SetTable.insertAt xs (SetTable.below xs j) j):=by
 obtain⟨h1,h2,h3⟩:=uZ h j
 generalize SetTable.below xs j=p at h1 h2 h3 hj
 have gd:∀ i (hi:i < xs.size),xs.toList[i]'(by simpa using hi)=xs.getD i 0:=fun i hi=>by simp[getD,hi]
 have up:∀ i,p<=i->i < xs.size->j < xs.getD i 0:=fun i a b=>by
  have c:=h3 i a b
  by_cases z:i=p
  ·subst z
   have:xs[i]?=some (xs.getD i 0):=by simp[getD,b]
   rw[this] at hj
   by_cases y:xs.getD i 0=j
   ·exact absurd (by rw[y]) hj
   ·omega
  ·have:=h.lt b (by omega:p < i)
   have:=h3 p (le_refl _) (by omega)
   omega
 unfold Ris
 rw[AL,List.pairwise_append]
 have hd:∀ b∈xs.toList.drop p,j < b:=fun b hb=>by
  obtain⟨i,hi,rfl⟩:=getElem_of_mem hb
  rw[length_drop,length_toList] at hi
  rw[List.getElem_drop,gd _ (by omega)]
  exact up _ (by omega) (by omega)
 have ht:∀ a∈xs.toList.take p,a < j:=fun a ha=>by
  obtain⟨i,hi,rfl⟩:=getElem_of_mem ha
  rw[length_take,length_toList] at hi
  rw[List.getElem_take,gd _ (by omega)]
  exact h2 _ (by omega)
 refine⟨h.sublist (List.take_sublist _ _),pairwise_cons.mpr ⟨hd,h.sublist (List.drop_sublist _ _)⟩,fun a ha b hb=>?_⟩
 rcases mem_cons.mp hb with rfl | hb
 ·exact ht a ha
 ·exact lt_trans (ht a ha) (hd b hb)
structure eV(L:Bool)(t:SetTable):Prop where
 ris:Ris t.place
 dum:t.dummies=#[]
 led:t.led=L
theorem eV.fresh{L:Bool}{f m:Nat}:eV L (SetTable.fresh f m L):=⟨Pairwise.nil,rfl,rfl⟩
theorem eV.plain{L:Bool}{t:SetTable}(h:eV L t):eV L { t with plain:=false }:=⟨h.ris,h.dum,h.led⟩
theorem eV.gH{L:Bool}{t:SetTable}(h:eV L t)(n:Nat):eV L (t.standIn n):=by
 refine⟨?_,rfl,h.led⟩
 show (Array.range n).toList.Pairwise (· < ·)
 rw[Array.toList_range]
 exact List.pairwise_lt_range
theorem yD(j:Nat):SetTable.has #[] j=false:=by
 unfold SetTable.has
 simp
theorem pF{t:SetTable}(hd:t.dummies=#[])(hash:Nat->Int)(h:Int):∀(f:Nat)(p:SetTable.Probe)(j:Nat)(d:Option Nat),p.dummy=none->SetTable.probe.go t hash h f p=some (.empty j d)->d=none/\t.slot j=.empty
 | 0,p,j,d,_,e=>by cases e
 | f+1,p,j,d,hp,e=>by
  unfold SetTable.probe.go at e
  have nd:t.slot p.j≠.dummy:=fun z=>by
   unfold SetTable.slot at z
   rw[hd,yD] at z
   dsimp only at z
   split at z<;>cases z
  cases hs:t.slot p.j with
  | empty =>
   rw[hs] at e
   cases e
   exact⟨hp,hs⟩
  | dummy=>exact absurd hs nd
  | live i =>
   rw[hs] at e
   dsimp only at e
   have ha:(t.advance p).dummy=none:=by
    unfold SetTable.advance
    split<;>exact hp
   split at e
   ·cases e
   ·exact pF hd hash h f _ j d ha e
theorem eV.new{L:Bool}{t:SetTable}(h:eV L t)(es:Array (Int×Value))(hh:Int)(x:Value):eV L (layNew t es hh x).2.1:=by
 unfold layNew
 cases e:t.freeSlot hh with
 | none=>exact h.gH _
 | some q =>
  obtain⟨slot,wd⟩:=q
  dsimp only
  have hs:t.slot slot=.empty:=by
   unfold SetTable.freeSlot at e
   split at e
   ·rename_i j d hm
    obtain⟨hd,h1⟩:=pF h.dum _ hh _ _ j d rfl hm
    subst hd
    cases e
    exact h1
   ·cases e
  have hp:eV L (t.put slot).1:=by
   refine⟨h.ris.put fun z=>?_,?_,h.led⟩
   ·unfold SetTable.slot at hs
    simp[z] at hs
   ·show (if SetTable.has t.dummies slot=true then _ else t.dummies)=#[]
    rw[h.dum,yD]
    rfl
  unfold SetTable.orStandIn
  split
  ·exact hp
  ·exact hp.gH _
theorem eV.LK{L:Bool}{t:SetTable}(h:eV L t)(es:Array (Int×Value))(n:Nat):eV L (relayAll t es n).2.1:=by
 unfold relayAll
 cases e:t.relaid (es.map (·.1)) n with
 | none=>exact h.gH _
 | some q =>
  obtain⟨t',order⟩:=q
  dsimp only
  split
  ·unfold SetTable.relaid SetTable.laid at e
   cases hl:SetTable.layClean (SetTable.sizeAbove n - 1) (es.map (·.1)) with
   | none=>rw[hl] at e;cases e
   | some owner =>
    rw[hl] at e
    cases e
    refine⟨?_,rfl,h.led⟩
    show Pairwise _ (List.map _ _).toArray.toList
    rw[List.toList_toArray]
    refine Pairwise.map _ (fun a b hab=>hab) (R:=fun a b:Nat×Nat=>a.1 < b.1) ?_
    refine Pairwise.filterMap (R:=(· < ·)) _ (fun a b hab c hc d hd=>?_) List.pairwise_lt_range
    simp only[Option.map_eq_some_iff] at hc hd
    obtain⟨_,_,rfl⟩:=hc
    obtain⟨_,_,rfl⟩:=hd
    exact hab
  ·exact h.gH _
def keyOf:Int×Value->Int
 | (_,.int k _)=>k
 | _=>0
abbrev As(es:Array (Int×Value))(ep:Nat)(t:SetTable):Obj:={ cls:=.type "set", dict:=none,data:=.set es ep t }
structure cH(h:Heap)(S:Addr)(L:Bool)(es:Array (Int×Value))(ep:Nat)(t:SetTable):Prop where
 at':h.get? S=some (As es ep t)
 sh:∀ e∈es.toList,∃ k tk,e=(hashInt k,Value.int k tk)
 nd:(es.toList.map keyOf).Nodup
 sz:es.size < 100
 fit:t.fits es.size=true
 tab:eV L t
theorem cH.to{h h':Heap}{S:Addr}{L:Bool}{es:Array (Int×Value)}{ep:Nat}{t:SetTable}(x:cH h S L es ep t)(k:∀ o,h.get? S=some o->h'.get? S=some o):cH h' S L es ep t:=⟨k _ x.at',x.sh,x.nd,x.sz,x.fit,x.tab⟩
section
variable {prog:Program}{w:World}{A:Around}{E:Value->Shared->Prop}{s:Shared}{S:Addr}{L:Bool}{es:Array (Int×Value)}{ep:Nat}{t:SetTable}
theorem cH.el(x:cH s.heap S L es ep t):ElemsOf (intKind prog w) es.toList:=fun e he=>by
 obtain⟨k,tk,rfl⟩:=x.sh e he
 exact⟨⟨k,intKind_is prog w k tk,rfl⟩,rfl⟩
theorem ye{h:Heap}{es':Array (Int×Value)}{t':SetTable}(ho:h.get? S=some (As es ep t)):(h.update S (Obj.putSet es' t')).get? S=some (As es' (ep+1) t'):=by
 have e:=putSet_of (o:=As es ep t) es' t' rfl
 have:=get?_update_self (Obj.putSet es' t') ho (by rw[e];rfl)
 rwa [e] at this
theorem ES{k:Int}{tk:Tok}{Q:Bool->Shared->Prop}(x:cH s.heap S L es ep t)(hz:es.size+1 < 100)(h0:k∈es.toList.map keyOf->Q false s)
  (h1:k∉es.toList.map keyOf->∀ h' es' zk t',SameBut S s.heap h'->cH h' S L es' zk t'->(es'.toList.map keyOf).Perm (es.toList.map keyOf++[k])->Q true { s with heap:=h' }) :
  wpAny (model prog w) A (setAddHashed S (.int k tk) ((intKind prog w).hash k)) Q E s:=by
 have hk:=intKind_is prog w k tk
 have el:ElemsOf (intKind prog w) es.toList:=x.el
 have sb:es.size < scanBound:=lt_trans x.sz (by decide)
 unfold setAddHashed setAddHashedIn
 refine wpAny_holding (wpAny_bind (wpAny_setState_of x.at' rfl x.fit ?_))
 dsimp only
 rw[byScan_of rfl sb el,if_pos rfl]
 unfold setAddByScan
 refine wpAny_bind (wpAny_bind (wpAny_rule (wpAny_bind (wpAny_setScan_of hk x.at' rfl x.fit el ?_))))
 have isk:∀ e∈es.toList,((intKind prog w).is k e.2=true↔keyOf e=k):=fun e he=>by
  obtain⟨k',t',rfl⟩:=x.sh e he
  constructor
  ·intro z
   exact (intKind prog w).inj _ _ _ (intKind_is prog w k' t') z
  ·intro z
   have z:k'=k:=z
   subst z
   exact intKind_is prog w k' t'
 cases hr:es.toList.findIdx? (fun e=>(intKind prog w).is k e.2) with
 | some j =>
  obtain⟨hj,hp,_⟩:=List.findIdx?_eq_some_iff_getElem.mp hr
  have hm:=getElem_mem hj
  exact wpAny_pure (wpAny_pure (h0 (mem_map.mpr ⟨_,hm,(isk _ hm).mp hp⟩)))
 | none =>
  have hn:k∉es.toList.map keyOf:=fun z=>by
   obtain⟨e,he,ek⟩:=mem_map.mp z
   have a:=List.findIdx?_eq_none_iff.mp hr e he
   rw[(isk e he).mpr ek] at a
   cases a
  have fin:=h1 hn
  clear h0 h1
  have pm:=layNew_perm t es ((intKind prog w).hash k) (.int k tk)
  have ft:=layNew_fits t es ((intKind prog w).hash k) (.int k tk)
  have tb:=x.tab.new es ((intKind prog w).hash k) (.int k tk)
  generalize layNew t es ((intKind prog w).hash k) (.int k tk)=Y at pm ft tb
  obtain⟨pG,t1,wd,gv⟩:=Y
  dsimp only at pm ft tb |-
  rw[Array.toList_push] at pm
  have Gw:∀ e∈pG.toList,∃ k tk,e=(hashInt k,Value.int k tk):=fun e he=>by
   rcases mem_append.mp (pm.mem_iff.mp he) with he | he
   ·exact x.sh e he
   ·rw[mem_singleton.mp he]
    exact⟨k,tk,rfl⟩
  have pk:(pG.toList.map keyOf).Perm (es.toList.map keyOf++[k]):=by
   have:=pm.map keyOf
   rwa [map_append] at this
  have OX:(pG.toList.map keyOf).Nodup:=pk.nodup_iff.mpr (List.nodup_append.mpr ⟨x.nd,by simp,fun a ha b hb z=>hn (by rw[<- mem_singleton.mp hb,<- z];exact ha)⟩)
  have PN:pG.size < 100:=by
   have:=pm.length_eq
   rw[length_append,length_toList,length_toList] at this
   have:([((intKind prog w).hash k,Value.int k tk)]:List (Int×Value)).length=1:=rfl
   omega
  have gw:∀(b:Bool)(s₁:Shared)(R:Unit->Shared->Prop),R () s₁->wpAny (model prog w) A (match b with | true=>rule "set.scan.the-table-gave-way" | false=>pure ()) R E s₁:=fun b s₁ R q=>by
   cases b
   ·exact wpAny_pure q
   ·exact wpAny_rule q
  refine wpAny_bind (gw gv _ _ ?_)
  have tail:∀ t2,eV L t2->t2.fits pG.size=true->wpAny (model prog w) A (do
    storeSet S pG t2
    if (!wd && t2.tooFull)=true then do
      (match (relayAll t2 pG (SetTable.grown pG.size)).2.2 with | true=>rule "set.scan.the-table-gave-way" | false=>pure ())
      storeSet S (relayAll t2 pG (SetTable.grown pG.size)).1 (relayAll t2 pG (SetTable.grown pG.size)).2.1
      pure (some true)
     else pure (some true)) (fun a s'=>wpAny (model prog w) A (match a with | some added=>pure added | none=>setAddHashedIn S (.int k tk) ((intKind prog w).hash k) 99999) Q E s') E s:=fun t2 J0 RS=>by
   refine wpAny_bind (wpAny_storeSet_of x.at' rfl ?_ (fits_of_scanBound (lt_trans PN (by decide))))
   have o1:=ye (es':=pG) (t':=t2) x.at'
   have b1:=SameBut.update s.heap S (Obj.putSet pG t2)
   split
   ·have JS:=relayAll_perm t2 pG (SetTable.grown pG.size)
    have MK:=relayAll_fits t2 pG (SetTable.grown pG.size)
    have NQ:=J0.LK pG (SetTable.grown pG.size)
    generalize relayAll t2 pG (SetTable.grown pG.size)=Y at JS MK NQ |-
    obtain⟨JP,t3,SD⟩:=Y
    dsimp only at JS MK NQ |-
    have Nh:JP.size < 100:=by
     have:=JS.length_eq
     rw[length_toList,length_toList] at this
     omega
    refine wpAny_bind (gw SD _ _ (wpAny_bind (wpAny_storeSet_of o1 rfl ?_ (fits_of_scanBound (lt_trans Nh (by decide))))))
    have o2:=ye (es':=JP) (t':=t3) o1
    have R9:=(JS.map keyOf).trans pk
    exact wpAny_pure (wpAny_pure (fin _ JP _ t3 (b1.trans (SameBut.update _ S _)) ⟨o2,fun e he=>Gw e (JS.mem_iff.mp he),(JS.map keyOf).nodup_iff.mpr OX,Nh,MK,NQ⟩ R9))
   ·exact wpAny_pure (wpAny_pure (fin _ pG _ t2 b1 ⟨o1,Gw,OX,PN,RS,J0⟩ pk))
  split
  ·rw[hashByValue_scannable 8 rfl]
   refine wpAny_bind (wpAny_pure ?_)
   exact tail _ (by split;exact tb;exact tb.plain) (by split;exact ft;exact SetTable.fits_plain_off ft)
  ·refine wpAny_bind (wpAny_pure ?_)
   rw[if_pos rfl]
   exact tail _ tb ft
theorem Bj{R:Result->Shared->Prop}{I l:Addr}{items:Array Value}{ns:List Int}(hh:A.in1.handled=none)(nI:l≠I)(nS:S≠I)(nl:S≠l)(hi:PyProof.Rows.IntsAre items.toList ns)(QV:items.size<=64) :
  ∀(m i:Nat)(s:Shared) (es:Array (Int×Value)) (ep:Nat) (t:SetTable),items.size - i=m->i<=items.size->s.heap.IsListIter I l i/\s.heap.IsList l items->cH s.heap S L es ep t->es.size<=i->(∀ k,k∈es.toList.map keyOf↔k∈ns.take i) ->
   (∀ h' tk es' zk t',(∀ b o,b≠S->b≠I->s.heap.get? b=some o->h'.get? b=some o)->cH h' S L es' zk t'->(∀ k,k∈es'.toList.map keyOf↔k∈ns)->es'.size<=items.size->R (.ok (.ret .none)) { s with heap:=h',toks:=tk }) ->
   codeAny (model prog w) A (.builtin "set.update.loop" ⟨[.ref S,.ref I],[]⟩) R s:=by
 have W:=Walks.list (prog:=prog) (w:=w) hh I l nI items
 have hl:items.size=ns.length:=by
  have:=PyProof.Rows.IntsAre.length hi
  rwa [length_toList] at this
 intro m
 induction m with
 | zero =>
  intro i s es ep t hm hle st x hz hk hR
  have e:i=items.size:=by omega
  subst e
  refine codeAny_builtin PyProof.Rows.F.entry_set_update_loop ?_
  rw[Around.under_plainId PyProof.Rows.F.plain_set_update_loop]
  show wpAny _ A.in1 (pyNext (.ref I) >>= _) _ _ _
  refine wpAny_bind (W.done s _ _ st fun h' tk kp=>wpAny_pure (hR h' tk es ep t (fun b o _ b2 e=>kp b o (by simpa using b2) e) (x.to fun o e=>kp S o (by simpa using nS) e) (fun k=>?_) hz))
  rw[hk,hl,take_length]
 | succ m ih =>
  intro i s es ep t hm hle st x hz hk hR
  have hlt:i < items.size:=by omega
  have LO:i < ns.length:=by omega
  refine codeAny_builtin PyProof.Rows.F.entry_set_update_loop ?_
  rw[Around.under_plainId PyProof.Rows.F.plain_set_update_loop]
  show wpAny _ A.in1 (pyNext (.ref I) >>= _) _ _ _
  refine wpAny_bind (W.item i s _ _ hlt st fun v h1 Rb pv JU kp=>?_)
  obtain⟨tv,rfl⟩:=PyProof.Rows.IntsAre.int_at hi i v (by rw[Array.getElem?_toList];exact pv)
  have x1:cH h1 S L es ep t:=x.to fun o e=>kp S o (by simpa using nS) e
  have hd:ns.getD i 0=ns[i]:=by simp[getD_eq_getElem?_getD,LO]
  have Oy:ns.take (i+1)=ns.take i++[ns[i]]:=take_succ_eq_append_getElem LO
  rw[hd]
  show wpAny _ A.in1 (holding [Value.int ns[i] tv] (setAdd S (.int ns[i] tv)) >>= _) _ _ _
  unfold setAdd
  refine wpAny_bind (wpAny_holding (wpAny_holding (wpAny_bind ((intKind prog w).pyHash (k:=ns[i]) (intKind_is _ _ _ _) ?_))))
  have keep:∀(h2:Heap),(∀ b o,b≠S->h1.get? b=some o->h2.get? b=some o)->h2.IsListIter I l (i+1)/\h2.IsList l items:=fun h2 kk=>W.frame _ _ _ JU fun b hb o e=>kk b o (fun z=>by
   rw[z] at hb
   simp at hb
   rcases hb with hb | hb
   ·exact nS hb
   ·exact nl hb) e
  refine ES (s:={ s with heap:=h1,toks:=Rb+1 }) x1 (by omega) (fun hm=>?_) fun hm h2 JP PX t2 sb x2 pm=>?_
  ·refine wpAny_pure ⟨plainId_quiet PyProof.Rows.F.plain_set_update_loop _,ih (i+1) _ es ep t (by omega) hlt (keep h1 fun _ _ _ e=>e) x1 (by omega) (fun k=>?_) fun h' tk es' zk t' kk x' J9 LA=>?_⟩
   ·rw[hk,Oy,mem_append,mem_singleton]
    constructor
    ·exact .inl
    ·rintro (z | rfl)
     ·exact z
     ·exact (hk _).mp hm
   ·exact hR h' tk es' zk t' (fun b o b1 b2 e=>kk b o b1 b2 (kp b o (by simpa using b2) e)) x' J9 LA
  ·have Nh:JP.size=es.size+1:=by
    have:=pm.length_eq
    rw[length_append,length_map,length_map,length_toList,length_toList] at this
    exact this
   have kS:∀ b o,b≠S->h1.get? b=some o->h2.get? b=some o:=fun b o nb e=>by
    rw[sb.2 b nb]
    exact e
   refine wpAny_pure ⟨plainId_quiet PyProof.Rows.F.plain_set_update_loop _,ih (i+1) _ JP PX t2 (by omega) hlt (keep h2 kS) x2 (by omega) (fun k=>?_) fun h' tk es' zk t' kk x' J9 LA=>?_⟩
   ·rw[pm.mem_iff,mem_append,hk,Oy,mem_append]
   ·exact hR h' tk es' zk t' (fun b o b1 b2 e=>kk b o b1 b2 (kS b o b1 (kp b o (by simpa using b2) e))) x' J9 LA
end
end L2
namespace L2
open PySem
section
variable {prog:Program}{w:World}{A:Around}{E:Value->Shared->Prop}{s:Shared}
abbrev byT(w:World):Bool:=w.params.followText "set-order"
abbrev qL(w:World):Obj:=As #[] 0 (.fresh 0 0 (!byT w))
theorem EU(a:Value){Q₁:Value->Shared->Prop}(h:Q₁ (.ref s.heap.objs.size) { s with heap:=s.heap.push (qL w) }) :
  codeAny (model prog w) A (.call (.builtin "set.__new__") ⟨[.type "set", a],[]⟩) (wants Q₁ E) s:=by
 refine codeAny_of_tree ?_
 show wpAny _ A.in1 (checkBuiltinCall "set.__new__" ⟨[.type "set", a],[]⟩ >>= fun _=>again (.builtin "set.__new__" ⟨[.type "set", a],[]⟩)) _ _ s
 refine wpAny_bind (wpAny_of_eq (PySem.F.newCall_set_1 _) (wpAny_pure ⟨plainId_quiet PySem.F.plain_set_new _,codeAny_builtin PySem.F.entry_set_new ?_⟩))
 rw[Around.under_plainId PySem.F.plain_set_new]
 unfold Builtin.«set.__new__» Builtin.Frozenset.newClass
 have sub:=sub_set_self
 obtain⟨hp,g,d,tk,os⟩:=s
 dsimp only
 wp_walk
 refine wpAny_askSetting (wpAny_pure ?_)
 simp only[newObj]
 exact wpAny_bind (wpAny_alloc (wpAny_pure (wpAny_pure h)))
theorem vd{l:Addr}{items:Array Value}{ns:List Int}{Q:Value->Shared->Prop}(hh:A.handled=none)(hl:s.heap.IsList l items)(hi:PyProof.Rows.IntsAre items.toList ns)(Gz:items.size<=64)
  (h:∀ h' tk es ep t,cH h' s.heap.objs.size (!byT w) es ep t->(∀ k,k∈es.toList.map keyOf↔k∈ns)->es.size<=items.size->(∀ b o,s.heap.get? b=some o->h'.get? b=some o)->Q (.ref s.heap.objs.size) { s with heap:=h',toks:=tk }) :
  wpAny (model prog w) A (call (.type "set") [.ref l]) Q E s:=by
 have cs:=PySem.F.called_set
 obtain⟨c,tl,hmro⟩:=cs.mro
 have hmade:=cs.made
 have hsub:=cs.sub
 refine wpAny_call (codeAny_of_tree ?_)
 show wpAny _ _ (callAny (.type "set") ⟨[.ref l],[]⟩) _ _ _
 refine wpAny_pure ⟨Code.quiet_builtin _ (by decide +kernel),codeAny_builtin F.entry_type_call ?_⟩
 rw[Around.under_plain (weight_type_call_type "set" [.ref l] []) rfl]
 have h1:=cs.notType
 have h2:=cs.canCreate
 have hct:=PySem.F.typeCall_set_1 (.ref l)
 repeat (any_goals (first | assumption | wp_step))
 refine codeAny_mono (EU (.ref l) (E:=E) (Q₁:=fun ob s₁=>ob=.ref s.heap.objs.size/\s₁={ s with heap:=s.heap.push (qL w) }) ⟨rfl,rfl⟩) fun r s₁ hr=>?_
 cases r with
 | error e=>exact hr
 | ok fl =>
  cases fl with
  | ret obj =>
   obtain⟨rfl,rfl⟩:=hr
   have hS:(s.heap.push (qL w)).get? s.heap.objs.size=some (qL w):=get?_push_size _ rfl
   have hT:Shared.TypeIs { s with heap:=s.heap.push (qL w) } (.ref s.heap.objs.size) "set" := ⟨_,hS,rfl⟩
   have hli:=cs.init.lookup
   have hbi:=cs.init.bind (.ref s.heap.objs.size)
   repeat (any_goals (first | assumption | wp_step))
   refine codeAny_mono (codeAny_call_builtin (R:=wants (fun r s₂=>r=.none/\∃ h' tk es ep t,s₂={ s with heap:=h',toks:=tk }/\cH h' s.heap.objs.size (!byT w) es ep t/\(∀ k,k∈es.toList.map keyOf↔k∈ns)/\es.size<=items.size/\∀ b o,s.heap.get? b=some o->h'.get? b=some o) E) cs.init.plain PySem.F.entry_set_init (check_set_init_1 hT ?_)) fun r₂ s₂ hr₂=>?_
   ·obtain⟨ol,hol,hcl,nl,hdl⟩:=hl
    obtain⟨oc,od,odt,osl⟩:=ol
    simp only at hcl hdl
    subst hcl hdl
    have Oh:=get?_push_of_some (qL w) hol
    have qU:(s.heap.push (qL w)).IsList l items:=⟨_,Oh,rfl,nl,rfl⟩
    have q1:=PySem.F.sub_list_set
    have q2:=PySem.F.sub_list_frozenset
    have q3:(Value.type "list" == Value.type "dict")=false:=by decide
    unfold Builtin.«set.__init__» noKeywords Builtin.Frozenset.updateFrom
    generalize eP:pyIter=PI
    wp_walk
    subst eP
    refine wpAny_pyIter_list qU (wpAny_bind (wpAny_runValue ?_))
    have lS:l < s.heap.objs.size:=lt_size hol
    have sz:(s.heap.push (qL w)).objs.size=s.heap.objs.size+1:=size_push _ _
    have nI:l≠(s.heap.push (qL w)).objs.size:=by rw[sz];exact ne_of_lt (lt_succ_of_lt lS)
    have nS:s.heap.objs.size≠(s.heap.push (qL w)).objs.size:=by rw[sz];exact ne_of_lt (lt_succ_self _)
    have x0:cH ((s.heap.push (qL w)).push { cls:=.type "list_iterator", data:=.fields #[.ref l,.int 0 0] }) s.heap.objs.size (!byT w) #[] 0 (.fresh 0 0 (!byT w)):=⟨get?_push_of_some _ hS,(fun e he=>by simp at he),Pairwise.nil,by decide,rfl,eV.fresh⟩
    refine Bj (L:=!byT w) (items:=items) (ns:=ns) (by simp[hh]) nI nS (ne_of_gt lS) hi Gz items.size 0 _ #[] 0 _ rfl (zero_le _) ⟨⟨_,get?_push_size _ rfl,rfl,rfl⟩,qU.push _⟩ x0 (le_refl _) (fun k=>by simp) fun h' tk es' zk t' kp x' J9 LA=>?_
    refine wpAny_pure (wpAny_pure ⟨rfl,h',tk,es',zk,t',rfl,x',J9,LA,fun b o e=>?_⟩)
    have bl:=lt_size e
    exact kp b o (ne_of_lt bl) (by rw[sz];exact ne_of_lt (lt_succ_of_lt bl)) (get?_push_of_some _ (get?_push_of_some _ e))
   ·cases r₂ with
    | error e=>exact hr₂
    | ok f2 =>
     cases f2 with
     | ret r =>
      obtain⟨rfl,h',tk,es,ep,t,rfl,x,hk,hz,kp⟩:=hr₂
      repeat (any_goals (first | assumption | wp_step))
      exact h h' tk es ep t x hk hz kp
     | _=>exact hr₂.elim
  | _=>exact hr.elim
end
end L2
namespace L2
open PySem
theorem kG:Slot "set_iterator" "__next__" "set_iterator.__next__" := by
 refine Slot.of (owner := "set_iterator") (n := "__next__") ?_ (by decide +kernel) (by decide +kernel) (by decide +kernel) ?_ ?_
 ·rw[typeLookup_type,builtinLookup_eq_fast];kernel_rfl
 ·first | exact inl (by decide +kernel) | exact inr (by decide +kernel)
 ·rw[isSubtype_type];kernel_rfl
theorem Cd:entryFor table "set_iterator.__next__" = some Builtin.«set_iterator.__next__»:=by refine entryFor_of_tree ?_;kernel_rfl
theorem CA:entryFor table "set.__iter__" = some Builtin.«frozenset.__iter__»:=by
 refine entryFor_alias (id' := "frozenset.__iter__") ?_ rfl ?_ ?_
 ·kernel_rfl
 ·decide +kernel
 ·kernel_rfl
theorem Ci(a:Value):argsOk "set_iterator.__next__" ⟨[a],[]⟩:=by unfold argsOk;kernel_rfl
section
variable {prog:Program}{w:World}{A:Around}{E:Value->Shared->Prop}{s:Shared}
theorem wp_choose{src:Source}{n:Nat}{Q:Nat->Shared->Prop}(hn:n≠0)(h:∀ i,i < n->Q i { s with drawn:=s.drawn.bump src }):wpAny (model prog w) A (choose src n) Q E s:=fun _ _ _=>⟨hn,h _ (Nat.mod_lt _ (Nat.pos_of_ne_zero hn))⟩
theorem lG{α:Type}:∀{l:List α}{i:Nat}{x:α},l[i]?=some x->l.Perm (x::l.eraseIdx i)
 | [],i,x,h=>by simp at h
 | y::l,0,x,h=>by
  cases h
  exact Perm.refl _
 | y::l,i+1,x,h=>(Perm.cons y (lG (l:=l) (i:=i) h)).trans (Perm.swap x y _)
theorem yn:∀(n:Nat)(xs:List Nat)(s:Shared)(Q:List Nat->Shared->Prop),xs.length=n->(∀ d ys,ys.Perm xs->Q ys { s with drawn:=d })->wpAny (model prog w) A (drawOrder n xs) Q E s
 | 0,xs,s,Q,hn,h=>by
  have:xs=[]:=List.eq_nil_of_length_eq_zero hn
  subst this
  exact wpAny_pure (h s.drawn [] (Perm.refl _))
 | n+1,[],s,Q,hn,h=>by cases hn
 | n+1,x::xs,s,Q,hn,h=>by
  show wpAny _ _ (choose .order (x::xs).length >>= _) _ _ s
  refine wpAny_bind (wp_choose (by simp) fun i hi=>?_)
  have hx:(x::xs)[i]?=some ((x::xs)[i]):=getElem?_eq_getElem hi
  rw[hx]
  have pe:=lG hx
  generalize (x::xs)[i]=y at pe
  refine wpAny_bind (yn n _ _ _ (by rw[List.length_eraseIdx,if_pos hi];omega) fun d ys pm=>wpAny_pure (h d (y::ys) ?_))
  exact (Perm.cons y pm).trans pe.symm
theorem xV{α:Type}(next:Nat->Nat):∀(f k:Nat)(left:List α)(out:Array α),left.length=f->(pickOrder.go next f k left out).toList.Perm (out.toList++left)
 | 0,k,left,out,h=>by
  have:left=[]:=List.eq_nil_of_length_eq_zero h
  subst this
  show out.toList.Perm _
  rw[append_nil]
 | f+1,k,left,out,h=>by
  have hl:next k % left.length < left.length:=Nat.mod_lt _ (by omega)
  have hx:left[next k % left.length]?=some left[next k % left.length]:=getElem?_eq_getElem hl
  have pe:=lG hx
  unfold pickOrder.go
  rw[hx]
  generalize left[next k % left.length]=y at pe
  refine (xV next f (k+1) _ _ (by rw[List.length_eraseIdx,if_pos hl];omega)).trans ?_
  rw[Array.toList_push,append_assoc]
  exact Perm.append_left _ pe.symm
theorem ny{α:Type}(next:Nat->Nat)(xs:Array α):(pickOrder next xs).toList.Perm xs.toList:=by
 have:=xV next xs.size 0 xs.toList #[] (length_toList)
 simpa [pickOrder] using this
abbrev itO(f:Value)(i:Nat)(S:Addr)(n ep:Nat):Obj:={ cls:=.type "set_iterator", data:=.fields #[f,.int i 0,.ref S,.int n 0,.int ep 0] }
variable {S:Addr}{es:Array (Int×Value)}{ep:Nat}{t:SetTable}
theorem cH.drawn{Q:Bool->Shared->Prop}(x:cH s.heap S (!byT w) es ep t)(h:Q (!byT w && (!t.plain && decide (es.size > 1))) s):wpAny (model prog w) A (setDrawn S) Q E s:=by
 unfold setDrawn
 refine wpAny_bind (wpAny_setState_of x.at' rfl x.fit (wpAny_bind ?_))
 exact wpAny_bind (wpAny_askSetting (wpAny_pure (wpAny_pure h)))
theorem Bt{Q:Value->Shared->Prop}(x:cH s.heap S (!byT w) es ep t)
  (h1:(!byT w && (!t.plain && decide (es.size > 1)))=false->Q (.ref s.heap.objs.size) { s with heap:=s.heap.push (itO (.int 0 0) 0 S es.size ep) })
  (h2:(!byT w && (!t.plain && decide (es.size > 1)))=true->∀ d (ys:List Nat),ys.Perm (range es.size)->Q (.ref (s.heap.objs.size+1)) { s with heap:=(s.heap.push { cls:=.type "tuple", data:=.seq (ys.map fun i:Nat=>rawInt i).toArray }).push (itO (.ref s.heap.objs.size) 0 S es.size ep),drawn:=d }) :
  wpAny (model prog w) A (pyIter (.ref S)) Q E s:=by
 have hT:s.TypeIs (.ref S) "set" := ⟨_,x.at',rfl⟩
 refine wpAny_pyIter_slot hT PySem.F.slot_set_iter (wpAny_call_entry PySem.F.slot_set_iter hT CA ?_ (PySem.F.args_set_iter_1 _))
 unfold Builtin.«frozenset.__iter__» Builtin.Frozenset.slot0 slotArgs
 simp only[List.isEmpty_nil,Bool.not_true,false_eq_true,↓reduceIte,bind_assoc,length_nil,bne_self_eq_false]
 unfold Builtin.Frozenset.addrOf Builtin.Frozenset.sizeOf
 refine wpAny_bind (wpAny_pure (wpAny_bind (wpAny_pure (wpAny_bind (wpAny_bind (wpAny_setEntries_of x.at' rfl x.fit (wpAny_pure ?_)))))))
 refine wpAny_bind (x.drawn ?_)
 by_cases c:(!byT w && (!t.plain && decide (es.size > 1)))=true
 ·rw[if_pos c]
  refine wpAny_bind (yn _ _ _ _ length_range fun d ys pm=>?_)
  have hl:ys.length < 100:=by
   rw[pm.length_eq,length_range]
   exact x.sz
  refine wpAny_bind (wpAny_newTuple ?_ (by rw[length_map];rw[sizeLine_eq];omega))
  have k1:=get?_push_of_some { cls:=.type "tuple", data:=.seq (ys.map fun i:Nat=>rawInt i).toArray } x.at'
  refine wpAny_bind (wpAny_setEpoch_of (s:={ s with heap:=_,drawn:=d }) k1 rfl x.fit ?_)
  refine wpAny_bind (wpAny_newObj_type (wpAny_pure ⟨_,rfl, "set_iterator", _,⟨_,get?_push_size _ rfl,rfl⟩,kG.lookup,?_⟩))
  have e:(s.heap.push { cls:=.type "tuple", data:=.seq (ys.map fun i:Nat=>rawInt i).toArray }).objs.size=s.heap.objs.size+1:=size_push _ _
  have:=h2 c d ys pm
  rw[<- e] at this
  exact this
 ·rw[if_neg c]
  refine wpAny_bind (wpAny_pure (wpAny_bind (wpAny_setEpoch_of x.at' rfl x.fit ?_)))
  exact wpAny_bind (wpAny_newObj_type (wpAny_pure ⟨_,rfl, "set_iterator", _,⟨_,get?_push_size _ rfl,rfl⟩,kG.lookup,h1 (by simpa using c)⟩))
end
end L2
namespace L2
open PySem
section
variable {prog:Program}{w:World}{A:Around}{E:Value->Shared->Prop}{s:Shared}{S:Addr}{es:Array (Int×Value)}{ep:Nat}{t:SetTable}
theorem sv{sl i:Nat}{Q:Option (Value×Nat)->Shared->Prop}(x:cH s.heap S (!byT w) es ep t)(hb:byT w=true)(h:Q (((pickOrder (w.params.setOrder S ep) es)[i]?).map fun e=>(e.2,sl)) s):wpAny (model prog w) A (setNext S sl i ep) Q E s:=by
 unfold setNext
 refine wpAny_bind (wpAny_setState_of x.at' rfl x.fit ?_)
 refine wpAny_bind (wpAny_bind (wpAny_askSetting (wpAny_pure ?_)))
 show wpAny _ _ (if byT w=true then _ else _) _ _ _
 rw[if_pos hb]
 show wpAny _ _ (if (ep != ep)=true then _ else _) _ _ _
 rw[if_neg (by simp)]
 unfold setWalk
 refine wpAny_bind (wpAny_bind (wpAny_setState_of x.at' rfl x.fit ?_))
 refine wpAny_bind (wpAny_bind (wpAny_askSetting (wpAny_pure ?_)))
 show wpAny _ _ (if byT w=true then _ else _) _ _ _
 rw[if_pos hb]
 exact wpAny_bind (wpAny_askSetting (wpAny_pure (wpAny_pure h)))
theorem ph{i:Nat}{Q:Option (Value×Nat)->Shared->Prop}(x:cH s.heap S (!byT w) es ep t)(hb:byT w=false)(hd:(!t.plain && decide (es.size > 1))=false)(hi:i<=es.size)(h:Q ((es[i]?).map fun e=>(e.2,gH t.place (i+1))) s):wpAny (model prog w) A (setNext S (gH t.place i) i ep) Q E s:=by
 have led:t.led=true:=by rw[x.tab.led,hb];rfl
 have ps:t.place.size=es.size:=by
  have:=x.fit
  unfold SetTable.fits at this
  rw[and_eq_true,beq_iff_eq] at this
  exact this.1
 unfold setNext
 refine wpAny_bind (wpAny_setState_of x.at' rfl x.fit ?_)
 refine wpAny_bind (wpAny_bind (wpAny_askSetting (wpAny_pure ?_)))
 show wpAny _ _ (if byT w=true then _ else _) _ _ _
 rw[if_neg (by rw[hb];exact Bool.false_ne_true)]
 show wpAny _ _ (if (!t.plain && decide (es.size > 1))=true then _ else _) _ _ _
 rw[if_neg (by rw[hd];exact Bool.false_ne_true)]
 refine wpAny_bind ?_
 show wpAny _ _ (if (!t.led && !es.isEmpty)=true then _ else pure ()) _ _ _
 rw[if_neg (by rw[led];simp)]
 refine wpAny_pure (wpAny_pure ?_)
 rw[vc x.tab.ris (by omega)]
 by_cases c:i < es.size
 ·have c2:i < t.place.size:=by omega
  have e1:es[i]?=some es[i]:=Array.getElem?_eq_getElem c
  have e2:t.place[i]?=some t.place[i]:=Array.getElem?_eq_getElem c2
  rw[e1] at h
  rw[e1,e2]
  have e3:gH t.place (i+1)=t.place[i]+1:=by
   show t.place.getD i 0+1=_
   simp[getD,c2]
  rw[e3] at h
  exact h
 ·have e1:es[i]?=none:=Array.getElem?_eq_none (by omega)
  rw[e1] at h |-
  exact h
theorem we{p:Nat}{e:Int×Value}{Q:Value->Shared->Prop}(x:cH s.heap S (!byT w) es ep t)(hp:es[p]?=some e)(h:Q e.2 s):wpAny (model prog w) A (setNextDrawn S p ep) Q E s:=by
 unfold setNextDrawn
 refine wpAny_bind (wpAny_setState_of x.at' rfl x.fit ?_)
 show wpAny _ _ (if (ep != ep)=true then _ else _) _ _ _
 rw[if_neg (by simp),hp]
 exact wpAny_pure h
def Md(w:World)(h:Heap)(S:Addr)(es:Array (Int×Value))(ep:Nat)(t:SetTable)(first:Nat->Value)(ord:List Value):Prop :=
 (byT w=true/\(∀ i,first i=.int 0 0)/\ord=(pickOrder (w.params.setOrder S ep) es).toList.map (·.2))
 \/ (byT w=false/\(!t.plain && decide (es.size > 1))=false/\(∀ i,first i=.int (gH t.place i) 0)/\ord=es.toList.map (·.2))
 \/ ∃(tp:Addr)(ys:List Nat),h.get? tp=some { cls:=.type "tuple", data:=.seq (ys.map fun i:Nat=>rawInt i).toArray }/\ys.Perm (range es.size)/\(∀ i,first i=.ref tp)/\ord=ys.map fun p=>(es.toList.getD p (0,.none)).2
theorem rR{α β:Type}(g:α->β)(d:α)(l:List α){ys:List Nat}(h:ys.Perm (range l.length)):(ys.map fun p=>g (l.getD p d)).Perm (l.map g):=by
 refine (h.map _).trans (Perm.of_eq ?_)
 apply ext_getElem?
 intro i
 rw[getElem?_map,getElem?_map]
 by_cases c:i < l.length
 ·rw[getElem?_range c,getElem?_eq_getElem c]
  simp[getD_eq_getElem?_getD,c]
 ·rw[getElem?_eq_none (by rw[length_range];omega),getElem?_eq_none (by omega)]
  rfl
theorem Md.perm{h:Heap}{first:Nat->Value}{ord:List Value}(m:Md w h S es ep t first ord):ord.Perm (es.toList.map (·.2)):=by
 rcases m with ⟨_,_,rfl⟩ | ⟨_,_,_,rfl⟩ | ⟨tp,ys,_,pm,_,rfl⟩
 ·exact (ny _ es).map _
 ·exact Perm.refl _
 ·exact rR _ _ _ (by rw[length_toList];exact pm)
theorem Md.to{h h':Heap}{first:Nat->Value}{ord:List Value}(m:Md w h S es ep t first ord)(k:∀ a o,first 0=.ref a->h.get? a=some o->h'.get? a=some o):Md w h' S es ep t first ord:=by
 rcases m with m | m | ⟨tp,ys,h1,pm,h2,h3⟩
 ·exact .inl m
 ·exact .inr (.inl m)
 ·exact .inr (.inr ⟨tp,ys,k _ _ (h2 0) h1,pm,h2,h3⟩)
theorem r9{a:Addr}{o:Obj}{vs:Array Value}{Q:Array Value->Shared->Prop}(ho:s.heap.get? a=some o)(hd:o.data=.fields vs)(h:Q vs s):wpAny (model prog w) A (fieldsOf (.ref a)) Q E s:=by
 unfold fieldsOf
 refine wpAny_bind (wpAny_load ho ?_)
 rw[hd]
 exact wpAny_pure h
theorem next_item{I:Addr}{i:Nat}{first:Nat->Value}{ord:List Value}{Q:Option Value->Shared->Prop}(x:cH s.heap S (!byT w) es ep t)(m:Md w s.heap S es ep t first ord)(hI:s.heap.get? I=some (itO (first i) i S es.size ep))(nS:S≠I)(hi:i < es.size)
  (h:∀ h' v,ord[i]?=some v->h'.get? I=some (itO (first (i+1)) (i+1) S es.size ep)->SameBut I s.heap h'->Q (some v) { s with heap:=h' }):wpAny (model prog w) A (pyNext (.ref I)) Q E s:=by
 have hT:s.TypeIs (.ref I) "set_iterator" := ⟨_,hI,rfl⟩
 unfold pyNext
 refine wpAny_bind (wpAny_attempt (wpAny_callSpecial?_slot (name:=Str.ofString "__next__") hT kG (wpAny_call_entry kG hT Cd ?_ (Ci _))))
 unfold Builtin.«set_iterator.__next__» slotArgs
 simp only[List.isEmpty_nil,Bool.not_true,false_eq_true,↓reduceIte,bind_assoc,length_nil,bne_self_eq_false]
 refine wpAny_bind (wpAny_pure (wpAny_bind (r9 hI rfl ?_)))
 dsimp only
 refine wpAny_bind (wpAny_setEntries_of x.at' rfl x.fit ?_)
 rw[if_neg (by simp)]
 rcases m with ⟨hb,hf,rfl⟩ | ⟨hb,hd,hf,rfl⟩ | ⟨tp,ys,ht,pm,hf,rfl⟩
 ·have el:i < ((pickOrder (w.params.setOrder S ep) es).toList.map (·.2)).length:=by
   rw[length_map,(ny _ es).length_eq,length_toList]
   exact hi
  rw[hf i] at hI |-
  rw[hf (i+1)] at h
  refine wpAny_bind (sv (i:=i) (sl:=0) x hb ?_)
  have PM:i < (pickOrder (w.params.setOrder S ep) es).size:=by rwa [length_map,length_toList] at el
  have e1:(pickOrder (w.params.setOrder S ep) es)[i]?=some (pickOrder (w.params.setOrder S ep) es)[i]:=Array.getElem?_eq_getElem PM
  simp only[toNat_natCast]
  rw[e1]
  have h:=fun h'=>h h' (pickOrder (w.params.setOrder S ep) es)[i].2 (by simp[PM])
  generalize (pickOrder (w.params.setOrder S ep) es)[i]=e at h
  refine wpAny_bind (wpAny_setField_rec hI (by simp) fun h1 g1 b1=>?_)
  refine wpAny_bind (wpAny_setField_rec (s:={ s with heap:=h1 }) g1 (by simp) fun h2 g2 b2=>?_)
  exact wpAny_pure ⟨_,rfl,wpAny_pure (h h2 g2 (b1.trans b2))⟩
 ·rw[hf i] at hI |-
  rw[hf (i+1)] at h
  refine wpAny_bind (ph (i:=i) x hb hd (Nat.le_of_lt hi) ?_)
  have e1:es[i]?=some es[i]:=Array.getElem?_eq_getElem hi
  rw[e1]
  have h:=fun h'=>h h' es[i].2 (by simp[hi])
  refine wpAny_bind (wpAny_setField_rec hI (by simp) fun h1 g1 b1=>?_)
  refine wpAny_bind (wpAny_setField_rec (s:={ s with heap:=h1 }) g1 (by simp) fun h2 g2 b2=>?_)
  exact wpAny_pure ⟨_,rfl,wpAny_pure (h h2 g2 (b1.trans b2))⟩
 ·have yl:ys.length=es.size:=by rw[pm.length_eq,length_range]
  have iy:i < ys.length:=by omega
  have pl:ys[i] < es.size:=mem_range.mp (pm.mem_iff.mp (getElem_mem iy))
  rw[hf i] at hI |-
  rw[hf (i+1)] at h
  refine wpAny_bind (wpAny_seqItems ht rfl ?_)
  have e1:((ys.map fun i:Nat=>rawInt i).toArray)[((i:Nat):Int).toNat]?=some (rawInt (ys[i]:Nat)):=by
   rw[toNat_natCast]
   simp[iy]
  dsimp only
  rw[e1]
  have e2:es[ys[i]]?=some es[ys[i]]:=Array.getElem?_eq_getElem pl
  refine wpAny_bind (we (p:=ys[i]) x e2 ?_)
  have h:=fun h'=>h h' es[ys[i]].2 (by simp[iy,pl])
  refine wpAny_bind (wpAny_setField_rec hI (by simp) fun h1 g1 b1=>?_)
  exact wpAny_pure ⟨_,rfl,wpAny_pure (h h1 g1 b1)⟩
theorem lR{Q:Option Value->Shared->Prop}{R:Fin->Shared->Prop}(hh:A.handled=none)(h:∀ h',(∀ b o,s.heap.get? b=some o->h'.get? b=some o)->Q none { s with heap:=h' }) :
  wpAny (model prog w) A.in1 (newExc (Value.type "StopIteration") [] >>= fun e=>raiseNew e) R (fun e s'=>wpAny (model prog w) A (isInstance e (Value.type "StopIteration") >>= fun b=>if b=true then pure none else throw e) Q E s') s:=by
 refine wpAny_bind ?_
 unfold newExc newTuple
 refine wpAny_bind (wpAny_newObj_type ?_ (by size_fits))
 refine wpAny_bind (m:=firstArgMember _ _) (wpAny_of_eq (a:=Value.none) ?_ ?_)
 ·first | rfl | (simp only[firstArgMember];rfl)
 refine wpAny_newObj_type ?_ (by size_fits)
 unfold raiseNew
 refine wpAny_bind (wpAny_handled ?_)
 have h1:A.in1.handled=none:=hh
 rw[h1]
 refine wpAny_bind (wpAny_pure (wpAny_throw ?_))
 refine wpAny_bind (wpAny_isInstance (T := "StopIteration") (b:=true) ⟨_,get?_push_size _ rfl,rfl⟩ isSubtype_stop ?_)
 exact wpAny_pure (h _ fun b o e=>get?_push_of_some _ (get?_push_of_some _ e))
theorem next_end{I:Addr}{first:Nat->Value}{ord:List Value}{Q:Option Value->Shared->Prop}(hh:A.handled=none)(x:cH s.heap S (!byT w) es ep t)(m:Md w s.heap S es ep t first ord)(hI:s.heap.get? I=some (itO (first es.size) es.size S es.size ep))
  (h:∀ h',(∀ b o,b≠I->s.heap.get? b=some o->h'.get? b=some o)->Q none { s with heap:=h' }):wpAny (model prog w) A (pyNext (.ref I)) Q E s:=by
 have hT:s.TypeIs (.ref I) "set_iterator" := ⟨_,hI,rfl⟩
 unfold pyNext
 refine wpAny_bind (wpAny_attempt (wpAny_callSpecial?_slot (name:=Str.ofString "__next__") hT kG (wpAny_call_entry kG hT Cd ?_ (Ci _))))
 unfold Builtin.«set_iterator.__next__» slotArgs
 simp only[List.isEmpty_nil,Bool.not_true,false_eq_true,↓reduceIte,bind_assoc,length_nil,bne_self_eq_false]
 refine wpAny_bind (wpAny_pure (wpAny_bind (r9 hI rfl ?_)))
 dsimp only
 refine wpAny_bind (wpAny_setEntries_of x.at' rfl x.fit ?_)
 rw[if_neg (by simp)]
 have kb:∀(h1:Heap),SameBut I s.heap h1->∀ b o,b≠I->s.heap.get? b=some o->h1.get? b=some o:=fun h1 sb b o nb e=>by
  rw[sb.2 b nb]
  exact e
 rcases m with ⟨hb,hf,rfl⟩ | ⟨hb,hd,hf,rfl⟩ | ⟨tp,ys,ht,pm,hf,rfl⟩
 ·rw[hf] at hI |-
  refine wpAny_bind (sv (i:=es.size) (sl:=0) x hb ?_)
  have e1:(pickOrder (w.params.setOrder S ep) es)[es.size]?=none:=by
   have:=(ny (w.params.setOrder S ep) es).length_eq
   rw[length_toList,length_toList] at this
   exact Array.getElem?_eq_none (by omega)
  simp only[toNat_natCast]
  rw[e1]
  refine wpAny_bind (wpAny_setField_rec hI (by simp) fun h1 g1 b1=>?_)
  exact lR hh fun h' k=>h h' fun b o nb e=>k b o (kb h1 b1 b o nb e)
 ·rw[hf] at hI |-
  refine wpAny_bind (ph (i:=es.size) x hb hd (le_refl _) ?_)
  have e1:es[es.size]?=none:=Array.getElem?_eq_none (le_refl _)
  rw[e1]
  refine wpAny_bind (wpAny_setField_rec hI (by simp) fun h1 g1 b1=>?_)
  exact lR hh fun h' k=>h h' fun b o nb e=>k b o (kb h1 b1 b o nb e)
 ·have yl:ys.length=es.size:=by rw[pm.length_eq,length_range]
  rw[hf] at hI |-
  refine wpAny_bind (wpAny_seqItems ht rfl ?_)
  have e1:((ys.map fun i:Nat=>rawInt i).toArray)[((es.size:Nat):Int).toNat]?=none:=by
   rw[toNat_natCast]
   simp[yl]
  dsimp only
  rw[e1]
  refine wpAny_bind (wpAny_setField_rec hI (by simp) fun h1 g1 b1=>?_)
  refine wpAny_bind (wpAny_setField_rec (s:={ s with heap:=h1 }) g1 (by simp) fun h2 g2 b2=>?_)
  exact lR hh fun h' k=>h h' fun b o nb e=>k b o (kb h2 (b1.trans b2) b o nb e)
end
end L2
namespace L2
open PySem
section
variable {prog:Program}{w:World}{A:Around}{E:Value->Shared->Prop}{s:Shared}{S:Addr}{es:Array (Int×Value)}{ep:Nat}{t:SetTable}
abbrev rP(xs:Array Value)(c:Nat):Obj:={ cls:=.type "list", data:=.seq xs c }
theorem CS{Q:Bool->Shared->Prop}(hT:s.TypeIs (.ref S) "set")(h:Q false s):wpAny (model prog w) A (Builtin.List.listLengthHint (.ref S)) Q E s:=by
 unfold Builtin.List.listLengthHint
 refine wpAny_bind (wpAny_specialOf hT PySem.F.slot_set_len.lookup ?_)
 generalize e0:("set.__len__" : String)=i0
 wp_delta
 have e1:splitId i0=some ("set", "__len__"):=by subst e0;decide +kernel
 rw[e1]
 subst e0
 refine wpAny_bind (wpAny_isInstance (T := "set") (b:=true) hT sub_set_self ?_)
 refine wpAny_ite_split (fun z=>absurd z (by decide)) (fun _=>wpAny_ite_split (fun _=>?_) (fun z=>absurd (by decide +kernel) z))
 exact wpAny_bind (wpAny_typeOf hT (wpAny_pure h))
theorem Bx{R:Result->Shared->Prop}{I D:Addr}{first:Nat->Value}{ord:List Value}{res:Value}(hh:A.in1.handled=none)(Mw:S≠I)(Lm:D≠S)(JQ:D≠I)(nf:first 0≠.ref D)(M2:first 0≠.ref I) :
  ∀(m i:Nat)(s:Shared)(acc:Array Value)(c:Nat),es.size - i=m->i<=es.size->cH s.heap S (!byT w) es ep t->Md w s.heap S es ep t first ord->s.heap.get? I=some (itO (first i) i S es.size ep)->s.heap.get? D=some (rP acc c)->acc.toList=ord.take i ->
   (∀ h' bu c',(∀ b o,b≠D->b≠I->s.heap.get? b=some o->h'.get? b=some o)->h'.get? D=some (rP bu c')->bu.toList=ord->R (.ok (.ret res)) { s with heap:=h' }) ->
   codeAny (model prog w) A (.builtin "list.extend.loop" ⟨[.ref D,.ref I,res],[]⟩) R s:=by
 intro m
 induction m with
 | zero =>
  intro i s acc c hm hi x md hI hD ha hR
  have e:i=es.size:=by omega
  subst e
  have ol:ord.length=es.size:=by rw[md.perm.length_eq,length_map,length_toList]
  refine codeAny_builtin PySem.F.entry_extend_loop ?_
  rw[Around.under_plainId PySem.F.plain_extend_loop]
  show wpAny _ A.in1 (pyNext (.ref I) >>= _) _ _ _
  refine wpAny_bind (next_end hh x md hI fun h' k=>wpAny_pure (hR h' acc c (fun b o _ b2 e=>k b o b2 e) (k D _ JQ hD) ?_))
  rw[ha,<- ol,take_length]
 | succ m ih =>
  intro i s acc c hm hi x md hI hD ha hR
  have hlt:i < es.size:=by omega
  have z:=x.sz
  have ol:ord.length=es.size:=by rw[md.perm.length_eq,length_map,length_toList]
  have al:acc.size=i:=by
   have:=congrArg List.length ha
   rw[length_toList,length_take] at this
   omega
  refine codeAny_builtin PySem.F.entry_extend_loop ?_
  rw[Around.under_plainId PySem.F.plain_extend_loop]
  show wpAny _ A.in1 (pyNext (.ref I) >>= _) _ _ _
  refine wpAny_bind (next_item x md hI Mw hlt fun h1 v hv g1 b1=>?_)
  have k1:∀ b o,b≠I->s.heap.get? b=some o->h1.get? b=some o:=fun b o nb e=>by
   rw[b1.2 b nb]
   exact e
  have Po:=k1 D _ JQ hD
  show wpAny _ A.in1 (updateSeq D (·.push v) >>= _) _ _ _
  refine wpAny_bind (wpAny_updateSeq (s:={ s with heap:=h1 }) Po rfl ?_ (by rw[al,sizeLine_eq];omega) (by rw[Array.size_push,al,sizeLine_eq];omega))
  have k2:∀ b o,b≠D->h1.get? b=some o->(h1.update D (Obj.mapSeq (·.push v))).get? b=some o:=fun b o nb e=>(get?_update_other _ _ (Ne.symm nb)).trans e
  have RN:=get?_update_self (Obj.mapSeq (·.push v)) Po rfl
  refine wpAny_pure ⟨plainId_quiet PySem.F.plain_extend_loop _,ih (i+1) _ (acc.push v) _ (by omega) hlt (x.to fun o e=>k2 S o (Ne.symm Lm) (k1 S o Mw e)) (md.to fun a o ea e=>k2 a o (fun q=>nf (by rw[ea,q])) (k1 a o (fun q=>M2 (by rw[ea,q])) e)) (k2 I _ (Ne.symm JQ) g1) RN ?_ fun h' bu c' kk KR N7=>?_⟩
  ·rw[Array.toList_push,ha]
   have hl:i < ord.length:=by omega
   rw[take_succ_eq_append_getElem hl]
   rw[getElem?_eq_getElem hl] at hv
   cases hv
   rfl
  ·exact hR h' bu c' (fun b o b1 b2 e=>kk b o b1 b2 (k2 b o b1 (k1 b o b2 e))) KR N7
theorem Bw{R:Result->Shared->Prop}{D:Addr}{res:Value}{c:Nat}(hh:A.in1.handled=none)(x:cH s.heap S (!byT w) es ep t)(hD:s.heap.get? D=some (rP #[] c))(Lm:D≠S)
  (hR:∀ h' d bu c',(∀ b o,b≠D->s.heap.get? b=some o->h'.get? b=some o)->h'.get? D=some (rP bu c')->bu.toList.Perm (es.toList.map (·.2))->R (.ok (.ret res)) { s with heap:=h',drawn:=d }) :
  wpAny (model prog w) A.in1 (Builtin.List.listExtendWith (.ref D) (.ref S) res)
   (fun fin s'=>match fin with | .done f=>R (.ok f) s' | .again c'=>c'.quiet=true/\codeAny (model prog w) A c' R s') (fun e s'=>R (.error e) s') s:=by
 have hT:s.TypeIs (.ref S) "set" := ⟨_,x.at',rfl⟩
 have ds:=lt_size hD
 have ss:=lt_size x.at'
 have go:∀(h1:Heap)(d:Drawn)(I:Addr)(first:Nat->Value)(ord:List Value),s.heap.objs.size<=I->(∀ b o,s.heap.get? b=some o->h1.get? b=some o)->h1.get? I=some (itO (first 0) 0 S es.size ep)->Md w h1 S es ep t first ord->(∀ a,first 0=.ref a->s.heap.objs.size<=a/\a≠I) ->
   wpAny (model prog w) A.in1 (holding [Value.ref I] (Builtin.List.listLengthHint (.ref S)) >>= fun room=>if (room || ["set", "frozenset", "dict", "dict_keys", "dict_values", "dict_items"].any (Value.type "set" == .type ·))=true then (rule "list.extend.makes-room" >>= fun _=>Builtin.List.listTouch (.ref D) >>= fun _=>again (.builtin "list.extend.loop" ⟨[.ref D,.ref I,res],[]⟩)) else again (.builtin "list.extend.loop" ⟨[.ref D,.ref I,res],[]⟩))
    (fun fin s'=>match fin with | .done f=>R (.ok f) s' | .again c'=>c'.quiet=true/\codeAny (model prog w) A c' R s') (fun e s'=>R (.error e) s') { s with heap:=h1,drawn:=d }:=by
  intro h1 d I first ord Ni k1 hI md hf
  have Mw:S≠I:=ne_of_lt (lt_of_lt_of_le ss Ni)
  have JQ:D≠I:=ne_of_lt (lt_of_lt_of_le ds Ni)
  have nf:first 0≠.ref D:=fun z=>absurd (hf D z).1 (Nat.not_le.mpr ds)
  have M2:first 0≠.ref I:=fun z=>(hf I z).2 rfl
  have Sn:({ s with heap:=h1,drawn:=d }:Shared).TypeIs (.ref S) "set" := ⟨_,k1 _ _ x.at',rfl⟩
  refine wpAny_bind (wpAny_holding (CS Sn ?_))
  rw[if_pos (by decide)]
  refine wpAny_bind (wpAny_rule (wpAny_bind ?_))
  show wpAny _ _ (updateSeq D (·.push .none) >>= fun _=>updateSeq D (·.pop)) _ _ _
  refine wpAny_bind (wpAny_updateSeq (s:={ s with heap:=h1,drawn:=d }) (k1 _ _ hD) rfl ?_)
  have g2:=get?_update_self (Obj.mapSeq (·.push Value.none)) (k1 _ _ hD) rfl
  refine wpAny_updateSeq (s:={ s with heap:=h1.update D (Obj.mapSeq (·.push Value.none)),drawn:=d }) (hz:=by seq_fits) g2 rfl ?_
  have g3:=get?_update_self (Obj.mapSeq (·.pop)) g2 rfl
  have k3:∀ b o,b≠D->h1.get? b=some o->((h1.update D (Obj.mapSeq (·.push Value.none))).update D (Obj.mapSeq (·.pop))).get? b=some o:=fun b o nb e=>(get?_update_other _ _ (Ne.symm nb)).trans ((get?_update_other _ _ (Ne.symm nb)).trans e)
  refine wpAny_pure ⟨plainId_quiet PySem.F.plain_extend_loop _,Bx hh Mw Lm JQ nf M2 es.size 0 _ #[] _ rfl (zero_le _) (x.to fun o e=>k3 S o (Ne.symm Lm) (k1 S o e)) (md.to fun a o ea e=>k3 a o (fun q=>nf (by rw[ea,q])) e) (k3 I _ (Ne.symm JQ) hI) g3 rfl fun h' bu c' kk KR N7=>?_⟩
  refine hR h' d bu c' (fun b o nb e=>kk b o nb (ne_of_lt (lt_of_lt_of_le (lt_size e) Ni)) (k3 b o nb (k1 b o e))) KR ?_
  rw[N7]
  exact md.perm
 unfold Builtin.List.listExtendWith
 refine wpAny_bind (wpAny_typeOf (T := "set") hT ?_)
 have n1:Builtin.List.listSameRef (.ref D) (.ref S)=false:=by simp[Builtin.List.listSameRef,Lm]
 have n2:(Value.type "set" == Value.type "list")=false:=by decide
 have n3:(Value.type "set" == Value.type "tuple")=false:=by decide
 simp only[n1,n2,n3,Bool.or_false,false_eq_true,if_false]
 refine wpAny_bind (Bt x (fun hc=>?_) (fun hc d ys pm=>?_))
 ·by_cases hb:byT w=true
  ·exact go _ s.drawn _ (fun _=>.int 0 0) _ (le_refl _) (fun b o e=>get?_push_of_some _ e) (get?_push_size _ rfl) (.inl ⟨hb,fun _=>rfl,rfl⟩) fun a z=>by cases z
  ·have C2:byT w=false:=by simpa using hb
   exact go _ s.drawn _ (fun i=>.int (gH t.place i) 0) _ (le_refl _) (fun b o e=>get?_push_of_some _ e) (get?_push_size _ rfl) (.inr (.inl ⟨C2,by rw[C2] at hc;simpa using hc,fun _=>rfl,rfl⟩)) fun a z=>by cases z
 ·have e1:(s.heap.push { cls:=.type "tuple", data:=.seq (ys.map fun i:Nat=>rawInt i).toArray }).objs.size=s.heap.objs.size+1:=size_push _ _
  have gt:=get?_push_size s.heap (o:={ cls:=.type "tuple", data:=.seq (ys.map fun i:Nat=>rawInt i).toArray }) rfl
  have gi:=get?_push_size (s.heap.push { cls:=.type "tuple", data:=.seq (ys.map fun i:Nat=>rawInt i).toArray }) (o:=itO (.ref s.heap.objs.size) 0 S es.size ep) rfl
  rw[e1] at gi
  exact go _ d _ (fun _=>.ref s.heap.objs.size) _ (le_succ _) (fun b o e=>get?_push_of_some _ (get?_push_of_some _ e)) gi (.inr (.inr ⟨_,ys,get?_push_of_some _ gt,pm,fun _=>rfl,rfl⟩)) fun a z=>by
   cases z
   exact⟨le_refl _,ne_of_lt (lt_succ_self _)⟩
theorem vo{Q:List Value->Shared->Prop}(hh:A.handled=none)(x:cH s.heap S (!byT w) es ep t)(h:∀ h' d vs,s.heap.objs.size < h'.objs.size->(∀ b o,s.heap.get? b=some o->h'.get? b=some o)->vs.Perm (es.toList.map (·.2))->Q vs { s with heap:=h',drawn:=d }):wpAny (model prog w) A (collect (.ref S)) Q E s:=by
 have ss:=lt_size x.at'
 unfold collect
 refine wpAny_bind (wpAny_runValue (codeAny_builtin PyProof.Rows.entry_proto_collect' ?_))
 rw[Around.under_plainId PySem.F.plain_proto_collect]
 show wpAny _ A.in1 (newList [] >>= fun l=>again (.builtin "list.__iadd__" ⟨[l,.ref S],[]⟩)) _ _ _
 refine wpAny_bind (wpAny_newObj_type (wpAny_pure ⟨plainId_quiet PySem.F.plain_list_iadd _,codeAny_builtin PyProof.Rows.entry_list_iadd' ?_⟩))
 rw[Around.under_plainId PySem.F.plain_list_iadd]
 show wpAny _ A.in1 (Builtin.List.listExtendWith (.ref s.heap.objs.size) (.ref S) (.ref s.heap.objs.size)) _ _ _
 have key:=Bw (prog:=prog) (A:=A) (s:={ s with heap:=s.heap.push (rP #[] 0) }) (D:=s.heap.objs.size) (res:=.ref s.heap.objs.size) (c:=0)
  (R:=fun q s'=>∃ h' d bu c',q=.ok (.ret (.ref s.heap.objs.size))/\s'={ s with heap:=h',drawn:=d }/\(∀ b o,s.heap.get? b=some o->h'.get? b=some o)/\h'.get? s.heap.objs.size=some (rP bu c')/\bu.toList.Perm (es.toList.map (·.2)))
  hh (x.to fun o e=>get?_push_of_some _ e) (get?_push_size _ rfl) (ne_of_gt ss) fun h' d bu c' k hD pm=>⟨h',d,bu,c',rfl,rfl,fun b o e=>k b o (ne_of_lt (lt_size e)) (get?_push_of_some _ e),hD,pm⟩
 refine wpAny_mono key (fun fin s' q=>?_) fun e s' q=>?_
 ·cases fin with
  | done f =>
   obtain⟨h',d,bu,c',e,rfl,k,hD,pm⟩:=q
   cases e
   show wpAny _ A (load s.heap.objs.size >>= _) _ _ _
   exact wpAny_bind (wpAny_load hD (wpAny_pure (h h' d _ (lt_size hD) k pm)))
  | again c₁ =>
   refine⟨q.1,codeAny_mono q.2 fun r s₂ y=>?_⟩
   obtain⟨h',d,bu,c',rfl,rfl,k,hD,pm⟩:=y
   show wpAny _ A (load s.heap.objs.size >>= _) _ _ _
   exact wpAny_bind (wpAny_load hD (wpAny_pure (h h' d _ (lt_size hD) k pm)))
 ·obtain⟨_,_,_,_,e',_⟩:=q
  cases e'
theorem sq:∀ {l:List (Int×Value)},(∀ e∈l,∃ k tk,e=(hashInt k,Value.int k tk))->PyProof.Rows.IntsAre (l.map (·.2)) (l.map keyOf)
 | [],_=>.nil
 | e::l,h=>by
  obtain⟨k,tk,rfl⟩:=h _ mem_cons_self
  exact .cons k tk (sq fun e he=>h e (mem_cons_of_mem _ he))
theorem yX{vs us:List Value}{ks:List Int}(hi:PyProof.Rows.IntsAre us ks)(pm:vs.Perm us):∃ PQ,PyProof.Rows.IntsAre vs PQ/\PQ.Perm ks:=by
 refine⟨vs.map PyProof.Rows.numOf,PyProof.Rows.intsAre_map vs fun v hv=>PyProof.Rows.IntsAre.all hi v (pm.mem_iff.mp hv),?_⟩
 have:=pm.map PyProof.Rows.numOf
 rwa [PyProof.Rows.IntsAre.nums hi] at this
theorem Ki{l:List Int}(h:l.Pairwise (·<=·))(nd:l.Nodup):l.Pairwise (· < ·):=by
 refine (Pairwise.and h nd).imp fun {a b} z=>?_
 have:=z.1
 have:=z.2
 omega
theorem xx{Q:Value->Shared->Prop}(hh:A.handled=none)(x:cH s.heap S (!byT w) es ep t)(Gz:es.size < 64)(h:∀ h' d D out c zs,s.heap.objs.size<=D->(∀ b o,s.heap.get? b=some o->h'.get? b=some o)->h'.get? D=some (rP out c)->PyProof.Rows.IntsAre out.toList zs->zs.Pairwise (· < ·)->(∀ k,k∈zs↔k∈es.toList.map keyOf)->zs.length=es.size->Q (.ref D) { s with heap:=h',drawn:=d }) :
  wpAny (model prog w) A (call (.builtin "sorted") [.ref S]) Q E s:=by
 refine Calls.call_function_entry PyProof.Rows.kind_sorted PyProof.Rows.plain_sorted PyProof.Rows.entry_sorted (PyProof.Rows.args_sorted1 _) ?_
 unfold Builtin.«sorted»
 refine wpAny_bind (m:=checkCount "sorted" 1 1 _) (wpAny_pure (wpAny_bind (vo hh x fun h1 d vs RW k pm=>?_)))
 obtain⟨ks,hi,pk⟩:=yX (sq x.sh) pm
 have vl:vs.length < 64:=by
  rw[pm.length_eq,length_map,length_toList]
  exact Gz
 refine wpAny_bind (wpAny_newList ?_ (by rw[sizeLine_eq];omega))
 have g0:(h1.push (rP vs.toArray 0)).get? h1.objs.size=some (rP vs.toArray 0):=get?_push_size _ rfl
 refine wpAny_bind (wpAny_holding (wpAny_call_entry PyProof.Rows.slot_list_sort (s:={ s with heap:=h1.push (rP vs.toArray 0),drawn:=d }) ⟨_,g0,rfl⟩ PyProof.Rows.entry_list_sort (PyProof.Rows.list_sort_tree g0 hi vl fun out zs a1 a2 a3=>⟨_,rfl,?_⟩) (PyProof.Rows.args_list_sort _)))
 obtain⟨c,g1⟩:=PyProof.Rows.sortedHeap_at (out:=out) g0
 refine wpAny_pure ⟨_,rfl,h _ d _ out c zs (Nat.le_of_lt RW) (fun b o e=>?_) g1 a1 (Ki a3 ((a2.trans pk).nodup_iff.mpr x.nd)) (fun k=>(a2.trans pk).mem_iff) (by rw[(a2.trans pk).length_eq,length_map,length_toList])⟩
 have bl:=lt_size (k b o e)
 rw[PyProof.Rows.sortedHeap_old (ne_of_lt bl) (by rw[size_push];exact lt_succ_of_lt bl)]
 exact get?_push_of_some _ (k b o e)
end
end L2
namespace L2
open PySem
def KW(te:TE):TE:=fun σ H Q=>te σ H fun v H1=>∃(l:Addr)(ns:List Int),v=.ref l/\H1 l=some (.lst (ns.map V.int))/\ns.length<=60/\∀(p:Addr)(zs:List Int),zs.Pairwise (· < ·)->(∀ k:Int,k∈zs↔k∈ns)->H1 p=none->Q (.ref p) (upd H1 p (.lst (zs.map V.int)))
theorem l8:∀{ns:List Int}{vs:List Value},PyProof.Rows.IntsAre vs ns->bc (ns.map V.int) vs
 | _,_,.nil=>.nil
 | _,_,.cons n t r=>.cons ⟨t,rfl⟩ (l8 r)
theorem HW:bootBuiltins "set" = some (.type "set"):=by decide +kernel
section
variable {X:Cx}{e:Expr}{te:TE}{p1 p2 p3 p4:Pos}
theorem Ip(hc:X.calm=true)(he:PE X e te)(Od:Gl X "sorted")(MI:X.mg "sorted" = none)(Oa:bootBuiltins "sorted" = some (.builtin "sorted"))(Nr:Gl X "set")(NI:X.mg "set" = none)(Oi:bootBuiltins "set" = some (.type "set"))
  (s1:starEach [.Call (.Name "set" p2) [e] [] p3] X.env=[(false,eval (.Call (.Name "set" p2) [e] [] p3) X.env)]:=by rfl) (s2:starEach [e] X.env=[(false,eval e X.env)]:=by rfl) :
  PE X (.Call (.Name "sorted" p1) [.Call (.Name "set" p2) [e] [] p3] [] p4) (KW te):=by
 intro pins s σ H Q I h
 refine wpAny_Call_Name_kw (kv I Od MI Oa ?_ (by decide) (by decide))
 refine PyProof.Rows.callWith_builtin1 (e:=.Call (.Name "set" p2) [e] [] p3) (rest:=[]) ?_ s1 rfl
 rw[s1]
 refine Calls.spliced_cons ?_
 refine wpAny_Call_Name_kw (kv I Nr NI Oi ?_ (by decide) (by decide))
 refine PyProof.Rows.callWith_type1 (e:=e) (rest:=[]) ?_ s2 rfl
 rw[s2]
 refine Calls.spliced_cons (thn (he pins s σ H _ I h) fun u JU ⟨v,H1,I1,rv,l,ns,ev,hl,hn,hq⟩=>Calls.spliced_nil ?_)
 subst ev
 cases rv
 obtain⟨aN,rl,pl,hz⟩:=I1.list (SqL.of hl)
 have hi:=fY rl
 have il:aN.toArray.size=ns.length:=by
  have:=PyProof.Rows.IntsAre.length hi
  simpa using this
 have hh:=I1.ok.hd hc
 refine vd hh pl.isList (by simpa using hi) (by omega) fun h2 tk es ep t x hk hsz kp=>Calls.spliced_nil ?_
 have Sl:es.size < 64:=by omega
 refine xx (s:={ JU with heap:=h2,toks:=tk }) hh x Sl fun h3 d D out c zs hD k3 gD hzs hlt hmem hzl=>?_
 have S0:JU.heap.objs.size<=D:=le_trans (Nat.le_of_lt (lt_size x.at')) hD
 have kk:∀ b o,JU.heap.get? b=some o->h3.get? b=some o:=fun b o e=>k3 b o (kp b o e)
 have hn:H1 D=none:=I1.hok.fresh S0
 have zl:(zs.map V.int).length<=sizeLine:=by
  rw[length_map,hzl,sizeLine_eq]
  omega
 have new:cM X.prog X.w (upd H1 D (.lst (zs.map V.int))) h3 D (.lst (zs.map V.int)):=⟨zl,out.toList,c,l8 hzs,gD⟩
 refine⟨.ref D,upd H1 D (.lst (zs.map V.int)),?_,rfl,hq D zs hlt (fun k=>(hmem k).trans (hk k)) hn⟩
 exact I1.yI (s':={ JU with heap:=h3,toks:=tk,drawn:=d }) (ch:=[]) rfl (Un.laid kk S0 hn) (I1.hok.laid kk S0 new) I1.bare fun b hb=>by cases hb
theorem HN(hc:X.calm=true)(he:QE X e te)(Od:Gl X "sorted")(MI:X.mg "sorted" = none)(Oa:bootBuiltins "sorted" = some (.builtin "sorted"))(Nr:Gl X "set")(NI:X.mg "set" = none)(Oi:bootBuiltins "set" = some (.type "set"))
  (s1:starEach [.Call (.Name "set" p2) [e] [] p3] X.env=[(false,eval (.Call (.Name "set" p2) [e] [] p3) X.env)]:=by rfl) (s2:starEach [e] X.env=[(false,eval e X.env)]:=by rfl) :
  QE X (.Call (.Name "sorted" p1) [.Call (.Name "set" p2) [e] [] p3] [] p4) (KW te):=⟨Ip hc he.p Od MI Oa Nr NI Oi s1 s2⟩
end
end L2
namespace L2
open PySem PySem.Spec PyProof.Rows
section
variable {X:Cx}{e:Expr}{te:TE}{p1 p2 p3 p4:Pos}
end
end L2
namespace L2
open PySem PyProof.Rows PySem.SeqAt
section
variable {X:Cx}
end
end L2
namespace L2
open PySem PyProof.Rows PySem.SeqAt
section
variable {X:Cx}
def RF:R2:=fun x y H Q=>∃(a p:Addr)(ts:List Int)(js:List Nat)(f:Nat->Addr)(g:Nat->List Int),x=.ref a/\y=.ref p/\H a=some (.tup (ts.map V.int))/\H p=some (.lst (js.map fun i=>V.ref (f i)))/\(∀ i∈js,H (f i)=some (.tup ((g i).map V.int)))/\Q (.bl (js.any fun i=>decide (g i=ts))) H
end
end L2
namespace HT
open PySem PySem.Spec PyProof.Rows
section
variable {prog:Program}{w:World}{A:Around}{E:Value->Shared->Prop}{s:Shared}
theorem k8{t sl:Addr}{items:Array Value}{vl vu:Value}{lo hi:Option Int}{Q:Value->Shared->Prop}(ht:IsTup s.heap t items)(hs:s.heap.IsSliceOf sl vl vu .none)(pl:IsPart vl lo)(pu:IsPart vu hi)
  (hw:sIx items.size 0 lo=0/\sIx items.size items.size hi=items.size) (h:Q (.ref t) s):wpAny (model prog w) A (getItem (.ref t) (.ref sl)) Q E s:=by
 obtain⟨os,hos,hcs,hds⟩:=id hs
 have NC:s.TypeIs (.ref sl) "slice" := ⟨os,hos,hcs⟩
 unfold getItem
 try with_reducible refine wpAny_holding ?_
 first | refine wpAny_bind (wpAny_pure ?_) | skip
 refine wpAny_bind (wpAny_sequenceKey ht.typeIs (by decide) ?_)
 refine wpAny_bind (wpAny_callSpecial?_slot (name:=Str.ofString "__getitem__") ht.typeIs PyProof.Rows.slot_tuple_getitem
  (wpAny_call_entry PyProof.Rows.slot_tuple_getitem ht.typeIs entry_tuple_getitem ?_ (args_tuple_getitem _ _)))
 show wpAny _ _ (Builtin.Tuple.tupleItemsOf (.ref t) >>= _) _ _ s
 refine wpAny_bind (tupleItemsOf_ ht ?_)
 refine wpAny_bind (wpAny_typeOf NC ?_)
 rw[if_pos (by decide)]
 refine wpAny_bind (iQ hs pl pu ?_)
 have hyes:(((sIx items.size 0 lo:Nat):Int) == 0 && (1:Int) == 1 && (sIx items.size items.size hi - sIx items.size 0 lo) == items.size)=true:=by
  rw[hw.1,hw.2]
  simp
 show wpAny _ _ (if (((sIx items.size 0 lo:Nat):Int) == 0 && (1:Int) == 1 && (sIx items.size items.size hi - sIx items.size 0 lo) == items.size)=true then _ else _) _ _ s
 rw[if_pos hyes]
 unfold Builtin.Tuple.tupleIsExact
 refine wpAny_bind (wpAny_bind (wpAny_typeOf ht.typeIs (wpAny_pure ?_)))
 rw[if_pos (by decide)]
 refine wpAny_bind (wpAny_rule ?_)
 exact wpAny_pure ⟨_,rfl,wpAny_pure h⟩
end
end HT
namespace L2
open PySem PySem.Spec PyProof.Rows
section
variable {X:Cx}
def NT:V->Option Int->Option Int->Hp->VK->Prop:=fun x lo hi H Q=>∃ a xs,x=.ref a/\H a=some (.tup xs)/\∀ p H',ak H H'->H' p=some (.tup (lA xs lo hi))->Q (.ref p) H'
theorem yo:SlR X NT:=by
 intro pins s σ H x v vl vu lo hi sl Q I rx hs pl pu h
 obtain⟨a,xs,rfl,hx,q⟩:=h
 by_cases hw:HT.sIx xs.length 0 lo=0/\HT.sIx xs.length xs.length hi=xs.length
 ·cases rx
  obtain⟨aN,r,ht,hz⟩:=I.tuple (SqT.of hx)
  have hlen:aN.toArray.size=xs.length:=by rw[size_toArray];exact r.length.symm
  refine⟨"tuple", _,PyProof.Rows.slot_tuple_getitem.lookup,ht.typeIs,?_⟩
  refine HT.k8 ht hs pl pu (by rw[hlen];exact hw) ?_
  refine⟨.ref a,H,I,rfl,q a H (ak.refl H) ?_⟩
  rw[hx]
  unfold lA
  rw[hw.1,hw.2,List.drop_zero,Nat.sub_zero,take_length]
 ·exact HL pins s σ H (.ref a) v vl vu lo hi sl Q I rx hs pl pu ⟨a,xs,rfl,SqT.of hx,hw,fun p hp=>q p _ (ak.new hp) af⟩
end
end L2
namespace Z3
open PySem PySem.Spec PyProof.Rows
theorem tc(a b c:Value):checkTypeCall "zip" ⟨[a,b,c],[]⟩=pure ():=by kernel_rfl
theorem nc(a b c:Value):checkBuiltinCall "zip.__new__" ⟨[.type "zip", a,b,c],[]⟩=pure ():=by kernel_rfl
theorem ac(a b c d:Value):argsOk "object.__init__" ⟨[a,b,c,d],[]⟩:=by
 unfold argsOk
 rw[signature?_of (id := "object.__init__")
  (n:=['_','_','t','i','n','i','_','_'])
  (o:=['t','c','e','j','b','o'])
  (by kernel_rfl) PySem.F.owner_object]
 kernel_rfl
structure Ap(n l1 l2 l3:Nat):Prop where
 a1:l1 < n
 a2:l2 < n
 a3:l3 < n
theorem dif{a b:Nat}(h:a < b\/b < a):(show Addr from a)≠(show Addr from b):=fun e=>by
 have e:a=b:=e
 omega
section
variable {prog:Program}{w:World}{A:Around}{E:Value->Shared->Prop}{s:Shared}
abbrev hp1(h:Heap)(l1:Addr):Heap:=h.push { cls:=.type "list_iterator", data:=.fields #[.ref l1,.int 0 0] }
abbrev hp2(h:Heap)(l1 l2:Addr):Heap:=hp1 (hp1 h l1) l2
abbrev hp3(h:Heap)(l1 l2 l3:Addr):Heap:=hp1 (hp2 h l1 l2) l3
abbrev hp4(h:Heap)(l1 l2 l3:Addr):Heap:=(hp3 h l1 l2 l3).push { cls:=.type "tuple", data:=.seq #[.ref h.objs.size,.ref (hp1 h l1).objs.size,.ref (hp2 h l1 l2).objs.size] }
abbrev hp5(h:Heap)(l1 l2 l3:Addr):Heap:=(hp4 h l1 l2 l3).push { cls:=.type "tuple", data:=.seq #[.none,.none,.none] }
abbrev hp6(h:Heap)(l1 l2 l3:Addr):Heap:=(hp5 h l1 l2 l3).push { cls:=.type "zip", data:=.fields #[.none,.bool false,.bool false,.ref (hp3 h l1 l2 l3).objs.size,.ref (hp4 h l1 l2 l3).objs.size] }
end
end Z3
namespace L2
open PySem PySem.Spec PyProof.Rows Z3
section
variable {X:Cx}
end
end L2
namespace L2
open PySem PySem.Spec PyProof.Rows
end L2
namespace ZT
open PySem PySem.Spec PyProof.Rows
abbrev jB(h:Heap)(T:Addr)(a b:Value):Prop:=h.get? T=some { cls:=.type "tuple", data:=.seq #[a,b] }
theorem tc(a b:Value):checkTypeCall "zip" ⟨[a,b],[]⟩=pure ():=by kernel_rfl
theorem nc(a b:Value):checkBuiltinCall "zip.__new__" ⟨[.type "zip", a,b],[]⟩=pure ():=by kernel_rfl
theorem ac(a b d:Value):argsOk "object.__init__" ⟨[a,b,d],[]⟩:=by
 unfold argsOk
 rw[signature?_of (id := "object.__init__")
  (n:=['_','_','t','i','n','i','_','_'])
  (o:=['t','c','e','j','b','o'])
  (by kernel_rfl) PySem.F.owner_object]
 kernel_rfl
structure Ap(n l1 l2:Nat):Prop where
 a1:l1 < n
 a2:l2 < n
section
variable {prog:Program}{w:World}{A:Around}{E:Value->Shared->Prop}{s:Shared}
theorem nxT{it l:Addr}{i:Nat}{items:Array Value}{x:Value}{Q:Value->Shared->Prop}(hit:s.heap.IsTupleIter it l i)
  (hl:s.heap.IsTuple l items) (hx:items[i]?=some x)
  (hQ:∀ h',h'.IsTupleIter it l (i+1)->SameBut it s.heap h'->Q x { s with heap:=h' }) :
  wpAny (model prog w) A (Builtin.SmallTypes.nextOf (.ref it)) Q E s:=by
 obtain⟨o,ho,hc,hd⟩:=id hit
 obtain⟨ol,hol,_,nl,hdl⟩:=hl
 unfold Builtin.SmallTypes.nextOf
 refine wpAny_bind (wpAny_callSpecial?_slot (name:=Str.ofString "__next__") hit.typeIs F.slot_tuple_iterator_next
  (wpAny_call_entry F.slot_tuple_iterator_next hit.typeIs F.entry_tuple_iterator_next ?_ (F.args_tuple_iterator_next_1 _)))
 show wpAny _ _ (field (.ref it) 0 >>= _) _ _ s
 refine wpAny_bind (wpAny_field ho hd (x:=.ref l) rfl ?_)
 show wpAny _ _ (if (Value.ref l == Value.none)=true then _ else _) _ _ s
 rw[if_neg (show ¬ ((Value.ref l == Value.none)=true) from Bool.false_ne_true)]
 show wpAny _ _ (field (.ref it) 1 >>= _) _ _ s
 refine wpAny_bind (wpAny_field ho hd (x:=.int i 0) rfl ?_)
 show wpAny _ _ (seqItems? (.ref l) >>= _) _ _ s
 refine wpAny_bind (wpAny_seqItems hol hdl ?_)
 simp only[toNat_natCast,hx]
 refine wpAny_bind (wpAny_setField ho hd (by simp) (wpAny_pure ⟨x,rfl,wpAny_pure (hQ _ ?_ (SameBut.update ..))⟩))
 exact⟨_,get?_update_self _ ho (Obj.isFreed_of_fields (Obj.data_mapFields hd _)),(Obj.cls_mapFields ..).trans hc,by
  rw[Obj.data_mapFields hd];simp[rawInt]⟩
theorem nxE{it l:Addr}{i:Nat}{items:Array Value}{Q:Value->Shared->Prop}(hh:A.handled=none)
  (hit:s.heap.IsTupleIter it l i) (hl:s.heap.IsTuple l items) (hx:items[i]?=none)
  (hE:∀ h' e,Heap.ExtBut it s.heap h'->(∃ o,h'.get? e=some o/\o.cls=.type "StopIteration")->E (.ref e) { s with heap:=h' }) :
  wpAny (model prog w) A (Builtin.SmallTypes.nextOf (.ref it)) Q E s:=by
 obtain⟨o,ho,hc,hd⟩:=id hit
 obtain⟨ol,hol,_,nl,hdl⟩:=hl
 unfold Builtin.SmallTypes.nextOf
 refine wpAny_bind (wpAny_callSpecial?_slot (name:=Str.ofString "__next__") hit.typeIs F.slot_tuple_iterator_next
  (wpAny_call_entry F.slot_tuple_iterator_next hit.typeIs F.entry_tuple_iterator_next ?_ (F.args_tuple_iterator_next_1 _)))
 show wpAny _ _ (field (.ref it) 0 >>= _) _ _ s
 refine wpAny_bind (wpAny_field ho hd (x:=.ref l) rfl ?_)
 show wpAny _ _ (if (Value.ref l == Value.none)=true then _ else _) _ _ s
 rw[if_neg (show ¬ ((Value.ref l == Value.none)=true) from Bool.false_ne_true)]
 show wpAny _ _ (field (.ref it) 1 >>= _) _ _ s
 refine wpAny_bind (wpAny_field ho hd (x:=.int i 0) rfl ?_)
 show wpAny _ _ (seqItems? (.ref l) >>= _) _ _ s
 refine wpAny_bind (wpAny_seqItems hol hdl ?_)
 simp only[toNat_natCast,hx]
 refine wpAny_bind (wpAny_rule (wpAny_bind (wpAny_setField ho hd (by simp) ?_)))
 show wpAny _ _ (newExc (.type "StopIteration") [] >>= _) _ _ _
 refine wpAny_bind ?_
 simp only[newExc,newTuple]
 refine wpAny_bind (wpAny_newObj_type ?_ (by size_fits))
 refine wpAny_bind (m:=firstArgMember _ _) (wpAny_of_eq (a:=Value.none) (by first | rfl | (simp only[firstArgMember];rfl)) ?_)
 refine wpAny_newObj_type ?_ (by size_fits)
 simp only[raiseNew]
 refine wpAny_bind (wpAny_handled ?_)
 first | rw[show A.in1.handled=none from hh] | rw[hh]
 refine wpAny_bind (wpAny_pure (wpAny_throw ?_))
 exact hE _ _ (((SameBut.update ..).extBut.push _).push _) ⟨_,get?_push_size _ rfl,rfl⟩
theorem up2{T:Addr}{a b x:Value}{k:Nat}{Q:Unit->Shared->Prop}(hT:jB s.heap T a b)
  (h:∀ h',h'.get? T=some { cls:=.type "tuple", data:=.seq ((#[a,b]:Array Value).setIfInBounds k x) }->SameBut T s.heap h'->Q () { s with heap:=h' }) :
  wpAny (model prog w) A (updateSeq T (·.setIfInBounds k x)) Q E s:=by
 refine wpAny_updateSeq hT rfl (h _ ?_ (SameBut.update ..))
 rw[get?_update_self _ hT rfl]
 simp[Obj.mapSeq]
abbrev hp1(h:Heap)(l1:Addr):Heap:=h.push { cls:=.type "tuple_iterator", data:=.fields #[.ref l1,.int 0 0] }
abbrev hp2(h:Heap)(l1 l2:Addr):Heap:=hp1 (hp1 h l1) l2
abbrev hp4(h:Heap)(l1 l2:Addr):Heap:=(hp2 h l1 l2).push { cls:=.type "tuple", data:=.seq #[.ref h.objs.size,.ref (hp1 h l1).objs.size] }
abbrev hp5(h:Heap)(l1 l2:Addr):Heap:=(hp4 h l1 l2).push { cls:=.type "tuple", data:=.seq #[.none,.none] }
abbrev hp6(h:Heap)(l1 l2:Addr):Heap:=(hp5 h l1 l2).push { cls:=.type "zip", data:=.fields #[.none,.bool false,.bool false,.ref (hp2 h l1 l2).objs.size,.ref (hp4 h l1 l2).objs.size] }
theorem Og(l1 l2:Addr)(xs ys:Array Value) :
  Meets (Builtin.«zip.__new__» ⟨[.type "zip", .ref l1,.ref l2],[]⟩) (fun _ R s=>s.heap.IsTuple l1 xs/\s.heap.IsTuple l2 ys /\
   R (.ok (.ret (.ref (hp5 s.heap l1 l2).objs.size))) { s with heap:=hp6 s.heap l1 l2 }) :=
 .of_wp fun prog w A R s h=>by
  obtain⟨hp,g,d,tk,os⟩:=s
  obtain⟨qU,cG,h⟩:=h
  have hsub:=sub_zip
  have Mq:Heap.IsTuple (Shared.heap ⟨hp,g,d,tk,os⟩) l1 xs:=qU
  have Kd:Heap.IsTuple (Shared.heap ⟨hp1 hp l1,g,d,tk,os⟩) l2 ys:=by
   obtain⟨o,e,r⟩:=cG
   exact⟨o,get?_push_of_some _ e,r⟩
  wp_walk using wpAny_pyIter_tuple Mq,wpAny_pyIter_tuple Kd
  exact⟨_,rfl,h⟩
theorem LF{l1 l2:Addr}{xs ys:Array Value}{Q:Value->Shared->Prop}(qU:s.heap.IsTuple l1 xs)(cG:s.heap.IsTuple l2 ys)
  (h:∀ h' n,n=s.heap.objs.size->IsZip h' (n+4) (n+2) (n+3) .none->jB h' (n+2) (.ref n) (.ref (n+1)) ->
   jB h' (n+3) .none .none->h'.IsTupleIter n l1 0->h'.IsTupleIter (n+1) l2 0 ->
   (∀ c o,s.heap.get? c=some o->h'.get? c=some o)->Q (.ref (n+4)) { s with heap:=h' }) :
  wpAny (model prog w) A (call (.type "zip") [.ref l1,.ref l2]) Q E s:=by
 refine callType_new F.called_zip (by decide) (tc _ _) (nc _ _) (fun obj=>ac obj _ _) F.entry_zip_new
  (Og l1 l2 xs ys) ⟨qU,cG,?_⟩
 have z1:(hp1 s.heap l1).objs.size=s.heap.objs.size+1:=size_push ..
 have z2:(hp2 s.heap l1 l2).objs.size=s.heap.objs.size+2:=by rw[size_push,z1]
 have z4:(hp4 s.heap l1 l2).objs.size=s.heap.objs.size+3:=by rw[size_push,z2]
 have z5:(hp5 s.heap l1 l2).objs.size=s.heap.objs.size+4:=by rw[size_push,z4]
 have up {h:Heap} {o:Obj} {c:Addr} {u:Obj} (e:h.get? c=some u):(h.push o).get? c=some u:=get?_push_of_some _ e
 have g6:(hp6 s.heap l1 l2).get? (hp5 s.heap l1 l2).objs.size=some _:=get?_push_size _ rfl
 have g5:(hp6 s.heap l1 l2).get? (hp4 s.heap l1 l2).objs.size=some _:=up (get?_push_size _ rfl)
 have g4:(hp6 s.heap l1 l2).get? (hp2 s.heap l1 l2).objs.size=some _:=up (up (get?_push_size _ rfl))
 have g2:(hp6 s.heap l1 l2).get? (hp1 s.heap l1).objs.size=some _:=up (up (up (get?_push_size _ rfl)))
 have g1:(hp6 s.heap l1 l2).get? s.heap.objs.size=some _:=up (up (up (up (get?_push_size _ rfl))))
 show _/\_
 rw[z2,z4,z5] at g6
 rw[z4] at g5
 rw[z1,z2] at g4
 rw[z1] at g2
 rw[z5]
 exact⟨⟨_,g6,rfl⟩,h _ _ rfl g6 g4 g5 ⟨_,g1,rfl,rfl⟩ ⟨_,g2,rfl,rfl⟩ fun c o x=>up (up (up (up (up x))))⟩
theorem KU{n l1 l2:Addr}{k:Nat}{xs ys:Array Value}{x y a b:Value}{Q:Option Value->Shared->Prop}(D:Ap n l1 l2)
  (hz:IsZip s.heap (n+4) (n+2) (n+3) .none) (J6:jB s.heap (n+2) (.ref n) (.ref (n+1))) (L7:jB s.heap (n+3) a b)
  (h1:s.heap.IsTupleIter n l1 k) (h2:s.heap.IsTupleIter (n+1) l2 k) (qU:s.heap.IsTuple l1 xs) (cG:s.heap.IsTuple l2 ys) (hx:xs[k]?=some x) (hy:ys[k]?=some y)
  (hQ:∀ h',IsZip h' (n+4) (n+2) (n+3) (rawInt s.heap.objs.size)->jB h' (n+3) x y->h'.IsTupleIter n l1 (k+1)->h'.IsTupleIter (n+1) l2 (k+1)->jB h' s.heap.objs.size x y ->
   (∀ q o,q≠n+4->q≠n+3->q≠n->q≠n+1->s.heap.get? q=some o->h'.get? q=some o)->Q (some (.ref s.heap.objs.size)) { s with heap:=h' }) :
  wpAny (model prog w) A (pyNext (.ref (n+4))) Q E s:=by
 obtain⟨d1,d2⟩:=D
 have q0:n≠n+3:=Z3.dif (.inl (by omega))
 have q1:n+1≠n+3:=Z3.dif (.inl (by omega))
 have q3:n≠n+1:=Z3.dif (.inl (by omega))
 have z0:n≠n+4:=Z3.dif (.inl (by omega))
 have z1:n+1≠n+4:=Z3.dif (.inl (by omega))
 have z4:n+3≠n+4:=Z3.dif (.inl (by omega))
 have L1:∀ j,l1≠n+j:=fun j=>Z3.dif (.inl (by omega))
 have L2:∀ j,l2≠n+j:=fun j=>Z3.dif (.inl (by omega))
 have hT:s.TypeIs (.ref (n+4)) "zip" := ⟨_,hz,rfl⟩
 unfold pyNext
 refine wpAny_bind (wpAny_attempt (wpAny_callSpecial?_slot (name:=Str.ofString "__next__") hT F.slot_zip_next
  (wpAny_call_entry F.slot_zip_next hT F.entry_zip_next ?_ (F.args_zip_next_1 _))))
 show wpAny _ _ (field (.ref (n+4)) 2 >>= _) _ _ _
 refine wpAny_bind (wpAny_field hz rfl (x:=.bool false) rfl ?_)
 show wpAny _ _ (field (.ref (n+4)) 3 >>= _) _ _ _
 refine wpAny_bind (wpAny_field hz rfl (x:=.ref (n+2)) rfl ?_)
 refine wpAny_bind (wpAny_seqItems J6 rfl ?_)
 show wpAny _ _ (Builtin.SmallTypes.ownedTupleIsFree (.ref (n+4)) >>= _) _ _ _
 refine wpAny_bind ?_
 unfold Builtin.SmallTypes.ownedTupleIsFree
 refine wpAny_bind (wpAny_field hz rfl (x:=.none) rfl (wpAny_pure ?_))
 simp only[if_true]
 refine wpAny_bind (wpAny_rule ?_)
 refine wpAny_bind (wpAny_field hz rfl (x:=.ref (n+3)) rfl ?_)
 refine wpAny_bind (wpAny_setField_rec hz (by simp) fun g1 yV s1=>?_)
 replace yV:IsZip g1 (n+4) (n+2) (n+3) .ellipsis:=yV
 refine wpAny_bind ?_
 simp only[List.zipIdx_cons,List.zipIdx_nil,forIn_cons,forIn_nil]
 refine wpAny_bind (wpAny_bind (wpAny_onRaise ?_))
 show wpAny _ _ (Builtin.SmallTypes.nextOf (.ref n) >>= _) _ _ _
 refine wpAny_bind (nxT (h1.extBut s1.extBut z0) (qU.extBut s1.extBut (L1 4)) hx fun g2 i1 s2=>wpAny_pure ?_)
 have t2:jB g2 (n+3) a b:=s2.extBut _ _ q0.symm (s1.extBut _ _ z4 L7)
 refine wpAny_bind (wpAny_seqItems t2 rfl ?_)
 refine wpAny_bind (up2 t2 fun g3 t3 s3=>?_)
 replace t3:jB g3 (n+3) x b:=t3
 refine wpAny_bind (wpAny_letGo (wpAny_pure ?_))
 refine wpAny_bind (wpAny_bind (wpAny_onRaise ?_))
 show wpAny _ _ (Builtin.SmallTypes.nextOf (.ref (n+1)) >>= _) _ _ _
 refine wpAny_bind (nxT (((h2.extBut s1.extBut z1).extBut s2.extBut q3.symm).extBut s3.extBut q1)
  (((cG.extBut s1.extBut (L2 4)).extBut s2.extBut (L2 0)).extBut s3.extBut (L2 3)) hy fun g4 i2 s4=>wpAny_pure ?_)
 have t4:jB g4 (n+3) x b:=s4.extBut _ _ q1.symm t3
 refine wpAny_bind (wpAny_seqItems t4 rfl ?_)
 refine wpAny_bind (up2 t4 fun g5 t5 s5=>?_)
 replace t5:jB g5 (n+3) x y:=t5
 refine wpAny_bind (wpAny_letGo (wpAny_pure (wpAny_pure ?_)))
 refine wpAny_bind (wpAny_seqItems t5 rfl ?_)
 refine wpAny_bind (wpAny_newTuple ?_)
 have hsz:g5.objs.size=s.heap.objs.size:=by rw[s5.1,s4.1,s3.1,s2.1,s1.1]
 have OK:IsZip g5 (n+4) (n+2) (n+3) .ellipsis:=s5.extBut _ _ z4.symm (s4.extBut _ _ z1.symm (s3.extBut _ _ z4.symm (s2.extBut _ _ z0.symm yV)))
 have kk:∀ q o,q≠n+4->q≠n+3->q≠n->q≠n+1->s.heap.get? q=some o->g5.get? q=some o:=fun q o c5 c4 c0 c1 e =>
  s5.extBut _ _ c4 (s4.extBut _ _ c1 (s3.extBut _ _ c4 (s2.extBut _ _ c0 (s1.extBut _ _ c5 e))))
 have j1:g5.IsTupleIter n l1 (k+1):=((i1.extBut s3.extBut q0).extBut s4.extBut q3).extBut s5.extBut q0
 have j2:g5.IsTupleIter (n+1) l2 (k+1):=i2.extBut s5.extBut q1
 have zlt:n+4 < g5.objs.size:=lt_size OK
 show wpAny _ _ (Builtin.SmallTypes.ownedTupleHandOut (.ref (n+4)) (.ref g5.objs.size) >>= _) _ _ _
 refine wpAny_bind ?_
 unfold Builtin.SmallTypes.ownedTupleHandOut
 have G7:IsZip (g5.push { cls:=.type "tuple", data:=.seq #[x,y] }) (n+4) (n+2) (n+3) .ellipsis:=get?_push_of_some _ OK
 refine wpAny_bind (wpAny_setField_rec G7 (by simp) fun g9 MM s9=>?_)
 replace MM:IsZip g9 (n+4) (n+2) (n+3) (rawInt g5.objs.size):=MM
 refine wpAny_setField_rec MM (by simp) fun Mz EV zX=>?_
 replace EV:IsZip Mz (n+4) (n+2) (n+3) (rawInt g5.objs.size):=EV
 have up:∀ q o,q≠n+4->g5.get? q=some o->Mz.get? q=some o:=fun q o c1 e=>zX.extBut _ _ c1 (s9.extBut _ _ c1 (get?_push_of_some _ e))
 have tt:jB Mz g5.objs.size x y:=zX.extBut _ _ (ne_of_gt zlt) (s9.extBut _ _ (ne_of_gt zlt) (get?_push_size _ rfl))
 rw[hsz] at EV tt
 refine wpAny_pure ⟨_,rfl,wpAny_pure ?_⟩
 show Q (some (.ref g5.objs.size)) _
 rw[hsz]
 exact hQ Mz EV (up _ _ z4 t5) (j1.at fun o e=>up _ o z0 e) (j2.at fun o e=>up _ o z1 e) tt fun q o c5 c4 c0 c1 e=>up q o c5 (kk q o c5 c4 c0 c1 e)
theorem Nc{n l1 l2:Addr}{k:Nat}{xs ys:Array Value}{x a b:Value}{Q:Option Value->Shared->Prop}(hh:A.handled=none)(D:Ap n l1 l2)
  (hz:IsZip s.heap (n+4) (n+2) (n+3) .none) (J6:jB s.heap (n+2) (.ref n) (.ref (n+1))) (L7:jB s.heap (n+3) a b)
  (h1:s.heap.IsTupleIter n l1 k) (h2:s.heap.IsTupleIter (n+1) l2 k) (qU:s.heap.IsTuple l1 xs) (cG:s.heap.IsTuple l2 ys) (hx:xs[k]?=some x) (hy:ys[k]?=none)
  (hQ:∀ h',(∀ q o,q≠n+4->q≠n+3->q≠n->q≠n+1->s.heap.get? q=some o->h'.get? q=some o)->Q none { s with heap:=h' }) :
  wpAny (model prog w) A (pyNext (.ref (n+4))) Q E s:=by
 obtain⟨d1,d2⟩:=D
 have q0:n≠n+3:=Z3.dif (.inl (by omega))
 have q1:n+1≠n+3:=Z3.dif (.inl (by omega))
 have q3:n≠n+1:=Z3.dif (.inl (by omega))
 have z0:n≠n+4:=Z3.dif (.inl (by omega))
 have z1:n+1≠n+4:=Z3.dif (.inl (by omega))
 have z4:n+3≠n+4:=Z3.dif (.inl (by omega))
 have L1:∀ j,l1≠n+j:=fun j=>Z3.dif (.inl (by omega))
 have L2:∀ j,l2≠n+j:=fun j=>Z3.dif (.inl (by omega))
 have hT:s.TypeIs (.ref (n+4)) "zip" := ⟨_,hz,rfl⟩
 unfold pyNext
 refine wpAny_bind (wpAny_attempt (wpAny_callSpecial?_slot (name:=Str.ofString "__next__") hT F.slot_zip_next
  (wpAny_call_entry F.slot_zip_next hT F.entry_zip_next ?_ (F.args_zip_next_1 _))))
 show wpAny _ _ (field (.ref (n+4)) 2 >>= _) _ _ _
 refine wpAny_bind (wpAny_field hz rfl (x:=.bool false) rfl ?_)
 show wpAny _ _ (field (.ref (n+4)) 3 >>= _) _ _ _
 refine wpAny_bind (wpAny_field hz rfl (x:=.ref (n+2)) rfl ?_)
 refine wpAny_bind (wpAny_seqItems J6 rfl ?_)
 show wpAny _ _ (Builtin.SmallTypes.ownedTupleIsFree (.ref (n+4)) >>= _) _ _ _
 refine wpAny_bind ?_
 unfold Builtin.SmallTypes.ownedTupleIsFree
 refine wpAny_bind (wpAny_field hz rfl (x:=.none) rfl (wpAny_pure ?_))
 simp only[if_true]
 refine wpAny_bind (wpAny_rule ?_)
 refine wpAny_bind (wpAny_field hz rfl (x:=.ref (n+3)) rfl ?_)
 refine wpAny_bind (wpAny_setField_rec hz (by simp) fun g1 yV s1=>?_)
 replace yV:IsZip g1 (n+4) (n+2) (n+3) .ellipsis:=yV
 refine wpAny_bind ?_
 simp only[List.zipIdx_cons,List.zipIdx_nil,forIn_cons,forIn_nil]
 refine wpAny_bind (wpAny_bind (wpAny_onRaise ?_))
 show wpAny _ _ (Builtin.SmallTypes.nextOf (.ref n) >>= _) _ _ _
 refine wpAny_bind (nxT (h1.extBut s1.extBut z0) (qU.extBut s1.extBut (L1 4)) hx fun g2 i1 s2=>wpAny_pure ?_)
 have t2:jB g2 (n+3) a b:=s2.extBut _ _ q0.symm (s1.extBut _ _ z4 L7)
 refine wpAny_bind (wpAny_seqItems t2 rfl ?_)
 refine wpAny_bind (up2 t2 fun g3 t3 s3=>?_)
 replace t3:jB g3 (n+3) x b:=t3
 refine wpAny_bind (wpAny_letGo (wpAny_pure ?_))
 refine wpAny_bind (wpAny_bind (wpAny_onRaise ?_))
 show wpAny _ _ (Builtin.SmallTypes.nextOf (.ref (n+1)) >>= _) _ _ _
 refine wpAny_bind (nxE hh (((h2.extBut s1.extBut z1).extBut s2.extBut q3.symm).extBut s3.extBut q1)
  (((cG.extBut s1.extBut (L2 4)).extBut s2.extBut (L2 0)).extBut s3.extBut (L2 3)) hy fun g4 e s4 he=>?_)
 obtain⟨oe,hoe,hce⟩:=he
 have Gb:IsZip g4 (n+4) (n+2) (n+3) .ellipsis:=s4 _ _ z1.symm (s3.extBut _ _ z4.symm (s2.extBut _ _ z0.symm yV))
 have hez:e≠n+4:=fun x=>by
  rw[x,Gb] at hoe
  cases hoe
  simp at hce
 refine wpAny_setField_rec Gb (by simp) fun g5 _ s5=>?_
 refine wpAny_bind (wpAny_isInstance (T := "StopIteration") (b:=true) ⟨oe,s5.extBut _ _ hez hoe,hce⟩ isSubtype_stop ?_)
 exact wpAny_pure (hQ g5 fun q o c5 c4 c0 c1 x=>s5.extBut _ _ c5 (s4 _ _ c1 (s3.extBut _ _ c4 (s2.extBut _ _ c0 (s1.extBut _ _ c5 x)))))
end
end ZT
namespace L2
open PySem PySem.Spec PyProof.Rows ZT
section
variable {X:Cx}
def BO(K:PySem.W.Frag)(a b:Addr):It :=
 ⟨fun i H=>∃ xs ys x y,SqT K H a xs/\SqT K H b ys/\xs[i]?=some x/\ys[i]?=some y,
   fun i H v H'=>∃ p x y,H p=none/\(∀ xs,SqT K H a xs->xs[i]?=some x)/\(∀ ys,SqT K H b ys->ys[i]?=some y)/\v=.ref p/\H'=upd H p (.tup [x,y]),
   fun i H=>∃ xs ys x,SqT K H a xs/\SqT K H b ys/\xs[i]?=some x/\i=ys.length⟩
theorem zf{P:Program}{w:World}{K:PySem.W.Frag}{elts:List Expr}{k:Nat}{tp:Pos}(n a b:Addr)(D:Ap n a b) :
  Turn P w K (.Tuple elts k tp) (BO K a b) [n+4,n+2,n+3,n,n+1] (n+4) (fun i h=>IsZip h (n+4) (n+2) (n+3) .none/\jB h (n+2) (.ref n) (.ref (n+1))/\(∃ a b,jB h (n+3) a b)/\h.IsTupleIter n a i/\h.IsTupleIter (n+1) b i) where
 mem:=by simp
 obj:=fun i h st q hb=>by
  obtain⟨s1,s2,⟨_,_,s3⟩,⟨o4,e4,_,d4⟩,⟨o5,e5,_,d5⟩⟩:=st
  simp only[mem_cons,not_mem_nil,or_false] at hb
  rcases hb with rfl | rfl | rfl | rfl | rfl
  ·exact⟨_,s1,fun v z=>by cases (show Data.fields _=Data.cell v from z)⟩
  ·exact⟨_,s2,fun v z=>by cases (show Data.seq _ _=Data.cell v from z)⟩
  ·exact⟨_,s3,fun v z=>by cases (show Data.seq _ _=Data.cell v from z)⟩
  ·exact⟨_,e4,fun v z=>by rw[d4] at z;cases z⟩
  ·exact⟨_,e5,fun v z=>by rw[d5] at z;cases z⟩
 keep:=fun i h h' st hk=>by
  obtain⟨s1,s2,⟨_,_,s3⟩,s4,s5⟩:=st
  exact⟨hk _ (by simp) _ s1,hk _ (by simp) _ s2,⟨_,_,hk _ (by simp) _ s3⟩,s4.at fun o e=>hk n (by simp) o e,s5.at fun o e=>hk (n+1) (by simp) o e⟩
 item:=by
  intro X hP hw hK hc i pins s σ H E I hf st hg
  subst hP hw hK
  obtain⟨xs,ys,x,y,m7,mG,hx,hy⟩:=hg
  obtain⟨ox,DV,p1,yV⟩:=I.tuple m7
  obtain⟨pT,MG,p2,Gb⟩:=I.tuple mG
  obtain⟨u1,Gs,MC⟩:=DV.get hx
  obtain⟨u2,PL,Qy⟩:=MG.get hy
  obtain⟨s1,s2,⟨_,_,s3⟩,s4,s5⟩:=st
  refine KU D s1 s2 s3 s4 s5 (show s.heap.IsTuple a ox.toArray from p1) (show s.heap.IsTuple b pT.toArray from p2) (by simpa using Gs) (by simpa using PL) fun h' z1 t1 i1 i2 tT kk=>?_
  have hlt:n+4 < s.heap.objs.size:=lt_size s1
  have ne:∀ q,q<=n+4->q≠s.heap.objs.size:=fun q hq=>ne_of_lt (Nat.lt_of_le_of_lt hq hlt)
  refine⟨.ref s.heap.objs.size,rfl,wpAny_letOwnedTupleGo_zip z1 fun h2 z2 k2=>?_⟩
  have d0:n≠n+4:=Z3.dif (.inl (by omega))
  have d1:n+1≠n+4:=Z3.dif (.inl (by omega))
  have d3:n+2≠n+4:=Z3.dif (.inl (by omega))
  have d4:n+3≠n+4:=Z3.dif (.inl (by omega))
  have e4:n+2≠n+3:=Z3.dif (.inl (by omega))
  have e0:n+2≠n:=Z3.dif (.inr (by omega))
  have e1:n+2≠n+1:=Z3.dif (.inr (by omega))
  have kept:∀ q o,q∉[n+4,n+3,n,n+1]->s.heap.get? q=some o->h2.get? q=some o:=fun q o hc e=>by
   simp only[mem_cons,not_mem_nil,or_false,not_or] at hc
   obtain⟨c5,c4,c0,c1⟩:=hc
   exact k2.extBut _ _ c5 (kk q o c5 c4 c0 c1 e)
  have sub:∀ q∈[n+4,n+3,n,n+1],q∈[n+4,n+2,n+3,n,n+1]:=fun q hc=>by
   simp only[mem_cons,not_mem_nil,or_false] at hc |-
   rcases hc with rfl | rfl | rfl | rfl<;>simp
  refine⟨.ref s.heap.objs.size,upd H s.heap.objs.size (.tup [x,y]),I.Ge (t':=s.toks) kept (fun q hc=>hf q (sub q hc)) (le_refl _) ⟨by show 2<=sizeLine;decide,[u1,u2],.cons MC (.cons Qy .nil),?_⟩,rfl,
   ⟨s.heap.objs.size,x,y,I.hok.fresh (le_refl _),fun zs hzs=>by rw[I.ni hzs m7];exact hx,fun zs hzs=>by rw[I.ni hzs mG];exact hy,rfl,rfl⟩,⟨z2,?_,⟨_,_,k2.extBut _ _ d4 t1⟩,i1.extBut k2.extBut d0,i2.extBut k2.extBut d1⟩,fun q hc=>?_⟩
  ·exact⟨_,k2.extBut _ _ (ne_of_gt hlt) tT,rfl,_,rfl⟩
  ·exact k2.extBut _ _ d3 (kk _ _ d3 e4 e0 e1 s2)
  ·have hcn:=(hf q hc).1
   have hcl:q<=n+4:=by
    simp only[mem_cons,not_mem_nil,or_false] at hc
    rcases hc with rfl | rfl | rfl | rfl | rfl<;>first | exact le_refl _ | (show (_:Nat)<=_;omega)
   rw[ax (ne q hcl)]
   exact hcn
 done:=by
  intro X hP hw hK hc i pins s σ H E I hf st hg
  subst hP hw hK
  obtain⟨xs,ys,x,m7,mG,hx,hy⟩:=hg
  obtain⟨ox,DV,p1,yV⟩:=I.tuple m7
  obtain⟨pT,MG,p2,Gb⟩:=I.tuple mG
  obtain⟨u1,Gs,MC⟩:=DV.get hx
  obtain⟨s1,s2,⟨_,_,s3⟩,s4,s5⟩:=st
  have sub:∀ q∈[n+4,n+3,n,n+1],q∈[n+4,n+2,n+3,n,n+1]:=fun q hc=>by
   simp only[mem_cons,not_mem_nil,or_false] at hc |-
   rcases hc with rfl | rfl | rfl | rfl<;>simp
  refine Nc (I.ok.hd hc) D s1 s2 s3 s4 s5 (show s.heap.IsTuple a ox.toArray from p1) (show s.heap.IsTuple b pT.toArray from p2) (by simpa using Gs) (by rw[hy,MG.length];simp) fun h' kk=>⟨rfl,I.yf (wr:=[n+4,n+3,n,n+1]) (t':=s.toks) (fun q o hq e=>?_) fun q hc=>hf q (sub q hc)⟩
  simp only[mem_cons,not_mem_nil,or_false,not_or] at hq
  exact kk q o hq.1 hq.2.1 hq.2.2.1 hq.2.2.2 e
 self:=fun _ _ _ _ _ st h=>wpAny_pyIter_zip st.1 h
def Gm(K:PySem.W.Frag)(ta:TA):TI:=fun σ H R=>ta σ H fun vs H1=>∃ a b,vs=[.ref a,.ref b]/\(∃ xs,SqT K H1 a xs)/\(∃ ys,SqT K H1 b ys)/\R (BO K a b) H1
theorem Fb{a b:Expr}{ta:TA}{p pos tp:Pos}{elts:List Expr}{k:Nat}(hg:Gl X "zip")(hm:X.mg "zip" = none)(ha:PA X [a,b] ta)
  (hs:starEach [a,b] X.env=[(false,eval a X.env),(false,eval b X.env)]:=by rfl) (FQ:starEach [b] X.env=[(false,eval b X.env)]:=by rfl) :
  PI X (.Tuple elts k tp) (.Call (.Name "zip" p) [a,b] [] pos) (Gm X.K ta):=by
 intro pins s σ H R I h
 refine Call_ (kv I hg hm boot_zip (PyProof.Rows.callWith_type1 (thn (ha pos pins s σ H _ I h) fun us s1 ⟨vs,H1,I1,r1,q1⟩=>?_) (by rw[hs,FQ]) (by rw[FQ];rfl)))
 obtain⟨a',b',e,⟨xs,m7⟩,⟨ys,mG⟩,q⟩:=q1
 subst e
 cases r1 with
 | cons r rr =>
  cases rr with
  | cons r' rr =>
   cases rr
   cases r
   cases r'
   obtain⟨ox,DV,p1,yV⟩:=I1.tuple m7
   obtain⟨pT,MG,p2,Gb⟩:=I1.tuple mG
   have p1:s1.heap.IsTuple a' ox.toArray:=p1
   have p2:s1.heap.IsTuple b' pT.toArray:=p2
   have Rr:a' < s1.heap.objs.size:=by obtain⟨_,e,_⟩:=p1;exact lt_size e
   have P2:b' < s1.heap.objs.size:=by obtain⟨_,e,_⟩:=p2;exact lt_size e
   refine LF p1 p2 fun h' n hn hz J6 L7 N6 jK hk=>?_
   subst hn
   refine wpAny_pyIter_zip hz ?_
   refine⟨_,[_,_,_,_,_],_,_,H1,rfl,I1.kept (t':=s1.toks) hk,zf _ a' b' ⟨Rr,P2⟩,⟨hz,J6,⟨_,_,L7⟩,N6,jK⟩,fun q hc=>?_,by assumption⟩
   have hle:s1.heap.objs.size<=q:=by
    simp only[mem_cons,not_mem_nil,or_false] at hc
    rcases hc with rfl | rfl | rfl | rfl | rfl<;>first | exact le_refl _ | exact Nat.le_add_right _ _
   exact I1.B9 hle (I1.hok.fresh hle)
end
end L2
namespace L2
open PySem PySem.Spec PyProof.Rows
theorem vk{X:Cx}{K:PySem.W.Frag}(hK:X.K=K){a b:Expr}{t:TA}{elts:List Expr}{k:Nat}{tp p pos:Pos}(hg:Gl X "zip")(hm:X.mg "zip" = none)(ha:QA X [a,b] t)
  (hs:starEach [a,b] X.env=[(false,eval a X.env),(false,eval b X.env)]:=by rfl) (FQ:starEach [b] X.env=[(false,eval b X.env)]:=by rfl) :
  QI X (.Tuple elts k tp) (.Call (.Name "zip" p) [a,b] [] pos) (Gm K t):=hK▸⟨Fb hg hm ha.p hs FQ⟩
theorem sy{K:PySem.W.Frag}{a b:Addr}{xs ys:List V}{g:TG}{tb:L2.TS}{D:Ends}{σ:St}{H:Hp}(Pv:Nat->St->Hp->Prop)(h0:Pv 0 σ H)(e2:ys.length < xs.length)
  (hl:∀ i σ H,i<=ys.length->Pv i σ H->SqT K H a xs/\SqT K H b ys)
  (hs:∀(i:Nat)(x y:V)(p:Addr)(σ:St)(H H':Hp)(N B:St->Hp->Prop),xs[i]?=some x->ys[i]?=some y->H p=none->ak H H'->H' p=some (.tup [x,y])->Pv i σ H->(∀ σ' H',Pv (i+1) σ' H'->N σ' H')->(∀ σ' H',D.nx σ' H'->B σ' H')->g (.ref p) σ H' fun σ2 H2=>tb { nx:=N,rt:=D.rt,bk:=B,ct:=N } σ2 H2) (hd:∀ σ H,Pv ys.length σ H->D.nx σ H) :
  ∃ W:Nat->Nat->St->Hp->Prop,(∃ m,W 0 m σ H)/\∀ i m σ H,W i m σ H ->
   ((BO K a b).stop i H/\D.nx σ H)\/((BO K a b).go i H/\∃ N:St->Hp->Prop,(∀ σ' H',N σ' H'->∃ m',m' < m/\W (i+1) m' σ' H')/\∀ x H',(BO K a b).yld i H x H'->g x σ H' fun σ2 H2=>tb { D with nx:=N,ct:=N,bk:=D.nx } σ2 H2):=by
 refine⟨fun i m σ H=>m=ys.length - i/\i<=ys.length/\Pv i σ H,⟨ys.length,by simp,zero_le _,h0⟩,?_⟩
 rintro i m σ H ⟨rfl,hi,p⟩
 obtain⟨q1,q2⟩:=hl i σ H hi p
 have l1:i < xs.length:=by omega
 by_cases hlt:i < ys.length
 ·refine .inr ⟨⟨xs,ys,xs[i],ys[i],q1,q2,by simp[l1],by simp[hlt]⟩,Pv (i+1),fun σ' H' p'=>⟨ys.length - (i+1),by omega,rfl,hlt,p'⟩,fun v H' y=>?_⟩
  obtain⟨pp,x,y,hn,y1,y2,rfl,rfl⟩:=y
  exact hs i x y pp σ H _ (Pv (i+1)) D.nx (y1 xs q1) (y2 ys q2) hn (ak.new hn) af p (fun _ _ h=>h) fun _ _ h=>h
 ·have e:i=ys.length:=by omega
  subst e
  exact .inl ⟨⟨xs,ys,_,q1,q2,getElem?_eq_getElem l1,rfl⟩,hd σ H p⟩
end L2
namespace L2
open PySem PySem.Spec PyProof.Rows
def tNo:L2.TS:=fun _ _ _=>False
theorem Li{X:Cx}{st:Stmt}:PS X st tNo:=fun _ _ _ _ _ _ h=>h.elim
theorem L3{X:Cx}{st:Stmt}:QS X st tNo:=⟨Li⟩
theorem AG{X:Cx}{i:Nat}{x:Str}{e:Expr}{te:TE}{op:Operator}{ti:TIp}{pos pos':Pos}(hN:X.N.Nodup)(hi:X.N[i]?=some x)(hx:Loc X.env.scope x)(he:QE X e te)(ho:PIp X op ti)(hf:X.fn x=true\/X.env.scope.names.lookup x=some .local:=by first | exact .inl rfl | exact .inr rfl | assumption) :
  QS X (.AugAssign (.Name x pos') op e pos) (Lx i te ti):=⟨Jc hN hi hx he.p ho hf⟩
end L2
namespace L2
open PySem PySem.Spec PyProof.Rows
theorem aj{X:Cx}{a b:Expr}{ta tb:TE}{pos:Pos}(ha:QE X a ta)(hb:QE X b tb)(hs:uF b:=by exact fun _ _=>rfl):QE X (.Subscript a b pos) (tOp AD ta tb):=Kn Df ha hb hs
section
variable {X:Cx}{elt iter tg:Expr}{ifs:List Expr}{scope:Scope}{pos spos py:Pos}{wi:TI}{g:TG}{tt:TT}{te:TE}
theorem ck(own:List Str)(fr:List (Str×Nat))(hi:QI X tg iter wi)
  (hgx:qF g own.length) (hB:∀ cl C fp s2 H2,QG (X.comp (own++fr.map (·.1)) scope cl C fp s2 H2) tg g/\QF (X.comp (own++fr.map (·.1)) scope cl C fp s2 H2) ifs tt/\QE (X.comp (own++fr.map (·.1)) scope cl C fp s2 H2) elt te) (hc:X.calm=true:=by rfl)
  (hkind:scope.kind=.function:=by rfl) (hcell:∀ y∈scope.names,y.2≠.cell:=by decide +kernel) (hnames:∀ y∈scope.names,y.2=.local->scope.names.lookup y.1=some .local:=by decide +kernel)
  (hfree:∀ y∈scope.names,y.2=.free->X.env.kindOf y.1=some .cell\/X.env.kindOf y.1=some .free:=by exact tE (by rfl))
  (hfr:∀ p∈fr,X.N[p.2]?=some p.1/\(X.env.kindOf p.1=some .cell\/X.env.kindOf p.1=some .free)/\(p.1,NameKind.free)∈scope.names/\((relabel scope X.env).names.lookup p.1=some .cell\/(relabel scope X.env).names.lookup p.1=some .free):=by exact A8 (by rfl))
  (hs:∀ x,foldedSetIterable iter X.env x=pure x:=by intro _;rfl):QE X (.ListComp elt [⟨tg,iter,ifs,0⟩] scope pos) (nY own.length (fr.map (·.2)) wi g tt te):=DZ own fr hc hi hgx hB hkind hcell hnames hfree hfr hs
theorem fF{k:Nat}{y:Str}(own:List Str)(fr:List (Str×Nat))(Ey:X.N.Nodup)(hi:QI X tg iter wi)
  (hgx:qF g own.length) (hB:∀ cl C fp s2 H2,QG (X.comp (own++fr.map (·.1)) scope cl C fp s2 H2) tg g/\QF (X.comp (own++fr.map (·.1)) scope cl C fp s2 H2) ifs tt/\QE (X.comp (own++fr.map (·.1)) scope cl C fp s2 H2) elt te) (hk:X.N[k]?=some y:=by rfl) (hy:X.env.scope.names.lookup y=some .local:=by rfl) (hc:X.calm=true:=by rfl)
  (hkind:scope.kind=.function:=by rfl) (hcell:∀ y∈scope.names,y.2≠.cell:=by decide +kernel) (hnames:∀ y∈scope.names,y.2=.local->scope.names.lookup y.1=some .local:=by decide +kernel)
  (hfree:∀ y∈scope.names,y.2=.free->X.env.kindOf y.1=some .cell\/X.env.kindOf y.1=some .free:=by exact tE (by rfl))
  (hfr:∀ p∈fr,X.N[p.2]?=some p.1/\(X.env.kindOf p.1=some .cell\/X.env.kindOf p.1=some .free)/\(p.1,NameKind.free)∈scope.names/\((relabel scope X.env).names.lookup p.1=some .cell\/(relabel scope X.env).names.lookup p.1=some .free):=by exact A8 (by rfl))
  (hsw:swapsWith (.ListComp elt [⟨tg,iter,ifs,0⟩] scope pos) (some (.Name y py)) spos.line X.env=pure true:=by rfl)
  (hs:∀ x,foldedSetIterable iter X.env x=pure x:=by intro _;rfl):QS X (.Assign [.Name y py] (.ListComp elt [⟨tg,iter,ifs,0⟩] scope pos) spos) (oy (nY own.length (fr.map (·.2)) wi g tt te) (eS k)):=Eo own fr Ey hk hy hc hi hgx hB hkind hcell hnames hfree hfr hsw hs
end
section
variable {X:Cx}{e:Expr}{es:List Expr}{te:TE}{t:TA}{pos p:Pos}{x:Str}
theorem aO(i:Nat){pos':Pos}(hN:X.N.Nodup)(he:QE X e te)(hi:X.N[i]?=some x:=by rfl)(hx:Loc X.env.scope x:=by exact inl rfl)(hs:swapsWith e (some (.Name x pos')) pos.line X.env=pure false:=by rfl)(hf:X.fn x=true\/X.env.scope.names.lookup x=some .local:=by first | exact .inl rfl | exact .inr rfl | assumption) :
  QS X (.Assign [.Name x pos'] e pos) (oy te (eS i)):=jJ hN hi hx he hs hf
theorem Hc{CX:CXT}{k:Nat}{ps:List Str}{sp:Sp}{E:XK}(d:aq X.prog X.w X.K X.mg X.base CX k x ps sp)(hr:eM k X.A)(hx:lx CX X E)(ha:QA X (e::es) t)(hg:Gl X x:=by rfl)
  (hdb:(x == ("__debug__" : Str))=false:=by decide) (he:starEach (e::es) X.env=(false,eval e X.env)::starEach es X.env:=by rfl) (hpl:(backTo pos (starEach es X.env)).any (·.1)=false:=by rfl) :
  QE X (.Call (.Name x p) (e::es) [] pos) (tD sp E t):=LZ d hr hx hg ha hdb he hpl
theorem aJ{k:Nat}{ps:List Str}{sp:Sp}(d:aq X.prog X.w X.K X.mg X.base CX0 k x ps sp)(ha:QA X (e::es) t)(hr:eM k X.A:=by exact eM.le (by assumption))(hg:Gl X x:=by rfl)
  (hdb:(x == ("__debug__" : Str))=false:=by decide) (he:starEach (e::es) X.env=(false,eval e X.env)::starEach es X.env:=by rfl) (hpl:(backTo pos (starEach es X.env)).any (·.1)=false:=by rfl) :
  QE X (.Call (.Name x p) (e::es) [] pos) (tD sp E0 t):=LZ d hr L_ hg ha hdb he hpl
end
section
variable {X:Cx}{a b c:Expr}{ta tb tc:TE}
theorem aF(ha:QE X a ta)(h1:starEach [a] X.env=(false,eval a X.env)::starEach [] X.env:=by rfl):QA X [a] (k_ ta xt):=ai ha bq h1
theorem aH(ha:QE X a ta)(hb:QE X b tb)(h1:starEach [a,b] X.env=(false,eval a X.env)::starEach [b] X.env:=by rfl)(h2:starEach [b] X.env=(false,eval b X.env)::starEach [] X.env:=by rfl):QA X [a,b] (k_ ta (k_ tb xt)):=ai ha (aF hb h2) h1
theorem oX(ha:QE X a ta)(hb:QE X b tb)(hc:QE X c tc)(h1:starEach [a,b,c] X.env=(false,eval a X.env)::starEach [b,c] X.env:=by rfl)(h2:starEach [b,c] X.env=(false,eval b X.env)::starEach [c] X.env:=by rfl)(h3:starEach [c] X.env=(false,eval c X.env)::starEach [] X.env:=by rfl):QA X [a,b,c] (k_ ta (k_ tb (k_ tc xt))):=ai ha (aH hb hc h2 h3) h1
end
end L2
set_option maxHeartbeats 4000000
namespace Toy
open PySem L2
open PySem.Builtin.Int (intBits)
def top(i:Nat):Stmt:=PySem.Challenge.pw_keelbond_k17_whole_shared_is_paid_and_pa.main.body.getD i (.Pass ⟨0,0,0,0⟩)
abbrev fP:Stmt:=top 6
theorem bV:az ["number", "under", "greater", "lesser", "rest"] ["number", "under"] (ao fP):=⟨rfl,rfl,rfl,by decide +kernel,rfl,by decide +kernel,by decide +kernel⟩
abbrev qc:Stmt:=top 7
theorem rY:az ["number", "under", "factor"] ["number", "under"] (ao qc):=⟨rfl,rfl,rfl,by decide +kernel,rfl,by decide +kernel,by decide +kernel⟩
abbrev uj:Stmt:=top 8
theorem CD:az ["one", "other"] ["one", "other"] (ao uj):=⟨rfl,rfl,rfl,by decide +kernel,rfl,by decide +kernel,by decide +kernel⟩
abbrev sH:Stmt:=top 9
theorem CY:az ["one", "other"] ["one", "other"] (ao sH):=⟨rfl,rfl,rfl,by decide +kernel,rfl,by decide +kernel,by decide +kernel⟩
abbrev kA:Stmt:=top 10
theorem f_:az ["row", "reached", "part"] ["row"] (ao kA):=⟨rfl,rfl,rfl,by decide +kernel,rfl,by decide +kernel,by decide +kernel⟩
abbrev gx:Stmt:=top 11
theorem oz:az ["row", "under"] ["row", "under"] (ao gx):=⟨rfl,rfl,rfl,by decide +kernel,rfl,by decide +kernel,by decide +kernel⟩
abbrev um:Stmt:=top 13
theorem mz:az ["many", "found", "place"] ["many"] (ao um):=⟨rfl,rfl,rfl,by decide +kernel,rfl,by decide +kernel,by decide +kernel⟩
abbrev qT:Stmt:=top 14
theorem zt:az ["touched", "heap"] ["touched", "heap"] (ao qT):=⟨rfl,rfl,rfl,by decide +kernel,rfl,by decide +kernel,by decide +kernel⟩
abbrev iV:Stmt:=top 15
theorem rD:az ["worths", "heap"] ["worths", "heap"] (ao iV):=⟨rfl,rfl,rfl,by decide +kernel,rfl,by decide +kernel,by decide +kernel⟩
abbrev o6:Stmt:=top 17
theorem dm:az ["worths", "claims", "parts", "places", "row", "under", "numbers", "found", "heap", "inside", "due", "paid"] ["worths", "claims", "parts", "places"] (ao o6):=⟨rfl,rfl,rfl,by decide +kernel,rfl,by decide +kernel,by decide +kernel⟩
abbrev i4:Stmt:=top 18
theorem cQ:az ["found", "reached", "heap", "room", "due"] ["found"] (ao i4):=⟨rfl,rfl,rfl,by decide +kernel,rfl,by decide +kernel,by decide +kernel⟩
abbrev wD:Stmt:=top 19
theorem mQ:az ["worths", "claims", "parts", "places", "found", "reached", "spent", "halted"] ["worths", "claims", "parts", "places"] (ao wD):=⟨rfl,rfl,rfl,by decide +kernel,rfl,by decide +kernel,by decide +kernel⟩
abbrev qN:Stmt:=top 20
theorem gm:az ["worths", "claims", "parts", "places", "row", "going", "risen", "place"] ["worths", "claims", "parts", "places"] (ao qN):=⟨rfl,rfl,rfl,by decide +kernel,rfl,by decide +kernel,by decide +kernel⟩
abbrev qo:Stmt:=top 22
theorem iM:az ["worths", "claims", "parts", "rank", "places"] ["worths", "claims"] (ao qo):=⟨rfl,rfl,rfl,by decide +kernel,rfl,by decide +kernel,by decide +kernel⟩
abbrev i6:Stmt:=top 24
theorem dI:az ["claims", "rows", "fund", "found", "place", "row"] ["claims", "rows", "fund"] (ao i6):=⟨rfl,rfl,rfl,by decide +kernel,rfl,by decide +kernel,by decide +kernel⟩
abbrev fj:Stmt:=top 25
theorem bD:az ["claims", "rows", "left", "place", "chains", "reached", "at", "fund", "step"] ["claims", "rows", "left", "place"] (ao fj):=⟨rfl,rfl,rfl,by decide +kernel,rfl,by decide +kernel,by decide +kernel⟩
abbrev jf:Stmt:=top 26
theorem dG:az ["rows", "left", "chain", "most", "ahead", "step"] ["rows", "left", "chain"] (ao jf):=⟨rfl,rfl,rfl,by decide +kernel,rfl,by decide +kernel,by decide +kernel⟩
abbrev jb:Stmt:=top 27
theorem ip:az ["rows", "left", "chain", "amount", "ahead", "step"] ["rows", "left", "chain", "amount"] (ao jb):=⟨rfl,rfl,rfl,by decide +kernel,rfl,by decide +kernel,by decide +kernel⟩
abbrev BE:Stmt:=top 28
theorem qG:az ["claims", "rows", "left", "place", "number", "lacking", "chain", "amount"] ["claims", "rows", "left", "place", "number"] (ao BE):=⟨rfl,rfl,rfl,by decide +kernel,rfl,by decide +kernel,by decide +kernel⟩
abbrev lV:Stmt:=top 29
theorem vw:az ["numbers", "under"] ["numbers", "under"] (ao lV):=⟨rfl,rfl,rfl,by decide +kernel,rfl,by decide +kernel,by decide +kernel⟩
abbrev tS:Stmt:=top 30
theorem iS:az ["worths", "claims", "parts", "under", "left", "rows", "place", "number"] ["worths", "claims", "parts"] (ao tS):=⟨rfl,rfl,rfl,by decide +kernel,rfl,by decide +kernel,by decide +kernel⟩
abbrev lW:Stmt:=top 32
theorem gT:az ["_law_script", "_law_salt", "_law_one"] ["_law_script"] (ao lW):=⟨rfl,rfl,rfl,by decide +kernel,rfl,by decide +kernel,by decide +kernel⟩
abbrev jN:Stmt:=top 33
theorem dh:az ["_law_bag_here", "_law_many_here", "_law_seed", "_law_mixed", "_law_drawn"] ["_law_bag_here", "_law_many_here"] (ao jN):=⟨rfl,rfl,rfl,by decide +kernel,rfl,by decide +kernel,by decide +kernel⟩
abbrev lP:Stmt:=top 34
theorem h_:az ["_law_one", "_law_other"] ["_law_one", "_law_other"] (ao lP):=⟨rfl,rfl,rfl,by decide +kernel,rfl,by decide +kernel,by decide +kernel⟩
abbrev ly:Stmt:=top 35
theorem nV:az ["_law_number", "_law_under", "_law_by"] ["_law_number", "_law_under"] (ao ly):=⟨rfl,rfl,rfl,by decide +kernel,rfl,by decide +kernel,by decide +kernel⟩
abbrev kC:Stmt:=top 36
theorem tN:az ["_law_one", "_law_other"] ["_law_one", "_law_other"] (ao kC):=⟨rfl,rfl,rfl,by decide +kernel,rfl,by decide +kernel,by decide +kernel⟩
abbrev jZ:Stmt:=top 37
theorem sM:az ["_law_one", "_law_other"] ["_law_one", "_law_other"] (ao jZ):=⟨rfl,rfl,rfl,by decide +kernel,rfl,by decide +kernel,by decide +kernel⟩
abbrev i9:Stmt:=top 38
theorem rN:az ["_law_one", "_law_other"] ["_law_one", "_law_other"] (ao i9):=⟨rfl,rfl,rfl,by decide +kernel,rfl,by decide +kernel,by decide +kernel⟩
abbrev lU:Stmt:=top 39
theorem hJ:az ["_law_row", "_law_found", "_law_one"] ["_law_row"] (ao lU):=⟨rfl,rfl,rfl,by decide +kernel,rfl,by decide +kernel,by decide +kernel⟩
abbrev jt:Stmt:=top 40
theorem rg:az ["_law_found"] ["_law_found"] (ao jt):=⟨rfl,rfl,rfl,by decide +kernel,rfl,by decide +kernel,by decide +kernel⟩
abbrev jT:Stmt:=top 41
theorem uy:az ["_law_found"] ["_law_found"] (ao jT):=⟨rfl,rfl,rfl,by decide +kernel,rfl,by decide +kernel,by decide +kernel⟩
abbrev iU:Stmt:=top 42
theorem rq:az ["_law_found", "_law_many_here"] ["_law_found", "_law_many_here"] (ao iU):=⟨rfl,rfl,rfl,by decide +kernel,rfl,by decide +kernel,by decide +kernel⟩
abbrev ji:Stmt:=top 43
theorem fw:az ["_law_many_here", "_law_found", "_law_place"] ["_law_many_here"] (ao ji):=⟨rfl,rfl,rfl,by decide +kernel,rfl,by decide +kernel,by decide +kernel⟩
abbrev ke:Stmt:=top 44
theorem uG:az ["_law_touched", "_law_heap_here"] ["_law_touched", "_law_heap_here"] (ao ke):=⟨rfl,rfl,rfl,by decide +kernel,rfl,by decide +kernel,by decide +kernel⟩
abbrev je:Stmt:=top 45
theorem qW:az ["_law_worths_here", "_law_heap_here"] ["_law_worths_here", "_law_heap_here"] (ao je):=⟨rfl,rfl,rfl,by decide +kernel,rfl,by decide +kernel,by decide +kernel⟩
abbrev jW:Stmt:=top 46
theorem t_:az ["_law_claims_here", "_law_parts", "_law_heap_here"] ["_law_claims_here", "_law_parts", "_law_heap_here"] (ao jW):=⟨rfl,rfl,rfl,by decide +kernel,rfl,by decide +kernel,by decide +kernel⟩
abbrev ko:Stmt:=top 47
theorem tV:az ["_law_bag_here"] ["_law_bag_here"] (ao ko):=⟨rfl,rfl,rfl,by decide +kernel,rfl,by decide +kernel,by decide +kernel⟩
abbrev ky:Stmt:=top 48
theorem me:az ["_law_bag_here", "_law_many_here", "_law_mask"] ["_law_bag_here", "_law_many_here"] (ao ky):=⟨rfl,rfl,rfl,by decide +kernel,rfl,by decide +kernel,by decide +kernel⟩
abbrev iJ:Stmt:=top 49
theorem kq:az ["_law_bag_here", "_law_many_here", "_law_scale"] ["_law_bag_here", "_law_many_here"] (ao iJ):=⟨rfl,rfl,rfl,by decide +kernel,rfl,by decide +kernel,by decide +kernel⟩
abbrev lE:Stmt:=top 50
theorem vq:az ["_law_bag_here", "_law_scale"] ["_law_bag_here", "_law_scale"] (ao lE):=⟨rfl,rfl,rfl,by decide +kernel,rfl,by decide +kernel,by decide +kernel⟩
abbrev iB:Stmt:=top 51
theorem c7:az ["_law_bag_here", "_law_many_here", "_law_scale", "_law_ranks", "_law_found", "_law_k"] ["_law_bag_here", "_law_many_here"] (ao iB):=⟨rfl,rfl,rfl,by decide +kernel,rfl,by decide +kernel,by decide +kernel⟩
abbrev cV:Stmt:=top 52
theorem jd:az ["_law_worths_here", "_law_claims_here", "_law_parts", "_law_heap_here"] ["_law_worths_here", "_law_claims_here", "_law_parts", "_law_heap_here"] (ao cV):=⟨rfl,rfl,rfl,by decide +kernel,rfl,by decide +kernel,by decide +kernel⟩
abbrev j_:Stmt:=top 53
theorem tO:az ["_law_one"] ["_law_one"] (ao j_):=⟨rfl,rfl,rfl,by decide +kernel,rfl,by decide +kernel,by decide +kernel⟩
abbrev iz:Stmt:=top 54
theorem a_:az ["_law_bag_here", "_law_many_here", "_law_scale", "_law_under", "_law_claims_here", "_law_rows", "_law_claim", "_law_row", "_law_place", "_law_more", "_law_worths_here"] ["_law_bag_here"] (ao iz):=⟨rfl,rfl,rfl,by decide +kernel,rfl,by decide +kernel,by decide +kernel⟩
abbrev fO:Stmt:=top 55
theorem mY:az ["_law_claim", "_law_part", "_law_row"] ["_law_claim", "_law_part", "_law_row"] (ao fO):=⟨rfl,rfl,rfl,by decide +kernel,rfl,by decide +kernel,by decide +kernel⟩
abbrev eE:Stmt:=top 56
theorem gJ:az ["_law_worths_here", "_law_claims_here", "_law_parts", "_law_rows", "_law_place"] ["_law_worths_here", "_law_claims_here", "_law_parts", "_law_rows"] (ao eE):=⟨rfl,rfl,rfl,by decide +kernel,rfl,by decide +kernel,by decide +kernel⟩
abbrev e_:Stmt:=top 57
theorem ib:az ["_law_worths_here", "_law_claims_here", "_law_parts", "_law_heap_here"] ["_law_worths_here", "_law_claims_here", "_law_parts"] (ao e_):=⟨rfl,rfl,rfl,by decide +kernel,rfl,by decide +kernel,by decide +kernel⟩
abbrev jF:Stmt:=top 58
theorem dq:az ["_law_bag_here", "_law_worths_here", "_law_claims_here", "_law_parts", "_law_rows", "_law_many_here"] ["_law_bag_here"] (ao jF):=⟨rfl,rfl,rfl,by decide +kernel,rfl,by decide +kernel,by decide +kernel⟩
abbrev ig:Stmt:=top 59
theorem eJ:az ["_law_worths_here", "_law_claims_here", "_law_given", "_law_found", "_law_at"] ["_law_worths_here", "_law_claims_here"] (ao ig):=⟨rfl,rfl,rfl,by decide +kernel,rfl,by decide +kernel,by decide +kernel⟩
abbrev jV:Stmt:=top 60
theorem tZ:az ["_law_due_here", "_law_paid"] ["_law_due_here", "_law_paid"] (ao jV):=⟨rfl,rfl,rfl,by decide +kernel,rfl,by decide +kernel,by decide +kernel⟩
abbrev jh:Stmt:=top 61
theorem cS:az ["_law_claims_here", "_law_parts", "_law_place", "_law_own", "_law_mark", "_law_found", "_law_at", "_law_like"] ["_law_claims_here", "_law_parts", "_law_place"] (ao jh):=⟨rfl,rfl,rfl,by decide +kernel,rfl,by decide +kernel,by decide +kernel⟩
abbrev ij:Stmt:=top 62
theorem c9:az ["_law_worths_here", "_law_claims_here", "_law_parts", "_law_place", "_law_row", "_law_found", "_law_heap_here", "_law_load_here"] ["_law_worths_here", "_law_claims_here", "_law_parts", "_law_place"] (ao ij):=⟨rfl,rfl,rfl,by decide +kernel,rfl,by decide +kernel,by decide +kernel⟩
abbrev rX:Stmt:=top 63
theorem mW:az ["_law_script", "_law_bag_here", "_law_worths_here", "_law_claims_here", "_law_found", "_law_at"] ["_law_script"] (ao rX):=⟨rfl,rfl,rfl,by decide +kernel,rfl,by decide +kernel,by decide +kernel⟩
structure Txt(K:PySem.W.Frag)(mg:Str->Option Value)(cx:Str->Addr):Prop where
 n_sorted:mg "sorted" = none
 n_range:mg "range" = none
 n_all:mg "all" = none
 n_sum:mg "sum" = none
 n_len:mg "len" = none
 n_enumerate:mg "enumerate" = none
 n_any:mg "any" = none
 n_list:mg "list" = none
 n_set:mg "set" = none
 n_zip:mg "zip" = none
 n_min:mg "min" = none
 n_abs:mg "abs" = none
 n_isinstance:mg "isinstance" = none
 n_bool:mg "bool" = none
 n_int:mg "int" = none
 n_tuple:mg "tuple" = none
 x_BadPart:Exc K mg "BadPart" (cx "BadPart")
def nJ(U:Int)(k:Nat)(m:Int)(c:Cl):Prop:=Du U k c.n c.u/\c.hp.length<=6/\(∀ x∈c.hp,0<=x/\x < m)/\Sz 10 c.rk
def iN(H:Hp)(xs:List V)(fs:List (Nat×Int×Int)):Prop:=xs.length=fs.length/\∀(i:Nat) f,fs[i]?=some f->∃ r t,xs[i]?=some (.ref r)/\H r=some (.tup [.ref t,.int f.2.1,.int f.2.2])/\H t=some (.tup ((Srt.sub f.1).map V.int))
theorem iN.ts{H H':Hp}{xs:List V}{fs:List (Nat×Int×Int)}(h:iN H xs fs)(s:TS H H'):iN H' xs fs:=⟨h.1,fun i p hp=>by
 obtain⟨r,t,e,h1,h2⟩:=h.2 i p hp
 exact⟨r,t,e,s _ _ h1,s _ _ h2⟩⟩
theorem iN.nil{H:Hp}:iN H [] []:=⟨rfl,fun i p h=>by simp at h⟩
theorem iN.snoc{H:Hp}{xs:List V}{fs:List (Nat×Int×Int)}{r t:Addr}{f:Nat×Int×Int}(h:iN H xs fs)(hr:H r=some (.tup [.ref t,.int f.2.1,.int f.2.2]))(ht:H t=some (.tup ((Srt.sub f.1).map V.int))):iN H (xs++[.ref r]) (fs++[f]):=by
 refine⟨by rw[length_append,length_append,h.1];rfl,fun i q hq=>?_⟩
 by_cases hi:i < fs.length
 ·rw[getElem?_append_left hi] at hq
  rw[getElem?_append_left (by rw[h.1];exact hi)]
  exact h.2 i q hq
 ·have hl:=(List.getElem?_eq_some_iff.mp hq).1
  rw[length_append] at hl
  have e:i=fs.length:=by
   have:([f]:List (Nat×Int×Int)).length=1:=rfl
   omega
  subst e
  rw[getElem?_append_right (le_refl _),sub_self] at hq
  cases hq
  exact⟨r,t,by rw[getElem?_append_right (by rw[h.1];exact le_refl _),h.1,sub_self];rfl,hr,ht⟩
def Ji(fs:List (Nat×Int×Int)):Prop:=∀ f∈fs,0 < f.2.2/\Sz 8000 f.2.1/\Sz 8000 f.2.2
theorem uk{fs:List (Nat×Int×Int)}(h:Ji fs):0 < (dF fs).2/\Sz 8000 (dF fs).1/\Sz 8000 (dF fs).2:=by
 obtain⟨a1,_,_,a4⟩:=mM fs (1,1) (by decide) fun f hf=>(h f hf).1
 refine⟨a1,?_⟩
 rcases a4 with e | ⟨f,hf,e⟩
 ·show Sz 8000 (fs.foldl bB (1,1)).1/\Sz 8000 (fs.foldl bB (1,1)).2
  rw[e]
  exact⟨by decide,by decide⟩
 ·show Sz 8000 (fs.foldl bB (1,1)).1/\Sz 8000 (fs.foldl bB (1,1)).2
  rw[e]
  exact (h f hf).2
theorem xi{fs:List (Nat×Int×Int)}{i:Nat}(h:i < fs.length):dF (fs.take (i+1))=bB (dF (fs.take i)) fs[i]:=by
 unfold dF
 rw[take_succ_eq_append_getElem h,List.foldl_append]
 rfl
structure mx(U:Int)(k:Nat)(w c p pl:Addr)(ws:List Int)(xs:List V)(cs:List Cl)(ys:List V)(ps:List (Int×Int))(q:Nat->Bool)(H:Hp):Prop where
 hU:UOk U
 hk:k<=4700
 w:H w=some (.lst (ws.map V.int))
 c:H c=some (.lst xs)
 hC:ClsAt H xs cs
 p:H p=some (.lst ys)
 hR:bL U k H ys ps
 pl:H pl=some (.lst (plV cs.length q))
 len:cs.length=ps.length
 c16:cs.length<=16
 due:∀ c∈cs,dS U k (c.n,c.u)/\c.hp.length<=6
 w6:ws.length<=6
 wz:∀ x∈ws,Sz 200 x
theorem mx.same{U:Int}{k:Nat}{w c p pl:Addr}{ws:List Int}{xs:List V}{cs:List Cl}{ys:List V}{ps:List (Int×Int)}{q:Nat->Bool}{H H':Hp}(x:mx U k w c p pl ws xs cs ys ps q H)(s:ak H H'):mx U k w c p pl ws xs cs ys ps q H' :=
 ⟨x.hU,x.hk,s _ _ x.w,s _ _ x.c,x.hC.ts (TS.of s),s _ _ x.p,x.hR.ts (TS.of s),s _ _ x.pl,x.len,x.c16,x.due,x.w6,x.wz⟩
theorem mx.row{U:Int}{k:Nat}{w c p pl:Addr}{ws:List Int}{xs:List V}{cs:List Cl}{ys:List V}{ps:List (Int×Int)}{q:Nat->Bool}{H:Hp}(x:mx U k w c p pl ws xs cs ys ps q H){i:Nat}(hi:i < cs.length):dS U k (cI cs ps q i):=by
 unfold cI
 by_cases h:q i=true
 ·rw[if_pos h,fW hi]
  exact (x.due _ (getElem_mem hi)).1
 ·rw[if_neg h]
  have jK:i < ps.length:=by rw[<- x.len];exact hi
  have e:ps.getD i (0,1)=ps[i]:=by simp[getD_eq_getElem?_getD,jK]
  rw[e]
  exact x.hR.mem _ (getElem_mem jK)
theorem Dx{U:Int}{k:Nat}{w c p pl:Addr}{ws:List Int}{xs:List V}{cs:List Cl}{ys:List V}{ps:List (Int×Int)}{q:Nat->Bool}{H:Hp}(x:mx U k w c p pl ws xs cs ys ps q H):∀ r∈lu cs ps q cs.length,dS U k r:=fun r hr=>by
 obtain⟨i,hi,rfl⟩:=mem_map.mp hr
 exact x.row (mem_range.mp hi)
def cK(cs:List Cl)(ps:List (Int×Int))(q:Nat->Bool):Int:=bS (lu cs ps q cs.length)
theorem oI{U:Int}{k:Nat}{w c p pl:Addr}{ws:List Int}{xs:List V}{cs:List Cl}{ys:List V}{ps:List (Int×Int)}{q:Nat->Bool}{H:Hp}(x:mx U k w c p pl ws xs cs ys ps q H):0 < cK cs ps q/\cK cs ps q∣U/\(∀ i,i < cs.length->Ok (cK cs ps q) (cI cs ps q i))/\Sz 4000 (cK cs ps q):=by
 obtain⟨a,b,c⟩:=oN (U:=U) (l:=lu cs ps q cs.length) fun r hr=>(Dx x r hr).toOk
 exact⟨a,b,fun i hi=>c _ (mem_map.mpr ⟨i,mem_range.mpr hi,rfl⟩),x.hU.sz.le (cC b x.hU.pos)⟩
theorem Gf{U:Int}{k:Nat}{w c p pl:Addr}{ws:List Int}{xs:List V}{cs:List Cl}{ys:List V}{ps:List (Int×Int)}{q:Nat->Bool}{H:Hp}(x:mx U k w c p pl ws xs cs ys ps q H){i:Nat}(hi:i < cs.length):Sz k (num (cK cs ps q) (cI cs ps q i)):=by
 obtain⟨a,b,c,_⟩:=oI x
 exact (x.row hi).sz.le (G_ a x.hU.pos (c i hi) b)
theorem BG{U:Int}{k:Nat}{w c p pl:Addr}{ws:List Int}{xs:List V}{cs:List Cl}{ys:List V}{ps:List (Int×Int)}{q:Nat->Bool}{H:Hp}(x:mx U k w c p pl ws xs cs ys ps q H)(hs:List Int):Sz 4716 (b_ (cK cs ps q) cs q hs):=by
 unfold b_
 refine Sz.mono (uv (k:=k) (n:=16) (le_trans (length_filter_le _ _) (le_trans (j9 _ _) x.c16)) fun i hi=>?_) (by have:=x.hk;omega)
 obtain⟨h1,h2⟩:=mem_filter.mp hi
 have:=Gf x (cX h1)
 unfold cI at this
 rwa [if_pos h2] at this
theorem DL{U:Int}{k:Nat}{w c p pl:Addr}{ws:List Int}{xs:List V}{cs:List Cl}{ys:List V}{ps:List (Int×Int)}{q:Nat->Bool}{H:Hp}(x:mx U k w c p pl ws xs cs ys ps q H)(hs:List Int):Sz 4716 (gE (cK cs ps q) cs ps q hs):=by
 unfold gE
 refine Sz.mono (uv (k:=k) (n:=16) (le_trans (length_filter_le _ _) (le_trans (j9 _ _) x.c16)) fun i hi=>?_) (by have:=x.hk;omega)
 obtain⟨h1,h2⟩:=mem_filter.mp hi
 have:=Gf x (cX h1)
 unfold cI at this
 rwa [if_neg (by simpa using h2)] at this
abbrev RB(ws:List Int)(cs:List Cl)(ps:List (Int×Int))(q:Nat->Bool)(i:Nat):Int:=bE (cK cs ps q) ws cs ps q (Srt.sub i)
abbrev DB(cs:List Cl)(ps:List (Int×Int))(q:Nat->Bool)(i:Nat):Int:=b_ (cK cs ps q) cs q (Srt.sub i)
theorem HR{U:Int}{k:Nat}{w c p pl:Addr}{ws:List Int}{xs:List V}{cs:List Cl}{ys:List V}{ps:List (Int×Int)}{q:Nat->Bool}{H:Hp}(x:mx U k w c p pl ws xs cs ys ps q H)(O:List Nat):Ji (gQ (RB ws cs ps q) (DB cs ps q) O):=fun f hf=>by
 obtain⟨i,hi,rfl⟩:=mem_map.mp hf
 refine⟨of_decide_eq_true (mem_filter.mp hi).2,?_,(BG x _).mono (by decide)⟩
 have a:=(qA (hs:=Srt.sub i) x.wz (sub_len i)).mul (oI x).2.2.2
 exact Sz.mono (Sz.sub (k:=4716) (a.mono (by decide)) (DL x _)) (by decide)
theorem mD{n:Nat}{q:Nat->Bool}:(plV n q).all h7=true:=kY _
def cJ(R D:Nat->Int)(n:Nat)(lv:Int×Int)(cs:List Cl)(q:Nat->Bool)(i:Nat):Bool:=q i && (decide (lv=(1,1)) || ((range n).filter (gB R D lv)).any fun j=>inn cs (Srt.sub j) i)
theorem Bk{n u:Int}{k:Nat}(hn:Sz k n)(hu:Sz k u):Sz k (low n u).1/\Sz k (low n u).2:=⟨hn.le (cO _ _),hu.le (cO _ _)⟩
theorem E1{n:Nat}{q q':Nat->Bool}(h:∀ i,i < n->q i=q' i):plV n q=plV n q':=by
 unfold plV plL
 rw[filter_congr fun i hi=>h i (mem_range.mp hi)]
def Nt1(hs:List Int)(r:List (Int×Int)):Prop:=∀ p:Nat,(p:Int)∉hs->r.getD p (0,1)=(0,1)
def tH(cs:List Cl)(aU:List (List (Int×Int))):Prop:=∀(i:Nat) c r,cs[i]?=some c->aU[i]?=some r->Nt1 c.hp r
def GY(aU:List (List (Int×Int)))(p:Nat):Int:=(aU.map fun r=>num UM (r.getD p (0,1))).sum
def vj(aU:List (List (Int×Int)))(ws:List Int):Prop:=∀ p,p < ws.length->GY aU p<=ws.getD p 0*UM
theorem Nt1.rep{hs:List Int}{m:Nat}:Nt1 hs (replicate m (0,1)):=fun p _=>by
 rw[getD_eq_getElem?_getD,getElem?_replicate]
 split<;>rfl
theorem Nt1.put{hs:List Int}{r:List (Int×Int)}{x:Int}{v:Int×Int}(h:Nt1 hs r)(hx:x∈hs)(h0:0<=x):Nt1 hs (r.set x.toNat v):=fun p hp=>by
 have ne:x.toNat≠p:=fun z=>hp (by rw[<- z,toNat_of_nonneg h0];exact hx)
 have:=h p hp
 rw[getD_eq_getElem?_getD] at this |-
 rw[getElem?_set_ne ne]
 exact this
theorem tH.nil:tH [] []:=fun i c r h=>by simp at h
theorem tH.snoc{cs:List Cl}{aU:List (List (Int×Int))}{c:Cl}{r:List (Int×Int)}(h:tH cs aU)(e:aU.length=cs.length)(hr:Nt1 c.hp r):tH (cs++[c]) (aU++[r]):=fun i c' r' hc h'=>by
 by_cases hi:i < cs.length
 ·rw[getElem?_append_left hi] at hc
  rw[getElem?_append_left (by omega)] at h'
  exact h i c' r' hc h'
 ·have hl:=(List.getElem?_eq_some_iff.mp hc).1
  rw[length_append] at hl
  have e2:i=cs.length:=by
   have:([c]:List Cl).length=1:=rfl
   omega
  subst e2
  rw[getElem?_append_right (le_refl _),sub_self] at hc
  rw[getElem?_append_right (by omega),e,sub_self] at h'
  cases hc
  cases h'
  exact hr
theorem vj.snoc{aU:List (List (Int×Int))}{ws:List Int}{x:Int}{j:Nat}(h:vj aU ws)(e:ws.length=j)(hx:GY aU j<=x*UM):vj aU (ws++[x]):=fun p hp=>by
 rw[getD_eq_getElem?_getD]
 by_cases hl:p < ws.length
 ·have:=h p hl
  rw[getD_eq_getElem?_getD] at this
  rw[getElem?_append_left hl]
  exact this
 ·rw[length_append] at hp
  have e2:p=ws.length:=by
   have:([x]:List Int).length=1:=rfl
   omega
  rw[e2,getElem?_append_right (le_refl _),sub_self,e]
  exact hx
theorem EY{S:Int×Int}(o:Ok UM S):num UM S<=-(-S.1 / S.2)*UM:=by
 have hp:=o.pos
 have h1:=Int.ediv_mul_le (-S.1) (by omega:S.2≠0)
 have h2:=num_mul o
 have h3:S.1<=-(-S.1 / S.2)*S.2:=by rw[Int.neg_mul];omega
 have h4:=mul_le_mul_of_nonneg_right h3 (le_of_lt df.pos)
 generalize -(-S.1 / S.2)=c at h4 |-
 refine le_of_mul_le_mul_right (a:=S.2) ?_ hp
 rw[h2]
 have e:c*UM*S.2=c*S.2*UM:=by rw[mul_assoc,mul_comm UM,<- mul_assoc]
 rw[e]
 exact h4
structure Tb(H0:Hp)(B L F C Z:Addr)(mT:List V)(lY:List Cl)(xs:List V)(cs:List Cl)(zs:List V)(aU:List (List (Int×Int)))(H:Hp):Prop where
 b:br H B L
 fr:Fr1 B H0 H
 f:H F=some (.lst mT)
 hF:ClsAt H mT lY
 c:H C=some (.lst xs)
 hC:ClsAt H xs cs
 z:H Z=some (.lst zs)
 hZ:dQ [B,L,F,C,Z] UM 115 H zs aU
 hz0:∀ l,V.ref l∈zs->H0 l=none
structure Tn(H0:Hp)(B L F C Z:Addr):Prop where
 fB:F≠B
 fL:F≠L
 cB:C≠B
 cL:C≠L
 zB:Z≠B
 zL:Z≠L
 fC:F≠C
 fZ:F≠Z
 cZ:C≠Z
 f0:H0 F=none
 c0:H0 C=none
 z0:H0 Z=none
theorem Tb.pull{H0:Hp}{B L F C Z:Addr}{mT:List V}{lY:List Cl}{xs:List V}{cs:List Cl}{zs:List V}{aU:List (List (Int×Int))}{H:Hp}{H':Hp}(t:Tb H0 B L F C Z mT lY xs cs zs aU H)(n:Tn H0 B L F C Z)(f:Fr1 B H H')(b:br H' B L):Tb H0 B L F C Z mT lY xs cs zs aU H':=by
 have s:=TS.fr t.b f
 exact⟨b,t.fr.trans f,f _ _ n.fB t.f,t.hF.ts s,f _ _ n.cB t.c,t.hC.ts s,f _ _ n.zB t.z,t.hZ.step (fun l xs _ hx h=>f l _ (fun e=>hx (by rw[e];exact mem_cons_self)) h) s,t.hz0⟩
theorem Tb.same{H0:Hp}{B L F C Z:Addr}{mT:List V}{lY:List Cl}{xs:List V}{cs:List Cl}{zs:List V}{aU:List (List (Int×Int))}{H:Hp}{H':Hp}(t:Tb H0 B L F C Z mT lY xs cs zs aU H)(s:ak H H'):Tb H0 B L F C Z mT lY xs cs zs aU H' :=
 ⟨t.b.keep s,t.fr.trans (Fr1.of s),s _ _ t.f,t.hF.ts (TS.of s),s _ _ t.c,t.hC.ts (TS.of s),s _ _ t.z,t.hZ.step (fun l xs _ _ h=>s _ _ h) (TS.of s),t.hz0⟩
theorem Tb.row{H0:Hp}{B L F C Z:Addr}{mT:List V}{lY:List Cl}{xs:List V}{cs:List Cl}{zs:List V}{aU:List (List (Int×Int))}{H:Hp}{a:Addr}{ys u3:List V}(t:Tb H0 B L F C Z mT lY xs cs zs aU H)(ha:H a=some (.lst ys))(nB:a≠B)(nL:a≠L)(nF:a≠F)(nC:a≠C)(nZ:a≠Z)(nz:V.ref a∉zs)(h0:H0 a=none):Tb H0 B L F C Z mT lY xs cs zs aU (upd H a (.lst u3)):=by
 have s:TS H (upd H a (.lst u3)):=TS.lst ha
 refine⟨t.b.put nB nL,fun b o hb h=>?_,by rw[ax nF.symm];exact t.f,t.hF.ts s,by rw[ax nC.symm];exact t.c,t.hC.ts s,by rw[ax nZ.symm];exact t.z,t.hZ.step (fun l xs hl _ h=>?_) s,t.hz0⟩
 ·rw[ax (fun e=>by rw[e,h0] at h;cases h)]
  exact t.fr b o hb h
 ·rw[ax (fun e=>nz (by rw[<- e];exact hl))]
  exact h
theorem Tb.IP{H0:Hp}{B L F C Z:Addr}{mT:List V}{lY:List Cl}{xs:List V}{cs:List Cl}{zs:List V}{aU:List (List (Int×Int))}{H:Hp}{r:Addr}{ys:List V}{row:List (Int×Int)}(t:Tb H0 B L F C Z mT lY xs cs zs aU H)(n:Tn H0 B L F C Z)(hr:H r=some (.lst ys))(hR:bL UM 115 H ys row)(rB:r≠B)(rL:r≠L)(rF:r≠F)(rC:r≠C)(rZ:r≠Z)(rz:V.ref r∉zs)(r0:H0 r=none):Tb H0 B L F C Z mT lY xs cs (zs++[.ref r]) (aU++[row]) (upd H Z (.lst (zs++[.ref r]))):=by
 have s:TS H (upd H Z (.lst (zs++[.ref r]))):=TS.lst t.z
 refine⟨t.b.put n.zB n.zL,fun b o hb h=>?_,by rw[ax n.fZ];exact t.f,t.hF.ts s,by rw[ax n.cZ];exact t.c,t.hC.ts s,af,?_,fun l hl=>?_⟩
 ·rw[ax (fun e=>by rw[e,n.z0] at h;cases h)]
  exact t.fr b o hb h
 ·refine (t.hZ.step (fun l xs hl hx h=>?_) s).snoc rz (by rw[ax rZ];exact hr) (hR.ts s) ?_
  ·rw[ax (fun e=>hx (by rw[e];simp))]
   exact h
  ·simp[rB,rL,rF,rC,rZ]
 ·rcases mem_append.mp hl with hl | hl
  ·exact t.hz0 l hl
  ·have:=mem_singleton.mp hl
   cases this
   exact r0
theorem Tb.A6{H0:Hp}{B L F C Z:Addr}{mT:List V}{lY:List Cl}{xs:List V}{cs:List Cl}{zs:List V}{aU:List (List (Int×Int))}{H:Hp}{v:V}{c:Cl}(t:Tb H0 B L F C Z mT lY xs cs zs aU H)(n:Tn H0 B L F C Z)(hv:tF H v c):Tb H0 B L F C Z mT lY (xs++[v]) (cs++[c]) zs aU (upd H C (.lst (xs++[v]))):=by
 have s:TS H (upd H C (.lst (xs++[v]))):=TS.lst t.c
 refine⟨t.b.put n.cB n.cL,fun b o hb h=>?_,by rw[ax n.fC];exact t.f,t.hF.ts s,af,(t.hC.ts s).snoc (hv.ts s),by rw[ax n.cZ.symm];exact t.z,t.hZ.step (fun l xs hl hx h=>?_) s,t.hz0⟩
 ·rw[ax (fun e=>by rw[e,n.c0] at h;cases h)]
  exact t.fr b o hb h
 ·rw[ax (fun e=>hx (by rw[e];simp))]
  exact h
theorem Jv{U:Int}(hU:0 < U){k j:Nat}{a b:Int×Int}(ha:dS U k a)(hb:dS U k b)(na:0<=a.1)(nb:0<=b.1)(hj:k+1<=j):Du U j (fM a b).1 (fM a b).2:=by
 have e:=Cu hU ha.toOk hb.toOk
 have o:Ok U (fM a b):=by rw[e];exact qq hU
 have en:num U (fM a b)=num U a+num U b:=by rw[e,oJ hU]
 refine⟨⟨o,?_⟩,?_⟩
 ·show Sz j (num U (fM a b))
  rw[en]
  exact Sz.mono (Sz.add ha.sz hb.sz) hj
 ·have h1:=(fN hU ha.toOk).mp na
  have h2:=(fN hU hb.toOk).mp nb
  exact (fN hU o).mpr (by rw[en];omega)
def y9(m:Nat)(r:List (Int×Int)):Prop:=r.length=m/\∀ p∈r,0<=p.1
structure Tf(H0:Hp)(B L W C P Z:Addr)(ws:List Int)(xs:List V)(cs:List Cl)(ys:List V)(ps:List (Int×Int))(zs:List V)(aU:List (List (Int×Int)))(H:Hp):Prop where
 b:br H B L
 fr:Fr1 B H0 H
 w:H W=some (.lst (ws.map V.int))
 c:H C=some (.lst xs)
 hC:ClsAt H xs cs
 p:H P=some (.lst ys)
 hR:bL UM 121 H ys ps
 z:H Z=some (.lst zs)
 hZ:dQ [B,L,W,C,P,Z] UM 115 H zs aU
 w0:H0 W=none
 c0:H0 C=none
 p0:H0 P=none
 z0:H0 Z=none
 wc:W≠C
 wp:W≠P
 wz:W≠Z
 cp:C≠P
 cz:C≠Z
 pz:P≠Z
 w6:ws.length<=6
 wsz:∀ x∈ws,0<=x/\Sz 140 x
 c16:cs.length<=16
 pl:ps.length=cs.length
 rl:aU.length=cs.length
 hG:∀ c∈cs,nJ UM 122 ws.length c
 hr:∀ r∈aU,y9 ws.length r
 eP:ps=aU.map bN
 hn:tH cs aU
 col:vj aU ws
theorem uW{α:Type}{g:α->Bool}{f:α->Int}{l:List α}(h:∀ x∈l,0<=f x):((l.filter g).map f).sum<=(l.map f).sum:=by
 rw[eZ]
 refine pb fun i hi=>?_
 split
 ·exact Int.le_refl _
 ·exact h i hi
theorem sum_add{α:Type}(f g:α->Int):∀ I:List α,(I.map fun i=>f i+g i).sum=(I.map f).sum+(I.map g).sum
 | []=>rfl
 | i::I=>by
  rw[map_cons,map_cons,map_cons,sum_cons,sum_cons,sum_cons,sum_add f g I]
  omega
structure Ap(B L W C P Pl:Addr):Prop where
 wB:W≠B
 wL:W≠L
 cB:C≠B
 cL:C≠L
 pB:P≠B
 pL:P≠L
 plB:Pl≠B
 plL:Pl≠L
 wP:W≠P
 cP:C≠P
 plP:Pl≠P
theorem Fj{U:Int}{ws:List Int}{cs:List Cl}{ps:List (Int×Int)}{q:Nat->Bool}{N:Nat}{lv:Int×Int}(L:Lvl (fun i=>bE U ws cs ps q (Srt.sub i)) (fun i=>b_ U cs q (Srt.sub i)) N lv)(h:plL cs.length q≠[]):plL cs.length (cJ (fun i=>bE U ws cs ps q (Srt.sub i)) (fun i=>b_ U cs q (Srt.sub i)) N lv cs q)≠[]:=by
 have key:∃ i,i < cs.length/\cJ (fun i=>bE U ws cs ps q (Srt.sub i)) (fun i=>b_ U cs q (Srt.sub i)) N lv cs q i=true:=by
  rcases L.at' with e | ⟨j,hj,hD,e⟩
  ·obtain⟨x,hx⟩:=List.exists_mem_of_ne_nil _ h
   obtain⟨i,hi,rfl⟩:=mem_map.mp hx
   obtain⟨h1,h2⟩:=mem_filter.mp hi
   refine⟨i,mem_range.mp h1,?_⟩
   unfold cJ
   rw[h2,decide_eq_true e]
   rfl
  ·have hne:(cU cs (Srt.sub j)).filter q≠[]:=fun z=>by
    have:b_ U cs q (Srt.sub j)=0:=by unfold b_;rw[z];rfl
    have KR:0 < b_ U cs q (Srt.sub j):=hD
    omega
   obtain⟨i,hi⟩:=List.exists_mem_of_ne_nil _ hne
   obtain⟨h1,h2⟩:=mem_filter.mp hi
   refine⟨i,cX h1,?_⟩
   unfold cJ
   rw[h2,Bool.true_and,or_eq_true]
   refine .inr (any_eq_true.mpr ⟨j,mem_filter.mpr ⟨mem_range.mpr hj,?_⟩,(mem_filter.mp h1).2⟩)
   unfold gB
   have e':b_ U cs q (Srt.sub j)*lv.1=bE U ws cs ps q (Srt.sub j)*lv.2:=by rw[mul_comm];exact e
   rw[decide_eq_true hD,decide_eq_true ((mX (R:=fun i=>bE U ws cs ps q (Srt.sub i)) (D:=fun i=>b_ U cs q (Srt.sub i)) L.pos L.cop hD).mpr e')]
   rfl
 obtain⟨i,hi,e⟩:=key
 intro z
 have:(i:Int)∈plL cs.length (cJ (fun i=>bE U ws cs ps q (Srt.sub i)) (fun i=>b_ U cs q (Srt.sub i)) N lv cs q):=mem_map.mpr ⟨i,mem_filter.mpr ⟨mem_range.mpr hi,e⟩,rfl⟩
 rw[z] at this
 cases this
def d8(lv:Int×Int)(f:Nat×Int×Int):Bool:=decide (V.int (f.2.2*lv.1)=V.int (f.2.1*lv.2))
theorem FK{R D R' D':Nat->Int}{m:Nat}{lv:Int×Int}{t:Int}{cs:List Cl}{i:Nat}(hm:m<=6)(ht:0 < t)(hR:∀ i,R' i=R i*t)(hD:∀ i,D' i=D i*t)(L:Lvl R D (2 ^ m) lv) :
  (((gQ R D (dg (2 ^ m))).filter (d8 lv)).any fun f=>inn cs (Srt.sub f.1) i)=(((range (2 ^ m)).filter (gB R' D' lv)).any fun j=>inn cs (Srt.sub j) i):=by
 rw[Bool.eq_iff_iff,any_eq_true,any_eq_true]
 have pos:∀ j,0 < D' j↔0 < D j:=fun j=>by
  rw[hD]
  constructor
  ·intro h
   by_cases z:0 < D j
   ·exact z
   ·have:D j*t<=0:=mul_nonpos_of_nonpos_of_nonneg (by omega) (by omega)
    omega
  ·intro h
   exact mul_pos h ht
 have tight:∀ j,0 < D j->(low (R' j) (D' j)=lv↔D j*lv.1=R j*lv.2):=fun j h=>by
  rw[mX L.pos L.cop ((pos j).mpr h),hR,hD]
  constructor
  ·intro e
   refine eq_of_mul_eq_mul_right (a:=t) (by omega) ?_
   grind
  ·intro e
   grind
 constructor
 ·rintro ⟨f,hf,e⟩
  obtain⟨h1,h2⟩:=mem_filter.mp hf
  obtain⟨j,hj,rfl⟩:=mem_map.mp h1
  obtain⟨h3,h4⟩:=mem_filter.mp hj
  have Pk:=of_decide_eq_true h4
  refine⟨j,mem_filter.mpr ⟨mem_range.mpr (oW h3),?_⟩,e⟩
  have vx:V.int (D j*lv.1)=V.int (R j*lv.2):=of_decide_eq_true h2
  unfold gB
  rw[decide_eq_true ((pos j).mpr Pk),decide_eq_true ((tight j Pk).mpr (V.int.inj vx))]
  rfl
 ·rintro ⟨j,hj,e⟩
  obtain⟨h1,h2⟩:=mem_filter.mp hj
  unfold gB at h2
  rw[and_eq_true,decide_eq_true_eq,decide_eq_true_eq] at h2
  have h3:=(pos j).mp h2.1
  refine⟨(j,R j,D j),mem_filter.mpr ⟨mem_map.mpr ⟨j,mem_filter.mpr ⟨yH m hm j (mem_range.mp h1),decide_eq_true h3⟩,rfl⟩,?_⟩,e⟩
  have:=(tight j h3).mp h2.2
  unfold d8
  rw[decide_eq_true_eq,this]
def kh(lv:Int×Int)(cs:List Cl)(i:Nat):Int×Int:=low (lv.1*(aI cs i).1) (lv.2*(aI cs i).2)
def stp(lv:Int×Int)(cs:List Cl)(ps:List (Int×Int))(hq:Nat->Bool):List (Int×Int):=(range ps.length).map fun i=>if hq i=true then kh lv cs i else ps.getD i (0,1)
abbrev RU(U:Int)(ws:List Int)(cs:List Cl)(ps:List (Int×Int))(q:Nat->Bool)(i:Nat):Int:=bE U ws cs ps q (Srt.sub i)
abbrev DU(U:Int)(cs:List Cl)(q:Nat->Bool)(i:Nat):Int:=b_ U cs q (Srt.sub i)
theorem vZ{α:Type}{n i:Nat}{f:Nat->α}{d:α}(h:i < n):((range n).map f).getD i d=f i:=by
 rw[getD_eq_getElem?_getD,getElem?_map,getElem?_range h]
 rfl
structure FC(U0:Int)(ws:List Int)(cs:List Cl):Prop where
 u0:0 < U0
 uz:Sz 90 U0
 due:∀ c∈cs,dS U0 180 (c.n,c.u)/\0<=c.n/\c.hp.length<=6
 c16:cs.length<=16
 w6:ws.length<=6
 wz:∀ x∈ws,Sz 200 x
theorem FC.dp{U0:Int}{ws:List Int}{cs:List Cl}(c:FC U0 ws cs){i:Nat}(hi:i < cs.length):dS U0 180 (aI cs i)/\0<=(aI cs i).1:=by
 rw[fW hi]
 have:=c.due _ (getElem_mem hi)
 exact⟨this.1,this.2.1⟩
structure FI(U0:Int)(ws:List Int)(cs:List Cl)(r:Nat)(U:Int)(ps:List (Int×Int))(q:Nat->Bool):Prop where
 up:0 < U
 dvd:U0∣U
 uz:Sz (90+200*r) U
 len:ps.length=cs.length
 ok:∀ i,i < cs.length->dS U (300+200*r) (ps.getD i (0,1))
 room:∀ j,j < 2 ^ ws.length->0<=RU U ws cs ps q j
def Hd(U:Int)(ws:List Int)(cs:List Cl)(ps:List (Int×Int))(q:Nat->Bool)(i:Nat):Prop:=ps.getD i (0,1)=aI cs i\/∃ j,j < 2 ^ ws.length/\inn cs (Srt.sub j) i=true/\(∀ a∈cU cs (Srt.sub j),q a=false)/\RU U ws cs ps q j=0
def Bd(U:Int)(cs:List Cl)(ps:List (Int×Int))(q:Nat->Bool):Prop:=∀ i,i < cs.length->q i=false->0<=num U (ps.getD i (0,1))/\num U (ps.getD i (0,1))<=num U (aI cs i)
section
variable {U0 U:Int}{ws:List Int}{cs:List Cl}{r:Nat}{ps:List (Int×Int)}{q:Nat->Bool}{lv:Int×Int}
theorem sj(c:FC U0 ws cs)(d:U0∣U)(hs:List Int):b_ U cs q hs=b_ U0 cs q hs*(U / U0):=by
 refine oM (ps:=[]) c.u0 d fun i hi=>?_
 unfold cI
 by_cases h:q i=true
 ·rw[if_pos h]
  exact (c.dp hi).1.toOk
 ·rw[if_neg h]
  exact kZ
theorem yw(c:FC U0 ws cs)(hs:List Int):Sz 196 (b_ U0 cs q hs):=by
 unfold b_
 exact uv (k:=180) (n:=16) (le_trans (length_filter_le _ _) (le_trans (j9 _ _) c.c16)) fun i hi=>(c.dp (cX (mem_filter.mp hi).1)).1.sz
theorem pS(c:FC U0 ws cs)(hU:0 < U)(d:U0∣U){i:Nat}(hi:i < cs.length):0<=num U (aI cs i):=(fN hU ((c.dp hi).1.toOk.up d)).mp (c.dp hi).2
theorem xQ(c:FC U0 ws cs)(hU:0 < U)(d:U0∣U)(hs:List Int):0<=b_ U cs q hs:=by
 refine uf _ fun x hx=>?_
 obtain⟨i,hi,rfl⟩:=mem_map.mp hx
 exact pS c hU d (cX (mem_filter.mp hi).1)
theorem FI.CN(c:FC U0 ws cs)(x:FI U0 ws cs r U ps q):∀ i,i < cs.length->Ok U (cI cs ps q i):=fun i hi=>by
 unfold cI
 by_cases h:q i=true
 ·rw[if_pos h]
  exact (c.dp hi).1.toOk.up x.dvd
 ·rw[if_neg h]
  exact (x.ok i hi).toOk
theorem Gy(c:FC U0 ws cs)(x:FI U0 ws cs r U ps q)(L:Lvl (RU U ws cs ps q) (DU U cs q) (2 ^ ws.length) lv):0<=lv.1:=by
 rcases L.at' with rfl | ⟨j,hj,hD,e⟩
 ·decide
 ·have h1:=x.room j hj
  have h2:=mul_nonneg h1 (le_of_lt L.pos)
  rw[<- e] at h2
  by_cases z:0<=lv.1
  ·exact z
  ·have:lv.1*DU U cs q j < 0:=Int.mul_neg_of_neg_of_pos (by omega) hD
   omega
theorem xE(c:FC U0 ws cs)(x:FI U0 ws cs r U ps q)(L:Lvl (RU U ws cs ps q) (DU U cs q) (2 ^ ws.length) lv):∃ d,0 < d/\Sz 196 d/\∀ i,i < cs.length->Ok (U*d) (kh lv cs i)/\num (U*d) (kh lv cs i)*lv.2=lv.1*num (U*d) (aI cs i):=by
 rcases L.at' with rfl | ⟨j,hj,hD,e⟩
 ·refine⟨1,by decide,by decide,fun i hi=>?_⟩
  have o:=(c.dp hi).1.toOk
  have e:kh (1,1) cs i=aI cs i:=iX (by show 0 < 1*_;rw[one_mul];exact o.pos) o.pos o.cop (by show 1*_*_=_*(1*_);rw[one_mul,one_mul])
  rw[e,mul_one]
  exact⟨o.up x.dvd,mul_comm _ _⟩
 ·have eb:=sj (q:=q) c x.dvd (Srt.sub j)
  have t0:=(cv c.u0 x.up x.dvd).1
  have KR:0 < b_ U cs q (Srt.sub j):=hD
  have d0:0 < b_ U0 cs q (Srt.sub j):=by
   by_cases z:0 < b_ U0 cs q (Srt.sub j)
   ·exact z
   ·have:b_ U0 cs q (Srt.sub j)*(U / U0)<=0:=mul_nonpos_of_nonpos_of_nonneg (by omega) (by omega)
    omega
  refine⟨_,d0,yw c _,fun i hi=>Iz (R:=RU U ws cs ps q j) c.u0 t0 ?_ d0 (c.dp hi).1.toOk L.pos ?_⟩
  ·rw[mul_comm]
   exact (ediv_mul_cancel x.dvd).symm
  ·rw[<- eb,mul_comm]
   exact e
theorem sU{hq:Nat->Bool}{i:Nat}(h:i < ps.length):(stp lv cs ps hq).getD i (0,1)=if hq i=true then kh lv cs i else ps.getD i (0,1):=vZ h
theorem kH{R D:Nat->Int}{n i:Nat}(h:cJ R D n lv cs q i=true):q i=true:=by
 unfold cJ at h
 rw[and_eq_true] at h
 exact h.1
theorem DY{l1 l2 W P P' A A0 R0 d:Int}(lp:0 < l2)(h3:l2*P'<=l2*P+l1*A)(e1:W - P=R0*d)(e2:A=A0*d)(h5:l1*A0*d<=R0*l2*d):0<=W - P':=by
 refine le_of_mul_le_mul_right (a:=l2) ?_ lp
 have k1:l1*A0*d=l1*A:=by rw[e2,mul_assoc]
 have k2:R0*l2*d=W*l2 - l2*P:=by
  have:R0*l2*d=R0*d*l2:=by rw[mul_assoc,mul_comm l2,<- mul_assoc]
  rw[this,<- e1,sub_mul,mul_comm P]
 have k3:(W - P')*l2=W*l2 - l2*P':=by rw[sub_mul,mul_comm P']
 rw[k3,zero_mul]
 omega
theorem E2{l1 l2 W P P' A A0 R0 d:Int}(lp:0 < l2)(h3:l2*P'=l2*P+l1*A)(e1:W - P=R0*d)(e2:A=A0*d)(h5:l1*A0*d=R0*l2*d):W - P'=0:=by
 refine eq_of_mul_eq_mul_right (a:=l2) (by omega) ?_
 have k1:l1*A0*d=l1*A:=by rw[e2,mul_assoc]
 have k2:R0*l2*d=W*l2 - l2*P:=by
  have:R0*l2*d=R0*d*l2:=by rw[mul_assoc,mul_comm l2,<- mul_assoc]
  rw[this,<- e1,sub_mul,mul_comm P]
 have k3:(W - P')*l2=W*l2 - l2*P':=by rw[sub_mul,mul_comm P']
 rw[k3,zero_mul]
 omega
theorem FI.step(c:FC U0 ws cs)(x:FI U0 ws cs r U ps q)(L:Lvl (RU U ws cs ps q) (DU U cs q) (2 ^ ws.length) lv) :
  ∃ U',FI U0 ws cs (r+1) U' (stp lv cs ps (cJ (RU U ws cs ps q) (DU U cs q) (2 ^ ws.length) lv cs q)) (fun i=>q i && !cJ (RU U ws cs ps q) (DU U cs q) (2 ^ ws.length) lv cs q i) /\
   (Bd U cs ps q->Bd U' cs (stp lv cs ps (cJ (RU U ws cs ps q) (DU U cs q) (2 ^ ws.length) lv cs q)) (fun i=>q i && !cJ (RU U ws cs ps q) (DU U cs q) (2 ^ ws.length) lv cs q i)) /\
   ∀ i,i < cs.length->(q i=true\/Hd U ws cs ps q i)->(q i && !cJ (RU U ws cs ps q) (DU U cs q) (2 ^ ws.length) lv cs q i)=true\/Hd U' ws cs (stp lv cs ps (cJ (RU U ws cs ps q) (DU U cs q) (2 ^ ws.length) lv cs q)) (fun i=>q i && !cJ (RU U ws cs ps q) (DU U cs q) (2 ^ ws.length) lv cs q i) i:=by
 obtain⟨d,d0,dz,hn⟩:=xE c x L
 have l0:=Gy c x L
 have lp:=L.pos
 have Lc:0 < U*d:=mul_pos x.up d0
 have dv:U∣U*d:=⟨d,rfl⟩
 have zI:U0∣U*d:=dvd_trans x.dvd dv
 have ed:U*d / U=d:=Int.mul_ediv_cancel_left d (by have:=x.up;omega)
 have hsub:∀ i,cJ (RU U ws cs ps q) (DU U cs q) (2 ^ ws.length) lv cs q i=true->q i=true:=fun i h=>kH h
 have hD:∀ hs,b_ (U*d) cs q hs=b_ U cs q hs*d:=fun hs=>by rw[oM x.up dv (x.CN c),ed]
 have hR:∀ hs,bE (U*d) ws cs ps q hs=bE U ws cs ps q hs*d:=fun hs=>by rw[oS x.up dv (x.CN c),ed]
 have hqd:∀ i,cJ (RU U ws cs ps q) (DU U cs q) (2 ^ ws.length) lv cs q i=(q i && (decide (lv=(1,1)) || ((range (2 ^ ws.length)).filter (gB (RU U ws cs ps q) (DU U cs q) lv)).any fun j=>inn cs (Srt.sub j) i)):=fun i=>rfl
 generalize cJ (RU U ws cs ps q) (DU U cs q) (2 ^ ws.length) lv cs q=hq at hsub hqd |-
 have sa:∀ i,i < cs.length->(stp lv cs ps hq).getD i (0,1)=if hq i=true then kh lv cs i else ps.getD i (0,1):=fun i hi=>sU (by rw[x.len];exact hi)
 have CQ:∀ hs,∀ i∈cU cs hs,hq i=true->lv.2*num (U*d) ((stp lv cs ps hq).getD i (0,1))=lv.1*num (U*d) (aI cs i):=fun hs i hi h=>by
  have il:=cX hi
  rw[sa i il,if_pos h,mul_comm]
  exact (hn i il).2
 have wt:∀ hs,∀ i∈cU cs hs,hq i=false->num (U*d) ((stp lv cs ps hq).getD i (0,1))=num (U*d) (ps.getD i (0,1)):=fun hs i hi h=>by
  rw[sa i (cX hi),if_neg (by rw[h];exact Bool.false_ne_true)]
 have room:∀ hs,(0 < b_ U cs q hs->lv.1*b_ U cs q hs<=bE U ws cs ps q hs*lv.2)->0<=bE U ws cs ps q hs->0<=bE (U*d) ws cs (stp lv cs ps hq) (fun i=>q i && !hq i) hs:=fun hs h1 h2=>by
  have h3:=Es (I:=cU cs hs) (q:=q) (hq:=hq) (a:=fun i=>num (U*d) (aI cs i)) (x:=fun i=>num (U*d) (ps.getD i (0,1))) (x':=fun i=>num (U*d) ((stp lv cs ps hq).getD i (0,1))) (n:=lv.1) (d:=lv.2) l0 (fun i hi=>pS c Lc zI (cX hi)) (CQ hs) (wt hs) hsub
  have e1:=hR hs
  have e2:=hD hs
  have nn:=xQ (q:=q) c x.up x.dvd hs
  have h4:lv.1*b_ U cs q hs<=bE U ws cs ps q hs*lv.2:=by
   by_cases z:0 < b_ U cs q hs
   ·exact h1 z
   ·have:b_ U cs q hs=0:=by omega
    rw[this,Int.mul_zero]
    exact mul_nonneg h2 (le_of_lt lp)
  have h5:=mul_le_mul_of_nonneg_right h4 (le_of_lt d0)
  exact DY lp h3 e1 e2 h5
 refine⟨U*d,⟨Lc,zI,?_,?_,?_,fun j hj=>room _ (L.le j hj) (x.room j hj)⟩,?_,?_⟩
 ·exact (x.uz.mul dz).mono (by omega)
 ·unfold stp
  rw[length_map,length_range]
  exact x.len
 ·intro i hi
  rw[sa i hi]
  by_cases h:hq i=true
  ·rw[if_pos h]
   refine⟨(hn i hi).1,?_⟩
   have h1:=(hn i hi).2
   have o:=(c.dp hi).1
   have n0:=pS c Lc zI hi
   have e0:num (U*d) (aI cs i)=num U0 (aI cs i)*(U*d / U0):=jy c.u0 o.toOk zI
   have z0:Sz (90+200*r+196) (U*d / U0):=by
    refine Sz.le (x.uz.mul dz) ?_
    have:=cv c.u0 Lc zI
    omega
   have z1:=o.sz.mul z0
   rw[<- e0] at z1
   refine Sz.le (z1.mono (by omega)) ?_
   have h2:=mul_le_mul_of_nonneg_right L.one n0
   rw[<- h1,mul_comm lv.2] at h2
   have h3:=le_of_mul_le_mul_right h2 lp
   have h4:0<=num (U*d) (kh lv cs i):=by
    have:=mul_nonneg l0 n0
    rw[<- h1] at this
    by_cases z:0<=num (U*d) (kh lv cs i)
    ·exact z
    ·have:=Int.mul_neg_of_neg_of_pos (Int.not_le.mp z) lp
     omega
   omega
  ·rw[if_neg h]
   have o:=x.ok i hi
   refine⟨o.toOk.up dv,?_⟩
   rw[jy x.up o.toOk dv,ed]
   exact (o.sz.mul dz).mono (by omega)
 ·intro B i hi hqi
  have hqi:(q i && !hq i)=false:=hqi
  rw[sa i hi]
  by_cases h:hq i=true
  ·rw[if_pos h]
   have h1:=(hn i hi).2
   have n0:=pS c Lc zI hi
   have h2:=mul_le_mul_of_nonneg_right L.one n0
   rw[<- h1,mul_comm lv.2] at h2
   refine⟨?_,le_of_mul_le_mul_right h2 lp⟩
   have:=mul_nonneg l0 n0
   rw[<- h1] at this
   by_cases z:0<=num (U*d) (kh lv cs i)
   ·exact z
   ·have:=Int.mul_neg_of_neg_of_pos (Int.not_le.mp z) lp
    omega
  ·rw[if_neg h]
   have hqf:q i=false:=by
    cases e:q i with
    | false=>rfl
    | true=>rw[e,Bool.true_and] at hqi;simp[h] at hqi
   obtain⟨b1,b2⟩:=B i hi hqf
   rw[jy x.up (x.ok i hi).toOk dv,jy x.up ((c.dp hi).1.toOk.up x.dvd) dv,ed]
   exact⟨mul_nonneg b1 (le_of_lt d0),mul_le_mul_of_nonneg_right b2 (le_of_lt d0)⟩
 ·-- who stops is paid,or aN heap is spent
  have spent:∀ hs,(∀ i∈cU cs hs,q i=true->hq i=true)->lv.1*b_ U cs q hs=bE U ws cs ps q hs*lv.2->bE (U*d) ws cs (stp lv cs ps hq) (fun i=>q i && !hq i) hs=0:=fun hs hall h4=>by
   have h3:=FH (I:=cU cs hs) (q:=q) (hq:=hq) (a:=fun i=>num (U*d) (aI cs i)) (x:=fun i=>num (U*d) (ps.getD i (0,1))) (x':=fun i=>num (U*d) ((stp lv cs ps hq).getD i (0,1))) (n:=lv.1) (d:=lv.2) (CQ hs) (wt hs) hsub hall
   have e1:=hR hs
   have e2:=hD hs
   have h5:lv.1*b_ U cs q hs*d=bE U ws cs ps q hs*lv.2*d:=by rw[h4]
   exact E2 lp h3 e1 e2 h5
  intro i hi h
  by_cases hh:hq i=true
  ·refine .inr ?_
   unfold Hd
   rw[sa i hi,if_pos hh]
   have Pm:=hqd i
   rw[hh,eq_comm,and_eq_true,or_eq_true] at Pm
   rcases Pm.2 with h1 | h1
   ·have e1:lv=(1,1):=of_decide_eq_true h1
    subst e1
    have o:=(c.dp hi).1.toOk
    exact .inl (iX (by show 0 < 1*_;rw[one_mul];exact o.pos) o.pos o.cop (by show 1*_*_=_*(1*_);rw[one_mul,one_mul]))
   ·obtain⟨j,hj,e1⟩:=any_eq_true.mp h1
    obtain⟨Pj,Ad⟩:=mem_filter.mp hj
    unfold gB at Ad
    rw[and_eq_true,decide_eq_true_eq,decide_eq_true_eq] at Ad
    have ht:=(mX L.pos L.cop Ad.1).mp Ad.2
    have hall:∀ a∈cU cs (Srt.sub j),q a=true->hq a=true:=fun a ha qa=>by
     rw[hqd a,qa,Bool.true_and,or_eq_true]
     refine .inr (any_eq_true.mpr ⟨j,mem_filter.mpr ⟨Pj,?_⟩,(mem_filter.mp ha).2⟩)
     unfold gB
     rw[decide_eq_true Ad.1,decide_eq_true Ad.2]
     rfl
    refine .inr ⟨j,mem_range.mp Pj,e1,fun a ha=>?_,spent _ hall (by rw[mul_comm];exact ht)⟩
    show (q a && !hq a)=false
    cases qa:q a with
    | false=>rfl
    | true=>rw[hall a ha qa];rfl
  ·have hf:hq i=false:=by simpa using hh
   rcases h with h | h
   ·exact .inl (by rw[h,hf];rfl)
   ·refine .inr ?_
    unfold Hd at h |-
    rw[sa i hi,if_neg hh]
    rcases h with h | ⟨j,hj,h1,h2,h3⟩
    ·exact .inl h
    ·have hall:∀ a∈cU cs (Srt.sub j),q a=true->hq a=true:=fun a ha qa=>by rw[h2 a ha] at qa;cases qa
     refine .inr ⟨j,hj,h1,fun a ha=>by show (q a && !hq a)=false;rw[h2 a ha];rfl,spent _ hall ?_⟩
     have e0:b_ U cs q (Srt.sub j)=0:=by
      unfold b_
      rw[List.filter_eq_nil_iff.mpr fun a ha=>by rw[h2 a ha];exact Bool.false_ne_true]
      rfl
     have QL:bE U ws cs ps q (Srt.sub j)=0:=h3
     rw[e0,QL,Int.mul_zero,zero_mul]
theorem N0(hU:0 < U)(h:∀ i,i < cs.length->Ok U (cI cs ps q i)):0 < cK cs ps q/\cK cs ps q∣U/\∀ i,i < cs.length->Ok (cK cs ps q) (cI cs ps q i):=by
 obtain⟨a,b,c⟩:=oN (U:=U) (l:=lu cs ps q cs.length) fun r hr=>by
  obtain⟨i,hi,rfl⟩:=mem_map.mp hr
  exact h i (mem_range.mp hi)
 exact⟨a,b,fun i hi=>c _ (mem_map.mpr ⟨i,mem_range.mpr hi,rfl⟩)⟩
def lvP(ws:List Int)(cs:List Cl)(ps:List (Int×Int))(q:Nat->Bool):Int×Int:=low (dF (gQ (RB ws cs ps q) (DB cs ps q) (dg (2 ^ ws.length)))).1 (dF (gQ (RB ws cs ps q) (DB cs ps q) (dg (2 ^ ws.length)))).2
def hqP(ws:List Int)(cs:List Cl)(ps:List (Int×Int))(q:Nat->Bool):Nat->Bool:=cJ (RB ws cs ps q) (DB cs ps q) (2 ^ ws.length) (lvP ws cs ps q) cs q
def bH(ws:List Int)(cs:List Cl):Nat->List (Int×Int)->(Nat->Bool)->List (Int×Int)
 | 0,ps,_=>ps
 | f+1,ps,q=>if plL cs.length q=[] then ps else bH ws cs f (stp (lvP ws cs ps q) cs ps (hqP ws cs ps q)) fun i=>q i && !hqP ws cs ps q i
theorem AH{R D R' D':Nat->Int}{t:Int}(ht:0 < t)(hR:∀ i,R' i=R i*t)(hD:∀ i,D' i=D i*t)(i:Nat):gB R' D' lv i=gB R D lv i:=by
 unfold gB
 rw[hR,hD]
 by_cases h:0 < D i
 ·have h2:0 < D i*t:=mul_pos h ht
  have e:low (R i*t) (D i*t)=low (R i) (D i):=pH h2 h (by rw[mul_assoc,mul_comm t])
  rw[e,decide_eq_true h,decide_eq_true h2]
 ·have h2:¬ 0 < D i*t:=fun z=>by
   have:=mul_nonpos_of_nonpos_of_nonneg (Int.not_lt.mp h) (le_of_lt ht)
   omega
  rw[decide_eq_false h,decide_eq_false h2,Bool.false_and,Bool.false_and]
theorem FI.lvl(c:FC U0 ws cs)(x:FI U0 ws cs r U ps q):Lvl (RU U ws cs ps q) (DU U cs q) (2 ^ ws.length) (lvP ws cs ps q)/\cJ (RU U ws cs ps q) (DU U cs q) (2 ^ ws.length) (lvP ws cs ps q) cs q=hqP ws cs ps q:=by
 obtain⟨u0,du,ou⟩:=N0 x.up (x.CN c)
 have t0:=(cv u0 x.up du).1
 have eR:∀ i,RU U ws cs ps q i=RB ws cs ps q i*(U / cK cs ps q):=fun i=>oS u0 du ou
 have eD:∀ i,DU U cs q i=DB cs ps q i*(U / cK cs ps q):=fun i=>oM u0 du ou
 refine⟨(Bl (R:=RB ws cs ps q) (D:=DB cs ps q) c.w6).scale t0 eR eD,?_⟩
 funext i
 unfold hqP cJ
 rw[filter_congr fun j _=>AH t0 eR eD j]
theorem FI.Ll(c:FC U0 ws cs)(x:FI U0 ws cs r U ps q)(L:Lvl (RU U ws cs ps q) (DU U cs q) (2 ^ ws.length) lv):lv=lvP ws cs ps q:=L.uniq (x.lvl c).1
theorem FI.next(c:FC U0 ws cs)(x:FI U0 ws cs r U ps q):∃ U',FI U0 ws cs (r+1) U' (stp (lvP ws cs ps q) cs ps (hqP ws cs ps q)) (fun i=>q i && !hqP ws cs ps q i)/\(Bd U cs ps q->Bd U' cs (stp (lvP ws cs ps q) cs ps (hqP ws cs ps q)) (fun i=>q i && !hqP ws cs ps q i))/\∀ i,i < cs.length->(q i=true\/Hd U ws cs ps q i)->(q i && !hqP ws cs ps q i)=true\/Hd U' ws cs (stp (lvP ws cs ps q) cs ps (hqP ws cs ps q)) (fun i=>q i && !hqP ws cs ps q i) i:=by
 obtain⟨L,e⟩:=x.lvl c
 have:=x.step c L
 rw[e] at this
 exact this
theorem FI.less(c:FC U0 ws cs)(x:FI U0 ws cs r U ps q)(h:plL cs.length q≠[]):(plL cs.length fun i=>q i && !hqP ws cs ps q i).length < (plL cs.length q).length:=by
 obtain⟨L,e⟩:=x.lvl c
 have hn:=Fj L h
 rw[e] at hn
 obtain⟨y,hy⟩:=List.exists_mem_of_ne_nil _ hn
 obtain⟨i,hi,rfl⟩:=mem_map.mp hy
 obtain⟨h1,h2⟩:=mem_filter.mp hi
 unfold plL
 rw[length_map,length_map]
 have e2:(range cs.length).filter (fun i=>q i && !hqP ws cs ps q i)=((range cs.length).filter q).filter fun i=>!hqP ws cs ps q i:=by
  rw[filter_filter]
  exact filter_congr fun i _=>Bool.and_comm _ _
 rw[e2]
 refine List.length_filter_lt_length_iff_exists.mpr ⟨i,mem_filter.mpr ⟨h1,kH h2⟩,?_⟩
 rw[h2]
 exact Bool.false_ne_true
theorem wR(h:plL cs.length q=[]){i:Nat}(hi:i < cs.length):q i=false:=by
 cases e:q i with
 | false=>rfl
 | true =>
  have:(i:Int)∈plL cs.length q:=mem_map.mpr ⟨i,mem_filter.mpr ⟨mem_range.mpr hi,e⟩,rfl⟩
  rw[h] at this
  cases this
theorem yM{q':Nat->Bool}(h:∀ i,i < cs.length->q i=q' i)(hs:List Int):bE U ws cs ps q hs=bE U ws cs ps q' hs:=by
 unfold bE gE
 rw[filter_congr fun i hi=>by rw[h i (cX hi)]]
theorem pM(f:Nat)(h:plL cs.length q=[]):bH ws cs f ps q=ps:=by
 cases f with
 | zero=>rfl
 | succ f =>
  unfold bH
  rw[if_pos h]
theorem vI:∀(f r:Nat)(U:Int) (ps:List (Int×Int)) (q:Nat->Bool),FI U0 ws cs r U ps q->plL cs.length q=[]->∃ U',FI U0 ws cs (r+f) U' (bH ws cs f ps q) (fun _=>false)/\(Bd U cs ps q->Bd U' cs (bH ws cs f ps q) fun _=>false)/\∀ i,i < cs.length->(q i=true\/Hd U ws cs ps q i)->Hd U' ws cs (bH ws cs f ps q) (fun _=>false) i
 | f,r,U,ps,q,x,h=>by
   have hq:∀ i,i < cs.length->q i=false:=fun i hi=>wR h hi
   rw[pM f h]
   refine⟨U,⟨x.up,x.dvd,x.uz.mono (by omega),x.len,fun i hi=>(x.ok i hi).mono (by omega),fun j hj=>?_⟩,fun B i hi _=>B i hi (hq i hi),fun i hi h'=>?_⟩
   ·have:=x.room j hj
    have e:=yM (U:=U) (ws:=ws) (ps:=ps) (q':=fun _=>false) hq (Srt.sub j)
    show 0<=bE U ws cs ps (fun _=>false) (Srt.sub j)
    rw[<- e]
    exact this
   ·rcases h' with h' | h' | ⟨j,a1,a2,a3,a4⟩
    ·rw[hq i hi] at h'
     cases h'
    ·exact .inl h'
    ·refine .inr ⟨j,a1,a2,fun _ _=>rfl,?_⟩
     have e:=yM (U:=U) (ws:=ws) (ps:=ps) (q':=fun _=>false) hq (Srt.sub j)
     show bE U ws cs ps (fun _=>false) (Srt.sub j)=0
     rw[<- e]
     exact a4
theorem yA(c:FC U0 ws cs):∀(f r:Nat)(U:Int) (ps:List (Int×Int)) (q:Nat->Bool),FI U0 ws cs r U ps q->(plL cs.length q).length<=f->∃ U',FI U0 ws cs (r+f) U' (bH ws cs f ps q) (fun _=>false)/\(Bd U cs ps q->Bd U' cs (bH ws cs f ps q) fun _=>false)/\∀ i,i < cs.length->(q i=true\/Hd U ws cs ps q i)->Hd U' ws cs (bH ws cs f ps q) (fun _=>false) i:=by
 intro f
 induction f with
 | zero=>exact fun r U ps q x hf=>vI 0 r U ps q x (List.eq_nil_of_length_eq_zero (Nat.le_zero.mp hf))
 | succ f IH =>
  intro r U ps q x hf
  by_cases h:plL cs.length q=[]
  ·exact vI _ r U ps q x h
  ·
    obtain⟨U1,x1,b1,h1⟩:=x.next c
    have hl:=x.less c h
    obtain⟨U2,x2,b2,h2⟩:=IH (r+1) U1 _ _ x1 (by omega)
    have e:bH ws cs (f+1) ps q=bH ws cs f (stp (lvP ws cs ps q) cs ps (hqP ws cs ps q)) fun i=>q i && !hqP ws cs ps q i:=by
     show (if plL cs.length q=[] then ps else _)=_
     rw[if_neg h]
    rw[e]
    refine⟨U2,?_,fun B=>b2 (b1 B),fun i hi h'=>h2 i hi (h1 i hi h')⟩
    have e2:r+(f+1)=r+1+f:=by omega
    rw[e2]
    exact x2
theorem ng(f:Nat)(h:plL cs.length q≠[]):bH ws cs (f+1) ps q=bH ws cs f (stp (lvP ws cs ps q) cs ps (hqP ws cs ps q)) fun i=>q i && !hqP ws cs ps q i:=by
 show (if plL cs.length q=[] then ps else _)=_
 rw[if_neg h]
end
def cf(H:Hp)(xs:List V)(ps:List (Int×Int)):Prop:=xs.length=ps.length/\∀(i:Nat) p,ps[i]?=some p->∃ r,xs[i]?=some (.ref r)/\H r=some (.tup [.int p.1,.int p.2])
theorem cf.ts{H H':Hp}{xs:List V}{ps:List (Int×Int)}(h:cf H xs ps)(s:TS H H'):cf H' xs ps:=⟨h.1,fun i p hp=>by
 obtain⟨r,e,h1⟩:=h.2 i p hp
 exact⟨r,e,s _ _ h1⟩⟩
theorem bL.toV{U:Int}{k:Nat}{H:Hp}{xs:List V}{ps:List (Int×Int)}(h:bL U k H xs ps):cf H xs ps:=⟨h.1,fun i p hp=>by
 obtain⟨r,e,h1,_⟩:=h.2 i p hp
 exact⟨r,e,h1⟩⟩
theorem cf.toU{U:Int}{k:Nat}{H:Hp}{xs:List V}{ps:List (Int×Int)}(h:cf H xs ps)(hp:∀ i,i < ps.length->dS U k (ps.getD i (0,1))):bL U k H xs ps:=⟨h.1,fun i p e=>by
 obtain⟨r,e1,h1⟩:=h.2 i p e
 refine⟨r,e1,h1,?_⟩
 have:=hp i (List.getElem?_eq_some_iff.mp e).1
 rwa [getD_eq_getElem?_getD,e] at this⟩
theorem cf.set{H:Hp}{xs:List V}{ps:List (Int×Int)}{r:Addr}{p:Int×Int}{j:Nat}(h:cf H xs ps)(hr:H r=some (.tup [.int p.1,.int p.2])):cf H (xs.set j (.ref r)) (ps.set j p):=by
 refine⟨by rw[length_set,length_set,h.1],fun i q hq=>?_⟩
 by_cases e:j=i
 ·subst e
  rw[getElem?_set,if_pos rfl] at hq
  split at hq
  ·cases hq
   refine⟨r,?_,hr⟩
   rw[getElem?_set,if_pos rfl,if_pos (by rw[h.1];assumption)]
  ·cases hq
 ·rw[getElem?_set_ne e] at hq
  rw[getElem?_set_ne e]
  exact h.2 i q hq
structure Dq(w c p pl:Addr)(ws:List Int)(xs:List V)(cs:List Cl)(ys:List V)(ps:List (Int×Int))(q:Nat->Bool)(H:Hp):Prop where
 w:H w=some (.lst (ws.map V.int))
 c:H c=some (.lst xs)
 hC:ClsAt H xs cs
 p:H p=some (.lst ys)
 hR:cf H ys ps
 pl:H pl=some (.lst (plV cs.length q))
theorem Dq.lv{w c p pl:Addr}{U0 U:Int}{r:Nat}{ws:List Int}{xs:List V}{cs:List Cl}{ys:List V}{ps:List (Int×Int)}{q q':Nat->Bool}{H:Hp}(x:Dq w c p pl ws xs cs ys ps q H)(hC:FC U0 ws cs)(hI:FI U0 ws cs r U ps q')(hr:r<=19):mx U (300+200*r) w c p pl ws xs cs ys ps q H:=by
 refine⟨⟨hI.up,hI.uz.mono (by omega)⟩,by omega,x.w,x.c,x.hC,x.p,x.hR.toU fun i hi=>hI.ok i (by rw[<- hI.len];exact hi),x.pl,hI.len.symm,hC.c16,fun C Rt=>?_,hC.w6,hC.wz⟩
 have d:=hC.due C Rt
 refine⟨⟨d.1.toOk.up hI.dvd,?_⟩,d.2.2⟩
 rw[jy hC.u0 d.1.toOk hI.dvd]
 have:=cv hC.u0 hI.up hI.dvd
 exact (d.1.sz.mul (Sz.le hI.uz (by omega):Sz (90+200*r) (U / U0))).mono (by omega)
def pV(lv:Int×Int)(cs:List Cl)(ps:List (Int×Int))(l:List Nat):List (Int×Int):=(range ps.length).map fun i=>if i∈l then kh lv cs i else ps.getD i (0,1)
theorem mF{lv:Int×Int}{cs:List Cl}{ps:List (Int×Int)}{l:List Nat}:(pV lv cs ps l).length=ps.length:=by unfold pV;rw[length_map,length_range]
theorem CU{lv:Int×Int}{cs:List Cl}{ps:List (Int×Int)}:pV lv cs ps []=ps:=by
 unfold pV
 apply ext_getElem?
 intro i
 rw[getElem?_map]
 by_cases h:i < ps.length
 ·rw[getElem?_range h,getElem?_eq_getElem h]
  simp[getD_eq_getElem?_getD,h]
 ·rw[getElem?_eq_none (by rw[length_range];omega),getElem?_eq_none (by omega)]
  rfl
theorem zm{lv:Int×Int}{cs:List Cl}{ps:List (Int×Int)}{l:List Nat}{i:Nat}:(pV lv cs ps l).set i (kh lv cs i)=pV lv cs ps (l++[i]):=by
 apply ext_getElem?
 intro j
 by_cases h:j < ps.length
 ·by_cases e:i=j
  ·subst e
   rw[getElem?_set,if_pos rfl,if_pos (by rw[mF];exact h)]
   unfold pV
   rw[getElem?_map,getElem?_range h]
   simp
  ·rw[getElem?_set_ne e]
   unfold pV
   rw[getElem?_map,getElem?_map,getElem?_range h]
   have e':¬ j=i:=fun z=>e z.symm
   simp[e']
 ·rw[getElem?_eq_none (by rw[length_set,mF];omega),getElem?_eq_none (by rw[mF];omega)]
theorem AZ{lv:Int×Int}{cs:List Cl}{ps:List (Int×Int)}{hq:Nat->Bool}{n:Nat}(h:ps.length=n):pV lv cs ps ((range n).filter hq)=stp lv cs ps hq:=by
 unfold pV stp
 refine map_congr_left fun i hi=>?_
 have:i∈(range n).filter hq↔hq i=true:=by
  rw[mem_filter,mem_range,<- h]
  exact⟨fun z=>z.2,fun z=>⟨mem_range.mp hi,z⟩⟩
 simp[this]
theorem qt{n:Nat}{q:Nat->Bool}:plV n q=((range n).filter q).map fun i:Nat=>V.int (i:Int):=by
 unfold plV plL
 rw[map_map]
 rfl
theorem FI.K9{U0 U:Int}{ws:List Int}{cs:List Cl}{r:Nat}{ps:List (Int×Int)}{q:Nat->Bool}{lv:Int×Int}(c:FC U0 ws cs)(x:FI U0 ws cs r U ps q)(hr:r<=19)(L:Lvl (RU U ws cs ps q) (DU U cs q) (2 ^ ws.length) lv):0 < lv.2/\Sz 4400 lv.1/\Sz 4400 lv.2:=by
 have l0:=Gy c x L
 have h2:Sz 4400 lv.2:=by
  rcases L.at' with rfl | ⟨j,hj,hD,e⟩
  ·decide
  ·have el:=iX hD L.pos L.cop e.symm
   rw[<- el]
   refine Sz.le (k:=4400) ?_ (cO (DU U cs q j) _)
   show Sz 4400 (b_ U cs q (Srt.sub j))
   rw[sj c x.dvd]
   have:=cv c.u0 x.up x.dvd
   exact ((yw c _).mul (Sz.le x.uz (by omega):Sz (90+200*r) (U / U0))).mono (by omega)
 have p:=L.pos
 have o:=L.one
 exact⟨p,Sz.le h2 (by omega),h2⟩
theorem mK{H H2 H3:Hp}{l:Addr}(hl:H l=none)(s:ak H H2)(f:Fr1 l H2 H3):ak H H3:=fun b o hb=>f b o (fun z=>by rw[z,hl] at hb;cases hb) (s b o hb)
theorem mi{n i:Nat}(h:i < n):ixN n (i:Int)=some i:=by
 unfold ixN
 rw[if_pos (by omega),if_pos (by omega),toNat_natCast]
abbrev q0:Nat->Bool:=fun _=>false
abbrev fdD(ws:List Int)(cs:List Cl)(ps:List (Int×Int))(q:Nat->Bool):Dt:=.tup [.lst (ws.map Dt.int),.lst (cs.map cD),.lst (ps.map pD),.lst ((plL cs.length q).map Dt.int)]
theorem cf.snoc{H:Hp}{xs:List V}{ps:List (Int×Int)}{r:Addr}{p:Int×Int}(h:cf H xs ps)(hr:H r=some (.tup [.int p.1,.int p.2])):cf H (xs++[.ref r]) (ps++[p]):=by
 refine⟨by rw[length_append,length_append,h.1];rfl,fun i q hq=>?_⟩
 by_cases hi:i < ps.length
 ·rw[getElem?_append_left hi] at hq
  rw[getElem?_append_left (by rw[h.1];exact hi)]
  exact h.2 i q hq
 ·have hl:=(List.getElem?_eq_some_iff.mp hq).1
  rw[length_append] at hl
  have e:i=ps.length:=by
   have:([p]:List (Int×Int)).length=1:=rfl
   omega
  subst e
  rw[getElem?_append_right (le_refl _),sub_self] at hq
  cases hq
  exact⟨r,by rw[getElem?_append_right (by rw[h.1];exact le_refl _),h.1,sub_self];rfl,hr⟩
def rkP(cs:List Cl)(i:Nat):Int:=match cs[i]? with
 | some c=>c.rk
 | none=>0
theorem w4{cs:List Cl}{i:Nat}(h:i < cs.length):rkP cs i=cs[i].rk:=by unfold rkP;rw[getElem?_eq_getElem h]
def qR(cs:List Cl)(r:Int)(i:Nat):Bool:=decide (rkP cs i=r) && !decide ((aI cs i).1=0/\(aI cs i).2=1)
def bp(ws:List Int)(cs:List Cl):List Int->List (Int×Int)->List (Int×Int)
 | [],ps=>ps
 | r::rs,ps=>bp ws cs rs (bH ws cs (plL cs.length (qR cs r)).length ps (qR cs r))
def cw(cs:List Cl):List (Int×Int):=replicate cs.length (0,1)
def lO(cs:List Cl)(zs:List Int):Nat:=((range cs.length).filter fun i=>decide (rkP cs i∈zs)).length
theorem oi{ws:List Int}{cs:List Cl}{r:Int}:∀(zs:List Int) (ps:List (Int×Int)),bp ws cs (zs++[r]) ps=bH ws cs (plL cs.length (qR cs r)).length (bp ws cs zs ps) (qR cs r)
 | [],ps=>rfl
 | z::zs,ps=>oi zs _
theorem tz{α:Type}{p q r:α->Bool}(h1:∀ x,p x=true->r x=true)(h2:∀ x,q x=true->r x=true)(h3:∀ x,p x=true->q x=false):∀ l:List α,(l.filter p).length+(l.filter q).length<=(l.filter r).length
 | []=>le_refl _
 | x::l=>by
  have ih:=tz h1 h2 h3 l
  rw[filter_cons,filter_cons,filter_cons]
  cases ep:p x with
  | true =>
   have e2:=h3 x ep
   have e3:=h1 x ep
   simp only[e2,e3,if_true,false_eq_true,if_false,length_cons]
   omega
  | false =>
   cases eq:q x with
   | true =>
    have e3:=h2 x eq
    simp only[e3,if_true,false_eq_true,if_false,length_cons]
    omega
   | false =>
    simp only[false_eq_true,if_false]
    split
    ·rw[length_cons];omega
    ·exact ih
theorem kI{cs:List Cl}{z:Int}{zs:List Int}(h:z∉zs):(plL cs.length (qR cs z)).length+lO cs zs<=lO cs (z::zs):=by
 unfold plL lO
 rw[length_map]
 refine tz (fun i hi=>?_) (fun i hi=>?_) (fun i hi=>?_) _
 ·unfold qR at hi
  rw[and_eq_true,decide_eq_true_eq] at hi
  exact decide_eq_true (by rw[hi.1];exact mem_cons_self)
 ·exact decide_eq_true (mem_cons_of_mem _ (of_decide_eq_true hi))
 ·unfold qR at hi
  rw[and_eq_true,decide_eq_true_eq] at hi
  exact decide_eq_false (by rw[hi.1];exact h)
theorem s_{cs:List Cl}{zs:List Int}:lO cs zs<=cs.length:=by
 unfold lO
 refine le_trans (length_filter_le _ _) ?_
 rw[length_range]
 exact le_refl _
section
variable {U0 U:Int}{ws:List Int}{cs:List Cl}{r:Nat}{ps:List (Int×Int)}
theorem FI.qp(x:FI U0 ws cs r U ps q0)(B:Bd U cs ps q0)(q:Nat->Bool):FI U0 ws cs r U ps q:=⟨x.up,x.dvd,x.uz,x.len,x.ok,fun j hj=>by
 have h:=x.room j hj
 have h2:gE U cs ps q (Srt.sub j)<=gE U cs ps q0 (Srt.sub j):=by
  unfold gE
  have e:(cU cs (Srt.sub j)).filter (fun i=>!q0 i)=cU cs (Srt.sub j):=List.filter_eq_self.mpr fun _ _=>rfl
  rw[e]
  exact uW fun i hi=>(B i (cX hi) rfl).1
 have h':0<=bE U ws cs ps q0 (Srt.sub j):=h
 show 0<=bE U ws cs ps q (Srt.sub j)
 unfold bE at h' |-
 omega⟩
theorem Bd.qp(B:Bd U cs ps q0)(q:Nat->Bool):Bd U cs ps q:=fun i hi _=>B i hi rfl
theorem FI.cw(c:FC U0 ws cs)(w0:∀ x∈ws,0<=x):FI U0 ws cs 0 U0 (cw cs) q0/\Bd U0 cs (cw cs) q0:=by
 have g:∀ i,(Toy.cw cs).getD i (0,1)=(0,1):=fun i=>by
  unfold Toy.cw
  rw[getD_eq_getElem?_getD,getElem?_replicate]
  split<;>rfl
 have z:num U0 (0,1)=0:=by unfold num;exact zero_mul _
 refine⟨⟨c.u0,dvd_refl _,c.uz,length_replicate,fun i hi=>by rw[g];exact uo,fun j hj=>?_⟩,fun i hi _=>?_⟩
 ·show 0<=bE U0 ws cs (Toy.cw cs) q0 (Srt.sub j)
  have e:gE U0 cs (Toy.cw cs) q0 (Srt.sub j)=0:=by
   unfold gE
   have:∀ l:List Nat,(l.map fun i=>num U0 ((Toy.cw cs).getD i (0,1))).sum=0:=fun l=>by
    induction l with
    | nil=>rfl
    | cons a l ih=>rw[map_cons,sum_cons,ih,g,z];rfl
   exact this _
  unfold bE
  rw[e,Int.sub_zero]
  refine mul_nonneg (uf _ fun x hx=>?_) (le_of_lt c.u0)
  obtain⟨y,_,rfl⟩:=mem_map.mp hx
  rw[getD_eq_getElem?_getD]
  cases e2:ws[y.toNat]? with
  | none=>exact Int.le_refl _
  | some v=>exact w0 v (mem_of_getElem? e2)
 ·rw[g,z]
  exact⟨Int.le_refl _,pS c c.u0 (dvd_refl _) hi⟩
theorem oU(c:FC U0 ws cs){z:Int}{zs:List Int}(hz:z∉zs)(x:FI U0 ws cs r U ps q0)(B:Bd U cs ps q0)(hr:r+lO cs (z::zs)<=16) :
  ∃ U' r',FI U0 ws cs r' U' (bH ws cs (plL cs.length (qR cs z)).length ps (qR cs z)) q0/\Bd U' cs (bH ws cs (plL cs.length (qR cs z)).length ps (qR cs z)) q0/\r'+lO cs zs<=16:=by
 obtain⟨U',x',b',_⟩:=yA c (plL cs.length (qR cs z)).length r U ps (qR cs z) (x.qp B _) (le_refl _)
 have:=kI (cs:=cs) hz
 exact⟨U',_,x',b' (B.qp _),by omega⟩
end
theorem vb{U0:Int}{ws:List Int}{cs:List Cl}(c:FC U0 ws cs):∀(zs:List Int)(r:Nat)(U:Int) (ps:List (Int×Int)),zs.Pairwise (· < ·)->FI U0 ws cs r U ps q0->Bd U cs ps q0->r+lO cs zs<=16->∃ U' r',FI U0 ws cs r' U' (bp ws cs zs ps) q0/\Bd U' cs (bp ws cs zs ps) q0/\r'<=16
 | [],r,U,ps,_,x,B,hr=>⟨U,r,x,B,by omega⟩
 | z::zs,r,U,ps,lt,x,B,hr=>by
  obtain⟨l1,l2⟩:=pairwise_cons.mp lt
  have nz:z∉zs:=fun h=>by
   have:=l1 z h
   omega
  obtain⟨U',r',x',B',C8⟩:=oU c nz x B hr
  exact vb c zs r' U' _ l2 x' B' C8
structure k9(w c:Addr)(ws:List Int)(xs:List V)(cs:List Cl)(H:Hp):Prop where
 w:H w=some (.lst (ws.map V.int))
 c:H c=some (.lst xs)
 hC:ClsAt H xs cs
theorem k9.same{w c:Addr}{ws:List Int}{xs:List V}{cs:List Cl}{H H':Hp}(x:k9 w c ws xs cs H)(s:ak H H'):k9 w c ws xs cs H':=⟨s _ _ x.w,s _ _ x.c,x.hC.ts (TS.of s)⟩
structure DH(cs:List Cl)(zs:List Int):Prop where
 lt:zs.Pairwise (· < ·)
 mem:∀ k,k∈zs↔k∈cs.map (·.rk)
abbrev shD(ws:List Int)(cs:List Cl):Dt:=.tup [.lst (ws.map Dt.int),.lst (cs.map cD)]
theorem k9.den{w c T:Addr}{ws:List Int}{xs:List V}{cs:List Cl}{H:Hp}(x:k9 w c ws xs cs H)(hT:H T=some (.tup [.ref w,.ref c])):Den H (shD ws cs) (.ref T):=oR hT (pO (kO x.w (kM ws)) (pO (kO x.c x.hC.BM) so))
theorem HJ{ws:List Int}{cs:List Cl}:Cmp 8 (shD ws cs) (shD ws cs):=by
 refine sJ fun d hd=>?_
 simp only[mem_cons,not_mem_nil,or_false] at hd
 rcases hd with rfl | rfl
 ·exact yJ (uQ ws)
 ·exact yJ fun d hd=>by
   obtain⟨c,_,rfl⟩:=mem_map.mp hd
   exact G1 c
theorem zx{cs:List Cl}{i:Nat}:(cw cs).getD i (0,1)=(0,1):=by
 unfold cw
 rw[getD_eq_getElem?_getD,getElem?_replicate]
 split<;>rfl
structure Cas(H0:Hp)(B L W C:Addr)(ws:List Int)(xs:List V)(cs:List Cl)(H:Hp):Prop where
 b:br H B L
 fr:Fr1 B H0 H
 sh:k9 W C ws xs cs H
 fc:FC UM ws cs
 w0:∀ x∈ws,0<=x
 wB:W≠B
 cB:C≠B
 gd:∀ c∈cs,dS UM 122 (c.n,c.u)/\Sz 10 c.rk/\∀ x∈c.hp,0<=x/\x < (ws.length:Int)
 wz:∀ x∈ws,Sz 140 x
theorem KQ{rs:List Int}(h:∀ r∈rs,Sz 10 r){j:Nat}(hj:j < rs.length):Sz 10 (rs.getD j 0):=by
 have e:rs.getD j 0=rs[j]:=by simp[getD_eq_getElem?_getD,hj]
 rw[e]
 exact h _ (getElem_mem hj)
section
variable {ws:List Int}{cs:List Cl}{U:Int}{ps:List (Int×Int)}{q:Nat->Bool}
end
theorem mI:∀{l m:List Int},l.Perm m->l.sum=m.sum
 | _,_,.nil=>rfl
 | _,_,.cons x h=>by rw[sum_cons,sum_cons,mI h]
 | _,_,.swap x y l=>by rw[sum_cons,sum_cons,sum_cons,sum_cons];omega
 | _,_,.trans a b=>(mI a).trans (mI b)
theorem FG{I:List Nat}{n:Nat}{f:Nat->Int}(nd:I.Nodup)(lt:∀ i∈I,i < n)(z:∀ i,i < n->i∉I->f i=0):(I.map f).sum=((range n).map f).sum:=by
 have e:((range n).filter fun i=>decide (i∈I)).Perm I:=(List.perm_ext_iff_of_nodup (List.nodup_range.sublist List.filter_sublist) nd).mpr fun a=>by
  rw[mem_filter,mem_range,decide_eq_true_eq]
  exact⟨fun h=>h.2,fun h=>⟨lt a h,h⟩⟩
 rw[<- mI (e.map f),eZ]
 refine congrArg List.sum (map_congr_left fun i hi=>?_)
 by_cases h:i∈I
 ·rw[decide_eq_true h,if_pos rfl]
 ·rw[decide_eq_false h,if_neg Bool.false_ne_true,z i (mem_range.mp hi) h]
structure Emb(I:List Nat)(cs ks:List Cl):Prop where
 nd:I.Nodup
 lt:∀ i∈I,i < cs.length
 len:ks.length=I.length
 cl:∀ j (h:j < I.length),ks[j]?=cs[I[j]]?
section
variable {I:List Nat}{cs ks:List Cl}{ws:List Int}{U U0:Int}{ps:List (Int×Int)}{q:Nat->Bool}
def atE(I:List Nat)(n j:Nat):Nat:=I.getD j n
def P5(I:List Nat)(ps:List (Int×Int)):List (Int×Int):=I.map fun i=>ps.getD i (0,1)
theorem tQ(p:Nat->Bool)(f:Nat->Int)(hs:List Int):(((cU cs hs).filter p).map f).sum=((range cs.length).map fun i=>if (Toy.inn cs hs i && p i)=true then f i else 0).sum:=by
 unfold cU
 rw[filter_filter,<- eZ]
 congr 3
 funext i
 exact Bool.and_comm _ _
theorem kF(c:FC U0 ws cs):∀(f r:Nat)(U:Int) (ps:List (Int×Int)) (q:Nat->Bool),FI U0 ws cs r U ps q->∀ i,i < cs.length->q i=false->(bH ws cs f ps q).getD i (0,1)=ps.getD i (0,1)
 | 0,r,U,ps,q,x,i,hi,hq=>rfl
 | f+1,r,U,ps,q,x,i,hi,hq=>by
  by_cases h:plL cs.length q=[]
  ·rw[pM _ h]
  ·obtain⟨U',x',_⟩:=x.next c
   rw[ng f h,kF c f (r+1) U' _ _ x' i hi (by rw[hq];rfl),sU (by rw[x.len];exact hi)]
   have hh:hqP ws cs ps q i=false:=by
    unfold hqP cJ
    rw[hq]
    rfl
   rw[hh,if_neg Bool.false_ne_true]
end
def Ot(r:Int)(cs:List Cl):List Cl:=cs.filter fun c=>decide (c.rk < r)
theorem xP{j:Nat}{x:Int}:x∈Srt.sub j↔0<=x/\x < 6/\j.testBit x.toNat=true:=by
 unfold Srt.sub
 rw[mem_map]
 constructor
 ·rintro ⟨b,hb,rfl⟩
  obtain⟨h1,h2⟩:=mem_filter.mp hb
  have:=mem_range.mp h1
  have e:(Int.ofNat b).toNat=b:=rfl
  exact⟨Int.natCast_nonneg b,by show (b:Int) < 6;omega,by rw[e];exact h2⟩
 ·rintro ⟨h1,h2,h3⟩
  exact⟨x.toNat,mem_filter.mpr ⟨mem_range.mpr (by omega),h3⟩,by show ((x.toNat:Nat):Int)=x;omega⟩
theorem DS{cs:List Cl}{hs:List Int}{i:Nat}:inn cs hs i=true↔∀ x∈aT cs i,x∈hs:=by
 unfold inn lies
 rw[all_eq_true]
 exact⟨fun h x hx=>of_decide_eq_true (h x hx),fun h x hx=>decide_eq_true (h x hx)⟩
theorem mask(p:Nat->Bool):∀ n,∃ j,j < 2 ^ n/\∀ b,b < n->j.testBit b=p b
 | 0=>⟨0,by decide,fun b h=>by omega⟩
 | n+1=>by
  obtain⟨j,hj,h⟩:=mask p n
  cases e:p n with
  | false =>
   refine⟨j,by rw[pow_succ];omega,fun b hb=>?_⟩
   by_cases hbn:b < n
   ·exact h b hbn
   ·have:b=n:=by omega
    rw[this,e]
    exact Nat.testBit_lt_two_pow hj
  | true =>
   refine⟨2 ^ n+j,by rw[pow_succ];omega,fun b hb=>?_⟩
   by_cases hbn:b < n
   ·rw[Nat.testBit_two_pow_add_gt hbn]
    exact h b hbn
   ·have:b=n:=by omega
    rw[this,e,Nat.testBit_two_pow_add_eq,Nat.testBit_lt_two_pow hj]
    rfl
theorem yF{α:Type}{f g:α->Int}:∀{l:List α},(∀ x∈l,f x<=g x)->(l.map f).sum<=(l.map g).sum
 | [],_=>Int.le_refl _
 | x::l,h=>by
  rw[map_cons,map_cons,sum_cons,sum_cons]
  have:=h x mem_cons_self
  have:=yF (l:=l) fun y hy=>h y (mem_cons_of_mem _ hy)
  omega
theorem vT{ws:List Int}(w6:ws.length<=6)(j:Nat):aZ ws (Srt.sub j)=((range ws.length).map fun b=>if j.testBit b=true then ws.getD b 0 else 0).sum:=by
 unfold aZ Srt.sub
 rw[map_map]
 show (((range 6).filter fun b=>j.testBit b).map fun b=>ws.getD b 0).sum=_
 rw[eZ]
 refine (FG List.nodup_range (fun i hi=>?_) fun i hi hn=>?_).symm
 ·have:=mem_range.mp hi
  omega
 ·have hn:¬ i < ws.length:=fun z=>hn (mem_range.mpr z)
  have:ws.getD i 0=0:=by simp[getD_eq_getElem?_getD,Nat.le_of_not_lt hn]
  rw[this]
  split<;>rfl
def Dm(ws:List Int)(cs:List Cl)(G9:List Int)(FT:List Cl):Prop:=∀ j,j < 2 ^ ws.length->∃ j',j' < 2 ^ G9.length/\(∀ i,inn cs (Srt.sub j) i=true->inn FT (Srt.sub j') i=true)/\aZ G9 (Srt.sub j')<=aZ ws (Srt.sub j)
structure Tw(ws:List Int)(cs:List Cl)(G9:List Int)(FT:List Cl):Prop where
 len:FT.length=cs.length
 due:∀ i,aI FT i=aI cs i
 rk:∀ i,rkP FT i=rkP cs i
 d1:Dm ws cs G9 FT
 d2:Dm G9 FT ws cs
section
variable {U0 U:Int}{ws G9:List Int}{cs FT:List Cl}{r:Nat}{ps:List (Int×Int)}{q:Nat->Bool}{lv:Int×Int}
end
theorem Cj{cs:List Cl}{j i m:Nat}(m6:m<=6)(hb:∀ x∈aT cs i,0<=x/\x < (m:Int)):inn cs (Srt.sub j) i=true↔∀ x∈aT cs i,j.testBit x.toNat=true:=by
 rw[DS]
 refine⟨fun h x hx=>(xP.mp (h x hx)).2.2,fun h x hx=>xP.mpr ?_⟩
 have:=hb x hx
 exact⟨this.1,by omega,h x hx⟩
def both(a n:Nat)(c:Cl):Cl:=if (a:Int)∈c.hp then ⟨c.n,c.u,c.hp++[(n:Int)],c.rk⟩ else c
section
variable {U V U0:Int}{ws:List Int}{cs:List Cl}{ps jC:List (Int×Int)}{r:Nat}
theorem h8{p:Int×Int}(h:Ok U p)(h':Ok V p):num U p*V=num V p*U:=by
 have a:=num_mul h
 have b:=num_mul h'
 refine eq_of_mul_eq_mul_right (a:=p.2) (by have:=h.pos;omega) ?_
 have e1:num U p*V*p.2=p.1*U*V:=by rw[<- a,mul_assoc,mul_assoc,mul_comm V]
 have e2:num V p*U*p.2=p.1*V*U:=by rw[<- b,mul_assoc,mul_assoc,mul_comm U]
 rw[e1,e2,mul_assoc,mul_assoc,mul_comm U]
theorem mB:num U (0,1)=0:=by unfold num;exact zero_mul _
theorem gk{α:Type}{f g:α->Int}{u v:Int}:∀{l:List α},(∀ x∈l,f x*v=g x*u)->(l.map f).sum*v=(l.map g).sum*u
 | [],_=>by show (0:Int)*v=0*u;rw[zero_mul,zero_mul]
 | x::l,h=>by
  rw[map_cons,map_cons,sum_cons,sum_cons,add_mul,add_mul,h x mem_cons_self,gk fun y hy=>h y (mem_cons_of_mem _ hy)]
theorem ot{α:Type}{f g:α->Int}{u v:Int}:∀{l:List α},(∀ x∈l,f x*v<=g x*u)->(l.map f).sum*v<=(l.map g).sum*u
 | [],_=>by show (0:Int)*v<=0*u;rw[zero_mul,zero_mul];exact Int.le_refl _
 | x::l,h=>by
  rw[map_cons,map_cons,sum_cons,sum_cons,add_mul,add_mul]
  exact Int.add_le_add (h x mem_cons_self) (ot fun y hy=>h y (mem_cons_of_mem _ hy))
def eQ(V:Int)(cs:List Cl)(ps:List (Int×Int))(j:Nat):Int:=((range cs.length).map fun i=>if inn cs (Srt.sub j) i=true then num V (ps.getD i (0,1)) else 0).sum
theorem Gu{j:Nat}:RU V ws cs ps q0 j=aZ ws (Srt.sub j)*V - eQ V cs ps j:=by
 show bE V ws cs ps q0 (Srt.sub j)=_
 unfold bE gE eQ
 rw[tQ]
 simp only[Bool.not_false,Bool.and_true]
structure Fit(V:Int)(ws:List Int)(cs:List Cl)(ps:List (Int×Int)):Prop where
 vp:0 < V
 ok:∀ i,i < cs.length->Ok V (ps.getD i (0,1))
 od:∀ i,i < cs.length->Ok V (aI cs i)
 nn:∀ i,i < cs.length->0<=num V (ps.getD i (0,1))
 le:∀ i,i < cs.length->num V (ps.getD i (0,1))<=num V (aI cs i)
 room:∀ j,j < 2 ^ ws.length->eQ V cs ps j<=aZ ws (Srt.sub j)*V
theorem FI.fit(c:FC U0 ws cs)(x:FI U0 ws cs r U ps q0)(B:Bd U cs ps q0):Fit U ws cs ps :=
 ⟨x.up,fun i hi=>(x.ok i hi).toOk,fun i hi=>(c.dp hi).1.toOk.up x.dvd,fun i hi=>(B i hi rfl).1,fun i hi=>(B i hi rfl).2,fun j hj=>by
  have h:=x.room j hj
  rw[Gu] at h
  omega⟩
theorem Fit.any(f:Fit U ws cs ps)(hV:0 < V)(ok:∀ i,i < cs.length->Ok V (ps.getD i (0,1)))(od:∀ i,i < cs.length->Ok V (aI cs i)):Fit V ws cs ps:=by
 have up:=f.vp
 refine⟨hV,ok,od,fun i hi=>(fN hV (ok i hi)).mp ((fN up (f.ok i hi)).mpr (f.nn i hi)),fun i hi=>?_,fun j hj=>?_⟩
 ·refine le_of_mul_le_mul_right (a:=U) ?_ up
  rw[<- h8 (f.ok i hi) (ok i hi),<- h8 (f.od i hi) (od i hi)]
  exact mul_le_mul_of_nonneg_right (f.le i hi) (le_of_lt hV)
 ·refine le_of_mul_le_mul_right (a:=U) ?_ up
  have h1:=mul_le_mul_of_nonneg_right (f.room j hj) (le_of_lt hV)
  have h2:eQ U cs ps j*V=eQ V cs ps j*U:=by
   unfold eQ
   refine gk fun i hi=>?_
   split
   ·exact h8 (f.ok i (mem_range.mp hi)) (ok i (mem_range.mp hi))
   ·rw[zero_mul,zero_mul]
  rw[<- h2,mul_assoc,mul_comm V U,<- mul_assoc]
  exact h1
def Spt(V:Int)(ws:List Int)(cs:List Cl)(ps:List (Int×Int))(j:Nat):Prop:=eQ V cs ps j=aZ ws (Srt.sub j)*V
theorem Spt.grow{j:Nat}(f:Fit U ws cs ps)(g:Fit V ws cs jC)(hj:j < 2 ^ ws.length)(h:∀ i,i < cs.length->jC.getD i (0,1)=ps.getD i (0,1)\/ps.getD i (0,1)=(0,1))(s:Spt U ws cs ps j):Spt V ws cs jC j:=by
 unfold Spt at s |-
 have h1:eQ U cs ps j*V<=eQ V cs jC j*U:=by
  unfold eQ
  refine ot fun i hi=>?_
  have hi:=mem_range.mp hi
  split
  ·rcases h i hi with e | e
   ·have:=g.ok i hi
    rw[e] at this |-
    exact Int.le_of_eq (h8 (f.ok i hi) this)
   ·rw[e,mB,zero_mul]
    exact mul_nonneg (g.nn i hi) (le_of_lt f.vp)
  ·rw[zero_mul,zero_mul]
   exact Int.le_refl _
 have h2:=mul_le_mul_of_nonneg_right (g.room j hj) (le_of_lt f.vp)
 have e:aZ ws (Srt.sub j)*V*U=aZ ws (Srt.sub j)*U*V:=by rw[mul_assoc,mul_comm V U,<- mul_assoc]
 rw[s] at h1
 refine eq_of_mul_eq_mul_right (a:=U) (by have:=f.vp;omega) ?_
 omega
structure Stg(U:Int)(ws:List Int)(cs:List Cl)(zl:List Int)(ps:List (Int×Int)):Prop where
 out:∀ i,i < cs.length->rkP cs i∉zl->ps.getD i (0,1)=(0,1)
 full:∀ i,i < cs.length->rkP cs i∈zl->ps.getD i (0,1)=aI cs i\/∃ j,j < 2 ^ ws.length/\inn cs (Srt.sub j) i=true/\Spt U ws cs ps j
theorem o7(c:FC U0 ws cs){z:Int}{zl:List Int}(nz:z∉zl)(x:FI U0 ws cs r U ps q0)(B:Bd U cs ps q0)(g:Stg U ws cs zl ps):∃ U',FI U0 ws cs (r+(plL cs.length (qR cs z)).length) U' (bH ws cs (plL cs.length (qR cs z)).length ps (qR cs z)) q0/\Bd U' cs (bH ws cs (plL cs.length (qR cs z)).length ps (qR cs z)) q0/\Stg U' ws cs (zl++[z]) (bH ws cs (plL cs.length (qR cs z)).length ps (qR cs z))/\∀ i,i < cs.length->rkP cs i≠z->(bH ws cs (plL cs.length (qR cs z)).length ps (qR cs z)).getD i (0,1)=ps.getD i (0,1):=by
 have xq:=x.qp B (qR cs z)
 obtain⟨U',x',b',h'⟩:=yA c (plL cs.length (qR cs z)).length r U ps (qR cs z) xq (le_refl _)
 have B':=b' (B.qp _)
 have keep:=kF c (plL cs.length (qR cs z)).length r U ps (qR cs z) xq
 generalize bH ws cs (plL cs.length (qR cs z)).length ps (qR cs z)=jC at x' B' h' keep |-
 have f:=x.fit c B
 have f':=x'.fit c B'
 have nq:∀ i,rkP cs i≠z->qR cs z i=false:=fun i e=>by unfold qR;rw[decide_eq_false e,Bool.false_and]
 have chg:∀ i,i < cs.length->jC.getD i (0,1)=ps.getD i (0,1)\/ps.getD i (0,1)=(0,1):=fun i hi=>by
  by_cases e:rkP cs i=z
  ·exact .inr (g.out i hi (by rw[e];exact nz))
  ·exact .inl (keep i hi (nq i e))
 refine⟨U',x',B',⟨fun i hi hn=>?_,fun i hi hm=>?_⟩,fun i hi e=>keep i hi (nq i e)⟩
 ·have e:rkP cs i≠z:=fun e=>hn (by rw[e];exact mem_append_right _ mem_cons_self)
  rw[keep i hi (nq i e),g.out i hi fun h=>hn (mem_append_left _ h)]
 ·by_cases e:rkP cs i=z
  ·cases hq:qR cs z i with
   | true =>
    rcases h' i hi (.inl hq) with h | ⟨j,hj,h1,_,h2⟩
    ·exact .inl h
    ·refine .inr ⟨j,hj,h1,?_⟩
     rw[Gu] at h2
     unfold Spt
     omega
   | false =>
    left
    rw[keep i hi hq,g.out i hi (by rw[e];exact nz)]
    unfold qR at hq
    rw[decide_eq_true e,Bool.true_and] at hq
    have:(aI cs i).1=0/\(aI cs i).2=1:=by simpa using hq
    exact (Prod.ext this.1 this.2).symm
  ·have hl:rkP cs i∈zl:=by
    rcases mem_append.mp hm with h | h
    ·exact h
    ·exact absurd (mem_singleton.mp h) e
   rcases g.full i hi hl with h | ⟨j,hj,h1,h2⟩
   ·exact .inl (by rw[keep i hi (nq i e),h])
   ·exact .inr ⟨j,hj,h1,h2.grow f f' hj chg⟩
theorem kT(c:FC U0 ws cs):∀(zr zl:List Int)(r:Nat)(U:Int) (ps:List (Int×Int)),(zl++zr).Pairwise (· < ·)->FI U0 ws cs r U ps q0->Bd U cs ps q0->r+lO cs zr<=16->Stg U ws cs zl ps->∃ U' r',FI U0 ws cs r' U' (bp ws cs zr ps) q0/\Bd U' cs (bp ws cs zr ps) q0/\r'<=r+lO cs zr/\Stg U' ws cs (zl++zr) (bp ws cs zr ps)/\∀ i,i < cs.length->rkP cs i∉zr->(bp ws cs zr ps).getD i (0,1)=ps.getD i (0,1)
 | [],zl,r,U,ps,lt,x,B,hr,g=>⟨U,r,x,B,by omega,by rw[append_nil];exact g,fun _ _ _=>rfl⟩
 | z::zr,zl,r,U,ps,lt,x,B,hr,g=>by
  have p:=List.pairwise_append.mp lt
  have nz:z∉zl:=fun h=>by
   have:=p.2.2 z h z mem_cons_self
   omega
  have nr:z∉zr:=fun h=>by
   have:=(pairwise_cons.mp p.2.1).1 z h
   omega
  obtain⟨U1,x1,B1,g1,k1⟩:=o7 c nz x B g
  have hc:=kI (cs:=cs) nr
  have el:zl++z::zr=zl++[z]++zr:=by rw[append_assoc];rfl
  obtain⟨U2,r2,x2,B2,C4,g2,k2⟩:=kT c zr (zl++[z]) _ U1 _ (by rw[<- el];exact lt) x1 B1 (by omega) g1
  refine⟨U2,r2,x2,B2,by omega,by rw[el];exact g2,fun i hi hn=>?_⟩
  show (bp ws cs zr (bH ws cs _ ps _)).getD i (0,1)=_
  rw[k2 i hi fun h=>hn (mem_cons_of_mem _ h),k1 i hi fun e=>hn (by rw[e];exact mem_cons_self)]
theorem ql:∀(zl zh:List Int) (ps:List (Int×Int)),bp ws cs (zl++zh) ps=bp ws cs zh (bp ws cs zl ps)
 | [],_,_=>rfl
 | z::zl,zh,ps=>ql zl zh _
end
section
variable {U V U0:Int}{ws:List Int}{cs:List Cl}{ps jC:List (Int×Int)}{q:Nat->Bool}{r:Nat}
variable {u:Int×Int}
theorem Bm{d:Int×Int}(hl:0 < u.2)(od:Ok V d)(on:Ok V (low (u.1*d.1) (u.2*d.2))):num V (low (u.1*d.1) (u.2*d.2))*u.2=u.1*num V d:=by
 have x1:=jH (n:=u.1*d.1) (mul_pos hl od.pos)
 have a:=num_mul on
 have b:=num_mul od
 have p1:=on.pos
 have p2:=od.pos
 generalize low (u.1*d.1) (u.2*d.2)=N at x1 a p1 |-
 generalize num V N=A at a |-
 generalize num V d=D at b |-
 have hne:N.2*d.2≠0:=by have:=mul_pos p1 p2;omega
 refine eq_of_mul_eq_mul_right hne ?_
 grind
theorem jM(q:Nat->Bool)(j:Nat):RU V ws cs ps q j=aZ ws (Srt.sub j)*V - ((range cs.length).map fun i=>if (inn cs (Srt.sub j) i && !q i)=true then num V (ps.getD i (0,1)) else 0).sum:=by
 show bE V ws cs ps q (Srt.sub j)=_
 unfold bE gE
 rw[tQ]
theorem oF(q:Nat->Bool)(j:Nat):DU V cs q j=((range cs.length).map fun i=>if (inn cs (Srt.sub j) i && q i)=true then num V (aI cs i) else 0).sum:=by
 show b_ V cs q (Srt.sub j)=_
 unfold b_
 rw[tQ]
theorem AU(c:FC U0 ws cs)(x:FI U0 ws cs r U ps q){U':Int}{r':Nat}(x':FI U0 ws cs r' U' (stp (lvP ws cs ps q) cs ps (hqP ws cs ps q)) (fun i=>q i && !hqP ws cs ps q i)):(lvP ws cs ps q).1*(lvP ws cs (stp (lvP ws cs ps q) cs ps (hqP ws cs ps q)) (fun i=>q i && !hqP ws cs ps q i)).2<=(lvP ws cs (stp (lvP ws cs ps q) cs ps (hqP ws cs ps q)) (fun i=>q i && !hqP ws cs ps q i)).1*(lvP ws cs ps q).2:=by
 obtain⟨L,eh⟩:=x.lvl c
 have L':=(x'.lvl c).1
 have sub:∀ i,hqP ws cs ps q i=true->q i=true:=fun i h=>by rw[<- eh] at h;exact kH h
 have sa:∀ i,i < cs.length->(stp (lvP ws cs ps q) cs ps (hqP ws cs ps q)).getD i (0,1)=if hqP ws cs ps q i=true then kh (lvP ws cs ps q) cs i else ps.getD i (0,1):=fun i hi=>sU (by rw[x.len];exact hi)
 have J8:=fun i hi=>(x'.ok i hi).toOk
 generalize stp (lvP ws cs ps q) cs ps (hqP ws cs ps q)=jC at L' sa J8 |-
 generalize lvP ws cs jC (fun i=>q i && !hqP ws cs ps q i)=l' at L' |-
 generalize hqP ws cs ps q=hq at L' sa sub |-
 clear eh
 generalize lvP ws cs ps q=lv at L sa |-
 have lp:=L.pos
 rcases L'.at' with e | ⟨j,hj,hD,e⟩
 ·rw[e]
  have:=L.one
  show lv.1*1<=1*lv.2
  omega
 ·have key:lv.1*DU U' cs (fun i=>q i && !hq i) j<=RU U' ws cs jC (fun i=>q i && !hq i) j*lv.2:=by
   have od:∀ i,i < cs.length->Ok U (aI cs i):=fun i hi=>(c.dp hi).1.toOk.up x.dvd
   have Py:∀ i,i < cs.length->Ok U' (aI cs i):=fun i hi=>(c.dp hi).1.toOk.up x'.dvd
   have h0:lv.1*DU U cs q j<=RU U ws cs ps q j*lv.2:=by
    by_cases z:0 < DU U cs q j
    ·exact L.le j hj z
    ·have n0:0<=DU U cs q j:=xQ (q:=q) c x.up x.dvd (Srt.sub j)
     have e0:DU U cs q j=0:=by omega
     rw[e0,Int.mul_zero]
     exact mul_nonneg (x.room j hj) (le_of_lt lp)
   have e1:DU U cs q j*U'=DU U' cs q j*U:=by
    rw[oF,oF]
    refine gk fun i hi=>?_
    split
    ·exact h8 (od i (mem_range.mp hi)) (Py i (mem_range.mp hi))
    ·rw[zero_mul,zero_mul]
   have e2:RU U ws cs ps q j*U'=RU U' ws cs ps q j*U:=by
    rw[jM,jM,sub_mul,sub_mul]
    rw[gk (u:=U) (g:=fun i=>if (inn cs (Srt.sub j) i && !q i)=true then num U' (ps.getD i (0,1)) else 0) fun i hi=>?_,mul_assoc,mul_assoc,mul_comm U U']
    split
    ·rename_i h
     have hi:=mem_range.mp hi
     rw[and_eq_true] at h
     have nq:hq i=false:=by
      cases hh:hq i with
      | false=>rfl
      | true=>have:=h.2;rw[sub i hh] at this;cases this
     have o':=J8 i hi
     rw[sa i hi,if_neg (by rw[nq];exact Bool.false_ne_true)] at o'
     exact h8 (x.ok i hi).toOk o'
    ·rw[zero_mul,zero_mul]
   have h1:lv.1*DU U' cs q j<=RU U' ws cs ps q j*lv.2:=by
    refine le_of_mul_le_mul_right (a:=U) ?_ x.up
    have:=mul_le_mul_of_nonneg_right h0 (le_of_lt x'.up)
    have a1:lv.1*DU U' cs q j*U=lv.1*DU U cs q j*U':=by rw[mul_assoc,<- e1,mul_assoc]
    have a2:RU U' ws cs ps q j*lv.2*U=RU U ws cs ps q j*lv.2*U':=by rw[mul_right_comm,<- e2,mul_right_comm]
    rw[a1,a2]
    exact this
   have e3:RU U' ws cs jC (fun i=>q i && !hq i) j*lv.2=RU U' ws cs ps q j*lv.2 - lv.1*((range cs.length).map fun i=>if (inn cs (Srt.sub j) i && hq i)=true then num U' (aI cs i) else 0).sum:=by
    have s1:((range cs.length).map fun i=>if (inn cs (Srt.sub j) i && !(q i && !hq i))=true then num U' (jC.getD i (0,1)) else 0).sum*lv.2=((range cs.length).map fun i=>if (inn cs (Srt.sub j) i && !q i)=true then num U' (ps.getD i (0,1)) else 0).sum*lv.2+lv.1*((range cs.length).map fun i=>if (inn cs (Srt.sub j) i && hq i)=true then num U' (aI cs i) else 0).sum:=by
     have a:∀(l:List Nat),(∀ i∈l,i < cs.length)->(l.map fun i=>if (inn cs (Srt.sub j) i && !(q i && !hq i))=true then num U' (jC.getD i (0,1)) else 0).sum*lv.2=(l.map fun i=>if (inn cs (Srt.sub j) i && !q i)=true then num U' (ps.getD i (0,1)) else 0).sum*lv.2+lv.1*(l.map fun i=>if (inn cs (Srt.sub j) i && hq i)=true then num U' (aI cs i) else 0).sum:=by
      intro l
      induction l with
      | nil=>intro _;show (0:Int)*_=0*_+_*0;omega
      | cons i l ih =>
       intro hl
       have hi:=hl i mem_cons_self
       have ih:=ih fun k hk=>hl k (mem_cons_of_mem _ hk)
       rw[map_cons,map_cons,map_cons,sum_cons,sum_cons,sum_cons,add_mul,add_mul,Int.mul_add,ih]
       have one:(if (inn cs (Srt.sub j) i && !(q i && !hq i))=true then num U' (jC.getD i (0,1)) else 0)*lv.2=(if (inn cs (Srt.sub j) i && !q i)=true then num U' (ps.getD i (0,1)) else 0)*lv.2+lv.1*(if (inn cs (Srt.sub j) i && hq i)=true then num U' (aI cs i) else 0):=by
        cases hin:inn cs (Srt.sub j) i with
        | false=>simp
        | true =>
         cases hh:hq i with
         | true =>
          have qi:=sub i hh
          have o':=J8 i hi
          have es:=sa i hi
          rw[if_pos hh] at es
          rw[es] at o' |-
          have:=Bm lp (Py i hi) o'
          simp only[qi,Bool.not_true,Bool.and_true,Bool.not_false,Bool.and_false,if_true,false_eq_true,if_false,zero_mul,zero_add]
          exact this
         | false =>
          have es:=sa i hi
          rw[if_neg (by rw[hh];exact Bool.false_ne_true)] at es
          rw[es]
          cases mG:q i<;>simp
       rw[one]
       omega
     exact a _ fun i hi=>mem_range.mp hi
    rw[jM,jM,sub_mul,sub_mul,s1]
    omega
   have e4:DU U' cs q j=DU U' cs (fun i=>q i && !hq i) j+((range cs.length).map fun i=>if (inn cs (Srt.sub j) i && hq i)=true then num U' (aI cs i) else 0).sum:=by
    rw[oF,oF,<- sum_add]
    refine congrArg List.sum (map_congr_left fun i _=>?_)
    cases hin:inn cs (Srt.sub j) i with
    | false=>simp
    | true =>
     cases hh:hq i with
     | true=>rw[sub i hh];simp
     | false=>cases mG:q i<;>simp
   rw[e4,Int.mul_add] at h1
   rw[e3]
   omega
  have h2:=mul_le_mul_of_nonneg_right key (le_of_lt L'.pos)
  refine le_of_mul_le_mul_right (a:=DU U' cs (fun i=>q i && !hq i) j) ?_ hD
  have a1:lv.1*l'.2*DU U' cs (fun i=>q i && !hq i) j=lv.1*DU U' cs (fun i=>q i && !hq i) j*l'.2:=mul_right_comm _ _ _
  have a2:l'.1*lv.2*DU U' cs (fun i=>q i && !hq i) j=RU U' ws cs jC (fun i=>q i && !hq i) j*lv.2*l'.2:=by
   rw[mul_right_comm,e,mul_right_comm]
  rw[a1,a2]
  exact h2
theorem v_(c:FC U0 ws cs):∀(f r:Nat)(U:Int) (ps:List (Int×Int)) (q:Nat->Bool),FI U0 ws cs r U ps q->(plL cs.length q).length<=f->∀ V,0 < V->(∀ i,i < cs.length->Ok V ((bH ws cs f ps q).getD i (0,1)))->(∀ i,i < cs.length->Ok V (aI cs i))->∀ i,i < cs.length->q i=true->(lvP ws cs ps q).1*num V (aI cs i)<=num V ((bH ws cs f ps q).getD i (0,1))*(lvP ws cs ps q).2/\((bH ws cs f ps q).getD i (0,1)=aI cs i\/∃ j,j < 2 ^ ws.length/\inn cs (Srt.sub j) i=true/\Spt V ws cs (bH ws cs f ps q) j/\∀ a,a < cs.length->inn cs (Srt.sub j) a=true->q a=true->num V ((bH ws cs f ps q).getD a (0,1))*num V (aI cs i)<=num V ((bH ws cs f ps q).getD i (0,1))*num V (aI cs a)):=by
 intro f
 induction f with
 | zero =>
  intro r U ps q x hf V hV ok od i hi hqi
  rw[wR (List.eq_nil_of_length_eq_zero (Nat.le_zero.mp hf)) hi] at hqi
  cases hqi
 | succ f IH =>
  intro r U ps q x hf V hV ok od i hi hqi
  by_cases h:plL cs.length q=[]
  ·rw[wR h hi] at hqi
   cases hqi
  ·
    obtain⟨U1,x1,b1,h1⟩:=x.next c
    have hl:=x.less c h
    have up:=AU c x x1
    obtain⟨L,eh⟩:=x.lvl c
    have lp:=L.pos
    have L1:=(x1.lvl c).1.pos
    have sub:∀ i,hqP ws cs ps q i=true->q i=true:=fun i h=>by rw[<- eh] at h;exact kH h
    rw[ng f h] at ok |-
    have keep:=kF c f (r+1) U1 _ _ x1
    have ih:=IH (r+1) U1 _ _ x1 (by omega) V hV ok od
    have sa:∀ i,i < cs.length->(stp (lvP ws cs ps q) cs ps (hqP ws cs ps q)).getD i (0,1)=if hqP ws cs ps q i=true then kh (lvP ws cs ps q) cs i else ps.getD i (0,1):=fun i hi=>sU (by rw[x.len];exact hi)
    have hd:=h1 i hi (.inl hqi)
    have Ph:=fun i hi=>(x1.ok i hi).toOk
    have up1:=x1.up
    have nn:∀ i,i < cs.length->0<=num V (aI cs i):=fun i hi=>(fN hV (od i hi)).mp (c.dp hi).2
    clear h1 b1 x1 L eh
    generalize stp (lvP ws cs ps q) cs ps (hqP ws cs ps q)=LB at ok keep ih sa hd Ph up L1 |-
    generalize lvP ws cs LB (fun i=>q i && !hqP ws cs ps q i)=l1 at up ih L1
    generalize hqP ws cs ps q=hq at ok keep ih sa hd sub |-
    generalize lvP ws cs ps q=lv at up sa lp |-
    generalize bH ws cs f LB (fun i=>q i && !hq i)=fin at ok keep ih |-
    have stop:∀ a,a < cs.length->hq a=true->fin.getD a (0,1)=LB.getD a (0,1)/\num V (fin.getD a (0,1))*lv.2=lv.1*num V (aI cs a):=fun a ha hh=>by
     have k:=keep a ha (by show (q a && !hq a)=false;rw[hh];simp)
     refine⟨k,?_⟩
     have o:=ok a ha
     rw[k,sa a ha,if_pos hh] at o |-
     exact Bm lp (od a ha) o
    cases hh:hq i with
    | true =>
     obtain⟨k,e⟩:=stop i hi hh
     refine⟨Int.le_of_eq e.symm,?_⟩
     rcases hd with hd | hd
     ·rw[hh] at hd
      simp at hd
     ·rcases hd with hd | ⟨j,hj,hin,hall,hR⟩
      ·exact .inl (by rw[k,hd])
      ·refine .inr ⟨j,hj,hin,?_,fun a ha ia qa=>?_⟩
       ·unfold Spt
        have J7:∀ a,a < cs.length->inn cs (Srt.sub j) a=true->(q a && !hq a)=false:=fun a ha ia=>hall a (mem_filter.mpr ⟨mem_range.mpr ha,ia⟩)
        rw[jM] at hR
        have e2:eQ V cs fin j*U1=((range cs.length).map fun i=>if (inn cs (Srt.sub j) i && !(q i && !hq i))=true then num U1 (LB.getD i (0,1)) else 0).sum*V:=by
         unfold eQ
         refine gk fun a ha=>?_
         have ha:=mem_range.mp ha
         cases ia:inn cs (Srt.sub j) a with
         | false=>simp
         | true =>
          have z:=J7 a ha ia
          have k:=keep a ha z
          have o:=ok a ha
          rw[z,if_pos rfl,if_pos (show (true && !false)=true from rfl)]
          rw[k] at o |-
          exact h8 o (Ph a ha)
        have e3:((range cs.length).map fun i=>if (inn cs (Srt.sub j) i && !(q i && !hq i))=true then num U1 (LB.getD i (0,1)) else 0).sum=aZ ws (Srt.sub j)*U1:=by omega
        rw[e3] at e2
        refine eq_of_mul_eq_mul_right (a:=U1) ?_ ?_
        ·omega
        ·rw[e2,mul_right_comm]
       ·have z:=hall a (mem_filter.mpr ⟨mem_range.mpr ha,ia⟩)
        have w_:hq a=true:=by
         have z:(q a && !hq a)=false:=z
         rw[qa,Bool.true_and] at z
         simpa using z
        have e2:=(stop a ha w_).2
        refine Int.le_of_eq ?_
        have hne:lv.2≠0:=by omega
        refine eq_of_mul_eq_mul_right hne ?_
        grind
    | false =>
     have q1:(q i && !hq i)=true:=by rw[hqi,hh];rfl
     obtain⟨i1,i2⟩:=ih i hi q1
     have low:lv.1*num V (aI cs i)<=num V (fin.getD i (0,1))*lv.2:=by
      have h2:=mul_le_mul_of_nonneg_right i1 (le_of_lt lp)
      have h3:=mul_le_mul_of_nonneg_right up (nn i hi)
      refine le_of_mul_le_mul_right (a:=l1.2) ?_ L1
      have a1:lv.1*num V (aI cs i)*l1.2=lv.1*l1.2*num V (aI cs i):=mul_right_comm _ _ _
      have a2:l1.1*lv.2*num V (aI cs i)=l1.1*num V (aI cs i)*lv.2:=mul_right_comm _ _ _
      have a3:num V (fin.getD i (0,1))*lv.2*l1.2=num V (fin.getD i (0,1))*l1.2*lv.2:=mul_right_comm _ _ _
      omega
     refine⟨low,?_⟩
     rcases i2 with i2 | ⟨j,hj,hin,sp,hall⟩
     ·exact .inl i2
     ·refine .inr ⟨j,hj,hin,sp,fun a ha ia qa=>?_⟩
      cases w_:hq a with
      | false=>exact hall a ha ia (by rw[qa,w_];rfl)
      | true =>
       have e2:=(stop a ha w_).2
       have h2:=mul_le_mul_of_nonneg_right low (nn a ha)
       refine le_of_mul_le_mul_right (a:=lv.2) ?_ lp
       have a1:num V (fin.getD a (0,1))*num V (aI cs i)*lv.2=lv.1*num V (aI cs a)*num V (aI cs i):=by rw[mul_right_comm,e2]
       have a2:num V (fin.getD i (0,1))*num V (aI cs a)*lv.2=num V (fin.getD i (0,1))*lv.2*num V (aI cs a):=mul_right_comm _ _ _
       have a3:lv.1*num V (aI cs a)*num V (aI cs i)=lv.1*num V (aI cs i)*num V (aI cs a):=mul_right_comm _ _ _
       omega
theorem xS{f g:Nat->Int}:∀{l:List Nat},(∀ x∈l,f x<=g x)->(l.map g).sum<=(l.map f).sum->∀ x∈l,f x=g x
 | [],_,_,x,hx=>by cases hx
 | y::l,h,hs,x,hx=>by
  rw[map_cons,map_cons,sum_cons,sum_cons] at hs
  have h1:=h y mem_cons_self
  have h2:=yF (f:=f) (g:=g) (l:=l) fun x hx=>h x (mem_cons_of_mem _ hx)
  rcases mem_cons.mp hx with rfl | hx
  ·omega
  ·exact xS (fun x hx=>h x (mem_cons_of_mem _ hx)) (by omega) x hx
theorem Ew(c:FC U0 ws cs)(w0:∀ x∈ws,0<=x){zs:List Int}(rk:DH cs zs)(hV:0 < V)(ok:∀ i,i < cs.length->Ok V ((bp ws cs zs (cw cs)).getD i (0,1)))(od:∀ i,i < cs.length->Ok V (aI cs i)):Fit V ws cs (bp ws cs zs (cw cs))/\∀ i,i < cs.length->(bp ws cs zs (cw cs)).getD i (0,1)=aI cs i\/∃ j,j < 2 ^ ws.length/\inn cs (Srt.sub j) i=true/\Spt V ws cs (bp ws cs zs (cw cs)) j/\∀ a,a < cs.length->inn cs (Srt.sub j) a=true->num V ((bp ws cs zs (cw cs)).getD a (0,1))=0\/rkP cs a < rkP cs i\/(rkP cs a=rkP cs i/\num V ((bp ws cs zs (cw cs)).getD a (0,1))*num V (aI cs i)<=num V ((bp ws cs zs (cw cs)).getD i (0,1))*num V (aI cs a)):=by
 obtain⟨x0,B0⟩:=FI.cw c w0
 have cn:∀ l:List Int,lO cs l<=16:=fun l=>le_trans s_ c.c16
 have g0:Stg U0 ws cs [] (cw cs):=⟨fun i _ _=>zx,fun i _ h=>by cases h⟩
 obtain⟨Uf,rf,xf,Bf,_,gf,_⟩:=kT c zs [] 0 U0 (cw cs) rk.lt x0 B0 (by have:=cn zs;omega) g0
 have ff:Fit V ws cs (bp ws cs zs (cw cs)):=(xf.fit c Bf).any hV ok od
 refine⟨ff,fun i hi=>?_⟩
 have hm:rkP cs i∈zs:=(rk.mem _).mpr (by rw[w4 hi];exact mem_map.mpr ⟨_,getElem_mem hi,rfl⟩)
 generalize hz:rkP cs i=z at hm |-
 obtain⟨zl,zr,rfl⟩:=List.append_of_mem hm
 have lt:=rk.lt
 obtain⟨p1,p2,p3⟩:=List.pairwise_append.mp lt
 have nz:z∉zl:=fun h=>by have:=p3 z h z mem_cons_self;omega
 have nr:z∉zr:=fun h=>by have:=(pairwise_cons.mp p2).1 z h;omega
 obtain⟨U1,r1,x1,B1,Js,g1,_⟩:=kT c zl [] 0 U0 (cw cs) p1 x0 B0 (by have:=cn zl;omega) g0
 obtain⟨U2,x2,B2,g2,k2⟩:=o7 c (by rw[nil_append];exact nz) x1 B1 g1
 have es:bp ws cs (zl++z::zr) (cw cs)=bp ws cs zr (bH ws cs (plL cs.length (qR cs z)).length (bp ws cs zl (cw cs)) (qR cs z)):=by rw[ql];rfl
 have xq:=x1.qp B1 (qR cs z)
 have keep:=kF c (plL cs.length (qR cs z)).length r1 U1 _ (qR cs z) xq
 have ffl:=v_ c (plL cs.length (qR cs z)).length r1 U1 _ (qR cs z) xq (le_refl _) V hV
 rw[nil_append] at g2 g1
 have ca:lO cs zl+lO cs (z::zr)<=cs.length:=by
  have:=tz (p:=fun i=>decide (rkP cs i∈zl)) (q:=fun i=>decide (rkP cs i∈z::zr)) (r:=fun _=>true) (fun _ _=>rfl) (fun _ _=>rfl) (fun i hi=>decide_eq_false fun h=>by
   have:=p3 _ (of_decide_eq_true hi) _ h
   omega) (range cs.length)
  have e:((range cs.length).filter fun _=>true).length=cs.length:=by rw[List.filter_eq_self.mpr fun _ _=>rfl,length_range]
  unfold lO
  omega
 have cc:=kI (cs:=cs) nr
 have c16:=c.c16
 have el:zl++z::zr=zl++[z]++zr:=by rw[append_assoc];rfl
 obtain⟨U3,r3,x3,B3,_,g3,k3⟩:=kT c zr (zl++[z]) _ U2 _ (by rw[<- el];exact lt) x2 B2 (by omega) g2
 rw[es] at ff ok |-
 have f2:=x2.fit c B2
 clear x0 B0 g0 xf Bf gf x2 B2 x3 B3 g3 xq
 generalize bH ws cs (plL cs.length (qR cs z)).length (bp ws cs zl (cw cs)) (qR cs z)=Cz at ff ok g2 k2 k3 keep ffl f2 |-
 generalize bp ws cs zr Cz=fin at ff ok k3 |-
 have chg:∀ i,i < cs.length->fin.getD i (0,1)=Cz.getD i (0,1)\/Cz.getD i (0,1)=(0,1):=fun i hi=>by
  by_cases e:rkP cs i∈zr
  ·refine .inr (g2.out i hi fun h=>?_)
   rw[el] at lt
   have:=(List.pairwise_append.mp lt).2.2 _ h _ e
   omega
  ·exact .inl (k3 i hi e)
 have Pt:∀ i,i < cs.length->Ok V (Cz.getD i (0,1)):=fun i hi=>by
  rcases chg i hi with e | e
  ·rw[<- e];exact ok i hi
  ·rw[e];exact kZ
 have Qw:=f2.any hV Pt od
 have ki:fin.getD i (0,1)=Cz.getD i (0,1):=k3 i hi (by rw[hz];exact nr)
 cases hq:qR cs z i with
 | false =>
  left
  rw[ki,keep i hi hq,g1.out i hi (by rw[hz];exact nz)]
  unfold qR at hq
  rw[decide_eq_true hz,Bool.true_and] at hq
  have:(aI cs i).1=0/\(aI cs i).2=1:=by simpa using hq
  exact (Prod.ext this.1 this.2).symm
 | true =>
  rcases (ffl Pt od i hi hq).2 with e | ⟨j,hj,hin,sp,hall⟩
  ·exact .inl (by rw[ki,e])
  ·have AB:=sp.grow Qw ff hj chg
   refine .inr ⟨j,hj,hin,AB,fun a ha ia=>?_⟩
   by_cases e1:rkP cs a < z
   ·exact .inr (.inl e1)
   by_cases e2:rkP cs a=z
   ·have ka:fin.getD a (0,1)=Cz.getD a (0,1):=k3 a ha (by rw[e2];exact nr)
    cases hqa:qR cs z a with
    | true =>
     refine .inr (.inr ⟨e2,?_⟩)
     rw[ka,ki]
     exact hall a ha ia hqa
    | false =>
     left
     rw[ka,keep a ha hqa,g1.out a ha (by rw[e2];exact nz),mB]
   ·left
    have o2:Cz.getD a (0,1)=(0,1):=g2.out a ha fun h=>by
     rcases mem_append.mp h with h | h
     ·have:=p3 _ h z mem_cons_self
      omega
     ·exact e2 (mem_singleton.mp h)
    have q:=xS (f:=fun i=>if inn cs (Srt.sub j) i=true then num V (Cz.getD i (0,1)) else 0) (g:=fun i=>if inn cs (Srt.sub j) i=true then num V (fin.getD i (0,1)) else 0) (l:=range cs.length) (fun i hi=>by
     have hi:=mem_range.mp hi
     show (if _ then _ else _)<=(if _ then _ else _)
     split
     ·rcases chg i hi with e | e
      ·rw[e];exact Int.le_refl _
      ·rw[e,mB];exact ff.nn i hi
     ·exact Int.le_refl _) (by
     have h1:eQ V cs Cz j=_:=sp
     have h2:eQ V cs fin j=_:=AB
     show eQ V cs fin j<=eQ V cs Cz j
     rw[h1,h2]
     exact Int.le_refl _) a (mem_range.mpr ha)
    have q:(if inn cs (Srt.sub j) a=true then num V (Cz.getD a (0,1)) else 0)=if inn cs (Srt.sub j) a=true then num V (fin.getD a (0,1)) else 0:=q
    rw[if_pos ia,if_pos ia,o2,mB] at q
    exact q.symm
end
def j5(d p:Int×Int):Int×Int:=if d.1=0 then (1,1) else low (p.1*d.2) (p.2*d.1)
section
variable {U V U0:Int}{ws:List Int}{cs:List Cl}{ps jC fs os:List (Int×Int)}
theorem CG{hs:List Int}{j:Nat}(e:hs=Srt.sub j):(((range cs.length).filter (inn cs hs)).map fun i=>num V (ps.getD i (0,1))).sum=eQ V cs ps j:=by
 rw[eZ,e]
 rfl
theorem E5{j:Nat}(ok:∀ i,i < cs.length->Ok U (ps.getD i (0,1)))(J8:∀ i,i < cs.length->Ok V (ps.getD i (0,1))):eQ U cs ps j*V=eQ V cs ps j*U:=by
 unfold eQ
 refine gk fun i hi=>?_
 split
 ·exact h8 (ok i (mem_range.mp hi)) (J8 i (mem_range.mp hi))
 ·rw[zero_mul,zero_mul]
theorem Fx{d p e q:Int×Int}(hV:0 < V)(od:Ok V d)(op:Ok V p)(oe:Ok V e)(oq:Ok V q)(d0:0 < num V d)(e0:0 < num V e):(j5 d p).1*(j5 e q).2 < (j5 e q).1*(j5 d p).2↔num V p*num V e < num V q*num V d:=by
 have d1:=(yk hV od).mpr d0
 have e1:=(yk hV oe).mpr e0
 unfold j5
 rw[if_neg (by omega),if_neg (by omega)]
 have hd:0 < p.2*d.1:=mul_pos op.pos d1
 have he:0 < q.2*e.1:=mul_pos oq.pos e1
 rw[(vy hV op od rfl rfl d0).2,(vy hV oq oe rfl rfl e0).2]
 have a:=jH (n:=num V p) d0
 have b:=jH (n:=num V q) e0
 have a2:=gg (n:=num V p) d0
 have b2:=gg (n:=num V q) e0
 generalize low (num V p) (num V d)=x at a a2 |-
 generalize low (num V q) (num V e)=y at b b2 |-
 generalize num V p=P at a |-
 generalize num V q=R at b |-
 generalize num V d=D at a d0 |-
 generalize num V e=E at b e0 |-
 have Pd:=mul_pos d0 e0
 have hxy:=mul_pos a2 b2
 have k1:x.1*y.2*(D*E)=P*E*(x.2*y.2):=by grind
 have k2:y.1*x.2*(D*E)=R*D*(x.2*y.2):=by grind
 constructor
 ·intro h
  have:=Int.mul_lt_mul_of_pos_right h Pd
  rw[k1,k2] at this
  exact Int.lt_of_mul_lt_mul_right this (le_of_lt hxy)
 ·intro h
  have:=Int.mul_lt_mul_of_pos_right h hxy
  rw[<- k1,<- k2] at this
  exact Int.lt_of_mul_lt_mul_right this (le_of_lt Pd)
end
section
variable {U V U0:Int}{ws:List Int}{cs:List Cl}{ps jC fs os:List (Int×Int)}
def flP(cs:List Cl)(ps:List (Int×Int))(i:Nat):Int×Int:=j5 (aI cs i) (ps.getD i (0,1))
def k7(cs:List Cl)(ps:List (Int×Int))(i k:Nat):Bool:=decide (rkP cs k < rkP cs i) || (decide (rkP cs k=rkP cs i) && !decide ((flP cs ps i).1*(flP cs ps k).2 < (flP cs ps k).1*(flP cs ps i).2))
def spN(V:Int)(cs:List Cl)(ps:List (Int×Int))(i j:Nat):Int:=((range cs.length).map fun k=>if (inn cs (Srt.sub j) k && k7 cs ps i k)=true then num V (ps.getD k (0,1)) else 0).sum
def ow(V:Int)(ws:List Int)(cs:List Cl)(ps:List (Int×Int))(i j:Nat):Bool:=inn cs (Srt.sub j) i && decide (spN V cs ps i j=aZ ws (Srt.sub j)*V)
structure Btw(V:Int)(cs:List Cl)(ps:List (Int×Int)):Prop where
 vp:0 < V
 ok:∀ i,i < cs.length->Ok V (ps.getD i (0,1))
 od:∀ i,i < cs.length->Ok V (aI cs i)
 nn:∀ i,i < cs.length->0<=num V (ps.getD i (0,1))
 le:∀ i,i < cs.length->num V (ps.getD i (0,1))<=num V (aI cs i)
theorem Fit.btw(f:Fit V ws cs ps):Btw V cs ps:=⟨f.vp,f.ok,f.od,f.nn,f.le⟩
theorem Ff{i k:Nat}(b:Btw V cs ps)(hi:i < cs.length)(hk:k < cs.length)(di:0 < num V (aI cs i))(dk:0 < num V (aI cs k)):k7 cs ps i k=true↔rkP cs k < rkP cs i\/(rkP cs k=rkP cs i/\num V (ps.getD k (0,1))*num V (aI cs i)<=num V (ps.getD i (0,1))*num V (aI cs k)):=by
 have h:=Fx b.vp (b.od i hi) (b.ok i hi) (b.od k hk) (b.ok k hk) di dk
 unfold k7 flP
 rw[or_eq_true,and_eq_true,decide_eq_true_eq,decide_eq_true_eq,Bool.not_eq_true',decide_eq_false_iff_not,h,Int.not_lt]
theorem Et{i j:Nat}(b:Btw V cs ps)(hi:i < cs.length)(di:0 < num V (aI cs i))(h:∀ a,a < cs.length->inn cs (Srt.sub j) a=true->num V (ps.getD a (0,1))=0\/rkP cs a < rkP cs i\/(rkP cs a=rkP cs i/\num V (ps.getD a (0,1))*num V (aI cs i)<=num V (ps.getD i (0,1))*num V (aI cs a))):spN V cs ps i j=eQ V cs ps j:=by
 unfold spN eQ
 refine congrArg List.sum (map_congr_left fun k hk=>?_)
 have hk:=mem_range.mp hk
 cases ik:inn cs (Srt.sub j) k with
 | false=>simp
 | true =>
  rw[Bool.true_and,if_pos rfl]
  cases hc:k7 cs ps i k with
  | true=>rw[if_pos rfl]
  | false =>
   rw[if_neg Bool.false_ne_true]
   by_cases z:num V (ps.getD k (0,1))=0
   ·exact z.symm
   ·have n0:=b.nn k hk
    have l0:=b.le k hk
    rcases h k hk ik with e | e
    ·exact absurd e z
    ·have:=(Ff b hi hk di (by omega)).mpr e
     rw[hc] at this
     cases this
theorem Bs(f:Fit V ws cs fs){i:Nat}(hi:i < cs.length)(pap:fs.getD i (0,1)=aI cs i\/∃ j,j < 2 ^ ws.length/\inn cs (Srt.sub j) i=true/\Spt V ws cs fs j/\∀ a,a < cs.length->inn cs (Srt.sub j) a=true->num V (fs.getD a (0,1))=0\/rkP cs a < rkP cs i\/(rkP cs a=rkP cs i/\num V (fs.getD a (0,1))*num V (aI cs i)<=num V (fs.getD i (0,1))*num V (aI cs a))):fs.getD i (0,1)=aI cs i\/∃ j,j < 2 ^ ws.length/\ow V ws cs fs i j=true:=by
 by_cases e:fs.getD i (0,1)=aI cs i
 ·exact .inl e
 ·rcases pap with h | ⟨j,hj,hin,sp,hall⟩
  ·exact .inl h
  ·have hd:num V (fs.getD i (0,1))≠num V (aI cs i):=fun z=>e (tP f.vp (f.ok i hi) (f.od i hi) z)
   have n0:=f.nn i hi
   have l0:=f.le i hi
   refine .inr ⟨j,hj,?_⟩
   unfold ow
   rw[hin,Bool.true_and,decide_eq_true_eq,Et f.btw hi (by omega) hall]
   exact sp
end
theorem sd{K:PySem.W.Frag}{a:Addr}{xs:List V}{g:TG}{tb:L2.TS}{D:Ends}{σ:St}{H:Hp}(Pv:Nat->St->Hp->Prop)(h0:Pv 0 σ H)(hl:∀ i σ H,i<=xs.length->Pv i σ H->SqL K H a xs)
  (hs:∀(i:Nat)(x:V)(p:Addr)(σ:St)(H H':Hp)(N B:St->Hp->Prop),xs[i]?=some x->H p=none->ak H H'->H' p=some (.tup [.int (i:Int),x])->Pv i σ H->(∀ σ' H',Pv (i+1) σ' H'->N σ' H')->(∀ σ' H',D.nx σ' H'->B σ' H')->g (.ref p) σ H' fun σ2 H2=>tb { nx:=N,rt:=D.rt,bk:=B,ct:=N } σ2 H2) (hd:∀ σ H,Pv xs.length σ H->D.nx σ H) :
  ∃ W:Nat->Nat->St->Hp->Prop,(∃ m,W 0 m σ H)/\∀ i m σ H,W i m σ H ->
   ((Itn K a).stop i H/\D.nx σ H)\/((Itn K a).go i H/\∃ N:St->Hp->Prop,(∀ σ' H',N σ' H'->∃ m',m' < m/\W (i+1) m' σ' H')/\∀ x H',(Itn K a).yld i H x H'->g x σ H' fun σ2 H2=>tb { D with nx:=N,ct:=N,bk:=D.nx } σ2 H2):=by
 refine⟨fun i m σ H=>m=xs.length - i/\i<=xs.length/\Pv i σ H,⟨xs.length,by simp,zero_le _,h0⟩,?_⟩
 rintro i m σ H ⟨rfl,hi,p⟩
 have q:=hl i σ H hi p
 by_cases hlt:i < xs.length
 ·refine .inr ⟨⟨xs,xs[i],q,by simp[hlt]⟩,Pv (i+1),fun σ' H' p'=>⟨xs.length - (i+1),by omega,rfl,hlt,p'⟩,fun v H' y=>?_⟩
  obtain⟨pp,x,hn,y1,rfl,rfl⟩:=y
  exact hs i x pp σ H _ (Pv (i+1)) D.nx (y1 xs q) hn (ak.new hn) af p (fun _ _ h=>h) fun _ _ h=>h
 ·have e:i=xs.length:=by omega
  subst e
  exact .inl ⟨⟨xs,q,rfl⟩,hd σ H p⟩
def sE(H:Hp)(zs:List V)(js:List Nat):Prop:=∃ ts:Nat->Addr,zs=js.map (fun i=>V.ref (ts i))/\∀ i∈js,H (ts i)=some (.tup ((Srt.sub i).map V.int))
theorem sE.ts{H H':Hp}{zs:List V}{js:List Nat}(h:sE H zs js)(s:TS H H'):sE H' zs js:=by
 obtain⟨f,e,h1⟩:=h
 exact⟨f,e,fun i hi=>s _ _ (h1 i hi)⟩
theorem FN{U:Int}{cs:List Cl}{ps:List (Int×Int)}{a j:Nat}:((((range cs.length).filter (k7 cs ps a)).filter (inn cs (Srt.sub j))).map fun i=>num U (ps.getD i (0,1))).sum=spN U cs ps a j:=by
 rw[filter_filter,eZ]
 rfl
def BC(V:Int)(ws:List Int)(cs:List Cl)(ps:List (Int×Int))(i:Nat):List Nat:=if ps.getD i (0,1)=aI cs i then [] else (range (2 ^ ws.length)).filter (ow V ws cs ps i)
section
variable {U V:Int}{cs:List Cl}{ps:List (Int×Int)}
theorem Iu{ws:List Int}{k:Nat}(c:FC UM ws cs)(d:UM∣V)(vp:0 < V)(vz:Sz k V){i:Nat}(hi:i < cs.length):Sz (180+k) (num V (aI cs i)):=by
 have dd:=(c.dp hi).1
 have e:num V (aI cs i)=num UM (aI cs i)*(V / UM):=jy df.pos dd.toOk d
 rw[e]
 have:=cv df.pos vp d
 exact (dd.sz.mul (Sz.le vz (show (V / UM).natAbs<=V.natAbs by omega))).mono (by omega)
theorem Btw.pt{ws:List Int}{k:Nat}(b:Btw V cs ps)(c:FC UM ws cs)(d:UM∣V)(vz:Sz k V){i:Nat}(hi:i < cs.length):dS V (180+k) (ps.getD i (0,1)):=by
 refine⟨b.ok i hi,?_⟩
 have h1:=b.nn i hi
 have h2:=b.le i hi
 have z:=Iu c d b.vp vz hi
 exact Sz.le z (by omega)
end
structure BS(H0 H:Hp)(B L c P:Addr)(xs:List V)(cs:List Cl)(pxs:List V)(ps:List (Int×Int)):Prop where
 b:br H B L
 fr:Fr1 B H0 H
 c:H c=some (.lst xs)
 hC:ClsAt H xs cs
 p:H P=some (.lst pxs)
 r:cf H pxs ps
 len:ps.length=cs.length
 p0:H0 P=none
section
variable {H0 H H':Hp}{B L c P:Addr}{xs:List V}{cs:List Cl}{pxs Qv:List V}{ps jC:List (Int×Int)}
end
def yy(m:Nat)(hs:List Int)(part:Int×Int)(row:List (Int×Int)):Prop:=row.length=m/\bN row=part/\∀ k,k < row.length->0<=(row.getD k (0,1)).1/\(row.getD k (0,1)=(0,1)\/(k:Int)∈hs)
def mP(aU:List (List (Int×Int)))(f:Nat):List (Int×Int):=aU.map fun r=>r.getD f (0,1)
def A3(ws:List Int)(cs:List Cl)(ps:List (Int×Int))(aU:List (List (Int×Int))):Prop :=
 aU.length=cs.length/\(∀ i,i < cs.length->yy ws.length (aT cs i) (ps.getD i (0,1)) (aU.getD i []))/\∀ f,f < ws.length->¬ ws.getD f 0*(bN (mP aU f)).2 < (bN (mP aU f)).1*1
def RsV(k:Nat)(H:Hp)(zs:List V)(aU:List (List (Int×Int))):Prop:=zs.length=aU.length/\∀(i:Nat) r,aU[i]?=some r->∃ l xs,zs[i]?=some (.ref l)/\H l=some (.lst xs)/\bL UM k H xs r/\r.length<=12
structure Tz(B L W C P Z:Addr)(t:Nat)(ws:List Int)(xs:List V)(cs:List Cl)(ys:List V)(ps:List (Int×Int))(zs:List V)(aU:List (List (Int×Int)))(H:Hp):Prop where
 b:br H B L
 w:H W=some (.lst (ws.map V.int))
 c:H C=some (.lst xs)
 hC:ClsAt H xs cs
 p:H P=some (.lst ys)
 hP:cf H ys ps
 z:H Z=some (.lst zs)
 hZ:dQ [B,L,W,C,P,Z] UM (116+4*t) H zs aU
 wB:W≠B/\W≠L
 cB:C≠B/\C≠L
 pB:P≠B/\P≠L
 zB:Z≠B/\Z≠L
 wc:W≠C
 wp:W≠P
 wz:W≠Z
 cp:C≠P
 cz:C≠Z
 pz:P≠Z
 w6:ws.length<=6
 wsz:∀ x∈ws,0<=x/\Sz 150 x
 c16:cs.length<=16
 pl:ps.length=cs.length
 psz:∀ q∈ps,0 < q.2/\Sz (300+4*t) q.1/\Sz (300+4*t) q.2
 rn:aU.length<=16+t
 rlen:∀ r∈aU,r.length<=6+t
section
variable {B L W C P Z:Addr}{t:Nat}{ws G9:List Int}{xs:List V}{cs:List Cl}{ys u3:List V}{ps jC:List (Int×Int)}{zs S5:List V}{aU Ss:List (List (Int×Int))}{H H':Hp}
end
def sm:Nat->(Nat->Int)->Int
 | 0,_=>0
 | n+1,g=>sm n g+g n
theorem yL(g:Nat->Int):∀ n,((range n).map g).sum=sm n g
 | 0=>rfl
 | n+1=>by
  rw[range_succ,map_append,List.sum_append,yL g n]
  simp[sm]
theorem dE{f g:Nat->Int}:∀{n:Nat},(∀ i,i < n->f i=g i)->sm n f=sm n g
 | 0,_=>rfl
 | n+1,h=>by
  show sm n f+f n=sm n g+g n
  rw[dE fun i hi=>h i (by omega),h n (by omega)]
theorem si{f g:Nat->Int}:∀{n:Nat},(∀ i,i < n->f i<=g i)->sm n f<=sm n g
 | 0,_=>Int.le_refl _
 | n+1,h=>Int.add_le_add (si fun i hi=>h i (by omega)) (h n (by omega))
theorem gU:∀ n,sm n (fun _=>0)=0
 | 0=>rfl
 | n+1=>by
  show sm n _+0=0
  rw[gU n]
  rfl
theorem AQ(f g:Nat->Int):∀ n,sm n (fun i=>f i+g i)=sm n f+sm n g
 | 0=>rfl
 | n+1=>by
  show sm n _+(f n+g n)=sm n f+f n+(sm n g+g n)
  rw[AQ f g n]
  omega
theorem AX(f:Nat->Int)(c:Int):∀ n,sm n (fun i=>f i*c)=sm n f*c
 | 0=>by
  show (0:Int)=0*c
  rw[zero_mul]
 | n+1=>by
  show sm n _+f n*c=(sm n f+f n)*c
  rw[AX f c n,add_mul]
theorem m_{f g:Nat->Int}{d:Int}:∀{n k:Nat},k < n->(∀ i,i < n->i≠k->g i=f i)->g k=f k+d->sm n g=sm n f+d
 | n+1,k,hk,h,hd=>by
  show sm n g+g n=sm n f+f n+d
  by_cases e:k=n
  ·subst e
   rw[dE fun i hi=>h i (by omega) (by omega),hd]
   omega
  ·rw[m_ (n:=n) (k:=k) (by omega) (fun i hi=>h i (by omega)) hd,h n (by omega) (by omega)]
   omega
theorem ya(F:Nat->Nat->Int)(m:Nat):∀ n,sm n (fun p=>sm m fun f=>F p f)=sm m fun f=>sm n fun p=>F p f
 | 0=>(gU m).symm
 | n+1=>by
  show sm n (fun p=>sm m fun f=>F p f)+sm m (fun f=>F n f)=sm m fun f=>sm n (fun p=>F p f)+F n f
  rw[AQ,ya F m n]
theorem Ke{f g:Nat->Int}{n k:Nat}(hk:k < n)(h:∀ i,i < n->f i<=g i)(hs:f k < g k):sm n f < sm n g:=by
 have h1:sm n (fun i=>if i=k then f k+1 else f i)<=sm n g:=si fun i hi=>by
  by_cases e:i=k
  ·rw[if_pos e,e]
   omega
  ·rw[if_neg e]
   exact h i hi
 have h2:=m_ (f:=f) (g:=fun i=>if i=k then f k+1 else f i) (d:=1) hk (fun i _ hi=>if_neg hi) (if_pos rfl)
 omega
theorem KI{f:Nat->Int}{n k:Nat}(hk:k < n)(h:∀ i,i < n->0<=f i):f k<=sm n f:=by
 have h1:sm n (fun i=>if i=k then f k else 0)<=sm n f:=si fun i hi=>by
  by_cases e:i=k
  ·rw[if_pos e,e]
   exact Int.le_refl _
  ·rw[if_neg e]
   exact h i hi
 have h2:=m_ (f:=fun _=>0) (g:=fun i=>if i=k then f k else 0) (d:=f k) hk (fun i _ hi=>if_neg hi) (by simp)
 rw[gU] at h2
 omega
def up2(R:Nat->Nat->Int)(p f:Nat)(v:Int):Nat->Nat->Int:=fun p' f'=>if p'=p/\f'=f then v else R p' f'
theorem eH{R:Nat->Nat->Int}{p f:Nat}{v:Int}:up2 R p f v p f=v:=if_pos ⟨rfl,rfl⟩
theorem dR{R:Nat->Nat->Int}{p f p' f':Nat}{v:Int}(h:¬ (p'=p/\f'=f)):up2 R p f v p' f'=R p' f':=if_neg h
theorem uh{R:Nat->Nat->Int}{p f p' m:Nat}{d:Int}(hf:f < m):sm m (up2 R p f (R p f+d) p')=sm m (R p')+if p'=p then d else 0:=by
 by_cases e:p'=p
 ·subst e
  rw[if_pos rfl]
  exact m_ hf (fun i _ hi=>dR fun z=>hi z.2) eH
 ·rw[if_neg e,add_zero]
  exact dE fun i _=>dR fun z=>e z.1
theorem sT{R:Nat->Nat->Int}{p f f' n:Nat}{d:Int}(hp:p < n):(sm n fun p'=>up2 R p f (R p f+d) p' f')=(sm n fun p'=>R p' f')+if f'=f then d else 0:=by
 by_cases e:f'=f
 ·subst e
  rw[if_pos rfl]
  exact m_ hp (fun i _ hi=>dR fun z=>hi z.1) eH
 ·rw[if_neg e,add_zero]
  exact dE fun i _=>dR fun z=>e z.2
structure Flo(n m:Nat)(R:Nat->Nat->Int)(Lf:Nat->Int)(eL:Nat->List Int)(cap:Nat->Int):Prop where
 nn:∀ p f,p < n->f < m->0<=R p f
 ln:∀ f,f < m->0<=Lf f
 out:∀ p f,p < n->f < m->R p f≠0->(f:Int)∈eL p
 col:∀ f,f < m->Lf f+(sm n fun p=>R p f)=cap f
abbrev cP(ch:List (Nat×Nat))(i:Nat):Nat:=(ch.getD i (0,0)).1
abbrev cF(ch:List (Nat×Nat))(i:Nat):Nat:=(ch.getD i (0,0)).2
structure Chn(n m:Nat)(R:Nat->Nat->Int)(eL:Nat->List Int)(place:Nat)(ch:List (Nat×Nat)):Prop where
 ne:0 < ch.length
 hd:cP ch 0=place
 lt:∀ i,i < ch.length->cP ch i < n/\cF ch i < m
 tc:∀ i,i < ch.length->(cF ch i:Int)∈eL (cP ch i)
 st:∀ i,i+1 < ch.length->0 < R (cP ch (i+1)) (cF ch i)
 nd:∀ i j,i < j->j < ch.length->cF ch i≠cF ch j
section
variable {n m place:Nat}{R Ri:Nat->Nat->Int}{Lf:Nat->Int}{eL:Nat->List Int}{cap:Nat->Int}{ch:List (Nat×Nat)}{a:Int}{i:Nat}
theorem getD_snoc{α:Type}{l:List α}{x d:α}{i:Nat}:(l++[x]).getD i d=if i < l.length then l.getD i d else if i=l.length then x else d:=by
 rw[getD_eq_getElem?_getD]
 by_cases h:i < l.length
 ·rw[if_pos h,getElem?_append_left h,getD_eq_getElem?_getD]
 ·rw[if_neg h,getElem?_append_right (by omega)]
  by_cases e:i=l.length
  ·rw[if_pos e,e,sub_self]
   rfl
  ·rw[if_neg e,getElem?_eq_none (by simp;omega)]
   rfl
theorem Chn.one{f:Nat}(hp:place < n)(hf:f < m)(ht:(f:Int)∈eL place):Chn n m R eL place [(place,f)]:=by
 refine⟨Nat.one_pos,rfl,fun i hi=>?_,fun i hi=>?_,fun i hi=>?_,fun i j h hj=>?_⟩
 ·have:i=0:=by simpa using hi
  subst this
  exact⟨hp,hf⟩
 ·have:i=0:=by simpa using hi
  subst this
  exact ht
 ·simp at hi
 ·simp at hj
  omega
theorem Chn.snoc{s:Nat×Nat}(c:Chn n m R eL place ch)(h1:s.1 < n)(h2:s.2 < m)(h3:(s.2:Int)∈eL s.1)(h4:0 < R s.1 (cF ch (ch.length - 1)))(h5:∀ i,i < ch.length->cF ch i≠s.2):Chn n m R eL place (ch++[s]):=by
 have ne:=c.ne
 have e1:∀ i,i < ch.length->(ch++[s]).getD i (0,0)=ch.getD i (0,0):=fun i hi=>by rw[getD_snoc,if_pos hi]
 have e2:(ch++[s]).getD ch.length (0,0)=s:=by rw[getD_snoc,if_neg (by omega),if_pos rfl]
 have el:(ch++[s]).length=ch.length+1:=by simp
 refine⟨by omega,?_,fun i hi=>?_,fun i hi=>?_,fun i hi=>?_,fun i j h hj=>?_⟩
 ·show ((ch++[s]).getD 0 (0,0)).1=place
  rw[e1 0 ne]
  exact c.hd
 ·show ((ch++[s]).getD i (0,0)).1 < n/\((ch++[s]).getD i (0,0)).2 < m
  by_cases e:i < ch.length
  ·rw[e1 i e]
   exact c.lt i e
  ·rw[show i=ch.length by omega,e2]
   exact⟨h1,h2⟩
 ·show (((ch++[s]).getD i (0,0)).2:Int)∈eL ((ch++[s]).getD i (0,0)).1
  by_cases e:i < ch.length
  ·rw[e1 i e]
   exact c.tc i e
  ·rw[show i=ch.length by omega,e2]
   exact h3
 ·show 0 < R ((ch++[s]).getD (i+1) (0,0)).1 ((ch++[s]).getD i (0,0)).2
  rw[e1 i (by omega)]
  by_cases e:i+1 < ch.length
  ·rw[e1 _ e]
   exact c.st i e
  ·rw[show i+1=ch.length by omega,e2]
   have:i=ch.length - 1:=by omega
   rw[this]
   exact h4
 ·show ((ch++[s]).getD i (0,0)).2≠((ch++[s]).getD j (0,0)).2
  rw[e1 i (by omega)]
  by_cases e:j < ch.length
  ·rw[e1 j e]
   exact c.nd i j h e
  ·rw[show j=ch.length by omega,e2]
   exact h5 i (by omega)
structure Mv(n m:Nat)(R:Nat->Nat->Int)(eL:Nat->List Int)(place:Nat)(ch:List (Nat×Nat))(a:Int)(i:Nat)(Ri:Nat->Nat->Int):Prop where
 nn:∀ p f,p < n->f < m->0<=Ri p f
 ge:∀ p f,(∀ k,k < i->cF ch k≠f)->R p f<=Ri p f
 out:∀ p f,p < n->f < m->Ri p f≠0->(f:Int)∈eL p
 row:∀ p,p < n->sm m (Ri p)=sm m (R p)+if p=place then a else 0
 col:∀ f,f < m->(sm n fun p=>Ri p f)=(sm n fun p=>R p f)+if f=cF ch i then a else 0
theorem Mv.start(fl:Flo n m R Lf eL cap)(c:Chn n m R eL place ch)(a0:0<=a):Mv n m R eL place ch a 0 (up2 R (cP ch 0) (cF ch 0) (R (cP ch 0) (cF ch 0)+a)):=by
 obtain⟨l1,l2⟩:=c.lt 0 c.ne
 refine⟨fun p f hp hf=>?_,fun p f _=>?_,fun p f hp hf h=>?_,fun p hp=>?_,fun f hf=>?_⟩
 ·by_cases e:p=cP ch 0/\f=cF ch 0
  ·rw[e.1,e.2,eH]
   have:=fl.nn _ _ l1 l2
   omega
  ·rw[dR e]
   exact fl.nn p f hp hf
 ·by_cases e:p=cP ch 0/\f=cF ch 0
  ·rw[e.1,e.2,eH]
   omega
  ·rw[dR e]
   exact Int.le_refl _
 ·by_cases e:p=cP ch 0/\f=cF ch 0
  ·rw[e.1,e.2]
   exact c.tc 0 c.ne
  ·rw[dR e] at h
   exact fl.out p f hp hf h
 ·rw[uh l2,c.hd]
 ·exact sT l1
theorem Mv.step(fl:Flo n m R Lf eL cap)(c:Chn n m R eL place ch)(a0:0<=a)(hi:i+1 < ch.length)(ha:a<=R (cP ch (i+1)) (cF ch i))(x:Mv n m R eL place ch a i Ri)(R1:Nat->Nat->Int)(e1:R1=up2 Ri (cP ch (i+1)) (cF ch i) (Ri (cP ch (i+1)) (cF ch i) - a)):Mv n m R eL place ch a (i+1) (up2 R1 (cP ch (i+1)) (cF ch (i+1)) (R1 (cP ch (i+1)) (cF ch (i+1))+a)):=by
 obtain⟨l1,l2⟩:=c.lt (i+1) hi
 obtain⟨l3,l4⟩:=c.lt i (by omega)
 have nd:=c.nd i (i+1) (by omega) hi
 have ge:=x.ge (cP ch (i+1)) (cF ch i) fun k hk=>c.nd k i hk (by omega)
 have O7:∀ p f,p < n->f < m->0<=R1 p f:=fun p f hp hf=>by
  rw[e1]
  by_cases e:p=cP ch (i+1)/\f=cF ch i
  ·rw[e.1,e.2,eH]
   omega
  ·rw[dR e]
   exact x.nn p f hp hf
 refine⟨fun p f hp hf=>?_,fun p f h=>?_,fun p f hp hf h=>?_,fun p hp=>?_,fun f hf=>?_⟩
 ·by_cases e:p=cP ch (i+1)/\f=cF ch (i+1)
  ·rw[e.1,e.2,eH]
   have:=O7 _ _ l1 l2
   omega
  ·rw[dR e]
   exact O7 p f hp hf
 ·have h0:f≠cF ch i:=fun z=>h i (by omega) z.symm
  have h1:=x.ge p f fun k hk=>h k (by omega)
  have h2:∀ p,R1 p f=Ri p f:=fun p=>by rw[e1,dR fun z=>h0 z.2]
  by_cases e:p=cP ch (i+1)/\f=cF ch (i+1)
  ·rw[<- e.1,<- e.2,eH,h2]
   omega
  ·rw[dR e,h2]
   exact h1
 ·by_cases e:p=cP ch (i+1)/\f=cF ch (i+1)
  ·rw[e.1,e.2]
   exact c.tc _ hi
  ·rw[dR e] at h
   refine x.out p f hp hf fun z=>h ?_
   rw[e1]
   by_cases e2:p=cP ch (i+1)/\f=cF ch i
   ·exfalso
    have h1:=x.nn p f hp hf
    rw[e1,e2.1,e2.2,eH] at h
    rw[<- e2.1,<- e2.2] at h ge
    have:a<=R p f:=by rw[e2.1,e2.2];exact ha
    omega
   ·rw[dR e2]
    exact z
 ·rw[uh l2,e1,Int.sub_eq_add_neg,uh l4,x.row p hp]
  by_cases e:p=cP ch (i+1)
  ·rw[if_pos e,if_pos e]
   omega
  ·rw[if_neg e,if_neg e]
   omega
 ·rw[sT l1,e1,Int.sub_eq_add_neg,sT l1,x.col f hf]
  by_cases e:f=cF ch i
  ·rw[if_pos e,if_pos e,if_neg (by rw[e];exact nd)]
   omega
  ·rw[if_neg e,if_neg e]
   omega
theorem Flo.move(fl:Flo n m R Lf eL cap)(c:Chn n m R eL place ch)(x:Mv n m R eL place ch a (ch.length - 1) Ri)(ha:a<=Lf (cF ch (ch.length - 1))):Flo n m Ri (fun f=>if f=cF ch (ch.length - 1) then Lf (cF ch (ch.length - 1)) - a else Lf f) eL cap:=by
 refine⟨x.nn,fun f hf=>?_,x.out,fun f hf=>?_⟩
 ·by_cases e:f=cF ch (ch.length - 1)
  ·rw[if_pos e]
   omega
  ·rw[if_neg e]
   exact fl.ln f hf
 ·have h:=fl.col f hf
  rw[x.col f hf]
  by_cases e:f=cF ch (ch.length - 1)
  ·rw[if_pos e,if_pos e,<- e]
   omega
  ·rw[if_neg e,if_neg e]
   omega
theorem Flo.stuck(fl:Flo n m R Lf eL cap){nm:Nat->Int}(hr:∀ p,p < n->sm m (R p)<=nm p)(hp:place < n)(lk:sm m (R place) < nm place)(S:Nat->Bool)(s0:∀ f,f < m->S f=true->Lf f<=0)(cl:∀ p f,p < n->f < m->S f=true->0 < R p f->∀ x∈eL p,S x.toNat=true)(ht:∀ x∈eL place,S x.toNat=true):(sm m fun f=>if S f=true then cap f else 0) < sm n fun p=>if (eL p).all (fun x=>S x.toNat)=true then nm p else 0:=by
 have e1:(sm m fun f=>if S f=true then cap f else 0)=sm m fun f=>sm n fun p=>if S f=true then R p f else 0:=dE fun f hf=>by
  cases e:S f with
  | true =>
   have h1:=fl.col f hf
   have h2:=fl.ln f hf
   have h3:=s0 f hf e
   rw[if_pos rfl]
   have:(sm n fun p=>if true=true then R p f else 0)=sm n fun p=>R p f:=dE fun p _=>if_pos rfl
   rw[this]
   omega
  | false =>
   rw[if_neg Bool.false_ne_true]
   have:(sm n fun p=>if false=true then R p f else 0)=sm n fun _=>0:=dE fun p _=>if_neg Bool.false_ne_true
   rw[this,gU]
 rw[e1,<- ya (fun p f=>if S f=true then R p f else 0) m n]
 have le:∀ p,p < n->(sm m fun f=>if S f=true then R p f else 0)<=sm m (R p):=fun p hp=>si fun f hf=>by
  cases S f with
  | true=>rw[if_pos rfl];exact Int.le_refl _
  | false=>rw[if_neg Bool.false_ne_true];exact fl.nn p f hp hf
 have al:∀ p,(∀ x∈eL p,S x.toNat=true)->(eL p).all (fun x=>S x.toNat)=true:=fun p h=>all_eq_true.mpr h
 refine Ke hp (fun p hp=>?_) ?_
 ·cases e:(eL p).all fun x=>S x.toNat with
  | true =>
   rw[if_pos rfl]
   exact Int.le_trans (le p hp) (hr p hp)
  | false =>
   rw[if_neg Bool.false_ne_true]
   have:(sm m fun f=>if S f=true then R p f else 0)=sm m fun _=>0:=dE fun f hf=>by
    cases e2:S f with
    | false=>exact if_neg Bool.false_ne_true
    | true =>
     rw[if_pos rfl]
     by_cases z:R p f=0
     ·exact z
     ·have h1:=fl.nn p f hp hf
      have h2:=al p (cl p f hp hf e2 (by omega))
      rw[e] at h2
      cases h2
   rw[this,gU]
   exact Int.le_refl _
 ·rw[if_pos (al place ht)]
  exact Int.lt_of_le_of_lt (le place hp) lk
end
structure Bf(n m:Nat)(R:Nat->Nat->Int)(Lf:Nat->Int)(eL:Nat->List Int)(place:Nat)(dB:List (List (Nat×Nat)))(rs:List Int)(a:Nat):Prop where
 len:dB.length=rs.length
 ok:∀ i,i < dB.length->Chn n m R eL place (dB.getD i [])/\(cF (dB.getD i []) ((dB.getD i []).length - 1):Int)=rs.getD i 0/\(∀ k,k < (dB.getD i []).length->(cF (dB.getD i []) k:Int)∈rs)/\(dB.getD i []).length<=i+1
 bd:∀ x∈rs,0<=x/\x < (m:Int)
 st:∀ x∈eL place,x∈rs
 dn:∀ i,i < a->Lf (rs.getD i 0).toNat<=0/\∀ p,p < n->0 < R p (rs.getD i 0).toNat->∀ x∈eL p,x∈rs
 le:a<=rs.length
 cnt:(rs.length:Int)+sm m (fun f=>if (f:Int)∈rs then 0 else 1)<=12
section
variable {n m place:Nat}{R:Nat->Nat->Int}{Lf:Nat->Int}{eL:Nat->List Int}{dB:List (List (Nat×Nat))}{rs:List Int}{a:Nat}
theorem CZ:∀ n:Nat,sm n (fun _=>1)=(n:Int)
 | 0=>rfl
 | n+1=>by
  show sm n _+1=_
  rw[CZ n]
  omega
theorem Bf.start(hp:place < n)(m6:m<=6)(hb:(eL place).length<=6/\∀ x∈eL place,0<=x/\x < (m:Int)):Bf n m R Lf eL place ((eL place).map fun x=>[(place,x.toNat)]) (eL place) 0:=by
 refine⟨length_map _,fun i hi=>?_,hb.2,fun x hx=>hx,fun i hi=>by omega,zero_le _,?_⟩
 ·rw[length_map] at hi
  have e:((eL place).map fun x=>[(place,x.toNat)]).getD i []=[(place,(eL place)[i].toNat)]:=by simp[getD_eq_getElem?_getD,hi]
  have e2:(eL place).getD i 0=(eL place)[i]:=by simp[getD_eq_getElem?_getD,hi]
  have hm:=getElem_mem hi
  have b:=hb.2 _ hm
  rw[e,e2]
  generalize (eL place)[i]=x at hm b
  have en:((x.toNat:Nat):Int)=x:=toNat_of_nonneg b.1
  refine⟨Chn.one hp (by omega) (by rw[en];exact hm),en,fun k hk=>?_,by show 1<=i+1;omega⟩
  have:k=0:=by simpa using hk
  subst this
  show ((x.toNat:Nat):Int)∈_
  rw[en]
  exact hm
 ·have h:sm m (fun f=>if (f:Int)∈eL place then 0 else 1)<=sm m fun _=>1:=si fun i _=>by split<;>omega
  rw[CZ] at h
  have:=hb.1
  omega
theorem Bf.more{s:Nat×Nat}(b:Bf n m R Lf eL place dB rs a)(ha:a < dB.length)(h1:s.1 < n)(h2:s.2 < m)(h3:(s.2:Int)∈eL s.1)(h4:0 < R s.1 (rs.getD a 0).toNat)(h5:(s.2:Int)∉rs):Bf n m R Lf eL place (dB++[dB.getD a []++[s]]) (rs++[(s.2:Int)]) a:=by
 obtain⟨o1,o2,o3,o4⟩:=b.ok a ha
 have len:=b.len
 have e2:∀ i,i < rs.length->(rs++[(s.2:Int)]).getD i 0=rs.getD i 0:=fun i hi=>by rw[getD_snoc,if_pos hi]
 refine⟨by rw[length_append,length_append,len];rfl,fun i hi=>?_,fun x hx=>?_,fun x hx=>mem_append_left _ (b.st x hx),fun i hi=>?_,by rw[length_append];have:=b.le;omega,?_⟩
 ·by_cases e:i < dB.length
  ·rw[getD_snoc,if_pos e,e2 i (by omega)]
   obtain⟨k1,k2,k3,k4⟩:=b.ok i e
   exact⟨k1,k2,fun k hk=>mem_append_left _ (k3 k hk),k4⟩
  ·have hl:(dB++[dB.getD a []++[s]]).length=dB.length+1:=by rw[length_append];rfl
   have e:i=dB.length:=by omega
   subst e
   rw[getD_snoc,if_neg (by omega),if_pos rfl,len,getD_snoc,if_neg (by omega),if_pos rfl]
   generalize dB.getD a []=ch at o1 o2 o3 o4
   have el:(ch++[s]).length - 1=ch.length:=by simp
   refine⟨o1.snoc h1 h2 h3 ?_ fun k hk z=>h5 (by rw[<- z];exact o3 k hk),?_,fun k hk=>?_,?_⟩
   ·have:cF ch (ch.length - 1)=(rs.getD a 0).toNat:=by rw[<- o2,toNat_natCast]
    rw[this]
    exact h4
   ·show (((ch++[s]).getD _ (0,0)).2:Int)=_
    rw[el,getD_snoc,if_neg (by omega),if_pos rfl]
   ·show (((ch++[s]).getD k (0,0)).2:Int)∈_
    rw[getD_snoc]
    by_cases e:k < ch.length
    ·rw[if_pos e]
     exact mem_append_left _ (o3 k e)
    ·have Td:(ch++[s]).length=ch.length+1:=by simp
     rw[if_neg e,if_pos (by omega)]
     exact mem_append_right _ mem_cons_self
   ·simp
    omega
 ·rcases mem_append.mp hx with hx | hx
  ·exact b.bd x hx
  ·rw[mem_singleton.mp hx]
   omega
 ·have:=b.le
  rw[e2 i (by omega)]
  obtain⟨k1,k2⟩:=b.dn i hi
  exact⟨k1,fun p hp h x hx=>mem_append_left _ (k2 p hp h x hx)⟩
 ·have h:=m_ (f:=fun f:Nat=>if (f:Int)∈rs then (0:Int) else 1) (g:=fun f:Nat=>if (f:Int)∈rs++[(s.2:Int)] then (0:Int) else 1) (d:=-1) h2 (fun i _ hi=>by
   have:(i:Int)∈rs++[(s.2:Int)]↔(i:Int)∈rs:=by
    constructor
    ·intro h
     rcases mem_append.mp h with h | h
     ·exact h
     ·have:=mem_singleton.mp h
      omega
    ·exact mem_append_left _
   simp only[this]) (by
   rw[if_neg h5,if_pos (mem_append_right _ mem_cons_self)]
   decide)
  have:=b.cnt
  rw[length_append]
  show ((rs.length+1:Nat):Int)+_<=12
  omega
theorem Bf.next(b:Bf n m R Lf eL place dB rs a)(ha:a < dB.length)(h1:Lf (rs.getD a 0).toNat<=0)(h2:∀ p,p < n->0 < R p (rs.getD a 0).toNat->∀ x∈eL p,x∈rs):Bf n m R Lf eL place dB rs (a+1) :=
 ⟨b.len,b.ok,b.bd,b.st,fun i hi=>by
  by_cases e:i < a
  ·exact b.dn i e
  ·rw[show i=a by omega]
   exact⟨h1,h2⟩,by have:=b.len;omega,b.cnt⟩
theorem Bf.K_(b:Bf n m R Lf eL place dB rs a):dB.length<=12:=by
 have h:sm m (fun _=>0)<=sm m (fun f=>if (f:Int)∈rs then 0 else 1):=si fun i _=>by split<;>omega
 rw[gU] at h
 have:=b.cnt
 have:=b.len
 omega
theorem Bf.end(b:Bf n m R Lf eL place dB rs a)(ha:a=dB.length)(hb:∀ p,p < n->∀ x∈eL p,0<=x/\x < (m:Int))(hp:place < n)(no:∀ S:Nat->Bool,(∀ f,f < m->S f=true->Lf f<=0)->(∀ p f,p < n->f < m->S f=true->0 < R p f->∀ x∈eL p,S x.toNat=true)->(∀ x∈eL place,S x.toNat=true)->False):False:=by
 have dn:∀ f:Nat,(f:Int)∈rs->Lf f<=0/\∀ p,p < n->0 < R p f->∀ x∈eL p,x∈rs:=fun f hf=>by
  obtain⟨i,hi,e⟩:=getElem_of_mem hf
  have h:=b.dn i (by have:=b.len;omega)
  have e2:rs.getD i 0=rs[i]:=by simp[getD_eq_getElem?_getD,hi]
  rw[e2,e,toNat_natCast] at h
  exact h
 refine no (fun f=>decide ((f:Int)∈rs)) (fun f _ h=>(dn f (of_decide_eq_true h)).1) (fun p f h1 h2 h3 h4 x hx=>?_) fun x hx=>?_
 ·have:=(hb p h1 x hx).1
  refine decide_eq_true ?_
  rw[toNat_of_nonneg this]
  exact (dn f (of_decide_eq_true h3)).2 p h1 h4 x hx
 ·have:=(hb place hp x hx).1
  refine decide_eq_true ?_
  rw[toNat_of_nonneg this]
  exact b.st x hx
end
def dy(m:Nat)(g:Nat->Int):List V:=(range m).map fun f=>V.int (g f)
theorem dC{m:Nat}{g:Nat->Int}:(dy m g).length=m:=by
 unfold dy
 rw[length_map,length_range]
theorem kx{m f:Nat}{g:Nat->Int}(h:f < m):(dy m g)[f]?=some (.int (g f)):=by
 unfold dy
 rw[getElem?_map,getElem?_range h]
 rfl
theorem g_{m f:Nat}{g:Nat->Int}(h:f < m):atI (dy m g) (f:Int)=some (.int (g f)):=aQ (kx h)
theorem qz{m:Nat}{g h:Nat->Int}(e:∀ f,f < m->g f=h f):dy m g=dy m h:=map_congr_left fun f hf=>by rw[e f (mem_range.mp hf)]
theorem vf{m f:Nat}{g:Nat->Int}{v:Int}(hf:f < m):(dy m g).set f (.int v)=dy m fun k=>if k=f then v else g k:=by
 apply ext_getElem?
 intro i
 rw[getElem?_set]
 by_cases hi:i < m
 ·by_cases e:f=i
  ·subst e
   rw[if_pos rfl,dC,if_pos hi,kx hi,if_pos rfl]
  ·rw[if_neg e,kx hi,kx hi,if_neg (Ne.symm e)]
 ·rw[getElem?_eq_none (by rw[dC];omega),if_neg (by omega),getElem?_eq_none (by rw[dC];omega)]
theorem tX{m p f:Nat}{R:Nat->Nat->Int}{v:Int}(hf:f < m):(dy m (R p)).set f (.int v)=dy m (up2 R p f v p):=by
 rw[vf hf]
 refine qz fun k _=>?_
 by_cases e:k=f
 ·rw[if_pos e,e,eH]
 ·rw[if_neg e,dR fun z=>e z.2]
theorem kK{H H':Hp}{a:Addr}(s:ak H H')(h:H' a=none):H a=none:=by
 cases e:H a with
 | none=>rfl
 | some o=>rw[s _ _ e] at h;cases h
theorem uS:∀ n:Nat,(replicate n [V.int 0]).flatten=dy n fun _=>0
 | 0=>rfl
 | n+1=>by
  rw[List.replicate_succ',List.flatten_append,uS n]
  unfold dy
  rw[range_succ,map_append]
  rfl
def IRw(X:List Addr)(n m:Nat)(H:Hp)(zs:List V)(R:Nat->Nat->Int):Prop:=zs.length=n/\zs.Nodup/\∀ p,p < n->∃ l,zs[p]?=some (.ref l)/\H l=some (.lst (dy m (R p)))/\l∉X
def FrZ(zs:List V)(lf:Addr)(H H':Hp):Prop:=∀ a o,a≠lf->V.ref a∉zs->H a=some o->H' a=some o
section
variable {zs:List V}{lf c r:Addr}{H H' H'':Hp}{n m:Nat}{R:Nat->Nat->Int}{Lf:Nat->Int}{xs:List V}{cs:List Cl}
theorem FrZ.of(s:ak H H'):FrZ zs lf H H':=fun a o _ _ e=>s a o e
theorem FrZ.trans(f:FrZ zs lf H H')(g:FrZ zs lf H' H''):FrZ zs lf H H'':=fun a o h1 h2 e=>g a o h1 h2 (f a o h1 h2 e)
theorem FrZ.row{l:Addr}(h:V.ref l∈zs)(f:Fr1 l H H'):FrZ zs lf H H':=fun a o _ h2 e=>f a o (fun z=>h2 (by rw[z];exact h)) e
theorem FrZ.left(f:Fr1 lf H H'):FrZ zs lf H H':=fun a o h1 _ e=>f a o h1 e
theorem FrZ.same(g:FrZ zs lf H' H'')(s:ak H H')(n1:H lf=none)(n2:∀ a,V.ref a∈zs->H a=none):ak H H'':=fun a o e=>g a o (fun z=>by rw[z,n1] at e;cases e) (fun z=>by rw[n2 a z] at e;cases e) (s a o e)
structure Tq(ac ar al:Addr)(xs:List V)(cs:List Cl)(zs:List V)(m:Nat)(R:Nat->Nat->Int)(Lf:Nat->Int)(H:Hp):Prop where
 c:H ac=some (.lst xs)
 hC:ClsAt H xs cs
 r:H ar=some (.lst zs)
 hR:IRw [ac,ar,al] cs.length m H zs R
 l:H al=some (.lst (dy m Lf))
 cr:ac≠ar
 cl:ac≠al
 rl:ar≠al
theorem Tq.same(x:Tq c r lf xs cs zs m R Lf H)(s:ak H H'):Tq c r lf xs cs zs m R Lf H' :=
 {x with c:=s _ _ x.c,hC:=x.hC.ts (TS.of s),r:=s _ _ x.r,l:=s _ _ x.l,hR:=⟨x.hR.1,x.hR.2.1,fun p hp=>by
   obtain⟨l,e,h,n⟩:=x.hR.2.2 p hp
   exact⟨l,e,s _ _ h,n⟩⟩ }
theorem Tq.putL{Lf':Nat->Int}(x:Tq c r lf xs cs zs m R Lf H)(f:Fr1 lf H H')(h:H' lf=some (.lst (dy m Lf'))):Tq c r lf xs cs zs m R Lf' H' :=
 {x with c:=f _ _ x.cl x.c,hC:=x.hC.ts (TS.frl x.l f),r:=f _ _ x.rl x.r,l:=h,hR:=⟨x.hR.1,x.hR.2.1,fun p hp=>by
   obtain⟨l,e,h,n⟩:=x.hR.2.2 p hp
   exact⟨l,e,f _ _ (fun z=>n (by rw[z];simp)) h,n⟩⟩ }
theorem Tq.GL{p f:Nat}{l:Addr}{v:Int}(x:Tq c r lf xs cs zs m R Lf H)(hp:p < cs.length)(e:zs[p]?=some (.ref l))(hl:H l=some (.lst (dy m (R p))))(nX:l∉[c,r,lf])(fr:Fr1 l H H')(h:H' l=some (.lst (dy m (up2 R p f v p)))):Tq c r lf xs cs zs m (up2 R p f v) Lf H':=by
 simp only[mem_cons,not_mem_nil,or_false,not_or] at nX
 obtain⟨n1,n2,n3⟩:=nX
 refine { x with c:=fr _ _ (Ne.symm n1) x.c,hC:=x.hC.ts (TS.frl hl fr),r:=fr _ _ (Ne.symm n2) x.r,l:=fr _ _ (Ne.symm n3) x.l,hR:=⟨x.hR.1,x.hR.2.1,fun q hq=>?_⟩ }
 by_cases e2:q=p
 ·subst e2
  exact⟨l,e,h,by simp[n1,n2,n3]⟩
 ·obtain⟨l2,k1,k2,k3⟩:=x.hR.2.2 q hq
  have ne:l2≠l:=fun z=>by
   subst z
   have li:q < zs.length:=(List.getElem?_eq_some_iff.mp k1).1
   exact e2 ((List.getElem?_inj li x.hR.2.1).mp (k1.trans e.symm))
  have er:dy m (up2 R p f v q)=dy m (R q):=qz fun k _=>dR fun z=>e2 z.1
  exact⟨l2,k1,by rw[er];exact fr _ _ ne k2,k3⟩
theorem Tq.row(x:Tq c r lf xs cs zs m R Lf H){p:Nat}(hp:p < cs.length):∃ l,atI zs (p:Int)=some (.ref l)/\H l=some (.lst (dy m (R p)))/\zs[p]?=some (.ref l)/\l∉[c,r,lf]/\V.ref l∈zs:=by
 obtain⟨l,e,h,n⟩:=x.hR.2.2 p hp
 exact⟨l,aQ e,h,e,n,mem_of_getElem? e⟩
theorem Tq.cl'(x:Tq c r lf xs cs zs m R Lf H){p:Nat}(hp:p < cs.length):∃ rc pc kc,atI xs (p:Int)=some (.ref rc)/\H rc=some (.tup [.ref pc,.ref kc,.int cs[p].rk])/\H kc=some (.tup ((aT cs p).map V.int)):=by
 obtain⟨v,ev,rc,pc,kc,rfl,e1,e2,e3⟩:=x.hC.2 p cs[p] (getElem?_eq_getElem hp)
 exact⟨rc,pc,kc,aQ ev,e1,by rw[fK hp];exact e3⟩
end
theorem cf.app{H:Hp}{vs ws:List V}{ps qs:List (Int×Int)}(h:cf H vs ps)(g:cf H ws qs):cf H (vs++ws) (ps++qs):=by
 refine⟨by rw[length_append,length_append,h.1,g.1],fun i p hp=>?_⟩
 by_cases hi:i < ps.length
 ·rw[getElem?_append_left hi] at hp
  rw[getElem?_append_left (by rw[h.1];exact hi)]
  exact h.2 i p hp
 ·rw[getElem?_append_right (by omega)] at hp
  rw[getElem?_append_right (by rw[h.1];omega),h.1]
  exact g.2 _ p hp
abbrev ic(s:Nat×Nat):Int×Int:=((s.1:Int),(s.2:Int))
theorem mq{H:Hp}{ts:List V}{ch:List (Nat×Nat)}{i:Nat}(h:cf H ts (ch.map ic))(hi:i < ch.length):∃ q,ts[i]?=some (.ref q)/\atI ts (i:Int)=some (.ref q)/\H q=some (.tup [.int (cP ch i:Int),.int (cF ch i:Int)]):=by
 obtain⟨q,e,hq⟩:=h.2 i (ic ch[i]) (by rw[getElem?_map,getElem?_eq_getElem hi];rfl)
 have e2:ch.getD i (0,0)=ch[i]:=by simp[getD_eq_getElem?_getD,hi]
 exact⟨q,e,aQ e,by show H q=some (.tup [.int ((ch.getD i (0,0)).1:Int),.int ((ch.getD i (0,0)).2:Int)]);rw[e2];exact hq⟩
def la(H:Hp)(vs:List V)(dB:List (List (Nat×Nat))):Prop:=vs.length=dB.length/\∀(i:Nat) ch,dB[i]?=some ch->∃ q ts,vs[i]?=some (.ref q)/\H q=some (.tup ts)/\cf H ts (ch.map ic)
theorem la.ts{H H':Hp}{vs:List V}{dB:List (List (Nat×Nat))}(h:la H vs dB)(s:TS H H'):la H' vs dB:=⟨h.1,fun i ch hc=>by
 obtain⟨q,ts,e,h1,h2⟩:=h.2 i ch hc
 exact⟨q,ts,e,s _ _ h1,h2.ts s⟩⟩
theorem la.snoc{H:Hp}{vs ts:List V}{dB:List (List (Nat×Nat))}{ch:List (Nat×Nat)}{q:Addr}(h:la H vs dB)(h1:H q=some (.tup ts))(h2:cf H ts (ch.map ic)):la H (vs++[.ref q]) (dB++[ch]):=by
 refine⟨by rw[length_append,length_append,h.1];rfl,fun i p hp=>?_⟩
 by_cases hi:i < dB.length
 ·rw[getElem?_append_left hi] at hp
  rw[getElem?_append_left (by rw[h.1];exact hi)]
  exact h.2 i p hp
 ·have hl:=(List.getElem?_eq_some_iff.mp hp).1
  rw[length_append] at hl
  have e:i=dB.length:=by
   have:([ch]:List (List (Nat×Nat))).length=1:=rfl
   omega
  subst e
  rw[getElem?_append_right (le_refl _),sub_self] at hp
  cases hp
  exact⟨q,ts,by rw[getElem?_append_right (by rw[h.1];exact le_refl _),h.1,sub_self];rfl,h1,h2⟩
theorem wo{xs:List V}{v:V}(h:0 < xs.length)(e:xs[xs.length - 1]?=some v):atI xs (-1)=some v:=by
 unfold atI ixN
 rw[if_neg (by decide),if_pos (by omega),show ((-1:Int)+(xs.length:Int)).toNat=xs.length - 1 by omega]
 exact e
theorem LQ{xs:List V}(h:0 < xs.length):lA xs (some 1) none=xs.drop 1:=by
 have e1:HT.sIx xs.length 0 (some 1)=1:=by
  unfold HT.sIx
  simp
  omega
 have e2:HT.sIx xs.length xs.length none=xs.length:=by
  unfold HT.sIx
  simp
 unfold lA
 rw[e1,e2]
 exact List.take_of_length_le (by rw[length_drop];exact le_refl _)
def m9(n m:Nat)(V:Int)(R:Nat->Nat->Int):List (List (Int×Int)):=(range n).map fun p=>(range m).map fun f=>low (R p f) V
theorem mV{α:Type}{n i:Nat}{g:Nat->α}{d:α}(h:i < n):((range n).map g).getD i d=g i:=by
 rw[getD_eq_getElem?_getD,getElem?_map,getElem?_range h]
 rfl
theorem BA{V:Int}(hV:0 < V):low 0 V=(0,1):=by
 have h:=jH (n:=0) hV
 have hc:=kU (n:=0) hV
 have hp:=gg (n:=0) hV
 have h1:(low 0 V).1=0:=by
  rw[zero_mul] at h
  rcases Int.mul_eq_zero.mp h with z | z
  ·exact z
  ·omega
 rw[h1,Int.gcd_zero_left] at hc
 exact Prod.ext h1 (by show (low 0 V).2=1;omega)
theorem yP{V:Int}(hV:0 < V)(n:Nat)(g:Nat->Int):Ok V (bN ((range n).map fun f=>low (g f) V))/\num V (bN ((range n).map fun f=>low (g f) V))=sm n g:=by
 obtain⟨a,b⟩:=nD hV (l:=(range n).map fun f=>low (g f) V) fun p hp=>by
  obtain⟨i,_,rfl⟩:=mem_map.mp hp
  exact qq hV
 refine⟨a,?_⟩
 rw[b,map_map,<- yL]
 congr 1
 exact map_congr_left fun i _=>oJ hV
theorem B5{V:Int}{ws:List Int}{cs:List Cl}{ps:List (Int×Int)}{R:Nat->Nat->Int}{Lf:Nat->Int}(hV:0 < V)(fl:Flo cs.length ws.length R Lf (aT cs) fun f=>ws.getD f 0*V)(ok:∀ i,i < cs.length->Ok V (ps.getD i (0,1)))(hr:∀ p,p < cs.length->sm ws.length (R p)=num V (ps.getD p (0,1))):A3 ws cs ps (m9 cs.length ws.length V R):=by
 refine⟨by unfold m9;rw[length_map,length_range],fun i hi=>?_,fun f hf=>?_⟩
 ·have e:(m9 cs.length ws.length V R).getD i []=(range ws.length).map fun f=>low (R i f) V:=mV hi
  rw[e]
  obtain⟨s1,s2⟩:=yP hV ws.length (R i)
  refine⟨by rw[length_map,length_range],tP hV s1 (ok i hi) (by rw[s2,hr i hi]),fun k hk=>?_⟩
  rw[length_map,length_range] at hk
  rw[mV hk]
  have h0:=fl.nn i k hi hk
  refine⟨CC hV h0,?_⟩
  by_cases z:R i k=0
  ·rw[z]
   exact .inl (BA hV)
  ·exact .inr (fl.out i k hi hk z)
 ·have e:mP (m9 cs.length ws.length V R) f=(range cs.length).map fun p=>low (R p f) V:=by
   unfold mP m9
   rw[map_map]
   exact map_congr_left fun p _=>mV hf
  rw[e]
  obtain⟨s1,s2⟩:=yP hV cs.length fun p=>R p f
  have c:=fl.col f hf
  have l0:=fl.ln f hf
  have e2:=num_mul s1
  rw[s2] at e2
  generalize bN ((range cs.length).map fun p=>low (R p f) V)=S at s1 e2
  generalize (sm cs.length fun p=>R p f)=T at c e2
  have up:=s1.pos
  have h:T*S.2<=ws.getD f 0*V*S.2:=mul_le_mul_of_nonneg_right (by omega) (le_of_lt up)
  rw[mul_one]
  intro z
  have h2:=Int.mul_lt_mul_of_pos_right z hV
  rw[mul_right_comm] at h2
  omega
theorem Bi{V:Int}{ws:List Int}{cs:List Cl}{ps:List (Int×Int)}(w6:ws.length<=6)(hb:∀ p,p < cs.length->∀ x∈aT cs p,0<=x/\x < (ws.length:Int))(room:∀ j,j < 2 ^ ws.length->eQ V cs ps j<=aZ ws (Srt.sub j)*V)(S:Nat->Bool):¬ (sm ws.length fun f=>if S f=true then ws.getD f 0*V else 0) < sm cs.length fun p=>if (aT cs p).all (fun x=>S x.toNat)=true then num V (ps.getD p (0,1)) else 0:=by
 obtain⟨j,hj,h⟩:=mask S ws.length
 have r:=room j hj
 unfold eQ at r
 rw[vT w6,yL,yL,<- AX] at r
 have e1:(sm ws.length fun b=>(if j.testBit b=true then ws.getD b 0 else 0)*V)=sm ws.length fun f=>if S f=true then ws.getD f 0*V else 0:=dE fun i hi=>by
  rw[h i hi]
  cases S i with
  | true=>rw[if_pos rfl,if_pos rfl]
  | false=>rw[if_neg Bool.false_ne_true,if_neg Bool.false_ne_true,zero_mul]
 have e2:(sm cs.length fun i=>if inn cs (Srt.sub j) i=true then num V (ps.getD i (0,1)) else 0)=sm cs.length fun p=>if (aT cs p).all (fun x=>S x.toNat)=true then num V (ps.getD p (0,1)) else 0:=dE fun i hi=>by
  have:inn cs (Srt.sub j) i=(aT cs i).all fun x=>S x.toNat:=by
   rw[Bool.eq_iff_iff,Cj w6 (hb i hi),all_eq_true]
   refine⟨fun k x hx=>?_,fun k x hx=>?_⟩
   ·have b:=hb i hi x hx
    rw[<- h _ (by omega)]
    exact k x hx
   ·have b:=hb i hi x hx
    rw[h _ (by omega)]
    exact k x hx
  rw[this]
 rw[e1,e2] at r
 omega
def RsU(U:Int)(k:Nat)(H:Hp)(zs:List V)(aU:List (List (Int×Int))):Prop:=zs.length=aU.length/\∀(i:Nat) r,aU[i]?=some r->∃ l xs,zs[i]?=some (.ref l)/\H l=some (.lst xs)/\bL U k H xs r/\r.length<=12
theorem RsU.same{U:Int}{k:Nat}{H H':Hp}{zs:List V}{aU:List (List (Int×Int))}(h:RsU U k H zs aU)(s:ak H H'):RsU U k H' zs aU:=⟨h.1,fun i r hr=>by
 obtain⟨l,xs,e,h1,h2,h3⟩:=h.2 i r hr
 exact⟨l,xs,e,s _ _ h1,h2.ts (TS.of s),h3⟩⟩
theorem RsU.put{U:Int}{k:Nat}{H:Hp}{zs:List V}{aU:List (List (Int×Int))}{l:Addr}{o as:List V}(h:RsU U k H zs aU)(hl:H l=some (.lst as))(n:V.ref l∉zs):RsU U k (upd H l (.lst o)) zs aU:=⟨h.1,fun i r hr=>by
 obtain⟨l2,xs,e,h1,h2,h3⟩:=h.2 i r hr
 exact⟨l2,xs,e,by rw[ax (fun z=>n (by rw[<- z];exact mem_of_getElem? e))];exact h1,h2.ts (TS.lst hl),h3⟩⟩
theorem RsU.snoc{U:Int}{k:Nat}{H:Hp}{zs:List V}{aU:List (List (Int×Int))}{q:Addr}{as:List V}{r:List (Int×Int)}(h:RsU U k H zs aU)(hq:H q=some (.lst as))(hA:bL U k H as r)(GZ:r.length<=12):RsU U k H (zs++[.ref q]) (aU++[r]):=by
 refine⟨by rw[length_append,length_append,h.1];rfl,fun i p hp=>?_⟩
 by_cases hi:i < aU.length
 ·rw[getElem?_append_left hi] at hp
  rw[getElem?_append_left (by rw[h.1];exact hi)]
  exact h.2 i p hp
 ·have hl:=(List.getElem?_eq_some_iff.mp hp).1
  rw[length_append] at hl
  have e:i=aU.length:=by
   have:([r]:List (List (Int×Int))).length=1:=rfl
   omega
  subst e
  rw[getElem?_append_right (le_refl _),sub_self] at hp
  cases hp
  exact⟨q,as,by rw[getElem?_append_right (by rw[h.1];exact le_refl _),h.1,sub_self];rfl,hq,hA,GZ⟩
theorem sE.BM{H:Hp}{zs:List V}{js:List Nat}(h:sE H zs js):bM H (js.map fun i=>Dt.tup ((Srt.sub i).map Dt.int)) zs:=by
 obtain⟨ts,rfl,ht⟩:=h
 induction js with
 | nil=>exact so
 | cons j js ih=>exact pO (oR (ht j mem_cons_self) (kM _)) (ih fun i hi=>ht i (mem_cons_of_mem _ hi))
theorem vV{U V:Int}{ws:List Int}{cs:List Cl}{ps:List (Int×Int)}(f:Fit U ws cs ps)(hV:0 < V)(ok:∀ i,i < cs.length->Ok V (ps.getD i (0,1)))(j:Nat)(hj:j < 2 ^ ws.length):eQ V cs ps j<=aZ ws (Srt.sub j)*V:=by
 have e:=E5 (j:=j) f.ok ok
 have h:=mul_le_mul_of_nonneg_right (f.room j hj) (le_of_lt hV)
 rw[e,mul_right_comm] at h
 exact le_of_mul_le_mul_right h f.vp
abbrev dj:Sp:=fun vs H Q _=>∃ n u:Int,vs=[.int n,.int u]/\0 < u/\Q (.int (gcd n u)) H
inductive iR (K:PySem.W.Frag) (cx:Str->Addr) (vs:List V) (H:Hp) (Q:VK) (E:XK):Prop
 | mk:∀ n u:Int,(vs=[.int n,.int u])->(Sz 9000 u)->((u < 1->E (.ref (cx "BadPart")) none H))->((0 < u->∀ p,H p=none->Q (.ref p) (upd H p (.tup [.int (n / (gcd n u:Int)),.int (u / (gcd n u:Int))]))))->iR K cx vs H Q E
inductive qu (vs:List V) (H:Hp) (Q:VK) (E:XK):Prop
 | mk:∀ p q n1 u1 n2 u2,(vs=[.ref p,.ref q])->(H p=some (.tup [.int n1,.int u1]))->(H q=some (.tup [.int n2,.int u2]))->(Sz 20000 n1)->(Sz 20000 u1)->(Sz 20000 n2)->(Sz 20000 u2)->(Q (.bl (decide (n1*u2 < n2*u1))) H)->qu vs H Q E
inductive fX (vs:List V) (H:Hp) (Q:VK) (E:XK):Prop
 | mk:∀ L xs ps U k,(vs=[.ref L])->(H L=some (.lst xs))->(UOk U)->(bL U k H xs ps)->(k<=8000)->(ps.length<=16)->(Q (.int (bS ps)) H)->fX vs H Q E
inductive dO (vs:List V) (H:Hp) (Q:VK) (E:XK):Prop
 | mk:∀ L U xs ps V0 k,(vs=[.ref L,.int U])->(H L=some (.lst xs))->(UOk V0)->(bL V0 k H xs ps)->(k<=8000)->(ps.length<=16)->(Sz 4000 U)->(∀ l,H l=none->Q (.ref l) (upd H l (.lst ((dD U ps).map V.int))))->dO vs H Q E
inductive qK (vs:List V) (H:Hp) (Q:VK) (E:XK):Prop
 | mk:∀ m:Nat,(vs=[.int (m:Int)])->(m<=6)->(∀ F xs H',ak H H'->H F=none->H' F=some (.lst xs)->vG H' xs (2 ^ m)->Q (.ref F) H')->qK vs H Q E
inductive kQ (vs:List V) (H:Hp) (Q:VK) (E:XK):Prop
 | mk:∀ t h ts hs,(vs=[.ref t,.ref h])->(H t=some (.tup (ts.map V.int)))->(H h=some (.tup (hs.map V.int)))->(ts.length<=6)->(∀ H',ak H H'->Q (.bl (lies ts hs)) H')->kQ vs H Q E
inductive ie (vs:List V) (H:Hp) (Q:VK) (E:XK):Prop
 | mk:∀ w h ws hs,(vs=[.ref w,.ref h])->(H w=some (.lst (ws.map V.int)))->(H h=some (.tup (hs.map V.int)))->(hs.length<=6)->((∀ x∈hs,0<=x/\x < ws.length))->(∀ H',ak H H'->Q (.int (aZ ws hs)) H')->ie vs H Q E
inductive j6 (K:PySem.W.Frag) (cx:Str->Addr) (vs:List V) (H:Hp) (Q:VK) (E:XK):Prop
 | mk:∀ a ns,(vs=[.ref a])->(SqL K H a (List.map V.int ns))->(ns.length<=63)->(∀ B L H',ak H H'->H B=none->br H' B L->Q (.ref B) H')->j6 K cx vs H Q E
inductive bP (vs:List V) (H:Hp) (Q:VK) (E:XK):Prop
 | mk:∀ B m L,(vs=[.ref B,.int m])->(br H B L)->(0 < m)->(Sz 9000 m)->(∀ d H',0<=d->d < m->br H' B L->Fr1 B H H'->Q (.int d) H')->bP vs H Q E
abbrev gW:Sp:=fun vs H Q _=>∃ n u:Int,vs=[.int n,.int u]/\Q (.int (gcd n u)) H
inductive d7 (vs:List V) (H:Hp) (Q:VK) (E:XK):Prop
 | mk:∀ n u:Int,(vs=[.int n,.int u])->(0 < u)->(Sz 9000 u)->(∀ p,H p=none->Q (.ref p) (upd H p (.tup [.int (kg n u),.int (jI n u)])))->d7 vs H Q E
inductive fV (vs:List V) (H:Hp) (Q:VK) (E:XK):Prop
 | mk:∀ p q n1 u1 n2 u2,(vs=[.ref p,.ref q])->(H p=some (.tup [.int n1,.int u1]))->(H q=some (.tup [.int n2,.int u2]))->(0 < u1)->(0 < u2)->(Sz 20000 n1)->(Sz 4400 u1)->(Sz 20000 n2)->(Sz 4400 u2)->(∀ r,H r=none->Q (.ref r) (upd H r (.tup [.int (kg (n1*u2+n2*u1) (u1*u2)),.int (jI (n1*u2+n2*u1) (u1*u2))])))->fV vs H Q E
inductive cN (vs:List V) (H:Hp) (Q:VK) (E:XK):Prop
 | mk:∀ p q n1 u1 n2 u2,(vs=[.ref p,.ref q])->(H p=some (.tup [.int n1,.int u1]))->(H q=some (.tup [.int n2,.int u2]))->(Sz 20000 n1)->(Sz 20000 u1)->(Sz 20000 n2)->(Sz 20000 u2)->(Q (.bl (decide (n1*u2 < n2*u1))) H)->cN vs H Q E
inductive c3 (vs:List V) (H:Hp) (Q:VK) (E:XK):Prop
 | mk:∀ L xs ps U k,(vs=[.ref L])->(H L=some (.lst xs))->(UOk U)->(bL U k H xs ps)->(k<=8000)->(ps.length<=16)->(∀ r H',ak H H'->H' r=some (.tup [.int (bN ps).1,.int (bN ps).2])->Q (.ref r) H')->c3 vs H Q E
abbrev iD:Sp:=fun vs H Q _=>∃ n:Int,vs=[.int n]/\Q (.bl true) H
inductive fU (vs:List V) (H:Hp) (Q:VK) (E:XK):Prop
 | mk:∀ B L,(vs=[.ref B])->(br H B L)->(∀ m H',0<=m->m<=6->br H' B L->Fr1 B H H'->Q (.int m) H')->fU vs H Q E
inductive i7 (vs:List V) (H:Hp) (Q:VK) (E:XK):Prop
 | mk:∀ B m L,(vs=[.ref B,.int m])->(br H B L)->(0<=m)->(m<=6)->(∀(t:Addr)(hs:List Int)(H':Hp),H t=none->br H' B L->Fr1 B H H'->H' t=some (.tup (hs.map V.int))->hs.length<=6->(∀ x∈hs,0<=x/\x < m)->Q (.ref t) H')->i7 vs H Q E
inductive kn (vs:List V) (H:Hp) (Q:VK) (E:XK):Prop
 | mk:∀ B s L,(vs=[.ref B,.int s])->(br H B L)->(0<=s)->(s<=1000000000)->(∀ p n u H',H p=none->br H' B L->Fr1 B H H'->H' p=some (.tup [.int n,.int u])->Du UM 115 n u->Q (.ref p) H')->kn vs H Q E
abbrev i5:Sp:=fun vs H Q _=>∃ p n u,vs=[.ref p]/\H p=some (.tup [.int n,.int u])/\0 < u/\Sz 9000 u/\Q (.int (-(-n / u))) H
inductive jc (vs:List V) (H:Hp) (Q:VK) (E:XK):Prop
 | mk:∀ p q n1 u1 n2 u2,(vs=[.ref p,.ref q])->(H p=some (.tup [.int n1,.int u1]))->(H q=some (.tup [.int n2,.int u2]))->(0 < u1)->(0 < n2)->(Sz 20000 n1)->(Sz 4000 u1)->(Sz 4800 n2)->(Sz 20000 u2)->(∀ r,H r=none->Q (.ref r) (upd H r (.tup [.int (kg (n1*u2) (u1*n2)),.int (jI (n1*u2) (u1*n2))])))->jc vs H Q E
inductive fu (vs:List V) (H:Hp) (Q:VK) (E:XK):Prop
 | mk:∀ m:Nat,(vs=[.int (m:Int)])->(m<=6)->(∀ F xs H',ak H H'->H F=none->H' F=some (.lst xs)->oY H' xs (2 ^ m)->Q (.ref F) H')->fu vs H Q E
inductive fT (vs:List V) (H:Hp) (Q:VK) (E:XK):Prop
 | mk:∀ t h ts hs,(vs=[.ref t,.ref h])->(H t=some (.tup (ts.map V.int)))->(H h=some (.tup (hs.map V.int)))->(ts.length<=6)->(∀ H',ak H H'->Q (.bl (lies ts hs)) H')->fT vs H Q E
inductive fE (vs:List V) (H:Hp) (Q:VK) (E:XK):Prop
 | mk:∀ w h ws hs,(vs=[.ref w,.ref h])->(H w=some (.lst (ws.map V.int)))->(H h=some (.tup (hs.map V.int)))->(hs.length<=6)->((∀ x∈hs,0<=x/\x < ws.length))->(∀ H',ak H H'->Q (.int (aZ ws hs)) H')->fE vs H Q E
inductive nR (vs:List V) (H:Hp) (Q:VK) (E:XK):Prop
 | mk:∀ w c p pl U k ws xs cs ys ps q,(vs=[.ref w,.ref c,.ref p,.ref pl])->(mx U k w c p pl ws xs cs ys ps q H)->(∀ F zP H',ak H H'->H F=none->H' F=some (.lst zP)->iN H' zP (gQ (RB ws cs ps q) (DB cs ps q) (dg (2 ^ ws.length)))->Q (.ref F) H')->nR vs H Q E
inductive ir (vs:List V) (H:Hp) (Q:VK) (E:XK):Prop
 | mk:∀ F xs fs,(vs=[.ref F])->(H F=some (.lst xs))->(iN H xs fs)->(Ji fs)->(∀ r H',ak H H'->H' r=some (.tup [.int (low (dF fs).1 (dF fs).2).1,.int (low (dF fs).1 (dF fs).2).2])->Q (.ref r) H')->ir vs H Q E
inductive ug (vs:List V) (H:Hp) (Q:VK) (E:XK):Prop
 | mk:∀ w c p pl U k ws xs cs ys ps q,(vs=[.ref w,.ref c,.ref p,.ref pl])->(mx U k w c p pl ws xs cs ys ps q H)->(∀ T r F lv H',ak H H'->H' T=some (.tup [.ref r,.ref F])->H' r=some (.tup [.int lv.1,.int lv.2])->H F=none->H' F=some (.lst (plV cs.length (cJ (fun i=>bE U ws cs ps q (Srt.sub i)) (fun i=>b_ U cs q (Srt.sub i)) (2 ^ ws.length) lv cs q)))->Lvl (fun i=>bE U ws cs ps q (Srt.sub i)) (fun i=>b_ U cs q (Srt.sub i)) (2 ^ ws.length) lv->Q (.ref T) H')->ug vs H Q E
inductive qC (vs:List V) (H:Hp) (Q:VK) (E:XK):Prop
 | mk:∀ p q n1 u1 n2 u2,(vs=[.ref p,.ref q])->(H p=some (.tup [.int n1,.int u1]))->(H q=some (.tup [.int n2,.int u2]))->(0 < u1)->(0 < u2)->(Sz 20000 n1)->(Sz 4400 u1)->(Sz 20000 n2)->(Sz 4400 u2)->(∀ r,H r=none->Q (.ref r) (upd H r (.tup [.int (kg (n1*n2) (u1*u2)),.int (jI (n1*n2) (u1*u2))])))->qC vs H Q E
inductive nM (vs:List V) (H:Hp) (Q:VK) (E:XK):Prop
 | mk:∀ w c p pl U0 r U ws xs cs ys ps q,(vs=[.ref w,.ref c,.ref p,.ref pl])->(Dq w c p pl ws xs cs ys ps q H)->(FC U0 ws cs)->(FI U0 ws cs r U ps q)->(r+(plL cs.length q).length<=19)->(∀ F u3 H',ak H H'->H F=none->H' F=some (.lst u3)->cf H' u3 (bH ws cs (plL cs.length q).length ps q)->Q (.ref F) H')->nM vs H Q E
inductive iW (vs:List V) (H:Hp) (Q:VK) (E:XK):Prop
 | mk:∀ p n u,(vs=[.ref p])->(H p=some (.tup [.int n,.int u]))->(0 < u)->(gcd n u=1)->(Sz 9000 u)->(Q (.bl true) H)->iW vs H Q E
inductive fG (vs:List V) (H:Hp) (Q:VK) (E:XK):Prop
 | mk:∀ F ys,∀ ps:List (Int×Int),∀ m:Nat,(vs=[.ref F,.int (m:Int)])->(H F=some (.lst ys))->(cf H ys ps)->(ps.length<=16)->((∀ i,i < ps.length->0 < (ps.getD i (0,1)).2/\gcd (ps.getD i (0,1)).1 (ps.getD i (0,1)).2=1/\Sz 9000 (ps.getD i (0,1)).2))->(∀ H',ak H H'->Q (.bl (decide (ps.length=m))) H')->fG vs H Q E
inductive m8 (vs:List V) (H:Hp) (Q:VK) (E:XK):Prop
 | mk:∀ w c U0 ws xs cs,(vs=[.ref w,.ref c])->(k9 w c ws xs cs H)->(FC U0 ws cs)->((∀ x∈ws,0<=x))->(∀ F ys zs H',ak H H'->H F=none->H' F=some (.lst ys)->DH cs zs->cf H' ys (bp ws cs zs (cw cs))->Q (.ref F) H')->m8 vs H Q E
inductive gL (vs:List V) (H:Hp) (Q:VK) (E:XK):Prop
 | mk:∀ B m L,(vs=[.ref B,.int m])->(br H B L)->(0<=m)->(m<=6)->(∀(w:Addr)(ws:List Int)(H':Hp),H w=none->br H' B L->Fr1 B H H'->H' w=some (.lst (ws.map V.int))->(ws.length:Int)=m->(∀ x∈ws,0<=x/\Sz 50 x)->Q (.ref w) H')->gL vs H Q E
inductive gM (vs:List V) (H:Hp) (Q:VK) (E:XK):Prop
 | mk:∀ w c U0 ws xs cs,(vs=[.ref w,.ref c])->(k9 w c ws xs cs H)->(FC U0 ws cs)->((∀ x∈ws,0<=x))->(∀ F ys zs U r H',ak H H'->H F=none->H' F=some (.lst ys)->DH cs zs->cf H' ys (bp ws cs zs (cw cs))->FI U0 ws cs r U (bp ws cs zs (cw cs)) q0->r<=16->Q (.ref F) H')->gM vs H Q E
inductive gy (vs:List V) (H:Hp) (Q:VK) (E:XK):Prop
 | mk:∀ B L,(vs=[.ref B])->(br H B L)->(∀ T W C P Z ws xs cs ys ps zs aU H',Tf H B L W C P Z ws xs cs ys ps zs aU H'->H' T=some (.tup [.ref W,.ref C,.ref P,.ref Z])->Q (.ref T) H')->gy vs H Q E
inductive jn (vs:List V) (H:Hp) (Q:VK) (E:XK):Prop
 | mk:∀ B L,(vs=[.ref B])->(br H B L)->(∀ T W C ws xs cs H',Cas H B L W C ws xs cs H'->H' T=some (.tup [.ref W,.ref C])->Q (.ref T) H')->jn vs H Q E
inductive eF (vs:List V) (H:Hp) (Q:VK) (E:XK):Prop
 | mk:∀ B m L,(vs=[.ref B,.int m])->(br H B L)->(0<=m)->(m<=6)->(∀ F xs cs H',H F=none->br H' B L->Fr1 B H H'->H' F=some (.lst xs)->ClsAt H' xs cs->cs.length<=16->(∀ c∈cs,nJ UM 115 m c)->Q (.ref F) H')->eF vs H Q E
inductive iw (vs:List V) (H:Hp) (Q:VK) (E:XK):Prop
 | mk:∀ c p M ws xs cs ys ps,∀ a:Nat,(vs=[.ref c,.ref p,.int (a:Int)])->(H c=some (.lst xs))->(ClsAt H xs cs)->(FC UM ws cs)->(a < cs.length)->(H p=some (.lst ys))->(cf H ys ps)->(ps.length=cs.length)->((∀ i,i < cs.length->dS M 3700 (ps.getD i (0,1))))->(UOk M)->(∀ F H',ak H H'->H' F=some (.lst (((range cs.length).filter (k7 cs ps a)).map fun i:Nat=>V.int (i:Int)))->Q (.ref F) H')->iw vs H Q E
inductive gK (vs:List V) (H:Hp) (Q:VK) (E:XK):Prop
 | mk:∀ w c p M ws xs cs ys ps,∀ a:Nat,(vs=[.ref w,.ref c,.ref p,.int (a:Int)])->(k9 w c ws xs cs H)->(FC UM ws cs)->(a < cs.length)->(H p=some (.lst ys))->(cf H ys ps)->(ps.length=cs.length)->(Btw M cs ps)->((∀ i,i < cs.length->dS M 3700 (ps.getD i (0,1))))->(UOk M)->(∀ F zs H',ak H H'->H' F=some (.lst zs)->sE H' zs (BC M ws cs ps a)->Q (.ref F) H')->gK vs H Q E
inductive iY (vs:List V) (H:Hp) (Q:VK) (E:XK):Prop
 | mk:∀ p q d e,(vs=[.ref p,.ref q])->(H p=some (.tup [.int (d:Int×Int).1,.int d.2]))->(H q=some (.tup [.int (e:Int×Int).1,.int e.2]))->(0<=d.1)->(0 < e.2)->(Sz 4800 d.1)->(Sz 20000 d.2)->(Sz 20000 e.1)->(Sz 4000 e.2)->(∀ t H',ak H H'->H' t=some (.tup [.int (j5 d e).1,.int (j5 d e).2])->Q (.ref t) H')->iY vs H Q E
inductive jx (vs:List V) (H:Hp) (Q:VK) (E:XK):Prop
 | mk:∀ c p h U k xs cs ys ps hs,(vs=[.ref c,.ref p,.ref h])->(H c=some (.lst xs))->(ClsAt H xs cs)->((∀ c∈cs,c.hp.length<=6))->(cs.length<=16)->(H p=some (.lst ys))->(UOk U)->(k<=8000)->(bL U k H ys ps)->(ps.length=cs.length)->(H h=some (.tup (hs.map V.int)))->(∀ r d H',ak H H'->H' r=some (.tup [.int (d:Int×Int).1,.int d.2])->dS U (k+16) d->num U d=(((range cs.length).filter (inn cs hs)).map fun i=>num U (ps.getD i (0,1))).sum->Q (.ref r) H')->jx vs H Q E
inductive fm (vs:List V) (H:Hp) (Q:VK) (E:XK):Prop
 | mk:∀(c t p r pd:Addr)(rk:Int)(ts:List Int)(part:Int×Int)(xs:List V) (row:List (Int×Int)) (k:Nat) (U:Int),(vs=[.ref c,.ref p,.ref r])->(H c=some (.tup [.ref pd,.ref t,.int rk]))->(H t=some (.tup (ts.map V.int)))->(H p=some (.tup [.int part.1,.int part.2]))->(H r=some (.lst xs))->(bL U k H xs row)->(UOk U)->(k<=8000)->(row.length<=12)->(∀ b H',ak H H'->(b=true↔yy row.length ts part row)->Q (.bl b) H')->fm vs H Q E
inductive dP (vs:List V) (H:Hp) (Q:VK) (E:XK):Prop
 | mk:∀ w c p z ws xs cs ys ps zs aU,∀ k:Nat,∀ U:Int,(vs=[.ref w,.ref c,.ref p,.ref z])->(k9 w c ws xs cs H)->(H p=some (.lst ys))->(cf H ys ps)->(ps.length=cs.length)->(H z=some (.lst zs))->(RsU U k H zs aU)->(UOk U)->(k<=8000)->(cs.length<=16)->(ws.length<=6)->((∀ x∈ws,Sz 900 x))->(∀ b H',ak H H'->(b=true↔A3 ws cs ps aU)->Q (.bl b) H')->dP vs H Q E
inductive iC (vs:List V) (H:Hp) (Q:VK) (E:XK):Prop
 | mk:∀(ac ar al:Addr)(xs:List V)(cs:List Cl)(zs:List V)(m:Nat)(R:Nat->Nat->Int)(Lf:Nat->Int)(f:Nat),(vs=[.ref ac,.ref ar,.int (f:Int)])->(Tq ac ar al xs cs zs m R Lf H)->(f < m)->(cs.length<=16)->((∀ p,p < cs.length->(aT cs p).length<=6/\∀ x∈aT cs p,0<=x/\x < (m:Int)))->(∀ F vs (ms:List (Nat×Nat)) H',ak H H'->H F=none->H' F=some (.lst vs)->cf H' vs (ms.map ic)->(∀ s∈ms,s.1 < cs.length/\0 < R s.1 f/\(s.2:Int)∈aT cs s.1)->(∀ p,p < cs.length->0 < R p f->∀ x∈aT cs p,(p,x.toNat)∈ms)->Q (.ref F) H')->iC vs H Q E
inductive ix (vs:List V) (H:Hp) (Q:VK) (E:XK):Prop
 | mk:∀(ac ar al:Addr)(xs:List V)(cs:List Cl)(zs:List V)(m:Nat)(R:Nat->Nat->Int)(Lf:Nat->Int)(place:Nat)(q:Addr)(ts:List V) (ch:List (Nat×Nat)),(vs=[.ref ar,.ref al,.ref q])->(Tq ac ar al xs cs zs m R Lf H)->(H q=some (.tup ts))->(cf H ts (ch.map ic))->(Chn cs.length m R (aT cs) place ch)->(∀ a H',ak H H'->a<=Lf (cF ch (ch.length - 1))->(∀ i,i+1 < ch.length->a<=R (cP ch (i+1)) (cF ch i))->(0 < Lf (cF ch (ch.length - 1))->0 < a)->Q (.int a) H')->ix vs H Q E
inductive iF (vs:List V) (H:Hp) (Q:VK) (E:XK):Prop
 | mk:∀(ac ar al:Addr)(xs:List V)(cs:List Cl)(zs:List V)(m:Nat)(R:Nat->Nat->Int)(Lf:Nat->Int)(place:Nat)(q:Addr)(ts:List V) (ch:List (Nat×Nat)) (a:Int) (cap:Nat->Int),(vs=[.ref ar,.ref al,.ref q,.int a])->(Tq ac ar al xs cs zs m R Lf H)->(H q=some (.tup ts))->(cf H ts (ch.map ic))->(Chn cs.length m R (aT cs) place ch)->(Flo cs.length m R Lf (aT cs) cap)->(0<=a)->(a<=Lf (cF ch (ch.length - 1)))->((∀ i,i+1 < ch.length->a<=R (cP ch (i+1)) (cF ch i)))->(∀ R' Lf' H',Tq ac ar al xs cs zs m R' Lf' H'->Flo cs.length m R' Lf' (aT cs) cap->(∀ p,p < cs.length->sm m (R' p)=sm m (R p)+if p=place then a else 0)->FrZ zs al H H'->Q .non H')->iF vs H Q E
inductive ef (vs:List V) (H:Hp) (Q:VK) (E:XK):Prop
 | mk:∀(ac ar al:Addr)(xs:List V)(cs:List Cl)(zs:List V)(m:Nat)(R:Nat->Nat->Int)(Lf:Nat->Int)(place:Nat),(vs=[.ref ac,.ref ar,.ref al,.int (place:Int)])->(Tq ac ar al xs cs zs m R Lf H)->(place < cs.length)->(cs.length<=16)->(m<=6)->((∀ p,p < cs.length->(aT cs p).length<=6/\∀ x∈aT cs p,0<=x/\x < (m:Int)))->((∀ S:Nat->Bool,(∀ f,f < m->S f=true->Lf f<=0)->(∀ p f,p < cs.length->f < m->S f=true->0 < R p f->∀ x∈aT cs p,S x.toNat=true)->(∀ x∈aT cs place,S x.toNat=true)->False))->(∀ q ts ch H',ak H H'->H' q=some (.tup ts)->cf H' ts (ch.map ic)->Chn cs.length m R (aT cs) place ch->0 < Lf (cF ch (ch.length - 1))->Q (.ref q) H')->ef vs H Q E
inductive xF (vs:List V) (H:Hp) (Q:VK) (E:XK):Prop
 | mk:∀(ac ar al:Addr)(xs:List V)(cs:List Cl)(zs:List V)(m:Nat)(R:Nat->Nat->Int)(Lf:Nat->Int)(place:Nat)(number:Int)(cap nm:Nat->Int),(vs=[.ref ac,.ref ar,.ref al,.int (place:Int),.int number])->(Tq ac ar al xs cs zs m R Lf H)->(Flo cs.length m R Lf (aT cs) cap)->(place < cs.length)->(cs.length<=16)->(m<=6)->((∀ p,p < cs.length->(aT cs p).length<=6/\∀ x∈aT cs p,0<=x/\x < (m:Int)))->(0<=number)->((∀ p,p < cs.length->sm m (R p)+(if p=place then number else 0)<=nm p))->((∀ S:Nat->Bool,¬ (sm m fun f=>if S f=true then cap f else 0) < sm cs.length fun p=>if (aT cs p).all (fun x=>S x.toNat)=true then nm p else 0))->(∀ R' Lf' H',Tq ac ar al xs cs zs m R' Lf' H'->Flo cs.length m R' Lf' (aT cs) cap->(∀ p,p < cs.length->sm m (R' p)=sm m (R p)+if p=place then number else 0)->FrZ zs al H H'->Q .non H')->xF vs H Q E
inductive j7 (vs:List V) (H:Hp) (Q:VK) (E:XK):Prop
 | mk:∀(l:Addr)(m:Nat)(g:Nat->Int)(V:Int),(vs=[.ref l,.int V])->(H l=some (.lst (dy m g)))->(m<=6)->(UOk V)->((∀ f,f < m->Sz 4300 (g f)))->(∀ F as H',ak H H'->H F=none->H' F=some (.lst as)->bL V 4300 H' as ((range m).map fun f=>low (g f) V)->Q (.ref F) H')->j7 vs H Q E
inductive qQ (vs:List V) (H:Hp) (Q:VK) (E:XK):Prop
 | mk:∀(w c p:Addr)(ws:List Int)(xs:List V)(cs:List Cl)(ys:List V) (ps:List (Int×Int)) (U:Int) (k:Nat),(vs=[.ref w,.ref c,.ref p])->(k9 w c ws xs cs H)->(H p=some (.lst ys))->(UOk U)->(bL U k H ys ps)->(k<=8000)->(ps.length=cs.length)->(cs.length<=16)->(ws.length<=6)->((∀ x∈ws,0<=x/\Sz 200 x))->((∀ p,p < cs.length->(aT cs p).length<=6/\∀ x∈aT cs p,0<=x/\x < (ws.length:Int)))->((∀ i,i < cs.length->0<=(ps.getD i (0,1)).1))->((∀ V,0 < V->(∀ i,i < cs.length->Ok V (ps.getD i (0,1)))->∀ j,j < 2 ^ ws.length->eQ V cs ps j<=aZ ws (Srt.sub j)*V))->(∀ Z zs aU V H',ak H H'->H Z=none->H' Z=some (.lst zs)->RsU V 4300 H' zs aU->UOk V->A3 ws cs ps aU->Q (.ref Z) H')->qQ vs H Q E
inductive cA (vs:List V) (H:Hp) (Q:VK) (E:XK):Prop
 | mk:∀ w c p h M ws xs cs ys ps,∀ j:Nat,(vs=[.ref w,.ref c,.ref p,.ref h])->(k9 w c ws xs cs H)->(FC UM ws cs)->(H p=some (.lst ys))->(bL M 3700 H ys ps)->(UOk M)->(ps.length=cs.length)->(j < 2 ^ ws.length)->(H h=some (.tup ((Srt.sub j).map V.int)))->((eQ M cs ps j<=aZ ws (Srt.sub j)*M))->(∀ H',ak H H'->Q (.bl false) H')->cA vs H Q E
inductive eB (vs:List V) (H:Hp) (Q:VK) (E:XK):Prop
 | mk:∀ w c p M ws xs cs ys ps,(vs=[.ref w,.ref c,.ref p])->(k9 w c ws xs cs H)->(FC UM ws cs)->(H p=some (.lst ys))->(bL M 3700 H ys ps)->(UOk M)->(ps.length=cs.length)->((∀ j,j < 2 ^ ws.length->eQ M cs ps j<=aZ ws (Srt.sub j)*M))->(∀ H',ak H H'->Q (.bl false) H')->eB vs H Q E
abbrev uw(K:PySem.W.Frag)(cx:Str->Addr):Sp:=fun vs H Q _=>∃ a ns,vs=[.ref a]/\SqL K H a (List.map V.int ns)/\ns.length<=63/\∀ H',Q (.bl true) H'
local macro_rules | `(tactic| k_extra "rd")=>`(tactic| simp only[Eb,Ex,BQ,CJ,Dg,Ck,Dh,LC,LY,Cw,IB,IZ,HY,Dw,Ca,Ds,Ej,ET,aD,Ee,ER,Az,Lv,GX,Lj,IL,GN,Ef,Fs,Fn,DO,Fv,Dc,DR,Jr,ED,AY,yc,vD,GS,zq,KO,Dj,FO,Gd,yK,CT,Ju,
 Ek,Cs,CL,BP,Dz,qw,Br,zK,yR,xM,B7,IC,Iy,IQ,GH,JJ,JD,Jn,Hz,zS,Bo,BH,Ax,Cv,HE,wu,zc,za,Fe,wJ,BU,xI,Int.reduceEq,  xw,xH,vA,L2.start,Gx,Gc,IF,zO,Dr,yS,dj,gW,iD,i5,
 List.getElem?_cons_zero,List.getElem?_cons_succ,List.set_cons_zero,List.set_cons_succ,map_cons,List.map_nil,List.cons_append,nil_append,length_cons,length_nil,length_map,Nat.reduceAdd,Nat.reduceSub,Nat.zero_add,sub_self,replicate_succ,List.replicate_zero,
 Option.some.injEq,V.int.injEq,V.bl.injEq,V.ref.injEq,V.ty.injEq,V.str.injEq,HO.lst.injEq,HO.tup.injEq,List.cons.injEq,reduceCtorEq,exists_eq_left',exists_eq_left,exists_eq_right',exists_eq_right,exists_and_left,and_assoc,and_true,true_and,and_self,eq_self,decide_true,decide_false,decide_eq_true_eq,Bool.not_eq_true',decide_eq_false_iff_not,Bool.true_eq_false,false_eq_true,if_true,if_false,Bool.not_false,Bool.not_true,Bool.true_and,Bool.false_and,Bool.and_true,Bool.and_false,Bool.true_or,Bool.false_or,not_true_eq_false,ne_eq,not_false_eq_true,Lp,Lb,KY,KS,EA,EN,DP,Eh,gq,af,ax,xb,wV,wX,wk,wj,wA,wQ,Jy,Io,Ij,Int.reduceLE,Int.reduceLT,Int.reduceAdd,Int.reduceSub,Int.reduceMul,Int.reduceNeg,Int.reducePow,Int.reduceToNat, *])
local macro_rules | `(tactic| k_extra "rx")=>`(tactic| repeat (first
 | (with_reducible refine JH ?_) | (with_reducible refine IW ?_) | (with_reducible refine ba ?_) | ((with_reducible apply Ho);(exact rfl)) | (with_reducible refine Nj ?_) | (with_reducible refine L8 ?_) | (with_reducible refine Hh ?_) | (with_reducible refine Dl ?_) | (with_reducible refine M7 ?_) | (with_reducible refine L4 ?_)
 | (with_reducible refine Kp ?_) | (with_reducible refine KL ?_) | (with_reducible refine MT ?_) | (with_reducible refine Fw ?_) | (with_reducible refine Jq ?_) | (with_reducible refine Nx ?_) | (with_reducible refine Ky ?_) | (with_reducible refine Ik ?_) | (with_reducible refine bZ ?_) | (with_reducible refine Fz ?_) | (with_reducible refine I_ ?_) | (with_reducible refine EI ?_) | (with_reducible refine Hb ?_) | (with_reducible refine Jh ?_) | (with_reducible refine Kw ?_) | (with_reducible refine Ka ?_) | (with_reducible refine xg ?_) | (with_reducible refine tJ ?_) | (with_reducible refine Ir ?_) | (with_reducible refine GI ?_)
 | ((with_reducible refine MX ?_ ?_);(first | (exact Sz.ok (by assumption) (by assumption) (by decide)) | (exact⟨by assumption,by assumption⟩) | (exact⟨by decide,by decide⟩) | (show (0:Int) < _;first | decide | assumption) | (exact xB) | (exact Sz.okR (k:=31) (by decide) (by decide)) | (exact (⟨by decide,by decide,by decide⟩:IF _ _))))
 | refine vv (by assumption) rfl ?_ | refine sA (by assumption) rfl ?_ | refine vv (by assumption) (by assumption) ?_ | refine HP (by assumption) ?_ | refine qm (by assumption) (by decide) rfl ?_))
section
variable {P:Program}{w:World}{K:PySem.W.Frag}{mg:Str->Option Value}{base:Heap}{cx:Str->Addr}{f:Addr}{fd:FuncData}
theorem nN(D:aS K mg "common_factor" fP f fd)(T:Txt K mg cx):aq P w K mg base CX0 1 "common_factor" ["number","under"] dj:=by
 refine D.ok (D.q bV (fun vs H Q E h=>?_) (fun bW A outer s H vs Q E hr h=>?_)) (D.fn.binds fun _ _ _ _ _ _ us hl=>match us,hl with | [_,_],_=>rfl)
 ·obtain⟨_,_,rfl,_⟩:=h
  rfl
 obtain⟨n,u,rfl,hu,hQ⟩:=h
 refine⟨_,(ag (aO 2 bV.nd (qv 0))
   (ag (aO 3 bV.nd (qv 1))
   (ag (jR PassesOwn.never (aK yh (qv 3) ae (aX _)) (ag (aO 4 bV.nd (aG iZ (qv 2) (qv 3)))
   (ag (aO 2 bV.nd (qv 3))
   (ah (aO 3 bV.nd (qv 4))))))
   (ah (aB (qv 2)))))),?_⟩
 k_extra "rd"
 refine⟨fun m σ H'=>H'=H/\∃(g l:Int)(r:Option V),σ=[some (.int n),some (.int u),some (.int g),some (.int l),r]/\m=l.toNat/\0<=l/\gcd g l=gcd n u/\(l=0->0 < g),⟨_,rfl,n,u,none,rfl,rfl,by omega,rfl,by omega⟩,?_⟩
 rintro m σ H' ⟨rfl,g,l,r,rfl,rfl,h0,hg,hp⟩
 k_extra "rd"
 refine JF (fun hl=>?_) (fun hl=>?_)
 ·refine⟨fun σ' H''=>H''=H'/\∃(g' l':Int)(r':Option V),σ'=[some (.int n),some (.int u),some (.int g'),some (.int l'),r']/\l'.toNat < l.toNat/\0<=l'/\gcd g' l'=gcd n u/\(l'=0->0 < g'),fun σ' H'' ⟨e,g',l',r',e2,a1,a2,a3,a4⟩=>⟨l'.toNat,a1,e,g',l',r',e2,rfl,a2,a3,a4⟩,?_⟩
  have iT:0 < l:=by omega
  k_extra "rd"
  have:=emod_lt_of_pos g iT
  have:=emod_nonneg g (by omega:l≠0)
  exact⟨by omega,by omega,by rw[vJ iT];exact hg,fun _=>trivial⟩
 ·have e:l=0:=by omega
  subst e
  have e2:((gcd n u:Nat):Int)=g:=by
   rw[<- hg,Int.gcd_zero_right]
   have:=hp rfl
   omega
  rw[e2] at hQ
  exact hQ
theorem zE(D:aS K mg "lowest" qc f fd)(T:Txt K mg cx)(bY:aq P w K mg base CX0 1 "common_factor" ["number","under"] dj):aq P w K mg base (CXR P w) 2 "lowest" ["number","under"] (iR K cx):=by
 refine D.ok (D.qR rY (fun vs H Q E h=>?_) (fun bW A outer s H vs Q E hr h=>?_)) (D.fn.binds fun _ _ _ _ _ _ us hl=>match us,hl with | [_,_],_=>rfl)
 ·obtain⟨_,_,rfl,_⟩:=h
  rfl
 obtain⟨n,u,rfl,hz,hE,hQ⟩:=h
 refine⟨_,(ag (bX (aK n5 (qv 1) ae (aX _)) (ah (AV Fc T.x_BadPart rfl (by rfl) (aF Hu))) be)
   (ag (aO 2 rY.nd (aJ bY (aH (qv 0) (qv 1))))
   (ah (aB (bh (aH (aG dH (qv 0) (qv 2)) (aG dH (qv 1) (qv 2)))))))),?_⟩
 k_extra "rd"
 refine gO (fun h1=>?_) (fun h1=>?_)
 ·k_extra "rd"
 k_extra "rd"
 have h2:0 < u:=by omega
 have hg:=gS (n:=n) h2
 have hgz:Sz 9000 (gcd n u:Int):=hz.le (by have:=Int.gcd_le_natAbs_right n (b:=u) (by omega);omega)
 exact⟨h2,hg,hgz,hg,hgz,fun p hp=>hQ h2 p hp⟩
theorem Cf(D:aS K mg "below" sH f fd)(T:Txt K mg cx):aq P w K mg base CX0 1 "below" ["one","other"] qu:=by
 refine D.ok (D.q CY (fun vs H Q E h=>?_) (fun bW A outer s H vs Q E hr h=>?_)) (D.fn.binds fun _ _ _ _ _ _ us hl=>match us,hl with | [_,_],_=>rfl)
 ·obtain⟨_,_,_,_,_,_,rfl,_⟩:=h
  rfl
 obtain⟨p,q,n1,u1,n2,u2,rfl,hp,hq,z1,z2,z3,z4,hQ⟩:=h
 refine⟨_,(ah (aB (fD n5 (aG bz (aj (qv 0) ae) (aj (qv 1) ae)) (aG bz (aj (qv 1) ae) (aj (qv 0) ae)) (aX _)))),?_⟩
 k_extra "rx"
 exact hQ
theorem uB(D:aS K mg "one_under" kA f fd)(T:Txt K mg cx)(bY:aq P w K mg base CX0 1 "common_factor" ["number","under"] dj):aq P w K mg base CX0 2 "one_under" ["row"] fX:=by
 refine D.ok (D.q f_ (fun vs H Q E h=>?_) (fun bW A outer s H vs Q E hr h=>?_)) (D.fn.binds fun _ _ _ _ _ _ us hl=>match us,hl with | [_],_=>rfl)
 ·obtain⟨_,_,_,_,_,rfl,_⟩:=h
  rfl
 obtain⟨L,xs,ps,U,k,rfl,hL,hU,hR,hk,hlen,hQ⟩:=h
 refine⟨_,(ag (aO 1 f_.nd ae)
   (ag (bR PassesOwn.never rfl (aM (K:=K) rfl (qv 0)) (au (i:=2) f_.nd rfl (inl rfl)) (ah (aO 1 f_.nd (aG bz (aG dH (qv 1) (aJ bY (aH (qv 1) (aj (qv 2) ae)))) (aj (qv 2) ae)))))
   (ah (aB (qv 1))))),?_⟩
 have go:∀ i,0 < bS (ps.take i)/\Sz 4000 (bS (ps.take i)):=fun i=>by
  obtain⟨a,b,_⟩:=oN (U:=U) (l:=ps.take i) fun p hp=>(hR.mem p (List.mem_of_mem_take hp)).toOk
  exact⟨a,hU.sz.le (cC b hU.pos)⟩
 refine⟨_,rfl,L,rfl,⟨_,SqL.of hL⟩,jE (K:=K) (a:=L) (xs:=xs) (fun i σ H2=>∃ v,σ=[some (.ref L),some (.int (bS (ps.take i))),v]/\H2=H)
  ⟨none,rfl,rfl⟩ (fun i σ H2 _ ⟨_,_,e⟩=>by rw[e];exact SqL.of hL) ?_ ?_⟩
 ·rintro i y σ H2 hy ⟨v,rfl,rfl⟩
  have hi:i < xs.length:=(List.getElem?_eq_some_iff.mp hy).1
  have jK:i < ps.length:=by rw[<- hR.1];exact hi
  obtain⟨q,eq,hq,po⟩:=hR.2 i ps[i] (getElem?_eq_getElem jK)
  rw[eq] at hy
  cases hy
  have e:bS (ps.take (i+1))=lJ (bS (ps.take i)) ps[i]:=zA jK
  obtain⟨h0,z⟩:=go i
  rw[e]
  clear e go hR
  have hu:=po.pos
  have zu:=po.toOk.usz hU
  generalize bS (ps.take i)=R at h0 z |-
  generalize ps[i]=P at hq hu zu |-
  have hg:=gS (n:=R) hu
  have zg:Sz 9000 (gcd R P.2:Int):=Sz.mono (Sz.le zu (by have:=Nat.le_of_dvd (by omega) (Int.gcd_dvd_natAbs_right R P.2);omega)) (by decide)
  have zd:Sz 4000 (R / (gcd R P.2:Int)):=Sz.le z (cO _ _)
  have om:IntMulOk (R / (gcd R P.2:Int)) P.2:=zd.ok zu (by decide)
  k_extra "rd"
  rfl
 ·rintro σ H2 ⟨v,rfl,rfl⟩
  have e:ps.take xs.length=ps:=by rw[hR.1,take_length]
  rw[e]
  exact⟨_,rfl,hQ⟩
theorem oE(D:aS K mg "numbers_over" gx f fd)(T:Txt K mg cx):aq P w K mg base CX0 1 "numbers_over" ["row","under"] dO:=by
 refine D.ok (D.q oz (fun vs H Q E h=>?_) (fun bW A outer s H vs Q E hr h=>?_)) (D.fn.binds fun _ _ _ _ _ _ us hl=>match us,hl with | [_,_],_=>rfl)
 ·obtain⟨_,_,_,_,_,_,rfl,_⟩:=h
  rfl
 obtain⟨L,U,xs,ps,V0,k0,rfl,hL,hV,hR,hk,hlen,zU,hQ⟩:=h
 refine⟨_,(ah (aB (ck ["part"] [("under", 1)] (aM (K:=K) rfl (qv 0)) (aE (by decide)) (fun _ _ _ _ _=>⟨(au (i:=0) (show (["part","under"]:List Str).Nodup by decide +kernel) rfl (inl rfl)),bF,(aG bz (aj (qv 0) ae) (aG dH (qv 1) (aj (qv 0) ae)))⟩)))),?_⟩
 refine⟨_,rfl,L,rfl,⟨_,SqL.of hL⟩,fun l hl=>rW (K:=K) (a:=L) (xs:=xs) (fun i acc H2=>acc=(dD U (ps.take i)).map V.int/\H2=upd H l (.lst acc)) ⟨rfl,rfl⟩ (fun i acc H2 _ ⟨_,e⟩=>by rw[e];exact SqL.of ((ak.new hl) _ _ hL)) ?_ ?_⟩
 ·rintro i y acc H2 hy ⟨rfl,rfl⟩
  have hi:i < xs.length:=(List.getElem?_eq_some_iff.mp hy).1
  have jK:i < ps.length:=by rw[<- hR.1];exact hi
  obtain⟨q,eq,hq,po⟩:=hR.2 i ps[i] (getElem?_eq_getElem jK)
  have hu:=po.pos
  have zu:=po.toOk.usz hV
  have zn:=(po.nsz hV.pos).mono hk
  clear po
  rw[eq] at hy
  cases hy
  have mG:=(ak.new (o:=.lst ((dD U (ps.take i)).map V.int)) hl) _ _ hq
  have e:dD U (ps.take (i+1))=dD U (ps.take i)++[ps[i].1*(U / ps[i].2)]:=by
   unfold dD
   rw[take_succ_eq_append_getElem jK,map_append]
   rfl
  have len:(dD U (ps.take i)).length<=16:=by unfold dD;rw[length_map,length_take];omega
  have k1:upd H l (.lst ((dD U (ps.take i)).map V.int)) l=_:=af
  have k2:∀ o,upd (upd H l (.lst ((dD U (ps.take i)).map V.int))) l o=upd H l o:=fun o=>mw
  rw[e]
  generalize dD U (ps.take i)=A at mG len k1 k2 |-
  generalize ps[i]=P at hq hu zn zu mG |-
  generalize upd H l (.lst (A.map V.int))=H3 at mG k1 k2 |-
  have om:IntMulOk P.1 (U / P.2):=zn.ok (Sz.le zU (cO _ _)) (by decide)
  have SQ:Sz 9000 P.2:=zu.mono (by decide)
  simp only[aD,eC,if_true]
  clear hR hL hQ
  k_extra "rd"
  exact⟨ay (by omega),by rw[map_append];rfl⟩
 ·rintro acc H2 ⟨rfl,rfl⟩
  have e:ps.take xs.length=ps:=by rw[hR.1,take_length]
  rw[e]
  exact hQ l hl
theorem Bg(D:aS K mg "heaps" um f fd)(T:Txt K mg cx):aq P w K mg base CX0 1 "heaps" ["many"] qK:=by
 refine D.ok (D.q mz (fun vs H Q E h=>?_) (fun bW A outer s H vs Q E hr h=>?_)) (D.fn.binds fun _ _ _ _ _ _ us hl=>match us,hl with | [_],_=>rfl)
 ·obtain⟨_,rfl,_⟩:=h
  rfl
 obtain⟨m,rfl,m6,hQ⟩:=h
 refine⟨_,(ag (aO 1 mz.nd (bJ (aF (bh bq))))
   (ag (bR PassesOwn.never rfl (bG (by rfl) T.n_range (aF (qv 0))) (au (i:=2) mz.nd rfl (inr rfl)) (ah (aO 1 mz.nd (aG wI (qv 1) (ck ["heap"] [("place", 2)] (aM (K:=K) rfl (qv 1)) (aE (by decide)) (fun _ _ _ _ _=>⟨(au (i:=0) (show (["heap","place"]:List Str).Nodup by decide +kernel) rfl (inl rfl)),bF,(aG ui (qv 0) (bh (aF (qv 1))))⟩))))))
   (ah (aB (aA (xa hr.units) (by rfl) T.n_sorted sk (aF (qv 1))))))),?_⟩
 refine⟨by show 0<=sizeLine;decide,fun t0 Ai=>⟨by show 1<=sizeLine;decide,fun F0 zb=>?_⟩⟩
 have s0:=(ak.new (o:=.tup []) Ai).trans (ak.new (o:=.lst [.ref t0]) zb)
 have k0:=(ak.new (o:=.lst [.ref t0]) zb) t0 _ af
 have n0:H F0=none:=(ak.new (o:=.tup []) Ai).free zb
 have j0:upd (upd H t0 (.tup [])) F0 (.lst [.ref t0]) F0=_:=af
 generalize upd (upd H t0 (.tup [])) F0 (.lst [.ref t0])=H0 at s0 k0 j0 |-
 refine⟨_,rfl,(m:Int),rfl,by omega,by omega,nv (lo:=0) (n:=((m:Nat):Int).toNat) (fun i σ H2=>∃ F xs v,σ=[some (.int (m:Int)),some (.ref F),v]/\ak H H2/\H F=none/\H2 F=some (.lst xs)/\oY H2 xs (2 ^ i)) ⟨F0,[.ref t0],none,rfl,s0,n0,j0,?_⟩ ?_ ?_⟩
 ·refine⟨rfl,fun i hi=>?_⟩
  have:i=0:=by have:i < 1:=hi;omega
  subst this
  exact⟨t0,rfl,k0⟩
 ·rintro i σ H2 hi ⟨F,xs,v,rfl,s2,nF,hF,hS⟩
  have J5:i < 6:=by omega
  have hl:=hS.1
  have Sd:2 ^ i<=32:=by
   have:i=0\/i=1\/i=2\/i=3\/i=4\/i=5:=by omega
   rcases this with rfl | rfl | rfl | rfl | rfl | rfl<;>decide
  simp only[aD]
  refine⟨_,rfl,_,rfl,F,rfl,⟨_,SqL.of hF⟩,fun l iT=>?_⟩
  refine aV (K:=K) (a:=F) (xs:=xs) (fun j acc H3=>ak H2 H3/\H3 l=some (.lst acc)/\acc.length=j/\∀ q,q < j->∃ t,acc[q]?=some (.ref t)/\H3 t=some (.tup ((Srt.sub (2 ^ i+q)).map V.int))) ⟨ak.new iT,af,rfl,fun q hq=>by omega⟩ (fun j acc H3 _ ⟨s3,_⟩=>SqL.of (s3 _ _ hF)) ?_ ?_
  ·rintro j y acc H3 hy ⟨s3,lb,hj,hA⟩
   have hjl:=(List.getElem?_eq_some_iff.mp hy).1
   have Ad:j < 2 ^ i:=by omega
   obtain⟨t,et,ht⟩:=hS.2 j Ad
   rw[et] at hy
   cases hy
   simp only[aD,eC,if_true]
   refine⟨_,rfl,_,rfl,by show 1<=sizeLine;decide,fun q hq=>?_⟩
   have s4:=ak.new (o:=.tup [.int (0+(i:Int))]) hq
   refine⟨t,q,(Srt.sub j).map V.int,[.int (0+(i:Int))],rfl,rfl,s4 _ _ (s3 _ _ ht),af,by simp,?_,fun r H5 s5 hr=>?_⟩
   ·show ((Srt.sub j).map V.int).length+1<=sizeLine
    rw[length_map]
    have:(Srt.sub j).length<=6:=by
     unfold Srt.sub
     rw[length_map]
     exact le_trans (length_filter_le _ _) (by rw[length_range];exact le_refl _)
    exact Nat.le_of_lt (ay (by omega))
   ·have ze:=s4.trans s5
    have uN:=ze _ _ lb
    have nrl:r≠l:=fun z=>by rw[z,uN] at hr;cases hr
    refine⟨uN,ay (by omega),fun b o hb=>?_,af,by rw[length_append,hj];rfl,fun q hq=>?_⟩
    ·have nb:b≠l:=fun z=>by rw[z,iT] at hb;cases hb
     rw[ax nb]
     exact ze _ _ (s3 _ _ hb)
    ·by_cases hqj:q < j
     ·obtain⟨t',e',h'⟩:=hA q hqj
      have h5:=ze _ _ h'
      have ntl:t'≠l:=fun z=>by rw[z,uN] at h5;cases h5
      exact⟨t',by rw[getElem?_append_left (by omega)];exact e',by rw[ax ntl];exact h5⟩
     ·have e:q=acc.length:=by omega
      subst e
      refine⟨r,by rw[getElem?_append_right (le_refl _),sub_self];rfl,?_⟩
      rw[ax nrl,hr,hj,xY i J5 j Ad,map_append,zero_add]
      rfl
  ·rintro acc H3 ⟨s3,lb,hj,hA⟩
   have vi:=s3 _ _ hF
   refine⟨F,l,xs,acc,rfl,rfl,vi,lb,?_,fun G hG=>?_⟩
   ·exact Nat.le_of_lt (ay (by omega))
   ·have s4:=ak.new (o:=.lst (xs++acc)) hG
    refine⟨G,xs++acc,_,rfl,s2.trans (s3.trans s4),(s2.trans s3).free hG,af,?_,fun q hq=>?_⟩
    ·rw[length_append,hj,hl,pow_succ]
     omega
    ·rw[pow_succ] at hq
     by_cases m7:q < 2 ^ i
     ·obtain⟨t',e',h'⟩:=hS.2 q m7
      exact⟨t',by rw[getElem?_append_left (by omega)];exact e',s4 _ _ (s3 _ _ h')⟩
     ·obtain⟨t',e',h'⟩:=hA (q - 2 ^ i) (by omega)
      have eq:2 ^ i+(q - 2 ^ i)=q:=by omega
      rw[eq] at h'
      exact⟨t',by rw[getElem?_append_right (by omega),hl];exact e',s4 _ _ h'⟩
 ·rintro σ H2 ⟨F,xs,v,rfl,s2,nF,hF,hS⟩
  have em:((m:Nat):Int).toNat=m:=toNat_natCast m
  rw[em] at hS
  exact⟨_,rfl,F,xs,m,rfl,hF,m6,hS,fun l hl=>hQ l _ _ (s2.trans (ak.new hl)) (s2.free hl) af ((AR hS).ts (TS.of (ak.new hl)))⟩
theorem zj(D:aS K mg "within" qT f fd)(T:Txt K mg cx):aq P w K mg base CX0 1 "within" ["touched","heap"] kQ:=by
 refine D.ok (D.q zt (fun vs H Q E h=>?_) (fun bW A outer s H vs Q E hr h=>?_)) (D.fn.binds fun _ _ _ _ _ _ us hl=>match us,hl with | [_,_],_=>rfl)
 ·obtain⟨_,_,_,_,rfl,_⟩:=h
  rfl
 obtain⟨t,h,ts,hs,rfl,ht,hh,hl,hQ⟩:=h
 refine⟨_,(ah (aB (aA (fe rfl) (by rfl) T.n_all lD (aF (ck ["place"] [("heap", 1)] (ja (K:=K) rfl (qv 0)) (aE (by decide)) (fun _ _ _ _ _=>⟨(au (i:=0) (show (["place","heap"]:List Str).Nodup by decide +kernel) rfl (inl rfl)),bF,(fD (pj (K:=K) rfl) (qv 0) (qv 1) (by rfl))⟩)))))),?_⟩
 refine⟨_,rfl,t,rfl,⟨_,SqT.of ht⟩,fun l iT=>gn (K:=K) (a:=t) (xs:=ts.map V.int) (fun i acc H2=>acc=((ts.take i).map fun x=>decide (x∈hs)).map V.bl/\H2=upd H l (.lst acc)) ⟨rfl,rfl⟩ (fun i acc H2 _ ⟨_,e⟩=>by rw[e];exact SqT.of ((ak.new iT) _ _ ht)) ?_ ?_⟩
 ·rintro i y acc H2 hy ⟨rfl,rfl⟩
  obtain⟨hi,rfl⟩:=int_at hy
  simp only[aD,eC,if_true]
  refine⟨_,rfl,_,rfl,h,hs.map V.int,rfl,.inr (SqT.of ((ak.new iT) _ _ hh)),rfl,kY hs,af,ay (by simp only[length_map,length_take];omega),?_,mw⟩
  rw[bx _ hi,map_append,fS]
  rfl
 ·rintro acc H2 ⟨rfl,rfl⟩
  have e:ts.take (ts.map V.int).length=ts:=by rw[length_map,take_length]
  rw[e]
  refine⟨l,ts.map fun x=>decide (x∈hs),rfl,af,?_⟩
  have e2:(ts.map fun x=>decide (x∈hs)).all id=lies ts hs:=by unfold lies;rw[all_map];rfl
  rw[e2]
  exact hQ _ (ak.new iT)
theorem rJ(D:aS K mg "heap_worth" iV f fd)(T:Txt K mg cx):aq P w K mg base CX0 1 "heap_worth" ["worths","heap"] ie:=by
 refine D.ok (D.q rD (fun vs H Q E h=>?_) (fun bW A outer s H vs Q E hr h=>?_)) (D.fn.binds fun _ _ _ _ _ _ us hl=>match us,hl with | [_,_],_=>rfl)
 ·obtain⟨_,_,_,_,rfl,_⟩:=h
  rfl
 obtain⟨w,h,ws,hs,rfl,hw,hh,hl,hb,hQ⟩:=h
 refine⟨_,(ah (aB (aA (kW rfl) (by rfl) T.n_sum tY (aF (ck ["place"] [("worths", 0)] (ja (K:=K) rfl (qv 1)) (aE (by decide)) (fun _ _ _ _ _=>⟨(au (i:=0) (show (["place","worths"]:List Str).Nodup by decide +kernel) rfl (inl rfl)),bF,(aj (qv 1) (qv 0))⟩)))))),?_⟩
 refine⟨_,rfl,h,rfl,⟨_,SqT.of hh⟩,fun l iT=>gn (K:=K) (a:=h) (xs:=hs.map V.int) (fun i acc H2=>acc=((hs.take i).map fun x=>ws.getD x.toNat 0).map V.int/\H2=upd H l (.lst acc)) ⟨rfl,rfl⟩ (fun i acc H2 _ ⟨_,e⟩=>by rw[e];exact SqT.of ((ak.new iT) _ _ hh)) ?_ ?_⟩
 ·rintro i y acc H2 hy ⟨rfl,rfl⟩
  obtain⟨hi,rfl⟩:=int_at hy
  simp only[aD,eC,if_true]
  obtain⟨x0,x1⟩:=hb hs[i] (getElem_mem hi)
  refine⟨_,rfl,_,rfl,w,ws.map V.int,_,_,rfl,rfl,aP ((ak.new iT) _ _ hw),pN x0 x1,af,ay (by simp only[length_map,length_take];omega),?_,mw⟩
  rw[bx _ hi,map_append]
  rfl
 ·rintro acc H2 ⟨rfl,rfl⟩
  have e:hs.take (hs.map V.int).length=hs:=by rw[length_map,take_length]
  rw[e]
  refine⟨l,hs.map fun x:Int=>ws.getD x.toNat 0,rfl,af,?_⟩
  exact hQ _ (ak.new iT)
theorem uR(D:aS K mg "_law_bag" lW f fd)(T:Txt K mg cx):aq P w K mg base CX0 1 "_law_bag" ["_law_script"] (j6 K cx):=by
 refine D.ok (D.q gT (fun vs H Q E h=>?_) (fun bW A outer s H vs Q E hr h=>?_)) (D.fn.binds fun _ _ _ _ _ _ us hl=>match us,hl with | [_],_=>rfl)
 ·obtain⟨_,_,rfl,_⟩:=h
  rfl
 obtain⟨a,ns,rfl,hS,hl,hQ⟩:=h
 have hc:lA (List.map V.int ns) none (some (63:Int))=List.map V.int ns:=A5 (k:=63) (by rw[length_map];exact hl)
 refine⟨_,(ag (aO 1 gT.nd (aA aW (by rfl) T.n_len bQ (aF (km uc (qv 0) mC (mE ae)))))
   (ag (bR PassesOwn.never rfl (aM (K:=K) rfl (km uc (qv 0) mC (mE ae))) (au (i:=2) gT.nd rfl (inl rfl)) (ah (aO 1 gT.nd (aG iZ (aG gu (aG bz (qv 1) ae) (qv 2)) ae))))
   (ah (aB (bJ (ai (cm cg (by rfl) T.n_list dM (aF (km uc (qv 0) mC (mE ae)))) (ai ae (ai ae (ai (qv 1) bq))))))))),?_⟩
 refine⟨_,rfl,_,rfl,a,_,rfl,hS,fun p hp=>?_⟩
 rw[hc]
 refine⟨p,_,rfl,by unfold gq;rw[af],?_⟩
 have s1:ak H (upd H p (.lst (List.map V.int ns))):=ak.new hp
 refine⟨_,rfl,_,rfl,a,_,rfl,s1.seq hS,fun p2 hp2=>?_⟩
 rw[hc]
 have s2:ak H (upd (upd H p (.lst (List.map V.int ns))) p2 (.lst (List.map V.int ns))):=s1.trans (ak.new hp2)
 refine⟨p2,rfl,⟨_,SqL.of af⟩,jE (K:=K) (a:=p2) (xs:=List.map V.int ns) (fun i σ H2=>∃(z:Int)(v:Option V),σ=[some (.ref a),some (.int z),v]/\ak H H2/\SqL K H2 p2 (List.map V.int ns)) ⟨_,_,rfl,s2,SqL.of af⟩ (fun i σ H2 _ ⟨_,_,_,_,q⟩=>q) ?_ ?_⟩
 ·rintro i y σ H2 hy ⟨z,v,rfl,s3,hp3⟩
  obtain⟨k,rfl⟩:∃ k,y=V.int k:=by
   rw[getElem?_map] at hy
   cases e:ns[i]? with
   | none=>rw[e] at hy;cases hy
   | some k=>rw[e] at hy;exact⟨k,(Option.some.inj hy).symm⟩
  k_extra "rd"
  exact⟨Sz.okR (k:=10) (by decide) (by decide),_,rfl⟩
 ·rintro σ H2 ⟨z,v,rfl,s3,hp3⟩
  refine⟨_,rfl,_,rfl,a,_,rfl,s3.seq hS,fun p4 hp4=>?_⟩
  rw[hc]
  refine⟨p4,_,rfl,by unfold gq;rw[af],fun L hL=>?_⟩
  k_extra "rd"
  intro B hB
  have s5:=(s3.trans (ak.new (o:=.lst (List.map V.int ns)) hp4)).trans (ak.new (o:=.lst (List.map V.int ns)) hL)
  have RK:L≠B:=fun e=>by rw[<- e,af] at hB;cases hB
  refine hQ B L _ (s5.trans (ak.new hB)) (s5.free hB) ⟨ns,0,0,z,af,?_,by omega⟩
  rw[ax RK,af]
theorem sZ(D:aS K mg "_law_pull" jN f fd)(T:Txt K mg cx):aq P w K mg base CX0 1 "_law_pull" ["_law_bag_here","_law_many_here"] bP:=by
 refine D.ok (D.q dh (fun vs H Q E h=>?_) (fun bW A outer s H vs Q E hr h=>?_)) (D.fn.binds fun _ _ _ _ _ _ us hl=>match us,hl with | [_,_],_=>rfl)
 ·obtain⟨_,_,_,rfl,_⟩:=h
  rfl
 obtain⟨B,m,L,rfl,⟨ns,i,r,salt,hB,hL,hi⟩,hm,hz,hQ⟩:=h
 have Oq:L≠B:=K2 hL hB (by intro e;cases ns<;>cases e)
 refine⟨_,(ag (bX (aK Gq (aj (qv 0) ae) ae (aX _)) (ag (mO (qv 0) ae jP ae sN set_list)
   (ag (aO 2 dh.nd (aj (qv 0) ae))
   (ag (bX (aK Gq (aj (qv 0) ae) (aA aW (by rfl) T.n_len bQ (aF (aj (qv 0) ae))) (aX _)) (ah (aO 2 dh.nd (aj (aj (qv 0) ae) (aG xn (aj (qv 0) ae) ae)))) be)
   (ag (bX (ll (aK pK (aj (qv 0) ae) (aA aW (by rfl) T.n_len bQ (aF (aj (qv 0) ae))) (aX _)) (jv (aK n5 (qv 2) (aG pX ae ae) (aX _)))).pt (ag (aO 3 dh.nd (aG iZ (aG gu (aG gu (aG bz (qv 2) ae) (aG bz (aj (qv 0) ae) ae)) ae) ae))
   (ag (aO 3 dh.nd (aG iZ (aG bz (qv 3) (qv 3)) ae))
   (ah (aB (aG iZ (aG dH (aG iZ (aG bz (aG gu (qv 3) (aj (qv 0) ae)) ae) ae) ae) (qv 1)))))) be)
   (ah (nk (qv 2) (sV (qv 0) ae set_list))))))) be)
   (ag (aO 4 dh.nd (aG iZ (aj (qv 0) ae) (qv 1)))
   (ag (nk (aG dH (aj (qv 0) ae) (qv 1)) (sV (qv 0) ae set_list))
   (ah (aB (qv 4)))))),?_⟩
 refine mH (fun σ' H'=>∃ i' r' v2 v3,σ'=[some (.ref B),some (.int m),v2,v3,none]/\H' B=some (.lst [.ref L,.int i',.int r',.int salt])/\0<=i'/\Fr1 B H H') ?_ fun uM key=>?_
 ·rintro σ H1 ⟨i',r',v2,v3,rfl,R8,N6,f1⟩
  clear hB
  k_extra "rx"
  refine jS R8 rfl rfl fun H2 Qr f2=>?_
  k_extra "rx"
  exact hQ _ _ (emod_nonneg _ (Int.ne_of_gt hm)) (emod_lt_of_pos _ hm) ⟨ns,i',_,salt,Qr,f2 _ _ Oq (f1 _ _ Oq hL),N6⟩ (f1.trans f2)
 k_extra "rx"
 refine gO (fun h1=>?_) (fun h1=>?_)
 ·k_extra "rx"
  refine jS hB rfl rfl fun H1 s1 f1=>?_
  have Mq:=f1 _ _ Oq hL
  have i1:0<=i+1:=Int.le_add_one hi
  clear hB
  k_extra "rx"
  refine gO (fun h2=>?_) (fun h2=>?_)
  ·obtain⟨v,e,hv⟩:=CH (xs:=List.map V.int ns) (i:=i+1 - 1) (by omega) (by omega)
   obtain⟨z,_,rfl⟩:=mem_map.mp hv
   k_extra "rx"
   refine wW (by omega) ?_
   k_extra "rx"
   refine gO (fun h4=>?_) (fun h4=>?_)
   ·k_extra "rx"
    exact hQ _ _ (emod_nonneg _ (Int.ne_of_gt hm)) (emod_lt_of_pos _ hm) ⟨ns,_,_,salt,s1,Mq,i1⟩ f1
   ·k_extra "rx"
    refine jS s1 rfl rfl fun H2 s2 f2=>?_
    exact key _ _ ⟨_,_,_,_,rfl,s2,i1,f1.trans f2⟩
  ·k_extra "rx"
   refine ID (by omega) ?_
   k_extra "rx"
   exact hQ _ _ (emod_nonneg _ (Int.ne_of_gt hm)) (emod_lt_of_pos _ hm) ⟨ns,_,_,salt,s1,Mq,i1⟩ f1
 ·k_extra "rx"
  exact key _ _ ⟨_,_,_,_,rfl,hB,hi,Fr1.refl⟩
theorem va(D:aS K mg "_law_gcd" lP f fd)(T:Txt K mg cx):aq P w K mg base CX0 1 "_law_gcd" ["_law_one","_law_other"] gW:=by
 refine D.ok (D.q h_ (fun vs H Q E h=>?_) (fun bW A outer s H vs Q E hr h=>?_)) (D.fn.binds fun _ _ _ _ _ _ us hl=>match us,hl with | [_,_],_=>rfl)
 ·obtain⟨_,_,rfl,_⟩:=h
  rfl
 obtain⟨n,u,rfl,hQ⟩:=h
 refine⟨_,(ag (aO 0 h_.nd (aA u9 (by rfl) T.n_abs A1 (aF (qv 0))))
   (ag (aO 1 h_.nd (aA u9 (by rfl) T.n_abs A1 (aF (qv 1))))
   (ag (jR PassesOwn.never (aK yh (qv 1) ae (aX _)) (ah (II (i:=0) (j:=1) rfl h_.nd rfl rfl (by decide) rfl rfl (aH (qv 1) (aG iZ (qv 0) (qv 1))) rfl)))
   (ah (aB (qv 0)))))),?_⟩
 k_extra "rd"
 have en:(if n < 0 then -n else n)=(n.natAbs:Int):=by split<;>omega
 have eu:(if u < 0 then -u else u)=(u.natAbs:Int):=by split<;>omega
 rw[en,eu]
 refine⟨fun m σ H'=>H'=H/\∃(g l:Int),σ=[some (.int g),some (.int l)]/\m=l.toNat/\0<=l/\0<=g/\gcd g l=gcd n u,⟨_,rfl,_,_,rfl,rfl,by omega,by omega,by rw[Int.gcd_eq_natAbs_gcd_natAbs n u];rfl⟩,?_⟩
 rintro m σ H' ⟨rfl,g,l,rfl,rfl,h0,SU,hg⟩
 k_extra "rd"
 refine JF (fun hl=>?_) (fun hl=>?_)
 ·have iT:0 < l:=by omega
  refine⟨fun σ' H''=>H''=H'/\∃(g' l':Int),σ'=[some (.int g'),some (.int l')]/\l'.toNat < l.toNat/\0<=l'/\0<=g'/\gcd g' l'=gcd n u,fun σ' H'' ⟨e,g',l',e2,a1,a2,a3,a4⟩=>⟨l'.toNat,a1,e,g',l',e2,rfl,a2,a3,a4⟩,?_⟩
  k_extra "rd"
  have:=emod_lt_of_pos g iT
  have:=emod_nonneg g (by omega:l≠0)
  exact⟨by omega,by omega,by rw[vJ iT];exact hg⟩
 ·have e:l=0:=by omega
  subst e
  have e2:((gcd n u:Nat):Int)=g:=by
   rw[<- hg,Int.gcd_zero_right]
   omega
  rw[e2] at hQ
  exact hQ
theorem vB(D:aS K mg "_law_low" ly f fd)(T:Txt K mg cx)(fk:aq P w K mg base CX0 1 "_law_gcd" ["_law_one","_law_other"] gW):aq P w K mg base CX0 2 "_law_low" ["_law_number","_law_under"] d7:=by
 refine D.ok (D.q nV (fun vs H Q E h=>?_) (fun bW A outer s H vs Q E hr h=>?_)) (D.fn.binds fun _ _ _ _ _ _ us hl=>match us,hl with | [_,_],_=>rfl)
 ·obtain⟨_,_,rfl,_⟩:=h
  rfl
 obtain⟨n,u,rfl,hu,hz,hQ⟩:=h
 refine⟨_,(ag (aO 2 nV.nd (aJ fk (aH (qv 0) (qv 1))))
   (ah (aB (bh (aH (aG dH (qv 0) (qv 2)) (aG dH (qv 1) (qv 2))))))),?_⟩
 have hg:=gS (n:=n) hu
 have hgz:=NA n hu hz
 k_extra "rd"
 exact fun p hp=>hQ p hp
theorem uu(D:aS K mg "_law_plus" kC f fd)(T:Txt K mg cx)(bO:aq P w K mg base CX0 2 "_law_low" ["_law_number","_law_under"] d7):aq P w K mg base CX0 3 "_law_plus" ["_law_one","_law_other"] fV:=by
 refine D.ok (D.q tN (fun vs H Q E h=>?_) (fun bW A outer s H vs Q E hr h=>?_)) (D.fn.binds fun _ _ _ _ _ _ us hl=>match us,hl with | [_,_],_=>rfl)
 ·obtain⟨_,_,_,_,_,_,rfl,_⟩:=h
  rfl
 obtain⟨p,q,n1,u1,n2,u2,rfl,hp,hq,h1,h2,z1,z2,z3,z4,hQ⟩:=h
 refine⟨_,(ah (aB (aJ bO (aH (aG gu (aG bz (aj (qv 0) ae) (aj (qv 1) ae)) (aG bz (aj (qv 1) ae) (aj (qv 0) ae))) (aG bz (aj (qv 0) ae) (aj (qv 1) ae)))))),?_⟩
 k_extra "rx"
 exact⟨_,_,rfl,qd h1 h2,(z2.mul z4).mono (by decide),fun r hr=>hQ r hr⟩
theorem rj(D:aS K mg "_law_below" i9 f fd)(T:Txt K mg cx):aq P w K mg base CX0 1 "_law_below" ["_law_one","_law_other"] cN:=by
 refine D.ok (D.q rN (fun vs H Q E h=>?_) (fun bW A outer s H vs Q E hr h=>?_)) (D.fn.binds fun _ _ _ _ _ _ us hl=>match us,hl with | [_,_],_=>rfl)
 ·obtain⟨_,_,_,_,_,_,rfl,_⟩:=h
  rfl
 obtain⟨p,q,n1,u1,n2,u2,rfl,hp,hq,z1,z2,z3,z4,hQ⟩:=h
 refine⟨_,(ah (aB (fD n5 (aG bz (aj (qv 0) ae) (aj (qv 1) ae)) (aG bz (aj (qv 1) ae) (aj (qv 0) ae)) (aX _)))),?_⟩
 k_extra "rx"
 exact hQ
theorem vn(D:aS K mg "_law_sum" lU f fd)(T:Txt K mg cx)(dY:aq P w K mg base CX0 3 "_law_plus" ["_law_one","_law_other"] fV):aq P w K mg base CX0 4 "_law_sum" ["_law_row"] c3:=by
 refine D.ok (D.q hJ (fun vs H Q E h=>?_) (fun bW A outer s H vs Q E hr h=>?_)) (D.fn.binds fun _ _ _ _ _ _ us hl=>match us,hl with | [_],_=>rfl)
 ·obtain⟨_,_,_,_,_,rfl,_⟩:=h
  rfl
 obtain⟨L,xs,ps,U,k,rfl,hL,hU,hR,hk,hlen,hQ⟩:=h
 refine⟨_,(ag (aO 1 hJ.nd (bh (aH ae ae)))
   (ag (bR PassesOwn.never rfl (aM (K:=K) rfl (qv 0)) (au (i:=2) hJ.nd rfl (inl rfl)) (ah (aO 1 hJ.nd (aJ dY (aH (qv 1) (qv 2))))))
   (ah (aB (qv 1))))),?_⟩
 have go:∀ i,i<=16->0 < (bN (ps.take i)).2/\Sz 20000 (bN (ps.take i)).1/\Sz 4400 (bN (ps.take i)).2:=fun i hi=>by
  have a:=m5 hU.pos (k:=k) (l:=ps.take i) fun p hp=>hR.mem p (List.mem_of_mem_take hp)
  have hl:(ps.take i).length<=16:=by rw[length_take];omega
  exact⟨a.pos,(a.nsz hU.pos).mono (by omega),(a.toOk.usz hU).mono (by decide)⟩
 refine⟨by decide,fun r0 N_=>?_⟩
 have s0:=ak.new (o:=.tup [.int 0,.int 1]) N_
 refine⟨_,rfl,L,rfl,⟨_,SqL.of (s0 _ _ hL)⟩,jE (K:=K) (a:=L) (xs:=xs) (fun i σ H2=>∃ r v,σ=[some (.ref L),some (.ref r),v]/\ak H H2/\H2 r=some (.tup [.int (bN (ps.take i)).1,.int (bN (ps.take i)).2]))
  ⟨r0,none,rfl,s0,af⟩ (fun i σ H2 _ ⟨_,_,_,s2,_⟩=>SqL.of (s2 _ _ hL)) ?_ ?_⟩
 ·rintro i y σ H2 hy ⟨r,v,rfl,s2,hr⟩
  have hi:i < xs.length:=(List.getElem?_eq_some_iff.mp hy).1
  have jK:i < ps.length:=by rw[<- hR.1];exact hi
  obtain⟨q,eq,hq,po⟩:=hR.2 i ps[i] (getElem?_eq_getElem jK)
  rw[eq] at hy
  cases hy
  have mG:=s2 _ _ hq
  have e:bN (ps.take (i+1))=fM (bN (ps.take i)) ps[i]:=zi jK
  obtain⟨h0,z1,z2⟩:=go i (by omega)
  have hu:=po.pos
  have zu:=(po.toOk.usz hU).mono (by decide:4000<=4400)
  have zn:=(po.nsz hU.pos).mono (by omega:k<=20000)
  rw[e]
  clear e go po hR
  generalize bN (ps.take i)=S at hr h0 z1 z2 |-
  generalize ps[i]=P at hq hu zn zu mG |-
  k_extra "rd"
  refine⟨r,q,_,_,_,_,rfl,hr,mG,h0,hu,z1,z2,zn,zu,fun w hw=>?_⟩
  k_extra "rd"
  exact⟨s2.trans (ak.new hw),rfl,rfl⟩
 ·rintro σ H2 ⟨r,v,rfl,s2,hr⟩
  have e:ps.take xs.length=ps:=by rw[hR.1,take_length]
  rw[e] at hr
  exact⟨_,rfl,hQ r H2 s2 hr⟩
theorem q9(D:aS K mg "_law_whole" jt f fd)(T:Txt K mg cx):aq P w K mg base CX0 1 "_law_whole" ["_law_found"] iD:=by
 refine D.ok (D.q rg (fun vs H Q E h=>?_) (fun bW A outer s H vs Q E hr h=>?_)) (D.fn.binds fun _ _ _ _ _ _ us hl=>match us,hl with | [_],_=>rfl)
 ·obtain⟨_,rfl,_⟩:=h
  rfl
 obtain⟨n,rfl,hQ⟩:=h
 refine⟨_,(ah (aB (tG (aA jO (by rfl) T.n_isinstance dJ (aH (qv 0) (ma (v:=.ty "int") (by rfl) T.n_int JB rfl))) (tM (AW (aA jO (by rfl) T.n_isinstance dJ (aH (qv 0) (ma (v:=.ty "bool") (by rfl) T.n_bool EG rfl)))))))),?_⟩
 k_extra "rd"
theorem tW(D:aS K mg "_law_many" ko f fd)(T:Txt K mg cx)(av:aq P w K mg base CX0 1 "_law_pull" ["_law_bag_here","_law_many_here"] bP):aq P w K mg base CX0 2 "_law_many" ["_law_bag_here"] fU:=by
 refine D.ok (D.q tV (fun vs H Q E h=>?_) (fun bW A outer s H vs Q E hr h=>?_)) (D.fn.binds fun _ _ _ _ _ _ us hl=>match us,hl with | [_],_=>rfl)
 ·obtain⟨_,_,rfl,_⟩:=h
  rfl
 obtain⟨B,L,rfl,hB,hQ⟩:=h
 refine⟨_,(ah (aB (aj (bJ (ai ae (ai ae (ai ae (ai ae (ai ae (ai ae (ai ae bq)))))))) (aJ av (aH (qv 0) ae))))),?_⟩
 k_extra "rd"
 intro p hp
 have yE:p≠B:=hB.ne hp
 refine⟨B,7,L,rfl,hB.new hp,by decide,by decide,fun d H2 d0 d1 b2 f2=>?_⟩
 have hp2:=f2 p _ yE af
 obtain⟨x,ex,CQ,wt⟩:=pick (P:=fun x=>0<=x/\x<=6) [3,2,4,1,5,6,0] d0 d1 (by decide)
 have BR:atI [V.int 3,V.int 2,V.int 4,V.int 1,V.int 5,V.int 6,V.int 0] d=some (.int x):=ex
 k_extra "rd"
 exact hQ x H2 CQ wt b2 ((Fr1.new hp).trans f2)
theorem tR(D:aS K mg "_law_heap" ky f fd)(T:Txt K mg cx)(av:aq P w K mg base CX0 1 "_law_pull" ["_law_bag_here","_law_many_here"] bP):aq P w K mg base CX0 2 "_law_heap" ["_law_bag_here","_law_many_here"] i7:=by
 refine D.ok (D.q me (fun vs H Q E h=>?_) (fun bW A outer s H vs Q E hr h=>?_)) (D.fn.binds fun _ _ _ _ _ _ us hl=>match us,hl with | [_,_],_=>rfl)
 ·obtain⟨_,_,_,rfl,_⟩:=h
  rfl
 obtain⟨B,m,L,rfl,hB,m0,m6,hQ⟩:=h
 refine⟨_,(ag (bX (uI (aK pK (qv 1) ae (aX _)) (oH (aK lg (aJ av (aH (qv 0) ae)) ae (aX _)))).pt (ah (aB (bh (aF (aJ av (aH (qv 0) (qv 1))))))) be)
   (ag (jJ (i:=2) me.nd rfl (inr rfl) (aJ av (aH (qv 0) (aj (bJ (ai ae (ai ae (ai ae (ai ae (ai ae (ai ae (ai ae bq)))))))) (qv 1)))))
   (ah (aB (cm yW (by rfl) T.n_tuple vF (aF (ck ["_law_place"] [("_law_mask", 2)] (bG (by rfl) T.n_range (aF (qv 1))) (aE (by decide)) (fun _ _ _ _ _=>⟨(au (i:=0) (show (["_law_place","_law_mask"]:List Str).Nodup by decide +kernel) rfl (inl rfl)),(iA (aK lg (aG iZ (aG dH (qv 1) (aj (bJ (ai ae (ai ae (ai ae (ai ae (ai ae (ai ae bq))))))) (qv 0))) ae) ae (aX _))),(qv 0)⟩)))))))),?_⟩
 refine mH (fun σ' H'=>∃ v2,σ'=[some (.ref B),some (.int m),v2]/\br H' B L/\Fr1 B H H') ?_ fun uM key=>?_
 ·rintro σ H1 ⟨v2,rfl,hB,fH⟩
  k_extra "rd"
  intro p hp
  have yE:p≠B:=hB.ne hp
  have b9:=hB.new (o:=.lst [.int 1,.int 2,.int 4,.int 8,.int 16,.int 32,.int 64]) hp
  have h9:upd H1 p (.lst [.int 1,.int 2,.int 4,.int 8,.int 16,.int 32,.int 64]) p=_:=af
  have f9:=fH.trans (Fr1.new (B:=B) (o:=.lst [.int 1,.int 2,.int 4,.int 8,.int 16,.int 32,.int 64]) hp)
  generalize upd H1 p (.lst [.int 1,.int 2,.int 4,.int 8,.int 16,.int 32,.int 64])=H9 at b9 h9 f9 |-
  obtain⟨x,ex,CQ,wt⟩:=pick (P:=fun x=>0 < x/\x<=64) [1,2,4,8,16,32,64] m0 (by show m < 7;omega) (by decide)
  have BR:atI [V.int 1,V.int 2,V.int 4,V.int 8,V.int 16,V.int 32,V.int 64] m=some (.int x):=ex
  k_extra "rd"
  refine⟨B,x,L,rfl,b9,CQ,Sz.mono (j:=7) (Sz.of (by omega)) (by decide),fun k H2 e0 e1 b2 f2=>?_⟩
  have rh:=f9.trans f2
  clear ex BR h9 yE b9 f2 f9
  refine⟨_,rfl,m,rfl,by omega,by omega,fun l hl=>?_⟩
  refine de (k:=m.toNat) (fun i acc H3=>∃ hs:List Int,acc=hs.map V.int/\hs.length<=i/\(∀ x∈hs,0<=x/\x < m)/\Fr1 l H2 H3/\H3 l=some (.lst acc)) ⟨[],rfl,le_refl _,(fun x hx=>by cases hx),Fr1.upd,af⟩ ?_ ?_
  ·rintro i acc H3 hi ⟨hs,rfl,hlen,hb,f3,lb⟩
   simp only[aD]
   k_extra "rd"
   intro p4 hp4
   have n4:p4≠l:=fun z=>by rw[z,lb] at hp4;cases hp4
   have h4:upd H3 p4 (.lst [.int 1,.int 2,.int 4,.int 8,.int 16,.int 32]) p4=_:=af
   have l4:=(ak.new (o:=.lst [.int 1,.int 2,.int 4,.int 8,.int 16,.int 32]) hp4) _ _ lb
   have f4:=f3.trans (Fr1.new (B:=l) (o:=.lst [.int 1,.int 2,.int 4,.int 8,.int 16,.int 32]) hp4)
   generalize upd H3 p4 (.lst [.int 1,.int 2,.int 4,.int 8,.int 16,.int 32])=H4 at h4 l4 f4 |-
   obtain⟨y,ey,JX,Gr⟩:=pick (P:=fun x=>0 < x/\x<=64) [1,2,4,8,16,32] (d:=0+(i:Int)) (by omega) (by show 0+(i:Int) < 6;omega) (by decide)
   have SY:atI [V.int 1,V.int 2,V.int 4,V.int 8,V.int 16,V.int 32] (0+(i:Int))=some (.int y):=ey
   have zy:Sz 9000 y:=Sz.mono (j:=7) (Sz.of (by omega)) (by decide)
   clear ey
   k_extra "rd"
   refine JF (fun hc=>?_) (fun hc=>?_)
   ·refine⟨ay (by omega),hs++[0+(i:Int)],by rw[map_append];rfl,by rw[length_append];exact Nat.succ_le_succ hlen,fun z hz=>?_,f4.trans Fr1.upd⟩
    rcases mem_append.mp hz with hz | hz
    ·exact hb z hz
    ·rw[mem_singleton.mp hz];omega
   ·exact⟨hs,rfl,Nat.le_succ_of_le hlen,hb⟩
  ·rintro acc H3 ⟨hs,rfl,hlen,hb,f3,lb⟩
   have vQ:=b2.ne hl
   have Mn:=b2.neL hl
   have same:ak H2 H3:=fun b o C2=>f3 b o (fun z=>by rw[z,hl] at C2;cases C2) C2
   refine⟨l,rfl,_,lb,fun t ht=>?_⟩
   have s4:=same.trans (ak.new (o:=.tup (hs.map V.int)) ht)
   have nt:H t=none:=by
    cases e:H t with
    | none=>rfl
    | some o =>
     have Sj:t≠B:=(b2.keep same).ne ht
     have:=same _ _ (rh t o Sj e)
     rw[this] at ht
     cases ht
   exact hQ t hs _ nt (b2.keep s4) (rh.trans (Fr1.of s4)) af (by omega) hb
 have fH:Fr1 B H H:=Fr1.refl
 k_extra "rd"
 refine gO (fun h1=>?_) (fun h1=>?_)
 ·k_extra "rd"
  refine⟨B,3,L,rfl,hB,by decide,by decide,fun d H1 d0 d1 b1 f1=>?_⟩
  k_extra "rd"
  refine gO (fun h2=>?_) (fun h2=>?_)
  ·k_extra "rd"
   refine⟨B,m,L,rfl,b1,h1,Sz.mono (j:=3) (Sz.of (by omega)) (by decide),fun d2 H2 e0 e1 b2 f2=>?_⟩
   k_extra "rd"
   intro t ht
   have rh:=f1.trans f2
   have nt:H t=none:=by
    cases e:H t with
    | none=>rfl
    | some o =>
     rw[rh t o (b2.ne ht) e] at ht
     cases ht
   exact hQ t [d2] _ nt (b2.new ht) (rh.trans (Fr1.new ht)) af (by show 1<=6;decide) fun x hx=>by rw[mem_singleton.mp hx];exact⟨e0,e1⟩
  ·k_extra "rd"
   exact key _ _ ⟨_,rfl,b1,f1⟩
 ·k_extra "rd"
  exact key _ _ ⟨_,rfl,hB,fH⟩
theorem vC(D:aS K mg "_law_due" lE f fd)(T:Txt K mg cx)(bO:aq P w K mg base CX0 2 "_law_low" ["_law_number","_law_under"] d7)(av:aq P w K mg base CX0 1 "_law_pull" ["_law_bag_here","_law_many_here"] bP):aq P w K mg base CX0 3 "_law_due" ["_law_bag_here","_law_scale"] kn:=by
 refine D.ok (D.q vq (fun vs H Q E h=>?_) (fun bW A outer s H vs Q E hr h=>?_)) (D.fn.binds fun _ _ _ _ _ _ us hl=>match us,hl with | [_,_],_=>rfl)
 ·obtain⟨_,_,_,rfl,_⟩:=h
  rfl
 obtain⟨B,s',L,rfl,hB,s0,s9,hQ⟩:=h
 refine⟨_,(ah (aB (aJ bO (aH (aJ av (aH (qv 0) (aG gu (qv 1) ae))) (aG gu ae (aJ av (aH (qv 0) (aj (bJ (ai ae (ai ae (ai ae (ai ae bq))))) (aJ av (aH (qv 0) ae)))))))))),?_⟩
 k_extra "rd"
 refine⟨B,s'+1,L,rfl,hB,by omega,Sz.mono (j:=31) (Sz.of (by omega)) (by decide),fun d H1 d0 d1 b1 f1=>?_⟩
 k_extra "rd"
 intro p hp
 have yE:p≠B:=b1.ne hp
 refine⟨B,4,L,rfl,b1.new hp,by decide,by decide,fun e H2 e0 e1 b2 f2=>?_⟩
 have hp2:=f2 p _ yE af
 obtain⟨x,ex,CQ,wt⟩:=pick (P:=fun x=>0 < x/\x<=60) [1,1,3,60] e0 e1 (by decide)
 have BR:atI [V.int 1,V.int 1,V.int 3,V.int 60] e=some (.int x):=ex
 clear ex
 k_extra "rd"
 refine⟨B,x,L,rfl,b2,CQ,Sz.mono (j:=6) (Sz.of (by omega)) (by decide),fun k H3 k0 k1 b3 f3=>?_⟩
 have hu:0 < 1+k:=by omega
 have zu:Sz 7 (1+k):=Sz.of (by omega)
 have zd:Sz 31 d:=Sz.of (by omega)
 clear BR hp2
 k_extra "rd"
 refine⟨d,1+k,rfl,hu,zu.mono (by decide),fun q hq=>?_⟩
 obtain⟨r1,r2,r3,r4⟩:=oK d hu
 have fr:Fr1 B H H3:=f1.trans ((Fr1.new hp).trans (f2.trans f3))
 refine hQ q _ _ _ ?_ (b3.new hq) (fr.trans (Fr1.new hq)) af (Gh d0 (by omega) hu (by omega))
 cases e:H q with
 | none=>rfl
 | some o=>rw[fr q o (b3.ne hq) e] at hq;cases hq
theorem uD(D:aS K mg "_law_ceil" j_ f fd)(T:Txt K mg cx):aq P w K mg base CX0 1 "_law_ceil" ["_law_one"] i5:=by
 refine D.ok (D.q tO (fun vs H Q E h=>?_) (fun bW A outer s H vs Q E hr h=>?_)) (D.fn.binds fun _ _ _ _ _ _ us hl=>match us,hl with | [_],_=>rfl)
 ·obtain⟨_,_,_,rfl,_⟩:=h
  rfl
 obtain⟨p,n,u,rfl,hp,h1,z1,hQ⟩:=h
 refine⟨_,(ah (aB (vE oV (aG dH (vE oV (aj (qv 0) ae)) (aj (qv 0) ae))))),?_⟩
 k_extra "rd"
theorem uC(D:aS K mg "_law_over" jZ f fd)(T:Txt K mg cx)(bO:aq P w K mg base CX0 2 "_law_low" ["_law_number","_law_under"] d7):aq P w K mg base CX0 3 "_law_over" ["_law_one","_law_other"] jc:=by
 refine D.ok (D.q sM (fun vs H Q E h=>?_) (fun bW A outer s H vs Q E hr h=>?_)) (D.fn.binds fun _ _ _ _ _ _ us hl=>match us,hl with | [_,_],_=>rfl)
 ·obtain⟨_,_,_,_,_,_,rfl,_⟩:=h
  rfl
 obtain⟨p,q,n1,u1,n2,u2,rfl,hp,hq,h1,h2,z1,z2,z3,z4,hQ⟩:=h
 refine⟨_,(ah (aB (aJ bO (aH (aG bz (aj (qv 0) ae) (aj (qv 1) ae)) (aG bz (aj (qv 0) ae) (aj (qv 1) ae)))))),?_⟩
 k_extra "rx"
 exact⟨_,_,rfl,qd h1 h2,(z2.mul z3).mono (by decide),fun r hr=>hQ r hr⟩
theorem q_(D:aS K mg "_law_heaps" ji f fd)(T:Txt K mg cx):aq P w K mg base CX0 1 "_law_heaps" ["_law_many_here"] fu:=by
 refine D.ok (D.q fw (fun vs H Q E h=>?_) (fun bW A outer s H vs Q E hr h=>?_)) (D.fn.binds fun _ _ _ _ _ _ us hl=>match us,hl with | [_],_=>rfl)
 ·obtain⟨_,rfl,_⟩:=h
  rfl
 obtain⟨m,rfl,m6,hQ⟩:=h
 refine⟨_,(ag (aO 1 fw.nd (bJ (aF (bh bq))))
   (ag (bR PassesOwn.never rfl (bG (by rfl) T.n_range (aF (qv 0))) (au (i:=2) fw.nd rfl (inr rfl)) (ah (aO 1 fw.nd (aG wI (qv 1) (ck ["_law_heap_here"] [("_law_place", 2)] (aM (K:=K) rfl (qv 1)) (aE (by decide)) (fun _ _ _ _ _=>⟨(au (i:=0) (show (["_law_heap_here","_law_place"]:List Str).Nodup by decide +kernel) rfl (inl rfl)),bF,(aG ui (qv 0) (bh (aF (qv 1))))⟩))))))
   (ah (aB (qv 1))))),?_⟩
 refine⟨by show 0<=sizeLine;decide,fun t0 Ai=>⟨by show 1<=sizeLine;decide,fun F0 zb=>?_⟩⟩
 have s0:=(ak.new (o:=.tup []) Ai).trans (ak.new (o:=.lst [.ref t0]) zb)
 have k0:=(ak.new (o:=.lst [.ref t0]) zb) t0 _ af
 have n0:H F0=none:=(ak.new (o:=.tup []) Ai).free zb
 have j0:upd (upd H t0 (.tup [])) F0 (.lst [.ref t0]) F0=_:=af
 generalize upd (upd H t0 (.tup [])) F0 (.lst [.ref t0])=H0 at s0 k0 j0 |-
 refine⟨_,rfl,(m:Int),rfl,by omega,by omega,nv (lo:=0) (n:=((m:Nat):Int).toNat) (fun i σ H2=>∃ F xs v,σ=[some (.int (m:Int)),some (.ref F),v]/\ak H H2/\H F=none/\H2 F=some (.lst xs)/\oY H2 xs (2 ^ i)) ⟨F0,[.ref t0],none,rfl,s0,n0,j0,?_⟩ ?_ ?_⟩
 ·refine⟨rfl,fun i hi=>?_⟩
  have:i=0:=by have:i < 1:=hi;omega
  subst this
  exact⟨t0,rfl,k0⟩
 ·rintro i σ H2 hi ⟨F,xs,v,rfl,s2,nF,hF,hS⟩
  have J5:i < 6:=by omega
  have hl:=hS.1
  have Sd:2 ^ i<=32:=by
   have:i=0\/i=1\/i=2\/i=3\/i=4\/i=5:=by omega
   rcases this with rfl | rfl | rfl | rfl | rfl | rfl<;>decide
  simp only[aD]
  refine⟨_,rfl,_,rfl,F,rfl,⟨_,SqL.of hF⟩,fun l iT=>?_⟩
  refine aV (K:=K) (a:=F) (xs:=xs) (fun j acc H3=>ak H2 H3/\H3 l=some (.lst acc)/\acc.length=j/\∀ q,q < j->∃ t,acc[q]?=some (.ref t)/\H3 t=some (.tup ((Srt.sub (2 ^ i+q)).map V.int))) ⟨ak.new iT,af,rfl,fun q hq=>by omega⟩ (fun j acc H3 _ ⟨s3,_⟩=>SqL.of (s3 _ _ hF)) ?_ ?_
  ·rintro j y acc H3 hy ⟨s3,lb,hj,hA⟩
   have hjl:=(List.getElem?_eq_some_iff.mp hy).1
   have Ad:j < 2 ^ i:=by omega
   obtain⟨t,et,ht⟩:=hS.2 j Ad
   rw[et] at hy
   cases hy
   simp only[aD,eC,if_true]
   refine⟨_,rfl,_,rfl,by show 1<=sizeLine;decide,fun q hq=>?_⟩
   have s4:=ak.new (o:=.tup [.int (0+(i:Int))]) hq
   refine⟨t,q,(Srt.sub j).map V.int,[.int (0+(i:Int))],rfl,rfl,s4 _ _ (s3 _ _ ht),af,by simp,?_,fun r H5 s5 hr=>?_⟩
   ·show ((Srt.sub j).map V.int).length+1<=sizeLine
    rw[length_map]
    have:(Srt.sub j).length<=6:=by
     unfold Srt.sub
     rw[length_map]
     exact le_trans (length_filter_le _ _) (by rw[length_range];exact le_refl _)
    exact Nat.le_of_lt (ay (by omega))
   ·have ze:=s4.trans s5
    have uN:=ze _ _ lb
    have nrl:r≠l:=fun z=>by rw[z,uN] at hr;cases hr
    refine⟨uN,ay (by omega),fun b o hb=>?_,af,by rw[length_append,hj];rfl,fun q hq=>?_⟩
    ·have nb:b≠l:=fun z=>by rw[z,iT] at hb;cases hb
     rw[ax nb]
     exact ze _ _ (s3 _ _ hb)
    ·by_cases hqj:q < j
     ·obtain⟨t',e',h'⟩:=hA q hqj
      have h5:=ze _ _ h'
      have ntl:t'≠l:=fun z=>by rw[z,uN] at h5;cases h5
      exact⟨t',by rw[getElem?_append_left (by omega)];exact e',by rw[ax ntl];exact h5⟩
     ·have e:q=acc.length:=by omega
      subst e
      refine⟨r,by rw[getElem?_append_right (le_refl _),sub_self];rfl,?_⟩
      rw[ax nrl,hr,hj,xY i J5 j Ad,map_append,zero_add]
      rfl
  ·rintro acc H3 ⟨s3,lb,hj,hA⟩
   have vi:=s3 _ _ hF
   refine⟨F,l,xs,acc,rfl,rfl,vi,lb,?_,fun G hG=>?_⟩
   ·exact Nat.le_of_lt (ay (by omega))
   ·have s4:=ak.new (o:=.lst (xs++acc)) hG
    refine⟨G,xs++acc,_,rfl,s2.trans (s3.trans s4),(s2.trans s3).free hG,af,?_,fun q hq=>?_⟩
    ·rw[length_append,hj,hl,pow_succ]
     omega
    ·rw[pow_succ] at hq
     by_cases m7:q < 2 ^ i
     ·obtain⟨t',e',h'⟩:=hS.2 q m7
      exact⟨t',by rw[getElem?_append_left (by omega)];exact e',s4 _ _ (s3 _ _ h')⟩
     ·obtain⟨t',e',h'⟩:=hA (q - 2 ^ i) (by omega)
      have eq:2 ^ i+(q - 2 ^ i)=q:=by omega
      rw[eq] at h'
      exact⟨t',by rw[getElem?_append_right (by omega),hl];exact e',s4 _ _ h'⟩
 ·rintro σ H2 ⟨F,xs,v,rfl,s2,nF,hF,hS⟩
  have em:((m:Nat):Int).toNat=m:=toNat_natCast m
  rw[em] at hS
  exact⟨_,rfl,hQ F xs H2 s2 nF hF hS⟩
theorem sO(D:aS K mg "_law_lies" ke f fd)(T:Txt K mg cx):aq P w K mg base CX0 1 "_law_lies" ["_law_touched","_law_heap_here"] fT:=by
 refine D.ok (D.q uG (fun vs H Q E h=>?_) (fun bW A outer s H vs Q E hr h=>?_)) (D.fn.binds fun _ _ _ _ _ _ us hl=>match us,hl with | [_,_],_=>rfl)
 ·obtain⟨_,_,_,_,rfl,_⟩:=h
  rfl
 obtain⟨t,h,ts,hs,rfl,ht,hh,hl,hQ⟩:=h
 refine⟨_,(ah (aB (aA (fe rfl) (by rfl) T.n_all lD (aF (ck ["_law_place"] [("_law_heap_here", 1)] (ja (K:=K) rfl (qv 0)) (aE (by decide)) (fun _ _ _ _ _=>⟨(au (i:=0) (show (["_law_place","_law_heap_here"]:List Str).Nodup by decide +kernel) rfl (inl rfl)),bF,(fD (pj (K:=K) rfl) (qv 0) (qv 1) (by rfl))⟩)))))),?_⟩
 refine⟨_,rfl,t,rfl,⟨_,SqT.of ht⟩,fun l iT=>gn (K:=K) (a:=t) (xs:=ts.map V.int) (fun i acc H2=>acc=((ts.take i).map fun x=>decide (x∈hs)).map V.bl/\H2=upd H l (.lst acc)) ⟨rfl,rfl⟩ (fun i acc H2 _ ⟨_,e⟩=>by rw[e];exact SqT.of ((ak.new iT) _ _ ht)) ?_ ?_⟩
 ·rintro i y acc H2 hy ⟨rfl,rfl⟩
  obtain⟨hi,rfl⟩:=int_at hy
  simp only[aD,eC,if_true]
  refine⟨_,rfl,_,rfl,h,hs.map V.int,rfl,.inr (SqT.of ((ak.new iT) _ _ hh)),rfl,kY hs,af,ay (by simp only[length_map,length_take];omega),?_,mw⟩
  rw[bx _ hi,map_append,fS]
  rfl
 ·rintro acc H2 ⟨rfl,rfl⟩
  have e:ts.take (ts.map V.int).length=ts:=by rw[length_map,take_length]
  rw[e]
  refine⟨l,ts.map fun x=>decide (x∈hs),rfl,af,?_⟩
  have e2:(ts.map fun x=>decide (x∈hs)).all id=lies ts hs:=by unfold lies;rw[all_map];rfl
  rw[e2]
  exact hQ _ (ak.new iT)
theorem rA(D:aS K mg "_law_worth" je f fd)(T:Txt K mg cx):aq P w K mg base CX0 1 "_law_worth" ["_law_worths_here","_law_heap_here"] fE:=by
 refine D.ok (D.q qW (fun vs H Q E h=>?_) (fun bW A outer s H vs Q E hr h=>?_)) (D.fn.binds fun _ _ _ _ _ _ us hl=>match us,hl with | [_,_],_=>rfl)
 ·obtain⟨_,_,_,_,rfl,_⟩:=h
  rfl
 obtain⟨w,h,ws,hs,rfl,hw,hh,hl,hb,hQ⟩:=h
 refine⟨_,(ah (aB (aA (kW rfl) (by rfl) T.n_sum tY (aF (ck ["_law_place"] [("_law_worths_here", 0)] (ja (K:=K) rfl (qv 1)) (aE (by decide)) (fun _ _ _ _ _=>⟨(au (i:=0) (show (["_law_place","_law_worths_here"]:List Str).Nodup by decide +kernel) rfl (inl rfl)),bF,(aj (qv 1) (qv 0))⟩)))))),?_⟩
 refine⟨_,rfl,h,rfl,⟨_,SqT.of hh⟩,fun l iT=>gn (K:=K) (a:=h) (xs:=hs.map V.int) (fun i acc H2=>acc=((hs.take i).map fun x=>ws.getD x.toNat 0).map V.int/\H2=upd H l (.lst acc)) ⟨rfl,rfl⟩ (fun i acc H2 _ ⟨_,e⟩=>by rw[e];exact SqT.of ((ak.new iT) _ _ hh)) ?_ ?_⟩
 ·rintro i y acc H2 hy ⟨rfl,rfl⟩
  obtain⟨hi,rfl⟩:=int_at hy
  simp only[aD,eC,if_true]
  obtain⟨x0,x1⟩:=hb hs[i] (getElem_mem hi)
  refine⟨_,rfl,_,rfl,w,ws.map V.int,_,_,rfl,rfl,aP ((ak.new iT) _ _ hw),pN x0 x1,af,ay (by simp only[length_map,length_take];omega),?_,mw⟩
  rw[bx _ hi,map_append]
  rfl
 ·rintro acc H2 ⟨rfl,rfl⟩
  have e:hs.take (hs.map V.int).length=hs:=by rw[length_map,take_length]
  rw[e]
  refine⟨l,hs.map fun x:Int=>ws.getD x.toNat 0,rfl,af,?_⟩
  exact hQ _ (ak.new iT)
theorem zG(D:aS K mg "bounds" o6 f fd)(T:Txt K mg cx)(dX:aq P w K mg base CX0 2 "one_under" ["row"] fX)(cu:aq P w K mg base CX0 1 "numbers_over" ["row","under"] dO)(tK:aq P w K mg base CX0 1 "heaps" ["many"] qK)(iP:aq P w K mg base CX0 1 "within" ["touched","heap"] kQ)(ju:aq P w K mg base CX0 1 "heap_worth" ["worths","heap"] ie):aq P w K mg base CX0 3 "bounds" ["worths","claims","parts","places"] nR:=by
 refine D.ok (D.q dm (fun vs H Q E h=>?_) (fun bW A outer s H vs Q E hr h=>?_)) (D.fn.binds fun _ _ _ _ _ _ us hl=>match us,hl with | [_,_,_,_],_=>rfl)
 ·obtain⟨_,_,_,_,_,_,_,_,_,_,_,_,rfl,_⟩:=h
  rfl
 obtain⟨w,c,p,pl,U,k,ws,xs,cs,ys,ps,q,rfl,x,hQ⟩:=h
 refine⟨_,(ag (fF (k:=4) ["place","part"] [("places", 3),("claims", 1)] dm.nd (kD (K:=K) rfl (by rfl) T.n_enumerate (aF (qv 2))) (nh (by decide) (by decide)) (fun _ _ _ _ _=>⟨(eK (K:=K) (n:=2) rfl rfl (aY (au (i:=0) (show (["place","part","places","claims"]:List Str).Nodup by decide +kernel) rfl (inl rfl)) (aY (au (i:=1) (show (["place","part","places","claims"]:List Str).Nodup by decide +kernel) rfl (inl rfl)) eo))),bF,(Aw (aK (pj (K:=K) rfl) (qv 0) (qv 2) (by rfl)) (aj (aj (qv 3) (qv 0)) ae) (qv 1))⟩))
   (ag (aO 5 dm.nd (aJ dX (aF (qv 4))))
   (ag (jJ (i:=6) dm.nd rfl (inr rfl) (aJ cu (aH (qv 4) (qv 5))))
   (ag (aO 7 dm.nd (bJ bq))
   (ag (bR PassesOwn.never rfl (aM (K:=K) rfl (aJ tK (aF (aA aW (by rfl) T.n_len bQ (aF (qv 0)))))) (au (i:=8) dm.nd rfl (inr rfl)) (ag (fF (k:=9) ["place","claim"] [("heap", 8)] dm.nd (kD (K:=K) rfl (by rfl) T.n_enumerate (aF (qv 1))) (nh (by decide) (by decide)) (fun _ _ _ _ _=>⟨(eK (K:=K) (n:=2) rfl rfl (aY (au (i:=0) (show (["place","claim","heap"]:List Str).Nodup by decide +kernel) rfl (inl rfl)) (aY (au (i:=1) (show (["place","claim","heap"]:List Str).Nodup by decide +kernel) rfl (inl rfl)) eo))),(iA (cE (aJ iP (aH (aj (qv 1) ae) (qv 2))))),(qv 0)⟩))
   (ag (aO 10 dm.nd (aA (kW rfl) (by rfl) T.n_sum tY (aF (ck ["place"] [("numbers", 6),("places", 3)] (aM (K:=K) rfl (qv 9)) (aE (by decide)) (fun _ _ _ _ _=>⟨(au (i:=0) (show (["place","numbers","places"]:List Str).Nodup by decide +kernel) rfl (inl rfl)),(iA (aK (pj (K:=K) rfl) (qv 0) (qv 2) (by rfl))),(aj (qv 1) (qv 0))⟩)))))
   (ah (bX (aK pK (qv 10) ae (aX _)) (ag (aO 11 dm.nd (aA (kW rfl) (by rfl) T.n_sum tY (aF (ck ["place"] [("numbers", 6),("places", 3)] (aM (K:=K) rfl (qv 9)) (aE (by decide)) (fun _ _ _ _ _=>⟨(au (i:=0) (show (["place","numbers","places"]:List Str).Nodup by decide +kernel) rfl (inl rfl)),(iA (aK (nu (K:=K) rfl) (qv 0) (qv 2) (by rfl))),(aj (qv 1) (qv 0))⟩)))))
   (ah (dN (iG (K:=K) rfl PySem.F.plainAttrs_list PySem.F.slot_list_append PySem.F.type_list_append bT (qv 7) (aF (bh (oX (qv 8) (aG xn (aG bz (aJ ju (aH (qv 0) (qv 8))) (qv 5)) (qv 11)) (qv 10)))))))) be)))))
   (ah (aB (qv 7)))))))),?_⟩
 have hwl:(ws.map V.int).length=ws.length:=length_map _
 refine⟨_,rfl,p,rfl,⟨_,SqL.of x.p⟩,fun l hl=>?_⟩
 refine lN (K:=K) (a:=p) (xs:=ys) (fun i acc H2=>ak H H2/\H2 l=some (.lst acc)/\bL U k H2 acc (lu cs ps q i)) ⟨ak.new hl,af,bL.nil⟩ (fun i acc H2 _ ⟨s2,_,_⟩=>SqL.of (s2 _ _ x.p)) ?_ ?_
 ·rintro i y pp acc H2 hy hpp ⟨s2,cG,hR⟩
  have jK:i < ps.length:=by rw[<- x.hR.1];exact (List.getElem?_eq_some_iff.mp hy).1
  have hi:i < cs.length:=by rw[x.len];exact jK
  obtain⟨r,er,hr,_⟩:=x.hR.2 i ps[i] (getElem?_eq_getElem jK)
  rw[er] at hy
  cases hy
  obtain⟨v,ev,rc,pc,kc,rfl,e1,e2,e3⟩:=x.hC.2 i cs[i] (getElem?_eq_getElem hi)
  have po:=x.row hi
  have eR:lu cs ps q (i+1)=lu cs ps q i++[cI cs ps q i]:=by unfold lu;rw[range_succ,map_append];rfl
  have len:=hR.1
  have Q0:(lu cs ps q i).length=i:=by unfold lu;rw[length_map,length_range]
  rw[eR]
  have s3:=s2.trans (ak.new (o:=.tup [.int (i:Int),.ref r]) hpp)
  have fl:=(ak.new (o:=.tup [.int (i:Int),.ref r]) hpp) _ _ cG
  have fR:=hR.ts (TS.of (ak.new (o:=.tup [.int (i:Int),.ref r]) hpp))
  have fc:=s3 _ _ x.c
  have fr:=s3 _ _ hr
  have f1:=s3 _ _ e1
  have f2:=s3 _ _ e2
  have fpl:=s3 _ _ x.pl
  have c16:=x.c16
  refine⟨pp,_,rfl,SqT.of af,rfl,_,_,rfl,_,_,rfl,rfl,?_⟩
  generalize upd H2 pp (.tup [.int (i:Int),.ref r])=H3 at s3 fl fR fc fr f1 f2 fpl |-
  have ein:=oO (q:=q) hi
  have Pe:cI cs ps q i=if q i=true then (cs[i].n,cs[i].u) else ps[i]:=by
   unfold cI
   rw[fW hi]
   simp[getD_eq_getElem?_getD,jK]
  rw[Pe] at po |-
  have a1:atI xs (i:Int)=some (.ref rc):=aQ ev
  clear hQ hR s2 cG hpp hwl eR Pe e1 e2 e3 hr er ev
  refine GD ?_
  rw[if_pos rfl]
  refine⟨_,rfl,_,rfl,pl,plV cs.length q,rfl,.inl (SqL.of fpl),rfl,mD,?_⟩
  unfold plV
  rw[fS,ein]
  cases hq:q i with
  | true =>
   rw[hq,if_pos rfl] at po
   rw[if_pos rfl]
   have nl:pc≠l:=fun z=>by rw[z,fl] at f2;cases f2
   k_extra "rx"
   refine yG ?_
   k_extra "rx"
   exact⟨fl,ay (by omega),bg hl s3,af,(fR.ts (TS.lst fl)).snoc (by rw[ax nl];exact f2) po⟩
  | false =>
   rw[hq,if_neg Bool.false_ne_true] at po
   rw[if_neg Bool.false_ne_true]
   have nl:r≠l:=fun z=>by rw[z,fl] at fr;cases fr
   k_extra "rx"
   refine uX ?_
   k_extra "rx"
   exact⟨fl,ay (by omega),bg hl s3,af,(fR.ts (TS.lst fl)).snoc (by rw[ax nl];exact fr) po⟩
 ·rintro acc H2 ⟨s2,cG,hR⟩
  have el:ys.length=cs.length:=by rw[x.hR.1,x.len]
  rw[el] at hR
  have x2:=x.same s2
  have hk:=x.hk
  have JK:(lu cs ps q cs.length).length<=16:=by unfold lu;rw[length_map,length_range];exact x.c16
  obtain⟨u0,du,ou,zu⟩:=oI x
  k_extra "rx"
  refine⟨l,acc,_,U,k,rfl,cG,x.hU,hR,by omega,JK,?_⟩
  have eU:bS (lu cs ps q cs.length)=cK cs ps q:=rfl
  rw[eU]
  k_extra "rx"
  refine⟨l,_,acc,_,U,k,rfl,cG,x.hU,hR,by omega,JK,zu,fun N hN=>?_⟩
  have eN:dD (cK cs ps q) (lu cs ps q cs.length)=(range cs.length).map fun i=>num (cK cs ps q) (cI cs ps q i):=by unfold dD lu;rw[map_map];rfl
  rw[eN]
  have s3:=s2.trans (ak.new (o:=.lst (((range cs.length).map fun i=>num (cK cs ps q) (cI cs ps q i)).map V.int)) hN)
  have x3:=x.same s3
  have n3:upd H2 N (.lst (((range cs.length).map fun i=>num (cK cs ps q) (cI cs ps q i)).map V.int)) N=_:=af
  have l3:=(ak.new (o:=.lst (((range cs.length).map fun i=>num (cK cs ps q) (cI cs ps q i)).map V.int)) hN) _ _ cG
  generalize upd H2 N (.lst (((range cs.length).map fun i=>num (cK cs ps q) (cI cs ps q i)).map V.int))=H3 at s3 x3 n3 l3 |-
  clear hN eN s2 cG hR x2 JK el hl
  k_extra "rx"
  refine bK (by decide) fun F H4 hF s4 f4=>?_
  have KE:H F=none:=s3.free hF
  have x4:=x3.same s4
  k_extra "rx"
  refine⟨_,rfl,w,_,rfl,aP x4.w,ws.length,by rw[hwl],x.w6,fun E0 es H5 s5 nE hE hO=>?_⟩
  obtain⟨ts,rfl,hts⟩:=hO
  have Nd:E0≠F:=fun z=>by rw[z,f4] at nE;cases nE
  have f5:=s5 _ _ f4
  have ze:=s4.trans s5
  have o5:∀ i∈dg (2 ^ ws.length),i < 2 ^ ws.length:=fun i hi=>oW hi
  have fin:∀ F zP H',ak H H'->H F=none->H' F=some (.lst zP)->iN H' zP (gQ (RB ws cs ps q) (DB cs ps q) (dg (2 ^ ws.length)))->Q (.ref F) H':=hQ
  clear hQ
  have Rg:(dg (2 ^ ws.length)).length<=64:=by rw[oG _ x.w6];exact Bu x.w6
  generalize dg (2 ^ ws.length)=O at hE o5 fin Rg |-
  refine⟨E0,rfl,⟨_,SqL.of hE⟩,eW (K:=K) (a:=E0) (xs:=O.map fun i=>V.ref (ts i)) (fun j σ H'=>∃ zP v8 v9 v10 v11,σ=[some (.ref w),some (.ref c),some (.ref p),some (.ref pl),some (.ref l),some (.int (cK cs ps q)),some (.ref N),some (.ref F),v8,v9,v10,v11]/\ak H3 H'/\H' E0=some (.lst (O.map fun i=>V.ref (ts i)))/\(∀ i,i < 2 ^ ws.length->H' (ts i)=some (.tup ((Srt.sub i).map V.int)))/\H' F=some (.lst zP)/\iN H' zP (gQ (RB ws cs ps q) (DB cs ps q) (O.take j))) ⟨_,_,_,_,_,rfl,ze,hE,hts,f5,iN.nil⟩ (fun j σ H' _ ⟨_,_,_,_,_,_,_,z,_⟩=>SqL.of z) ?_ ?_⟩
  ·clear ze f5 hts hE s5 f4 x4 s4 nE
   rintro j y σ H6 NN BB hy ⟨zP,v8,v9,v10,v11,rfl,s6,hE,hts,C_,hX⟩ kN kB
   clear kB
   have jl:=(List.getElem?_eq_some_iff.mp hy).1
   rw[length_map] at jl
   rw[getElem?_map,getElem?_eq_getElem jl] at hy
   cases hy
   have oj:=o5 O[j] (getElem_mem jl)
   have eO:gQ (RB ws cs ps q) (DB cs ps q) (O.take (j+1))=gQ (RB ws cs ps q) (DB cs ps q) (O.take j)++(if decide (0 < DB cs ps q O[j])=true then [(O[j],RB ws cs ps q O[j],DB cs ps q O[j])] else []):=fh (fun i=>decide (0 < DB cs ps q i)) (fun i=>(i,RB ws cs ps q i,DB cs ps q i)) jl
   have x6:=x3.same s6
   have n6:=s6 _ _ n3
   have t6:=hts _ oj
   generalize O[j]=h at oj t6 eO |-
   have Mu:(gQ (RB ws cs ps q) (DB cs ps q) (O.take j)).length<=64:=by
    unfold gQ
    rw[length_map]
    refine le_trans (length_filter_le _ _) ?_
    rw[length_take]
    omega
   generalize gQ (RB ws cs ps q) (DB cs ps q) (O.take j)=fs at hX Mu eO |-
   refine ba ?_
   refine⟨_,rfl,c,rfl,⟨_,SqL.of x6.c⟩,fun I hI=>?_⟩
   refine lN (K:=K) (a:=c) (xs:=xs) (fun i acc H7=>ak H6 H7/\H7 I=some (.lst acc)/\acc=((range i).filter (inn cs (Srt.sub h))).map fun i:Nat=>V.int (i:Int)) ⟨ak.new hI,af,rfl⟩ (fun i acc H7 _ ⟨s7,_,_⟩=>SqL.of (s7 _ _ x6.c)) ?_ ?_
   ·rintro i y pp acc H7 hy hpp ⟨s7,Dn,rfl⟩
    have hi:i < cs.length:=by rw[<- x.hC.1];exact (List.getElem?_eq_some_iff.mp hy).1
    obtain⟨v,ev,rc,pc,kc,rfl,e1,e2,e3⟩:=x6.hC.2 i cs[i] (getElem?_eq_getElem hi)
    rw[ev] at hy
    cases hy
    have h6:=(x.due _ (getElem_mem hi)).2
    have s8:=s7.trans (ak.new (o:=.tup [.int (i:Int),.ref rc]) hpp)
    have g1:=s8 _ _ e1
    have g3:=s8 _ _ e3
    have gt:=s8 _ _ t6
    have gI:=(ak.new (o:=.tup [.int (i:Int),.ref rc]) hpp) _ _ Dn
    have ein:inn cs (Srt.sub h) i=lies cs[i].hp (Srt.sub h):=by unfold inn;rw[fK hi]
    rw[iO,ein]
    have len:(((range i).filter (inn cs (Srt.sub h))).map fun i:Nat=>V.int (i:Int)).length<=16:=by
     rw[length_map]
     refine le_trans (length_filter_le _ _) ?_
     rw[length_range]
     have:=x.c16
     omega
    generalize (((range i).filter (inn cs (Srt.sub h))).map fun i:Nat=>V.int (i:Int))=A' at gI len |-
    refine⟨pp,_,rfl,SqT.of af,rfl,_,_,rfl,_,_,rfl,rfl,?_⟩
    generalize upd H7 pp (.tup [.int (i:Int),.ref rc])=H8 at s8 g1 g3 gt gI |-
    clear e1 e2 e3 s7 hpp Dn ev ein
    generalize cs[i]=C at h6 g1 g3 |-
    clear x x3 x6 hX s6 hts hE
    k_extra "rx"
    refine⟨kc,ts h,C.hp,Srt.sub h,rfl,g3,gt,h6,fun H9 s9=>?_⟩
    have OV:=s9 _ _ gI
    have Al:=s8.trans s9
    clear gI s8 s9 g1 g3 gt
    k_extra "rx"
    cases e:lies C.hp (Srt.sub h) with
    | true =>
     rw[if_pos rfl]
     k_extra "rx"
     exact⟨OV,ay (by omega),bg hI Al,af,rfl⟩
    | false =>
     rw[if_neg Bool.false_ne_true]
     exact⟨Al,OV,(append_nil _).symm⟩
   ·rintro acc H7 ⟨s7,Dn,rfl⟩
    have e7:xs.length=cs.length:=x.hC.1
    rw[e7] at Dn
    have eI:((range cs.length).filter (inn cs (Srt.sub h))).map (fun i:Nat=>V.int (i:Int))=(cU cs (Srt.sub h)).map fun i:Nat=>V.int (i:Int):=rfl
    rw[eI] at Dn
    have x7:=x6.same s7
    have n7:=s7 _ _ n6
    have t7:=s7 _ _ t6
    have MA:=hX.ts (TS.of s7)
    have E7:=s7 _ _ hE
    have F7:=s7 _ _ C_
    have T7:∀ i,i < 2 ^ ws.length->H7 (ts i)=some (.tup ((Srt.sub i).map V.int)):=fun i hi=>s7 _ _ (hts i hi)
    have JC:=s6.trans s7
    refine ba ?_
    clear s7 x6 n6 t6 hX hE C_ hts s6 eI e7 hI
    refine⟨_,rfl,I,rfl,⟨_,SqL.of Dn⟩,fun l2 cG=>?_⟩
    refine aV (K:=K) (a:=I) (xs:=(cU cs (Srt.sub h)).map fun i:Nat=>V.int (i:Int)) (fun a acc H8=>ak H7 H8/\H8 l2=some (.lst acc)/\acc=((((cU cs (Srt.sub h)).take a).filter q).map fun i=>num (cK cs ps q) (cI cs ps q i)).map V.int) ⟨ak.new cG,af,rfl⟩ (fun a acc H8 _ ⟨s8,_,_⟩=>SqL.of (s8 _ _ Dn)) ?_ ?_
    ·rintro a y acc H8 hy ⟨s8,lq,rfl⟩
     have al:=(List.getElem?_eq_some_iff.mp hy).1
     rw[length_map] at al
     rw[getElem?_map,getElem?_eq_getElem al] at hy
     cases hy
     have hi:=cX (getElem_mem al)
     have e1:=fh q (fun i=>num (cK cs ps q) (cI cs ps q i)) al
     have len:((((cU cs (Srt.sub h)).take a).filter q).map fun i=>num (cK cs ps q) (cI cs ps q i)).length<=16:=by
      rw[length_map]
      refine le_trans (length_filter_le _ _) ?_
      rw[length_take]
      have:=j9 cs (Srt.sub h)
      have:=x.c16
      omega
     rw[e1,map_append]
     generalize ((((cU cs (Srt.sub h)).take a).filter q).map fun i=>num (cK cs ps q) (cI cs ps q i))=A' at lq len |-
     generalize (cU cs (Srt.sub h))[a]=i at hi |-
     have ei:=oO (q:=q) hi
     have a1:=r6 (fun i=>num (cK cs ps q) (cI cs ps q i)) V.int hi
     have p8:=s8 _ _ x7.pl
     have n8:=s8 _ _ n7
     clear e1
     refine ba ?_
     refine⟨_,rfl,_,rfl,pl,plV cs.length q,rfl,.inl (SqL.of p8),rfl,mD,?_⟩
     unfold plV
     rw[fS,ei]
     clear p8 ei
     cases hq:q i with
     | true =>
      clear x x3 x7 MA JC T7 E7
      k_extra "rx"
      refine yG ?_
      k_extra "rx"
      exact⟨lq,ay (by rw[length_map];omega),bg cG s8,af,rfl⟩
     | false =>
      clear x x3 x7 MA JC T7 E7
      k_extra "rx"
      refine uX ?_
      exact⟨s8,lq,by rw[if_neg Bool.false_ne_true];exact (append_nil _).symm⟩
    ·rintro acc H8 ⟨s8,lq,rfl⟩
     have e8:(cU cs (Srt.sub h)).take ((cU cs (Srt.sub h)).map fun i:Nat=>V.int (i:Int)).length=cU cs (Srt.sub h):=by rw[length_map,take_length]
     rw[e8] at lq
     refine⟨l2,_,rfl,lq,?_⟩
     rw[Fq (u:=cK cs ps q) (ps:=ps)]
     have x8:=x7.same s8
     have n8:=s8 _ _ n7
     have t8:=s8 _ _ t7
     have Nl:=s8 _ _ Dn
     have K3:=MA.ts (TS.of s8)
     have E8:=s8 _ _ E7
     have F8:=s8 _ _ F7
     have T8:∀ i,i < 2 ^ ws.length->H8 (ts i)=some (.tup ((Srt.sub i).map V.int)):=fun i hi=>s8 _ _ (T7 i hi)
     have Kh:=JC.trans s8
     have zD:=BG x (Srt.sub h)
     clear s8 x7 n7 t7 Dn MA E7 F7 T7 JC lq cG e8
     have zv:=ay (n:=0) (by decide)
     refine ba ?_
     refine⟨_,rfl,_,_,rfl,rfl,_,rfl,?_⟩
     cases hd:decide (0 < b_ (cK cs ps q) cs q (Srt.sub h)) with
     | false =>
      have HM:decide (0 < DB cs ps q h)=false:=hd
      rw[if_neg Bool.false_ne_true]
      refine kN _ _ ⟨zP,_,_,_,_,rfl,Kh,E8,T8,F8,?_⟩
      rw[eO,HM,if_neg Bool.false_ne_true,append_nil]
      exact K3
     | true =>
      have HM:decide (0 < DB cs ps q h)=true:=hd
      rw[if_pos rfl]
      refine⟨_,rfl,I,rfl,⟨_,SqL.of Nl⟩,fun l3 lb=>?_⟩
      refine aV (K:=K) (a:=I) (xs:=(cU cs (Srt.sub h)).map fun i:Nat=>V.int (i:Int)) (fun a acc H9=>ak H8 H9/\H9 l3=some (.lst acc)/\acc=((((cU cs (Srt.sub h)).take a).filter (fun i=>!q i)).map fun i=>num (cK cs ps q) (cI cs ps q i)).map V.int) ⟨ak.new lb,af,rfl⟩ (fun a acc H9 _ ⟨s9,_,_⟩=>SqL.of (s9 _ _ Nl)) ?_ ?_
      ·rintro a y acc H9 hy ⟨s9,Ae,rfl⟩
       have al:=(List.getElem?_eq_some_iff.mp hy).1
       rw[length_map] at al
       rw[getElem?_map,getElem?_eq_getElem al] at hy
       cases hy
       have hi:=cX (getElem_mem al)
       have e1:=fh (fun i=>!q i) (fun i=>num (cK cs ps q) (cI cs ps q i)) al
       have len:((((cU cs (Srt.sub h)).take a).filter (fun i=>!q i)).map fun i=>num (cK cs ps q) (cI cs ps q i)).length<=16:=by
        rw[length_map]
        refine le_trans (length_filter_le _ _) ?_
        rw[length_take]
        have:=j9 cs (Srt.sub h)
        have:=x.c16
        omega
       rw[e1,map_append]
       generalize ((((cU cs (Srt.sub h)).take a).filter (fun i=>!q i)).map fun i=>num (cK cs ps q) (cI cs ps q i))=A' at Ae len |-
       generalize (cU cs (Srt.sub h))[a]=i at hi |-
       have ei:=oO (q:=q) hi
       have a1:=r6 (fun i=>num (cK cs ps q) (cI cs ps q i)) V.int hi
       have p9:=s9 _ _ x8.pl
       have n9:=s9 _ _ n8
       clear e1
       refine ba ?_
       refine⟨_,rfl,_,rfl,pl,plV cs.length q,rfl,.inl (SqL.of p9),rfl,mD,?_⟩
       unfold plV
       rw[fS,ei]
       clear p9 ei
       cases hq:q i with
       | true =>
        clear x x3 x8 K3 Kh T8 E8
        k_extra "rx"
        refine uX ?_
        exact⟨s9,Ae,(append_nil _).symm⟩
       | false =>
        clear x x3 x8 K3 Kh T8 E8
        k_extra "rx"
        refine yG ?_
        k_extra "rx"
        exact⟨Ae,ay (by rw[length_map];omega),bg lb s9,af,rfl⟩
      ·rintro acc H9 ⟨s9,Ae,rfl⟩
       have e9:(cU cs (Srt.sub h)).take ((cU cs (Srt.sub h)).map fun i:Nat=>V.int (i:Int)).length=cU cs (Srt.sub h):=by rw[length_map,take_length]
       rw[e9] at Ae
       refine⟨l3,_,rfl,Ae,?_⟩
       rw[Be (u:=cK cs ps q) (ps:=ps)]
       have x9:=x8.same s9
       have t9:=s9 _ _ t8
       have PD:=K3.ts (TS.of s9)
       have E9:=s9 _ _ E8
       have F9:=s9 _ _ F8
       have T9:∀ i,i < 2 ^ ws.length->H9 (ts i)=some (.tup ((Srt.sub i).map V.int)):=fun i hi=>s9 _ _ (T8 i hi)
       have Rv:=Kh.trans s9
       have zw:=qA (hs:=Srt.sub h) x.wz (sub_len h)
       have om:IntMulOk (aZ ws (Srt.sub h)) (cK cs ps q):=zw.ok zu (by decide)
       have fl:zP.length<=64:=by rw[PD.1];exact Mu
       clear s9 x8 n8 t8 Nl K3 E8 F8 T8 Kh Ae lb e9 zD
       have w9:=x9.w
       refine ba ?_
       k_extra "rx"
       refine n_ ?_
       k_extra "rx"
       refine⟨.inl ⟨rfl,_,SqL.of F9⟩,?_⟩
       k_extra "rx"
       refine⟨w,ts h,ws,Srt.sub h,rfl,w9,t9,sub_len h,vX ws.length x.w6 h oj,fun H10 zX=>?_⟩
       k_extra "rx"
       refine bK (by show 3<=64;decide) fun r H11 hr s' ON=>?_
       have p_:=zX.trans s'
       have F11:=p_ _ _ F9
       have E11:=p_ _ _ E9
       have MQ:=PD.ts (TS.of p_)
       have xj:=p_ _ _ t9
       have N2:=Rv.trans p_
       have nt:∀ a xs,H11 a=some (.tup xs)->a≠F:=fun a xs ha z=>by rw[z,F11] at ha;cases ha
       k_extra "rx"
       refine rV F11 (by omega) fun H12 F12 GC=>?_
       refine kN _ _ ⟨_,_,_,_,_,rfl,fun b o hb=>GC b o (fun z=>by rw[z,hF] at hb;cases hb) (N2 _ _ hb),GC _ _ Nd E11,fun i hi=>GC _ _ (nt _ _ (p_ _ _ (T9 i hi))) (p_ _ _ (T9 i hi)),F12,?_⟩
       rw[eO,HM,if_pos rfl]
       exact (MQ.ts (TS.frl F11 GC)).snoc (f:=(h,RB ws cs ps q h,DB cs ps q h)) (t:=ts h) (GC _ _ (nt _ _ ON) ON) (GC _ _ (nt _ _ xj) xj)
  ·rintro σ H6 ⟨zP,v8,v9,v10,v11,rfl,s6,hE,hts,C_,hX⟩
   rw[length_map,take_length] at hX
   exact⟨_,rfl,fin F zP H6 (s3.trans s6) KE C_ hX⟩
theorem rG(D:aS K mg "least_fill" i4 f fd)(T:Txt K mg cx)(d_:aq P w K mg base (CXR P w) 2 "lowest" ["number","under"] (iR K cx))(sS:aq P w K mg base CX0 1 "below" ["one","other"] qu):aq P w K mg base CX0 3 "least_fill" ["found"] ir:=by
 refine D.ok (D.q cQ (fun vs H Q E h=>?_) (fun bW A outer s H vs Q E hr h=>?_)) (D.fn.binds fun _ _ _ _ _ _ us hl=>match us,hl with | [_],_=>rfl)
 ·obtain⟨_,_,_,rfl,_⟩:=h
  rfl
 obtain⟨F,xs,fs,rfl,hF,hX,hZ,hQ⟩:=h
 refine⟨_,(ag (aO 1 cQ.nd (bh (aH ae ae)))
   (ag (bR PassesOwn.never rfl (aM (K:=K) rfl (qv 0)) (eK (K:=K) (n:=3) rfl rfl (aY (au (i:=2) cQ.nd rfl (inl rfl)) (aY (au (i:=3) cQ.nd rfl (inl rfl)) (aY (au (i:=4) cQ.nd rfl (inl rfl)) eo)))) (ah (bX (cE (aJ sS (aH (bh (aH (qv 3) (qv 4))) (qv 1)))) (ah (aO 1 cQ.nd (bh (aH (qv 3) (qv 4))))) be)))
   (ah (aB (Hc d_ hr.le wb (aH (aj (qv 1) ae) (aj (qv 1) ae))))))),?_⟩
 refine⟨by decide,fun r0 N_=>?_⟩
 have s0:=ak.new (o:=.tup [.int 1,.int 1]) N_
 refine⟨_,rfl,F,rfl,⟨_,SqL.of (s0 _ _ hF)⟩,jE (K:=K) (a:=F) (xs:=xs) (fun i σ H2=>∃ r v1 v2 v3,σ=[some (.ref F),some (.ref r),v1,v2,v3]/\ak H H2/\H2 r=some (.tup [.int (dF (fs.take i)).1,.int (dF (fs.take i)).2]))
  ⟨r0,none,none,none,rfl,s0,af⟩ (fun i σ H2 _ ⟨_,_,_,_,_,s2,_⟩=>SqL.of (s2 _ _ hF)) ?_ ?_⟩
 ·rintro i y σ H2 hy ⟨r,v1,v2,v3,rfl,s2,hr⟩
  have hi:i < xs.length:=(List.getElem?_eq_some_iff.mp hy).1
  have jK:i < fs.length:=by rw[<- hX.1];exact hi
  obtain⟨q,t,eq,hq,ht⟩:=hX.2 i fs[i] (getElem?_eq_getElem jK)
  rw[eq] at hy
  cases hy
  have mG:=s2 _ _ hq
  obtain⟨p0,zR,zD⟩:=hZ fs[i] (getElem_mem jK)
  obtain⟨l0,l1,l2⟩:=uk (fs:=fs.take i) fun f hf=>hZ f (List.mem_of_mem_take hf)
  rw[xi jK]
  generalize fs[i]=f at mG hq p0 zR zD ht |-
  generalize dF (fs.take i)=S at hr l0 l1 l2 |-
  clear hX hZ hQ hF s0 eq hq ht
  refine⟨q,_,rfl,SqT.of mG,rfl,_,_,rfl,_,_,rfl,_,_,rfl,rfl,?_⟩
  k_extra "rd"
  intro p hp
  have s3:=ak.new (o:=.tup [.int f.2.1,.int f.2.2]) hp
  refine⟨p,r,_,_,_,_,rfl,af,s3 _ _ hr,zR.mono (by decide),zD.mono (by decide),l1.mono (by decide),l2.mono (by decide),?_⟩
  have SH:=s3 _ _ hr
  have Fd:=s2.trans s3
  generalize upd H2 p (.tup [.int f.2.1,.int f.2.2])=H3 at SH Fd |-
  clear hr s3 hp s2
  unfold bB
  by_cases c:f.2.1*S.2 < S.1*f.2.2
  ·rw[if_pos c]
   k_extra "rd"
   intro w hw
   exact Fd.trans (ak.new hw)
  ·rw[if_neg c]
   k_extra "rd"
 ·rintro σ H2 ⟨r,v1,v2,v3,rfl,s2,hr⟩
  have e:fs.take xs.length=fs:=by rw[hX.1,take_length]
  rw[e] at hr
  obtain⟨l0,l1,l2⟩:=uk hZ
  k_extra "rd"
  exact⟨_,_,rfl,l2.mono (by decide),fun h=>absurd h (by omega),fun _ p hp=>hQ p _ (s2.trans (ak.new hp)) af⟩
theorem FA(D:aS K mg "rise" wD f fd)(T:Txt K mg cx)(qM:aq P w K mg base CX0 3 "bounds" ["worths","claims","parts","places"] nR)(jq:aq P w K mg base CX0 3 "least_fill" ["found"] ir)(iP:aq P w K mg base CX0 1 "within" ["touched","heap"] kQ):aq P w K mg base CX0 4 "rise" ["worths","claims","parts","places"] ug:=by
 refine D.ok (D.q mQ (fun vs H Q E h=>?_) (fun bW A outer s H vs Q E hr h=>?_)) (D.fn.binds fun _ _ _ _ _ _ us hl=>match us,hl with | [_,_,_,_],_=>rfl)
 ·obtain⟨_,_,_,_,_,_,_,_,_,_,_,_,rfl,_⟩:=h
  rfl
 obtain⟨w,c,p,pl,U,k,ws,xs,cs,ys,ps,q,rfl,x,hQ⟩:=h
 refine⟨_,(ag (aO 4 mQ.nd (aJ qM (ai (qv 0) (ai (qv 1) (ai (qv 2) (ai (qv 3) bq))))))
   (ag (jJ (i:=5) mQ.nd rfl (inr rfl) (aJ jq (aF (qv 4))))
   (ag (bX (aK (ur hr.units) (qv 5) (bh (aH ae ae)) (aX _)) (ah (aB (bh (aH (qv 5) (cm cg (by rfl) T.n_list dM (aF (qv 3))))))) be)
   (ag (jJ (i:=6) mQ.nd rfl (inr rfl) (ck ["heap","room","due"] [("reached", 5)] (aM (K:=K) rfl (qv 4)) (y4 (by decide) (by decide) (by decide)) (fun _ _ _ _ _=>⟨(eK (K:=K) (n:=3) rfl rfl (aY (au (i:=0) (show (["heap","room","due","reached"]:List Str).Nodup by decide +kernel) rfl (inl rfl)) (aY (au (i:=1) (show (["heap","room","due","reached"]:List Str).Nodup by decide +kernel) rfl (inl rfl)) (aY (au (i:=2) (show (["heap","room","due","reached"]:List Str).Nodup by decide +kernel) rfl (inl rfl)) eo)))),(iA (aK lg (aG bz (qv 2) (aj (qv 3) ae)) (aG bz (qv 1) (aj (qv 3) ae)) (aX _))),(qv 0)⟩)))
   (ag (BN (k:=7) "place" ["place"] [("spent", 6),("claims", 1)] mQ.nd rfl rfl rfl (aM (K:=K) rfl (qv 3)) (aE (by decide)) (fun c0 cl C fp s2 H2=>⟨(au (i:=0) (show (["place","spent","claims"]:List Str).Nodup by decide +kernel) rfl (inr rfl)),(iA (cE (aA (z_ rfl) (by rfl) T.n_any GR (aF (ck ["heap"] [("claims", 2),("place", 0)] (aM (K:=K) rfl (qv 1)) (aE (by decide)) (fun _ _ _ _ _=>⟨(au (i:=0) (show (["heap","claims","place"]:List Str).Nodup by decide +kernel) rfl (inl rfl)),bF,(aJ iP (aH (aj (aj (qv 1) (qv 2)) ae) (qv 0)))⟩)))))),(qv 0)⟩) rfl (by decide +kernel) (by decide) (fun _ _=>rfl) (fun _=>rfl) (by decide +kernel) (tE (by rfl)) (A8 (by rfl)))
   (ah (aB (bh (aH (qv 5) (qv 7)))))))))),?_⟩
 k_extra "rd"
 refine⟨w,c,p,pl,U,k,ws,xs,cs,ys,ps,q,rfl,x,fun F0 fv H1 s1 KE zb hX=>?_⟩
 k_extra "rd"
 have hZ:=HR x (dg (2 ^ ws.length))
 refine⟨F0,fv,_,rfl,zb,hX,hZ,fun r H2 s2 hr=>?_⟩
 obtain⟨u0,du,ou,zu⟩:=oI x
 have t0:=(cv u0 x.hU.pos du).1
 have L0:=Bl (R:=RB ws cs ps q) (D:=DB cs ps q) x.w6
 have eR:∀ i,bE U ws cs ps q (Srt.sub i)=RB ws cs ps q i*(U / cK cs ps q):=fun i=>oS u0 du ou
 have eD:∀ i,b_ U cs q (Srt.sub i)=DB cs ps q i*(U / cK cs ps q):=fun i=>oM u0 du ou
 have L1:=L0.scale t0 eR eD
 have zl:=uk hZ
 obtain⟨JY,JV⟩:=Bk zl.2.1 zl.2.2
 have he:=fun i=>FK (cs:=cs) (i:=i) x.w6 t0 eR eD L0
 have flen:(gQ (RB ws cs ps q) (DB cs ps q) (dg (2 ^ ws.length))).length<=64:=by
  unfold gQ
  rw[length_map]
  refine le_trans (length_filter_le _ _) ?_
  rw[oG _ x.w6]
  exact Bu x.w6
 generalize hfs:gQ (RB ws cs ps q) (DB cs ps q) (dg (2 ^ ws.length))=fs at hX hZ hr L0 L1 zl JY JV he flen
 generalize low (dF fs).1 (dF fs).2=lv at hr L0 L1 JY JV he
 have x2:=x.same (s1.trans s2)
 have X2:=hX.ts (TS.of s2)
 have F2:=s2 _ _ zb
 have j4:=s1.trans s2
 clear hfs hX zb zl s1 s2 L0 eR eD
 k_extra "rd"
 intro t1 J3
 have s4:=ak.new (o:=.tup [.int 1,.int 1]) J3
 refine⟨_,_,s4 _ _ hr,?_⟩
 have x4:=x2.same s4
 have C9:=s4 _ _ hr
 have F4:=s4 _ _ F2
 have X4:=X2.ts (TS.of s4)
 have oC:=j4.trans s4
 generalize upd H2 t1 (.tup [.int 1,.int 1])=H4 at x4 C9 F4 X4 oC |-
 clear x2 s4 J3 hr F2 X2 j4
 refine gO (fun h1=>?_) (fun h1=>?_)
 ·have hl:lv=(1,1):=Prod.ext h1.1 h1.2
  refine⟨_,rfl,_,rfl,pl,_,rfl,aP x4.pl,fun F2 Aj=>⟨by show 2<=sizeLine;decide,fun T hT=>?_⟩⟩
  have s5:=(ak.new (o:=.lst (plV cs.length q)) Aj).trans (ak.new (o:=.tup [.ref r,.ref F2]) hT)
  refine hQ T r F2 lv _ (oC.trans s5) af (s5 _ _ C9) (oC.free Aj) ?_ L1
  rw[(ak.new (o:=.tup [.ref r,.ref F2]) hT) F2 _ af]
  rw[E1 fun i hi=>(by unfold cJ;rw[decide_eq_true hl,Bool.true_or,Bool.and_true]:cJ _ _ _ lv cs q i=q i)]
 ·have hl:decide (lv=(1,1))=false:=decide_eq_false fun z=>h1 (by rw[z];exact⟨rfl,rfl⟩)
  refine⟨_,rfl,F0,rfl,⟨_,SqL.of F4⟩,fun S hS=>?_⟩
  refine aV (K:=K) (a:=F0) (xs:=fv) (fun a acc H5=>ak H4 H5/\H5 S=some (.lst acc)/\acc.length=((fs.take a).filter (d8 lv)).length/\∀(b:Nat) f,((fs.take a).filter (d8 lv))[b]?=some f->∃ t,acc[b]?=some (.ref t)/\H5 t=some (.tup ((Srt.sub f.1).map V.int))) ⟨ak.new hS,af,rfl,fun b f h=>by simp at h⟩ (fun a acc H5 _ ⟨s5,_⟩=>SqL.of (s5 _ _ F4)) ?_ ?_
  ·rintro a y acc H5 hy ⟨s5,My,F1,w_⟩
   have al:a < fs.length:=by rw[<- X4.1];exact (List.getElem?_eq_some_iff.mp hy).1
   obtain⟨r3,t3,er,h2,h3⟩:=X4.2 a fs[a] (getElem?_eq_getElem al)
   rw[er] at hy
   cases hy
   have hz:=hZ fs[a] (getElem_mem al)
   have st:(fs.take (a+1)).filter (d8 lv)=(fs.take a).filter (d8 lv)++(if d8 lv fs[a]=true then [fs[a]] else []):=by
    have:=fh (d8 lv) id al
    rwa [List.map_id,List.map_id] at this
   have MF:((fs.take a).filter (d8 lv)).length<=64:=le_trans (length_filter_le _ _) (by rw[length_take];omega)
   rw[st]
   generalize (fs.take a).filter (d8 lv)=A' at F1 w_ MF |-
   generalize fs[a]=f at h2 h3 hz |-
   have g2:=s5 _ _ h2
   have g3:=s5 _ _ h3
   have gr:=s5 _ _ C9
   have S_:IntMulOk f.2.2 lv.1:=hz.2.2.ok JY (by decide)
   have S3:IntMulOk f.2.1 lv.2:=hz.2.1.ok JV (by decide)
   clear he x x4 X4 hQ L1 hZ h2 h3 st er
   refine⟨r3,_,rfl,SqT.of g2,rfl,_,_,rfl,_,_,rfl,_,_,rfl,rfl,?_⟩
   k_extra "rd"
   have es:d8 lv f=decide (f.2.2*lv.1=f.2.1*lv.2):=by unfold d8;simp
   have nt:∀ a xs,H5 a=some (.tup xs)->a≠S:=fun a xs ha z=>by rw[z,My] at ha;cases ha
   by_cases e:f.2.2*lv.1=f.2.1*lv.2
   ·rw[if_pos e,es,decide_eq_true e,if_pos rfl]
    refine⟨ay (by omega),?_,by rw[length_append,length_append,F1];rfl,fun b g hb=>?_⟩
    ·intro b o hb
     rw[ax (fun z=>by rw[z,hS] at hb;cases hb)]
     exact s5 _ _ hb
    ·by_cases hbl:b < A'.length
     ·rw[getElem?_append_left hbl] at hb
      obtain⟨t,e1,e2⟩:=w_ b g hb
      exact⟨t,by rw[getElem?_append_left (by omega)];exact e1,by rw[ax (nt _ _ e2)];exact e2⟩
     ·have cG:=(List.getElem?_eq_some_iff.mp hb).1
      rw[length_append] at cG
      have eb:b=A'.length:=by
       have:([f]:List (Nat×Int×Int)).length=1:=rfl
       omega
      subst eb
      rw[getElem?_append_right (le_refl _),sub_self] at hb
      cases hb
      exact⟨t3,by rw[getElem?_append_right (by omega),F1,sub_self];rfl,by rw[ax (nt _ _ g3)];exact g3⟩
   ·rw[if_neg e,es,decide_eq_false e,if_neg Bool.false_ne_true,append_nil]
    exact⟨rfl,w_⟩
  ·rintro acc H5 ⟨s5,My,F1,w_⟩
   have ez:fs.take fv.length=fs:=by rw[X4.1,take_length]
   rw[ez] at F1 w_
   have x5:=x4.same s5
   have SA:=s5 _ _ C9
   have ze:=oC.trans s5
   have sl:(fs.filter (d8 lv)).length<=64:=le_trans (length_filter_le _ _) flen
   generalize fs.filter (d8 lv)=SL at F1 w_ he sl
   simp only[aD]
   have xpl:H5 pl=some (.lst (((range cs.length).filter q).map fun i:Nat=>V.int (i:Int))):=by
    have:=x5.pl
    unfold plV plL at this
    rwa [map_map] at this
   clear x4 C9 oC s5 X4 hZ F4 ez
   refine⟨_,rfl,pl,rfl,⟨_,SqL.of xpl⟩,fun l iT=>?_⟩
   refine aV (K:=K) (a:=pl) (xs:=((range cs.length).filter q).map fun i:Nat=>V.int (i:Int)) (fun a bu H6=>ak H5 H6/\H6 l=some (.lst bu)/\bu=((((range cs.length).filter q).take a).filter fun i=>SL.any fun f=>inn cs (Srt.sub f.1) i).map fun i:Nat=>V.int (i:Int)) ⟨ak.new iT,af,rfl⟩ (fun a bu H6 _ ⟨s6,_,_⟩=>SqL.of (s6 _ _ xpl)) ?_ ?_
   ·rintro a y bu H6 hy ⟨s6,rH,rfl⟩
    have al:=(List.getElem?_eq_some_iff.mp hy).1
    rw[length_map] at al
    rw[getElem?_map,getElem?_eq_getElem al] at hy
    cases hy
    have hi:((range cs.length).filter q)[a] < cs.length:=mem_range.mp (mem_filter.mp (getElem_mem al)).1
    rw[fh (fun i=>SL.any fun f=>inn cs (Srt.sub f.1) i) (fun i:Nat=>V.int (i:Int)) al]
    have len:(((((range cs.length).filter q).take a).filter fun i=>SL.any fun f=>inn cs (Srt.sub f.1) i).map fun i:Nat=>V.int (i:Int)).length<=16:=by
     rw[length_map]
     refine le_trans (length_filter_le _ _) ?_
     rw[length_take]
     have:=length_filter_le q (range cs.length)
     rw[length_range] at this
     have:=x.c16
     omega
    generalize ((((range cs.length).filter q).take a).filter fun i=>SL.any fun f=>inn cs (Srt.sub f.1) i).map (fun i:Nat=>V.int (i:Int))=A' at rH len |-
    generalize ((range cs.length).filter q)[a]=i at hi |-
    obtain⟨v,ev,rc,pc,kc,rfl,e1,e2,e3⟩:=x5.hC.2 i cs[i] (getElem?_eq_getElem hi)
    have a1:atI xs (i:Int)=some (.ref rc):=aQ ev
    have h6:=(x.due _ (getElem_mem hi)).2
    have ein:∀ hs,inn cs hs i=lies cs[i].hp hs:=fun hs=>by unfold inn;rw[fK hi]
    simp only[aD]
    refine⟨_,rfl,S,rfl,⟨_,SqL.of (s6 _ _ My)⟩,fun l2 cG=>?_⟩
    refine aV (K:=K) (a:=S) (xs:=acc) (fun b BW H7=>ak H6 H7/\H7 l2=some (.lst BW)/\BW=((SL.take b).map fun f=>inn cs (Srt.sub f.1) i).map V.bl) ⟨ak.new cG,af,rfl⟩ (fun b BW H7 _ ⟨s7,_,_⟩=>SqL.of (s7 _ _ (s6 _ _ My))) ?_ ?_
    ·rintro b y BW H7 hy ⟨s7,Fu,rfl⟩
     have bl:=(List.getElem?_eq_some_iff.mp hy).1
     rw[F1] at bl
     obtain⟨tj,et,ht⟩:=w_ b SL[b] (getElem?_eq_getElem bl)
     rw[et] at hy
     cases hy
     rw[bx _ bl,map_append,ein (Srt.sub SL[b].1)]
     have blen:((SL.take b).map fun f=>inn cs (Srt.sub f.1) i).length<=64:=by rw[length_map,length_take];omega
     generalize ((SL.take b).map fun f=>inn cs (Srt.sub f.1) i)=B' at Fu blen |-
     generalize SL[b]=jj at ht |-
     have vS:=s6.trans s7
     have g1:=vS _ _ e1
     have g3:=vS _ _ e3
     have gc:=vS _ _ x5.c
     have gt:=vS _ _ ht
     generalize cs[i]=C at h6 g1 g3 |-
     clear e1 e2 e3 ein x5 x xpl hQ ev he w_ et ht L1
     simp only[aD,eC,if_true]
     k_extra "rd"
     refine⟨kc,tj,C.hp,Srt.sub jj.1,rfl,g3,gt,h6,fun H8 s8=>?_⟩
     refine⟨s8 _ _ Fu,ay (by omega),?_,rfl⟩
     intro b o hb
     rw[ax (fun z=>by rw[z,cG] at hb;cases hb)]
     exact s8 _ _ (s7 _ _ hb)
    ·rintro BW H7 ⟨s7,Fu,rfl⟩
     have e6:SL.take acc.length=SL:=by rw[F1,take_length]
     rw[e6] at Fu
     refine⟨l2,_,rfl,Fu,_,rfl,?_⟩
     have ea:(SL.map fun f=>inn cs (Srt.sub f.1) i).any id=SL.any fun f=>inn cs (Srt.sub f.1) i:=by rw[List.any_map];rfl
     rw[ea]
     have vS:=s6.trans s7
     have Ko:=s7 _ _ rH
     clear e1 e2 e3 ein x5 x xpl hQ ev ea he
     cases (SL.any fun f=>inn cs (Srt.sub f.1) i) with
     | true =>
      simp only[if_true]
      refine⟨_,rfl,Ko,ay (by omega),?_,af,rfl⟩
      intro b o hb
      rw[ax (fun z=>by rw[z,iT] at hb;cases hb)]
      exact vS _ _ hb
     | false =>
      simp only[false_eq_true,if_false,append_nil]
      exact⟨vS,Ko,trivial⟩
   ·rintro bu H6 ⟨s6,rH,rfl⟩
    rw[length_map,take_length] at rH
    simp only[aD]
    refine⟨_,rfl,_,rfl,by show 2<=sizeLine;decide,fun T hT=>?_⟩
    have s7:=s6.trans (ak.new (o:=.tup [.ref r,.ref l]) hT)
    refine hQ T r l lv _ (ze.trans s7) af (s7 _ _ SA) (ze.free iT) ?_ L1
    rw[(ak.new (o:=.tup [.ref r,.ref l]) hT) l _ rH]
    unfold plV plL cJ
    rw[map_map,filter_filter]
    congr 3
    refine filter_congr fun i _=>?_
    rw[hl,Bool.false_or,Bool.and_comm,he i]
theorem Cc(D:aS K mg "times" uj f fd)(T:Txt K mg cx)(d_:aq P w K mg base (CXR P w) 2 "lowest" ["number","under"] (iR K cx)):aq P w K mg base CX0 3 "times" ["one","other"] qC:=by
 refine D.ok (D.q CD (fun vs H Q E h=>?_) (fun bW A outer s H vs Q E hr h=>?_)) (D.fn.binds fun _ _ _ _ _ _ us hl=>match us,hl with | [_,_],_=>rfl)
 ·obtain⟨_,_,_,_,_,_,rfl,_⟩:=h
  rfl
 obtain⟨p,q,n1,u1,n2,u2,rfl,hp,hq,h1,h2,z1,z2,z3,z4,hQ⟩:=h
 refine⟨_,(ah (aB (Hc d_ hr.le wb (aH (aG bz (aj (qv 0) ae) (aj (qv 1) ae)) (aG bz (aj (qv 0) ae) (aj (qv 1) ae)))))),?_⟩
 k_extra "rx"
 exact⟨_,_,rfl,(z2.mul z4).mono (by decide),fun h=>absurd h (by have:=qd h1 h2;omega),fun _ r hr=>hQ r hr⟩
theorem zM(D:aS K mg "filled" qN f fd)(T:Txt K mg cx)(vW:aq P w K mg base CX0 4 "rise" ["worths","claims","parts","places"] ug)(sL:aq P w K mg base CX0 3 "times" ["one","other"] qC):aq P w K mg base CX0 5 "filled" ["worths","claims","parts","places"] nM:=by
 refine D.ok (D.q gm (fun vs H Q E h=>?_) (fun bW A outer s H vs Q E hr h=>?_)) (D.fn.binds fun _ _ _ _ _ _ us hl=>match us,hl with | [_,_,_,_],_=>rfl)
 ·obtain⟨_,_,_,_,_,_,_,_,_,_,_,_,_,rfl,_⟩:=h
  rfl
 obtain⟨w,c,p,pl,U0,r,U,ws,xs,cs,ys,ps,q,rfl,x,hC,hI,hrr,hQ⟩:=h
 refine⟨_,(ag (aO 4 gm.nd (cm cg (by rfl) T.n_list dM (aF (qv 2))))
   (ag (aO 5 gm.nd (cm cg (by rfl) T.n_list dM (aF (qv 3))))
   (ag (jR PassesOwn.never (aK pK (aA aW (by rfl) T.n_len bQ (aF (qv 5))) ae (aX _)) (ag (jJ (i:=6) gm.nd rfl (inr rfl) (aJ vW (ai (qv 0) (ai (qv 1) (ai (qv 4) (ai (qv 5) bq))))))
   (ag (bR PassesOwn.never rfl (aM (K:=K) rfl (aj (qv 6) ae)) (au (i:=7) gm.nd rfl (inl rfl)) (ah (nk (aJ sL (aH (aj (qv 6) ae) (aj (aj (qv 1) (qv 7)) ae))) (sV (qv 4) (qv 7) set_list))))
   (ah (fF (k:=5) ["place"] [("risen", 6)] gm.nd (aM (K:=K) rfl (qv 5)) (aE (by decide)) (fun _ _ _ _ _=>⟨(au (i:=0) (show (["place","risen"]:List Str).Nodup by decide +kernel) rfl (inl rfl)),(iA (aK (nu (K:=K) rfl) (qv 0) (aj (qv 1) ae) (by rfl))),(qv 0)⟩))))))
   (ah (aB (qv 4)))))),?_⟩
 refine⟨_,rfl,p,_,rfl,aP x.p,fun Rw Nf=>?_⟩
 have s1:=ak.new (o:=.lst ys) Nf
 refine⟨_,rfl,pl,_,rfl,aP (s1 _ _ x.pl),fun Gg Mp=>?_⟩
 have s2:=ak.new (o:=.lst (plV cs.length q)) Mp
 have j4:=s1.trans s2
 have gR:=s2 Rw _ af
 have gG:upd (upd H Rw (.lst ys)) Gg (.lst (plV cs.length q)) Gg=_:=af
 have Mc:Gg≠Rw:=fun z=>by rw[z,af] at Mp;cases Mp
 generalize upd (upd H Rw (.lst ys)) Gg (.lst (plV cs.length q))=H2 at j4 gR gG |-
 clear s1 s2 Mp
 refine⟨fun m σ H'=>∃ Gg r U u3 jC q' v6 v7 f,σ=[some (.ref w),some (.ref c),some (.ref p),some (.ref pl),some (.ref Rw),some (.ref Gg),v6,v7]/\ak H H'/\H' Rw=some (.lst u3)/\cf H' u3 jC/\H' Gg=some (.lst (plV cs.length q'))/\Gg≠Rw/\FI U0 ws cs r U jC q'/\m=(plL cs.length q').length/\r+m<=19/\m<=f/\bH ws cs f jC q'=bH ws cs (plL cs.length q).length ps q,⟨_,Gg,r,U,ys,ps,q,_,_,_,rfl,j4,gR,x.hR.ts (TS.of j4),gG,Mc,hI,rfl,hrr,le_refl _,rfl⟩,?_⟩
 clear gR gG Mc j4 hI hrr
 rintro m σ H3 ⟨Gg,r,U,u3,jC,q',v6,v7,f,rfl,s3,gR,hR,gG,Mc,hI,rfl,hrr,hf,hE⟩
 have pe:(plV cs.length q').length=(plL cs.length q').length:=length_map _
 k_extra "rx"
 refine sG (fun hb=>?_) (fun hb=>?_)
 ·have hb:=of_decide_eq_true hb
  rw[pe] at hb
  have hne:plL cs.length q'≠[]:=fun z=>by rw[z] at hb;simp at hb
  have hlt:=hI.less hC hne
  obtain⟨U1,OH,_⟩:=hI.next hC
  obtain⟨hL,Nq⟩:=hI.lvl hC
  obtain⟨f,rfl⟩:∃ g,f=g+1:=⟨f - 1,by omega⟩
  rw[ng f hne] at hE
  have xl:=Dq.lv (p:=Rw) (pl:=Gg) (ys:=u3) ⟨s3 _ _ x.w,s3 _ _ x.c,x.hC.ts (TS.of s3),gR,hR,gG⟩ hC hI (by omega)
  have hlv:=fun lv L=>hI.Ll (lv:=lv) hC L
  have hlz:=fun lv L=>hI.K9 (lv:=lv) hC (by omega) L
  refine⟨fun σ' H''=>∃ Gg vR v6 v7,σ'=[some (.ref w),some (.ref c),some (.ref p),some (.ref pl),some (.ref Rw),some (.ref Gg),v6,v7]/\ak H H''/\H'' Rw=some (.lst vR)/\cf H'' vR (stp (lvP ws cs jC q') cs jC (hqP ws cs jC q'))/\H'' Gg=some (.lst (plV cs.length fun i=>q' i && !hqP ws cs jC q' i))/\Gg≠Rw,fun σ' H'' ⟨G2,vR,a6,a7,e1,e2,e3,e4,e5,e6⟩=>⟨_,hlt,G2,r+1,U1,vR,_,_,a6,a7,f,e1,e2,e3,e4,e5,e6,OH,rfl,by omega,by omega,hE⟩,?_⟩
  have dz:∀ i,i < cs.length->0 < (aI cs i).2/\Sz 20000 (aI cs i).1/\Sz 4400 (aI cs i).2:=fun i hi=>by
   have d:=(hC.dp hi).1
   exact⟨d.pos,(d.nsz hC.u0).mono (by decide),(Sz.le hC.uz (cC d.toOk.dvd hC.u0)).mono (by decide)⟩
  have plen:=hI.len
  clear hE hlt OH hf hrr hQ hb hI
  refine u7 (fun σ' H'=>∃ T rt F vR v7,σ'=[some (.ref w),some (.ref c),some (.ref p),some (.ref pl),some (.ref Rw),some (.ref Gg),some (.ref T),v7]/\ak H H'/\H' Rw=some (.lst vR)/\cf H' vR (stp (lvP ws cs jC q') cs jC (hqP ws cs jC q'))/\H' Gg=some (.lst (plV cs.length q'))/\H' T=some (.tup [.ref rt,.ref F])/\H' F=some (.lst (plV cs.length (hqP ws cs jC q')))) ?_ fun uM key=>?_
  ·clear gR hR gG s3 hL Nq xl hlv hlz hne
   generalize hqP ws cs jC q'=hq
   rintro σ' H5 ⟨T,rt,F,vR,v7,rfl,s5,gR,hR,gG,hT,hF⟩
   rw[qt] at gG
   refine⟨_,rfl,Gg,rfl,⟨_,SqL.of gG⟩,fun l hl=>?_⟩
   have nl:l≠Rw:=fun z=>by rw[z,gR] at hl;cases hl
   refine aV (K:=K) (a:=Gg) (xs:=((range cs.length).filter q').map fun i:Nat=>V.int (i:Int)) (fun a acc H6=>ak H5 H6/\H6 l=some (.lst acc)/\acc=((((range cs.length).filter q').take a).filter fun i=>!hq i).map fun i:Nat=>V.int (i:Int)) ⟨ak.new hl,af,rfl⟩ (fun a acc H6 _ ⟨s6,_,_⟩=>SqL.of (s6 _ _ gG)) ?_ ?_
   ·rintro a y acc H6 hy ⟨s6,rH,rfl⟩
    have al:=(List.getElem?_eq_some_iff.mp hy).1
    rw[length_map] at al
    rw[getElem?_map,getElem?_eq_getElem al] at hy
    cases hy
    have hi:((range cs.length).filter q')[a] < cs.length:=mem_range.mp (mem_filter.mp (getElem_mem al)).1
    rw[fh (fun i=>!hq i) (fun i:Nat=>V.int (i:Int)) al]
    have len:(((((range cs.length).filter q').take a).filter fun i=>!hq i).map fun i:Nat=>V.int (i:Int)).length<=16:=by
     rw[length_map]
     refine le_trans (length_filter_le _ _) ?_
     rw[length_take]
     have:=length_filter_le q' (range cs.length)
     rw[length_range] at this
     have:=hC.c16
     omega
    generalize ((((range cs.length).filter q').take a).filter fun i=>!hq i).map (fun i:Nat=>V.int (i:Int))=A' at rH len |-
    generalize ((range cs.length).filter q')[a]=i at hi |-
    have ei:decide ((i:Int)∈plL cs.length hq)=hq i:=oO hi
    simp only[aD]
    refine⟨_,rfl,_,rfl,T,_,1,_,rfl,rfl,dZ (s6 _ _ hT),rfl,F,plV _ hq,rfl,.inl (SqL.of (s6 _ _ hF)),rfl,mD,?_⟩
    unfold plV
    rw[fS,ei]
    cases hq i with
    | true =>
     refine⟨_,rfl,uX ?_⟩
     exact⟨s6,rH,by simp⟩
    | false =>
     refine⟨_,rfl,yG ⟨_,rfl,rH,ay (by omega),bg hl s6,af,by simp⟩⟩
   ·rintro acc H6 ⟨s6,rH,rfl⟩
    rw[length_map,take_length] at rH
    refine ba ⟨l,vR,_,_,rfl,s5.trans s6,s6 _ _ gR,hR.ts (TS.of s6),?_,nl⟩
    rw[rH,qt,filter_filter]
    congr 3
    exact filter_congr fun i _=>Bool.and_comm _ _
  ·k_extra "rx"
   refine⟨w,c,Rw,Gg,U,_,ws,xs,cs,u3,jC,q',rfl,xl,fun T rt F lv H4 s4 hT hrt nF hF Kd=>?_⟩
   have el:=hlv lv Kd
   rw[el,Nq] at hF
   obtain⟨l0,JY,JV⟩:=hlz lv Kd
   clear hL Nq hlv Kd hlz hne xl
   subst el
   generalize lvP ws cs jC q'=lv at key hrt l0 JY JV |-
   generalize hqP ws cs jC q'=hq at hF key |-
   have oC:=s3.trans s4
   have Pc:=s4 _ _ gR
   have O_:=s4 _ _ gG
   have lj:=hR.ts (TS.of s4)
   have Sa:F≠Rw:=fun z=>by rw[z,gR] at nF;cases nF
   clear gR gG hR s4 s3 nF
   have Mr:=hF
   rw[qt] at Mr
   refine⟨_,rfl,T,_,1,_,rfl,rfl,dZ hT,rfl,F,rfl,⟨_,SqL.of Mr⟩,eW (K:=K) (a:=F) (xs:=((range cs.length).filter hq).map fun i:Nat=>V.int (i:Int)) (fun j σ H'=>∃ vR v7,σ=[some (.ref w),some (.ref c),some (.ref p),some (.ref pl),some (.ref Rw),some (.ref Gg),some (.ref T),v7]/\ak H H'/\H' Rw=some (.lst vR)/\cf H' vR (pV lv cs jC (((range cs.length).filter hq).take j))/\H' Gg=some (.lst (plV cs.length q'))/\H' T=some (.tup [.ref rt,.ref F])/\H' rt=some (.tup [.int lv.1,.int lv.2])/\H' F=some (.lst (((range cs.length).filter hq).map fun i:Nat=>V.int (i:Int)))) ⟨u3,_,rfl,oC,Pc,by rw[List.take_zero,CU];exact lj,O_,hT,hrt,Mr⟩ (fun j σ H' _ ⟨_,_,_,_,_,_,_,_,_,z⟩=>SqL.of z) ?_ ?_⟩
   ·clear oC Pc lj O_ hT hrt hF Mr
    rintro j y σ H5 NN BB hy ⟨vR,v7,rfl,s5,gR,hR,gG,hT,hrt,hF⟩ kN kB
    clear kB key
    have al:=(List.getElem?_eq_some_iff.mp hy).1
    rw[length_map] at al
    rw[getElem?_map,getElem?_eq_getElem al] at hy
    cases hy
    have hi:((range cs.length).filter hq)[j] < cs.length:=mem_range.mp (mem_filter.mp (getElem_mem al)).1
    rw[take_succ_eq_append_getElem al] at kN
    have hyl:vR.length=cs.length:=by rw[hR.1,mF,plen]
    generalize ((range cs.length).filter hq).take j=A' at hR kN
    generalize ((range cs.length).filter hq)[j]=i at hi kN |-
    obtain⟨v,ev,rc,pc,kc,rfl,e1,e2,e3⟩:=x.hC.2 i cs[i] (getElem?_eq_getElem hi)
    have a1:atI xs (i:Int)=some (.ref rc):=aQ ev
    obtain⟨d0,d1,d2⟩:=dz i hi
    have ed:aI cs i=(cs[i].n,cs[i].u):=fW hi
    rw[ed] at d0 d1 d2
    have en:kh lv cs i=(kg (lv.1*cs[i].n) (lv.2*cs[i].u),jI (lv.1*cs[i].n) (lv.2*cs[i].u)):=by unfold kh;rw[ed];rfl
    have g1:=s5 _ _ e1
    have g2:=s5 _ _ e2
    have gc:=s5 _ _ x.c
    generalize cs[i]=C at g1 g2 d0 d1 d2 en
    k_extra "rx"
    refine⟨rt,pc,_,_,_,_,rfl,hrt,g2,l0,d0,JY.mono (by decide),JV,d1,d2,fun r1 Js=>?_⟩
    have s6:=ak.new (o:=.tup [.int (kg (lv.1*C.n) (lv.2*C.u)),.int (jI (lv.1*C.n) (lv.2*C.u))]) Js
    have g6:upd H5 r1 (.tup [.int (kg (lv.1*C.n) (lv.2*C.u)),.int (jI (lv.1*C.n) (lv.2*C.u))]) r1=some (.tup [.int (kh lv cs i).1,.int (kh lv cs i).2]):=by rw[af,en]
    generalize upd H5 r1 (.tup [.int (kg (lv.1*C.n) (lv.2*C.u)),.int (jI (lv.1*C.n) (lv.2*C.u))])=H6 at s6 g6 |-
    clear g1 g2 gc d0 d1 d2 en ed e1 e2 e3 a1 ev
    k_extra "rx"
    refine jS (k:=i) (s6 _ _ gR) (mi (by omega)) rfl fun H7 g7 f7=>?_
    have ts:TS H6 H7:=TS.frl (s6 _ _ gR) f7
    refine kN _ _ ⟨_,_,rfl,mK Nf (s5.trans s6) f7,g7,?_,f7 _ _ Mc (s6 _ _ gG),ts _ _ (s6 _ _ hT),ts _ _ (s6 _ _ hrt),f7 _ _ Sa (s6 _ _ hF)⟩
    rw[<- zm]
    exact ((hR.ts (TS.of s6)).ts ts).set (ts _ _ g6)
   ·rintro σ H5 ⟨vR,v7,rfl,s5,gR,hR,gG,hT,hrt,hF⟩
    refine key _ _ ⟨T,rt,F,vR,_,rfl,s5,gR,?_,gG,hT,by rw[qt];exact hF⟩
    rw[length_map,take_length,AZ plen] at hR
    exact hR
 ·have hz:plL cs.length q'=[]:=by
   have hb:=of_decide_eq_false hb
   rw[pe] at hb
   exact List.eq_nil_of_length_eq_zero (by omega)
  rw[pM f hz] at hE
  refine⟨_,rfl,hQ Rw u3 H3 s3 Nf gR ?_⟩
  rw[<- hE]
  exact hR
theorem sI(D:aS K mg "_law_pair" jT f fd)(T:Txt K mg cx)(fk:aq P w K mg base CX0 1 "_law_gcd" ["_law_one","_law_other"] gW)(gj:aq P w K mg base CX0 1 "_law_whole" ["_law_found"] iD):aq P w K mg base CX0 2 "_law_pair" ["_law_found"] iW:=by
 refine D.ok (D.q uy (fun vs H Q E h=>?_) (fun bW A outer s H vs Q E hr h=>?_)) (D.fn.binds fun _ _ _ _ _ _ us hl=>match us,hl with | [_],_=>rfl)
 ·obtain⟨_,_,_,rfl,_⟩:=h
  rfl
 obtain⟨p,n,u,rfl,hp,hu,hg,hz,hQ⟩:=h
 refine⟨_,(ag (bX (ll (kf (cE (aA jO (by rfl) T.n_isinstance dJ (aH (qv 0) (ma (v:=.ty "tuple") (by rfl) T.n_tuple vF rfl))))) (jv (aK yh (aA aW (by rfl) T.n_len bQ (aF (qv 0))) ae (aX _)))).pt (ah (aB jz)) be)
   (ag (bX (ll (kf (cE (aJ gj (aF (aj (qv 0) ae))))) (ll (kf (cE (aJ gj (aF (aj (qv 0) ae))))) (jv (aK n5 (aj (qv 0) ae) ae (aX _))))).pt (ah (aB jz)) be)
   (ah (aB (fD lg (aJ fk (aH (aj (qv 0) ae) (aj (qv 0) ae))) ae (aX _)))))),?_⟩
 k_extra "rd"
 refine gO (fun h1=>by omega) (fun h1=>?_)
 k_extra "rd"
 exact hQ
theorem rE(D:aS K mg "_law_pairs" iU f fd)(T:Txt K mg cx)(j3:aq P w K mg base CX0 2 "_law_pair" ["_law_found"] iW):aq P w K mg base CX0 3 "_law_pairs" ["_law_found","_law_many_here"] fG:=by
 refine D.ok (D.q rq (fun vs H Q E h=>?_) (fun bW A outer s H vs Q E hr h=>?_)) (D.fn.binds fun _ _ _ _ _ _ us hl=>match us,hl with | [_,_],_=>rfl)
 ·obtain⟨_,_,_,_,rfl,_⟩:=h
  rfl
 obtain⟨F,ys,ps,m,rfl,hF,hR,QV,hp,hQ⟩:=h
 refine⟨_,(ah (aB (tG (aA jO (by rfl) T.n_isinstance dJ (aH (qv 0) (ma (v:=.ty "list") (by rfl) T.n_list dM rfl))) (tG (fD lg (aA aW (by rfl) T.n_len bQ (aF (qv 0))) (qv 1) (aX _)) (tM (aA (fe rfl) (by rfl) T.n_all lD (aF (ck ["_law_one"] [] (aM (K:=K) rfl (qv 0)) (aE (by decide)) (fun _ _ _ _ _=>⟨(au (i:=0) (show (["_law_one"]:List Str).Nodup by decide +kernel) rfl (inl rfl)),bF,(aJ j3 (aF (qv 0)))⟩))))))))),?_⟩
 have P9:qw (.ref F) H=some "list" := by simp only[qw,hF]
 have hyl:=hR.1
 k_extra "rx"
 refine tx ?_
 k_extra "rx"
 refine⟨_,_,_,rfl,by decide,P9,?_⟩
 refine⟨_,rfl,brk (fun _=>?_) (fun z=>absurd z (by decide))⟩
 refine tx ?_
 k_extra "rx"
 refine⟨rfl,?_⟩
 refine⟨_,rfl,gO (fun h1=>?_) (fun h1=>?_)⟩
 ·have h1:(ys.length:Int)=(m:Int):=V.int.inj h1
  have hm:decide (ps.length=m)=true:=decide_eq_true (by omega)
  rw[hm] at hQ
  k_extra "rx"
  refine⟨_,rfl,F,rfl,⟨_,SqL.of hF⟩,fun l hl=>?_⟩
  refine aV (K:=K) (a:=F) (xs:=ys) (fun i acc H2=>ak H H2/\H2 l=some (.lst acc)/\acc=(replicate i true).map V.bl) ⟨ak.new hl,af,rfl⟩ (fun i acc H2 _ ⟨s2,_,_⟩=>SqL.of (s2 _ _ hF)) ?_ ?_
  ·rintro i y acc H2 hy ⟨s2,cG,rfl⟩
   have hi:i < ps.length:=by rw[<- hyl];exact (List.getElem?_eq_some_iff.mp hy).1
   obtain⟨r,er,C8⟩:=hR.2 i ps[i] (getElem?_eq_getElem hi)
   rw[er] at hy
   cases hy
   have e:ps.getD i (0,1)=ps[i]:=by simp[getD_eq_getElem?_getD,hi]
   obtain⟨p1,p2,p3⟩:=hp i hi
   rw[e] at p1 p2 p3
   have len:((replicate i true).map V.bl).length<=16:=by rw[length_map,length_replicate];omega
   rw[List.replicate_succ',map_append]
   generalize (replicate i true).map V.bl=A' at cG len |-
   simp only[aD,eC,if_true]
   k_extra "rx"
   refine⟨r,_,_,rfl,s2 _ _ C8,p1,p2,p3,cG,ay (by omega),bg hl s2,af,rfl⟩
  ·rintro acc H2 ⟨s2,cG,rfl⟩
   refine⟨l,_,rfl,cG,?_⟩
   have ea:(replicate ys.length true).all id=true:=by simp
   rw[ea]
   exact hQ H2 s2
 ·have hm:decide (ps.length=m)=false:=decide_eq_false fun z=>h1 (by rw[hyl,z])
  rw[hm] at hQ
  exact hQ H fun _ _ h=>h
theorem yT(D:aS K mg "shared" qo f fd)(T:Txt K mg cx)(qJ:aq P w K mg base CX0 5 "filled" ["worths","claims","parts","places"] nM):aq P w K mg base CX0 6 "shared" ["worths","claims"] m8:=by
 refine D.ok (D.q iM (fun vs H Q E h=>?_) (fun bW A outer s H vs Q E hr h=>?_)) (D.fn.binds fun _ _ _ _ _ _ us hl=>match us,hl with | [_,_],_=>rfl)
 ·obtain⟨_,_,_,_,_,_,rfl,_⟩:=h
  rfl
 obtain⟨w,c,U0,ws,xs,cs,rfl,x,hC,w0,hQ⟩:=h
 refine⟨_,(ag (fF (k:=2) ["claim"] [] iM.nd (aM (K:=K) rfl (qv 1)) (aE (by decide)) (fun _ _ _ _ _=>⟨(au (i:=0) (show (["claim"]:List Str).Nodup by decide +kernel) rfl (inl rfl)),bF,(bh (aH ae ae))⟩))
   (ag (bR PassesOwn.never rfl (aM (K:=K) rfl (HN rfl (ck ["claim"] [] (aM (K:=K) rfl (qv 1)) (aE (by decide)) (fun _ _ _ _ _=>⟨(au (i:=0) (show (["claim"]:List Str).Nodup by decide +kernel) rfl (inl rfl)),bF,(aj (qv 0) ae)⟩)) (by rfl) T.n_sorted sk (by rfl) T.n_set HW)) (au (i:=3) iM.nd rfl (inr rfl)) (ag (fF (k:=4) ["place","claim"] [("rank", 3)] iM.nd (kD (K:=K) rfl (by rfl) T.n_enumerate (aF (qv 1))) (nh (by decide) (by decide)) (fun _ _ _ _ _=>⟨(eK (K:=K) (n:=2) rfl rfl (aY (au (i:=0) (show (["place","claim","rank"]:List Str).Nodup by decide +kernel) rfl (inl rfl)) (aY (au (i:=1) (show (["place","claim","rank"]:List Str).Nodup by decide +kernel) rfl (inl rfl)) eo))),(iA (uI (aK lg (aj (qv 1) ae) (qv 2) (aX _)) (oH (aK (wY hr.units) (aj (qv 1) ae) (bh (aH ae ae)) (aX _)))).pt),(qv 0)⟩))
   (ah (aO 2 iM.nd (aJ qJ (ai (qv 0) (ai (qv 1) (ai (qv 2) (ai (qv 4) bq)))))))))
   (ah (aB (qv 2))))),?_⟩
 have hxl:xs.length=cs.length:=x.hC.1
 have c16:=hC.c16
 refine mH (fun σ' H'=>∃ P ys v3 v4,σ'=[some (.ref w),some (.ref c),some (.ref P),v3,v4]/\ak H H'/\H P=none/\H' P=some (.lst ys)/\cf H' ys (cw cs)) ?_ fun uM key=>?_
 ·rintro σ' H1 ⟨P,ys,v3,v4,rfl,s1,nP,hP,hR⟩
  have x1:=x.same s1
  refine⟨_,rfl,c,rfl,⟨_,SqL.of x1.c⟩,fun l hl=>?_⟩
  refine aV (K:=K) (a:=c) (xs:=xs) (fun i acc H2=>ak H1 H2/\H2 l=some (.lst acc)/\acc=((cs.take i).map (·.rk)).map V.int) ⟨ak.new hl,af,rfl⟩ (fun i acc H2 _ ⟨s2,_,_⟩=>SqL.of (s2 _ _ x1.c)) ?_ ?_
  ·rintro i y acc H2 hy ⟨s2,cG,rfl⟩
   have hi:i < cs.length:=by rw[<- hxl];exact (List.getElem?_eq_some_iff.mp hy).1
   obtain⟨v,ev,rc,pc,kc,rfl,e1,e2,e3⟩:=x1.hC.2 i cs[i] (getElem?_eq_getElem hi)
   rw[ev] at hy
   cases hy
   rw[bx _ hi,map_append]
   have len:((cs.take i).map (·.rk)).length<=16:=by rw[length_map,length_take];omega
   generalize (cs.take i).map (·.rk)=A' at cG len |-
   have g1:=s2 _ _ e1
   simp only[aD,eC,if_true]
   k_extra "rx"
   exact⟨cG,ay (by rw[length_map];omega),bg hl s2,af,rfl⟩
  ·rintro acc H2 ⟨s2,cG,rfl⟩
   have ez:cs.take xs.length=cs:=by rw[hxl,take_length]
   rw[ez] at cG
   refine⟨l,_,rfl,cG,by rw[length_map];omega,fun Z zs hlt hmem hZ=>?_⟩
   have s3:=ak.new (o:=.lst (zs.map V.int)) hZ
   have gZ:upd H2 Z (.lst (zs.map V.int)) Z=_:=af
   have oh:=(s1.trans s2).trans s3
   have Nk:=(s2.trans s3) _ _ hP
   have uY:=hR.ts (TS.of (s2.trans s3))
   have P4:P≠Z:=fun z=>by rw[<- z,s2 _ _ hP] at hZ;cases hZ
   generalize upd H2 Z (.lst (zs.map V.int))=H3 at oh gZ Nk uY |-
   have rk:DH cs zs:=⟨hlt,hmem⟩
   obtain⟨K4,Kj⟩:=FI.cw hC w0
   clear cG s2 s3 hZ hl hP hR x1 s1 P4
   refine⟨Z,rfl,⟨_,SqL.of gZ⟩,eW (K:=K) (a:=Z) (xs:=zs.map V.int) (fun j σ H'=>∃ P ys v3 v4 U r,σ=[some (.ref w),some (.ref c),some (.ref P),v3,v4]/\ak H H'/\H P=none/\H' P=some (.lst ys)/\H' Z=some (.lst (zs.map V.int))/\cf H' ys (bp ws cs (zs.take j) (cw cs))/\FI U0 ws cs r U (bp ws cs (zs.take j) (cw cs)) q0/\Bd U cs (bp ws cs (zs.take j) (cw cs)) q0/\r+lO cs (zs.drop j)<=16) ⟨P,ys,_,_,U0,0,rfl,oh,nP,Nk,gZ,uY,K4,Kj,by have:=s_ (cs:=cs) (zs:=zs.drop 0);omega⟩ (fun j σ H' _ ⟨_,_,_,_,_,_,_,_,_,_,z,_⟩=>SqL.of z) ?_ ?_⟩
   ·clear Nk uY gZ oh K4 Kj nP
    rintro j y σ H4 NN BB hy ⟨P,ys,v3,v4,U,r,rfl,s4,nP,hP,gZ,hR,fi,bd,C9⟩ kN kB
    clear kB
    obtain⟨jl,rfl⟩:=int_at hy
    have ed:zs.drop j=zs[j]::zs.drop (j+1):=List.drop_eq_getElem_cons jl
    have et:zs.take (j+1)=zs.take j++[zs[j]]:=take_succ_eq_append_getElem jl
    have nz:zs[j]∉zs.drop (j+1):=fun z=>by
     have h1:=hlt.sublist (List.drop_sublist j zs)
     rw[ed] at h1
     have:=(pairwise_cons.mp h1).1 _ z
     omega
    rw[ed] at C9
    rw[et,oi] at kN
    obtain⟨U',r',Mt,Mi,C8⟩:=oU hC nz fi bd C9
    have fq:=fi.qp bd (qR cs zs[j])
    have cl:=kI (cs:=cs) nz
    generalize zs[j]=z at kN Mt Mi fq cl C9 nz ed et |-
    generalize bp ws cs (zs.take j) (cw cs)=ps at hR fi bd Mt Mi fq kN
    have x4:=x.same s4
    clear hy
    simp only[aD]
    refine mH (fun σ' H'=>∃ Pl,σ'=[some (.ref w),some (.ref c),some (.ref P),some (.int z),some (.ref Pl)]/\ak H4 H'/\H' Pl=some (.lst (plV cs.length (qR cs z)))) ?_ fun uM key=>?_
    ·rintro σ' H5 ⟨Pl,rfl,s5,QR⟩
     have x5:=x4.same s5
     k_extra "rx"
     refine⟨w,c,P,Pl,U0,r,U,ws,xs,cs,ys,ps,qR cs z,rfl,⟨x5.w,x5.c,x5.hC,s5 _ _ hP,hR.ts (TS.of s5),QR⟩,hC,fq,by omega,fun F u3 H6 s6 nF hF N8=>?_⟩
     refine ba (kN _ _ ⟨F,u3,_,_,U',r',rfl,(s4.trans s5).trans s6,(s4.trans s5).free nF,hF,s6 _ _ (s5 _ _ gZ),N8,Mt,Mi,C8⟩)
    ·clear kN Mt Mi fi bd fq hR
     refine⟨_,rfl,c,rfl,⟨_,SqL.of x4.c⟩,fun l hl=>?_⟩
     refine lN (K:=K) (a:=c) (xs:=xs) (fun i acc H5=>ak H4 H5/\H5 l=some (.lst acc)/\acc=((range i).filter (qR cs z)).map fun i:Nat=>V.int (i:Int)) ⟨ak.new hl,af,rfl⟩ (fun i acc H5 _ ⟨s5,_,_⟩=>SqL.of (s5 _ _ x4.c)) ?_ ?_
     ·rintro i y pp acc H5 hy hpp ⟨s5,uN,rfl⟩
      have hi:i < cs.length:=by rw[<- hxl];exact (List.getElem?_eq_some_iff.mp hy).1
      obtain⟨v,ev,rc,pc,kc,rfl,e1,e2,e3⟩:=x4.hC.2 i cs[i] (getElem?_eq_getElem hi)
      rw[ev] at hy
      cases hy
      have eq:qR cs z i=(decide (cs[i].rk=z) && !decide (cs[i].n=0/\cs[i].u=1)):=by unfold qR;rw[w4 hi,fW hi]
      rw[iO (qR cs z) (fun i:Nat=>V.int (i:Int)),eq]
      have len:(((range i).filter (qR cs z)).map fun i:Nat=>V.int (i:Int)).length<=16:=by
       rw[length_map]
       refine le_trans (length_filter_le _ _) ?_
       rw[length_range]
       omega
      generalize ((range i).filter (qR cs z)).map (fun i:Nat=>V.int (i:Int))=A' at uN len |-
      have s6:=ak.new (o:=.tup [.int (i:Int),.ref rc]) hpp
      have J4:=s5.trans s6
      have fl:=s6 _ _ uN
      have f1:=J4 _ _ e1
      have f2:=J4 _ _ e2
      refine⟨pp,_,rfl,SqT.of af,rfl,_,_,rfl,_,_,rfl,rfl,?_⟩
      generalize upd H5 pp (.tup [.int (i:Int),.ref rc])=H6 at J4 fl f1 f2 |-
      generalize cs[i]=C0 at f1 f2 eq |-
      clear e1 e2 e3 ev uN s5 s6 hpp eq
      k_extra "rx"
      refine⟨rfl,?_⟩
      refine⟨_,rfl,gO (fun h1=>?_) (fun h1=>?_)⟩
      ·rw[decide_eq_true (V.int.inj h1),Bool.true_and]
       k_extra "rx"
       refine bK (by decide) fun t H7 ht s7 Oc=>?_
       k_extra "rx"
       refine⟨pc,t,_,_,_,_,rfl,rfl,s7 _ _ f2,Oc,?_⟩
       refine⟨_,rfl,sG (fun h2=>?_) (fun h2=>?_)⟩
       ·k_extra "rx"
        exact⟨s7 _ _ fl,ay (by omega),bg hl (J4.trans s7),af,by rw[if_pos h2]⟩
       ·exact⟨J4.trans s7,s7 _ _ fl,by rw[if_neg (by rw[h2];exact Bool.false_ne_true),append_nil]⟩
      ·have h3:¬ C0.rk=z:=fun z'=>h1 (by rw[z'])
       rw[decide_eq_false h3,Bool.false_and]
       exact uX ⟨J4,fl,by simp⟩
     ·rintro acc H5 ⟨s5,uN,rfl⟩
      rw[hxl] at uN
      exact ba (key _ _ ⟨l,rfl,s5,by rw[qt];exact uN⟩)
   ·rintro σ H4 ⟨P,ys,v3,v4,U,r,rfl,s4,nP,hP,gZ,hR,fi,bd,C9⟩
    rw[length_map,take_length] at hR
    k_extra "rx"
    exact hQ P ys zs H4 s4 nP hP rk hR
 ·refine⟨_,rfl,c,rfl,⟨_,SqL.of x.c⟩,fun l hl=>?_⟩
  refine aV (K:=K) (a:=c) (xs:=xs) (fun i acc H2=>ak H H2/\H2 l=some (.lst acc)/\cf H2 acc (replicate i (0,1))) ⟨ak.new hl,af,⟨rfl,fun i p h=>by simp at h⟩⟩ (fun i acc H2 _ ⟨s2,_,_⟩=>SqL.of (s2 _ _ x.c)) ?_ ?_
  ·rintro i y acc H2 hy ⟨s2,cG,hR⟩
   have hi:i < cs.length:=by rw[<- hxl];exact (List.getElem?_eq_some_iff.mp hy).1
   have len:=hR.1
   rw[length_replicate] at len
   simp only[aD,eC,if_true]
   k_extra "rx"
   refine bK (by decide) fun t H3 ht s3 Oc=>?_
   have l3:=s3 _ _ cG
   have nt:t≠l:=fun z=>by rw[z,cG] at ht;cases ht
   refine⟨l3,ay (by omega),bg hl (s2.trans s3),af,?_⟩
   rw[List.replicate_succ']
   exact ((hR.ts (TS.of s3)).ts (TS.lst l3)).snoc (by rw[ax nt];exact Oc)
  ·rintro acc H2 ⟨s2,cG,hR⟩
   rw[hxl] at hR
   exact ba (key _ _ ⟨l,acc,_,_,rfl,s2,hl,cG,hR⟩)
theorem qP(D:aS K mg "_law_worths" iJ f fd)(T:Txt K mg cx)(av:aq P w K mg base CX0 1 "_law_pull" ["_law_bag_here","_law_many_here"] bP):aq P w K mg base CX0 2 "_law_worths" ["_law_bag_here","_law_many_here"] gL:=by
 refine D.ok (D.q kq (fun vs H Q E h=>?_) (fun bW A outer s H vs Q E hr h=>?_)) (D.fn.binds fun _ _ _ _ _ _ us hl=>match us,hl with | [_,_],_=>rfl)
 ·obtain⟨_,_,_,rfl,_⟩:=h
  rfl
 obtain⟨B,m,L,rfl,hB,m0,m6,hQ⟩:=h
 refine⟨_,(ag (jJ (i:=2) kq.nd rfl (inr rfl) (aj (bJ (ai ae (ai ae (ai ae (ai (aG pX ae ae) (ai (aG pX ae ae) bq)))))) (aJ av (aH (qv 0) ae))))
   (ah (aB (ck ["_law_fund"] [("_law_bag_here", 0),("_law_scale", 2)] (bG (by rfl) T.n_range (aF (qv 1))) (aE (by decide)) (fun _ _ _ _ _=>⟨(au (i:=0) (show (["_law_fund","_law_bag_here","_law_scale"]:List Str).Nodup by decide +kernel) rfl (inl rfl)),bF,(aG bz (aJ av (aH (qv 1) (aG gu (qv 2) ae))) (aA (nG rfl) (by rfl) T.n_min wK (aH ae (aJ av (aH (qv 1) ae)))))⟩))))),?_⟩
 k_extra "rd"
 intro p hp
 have yE:p≠B:=hB.ne hp
 refine⟨B,5,L,rfl,hB.new hp,by decide,by decide,fun d H2 d0 d1 b2 f2=>?_⟩
 have hp2:=f2 p _ yE af
 obtain⟨x,ex,CQ,wt⟩:=pick (P:=fun x=>0 < x/\x<=1000000000000) [12,3,100,10 ^ 9,10 ^ 12] d0 d1 (by decide)
 have BR:atI [V.int 12,V.int 3,V.int 100,V.int 1000000000,V.int 1000000000000] d=some (.int x):=ex
 have rh:Fr1 B H H2:=(Fr1.new hp).trans f2
 clear ex
 k_extra "rd"
 clear BR hp2 f2 yE hp
 refine⟨_,rfl,m,rfl,by omega,by omega,fun l hl=>?_⟩
 have vQ:=b2.ne hl
 have Mn:=b2.neL hl
 refine de (k:=m.toNat) (fun i acc H3=>∃ ws:List Int,acc=ws.map V.int/\ws.length=i/\(∀ x∈ws,0<=x/\Sz 50 x)/\br H3 B L/\(∀ b o,b≠B->b≠l->H2 b=some o->H3 b=some o)/\H3 l=some (.lst acc)) ⟨[],rfl,rfl,(fun x hx=>by cases hx),b2.new hl,(fun b o _ hbl h=>by rw[ax hbl];exact h),af⟩ ?_ ?_
 ·rintro i acc H3 hi ⟨ws,rfl,hlen,hz,b3,k3,lb⟩
  simp only[aD,eC,if_true]
  k_extra "rd"
  refine⟨B,x+1,L,rfl,b3,by omega,Sz.mono (j:=41) (Sz.of (by omega)) (by decide),fun d4 H4 e0 e1 b4 f4=>?_⟩
  have ud:=f4 _ _ vQ lb
  clear lb
  k_extra "rd"
  refine⟨B,7,L,rfl,b4,by decide,by decide,fun d5 H5 g0 g1 b5 f5=>?_⟩
  have uN:=f5 _ _ vQ ud
  clear ud
  k_extra "rd"
  have hy:0<=(if d5 < 1 then d5 else 1)/\(if d5 < 1 then d5 else 1)<=1:=by split<;>omega
  generalize (if d5 < 1 then d5 else 1)=y at hy |-
  have z4:Sz 40 d4:=Sz.of (by omega)
  have zy:Sz 1 y:=Sz.of (by omega)
  refine⟨z4.ok zy (by decide),ay (by omega),ws++[d4*y],by rw[map_append];rfl,by rw[length_append,hlen];rfl,fun w hw=>?_,b5.put vQ Mn,fun b o nb nl h=>?_⟩
  ·rcases mem_append.mp hw with hw | hw
   ·exact hz w hw
   ·rw[mem_singleton.mp hw];exact⟨mul_nonneg (by omega) (by omega),(z4.mul zy).mono (by decide)⟩
  ·rw[ax nl]
   exact f5 _ _ nb (f4 _ _ nb (k3 b o nb nl h))
 ·rintro acc H3 ⟨ws,rfl,hlen,hz,b3,k3,lb⟩
  have nl:H l=none:=by
   cases e:H l with
   | none=>rfl
   | some o=>rw[rh l o vQ e] at hl;cases hl
  exact hQ l ws H3 nl b3 (fun b o nb h=>k3 b o nb (fun z=>by rw[z,nl] at h;cases h) (rh b o nb h)) lb (by omega) hz
theorem qS(D:aS K mg "_law_shared" ig f fd)(T:Txt K mg cx)(pE:aq P w K mg base CX0 6 "shared" ["worths","claims"] m8)(dw:aq P w K mg base CX0 3 "_law_pairs" ["_law_found","_law_many_here"] fG)(bA:aq P w K mg base CX0 1 "_law_below" ["_law_one","_law_other"] cN):aq P w K mg base CX0 7 "_law_shared" ["_law_worths_here","_law_claims_here"] gM:=by
 refine D.ok (D.q eJ (fun vs H Q E h=>?_) (fun bW A outer s H vs Q E hr h=>?_)) (D.fn.binds fun _ _ _ _ _ _ us hl=>match us,hl with | [_,_],_=>rfl)
 ·obtain⟨_,_,_,_,_,_,rfl,_⟩:=h
  rfl
 obtain⟨w,c,U0,ws,xs,cs,rfl,x,hC,w0,hQ⟩:=h
 refine⟨_,(ag (aO 2 eJ.nd (bh (aH (cm cg (by rfl) T.n_list dM (aF (qv 0))) (cm cg (by rfl) T.n_list dM (aF (qv 1))))))
   (ag (aO 3 eJ.nd (aJ pE (aH (aj (qv 2) ae) (aj (qv 2) ae))))
   (ag (bX (ll (aK (xK hr.units) (qv 2) (bh (aH (qv 0) (qv 1))) (aX _)) (jv (kf (cE (aJ dw (aH (qv 3) (aA aW (by rfl) T.n_len bQ (aF (qv 1))))))))).pt (ah (aB Cg)) be)
   (ag (bR PassesOwn.never rfl (bG (by rfl) T.n_range (aF (aA aW (by rfl) T.n_len bQ (aF (qv 1))))) (au (i:=4) eJ.nd rfl (inl rfl)) (ah (bX (ll (aK n5 (aj (aj (qv 3) (qv 4)) ae) ae (aX _)) (jv (cE (aJ bA (aH (aj (aj (qv 1) (qv 4)) ae) (aj (qv 3) (qv 4))))))).pt (ah (aB Cg)) be)))
   (ah (aB (qv 3))))))),?_⟩
 have c16:=hC.c16
 refine⟨_,rfl,w,_,rfl,aP x.w,fun l1 qU=>?_⟩
 have t1:=ak.new (o:=.lst (ws.map V.int)) qU
 refine⟨_,rfl,c,_,rfl,aP (t1 _ _ x.c),fun l2 cG=>⟨by show 2<=sizeLine;decide,fun T hT=>?_⟩⟩
 have t2:=ak.new (o:=.lst xs) cG
 have t3:=ak.new (o:=.tup [.ref l1,.ref l2]) hT
 have tt:=(t1.trans t2).trans t3
 have f1:=t3 _ _ (t2 l1 _ af)
 have f2:=t3 l2 _ af
 have f3:upd (upd (upd H l1 (.lst (ws.map V.int))) l2 (.lst xs)) T (.tup [.ref l1,.ref l2]) T=_:=af
 generalize upd (upd (upd H l1 (.lst (ws.map V.int))) l2 (.lst xs)) T (.tup [.ref l1,.ref l2])=H1 at tt f1 f2 f3 |-
 clear t1 t2 t3 qU cG hT
 have x1:=x.same tt
 have y1:k9 l1 l2 ws xs cs H1:=⟨f1,f2,x1.hC⟩
 clear f1 f2
 k_extra "rx"
 refine⟨l1,l2,U0,ws,xs,cs,rfl,y1,hC,w0,fun F ys zs H2 s2 nF hF rk hR=>?_⟩
 obtain⟨K4,Kj⟩:=FI.cw hC w0
 obtain⟨U,r,fi,bd,OA⟩:=vb hC zs 0 U0 _ rk.lt K4 Kj (by have:=s_ (cs:=cs) (zs:=zs);omega)
 have M9:=fun H' s h=>hQ F ys zs U r H' s (tt.free nF) h rk
 clear hQ K4 Kj
 generalize bp ws cs zs (cw cs)=ps at hR fi bd M9
 have x2:=x1.same s2
 have y2:=y1.same s2
 have g3:=s2 _ _ f3
 have yN:=tt.trans s2
 clear x1 y1 f3 tt s2 nF
 k_extra "rx"
 refine bK (le_of_ble_eq_true rfl) fun T2 H3 Om s3 Aa=>?_
 k_extra "rx"
 refine⟨_,_,(y2.same s3).den (s3 _ _ g3),(x2.same s3).den Aa,HJ,?_⟩
 refine⟨_,rfl,brk (fun z=>absurd z (by simp)) (fun _=>?_)⟩
 have x3:=x2.same s3
 have vi:=s3 _ _ hF
 have uY:=hR.ts (TS.of s3)
 have Ez:=yN.trans s3
 clear x2 y2 g3 hF hR yN s3 Om Aa
 have hxl:xs.length=ps.length:=by rw[x3.hC.1,fi.len]
 have Nz:=x3.c
 have pk:∀ i,i < ps.length->0 < (ps.getD i (0,1)).2/\gcd (ps.getD i (0,1)).1 (ps.getD i (0,1)).2=1/\Sz 9000 (ps.getD i (0,1)).2:=fun i hi=>by
  have o:=fi.ok i (by rw[<- fi.len];exact hi)
  exact⟨o.pos,o.cop,(Sz.le fi.uz (cC o.dvd fi.up)).mono (by omega)⟩
 k_extra "rx"
 refine⟨F,ys,ps,xs.length,rfl,vi,uY,by rw[fi.len];exact c16,pk,fun H4 s4=>?_⟩
 rw[decide_eq_true hxl.symm]
 refine⟨_,rfl,tJ ?_⟩
 have x4:=x3.same s4
 have Af:=s4 _ _ vi
 have lj:=uY.ts (TS.of s4)
 have M5:=Ez.trans s4
 clear x3 vi uY Ez s4 Nz
 have wt:xs.length=cs.length:=x4.hC.1
 refine bZ ?_
 refine⟨_,rfl,c,_,rfl,aP x4.c,_,rfl,by omega,by rw[wt];omega,fo (lo:=0) (n:=((xs.length:Nat):Int).toNat) (fun j σ H'=>∃ v4,σ=[some (.ref w),some (.ref c),some (.ref T),some (.ref F),v4]/\ak H4 H') ⟨_,rfl,fun _ _ h=>h⟩ ?_ ?_⟩
 ·rintro i σ H5 NN BB Ld ⟨v4,rfl,s5⟩ kN kB
  clear kB M9 pk
  have hi:i < cs.length:=by omega
  have jK:i < ps.length:=by rw[fi.len];exact hi
  obtain⟨v,ev,rc,pc,kc,rfl,e1,e2,e3⟩:=x4.hC.2 i cs[i] (getElem?_eq_getElem hi)
  obtain⟨rp,er,hrp⟩:=lj.2 i ps[i] (getElem?_eq_getElem jK)
  have a1:atI xs (0+(i:Int))=some (.ref rc):=by rw[zero_add];exact aQ ev
  have a2:atI ys (0+(i:Int))=some (.ref rp):=by rw[zero_add];exact aQ er
  have ep:ps.getD i (0,1)=ps[i]:=by simp[getD_eq_getElem?_getD,jK]
  have po:=fi.ok i hi
  obtain⟨b1,b2⟩:=bd i hi rfl
  have dd:=(hC.dp hi).1
  have dz:Sz 20000 (aI cs i).1/\Sz 20000 (aI cs i).2:=⟨(dd.nsz hC.u0).mono (by decide),(Sz.le hC.uz (cC dd.toOk.dvd hC.u0)).mono (by decide)⟩
  have lt:=lt_num fi.up (dd.toOk.up fi.dvd) po.toOk
  have nn:=(fN fi.up po.toOk).mpr b1
  rw[ep] at po lt nn b1 b2
  rw[fW hi] at lt b2 dz
  have zp:Sz 20000 ps[i].1/\Sz 20000 ps[i].2:=⟨(po.nsz fi.up).mono (by omega),(Sz.le fi.uz (cC po.toOk.dvd fi.up)).mono (by omega)⟩
  have nb:¬ cs[i].n*ps[i].2 < ps[i].1*cs[i].u:=fun z=>by
   have:=lt.mp z
   omega
  have g1:=s5 _ _ e1
  have g2:=s5 _ _ e2
  have gr:=s5 _ _ hrp
  have gc:=s5 _ _ x4.c
  have gF:=s5 _ _ Af
  have next:NN [some (.ref w),some (.ref c),some (.ref T),some (.ref F),some (.int (0+(i:Int)))] H5:=kN _ _ ⟨_,rfl,s5⟩
  generalize cs[i]=C0 at g1 g2 dz nb
  generalize ps[i]=P0 at gr zp nb nn
  clear e1 e2 e3 ev er hrp kN lt po b1 b2 ep x4 Af lj dd
  k_extra "rx"
  refine wW (by omega) ?_
  k_extra "rx"
  refine⟨pc,rp,_,_,_,_,rfl,g2,gr,dz.1,dz.2,zp.1,zp.2,?_⟩
  exact⟨_,rfl,wW nb next⟩
 ·rintro σ H5 ⟨v4,rfl,s5⟩
  k_extra "rx"
  exact M9 H5 (M5.trans s5) (s5 _ _ Af) (lj.ts (TS.of s5)) fi OA
theorem pR(D:aS K mg "_law_tabled" iz f fd)(T:Txt K mg cx)(dW:aq P w K mg base CX0 2 "_law_many" ["_law_bag_here"] fU)(cR:aq P w K mg base CX0 4 "_law_claims" ["_law_bag_here","_law_many_here"] eF)(av:aq P w K mg base CX0 1 "_law_pull" ["_law_bag_here","_law_many_here"] bP)(bO:aq P w K mg base CX0 2 "_law_low" ["_law_number","_law_under"] d7)(bo:aq P w K mg base CX0 4 "_law_sum" ["_law_row"] c3)(dY:aq P w K mg base CX0 3 "_law_plus" ["_law_one","_law_other"] fV)(jY:aq P w K mg base CX0 1 "_law_ceil" ["_law_one"] i5):aq P w K mg base CX0 5 "_law_tabled" ["_law_bag_here"] gy:=by
 refine D.ok (D.q a_ (fun vs H Q E h=>?_) (fun bW A outer s H vs Q E hr h=>?_)) (D.fn.binds fun _ _ _ _ _ _ us hl=>match us,hl with | [_],_=>rfl)
 ·obtain⟨_,_,rfl,_⟩:=h
  rfl
 obtain⟨B,L,rfl,hB,hQ⟩:=h
 refine⟨_,(ag (aO 1 a_.nd (aJ dW (aF (qv 0))))
   (ag (aO 2 a_.nd (aj (bJ (ai ae (ai ae (ai ae (ai (aG pX ae ae) bq))))) (aJ av (aH (qv 0) ae))))
   (ag (aO 3 a_.nd (aj (bJ (ai ae (ai ae (ai ae (ai ae bq))))) (aJ av (aH (qv 0) ae))))
   (ag (aO 4 a_.nd (bJ bq))
   (ag (aO 5 a_.nd (bJ bq))
   (ag (bR PassesOwn.never rfl (aM (K:=K) rfl (aJ cR (aH (qv 0) (qv 1)))) (au (i:=6) a_.nd rfl (inl rfl)) (ag (fF (k:=7) ["_law_place"] [] a_.nd (bG (by rfl) T.n_range (aF (qv 1))) (aE (by decide)) (fun _ _ _ _ _=>⟨(au (i:=0) (show (["_law_place"]:List Str).Nodup by decide +kernel) rfl (inl rfl)),bF,(bh (aH ae ae))⟩))
   (ag (bR PassesOwn.never rfl (ja (K:=K) rfl (aj (qv 6) ae)) (au (i:=8) a_.nd rfl (inr rfl)) (ah (nk (aJ bO (aH (aG bz (aJ av (aH (qv 0) (aG gu (qv 2) ae))) (aJ av (aH (qv 0) ae))) (aG gu ae (aJ av (aH (qv 0) (qv 3)))))) (sV (qv 7) (qv 8) set_list))))
   (ag (dN (iG (K:=K) rfl PySem.F.plainAttrs_list PySem.F.slot_list_append PySem.F.type_list_append bT (qv 5) (aF (qv 7))))
   (ag (aO 9 a_.nd (aj (bJ (oX (bh (aH ae ae)) (bh (aH ae ae)) (aj (qv 6) ae))) (aJ av (aH (qv 0) ae))))
   (ah (dN (iG (K:=K) rfl PySem.F.plainAttrs_list PySem.F.slot_list_append PySem.F.type_list_append bT (qv 4) (aF (bh (oX (aJ dY (aH (aJ bo (aF (qv 7))) (qv 9))) (aj (qv 6) ae) (aj (qv 6) ae))))))))))))
   (ag (aO 10 a_.nd (bJ bq))
   (ag (bR PassesOwn.never rfl (bG (by rfl) T.n_range (aF (qv 1))) (au (i:=8) a_.nd rfl (inr rfl)) (ah (dN (iG (K:=K) rfl PySem.F.plainAttrs_list PySem.F.slot_list_append PySem.F.type_list_append bT (qv 10) (aF (aG gu (aJ jY (aF (aJ bo (aF (ck ["_law_row"] [("_law_place", 8)] (aM (K:=K) rfl (qv 5)) (aE (by decide)) (fun _ _ _ _ _=>⟨(au (i:=0) (show (["_law_row","_law_place"]:List Str).Nodup by decide +kernel) rfl (inl rfl)),bF,(aj (qv 0) (qv 1))⟩)))))) (aG bz (aJ av (aH (qv 0) ae)) (aJ av (aH (qv 0) ae)))))))))
   (ah (aB (bh (ai (qv 10) (ai (qv 4) (ai (ck ["_law_row"] [] (aM (K:=K) rfl (qv 5)) (aE (by decide)) (fun _ _ _ _ _=>⟨(au (i:=0) (show (["_law_row"]:List Str).Nodup by decide +kernel) rfl (inl rfl)),bF,(aJ bo (aF (qv 0)))⟩)) (ai (qv 5) bq))))))))))))))),?_⟩
 refine BD (fun σ' H'=>∃ m sc un F C Z mT lY xs cs zs aU v6 v7 v8 v9,σ'=[some (.ref B),some (.int ((m:Nat):Int)),some (.int sc),some (.int un),some (.ref C),some (.ref Z),v6,v7,v8,v9,none]/\Tb H B L F C Z mT lY xs cs zs aU H'/\Tn H B L F C Z/\m<=6/\cs.length<=16/\aU.length=cs.length/\(∀ c∈cs,nJ UM 122 m c)/\(∀ r∈aU,y9 m r)/\tH cs aU) ?_ fun uM key=>?_
 ·rintro σ H1 ⟨m,sc,un,F,C,Z,mT,lY,xs,cs,zs,aU,v6,v7,v8,v9,rfl,tb,tn,m6,c16,rl,hG,hr,hn⟩
  refine⟨by show 0<=sizeLine;decide,fun W hW=>?_⟩
  have wB:=tb.b.ne hW
  have wL:=tb.b.neL hW
  have wF:W≠F:=fun z=>by rw[z,tb.f] at hW;cases hW
  have wC:W≠C:=fun z=>by rw[z,tb.c] at hW;cases hW
  have wZ:W≠Z:=fun z=>by rw[z,tb.z] at hW;cases hW
  have wz:=tb.hZ.fresh hW
  have w0:H W=none:=by
   cases e:H W with
   | none=>rfl
   | some o=>rw[tb.fr W o wB e] at hW;cases hW
  have J0:=tb.same (ak.new (o:=.lst []) hW)
  have NY:upd H1 W (.lst []) W=some (.lst (([]:List Int).map V.int)):=af
  generalize upd H1 W (.lst [])=H2 at J0 NY |-
  clear tb hW
  refine⟨_,rfl,(m:Int),rfl,by omega,by omega,fo (lo:=0) (n:=((m:Nat):Int).toNat) (fun j σ H'=>∃ ws v6 v7 v8 v9,σ=[some (.ref B),some (.int (m:Int)),some (.int sc),some (.int un),some (.ref C),some (.ref Z),v6,v7,v8,v9,some (.ref W)]/\Tb H B L F C Z mT lY xs cs zs aU H'/\H' W=some (.lst (ws.map V.int))/\ws.length=j/\(∀ x∈ws,0<=x/\Sz 140 x)/\vj aU ws) ⟨[],_,_,_,_,rfl,J0,NY,rfl,(fun x hx=>by cases hx),(fun p hp=>by cases hp)⟩ ?_ ?_⟩
  ·clear J0 NY
   rintro j σ H3 NN BB hj ⟨ws,v6,v7,v8,v9,rfl,t3,JZ,hwl,hwz,hco⟩ kN kB
   clear kB
   have jm:j < m:=by omega
   simp only[aD]
   refine⟨_,rfl,.inl ⟨rfl,_,SqL.of JZ⟩,_,rfl,Z,rfl,⟨_,SqL.of t3.z⟩,fun l hl=>?_⟩
   refine aV (K:=K) (a:=Z) (xs:=zs) (fun a acc H4=>ak H3 H4/\H4 l=some (.lst acc)/\bL UM 115 H4 acc ((aU.take a).map fun r=>r.getD j (0,1))) ⟨ak.new hl,af,bL.nil⟩ (fun a acc H4 _ ⟨s4,_,_⟩=>SqL.of (s4 _ _ t3.z)) ?_ ?_
   ·rintro a y acc H4 hy ⟨s4,ud,lj⟩
    have ha:a < aU.length:=by rw[<- t3.hZ.1];exact (List.getElem?_eq_some_iff.mp hy).1
    obtain⟨r,ys,er,h1,h2,_⟩:=t3.hZ.2.2 a aU[a] (getElem?_eq_getElem ha)
    rw[er] at hy
    cases hy
    have hrl:=(hr aU[a] (getElem_mem ha)).1
    have jr:j < (aU[a]).length:=by omega
    obtain⟨e,ee,he,po⟩:=h2.2 j (aU[a])[j] (getElem?_eq_getElem jr)
    have eg:(aU[a]).getD j (0,1)=(aU[a])[j]:=by simp[getD_eq_getElem?_getD,jr]
    rw[bx _ ha,eg]
    have len:=lj.1
    rw[length_map,length_take] at len
    have g1:=s4 _ _ h1
    have g2:=s4 _ _ he
    have ne:e≠l:=fun z=>by rw[z,ud] at g2;cases g2
    simp only[aD,eC,if_true]
    refine⟨_,rfl,_,rfl,r,ys,_,_,rfl,rfl,aP g1,by rw[zero_add];exact aQ ee,ud,ay (by omega),?_,af,(lj.ts (TS.lst ud)).snoc (by rw[ax ne];exact g2) po⟩
    intro b o hb
    rw[ax (fun z=>by rw[z,hl] at hb;cases hb)]
    exact s4 _ _ hb
   ·rintro acc H4 ⟨s4,ud,lj⟩
    have ez:aU.take zs.length=aU:=by rw[t3.hZ.1,take_length]
    rw[ez] at lj
    have cl:(aU.map fun r=>r.getD j (0,1)).length<=16:=by rw[length_map];omega
    have cn:∀ p∈aU.map fun r=>r.getD j (0,1),0<=p.1:=fun p hp=>by
     obtain⟨r,C8,rfl⟩:=mem_map.mp hp
     obtain⟨r1,r2⟩:=hr r C8
     have jr:j < r.length:=by omega
     have eg:r.getD j (0,1)=r[j]:=by simp[getD_eq_getElem?_getD,jr]
     rw[eg]
     exact r2 _ (getElem_mem jr)
    refine⟨l,acc,_,UM,115,rfl,ud,df,lj,by decide,cl,fun s H5 s5 hs=>?_⟩
    have sp:=m5 df.pos lj.mem
    have spn:=xX df.pos (fun p hp=>(lj.mem p hp).toOk) cn
    have AB:dS UM 131 (bN (aU.map fun r=>r.getD j (0,1))):=sp.mono (by omega)
    have su:=sp.toOk.usz df
    have sn:=AB.nsz df.pos
    have s0:=sp.pos
    have en:num UM (bN (aU.map fun r=>r.getD j (0,1)))=GY aU j:=by rw[(nD df.pos fun p hp=>(lj.mem p hp).toOk).2,map_map];rfl
    generalize bN (aU.map fun r=>r.getD j (0,1))=S at hs AB spn su sn s0 en
    have ce:=EY AB.toOk
    rw[en] at ce
    have t5:=t3.same (s4.trans s5)
    have OD:=(s4.trans s5) _ _ JZ
    clear sp lj s4 s5 ud t3 JZ cn cl ez hl
    have z9:Sz 9000 S.2:=su.mono (by decide)
    have hc:0<=-(-S.1 / S.2)/\Sz 131 (-(-S.1 / S.2)):=by
     constructor
     ·have h1:=Int.ediv_mul_le (-S.1) (by omega:S.2≠0)
      by_cases h:-S.1 / S.2<=0
      ·omega
      ·exfalso
       have:1*S.2<=-S.1 / S.2*S.2:=mul_le_mul_of_nonneg_right (by omega) (by omega)
       omega
     ·exact Sz.neg (Sz.le sn (le_trans (cO _ _) (by rw[Int.natAbs_neg];exact le_refl _)))
    refine⟨s,_,_,rfl,hs,s0,z9,?_⟩
    generalize -(-S.1 / S.2)=cc at hc ce
    clear en hs AB spn su sn s0 z9
    k_extra "rd"
    refine⟨B,3,L,rfl,t5.b,by decide,by decide,fun d H6 d0 d1 b6 f6=>?_⟩
    have t6:=t5.pull tn f6 b6
    have OO:=f6 _ _ wB OD
    clear t5 f6 b6 OD
    k_extra "rd"
    refine⟨B,2,L,rfl,t6.b,by decide,by decide,fun d2 H7 c0 c1 b7 f7=>?_⟩
    have t7:=t6.pull tn f7 b7
    have Sw:=f7 _ _ wB OO
    clear t6 f7 b7 OO
    have om:IntMulOk d d2:=(Sz.of (k:=2) (by omega):Sz 2 d).ok (Sz.of (k:=2) (by omega)) (by decide)
    have dd:0<=d*d2/\d*d2<=2:=by
     have:d2=0\/d2=1:=by omega
     rcases this with rfl | rfl<;>omega
    k_extra "rd"
    refine⟨ay (by omega),kN _ _ ⟨ws++[cc+d*d2],_,_,_,_,rfl,t7.row Sw wB wL wF wC wZ wz w0,by rw[af,map_append];rfl,by rw[length_append,hwl];rfl,(fun x hx=>?_),hco.snoc hwl (Int.le_trans ce (mul_le_mul_of_nonneg_right (by omega) (by decide)))⟩⟩
    rcases mem_append.mp hx with hx | hx
    ·exact hwz x hx
    ·rw[mem_singleton.mp hx]
     exact⟨by omega,Sz.mono (Sz.add (k:=131) hc.2 (Sz.mono (Sz.of (k:=3) (by omega)) (by decide))) (by decide)⟩
  ·rintro σ H3 ⟨ws,v6,v7,v8,v9,rfl,t3,JZ,hwl,hwz,hco⟩
   rw[toNat_natCast] at hwl
   refine⟨_,rfl,_,rfl,_,rfl,Z,rfl,⟨_,SqL.of t3.z⟩,fun P hP=>?_⟩
   refine aV (K:=K) (a:=Z) (xs:=zs) (fun a acc H4=>ak H3 H4/\H4 P=some (.lst acc)/\bL UM 121 H4 acc ((aU.take a).map bN)) ⟨ak.new hP,af,bL.nil⟩ (fun a acc H4 _ ⟨s4,_,_⟩=>SqL.of (s4 _ _ t3.z)) ?_ ?_
   ·rintro a y acc H4 hy ⟨s4,ud,lj⟩
    have ha:a < aU.length:=by rw[<- t3.hZ.1];exact (List.getElem?_eq_some_iff.mp hy).1
    obtain⟨r,ys,er,h1,h2,_⟩:=t3.hZ.2.2 a aU[a] (getElem?_eq_getElem ha)
    rw[er] at hy
    cases hy
    have hrl:=(hr aU[a] (getElem_mem ha)).1
    have len:=lj.1
    rw[length_map,length_take] at len
    rw[bx _ ha]
    have sp:dS UM 121 (bN aU[a]):=(m5 df.pos h2.mem).mono (by omega)
    simp only[aD,eC,if_true]
    refine⟨_,rfl,r,ys,aU[a],UM,115,rfl,s4 _ _ h1,df,h2.ts (TS.of s4),by decide,by omega,fun s H5 s5 hs=>?_⟩
    have l5:=s5 _ _ ud
    have ne:s≠P:=fun z=>by rw[z,l5] at hs;cases hs
    refine⟨l5,ay (by omega),?_,af,((lj.ts (TS.of s5)).ts (TS.lst l5)).snoc (by rw[ax ne];exact hs) sp⟩
    intro b o hb
    rw[ax (fun z=>by rw[z,hP] at hb;cases hb)]
    exact s5 _ _ (s4 _ _ hb)
   ·rintro acc H4 ⟨s4,ud,lj⟩
    have ez:aU.take zs.length=aU:=by rw[t3.hZ.1,take_length]
    rw[ez] at lj
    refine⟨_,rfl,by show 4<=sizeLine;decide,fun T hT=>?_⟩
    have s5:=s4.trans (ak.new (o:=.tup [.ref W,.ref C,.ref P,.ref Z]) hT)
    have t5:=t3.same s5
    have pB:=t3.b.ne hP
    have pW:P≠W:=fun z=>by rw[z,JZ] at hP;cases hP
    have pC:P≠C:=fun z=>by rw[z,t3.c] at hP;cases hP
    have pZ:P≠Z:=fun z=>by rw[z,t3.z] at hP;cases hP
    have pz:=t3.hZ.fresh hP
    have p0:H P=none:=by
     cases e:H P with
     | none=>rfl
     | some o=>rw[t3.fr P o pB e] at hP;cases hP
    have GA:dQ [B,L,W,C,P,Z] UM 115 (upd H4 T (.tup [.ref W,.ref C,.ref P,.ref Z])) zs aU:=⟨t5.hZ.1,t5.hZ.2.1,fun i r hr=>by
     obtain⟨l,xs,e,h1,h2,h3⟩:=t5.hZ.2.2 i r hr
     have hm:=mem_of_getElem? e
     simp only[mem_cons,not_mem_nil,or_false,not_or] at h3
     refine⟨l,xs,e,h1,h2,?_⟩
     simp only[mem_cons,not_mem_nil,or_false,not_or]
     exact⟨h3.1,h3.2.1,(fun z=>wz (by rw[<- z];exact hm)),h3.2.2.2.1,(fun z=>pz (by rw[<- z];exact hm)),h3.2.2.2.2⟩⟩
    refine hQ T W C P Z ws xs cs acc (aU.map bN) zs aU _ ⟨t5.b,t5.fr,s5 _ _ JZ,t5.c,t5.hC,(ak.new hT) _ _ ud,lj.ts (TS.of (ak.new hT)),t5.z,GA,w0,tn.c0,p0,tn.z0,wC,pW.symm,wZ,pC.symm,tn.cZ,pZ,by omega,hwz,c16,by rw[length_map];exact rl,rl,by rw[hwl];exact hG,by rw[hwl];exact hr,rfl,hn,hco⟩ af
 k_extra "rd"
 refine⟨B,L,rfl,hB,fun m0 H1 h0 h6 b1 f1=>?_⟩
 obtain⟨m,rfl⟩:∃ m:Nat,m0=(m:Int):=⟨m0.toNat,by omega⟩
 have m6:m<=6:=by omega
 k_extra "rd"
 intro p hp
 have yE:p≠B:=b1.ne hp
 refine⟨B,4,L,rfl,b1.new hp,by decide,by decide,fun d H2 d0 d1 b2 f2=>?_⟩
 have hp2:=f2 p _ yE af
 obtain⟨sc,ex,Ov,FQ⟩:=pick (P:=fun x=>0<=x/\x<=1000000000) [6,2,40,10 ^ 9] d0 d1 (by decide)
 have BR:atI [V.int 6,V.int 2,V.int 40,V.int 1000000000] d=some (.int sc):=ex
 have rh:Fr1 B H H2:=(f1.trans (Fr1.new hp)).trans f2
 clear ex
 k_extra "rd"
 clear BR hp2 f2 yE hp f1
 intro p hp
 have yE:p≠B:=b2.ne hp
 refine⟨B,4,L,rfl,b2.new hp,by decide,by decide,fun e H3 e0 e1 b3 f3=>?_⟩
 have hp3:=f3 p _ yE af
 obtain⟨un,ex,Gs,PL⟩:=pick (P:=fun x=>0 < x/\x<=60) [1,1,3,60] e0 e1 (by decide)
 have BR:atI [V.int 1,V.int 1,V.int 3,V.int 60] e=some (.int un):=ex
 have Iw:Fr1 B H H3:=(rh.trans (Fr1.new hp)).trans f3
 clear ex
 k_extra "rd"
 clear BR hp3 f3 yE hp rh b2 b1
 intro C hC Z hZ
 have Mj:=b3.ne hC
 have O6:=b3.neL hC
 have b4:=b3.new (o:=.lst []) hC
 have Mh:=b4.ne hZ
 have Ox:=b4.neL hZ
 have O8:C≠Z:=fun z=>by rw[<- z,af] at hZ;cases hZ
 have MS:=Iw.trans (Fr1.new (B:=B) (o:=.lst []) hC)
 have Mf:=MS.trans (Fr1.new (B:=B) (o:=.lst []) hZ)
 have free:∀(H':Hp)(a:Addr),Fr1 B H H'->a≠B->H' a=none->H a=none:=fun H' a f n h=>by
  cases e:H a with
  | none=>rfl
  | some o=>rw[f a o n e] at h;cases h
 have c0:=free _ _ Iw Mj hC
 have z0:=free _ _ MS Mh hZ
 have b5:=b4.new (o:=.lst []) hZ
 have c5:=(ak.new (o:=.lst []) hZ) C _ af
 have z5:upd (upd H3 C (.lst [])) Z (.lst []) Z=_:=af
 generalize upd (upd H3 C (.lst [])) Z (.lst [])=H5 at b5 c5 z5 Mf |-
 clear hC hZ b4 Iw MS b3
 refine⟨_,rfl,_,rfl,B,(m:Int),L,rfl,b5,h0,h6,fun F mT lY H6 nF b6 f6 C_ LI JK OQ=>?_⟩
 have zF:=b5.ne nF
 have Ml:=b5.neL nF
 have c6:=f6 _ _ Mj c5
 have z6:=f6 _ _ Mh z5
 have PJ:=Mf.trans f6
 have tn:Tn H B L F C Z:=⟨zF,Ml,Mj,O6,Mh,Ox,(fun z=>by rw[z,c5] at nF;cases nF),(fun z=>by rw[z,z5] at nF;cases nF),O8,free _ _ Mf zF nF,c0,z0⟩
 have t6:Tb H B L F C Z mT lY [] [] [] [] H6:=⟨b6,PJ,C_,LI,c6,ClsAt.nil,z6,dQ.nil,fun l h=>by cases h⟩
 clear b5 c5 z5 Mf f6 c6 z6 PJ nF b6 C_ LI zF Ml Mj O6 Mh Ox O8 c0 z0 hB
 refine⟨F,rfl,⟨_,SqL.of t6.f⟩,eW (K:=K) (a:=F) (xs:=mT) (fun i σ H'=>∃ xs cs zs aU v6 v7 v8 v9,σ=[some (.ref B),some (.int (m:Int)),some (.int sc),some (.int un),some (.ref C),some (.ref Z),v6,v7,v8,v9,none]/\Tb H B L F C Z mT lY xs cs zs aU H'/\cs.length=i/\aU.length=i/\(∀ c∈cs,nJ UM 122 m c)/\(∀ r∈aU,y9 m r)/\tH cs aU) ⟨[],[],[],[],_,_,_,_,rfl,t6,rfl,rfl,(fun c h=>by cases h),(fun c h=>by cases h),tH.nil⟩ (fun i σ H' _ ⟨_,_,_,_,_,_,_,_,_,z,_⟩=>SqL.of z.f) ?_ ?_⟩
 ·clear t6
  rintro i y σ H7 NN BB hy ⟨xs,cs,zs,aU,v6,v7,v8,v9,rfl,t7,cl,rl,hG,hr,hn⟩ kN kB
  clear kB
  have hi:i < lY.length:=by rw[<- t7.hF.1];exact (List.getElem?_eq_some_iff.mp hy).1
  obtain⟨v,ev,hv⟩:=t7.hF.2 i lY[i] (getElem?_eq_getElem hi)
  rw[ev] at hy
  cases hy
  obtain⟨g1,g2,g3⟩:=OQ lY[i] (getElem_mem hi)
  obtain⟨rc,pc,kc,rfl,e1,e2,e3⟩:=hv
  generalize lY[i]=C0 at g1 g2 g3 e1 e2 e3
  simp only[aD]
  refine u7 (fun σ' H'=>∃ r ys row v8,σ'=[some (.ref B),some (.int (m:Int)),some (.int sc),some (.int un),some (.ref C),some (.ref Z),some (.ref rc),some (.ref r),v8,v9,none]/\Tb H B L F C Z mT lY xs cs zs aU H'/\H' rc=some (.tup [.ref pc,.ref kc,.int C0.rk])/\H' pc=some (.tup [.int C0.n,.int C0.u])/\H' kc=some (.tup (C0.hp.map V.int))/\H' r=some (.lst ys)/\bL UM 115 H' ys row/\(y9 m row/\Nt1 C0.hp row)/\r≠B/\r≠L/\r≠F/\r≠C/\r≠Z/\V.ref r∉zs/\H r=none) ?_ fun Rm L9=>?_
  ·rintro σ H8 ⟨r,ys,row,v8,rfl,t8,e1,e2,e3,NU,Ac,⟨hw,EK⟩,rB,rL,rF,rC,rZ,rz,r0⟩
   have zl:=t8.hZ.1
   have xl:=t8.hC.1
   refine⟨_,rfl,.inl ⟨rfl,_,SqL.of t8.z⟩,_,rfl,Z,zs,_,rfl,rfl,t8.z,ay (by omega),?_⟩
   have ts:TS H8 (upd H8 Z (.lst (zs++[.ref r]))):=TS.lst t8.z
   have t9:=t8.IP tn NU Ac rB rL rF rC rZ rz r0
   have k1:=ts _ _ e1
   have k2:=ts _ _ e2
   have k3:=ts _ _ e3
   have NK:upd H8 Z (.lst (zs++[.ref r])) r=some (.lst ys):=by rw[ax rZ];exact NU
   have Gv:=Ac.ts ts
   generalize upd H8 Z (.lst (zs++[.ref r]))=H9 at t9 k1 k2 k3 NK Gv |-
   clear ts e1 e2 e3 NU Ac t8 key t7
   k_extra "rd"
   intro q1 m7 q2 mG
   have s1:=ak.new (o:=.tup [.int 0,.int 1]) m7
   have s2:=ak.new (o:=.tup [.int 0,.int 1]) mG
   refine⟨_,dZ ((s1.trans s2) _ _ k1),_,rfl,fun q3 Ah=>?_⟩
   have s3:=ak.new (o:=.lst [.ref q1,.ref q2,.ref pc]) Ah
   have s:=(s1.trans s2).trans s3
   have xZ:=t9.same s
   have k1:=s _ _ k1
   have k2:=s _ _ k2
   have k3:=s _ _ k3
   have Jt:=s _ _ NK
   have y8:=Gv.ts (TS.of s)
   have m1:=s3 _ _ (s2 q1 _ af)
   have m2:=s3 q2 _ af
   have m3:upd (upd (upd H9 q1 (.tup [.int 0,.int 1])) q2 (.tup [.int 0,.int 1])) q3 (.lst [.ref q1,.ref q2,.ref pc]) q3=_:=af
   have P7:=(t9.same (s1.trans s2)).b.ne Ah
   generalize upd (upd (upd H9 q1 (.tup [.int 0,.int 1])) q2 (.tup [.int 0,.int 1])) q3 (.lst [.ref q1,.ref q2,.ref pc])=H10 at xZ k1 k2 k3 Jt y8 m1 m2 m3 |-
   clear s s1 s2 s3 m7 mG Ah NK Gv t9
   refine⟨B,3,L,rfl,xZ.b,by decide,by decide,fun d H11 d0 d1 Ib vP=>?_⟩
   have p_:=TS.fr xZ.b vP
   have xj:=xZ.pull tn vP Ib
   have k1:=p_ _ _ k1
   have k2:=p_ _ _ k2
   have k3:=p_ _ _ k3
   have Ks:=vP _ _ rB Jt
   have xC:=y8.ts p_
   have m1:=p_ _ _ m1
   have m2:=p_ _ _ m2
   have m3:=vP _ _ P7 m3
   clear p_ xZ vP Ib Jt y8
   obtain⟨mo,n,u,em,hmo,dmo⟩:∃ mo n u,atI [V.ref q1,V.ref q2,V.ref pc] d=some (.ref mo)/\H11 mo=some (.tup [.int n,.int u])/\Du UM 115 n u:=by
    have:d=0\/d=1\/d=2:=by omega
    have z0:Du UM 115 0 1:=⟨uo,by decide⟩
    rcases this with rfl | rfl | rfl
    ·exact⟨q1,0,1,rfl,m1,z0⟩
    ·exact⟨q2,0,1,rfl,m2,z0⟩
    ·exact⟨pc,_,_,rfl,k2,g1⟩
   have LD:=xj.c
   k_extra "rd"
   refine⟨.inl ⟨rfl,_,SqL.of LD⟩,r,ys,row,UM,115,rfl,Ks,df,xC,by decide,by rw[hw.1];omega,fun s1 H12 j4 Ov=>?_⟩
   have sp:=m5 df.pos xC.mem
   have spn:=xX df.pos (fun p hp=>(xC.mem p hp).toOk) hw.2
   have AB:dS UM 121 (bN row):=sp.mono (by rw[hw.1];omega)
   have da:=Jv df.pos (j:=122) AB (dmo.pt.mono (by decide:115<=121)) spn dmo.nn (by decide)
   refine⟨s1,mo,_,_,_,_,rfl,Ov,j4 _ _ hmo,sp.pos,dmo.pt.pos,(AB.nsz df.pos).mono (by decide),(sp.toOk.usz df).mono (by decide),(dmo.pt.nsz df.pos).mono (by decide),(dmo.pt.toOk.usz df).mono (by decide),fun q4 OR=>?_⟩
   have oh:=j4.trans (ak.new (o:=.tup [.int (fM (bN row) (n,u)).1,.int (fM (bN row) (n,u)).2]) OR)
   have Kr:=xj.same oh
   have k1:=oh _ _ k1
   have k3:=oh _ _ k3
   have Im:upd H12 q4 (.tup [.int (fM (bN row) (n,u)).1,.int (fM (bN row) (n,u)).2]) q4=_:=af
   have eq4:upd H12 q4 (.tup [.int (kg ((bN row).1*u+n*(bN row).2) ((bN row).2*u)),.int (jI ((bN row).1*u+n*(bN row).2) ((bN row).2*u))])=upd H12 q4 (.tup [.int (fM (bN row) (n,u)).1,.int (fM (bN row) (n,u)).2]):=rfl
   rw[eq4]
   generalize upd H12 q4 (.tup [.int (fM (bN row) (n,u)).1,.int (fM (bN row) (n,u)).2])=H13 at Kr k1 k3 Im |-
   clear j4 oh OR Ov xj Ks xC m1 m2 m3 hmo LD sp AB spn eq4 k2 em
   generalize fM (bN row) (n,u)=dd at da Im
   k_extra "rd"
   intro q5 N5
   have NP:=ak.new (o:=.tup [.ref q4,.ref kc,.int C0.rk]) N5
   have NG:=Kr.same NP
   have k3:=NP _ _ k3
   have O9:=NP _ _ Im
   have Pz:upd H13 q5 (.tup [.ref q4,.ref kc,.int C0.rk]) q5=_:=af
   generalize upd H13 q5 (.tup [.ref q4,.ref kc,.int C0.rk])=H14 at NG k3 O9 Pz |-
   have tt:=NG.A6 tn (v:=.ref q5) (c:=⟨dd.1,dd.2,C0.hp,C0.rk⟩) ⟨q5,q4,kc,rfl,Pz,O9,k3⟩
   refine⟨xs,NG.c,ay (by omega),kN _ _ ⟨_,_,_,_,_,_,_,_,rfl,tt,?_,?_,?_,?_,hn.snoc (by omega) EK⟩⟩
   ·rw[length_append,cl];rfl
   ·rw[length_append,rl];rfl
   ·intro c hc
    rcases mem_append.mp hc with hc | hc
    ·exact hG c hc
    ·rw[mem_singleton.mp hc]
     exact⟨da,g2,g3⟩
   ·intro q hq
    rcases mem_append.mp hq with hq | hq
    ·exact hr q hq
    ·rw[mem_singleton.mp hq]
     exact hw
  ·refine⟨_,rfl,(m:Int),rfl,by omega,by omega,fun l hl=>?_⟩
   refine de (k:=((m:Nat):Int).toNat) (fun a acc H8=>ak H7 H8/\H8 l=some (.lst acc)/\bL UM 115 H8 acc (replicate a (0,1))) ⟨ak.new hl,af,bL.nil⟩ ?_ ?_
   ·rintro a acc H8 ha ⟨s8,lq,Ac⟩
    simp only[aD,eC,if_true]
    refine⟨by decide,fun q hq=>?_⟩
    have s9:=ak.new (o:=.tup [.int 0,.int 1]) hq
    have nq:q≠l:=fun z=>by rw[z,lq] at hq;cases hq
    have l9:=s9 _ _ lq
    have len:=Ac.1
    rw[length_replicate] at len
    refine⟨l9,ay (by omega),?_,af,?_⟩
    ·intro b o hb
     rw[ax (fun z=>by rw[z,hl] at hb;cases hb)]
     exact s9 _ _ (s8 _ _ hb)
    ·rw[List.replicate_succ']
     exact ((Ac.ts (TS.of s9)).ts (TS.lst l9)).snoc (by rw[ax nq,af]) uo
   ·rintro acc H8 ⟨s8,lq,Ac⟩
    have t8:=t7.same s8
    have em:((m:Nat):Int).toNat=m:=toNat_natCast m
    rw[em] at Ac
    have f1:=s8 _ _ e1
    have f2:=s8 _ _ e2
    have f3:=s8 _ _ e3
    have lB:=t7.b.ne hl
    have lL:=t7.b.neL hl
    have lF:l≠F:=fun z=>by rw[z,t7.f] at hl;cases hl
    have lC:l≠C:=fun z=>by rw[z,t7.c] at hl;cases hl
    have lZ:l≠Z:=fun z=>by rw[z,t7.z] at hl;cases hl
    have lz:=t7.hZ.fresh hl
    have l0:H l=none:=free _ _ t7.fr lB hl
    have hw:y9 m (replicate m ((0,1):Int×Int)):=⟨length_replicate,fun p hp=>by rw[List.eq_of_mem_replicate hp];decide⟩
    have EK:Nt1 C0.hp (replicate m ((0,1):Int×Int)):=Nt1.rep
    generalize replicate m ((0,1):Int×Int)=cw at Ac hw EK
    simp only[aD]
    clear s8 t7 hl em e1 e2 e3 cl rl hG hr OQ free hn
    refine⟨_,rfl,rc,_,1,_,rfl,rfl,dZ f1,rfl,kc,rfl,⟨_,SqT.of f3⟩,Cp (K:=K) (a:=kc) (xs:=C0.hp.map V.int) (fun j σ H'=>∃ ys row v8,σ=[some (.ref B),some (.int (m:Int)),some (.int sc),some (.int un),some (.ref C),some (.ref Z),some (.ref rc),some (.ref l),v8,v9,none]/\Tb H B L F C Z mT lY xs cs zs aU H'/\H' rc=some (.tup [.ref pc,.ref kc,.int C0.rk])/\H' pc=some (.tup [.int C0.n,.int C0.u])/\H' kc=some (.tup (C0.hp.map V.int))/\H' l=some (.lst ys)/\bL UM 115 H' ys row/\y9 m row/\Nt1 C0.hp row) ⟨acc,cw,_,rfl,t8,f1,f2,f3,lq,Ac,hw,EK⟩ (fun j σ H' _ ⟨_,_,_,_,_,_,_,z,_⟩=>SqT.of z) ?_ ?_⟩
    ·clear t8 f1 f2 f3 lq Ac hw EK
     rintro j y σ H9 NN BB hy ⟨ys,row,v8,rfl,t9,k1,k2,k3,Ae,Gv,hw,EK⟩ kN kB
     clear kB
     obtain⟨hj,rfl⟩:=int_at hy
     obtain⟨x0,x1⟩:=g3.1 C0.hp[j] (getElem_mem hj)
     have xm:=getElem_mem hj
     generalize C0.hp[j]=X at x0 x1 xm |-
     clear hy key L9
     simp only[aD]
     k_extra "rd"
     refine⟨B,sc+1,L,rfl,t9.b,by omega,Sz.mono (j:=31) (Sz.of (by omega)) (by decide),fun d H10 d0 d1 HA wa=>?_⟩
     have zX:=TS.fr t9.b wa
     have xZ:=t9.pull tn wa HA
     have k1:=zX _ _ k1
     have k2:=zX _ _ k2
     have k3:=zX _ _ k3
     have D_:=wa _ _ lB Ae
     have y8:=Gv.ts zX
     clear zX t9 wa HA Ae Gv
     k_extra "rd"
     refine⟨B,2,L,rfl,xZ.b,by decide,by decide,fun d2 H11 c0 c1 Ib vP=>?_⟩
     have p_:=TS.fr xZ.b vP
     have xj:=xZ.pull tn vP Ib
     have k1:=p_ _ _ k1
     have k2:=p_ _ _ k2
     have k3:=p_ _ _ k3
     have Ly:=vP _ _ lB D_
     have xC:=y8.ts p_
     have om:IntMulOk d d2:=(Sz.of (k:=31) (by omega):Sz 31 d).ok (Sz.of (k:=2) (by omega)) (by decide)
     have dd:0<=d*d2/\d*d2<=1000000000:=by
      have:d2=0\/d2=1:=by omega
      rcases this with rfl | rfl<;>omega
     clear p_ xZ vP Ib D_ y8
     k_extra "rd"
     refine⟨B,un,L,rfl,xj.b,Gs,Sz.mono (j:=6) (Sz.of (by omega)) (by decide),fun d3 H12 e0 e1 Pa rh=>?_⟩
     have j4:=TS.fr xj.b rh
     have O1:=xj.pull tn rh Pa
     have k1:=j4 _ _ k1
     have k2:=j4 _ _ k2
     have k3:=j4 _ _ k3
     have LV:=rh _ _ lB Ly
     have LJ:=xC.ts j4
     clear j4 xj rh Pa Ly xC
     k_extra "rd"
     refine⟨_,_,rfl,by omega,Sz.mono (j:=7) (Sz.of (by omega)) (by decide),fun q hq=>?_⟩
     have du:=Gh dd.1 dd.2 (by omega:0 < 1+d3) (by omega)
     have oh:=ak.new (o:=.tup [.int (kg (d*d2) (1+d3)),.int (jI (d*d2) (1+d3))]) hq
     have Kr:=O1.same oh
     have k1:=oh _ _ k1
     have k2:=oh _ _ k2
     have k3:=oh _ _ k3
     have BZ:=oh _ _ LV
     have Jo:=LJ.ts (TS.of oh)
     have Im:upd H12 q (.tup [.int (kg (d*d2) (1+d3)),.int (jI (d*d2) (1+d3))]) q=_:=af
     generalize upd H12 q (.tup [.int (kg (d*d2) (1+d3)),.int (jI (d*d2) (1+d3))])=H13 at Kr k1 k2 k3 BZ Jo Im |-
     clear oh O1 LV LJ hq
     have hyl:ys.length=m:=by rw[Jo.1,hw.1]
     have hx:ixN ys.length X=some X.toNat:=by
      unfold ixN
      rw[if_pos (by omega),if_pos (by omega)]
     have nt:∀ a xs,H13 a=some (.tup xs)->a≠l:=fun a xs ha z=>by rw[z,BZ] at ha;cases ha
     refine⟨ys,BZ,X.toNat,hx,kN _ _ ⟨ys.set X.toNat (.ref q),row.set X.toNat (kg (d*d2) (1+d3),jI (d*d2) (1+d3)),_,rfl,Kr.row BZ lB lL lF lC lZ lz l0,by rw[ax (nt _ _ k1)];exact k1,by rw[ax (nt _ _ k2)];exact k2,by rw[ax (nt _ _ k3)];exact k3,af,?_,?_,EK.put xm x0⟩⟩
     ·exact (Jo.ts (TS.lst BZ)).set (by rw[ax (nt _ _ Im)];exact Im) du.pt
     ·refine⟨by rw[length_set];exact hw.1,fun p hp=>?_⟩
      rcases List.mem_or_eq_of_mem_set hp with hp | hp
      ·exact hw.2 p hp
      ·rw[hp];exact du.nn
    ·rintro σ H9 ⟨ys,row,v8,rfl,t9,k1,k2,k3,Ae,Gv,hw,EK⟩
     exact L9 _ _ ⟨l,ys,row,_,rfl,t9,k1,k2,k3,Ae,Gv,⟨hw,EK⟩,lB,lL,lF,lC,lZ,lz,l0⟩
 ·rintro σ H7 ⟨xs,cs,zs,aU,v6,v7,v8,v9,rfl,t7,cl,rl,hG,hr,hn⟩
  have SM:=t7.hF.1
  exact key _ _ ⟨m,sc,un,F,C,Z,mT,lY,xs,cs,zs,aU,_,_,_,_,rfl,t7,tn,m6,by omega,by omega,hG,hr,hn⟩
theorem sW(D:aS K mg "_law_case" jF f fd)(T:Txt K mg cx)(dW:aq P w K mg base CX0 2 "_law_many" ["_law_bag_here"] fU)(av:aq P w K mg base CX0 1 "_law_pull" ["_law_bag_here","_law_many_here"] bP)(iq:aq P w K mg base CX0 5 "_law_tabled" ["_law_bag_here"] gy)(iE:aq P w K mg base CX0 2 "_law_worths" ["_law_bag_here","_law_many_here"] gL)(cR:aq P w K mg base CX0 4 "_law_claims" ["_law_bag_here","_law_many_here"] eF):aq P w K mg base CX0 6 "_law_case" ["_law_bag_here"] jn:=by
 refine D.ok (D.q dq (fun vs H Q E h=>?_) (fun bW A outer s H vs Q E hr h=>?_)) (D.fn.binds fun _ _ _ _ _ _ us hl=>match us,hl with | [_],_=>rfl)
 ·obtain⟨_,_,rfl,_⟩:=h
  rfl
 obtain⟨B,L,rfl,hB,hQ⟩:=h
 refine⟨_,(ag (bX (aK lg (aJ av (aH (qv 0) ae)) ae (aX _)) (ag (nk (aJ iq (aF (qv 0))) (eK (K:=K) (n:=4) rfl rfl (aY (au (i:=1) dq.nd rfl (inl rfl)) (aY (au (i:=2) dq.nd rfl (inl rfl)) (aY (au (i:=3) dq.nd rfl (inl rfl)) (aY (au (i:=4) dq.nd rfl (inl rfl)) eo))))))
   (ah (aB (bh (aH (qv 1) (qv 2)))))) be)
   (ag (aO 5 dq.nd (aJ dW (aF (qv 0))))
   (ah (aB (bh (aH (aJ iE (aH (qv 0) (qv 5))) (aJ cR (aH (qv 0) (qv 5))))))))),?_⟩
 k_extra "rx"
 refine⟨B,2,L,rfl,hB,by decide,by decide,fun d H1 d0 d1 b1 f1=>?_⟩
 k_extra "rx"
 refine⟨rfl,?_⟩
 refine⟨_,rfl,gO (fun h1=>?_) (fun h1=>?_)⟩
 ·k_extra "rx"
  refine⟨B,L,rfl,b1,fun T W C P Z ws xs cs ys ps zs aU H2 tf hT=>?_⟩
  refine⟨T,_,rfl,SqT.of hT,rfl,_,_,rfl,_,_,rfl,_,_,rfl,_,_,rfl,rfl,?_⟩
  have wB:=b1.ne tf.w0
  have cB:=b1.ne tf.c0
  dsimp only
  k_extra "rx"
  refine bK (le_of_ble_eq_true rfl) fun T2 H3 Om s3 Aa=>?_
  refine hQ T2 W C ws xs cs H3 ⟨tf.b.keep s3,(f1.trans tf.fr).trans (Fr1.of s3),(⟨tf.w,tf.c,tf.hC⟩:k9 W C ws xs cs H2).same s3,⟨df.pos,by decide,fun c hc=>?_,tf.c16,tf.w6,fun x hx=>(tf.wsz x hx).2.mono (by decide)⟩,fun x hx=>(tf.wsz x hx).1,wB,cB,fun c hc=>⟨(tf.hG c hc).1.pt,(tf.hG c hc).2.2.2,(tf.hG c hc).2.2.1⟩,fun x hx=>(tf.wsz x hx).2⟩ Aa
  have g:=tf.hG c hc
  exact⟨g.1.pt.mono (by decide),g.1.nn,g.2.1⟩
 ·k_extra "rx"
  refine⟨B,L,rfl,b1,fun m H2 m0 m6 b2 f2=>?_⟩
  k_extra "rx"
  refine⟨B,m,L,rfl,b2,m0,m6,fun W ws H3 nW b3 f3 hW hwl hwz=>?_⟩
  have wB:=b2.ne nW
  k_extra "rx"
  refine⟨B,m,L,rfl,b3,m0,m6,fun C xs cs H4 nC b4 f4 hC Sb JK hG=>?_⟩
  have cB:=b3.ne nC
  k_extra "rx"
  refine bK (le_of_ble_eq_true rfl) fun T2 H5 Om s5 Aa=>?_
  refine hQ T2 W C ws xs cs H5 ⟨b4.keep s5,(((f1.trans f2).trans f3).trans f4).trans (Fr1.of s5),(⟨f4 _ _ wB hW,hC,Sb⟩:k9 W C ws xs cs H4).same s5,⟨df.pos,by decide,fun c hc=>?_,JK,by omega,fun x hx=>(hwz x hx).2.mono (by decide)⟩,fun x hx=>(hwz x hx).1,wB,cB,fun c hc=>⟨(hG c hc).1.pt.mono (by decide),(hG c hc).2.2.2,by rw[hwl];exact (hG c hc).2.2.1⟩,fun x hx=>(hwz x hx).2.mono (by decide)⟩ Aa
  have g:=hG c hc
  exact⟨g.1.pt.mono (by decide),g.1.nn,g.2.1⟩
theorem p7(D:aS K mg "_law_claims" iB f fd)(T:Txt K mg cx)(av:aq P w K mg base CX0 1 "_law_pull" ["_law_bag_here","_law_many_here"] bP)(lH:aq P w K mg base CX0 3 "_law_due" ["_law_bag_here","_law_scale"] kn)(kE:aq P w K mg base CX0 2 "_law_heap" ["_law_bag_here","_law_many_here"] i7):aq P w K mg base CX0 4 "_law_claims" ["_law_bag_here","_law_many_here"] eF:=by
 refine D.ok (D.q c7 (fun vs H Q E h=>?_) (fun bW A outer s H vs Q E hr h=>?_)) (D.fn.binds fun _ _ _ _ _ _ us hl=>match us,hl with | [_,_],_=>rfl)
 ·obtain⟨_,_,_,rfl,_⟩:=h
  rfl
 obtain⟨B,m,L,rfl,hB,m0,m6,hQ⟩:=h
 refine⟨_,(ag (aO 2 c7.nd (aj (bJ (ai ae (ai ae (ai ae (ai (aG pX ae ae) bq))))) (aJ av (aH (qv 0) ae))))
   (ag (fF (k:=3) ["_law_k"] [("_law_bag_here", 0)] c7.nd (bG (by rfl) T.n_range (aF (aj (bJ (ai ae (ai ae (ai ae (ai ae bq))))) (aJ av (aH (qv 0) ae))))) (aE (by decide)) (fun _ _ _ _ _=>⟨(au (i:=0) (show (["_law_k","_law_bag_here"]:List Str).Nodup by decide +kernel) rfl (inl rfl)),bF,(aG xn (aJ av (aH (qv 1) ae)) ae)⟩))
   (ag (aO 4 c7.nd (bJ bq))
   (ag (bR PassesOwn.never rfl (bG (by rfl) T.n_range (aF (aj (bJ (ai ae (ai ae (ai ae (ai ae (ai ae (ai ae (ai ae (ai ae (ai ae (ai ae bq))))))))))) (aJ av (aH (qv 0) ae))))) (au (i:=5) c7.nd rfl (inl rfl)) (ah (bX (uI (aK (xK hr.units) (qv 4) (bJ bq) (aX _)) (oH (aK lg (aJ av (aH (qv 0) ae)) ae (aX _)))).pt (ah (dN (iG (K:=K) rfl PySem.F.plainAttrs_list PySem.F.slot_list_append PySem.F.type_list_append bT (qv 4) (aF (aj (qv 4) (aJ av (aH (qv 0) (aA aW (by rfl) T.n_len bQ (aF (qv 4)))))))))) (ah (dN (iG (K:=K) rfl PySem.F.plainAttrs_list PySem.F.slot_list_append PySem.F.type_list_append bT (qv 4) (aF (bh (oX (aJ lH (aH (qv 0) (qv 2))) (aJ kE (aH (qv 0) (qv 1))) (aj (qv 3) (aJ av (aH (qv 0) (aA aW (by rfl) T.n_len bQ (aF (qv 3)))))))))))))))
   (ah (aB (qv 4))))))),?_⟩
 k_extra "rx"
 refine bK (by decide) fun p H1 hp s1 hp1=>?_
 k_extra "rx"
 refine⟨B,4,L,rfl,hB.keep s1,by decide,by decide,fun d H2 d0 d1 b2 f2=>?_⟩
 obtain⟨sc,ex,CQ,wt⟩:=pick (P:=fun x=>0<=x/\x<=1000000000) [12,3,100,10 ^ 9] d0 d1 (by decide)
 refine vv (f2 p _ (hB.ne hp) hp1) ex ?_
 have rh:Fr1 B H H2:=(Fr1.of s1).trans f2
 clear ex f2 hp1 s1 hp
 k_extra "rx"
 refine⟨by show 4<=sizeLine;decide,fun q hq=>⟨_,rfl,B,4,L,rfl,b2.new hq,by decide,by decide,fun d6 H3 g0 g1 b3 f3=>?_⟩⟩
 have Ah:=f3 q _ (b2.ne hq) af
 have Iw:Fr1 B H H3:=rh.trans ((Fr1.new hq).trans f3)
 obtain⟨nr,OJ,Js,C4⟩:=pick (P:=fun x=>0 < x/\x<=16) [1,2,3,16] g0 g1 (by decide)
 refine⟨q,_,d6,_,rfl,rfl,aP Ah,OJ,nr,rfl,by omega,by omega,fun l hl=>?_⟩
 clear OJ Ah f3 hq rh b2 d0 d1 g0 g1
 have vQ:=b3.ne hl
 have Mn:=b3.neL hl
 have Qq:H l=none:=yu Iw vQ hl
 refine de (k:=nr.toNat) (fun i acc H4=>∃ rs:List Int,acc=rs.map V.int/\rs.length=i/\(∀ r∈rs,Sz 10 r)/\br H4 B L/\Fr1 B H H4/\H4 l=some (.lst acc)) ⟨[],rfl,rfl,(fun r h=>by cases h),b3.new hl,Iw.trans (Fr1.new hl),af⟩ ?_ ?_
 ·rintro i acc H4 hi ⟨rs,rfl,hlen,hrz,b4,f4,ud⟩
  refine ba (GD ?_)
  rw[if_pos rfl]
  k_extra "rx"
  refine⟨B,30,L,rfl,b4,by decide,by decide,fun d5 H5 e0 e1 b5 f5=>?_⟩
  k_extra "rx"
  exact⟨f5 _ _ vQ ud,ay (by rw[length_map];omega),rs++[d5 - 9],by rw[map_append];rfl,by rw[length_append,hlen];rfl,(fun r hr=>by rcases mem_append.mp hr with hr | hr;exact hrz r hr;rw[mem_singleton.mp hr];exact (Sz.of (k:=6) (by omega):Sz 6 (d5 - 9)).mono (by decide)),b5.put vQ Mn,AE (f4.trans f5) Fr1.upd Qq,af⟩
 ·rintro acc H4 ⟨rs,rfl,hrs,hrz,b4,f4,ud⟩
  clear b3 Iw hl
  k_extra "rx"
  refine bK (by decide) fun F H5 hF s5 uL=>?_
  have zF:=b4.ne hF
  have Ml:=b4.neL hF
  have Sv:F≠l:=fun z=>by rw[z,ud] at hF;cases hF
  have KE:H F=none:=yu f4 zF hF
  have b5:=b4.keep s5
  have f5:Fr1 B H H5:=f4.trans (Fr1.of s5)
  have uN:=s5 _ _ ud
  clear b4 f4 ud hF s5
  k_extra "rx"
  refine⟨by show 10<=sizeLine;decide,fun q hq=>⟨_,rfl,B,10,L,rfl,b5.new hq,by decide,by decide,fun d6 H6 g0 g1 b6 f6=>?_⟩⟩
  have Lq:=f6 q _ (b5.ne hq) af
  have s5:=ak.new (o:=.lst [.int 4,.int 3,.int 5,.int 2,.int 1,.int 6,.int 8,.int 0,.int 11,.int 16]) hq
  have rH:=f6 _ _ vQ (s5 _ _ uN)
  have C_:=f6 _ _ zF (s5 _ _ uL)
  have F6:Fr1 B H H6:=f5.trans ((Fr1.new hq).trans f6)
  obtain⟨nc,O5,J1,uO⟩:=pick (P:=fun x=>0<=x/\x<=16) [4,3,5,2,1,6,8,0,11,16] g0 g1 (by decide)
  refine⟨q,_,d6,_,rfl,rfl,aP Lq,O5,nc,rfl,by omega,by omega,fo (lo:=0) (n:=nc.toNat) (fun i σ H7=>∃ xs cs v,σ=[some (.ref B),some (.int m),some (.int sc),some (.ref l),some (.ref F),v]/\Fr1 B H H7/\br H7 B L/\H7 l=some (.lst (rs.map V.int))/\H7 F=some (.lst xs)/\ClsAt H7 xs cs/\cs.length=i/\∀ c∈cs,nJ UM 115 m c)
   ⟨[],[],none,rfl,F6,b6,rH,C_,ClsAt.nil,rfl,fun c hc=>by cases hc⟩ ?_ ?_⟩
  ·clear O5 Lq s5 rH C_ F6 b6 f6 hq uN uL f5 b5 g0 g1
   rintro i σ H7 NN BB hi ⟨xs,cs,v,rfl,F7,b7,Fu,IS,DT,hlen,hG⟩ kN kB
   clear kB
   have hxl:xs.length=i:=by rw[DT.1];exact hlen
   have fin:∀(H8:Hp)(v':V)(c':Cl)(w5:Option V),Fr1 B H H8->br H8 B L->H8 l=some (.lst (rs.map V.int))->H8 F=some (.lst xs)->ClsAt H8 xs cs->tF H8 v' c'->nJ UM 115 m c' ->
     mh (.ref F) [v'] H8 fun _ H9=>NN [some (.ref B),some (.int m),some (.int sc),some (.ref l),some (.ref F),w5] H9:=fun H8 v' c' w5 F8 b8 lq wN DM c8 g8=>by
    refine rV wN (by omega) fun H9 Sk f9=>kN _ _ ⟨_,cs++[c'],_,rfl,AE F8 f9 KE,b8.frm f9 zF Ml,f9 _ _ Sv.symm lq,Sk,(DM.ts (TS.frl wN f9)).snoc (c8.ts (TS.frl wN f9)),by rw[length_append,hlen];rfl,fun c hc=>?_⟩
    rcases mem_append.mp hc with hc | hc
    ·exact hG c hc
    ·rw[mem_singleton.mp hc];exact g8
   refine ba ?_
   refine Hy (fun H8=>br H8 B L/\H8 F=some (.lst xs)/\H8 l=some (.lst (rs.map V.int))/\ClsAt H8 xs cs/\Fr1 B H H8) ?_ fun u' ku=>?_
   ·rintro H8 ⟨b8,wN,lq,DM,F8⟩
    k_extra "rx"
    refine n_ ?_
    k_extra "rx"
    refine⟨.inl ⟨rfl,_,SqL.of wN⟩,?_⟩
    k_extra "rx"
    refine⟨B,sc,L,rfl,b8,CQ,wt,fun pd n u H9x np Pr Ms LH du=>?_⟩
    have OW:=TS.fr b8 Ms
    have Lg:=Ms _ _ zF wN
    have KG:=Ms _ _ vQ lq
    have LG:=DM.ts OW
    have F9x:=F8.trans Ms
    clear np OW
    k_extra "rx"
    refine⟨B,m,L,rfl,Pr,m0,m6,fun th hs H10 nt HA wa Oj D_ Oo=>?_⟩
    have xZ:=TS.fr Pr wa
    have NV:=wa _ _ zF Lg
    have hll:=wa _ _ vQ KG
    have NB:=LG.ts xZ
    have F10:=F9x.trans wa
    have Ol:=xZ _ _ LH
    clear nt xZ Lg KG LG F9x LH
    k_extra "rx"
    refine⟨B,_,L,rfl,HA,by rw[length_map];omega,Sz.mono (j:=6) (Sz.of (by rw[length_map];omega)) (by decide),fun j H11 j0 j1 Ib vP=>?_⟩
    have xj:=TS.fr HA vP
    have NH:=xj _ _ Ol
    have M6:=xj _ _ Oj
    rw[length_map] at j1
    refine vv (vP _ _ vQ hll) (pN (ws:=rs) j0 j1) ?_
    k_extra "rx"
    refine bK (by show 3<=64;decide) fun r H12 hr j4 MU=>?_
    exact fin H12 _ ⟨n,u,hs,rs.getD j.toNat 0⟩ _ ((F10.trans vP).trans (Fr1.of j4)) (Ib.keep j4) (j4 _ _ (vP _ _ vQ hll)) (j4 _ _ (vP _ _ zF NV)) ((NB.ts xj).ts (TS.of j4)) ⟨r,pd,th,rfl,MU,j4 _ _ NH,j4 _ _ M6⟩ ⟨du,D_,Oo,KQ hrz (by omega)⟩
   k_extra "rx"
   refine bK (by decide) fun e H8 he s8 OB=>?_
   have wN:=s8 _ _ IS
   have lq:=s8 _ _ Fu
   have DM:=DT.ts (TS.of s8)
   have b8:=b7.keep s8
   have F8:=F7.trans (Fr1.of s8)
   refine⟨.lst (cs.map cD),.lst [],kO wN DM.BM,kO OB so,fun _ j d e h1 h2=>by simp at h2,?_⟩
   clear s8 IS Fu DT b7 F7 he OB
   k_extra "rx"
   refine vg (fun h1=>?_) (fun h1=>?_)
   ·have hpos:0 < xs.length:=by
     rcases Nat.eq_zero_or_pos xs.length with z | z
     ·exfalso
      have z2:cs=[]:=List.length_eq_zero_iff.mp (by rw[<- DM.1];exact z)
      simp[z2] at h1
     ·exact z
    k_extra "rx"
    refine⟨B,7,L,rfl,b8,by decide,by decide,fun d9 H9 k0 k1 b9 f9=>?_⟩
    have t9:=TS.fr b8 f9
    have gF:=f9 _ _ zF wN
    have gl:=f9 _ _ vQ lq
    have gC:=DM.ts t9
    have Pw:=F8.trans f9
    clear t9 wN lq DM b8 F8 f9
    k_extra "rx"
    refine⟨rfl,?_⟩
    k_extra "rx"
    refine gO (fun h2=>?_) (fun h2=>?_)
    ·k_extra "rx"
     refine n_ ?_
     k_extra "rx"
     refine⟨.inl ⟨rfl,_,SqL.of gF⟩,?_⟩
     k_extra "rx"
     refine⟨B,_,L,rfl,b9,by omega,Sz.mono (j:=6) (Sz.of (by omega)) (by decide),fun j H10 j0 j1 HA wa=>?_⟩
     have LP:=gC.ts (TS.fr b9 wa)
     have hj:j.toNat < cs.length:=by rw[<- gC.1];omega
     obtain⟨v',ev,xG⟩:=LP.2 j.toNat cs[j.toNat] (getElem?_eq_getElem hj)
     have ej:atI xs j=some v':=by
      have:=aQ ev
      rwa [toNat_of_nonneg j0] at this
     refine vv (wa _ _ zF gF) ej ?_
     exact fin _ _ _ _ (Pw.trans wa) HA (wa _ _ vQ gl) (wa _ _ zF gF) LP xG (hG _ (getElem_mem hj))
    ·exact ku _ ⟨b9,gF,gl,gC,Pw⟩
   ·k_extra "rx"
    exact ku _ ⟨b8,wN,lq,DM,F8⟩
  ·rintro σ H7 ⟨xs,cs,v,rfl,F7,b7,Fu,IS,DT,hlen,hG⟩
   exact⟨_,rfl,hQ F xs cs H7 KE b7 F7 IS DT (by omega) hG⟩
theorem rQ(D:aS K mg "_law_ahead" jh f fd)(T:Txt K mg cx)(gX:aq P w K mg base CX0 4 "_law_fill" ["_law_due_here","_law_paid"] iY)(bA:aq P w K mg base CX0 1 "_law_below" ["_law_one","_law_other"] cN):aq P w K mg base CX0 5 "_law_ahead" ["_law_claims_here","_law_parts","_law_place"] iw:=by
 refine D.ok (D.q cS (fun vs H Q E h=>?_) (fun bW A outer s H vs Q E hr h=>?_)) (D.fn.binds fun _ _ _ _ _ _ us hl=>match us,hl with | [_,_,_],_=>rfl)
 ·obtain⟨_,_,_,_,_,_,_,_,_,rfl,_⟩:=h
  rfl
 obtain⟨c,p,M,ws,xs,cs,ys,ps,a,rfl,hc,uK,hC,ha,hp,hR,pl,pz,hM,hQ⟩:=h
 refine⟨_,(ag (aO 3 cS.nd (aj (aj (qv 0) (qv 2)) ae))
   (ag (aO 4 cS.nd (aJ gX (aH (aj (aj (qv 0) (qv 2)) ae) (aj (qv 1) (qv 2)))))
   (ag (aO 5 cS.nd (bJ bq))
   (ag (bR PassesOwn.never rfl (bG (by rfl) T.n_range (aF (aA aW (by rfl) T.n_len bQ (aF (qv 0))))) (au (i:=6) cS.nd rfl (inl rfl)) (ag (aO 7 cS.nd (tG (fD lg (aj (aj (qv 0) (qv 6)) ae) (qv 3) (aX _)) (tM (AW (aJ bA (aH (qv 4) (aJ gX (aH (aj (aj (qv 0) (qv 6)) ae) (aj (qv 1) (qv 6))))))))))
   (ah (bX (ll (aK n5 (aj (aj (qv 0) (qv 6)) ae) (qv 3) (aX _)) (jv (cE (qv 7)))).pt (ah (dN (iG (K:=K) rfl PySem.F.plainAttrs_list PySem.F.slot_list_append PySem.F.type_list_append bT (qv 5) (aF (qv 6))))) be))))
   (ah (aB (qv 5))))))),?_⟩
 have hxl:=uK.1
 have c16:=hC.c16
 have OP:∀ i,i < cs.length->∃ r,atI ys (i:Int)=some (.ref r)/\H r=some (.tup [.int (ps.getD i (0,1)).1,.int (ps.getD i (0,1)).2]):=fun i hi=>by
  obtain⟨r,er,hr⟩:=hR.2 i ps[i] (getElem?_eq_getElem (by omega))
  have ep:ps.getD i (0,1)=ps[i]:=by simp[getD_eq_getElem?_getD,show i < ps.length by omega]
  exact⟨r,aQ er,by rw[ep];exact hr⟩
 have atC:∀ i,i < cs.length->∃ rc pc kc,xs[i]?=some (.ref rc)/\H rc=some (.tup [.ref pc,.ref kc,.int (rkP cs i)])/\H pc=some (.tup [.int (aI cs i).1,.int (aI cs i).2]):=fun i hi=>by
  obtain⟨v,ev,rc,pc,kc,rfl,e1,e2,e3⟩:=uK.2 i cs[i] (getElem?_eq_getElem hi)
  refine⟨rc,pc,kc,ev,?_,?_⟩
  ·rw[w4 hi];exact e1
  ·rw[fW hi];exact e2
 have dz:∀ i,i < cs.length->0<=(aI cs i).1/\0 < (aI cs i).2/\gcd (aI cs i).1 (aI cs i).2=1/\Sz 400 (aI cs i).1/\Sz 400 (aI cs i).2:=fun i hi=>by
  have d:=(hC.dp hi).1
  exact⟨(hC.dp hi).2,d.pos,d.cop,(d.nsz hC.u0).mono (by decide),(Sz.le hC.uz (cC d.toOk.dvd hC.u0)).mono (by decide)⟩
 have fz:∀ i,i < cs.length->Sz 20000 (flP cs ps i).1/\Sz 20000 (flP cs ps i).2:=fun i hi=>by
  obtain⟨d0,d1,_,d2,d3⟩:=dz i hi
  have Qx:=(pz i hi).nsz hM.pos
  have Qo:=(pz i hi).toOk.usz hM
  unfold flP j5
  split
  ·exact⟨by decide,by decide⟩
  ·obtain⟨a,b⟩:=Bk ((Qx.mul d3).mono (by decide:4100<=4400)) (Qo.mul d2)
   exact⟨a.mono (by decide),b.mono (by decide)⟩
 obtain⟨ra,a2,w_⟩:=OP a ha
 obtain⟨rc,pc,kc,ev,J1,uO⟩:=atC a ha
 have a1:atI xs (a:Int)=some (.ref rc):=aQ ev
 obtain⟨d0,d1,d2,d3,d4⟩:=dz a ha
 k_extra "rx"
 refine⟨pc,ra,aI cs a,ps.getD a (0,1),rfl,uO,w_,d0,(pz a ha).pos,d3.mono (by decide),d4.mono (by decide),((pz a ha).nsz hM.pos).mono (by decide),(pz a ha).toOk.usz hM,fun t H1 s1 ht=>?_⟩
 k_extra "rx"
 refine bK (by decide) fun F H2 hF s2 Aj=>?_
 have F0:H F=none:=s1.free hF
 have yN:=s1.trans s2
 have Ig:=s2 _ _ ht
 clear s1 s2 hF ht
 k_extra "rx"
 refine⟨_,rfl,c,_,rfl,aP (yN _ _ hc),_,rfl,by omega,by omega,fo (lo:=0) (n:=((xs.length:Nat):Int).toNat) (fun j σ H'=>∃ v6 v7,σ=[some (.ref c),some (.ref p),some (.int (a:Int)),some (.int (rkP cs a)),some (.ref t),some (.ref F),v6,v7]/\ak H H'/\H' t=some (.tup [.int (flP cs ps a).1,.int (flP cs ps a).2])/\H' F=some (.lst (((range j).filter (k7 cs ps a)).map fun i:Nat=>V.int (i:Int)))) ⟨_,_,rfl,yN,Ig,Aj⟩ ?_ ?_⟩
 ·rintro i σ H4 NN BB Ld ⟨v6,v7,rfl,oC,gt,gF⟩ kN kB
  clear kB hQ
  have hi:i < cs.length:=by omega
  obtain⟨rb,b2,QY⟩:=OP i hi
  obtain⟨rd,pd,kd,ed,Mm,hd2⟩:=atC i hi
  have b3:atI xs (i:Int)=some (.ref rd):=aQ ed
  have ei:(0+(i:Int))=(i:Int):=zero_add _
  have gb:=oC _ _ QY
  have g1:=oC _ _ Mm
  have g2:=oC _ _ hd2
  have gp:=oC _ _ hp
  have gc:=oC _ _ hc
  have len:(((range i).filter (k7 cs ps a)).map fun i:Nat=>V.int (i:Int)).length<=16:=by
   rw[length_map]
   refine le_trans (length_filter_le _ _) ?_
   rw[length_range]
   omega
  rw[iO (k7 cs ps a) (fun i:Nat=>V.int (i:Int))] at kN
  generalize ((range i).filter (k7 cs ps a)).map (fun i:Nat=>V.int (i:Int))=A' at gF len kN
  have ec:k7 cs ps a i=(decide (rkP cs i < rkP cs a) || (decide (rkP cs i=rkP cs a) && !decide ((flP cs ps a).1*(flP cs ps i).2 < (flP cs ps i).1*(flP cs ps a).2))):=rfl
  refine ba ?_
  rw[ei]
  dsimp only
  refine mH (fun σ' H'=>∃ b,σ'=[some (.ref c),some (.ref p),some (.int (a:Int)),some (.int (rkP cs a)),some (.ref t),some (.ref F),some (.int (i:Int)),some (.bl b)]/\ak H4 H'/\b=(decide (rkP cs i=rkP cs a) && !decide ((flP cs ps a).1*(flP cs ps i).2 < (flP cs ps i).1*(flP cs ps a).2))) ?_ fun uM key=>?_
  ·rintro σ' H5 ⟨b,rfl,s5,eb⟩
   rw[<- eb] at ec
   have Lr:=s5 _ _ gF
   have S1:=s5 _ _ g1
   have S7:=s5 _ _ gc
   have put:k7 cs ps a i=true->mh (.ref F) [.int (i:Int)] H5 fun _ H6=>NN [some (.ref c),some (.ref p),some (.int (a:Int)),some (.int (rkP cs a)),some (.ref t),some (.ref F),some (.int (i:Int)),some (.bl b)] H6:=fun hc=>by
    refine rV Lr (by omega) fun H6 g6 f6=>?_
    refine kN _ _ ⟨_,_,rfl,mK F0 (oC.trans s5) f6,TS.frl Lr f6 _ _ (s5 _ _ gt),?_⟩
    rw[hc,if_pos rfl]
    exact g6
   k_extra "rx"
   refine gO (fun h1=>?_) (fun h1=>?_)
   ·refine xg ?_
    refine n_ ?_
    k_extra "rx"
    refine⟨.inl ⟨rfl,_,SqL.of Lr⟩,?_⟩
    k_extra "rx"
    exact put (by rw[ec,decide_eq_true h1];rfl)
   ·rw[decide_eq_false h1,Bool.false_or] at ec
    k_extra "rx"
    refine brk (fun h2=>?_) (fun h2=>?_)
    ·refine n_ ?_
     k_extra "rx"
     refine⟨.inl ⟨rfl,_,SqL.of Lr⟩,?_⟩
     k_extra "rx"
     exact put (by rw[ec,h2])
    ·refine bZ ?_
     refine kN _ _ ⟨_,_,rfl,oC.trans s5,s5 _ _ gt,?_⟩
     rw[ec,h2,if_neg Bool.false_ne_true,append_nil]
     exact Lr
  ·clear kN
   k_extra "rx"
   refine tx ?_
   k_extra "rx"
   refine⟨rfl,?_⟩
   refine⟨_,rfl,gO (fun h2=>?_) (fun h2=>?_)⟩
   ·have h2:=V.int.inj h2
    obtain⟨d0,d1,d2,d3,d4⟩:=dz i hi
    show xW _ _ _ _
    rw[vD]
    k_extra "rx"
    refine⟨pd,rb,aI cs i,ps.getD i (0,1),rfl,g2,gb,d0,(pz i hi).pos,d3.mono (by decide),d4.mono (by decide),((pz i hi).nsz hM.pos).mono (by decide),(pz i hi).toOk.usz hM,fun t2 H5 s5 M8=>?_⟩
    obtain⟨p1,p2⟩:=fz a ha
    obtain⟨q1,q2⟩:=fz i hi
    k_extra "rx"
    refine⟨t,t2,_,_,_,_,rfl,s5 _ _ gt,M8,p1,p2,q1,q2,?_⟩
    refine⟨_,rfl,ba (key _ _ ⟨_,rfl,s5,?_⟩)⟩
    rw[decide_eq_true h2]
    rfl
   ·refine ba (key _ _ ⟨_,rfl,fun _ _ h=>h,?_⟩)
    rw[decide_eq_false fun z=>h2 (by rw[z])]
    rfl
 ·rintro σ H3 ⟨v6,v7,rfl,s3,ME,vi⟩
  rw[toNat_natCast,hxl] at vi
  k_extra "rx"
  exact hQ F H3 s3 vi
theorem qH(D:aS K mg "_law_papers" ij f fd)(T:Txt K mg cx)(jo:aq P w K mg base CX0 5 "_law_ahead" ["_law_claims_here","_law_parts","_law_place"] iw)(dr:aq P w K mg base CX0 1 "_law_heaps" ["_law_many_here"] fu)(c_:aq P w K mg base CX0 1 "_law_lies" ["_law_touched","_law_heap_here"] fT)(bo:aq P w K mg base CX0 4 "_law_sum" ["_law_row"] c3)(dt:aq P w K mg base CX0 1 "_law_worth" ["_law_worths_here","_law_heap_here"] fE):aq P w K mg base CX0 6 "_law_papers" ["_law_worths_here","_law_claims_here","_law_parts","_law_place"] gK:=by
 refine D.ok (D.q c9 (fun vs H Q E h=>?_) (fun bW A outer s H vs Q E hr h=>?_)) (D.fn.binds fun _ _ _ _ _ _ us hl=>match us,hl with | [_,_,_,_],_=>rfl)
 ·obtain⟨_,_,_,_,_,_,_,_,_,_,rfl,_⟩:=h
  rfl
 obtain⟨w,c,p,M,ws,xs,cs,ys,ps,a,rfl,sh,hC,ha,hp,hR,pl,bt,pz,hM,hQ⟩:=h
 refine⟨_,(ag (bX (aK (ur hr.units) (aj (qv 2) (qv 3)) (aj (aj (qv 1) (qv 3)) ae) (aX _)) (ah (aB (bJ bq))) be)
   (ag (aO 4 c9.nd (aJ jo (oX (qv 1) (qv 2) (qv 3))))
   (ag (aO 5 c9.nd (bJ bq))
   (ag (bR PassesOwn.never rfl (aM (K:=K) rfl (aJ dr (aF (aA aW (by rfl) T.n_len bQ (aF (qv 0)))))) (au (i:=6) c9.nd rfl (inr rfl)) (ah (bX (cE (aJ c_ (aH (aj (aj (qv 1) (qv 3)) ae) (qv 6)))) (ag (aO 7 c9.nd (aJ bo (aF (ck ["_law_at"] [("_law_parts", 2),("_law_claims_here", 1),("_law_heap_here", 6)] (aM (K:=K) rfl (qv 4)) (aE (by decide)) (fun _ _ _ _ _=>⟨(au (i:=0) (show (["_law_at","_law_parts","_law_claims_here","_law_heap_here"]:List Str).Nodup by decide +kernel) rfl (inl rfl)),(iA (cE (aJ c_ (aH (aj (aj (qv 2) (qv 0)) ae) (qv 3))))),(aj (qv 1) (qv 0))⟩)))))
   (ah (bX (aK (ur hr.units) (qv 7) (bh (aH (aJ dt (aH (qv 0) (qv 6))) ae)) (aX _)) (ah (dN (iG (K:=K) rfl PySem.F.plainAttrs_list PySem.F.slot_list_append PySem.F.type_list_append bT (qv 5) (aF (qv 6))))) be))) be)))
   (ah (aB (qv 5))))))),?_⟩
 have hxl:=sh.hC.1
 have c16:=hC.c16
 have w6:=hC.w6
 have h6:∀ c∈cs,c.hp.length<=6:=fun c hc=>(hC.due c hc).2.2
 obtain⟨r,er,hr⟩:=hR.2 a ps[a] (getElem?_eq_getElem (by omega))
 have ep:ps.getD a (0,1)=ps[a]:=by simp[getD_eq_getElem?_getD,show a < ps.length by omega]
 have a2:atI ys (a:Int)=some (.ref r):=aQ er
 obtain⟨v,ev,rc,pc,kc,rfl,e1,e2,e3⟩:=sh.hC.2 a cs[a] (getElem?_eq_getElem ha)
 have a1:atI xs (a:Int)=some (.ref rc):=aQ ev
 have shc:=sh.c
 have ed:aI cs a=(cs[a].n,cs[a].u):=fW ha
 have ein:∀ j,inn cs (Srt.sub j) a=lies cs[a].hp (Srt.sub j):=fun j=>by unfold inn;rw[fK ha]
 have OE:=h6 _ (getElem_mem ha)
 have EL:BC M ws cs ps a=if ps.getD a (0,1)=aI cs a then [] else (range (2 ^ ws.length)).filter (ow M ws cs ps a):=rfl
 rw[ed,ep] at EL
 generalize ps[a]=P0 at hr EL
 generalize cs[a]=C0 at e1 e2 e3 ein OE EL
 have wl:(ws.map V.int).length=ws.length:=length_map _
 k_extra "rx"
 refine⟨r,pc,_,_,_,_,rfl,rfl,hr,e2,?_⟩
 refine⟨_,rfl,gO (fun h1=>?_) (fun h1=>?_)⟩
 ·rw[if_pos (Prod.ext h1.1 h1.2)] at EL
  k_extra "rx"
  refine bK (by decide) fun F H2 _ s2 Aj=>?_
  exact hQ F [] H2 s2 Aj ⟨fun _=>F,by rw[EL];rfl,fun i hi=>by rw[EL] at hi;cases hi⟩
 ·rw[if_neg fun z=>h1 (by rw[z];exact⟨rfl,rfl⟩)] at EL
  clear h1 ed ep
  k_extra "rx"
  refine⟨c,p,M,ws,xs,cs,ys,ps,a,rfl,shc,sh.hC,hC,ha,hp,hR,pl,pz,hM,fun G H2 yN hG=>?_⟩
  have hcl:((range cs.length).filter (k7 cs ps a)).length<=16:=by
   have:=length_filter_le (k7 cs ps a) (range cs.length)
   rw[length_range] at this
   omega
  have hcm:∀ i∈(range cs.length).filter (k7 cs ps a),i < cs.length:=fun i hi=>mem_range.mp (mem_filter.mp hi).1
  have sF:=fun j=>FN (U:=M) (cs:=cs) (ps:=ps) (a:=a) (j:=j)
  generalize (range cs.length).filter (k7 cs ps a)=cl at hG hcl hcm sF
  have vH:=sh.same yN
  have f1:=yN _ _ e1
  have f3:=yN _ _ e3
  have p2:=yN _ _ hp
  have R2:=hR.ts (TS.of yN)
  clear e1 e2 e3 hR sh hr er shc hp
  k_extra "rx"
  refine bK (by decide) fun F H3 hF s3 vi=>?_
  have F0:H F=none:=yN.free hF
  have QC:G≠F:=fun z=>by rw[z,hF] at hG;cases hG
  have QM:w≠F:=fun z=>by have:=vH.w;rw[z,hF] at this;cases this
  have Rp:c≠F:=fun z=>by have:=vH.c;rw[z,hF] at this;cases this
  have Sy:p≠F:=fun z=>by rw[z,hF] at p2;cases p2
  have Ez:=yN.trans s3
  have G3:=s3 _ _ hG
  have Ga:=vH.same s3
  have h1:=s3 _ _ f1
  have h3:=s3 _ _ f3
  have p3:=s3 _ _ p2
  have R3:=R2.ts (TS.of s3)
  clear vH yN s3 f1 f3 hG hF p2 R2
  k_extra "rx"
  refine⟨_,rfl,w,_,rfl,aP Ga.w,ws.length,by rw[wl],w6,fun E0 zs H4 s4 nE hE hS=>?_⟩
  have Nd:E0≠F:=fun z=>by rw[z,vi] at nE;cases nE
  have F4:=s4 _ _ vi
  have M5:=Ez.trans s4
  have G4:=s4 _ _ G3
  have BV:=Ga.same s4
  have i1:=s4 _ _ h1
  have i3:=s4 _ _ h3
  have p4:=s4 _ _ p3
  have R4:=R3.ts (TS.of s4)
  clear Ga Ez s4 h1 h3 G3 vi nE p3 R3
  have S9:=Bu w6
  obtain⟨ts,hts⟩:∃ ts:Nat->Addr,∀ i,i < 2 ^ ws.length->zs[i]?=some (.ref (ts i))/\H4 (ts i)=some (.tup ((Srt.sub i).map V.int)):=⟨fun i=>if h:i < 2 ^ ws.length then Classical.choose (hS.2 i h) else 0,fun i hi=>by
   dsimp only
   rw[dif_pos hi]
   exact Classical.choose_spec (hS.2 i hi)⟩
  refine⟨E0,rfl,⟨_,SqL.of hE⟩,eW (K:=K) (a:=E0) (xs:=zs) (fun j σ H'=>∃ v8 v9,σ=[some (.ref w),some (.ref c),some (.ref p),some (.int (a:Int)),some (.ref G),some (.ref F),v8,v9]/\Fr1 F H4 H'/\H' F=some (.lst (((range j).filter (ow M ws cs ps a)).map fun i=>V.ref (ts i)))) ⟨_,_,rfl,Fr1.refl,F4⟩ (fun j σ H' _ ⟨_,_,_,f,_⟩=>SqL.of (f _ _ Nd hE)) ?_ ?_⟩
  ·rintro h y σ H5 NN BB hy ⟨v8,v9,rfl,f5,uL⟩ kN kB
   clear kB hQ
   have oj:h < 2 ^ ws.length:=by rw[<- hS.1];exact (List.getElem?_eq_some_iff.mp hy).1
   obtain⟨eh,hh⟩:=hts h oj
   rw[eh] at hy
   cases hy
   rw[iO (ow M ws cs ps a) (fun i=>V.ref (ts i))] at kN
   have Mu:(((range h).filter (ow M ws cs ps a)).map fun i=>V.ref (ts i)).length<=64:=by
    rw[length_map]
    refine le_trans (length_filter_le _ _) ?_
    rw[length_range]
    omega
   generalize ((range h).filter (ow M ws cs ps a)).map (fun i=>V.ref (ts i))=A0 at uL Mu kN
   have tsf:=TS.frl F4 f5
   have t5:=tsf _ _ hh
   have g1:=tsf _ _ i1
   have g3:=tsf _ _ i3
   have G5:=f5 _ _ QC G4
   have w5:=f5 _ _ QM BV.w
   have c5:=f5 _ _ Rp BV.c
   have C5:=BV.hC.ts tsf
   have p5:=f5 _ _ Sy p4
   have R5:=R4.ts tsf
   have hpb:ow M ws cs ps a h=(lies C0.hp (Srt.sub h) && decide (spN M cs ps a h=aZ ws (Srt.sub h)*M)):=by unfold ow;rw[ein]
   have skp:ow M ws cs ps a h=false->∀ v9 H9,ak H5 H9->NN [some (.ref w),some (.ref c),some (.ref p),some (.int (a:Int)),some (.ref G),some (.ref F),some (.ref (ts h)),v9] H9:=fun hc v9 H9 s9=>by
    refine kN _ _ ⟨_,_,rfl,f5.trans (Fr1.of s9),?_⟩
    rw[hc,if_neg Bool.false_ne_true,append_nil]
    exact s9 _ _ uL
   refine ba ?_
   k_extra "rx"
   refine⟨kc,ts h,C0.hp,Srt.sub h,rfl,g3,t5,OE,fun H6 s6=>?_⟩
   refine⟨_,rfl,brk (fun h1=>?_) (fun h1=>?_)⟩
   ·rw[h1,Bool.true_and] at hpb
    have G6:=s6 _ _ G5
    have C6:=C5.ts (TS.of s6)
    have c6:=s6 _ _ c5
    have Q7:=s6 _ _ w5
    have t6:=s6 _ _ t5
    have p6:=s6 _ _ p5
    have R6:=R5.ts (TS.of s6)
    clear G5 C5 c5 w5 t5 p5 R5
    k_extra "rx"
    refine⟨_,rfl,G,rfl,⟨_,SqL.of G6⟩,fun l2 cG=>?_⟩
    refine aV (K:=K) (a:=G) (xs:=cl.map fun i:Nat=>V.int (i:Int)) (fun b acc H8=>ak H6 H8/\H8 l2=some (.lst acc)/\bL M 3700 H8 acc (((cl.take b).filter (inn cs (Srt.sub h))).map fun i=>ps.getD i (0,1))) ⟨ak.new cG,af,bL.nil⟩ (fun b acc H8 _ ⟨s8,_,_⟩=>SqL.of (s8 _ _ G6)) ?_ ?_
    ·rintro b y acc H8 hy ⟨s8,lq,hA⟩
     have al:=(List.getElem?_eq_some_iff.mp hy).1
     rw[length_map] at al
     rw[getElem?_map,getElem?_eq_getElem al] at hy
     cases hy
     have hi:=hcm _ (getElem_mem al)
     rw[fh (inn cs (Srt.sub h)) (fun i=>ps.getD i (0,1)) al]
     have len:acc.length<=16:=by
      rw[hA.1,length_map]
      refine le_trans (length_filter_le _ _) ?_
      rw[length_take]
      omega
     generalize ((cl.take b).filter (inn cs (Srt.sub h))).map (fun i=>ps.getD i (0,1))=A' at hA |-
     generalize cl[b]=i at hi |-
     obtain⟨v,ev,rd,pd,kd,rfl,d1,d2,d3⟩:=C6.2 i cs[i] (getElem?_eq_getElem hi)
     obtain⟨rb,er,hb⟩:=R6.2 i ps[i] (getElem?_eq_getElem (by omega))
     have ep:ps.getD i (0,1)=ps[i]:=by simp[getD_eq_getElem?_getD,show i < ps.length by omega]
     have b1:atI ys (i:Int)=some (.ref rb):=aQ er
     have b2:atI xs (i:Int)=some (.ref rd):=aQ ev
     have ei:inn cs (Srt.sub h) i=lies cs[i].hp (Srt.sub h):=by unfold inn;rw[fK hi]
     have J5:=h6 _ (getElem_mem hi)
     have po:=pz i hi
     rw[ei]
     rw[ep] at po |-
     have k1:=s8 _ _ d1
     have k3:=s8 _ _ d3
     have kt:=s8 _ _ t6
     have kp:=s8 _ _ p6
     have kb:=s8 _ _ hb
     have kc:=s8 _ _ c6
     generalize cs[i]=C1 at k1 k3 J5 |-
     generalize ps[i]=P1 at kb po |-
     clear d1 d2 d3 ev ei kN hb er ep skp
     simp only[aD]
     k_extra "rx"
     refine⟨kd,ts h,C1.hp,Srt.sub h,rfl,k3,kt,J5,fun H9 s9=>?_⟩
     have kl:=s9 _ _ lq
     have Ta:=s9 _ _ kp
     have ML:=s9 _ _ kb
     have Al:=s8.trans s9
     have A9:=hA.ts (TS.of s9)
     refine⟨_,rfl,sG (fun h1=>?_) (fun h1=>?_)⟩
     ·rw[if_pos h1]
      have nl:rb≠l2:=fun z=>by rw[z,kl] at ML;cases ML
      k_extra "rx"
      exact⟨kl,ay (by omega),bg cG Al,af,(A9.ts (TS.lst kl)).snoc (by rw[ax nl];exact ML) po⟩
     ·rw[if_neg (by rw[h1];exact Bool.false_ne_true),append_nil]
      exact⟨Al,kl,A9⟩
    ·rintro acc H8 ⟨s8,lq,hA⟩
     rw[length_map,take_length] at hA
     have len:((cl.filter (inn cs (Srt.sub h))).map fun i=>ps.getD i (0,1)).length<=16:=by
      rw[length_map]
      exact le_trans (length_filter_le _ _) hcl
     obtain⟨o1,o2⟩:=nD hM.pos fun r hr=>(hA.mem r hr).toOk
     rw[map_map] at o2
     have o3:num M (bN ((cl.filter (inn cs (Srt.sub h))).map fun i=>ps.getD i (0,1)))=spN M cs ps a h:=o2.trans (sF h)
     refine⟨l2,acc,_,M,3700,rfl,lq,hM,hA,by decide,len,fun t H9 s9 ht=>?_⟩
     generalize bN ((cl.filter (inn cs (Srt.sub h))).map fun i=>ps.getD i (0,1))=S at o1 o3 ht
     have Al:=s8.trans s9
     have w9:=Al _ _ Q7
     have t9:=Al _ _ t6
     have F9:=(s6.trans Al) _ _ uL
     clear hA lq o2 len
     refine ba ?_
     k_extra "rx"
     refine⟨w,ts h,ws,Srt.sub h,rfl,w9,t9,sub_len h,vX ws.length w6 h oj,fun H10 zX=>?_⟩
     k_extra "rx"
     refine bK (le_of_ble_eq_true rfl) fun t2 H11 _ p_ Ig=>?_
     have DG:=zX.trans p_
     refine⟨t,t2,_,_,_,_,rfl,rfl,DG _ _ ht,Ig,?_⟩
     have iff:(S.1=aZ ws (Srt.sub h)/\S.2=1)↔spN M cs ps a h=aZ ws (Srt.sub h)*M:=by
      constructor
      ·intro z
       rw[<- o3,show S=(aZ ws (Srt.sub h),1) from Prod.ext z.1 z.2,sQ]
      ·intro z
       rw[tP hM.pos o1 (BK (w:=aZ ws (Srt.sub h))) (by rw[o3,z,sQ])]
       exact⟨rfl,rfl⟩
     refine⟨_,rfl,gO (fun h2=>?_) (fun h2=>?_)⟩
     ·rw[decide_eq_true (iff.mp h2)] at hpb
      have F11:=DG _ _ F9
      refine n_ ?_
      k_extra "rx"
      refine⟨.inl ⟨rfl,_,SqL.of F11⟩,?_⟩
      k_extra "rx"
      refine rV F11 (by omega) fun H12 GC rh=>?_
      refine kN _ _ ⟨_,_,rfl,(f5.trans (Fr1.of ((s6.trans Al).trans DG))).trans rh,?_⟩
      rw[hpb,if_pos rfl]
      exact GC
     ·refine bZ ?_
      exact skp (by rw[hpb,decide_eq_false fun z=>h2 (iff.mpr z)]) _ H11 ((s6.trans Al).trans DG)
   ·refine bZ ?_
    exact skp (by rw[hpb,h1];rfl) _ H6 s6
  ·rintro σ H5 ⟨v8,v9,rfl,f5,uL⟩
   rw[hS.1,<- EL] at uL
   k_extra "rx"
   exact hQ F _ H5 (mK F0 M5 f5) uL ⟨ts,rfl,fun i hi=>TS.frl F4 f5 _ _ (hts i (mem_range.mp (by rw[EL] at hi;exact (mem_filter.mp hi).1))).2⟩
theorem td(D:aS K mg "_law_fill" jV f fd)(T:Txt K mg cx)(jX:aq P w K mg base CX0 3 "_law_over" ["_law_one","_law_other"] jc):aq P w K mg base CX0 4 "_law_fill" ["_law_due_here","_law_paid"] iY:=by
 refine D.ok (D.q tZ (fun vs H Q E h=>?_) (fun bW A outer s H vs Q E hr h=>?_)) (D.fn.binds fun _ _ _ _ _ _ us hl=>match us,hl with | [_,_],_=>rfl)
 ·obtain⟨_,_,_,_,rfl,_⟩:=h
  rfl
 obtain⟨p,q,d,e,rfl,hp,hq,d0,e0,RY,Qz,Sf,Ru,hQ⟩:=h
 refine⟨_,(ag (bX (aK lg (aj (qv 0) ae) ae (aX _)) (ah (aB (bh (aH ae ae)))) be)
   (ah (aB (aJ jX (aH (qv 1) (qv 0)))))),?_⟩
 k_extra "rx"
 refine⟨rfl,?_⟩
 refine⟨_,rfl,gO (fun h1=>?_) (fun h1=>?_)⟩
 ·have h1:=V.int.inj h1
  k_extra "rx"
  refine bK (le_of_ble_eq_true rfl) fun t H2 _ s2 ht=>?_
  refine hQ t H2 s2 ?_
  unfold j5
  rw[if_pos h1]
  exact ht
 ·have h1:d.1≠0:=fun z=>h1 (by rw[z])
  k_extra "rx"
  refine⟨q,p,_,_,_,_,rfl,hq,hp,e0,by omega,Sf,Ru,RY,Qz,fun t ht=>?_⟩
  refine hQ t _ (ak.new ht) ?_
  unfold j5
  rw[if_neg h1,af]
  rfl
theorem tL(D:aS K mg "_law_load" jW f fd)(T:Txt K mg cx)(bo:aq P w K mg base CX0 4 "_law_sum" ["_law_row"] c3)(c_:aq P w K mg base CX0 1 "_law_lies" ["_law_touched","_law_heap_here"] fT):aq P w K mg base CX0 5 "_law_load" ["_law_claims_here","_law_parts","_law_heap_here"] jx:=by
 refine D.ok (D.q t_ (fun vs H Q E h=>?_) (fun bW A outer s H vs Q E hr h=>?_)) (D.fn.binds fun _ _ _ _ _ _ us hl=>match us,hl with | [_,_,_],_=>rfl)
 ·obtain⟨_,_,_,_,_,_,_,_,_,_,rfl,_⟩:=h
  rfl
 obtain⟨c,p,h,U,k,xs,cs,ys,ps,hs,rfl,xc,hC,h6,c16,xp,hU,hk,SE,plen,hh,hQ⟩:=h
 refine⟨_,(ah (aB (aJ bo (aF (ck ["_law_at"] [("_law_parts", 1),("_law_claims_here", 0),("_law_heap_here", 2)] (bG (by rfl) T.n_range (aF (aA aW (by rfl) T.n_len bQ (aF (qv 0))))) (aE (by decide)) (fun _ _ _ _ _=>⟨(au (i:=0) (show (["_law_at","_law_parts","_law_claims_here","_law_heap_here"]:List Str).Nodup by decide +kernel) rfl (inl rfl)),(iA (cE (aJ c_ (aH (aj (aj (qv 2) (qv 0)) ae) (qv 3))))),(aj (qv 1) (qv 0))⟩)))))),?_⟩
 have hxl:xs.length=cs.length:=hC.1
 refine⟨_,rfl,c,_,rfl,aP xc,_,rfl,by omega,by omega,fun l hl=>?_⟩
 refine de (k:=((xs.length:Nat):Int).toNat) (fun a acc H2=>ak H H2/\H2 l=some (.lst acc)/\bL U k H2 acc (((range a).filter (inn cs hs)).map fun i=>ps.getD i (0,1))) ⟨ak.new hl,af,bL.nil⟩ ?_ ?_
 ·rintro i acc H2 Ld ⟨s2,cG,hR⟩
  have hi:i < cs.length:=by omega
  have jK:i < ps.length:=by omega
  rw[iO (inn cs hs) (fun i=>ps.getD i (0,1))]
  have len:acc.length<=16:=by
   rw[hR.1,length_map]
   refine le_trans (length_filter_le _ _) ?_
   rw[length_range]
   omega
  generalize (((range i).filter (inn cs hs)).map fun i=>ps.getD i (0,1))=A' at hR |-
  obtain⟨v,ev,rc,pc,kc,rfl,e1,e2,e3⟩:=hC.2 i cs[i] (getElem?_eq_getElem hi)
  obtain⟨r,er,hr,po⟩:=SE.2 i ps[i] (getElem?_eq_getElem jK)
  have a1:atI xs (0+(i:Int))=some (.ref rc):=by rw[zero_add];exact aQ ev
  have a2:atI ys (0+(i:Int))=some (.ref r):=by rw[zero_add];exact aQ er
  have ein:inn cs hs i=lies cs[i].hp hs:=by unfold inn;rw[fK hi]
  have Pg:=h6 _ (getElem_mem hi)
  have ep:ps.getD i (0,1)=ps[i]:=by simp[getD_eq_getElem?_getD,jK]
  rw[ein,ep]
  have g1:=s2 _ _ e1
  have g3:=s2 _ _ e3
  have gr:=s2 _ _ hr
  have gh:=s2 _ _ hh
  have gc:=s2 _ _ xc
  have gp:=s2 _ _ xp
  generalize cs[i]=C at Pg g1 g3 |-
  generalize ps[i]=P at gr po |-
  clear e1 e2 e3 ev ein hQ hr er ep
  simp only[aD]
  k_extra "rx"
  refine⟨kc,h,C.hp,hs,rfl,g3,gh,Pg,fun H3 s3=>?_⟩
  have kr:=s3 _ _ gr
  have kp:=s3 _ _ gp
  have kl:=s3 _ _ cG
  have kR:=hR.ts (TS.of s3)
  have Fd:=s2.trans s3
  clear g1 g3 gh gc gr gp cG hR s2 s3
  refine⟨_,rfl,sG (fun h1=>?_) (fun h1=>?_)⟩
  ·rw[if_pos h1]
   have nl:r≠l:=fun z=>by rw[z,kl] at kr;cases kr
   k_extra "rx"
   exact⟨kl,ay (by omega),bg hl Fd,af,(kR.ts (TS.lst kl)).snoc (by rw[ax nl];exact kr) po⟩
  ·rw[if_neg (by rw[h1];exact Bool.false_ne_true),append_nil]
   exact⟨Fd,kl,kR⟩
 ·rintro acc H2 ⟨s2,cG,hR⟩
  rw[toNat_natCast,hxl] at hR
  have len:(((range cs.length).filter (inn cs hs)).map fun i=>ps.getD i (0,1)).length<=16:=by
   rw[length_map]
   have h1:=length_filter_le (inn cs hs) (range cs.length)
   rw[length_range] at h1
   omega
  obtain⟨o1,o2⟩:=nD hU.pos fun r hr=>(hR.mem r hr).toOk
  have z:=(m5 hU.pos hR.mem).mono (j:=k+16) (by omega)
  rw[map_map] at o2
  refine⟨l,acc,_,U,k,rfl,cG,hU,hR,hk,len,fun r H3 s3 hr=>?_⟩
  exact hQ r _ H3 (s2.trans s3) hr z o2
theorem nA(D:aS K mg "_law_good_row" fO f fd)(T:Txt K mg cx)(bo:aq P w K mg base CX0 4 "_law_sum" ["_law_row"] c3):aq P w K mg base CX0 5 "_law_good_row" ["_law_claim","_law_part","_law_row"] fm:=by
 refine D.ok (D.q mY (fun vs H Q E h=>?_) (fun bW A outer s H vs Q E hr h=>?_)) (D.fn.binds fun _ _ _ _ _ _ us hl=>match us,hl with | [_,_,_],_=>rfl)
 ·obtain⟨_,_,_,_,_,_,_,_,_,_,_,_,rfl,_⟩:=h
  rfl
 obtain⟨c,t,p,r,pd,rk,ts,part,xs,row,k,U,rfl,hc,ht,hp,hrl,hR,hU,hk,GZ,hQ⟩:=h
 refine⟨_,(ag (bX (ll (aK (wY hr.units) (aJ bo (aF (qv 2))) (qv 1) (aX _)) (jv (kf (cE (aA (fe rfl) (by rfl) T.n_all lD (aF (ck ["_law_one"] [] (aM (K:=K) rfl (qv 2)) (aE (by decide)) (fun _ _ _ _ _=>⟨(au (i:=0) (show (["_law_one"]:List Str).Nodup by decide +kernel) rfl (inl rfl)),bF,(fD L5 (aj (qv 0) ae) ae (aX _))⟩)))))))).pt (ah (aB jz)) be)
   (ah (aB (aA (fe rfl) (by rfl) T.n_all lD (aF (ck ["_law_place"] [("_law_row", 2),("_law_claim", 0)] (bG (by rfl) T.n_range (aF (aA aW (by rfl) T.n_len bQ (aF (qv 2))))) (aE (by decide)) (fun _ _ _ _ _=>⟨(au (i:=0) (show (["_law_place","_law_row","_law_claim"]:List Str).Nodup by decide +kernel) rfl (inl rfl)),bF,(Kx (fD (ur hr.units) (aj (qv 1) (qv 0)) (bh (aH ae ae)) (aX _)) (tM (fD (pj (K:=K) rfl) (qv 0) (aj (qv 2) ae) (by rfl))))⟩))))))),?_⟩
 have hxl:=hR.1
 k_extra "rx"
 refine⟨r,xs,row,U,k,rfl,hrl,hU,hR,hk,by omega,fun q H1 s1 hq=>?_⟩
 have hp1:=s1 _ _ hp
 have J3:=s1 _ _ ht
 have J1:=s1 _ _ hc
 have Js:=s1 _ _ hrl
 have C3:=hR.ts (TS.of s1)
 k_extra "rx"
 refine⟨q,p,_,_,_,_,rfl,rfl,hq,hp1,?_⟩
 refine⟨_,rfl,E_ (fun h2=>?_) (fun h2=>?_)⟩
 ·refine xg ?_
  k_extra "rx"
  exact hQ false H1 s1 ⟨(fun z=>nomatch z),fun z=>absurd (by rw[z.2.1];exact⟨rfl,rfl⟩) h2⟩
 ·have hs:bN row=part:=Prod.ext h2.1 h2.2
  k_extra "rx"
  refine⟨_,rfl,r,rfl,⟨_,SqL.of Js⟩,fun l hl=>?_⟩
  refine aV (K:=K) (a:=r) (xs:=xs) (fun i acc H2=>ak H1 H2/\H2 l=some (.lst acc)/\acc=((range i).map fun k=>decide (0<=(row.getD k (0,1)).1)).map V.bl) ⟨ak.new hl,af,rfl⟩ (fun i acc H2 _ ⟨s2,_,_⟩=>SqL.of (s2 _ _ Js)) ?_ ?_
  ·rintro i y acc H2 hy ⟨s2,cG,rfl⟩
   have hi:i < row.length:=by rw[<- hxl];exact (List.getElem?_eq_some_iff.mp hy).1
   obtain⟨rp,er,hrp,po⟩:=C3.2 i row[i] (getElem?_eq_getElem hi)
   rw[er] at hy
   cases hy
   have e:row.getD i (0,1)=row[i]:=by simp[getD_eq_getElem?_getD,hi]
   have len:(((range i).map fun k=>decide (0<=(row.getD k (0,1)).1)).map V.bl).length<=16:=by rw[length_map,length_map,length_range];omega
   rw[range_succ,map_append,map_append]
   have e2:(([i].map fun k=>decide (0<=(row.getD k (0,1)).1)).map V.bl)=[V.bl (decide (0<=row[i].1))]:=by rw[map_cons,map_cons,e];rfl
   rw[e2]
   generalize ((range i).map fun k=>decide (0<=(row.getD k (0,1)).1)).map V.bl=A' at cG len |-
   have g:=s2 _ _ hrp
   generalize row[i]=P0 at g |-
   simp only[aD,eC,if_true]
   k_extra "rx"
   exact⟨cG,ay (by omega),bg hl s2,af,rfl⟩
  ·rintro acc H2 ⟨s2,cG,rfl⟩
   rw[hxl] at cG
   refine⟨l,_,rfl,cG,?_⟩
   have iff:(((range row.length).map fun k=>decide (0<=(row.getD k (0,1)).1)).all id)=true↔∀ k,k < row.length->0<=(row.getD k (0,1)).1:=by
    rw[all_eq_true]
    constructor
    ·intro h k hk
     exact of_decide_eq_true (h _ (mem_map.mpr ⟨k,mem_range.mpr hk,rfl⟩))
    ·intro h b hb
     obtain⟨k,hk,rfl⟩:=mem_map.mp hb
     exact decide_eq_true (h k (mem_range.mp hk))
   generalize ((range row.length).map fun k=>decide (0<=(row.getD k (0,1)).1)).all id=b0 at iff |-
   refine⟨_,rfl,vg (fun h3=>?_) (fun h3=>?_)⟩
   ·k_extra "rx"
    refine hQ false H2 (s1.trans s2) ⟨(fun z=>nomatch z),fun z=>?_⟩
    rw[iff.mpr fun k hk=>(z.2.2 k hk).1] at h3
    cases h3
   ·have nn:=iff.mp h3
    have C4:=s2 _ _ Js
    have uO:=s2 _ _ J1
    have Ig:=s2 _ _ J3
    have IK:=C3.ts (TS.of s2)
    refine bZ ?_
    refine⟨_,rfl,r,_,rfl,aP C4,_,rfl,by omega,by omega,fun l2 cG=>?_⟩
    refine de (k:=((xs.length:Nat):Int).toNat) (fun i acc H3=>ak H2 H3/\H3 l2=some (.lst acc)/\acc=((range i).map fun k=>decide (row.getD k (0,1)=(0,1)\/(k:Int)∈ts)).map V.bl) ⟨ak.new cG,af,rfl⟩ ?_ ?_
    ·rintro i acc H3 Ld ⟨s3,lb,rfl⟩
     have hi:i < row.length:=by omega
     obtain⟨rp,er,hrp,po⟩:=IK.2 i row[i] (getElem?_eq_getElem hi)
     have a1:atI xs (i:Int)=some (.ref rp):=aQ er
     have e:row.getD i (0,1)=row[i]:=by simp[getD_eq_getElem?_getD,hi]
     have len:(((range i).map fun k=>decide (row.getD k (0,1)=(0,1)\/(k:Int)∈ts)).map V.bl).length<=16:=by rw[length_map,length_map,length_range];omega
     rw[range_succ,map_append,map_append]
     have e2:(([i].map fun k=>decide (row.getD k (0,1)=(0,1)\/(k:Int)∈ts)).map V.bl)=[V.bl (decide (row[i]=(0,1)\/(i:Int)∈ts))]:=by rw[map_cons,map_cons,e];rfl
     rw[e2,zero_add]
     generalize ((range i).map fun k=>decide (row.getD k (0,1)=(0,1)\/(k:Int)∈ts)).map V.bl=A' at lb len |-
     have g:=s3 _ _ hrp
     have gr:=s3 _ _ C4
     have gc:=s3 _ _ uO
     have gt:=s3 _ _ Ig
     generalize row[i]=P0 at g |-
     simp only[aD,eC,if_true]
     k_extra "rx"
     rw[yc]
     k_extra "rx"
     refine bK (le_of_ble_eq_true rfl) fun t0 H4 _ s4 Ai=>?_
     have l4:=s4 _ _ lb
     have OU:=s3.trans s4
     refine⟨rp,t0,_,_,_,_,rfl,rfl,s4 _ _ g,Ai,?_⟩
     refine⟨_,rfl,gO (fun h4=>?_) (fun h4=>?_)⟩
     ·refine⟨l4,ay (by omega),bg cG OU,af,?_⟩
      rw[decide_eq_true (inl (show P0=(0,1) from Prod.ext h4.1 h4.2))]
     ·have SS:=s4 _ _ gc
      have Rh:=s4 _ _ gt
      k_extra "rx"
      refine⟨t,ts.map V.int,rfl,.inr (SqT.of Rh),rfl,by simp[h7],?_⟩
      rw[if_neg Bool.false_ne_true,fS]
      refine⟨l4,ay (by omega),bg cG OU,af,?_⟩
      have hne:P0≠(0,1):=fun z=>h4 (by rw[z];exact⟨rfl,rfl⟩)
      congr 3
      rw[decide_eq_decide]
      exact⟨.inr,fun z=>z.resolve_left hne⟩
    ·rintro acc H3 ⟨s3,lb,rfl⟩
     rw[toNat_natCast,hxl] at lb
     refine⟨l2,_,rfl,lb,?_⟩
     refine hQ _ H3 ((s1.trans s2).trans s3) ?_
     rw[all_eq_true]
     constructor
     ·intro h
      exact⟨rfl,hs,fun k hk=>⟨nn k hk,of_decide_eq_true (h _ (mem_map.mpr ⟨k,mem_range.mpr hk,rfl⟩))⟩⟩
     ·intro h b hb
      obtain⟨k,hk,rfl⟩:=mem_map.mp hb
      exact decide_eq_true (h.2.2 k (mem_range.mp hk)).2
theorem lK(D:aS K mg "_law_good_table" eE f fd)(T:Txt K mg cx)(bA:aq P w K mg base CX0 1 "_law_below" ["_law_one","_law_other"] cN)(bo:aq P w K mg base CX0 4 "_law_sum" ["_law_row"] c3)(dw:aq P w K mg base CX0 3 "_law_pairs" ["_law_found","_law_many_here"] fG)(fQ:aq P w K mg base CX0 5 "_law_good_row" ["_law_claim","_law_part","_law_row"] fm):aq P w K mg base CX0 6 "_law_good_table" ["_law_worths_here","_law_claims_here","_law_parts","_law_rows"] dP:=by
 refine D.ok (D.q gJ (fun vs H Q E h=>?_) (fun bW A outer s H vs Q E hr h=>?_)) (D.fn.binds fun _ _ _ _ _ _ us hl=>match us,hl with | [_,_,_,_],_=>rfl)
 ·obtain⟨_,_,_,_,_,_,_,_,_,_,_,_,_,rfl,_⟩:=h
  rfl
 obtain⟨w,c,p,z,ws,xs,cs,ys,ps,zs,aU,k,U,rfl,sh,hp,hP,pl,hz,hZ,hU,hk,c16,w6,wz,hQ⟩:=h
 refine⟨_,(ag (bX (ll (kf (cE (aA jO (by rfl) T.n_isinstance dJ (aH (qv 3) (ma (v:=.ty "list") (by rfl) T.n_list dM rfl))))) (jv (aK yh (aA aW (by rfl) T.n_len bQ (aF (qv 3))) (aA aW (by rfl) T.n_len bQ (aF (qv 1))) (aX _)))).pt (ah (aB jz)) be)
   (ag (bX (kf (cE (aA (fe rfl) (by rfl) T.n_all lD (aF (ck ["_law_row"] [("_law_worths_here", 0)] (aM (K:=K) rfl (qv 3)) (aE (by decide)) (fun _ _ _ _ _=>⟨(au (i:=0) (show (["_law_row","_law_worths_here"]:List Str).Nodup by decide +kernel) rfl (inl rfl)),bF,(aJ dw (aH (qv 0) (aA aW (by rfl) T.n_len bQ (aF (qv 1)))))⟩)))))) (ah (aB jz)) be)
   (ag (bX (kf (cE (aA (fe rfl) (by rfl) T.n_all lD (aF (ck ["_law_at"] [("_law_claims_here", 1),("_law_parts", 2),("_law_rows", 3)] (bG (by rfl) T.n_range (aF (aA aW (by rfl) T.n_len bQ (aF (qv 1))))) (aE (by decide)) (fun _ _ _ _ _=>⟨(au (i:=0) (show (["_law_at","_law_claims_here","_law_parts","_law_rows"]:List Str).Nodup by decide +kernel) rfl (inl rfl)),bF,(aJ fQ (oX (aj (qv 1) (qv 0)) (aj (qv 2) (qv 0)) (aj (qv 3) (qv 0))))⟩)))))) (ah (aB jz)) be)
   (ag (bR PassesOwn.never rfl (bG (by rfl) T.n_range (aF (aA aW (by rfl) T.n_len bQ (aF (qv 0))))) (au (i:=4) gJ.nd rfl (inr rfl)) (ah (bX (cE (aJ bA (aH (bh (aH (aj (qv 0) (qv 4)) ae)) (aJ bo (aF (ck ["_law_row"] [("_law_place", 4)] (aM (K:=K) rfl (qv 3)) (aE (by decide)) (fun _ _ _ _ _=>⟨(au (i:=0) (show (["_law_row","_law_place"]:List Str).Nodup by decide +kernel) rfl (inl rfl)),bF,(aj (qv 0) (qv 1))⟩))))))) (ah (aB jz)) be)))
   (ah (aB jz)))))),?_⟩
 have hxl:=sh.hC.1
 have hyl:=hP.1
 have hzl:=hZ.1
 have wl:(ws.map V.int).length=ws.length:=length_map _
 have shc:=sh.c
 have shw:=sh.w
 have RI:qw (.ref z) H=some "list" := by simp only[qw,hz]
 k_extra "rx"
 refine⟨_,_,_,rfl,by decide,RI,?_⟩
 refine⟨_,rfl,vg (fun zz=>absurd zz (by decide)) (fun _=>?_)⟩
 k_extra "rx"
 refine⟨rfl,?_⟩
 refine⟨_,rfl,E_ (fun h1=>?_) (fun h1=>?_)⟩
 ·k_extra "rx"
  exact hQ false H (fun _ _ h=>h) ⟨(fun z=>nomatch z),fun z=>absurd (by rw[hzl,z.1,hxl]) h1⟩
 ·have h1:(zs.length:Int)=(xs.length:Int):=V.int.inj h1
  have rl:aU.length=cs.length:=by omega
  refine bZ ?_
  k_extra "rx"
  refine⟨_,rfl,z,rfl,⟨_,SqL.of hz⟩,fun l hl=>?_⟩
  refine aV (K:=K) (a:=z) (xs:=zs) (fun i acc H2=>ak H H2/\H2 l=some (.lst acc)/\acc=((range i).map fun j=>decide ((aU.getD j []).length=ws.length)).map V.bl) ⟨ak.new hl,af,rfl⟩ (fun i acc H2 _ ⟨s2,_,_⟩=>SqL.of (s2 _ _ hz)) ?_ ?_
  ·rintro i y acc H2 hy ⟨s2,cG,rfl⟩
   have hi:i < aU.length:=by rw[<- hzl];exact (List.getElem?_eq_some_iff.mp hy).1
   obtain⟨l',as,el,iT,JR,GZ⟩:=hZ.2 i aU[i] (getElem?_eq_getElem hi)
   rw[el] at hy
   cases hy
   have e:aU.getD i []=aU[i]:=by simp[getD_eq_getElem?_getD,hi]
   have len:(((range i).map fun j=>decide ((aU.getD j []).length=ws.length)).map V.bl).length<=16:=by rw[length_map,length_map,length_range];omega
   rw[range_succ,map_append,map_append]
   have e2:(([i].map fun j=>decide ((aU.getD j []).length=ws.length)).map V.bl)=[V.bl (decide (aU[i].length=ws.length))]:=by rw[map_cons,map_cons,e];rfl
   rw[e2]
   generalize ((range i).map fun j=>decide ((aU.getD j []).length=ws.length)).map V.bl=A' at cG len |-
   have g:=s2 _ _ iT
   have gA:=JR.ts (TS.of s2)
   have gw:=s2 _ _ shw
   generalize aU[i]=R0 at gA GZ |-
   simp only[aD,eC,if_true]
   k_extra "rx"
   refine⟨l',as,R0,ws.length,by rw[wl],g,gA.toV,by omega,fun j hj=>?_,fun H3 s3=>⟨s3 _ _ cG,ay (by omega),bg hl (s2.trans s3),af,rfl⟩⟩
   have po:=gA.mem (R0.getD j (0,1)) (by
    have:R0.getD j (0,1)=R0[j]:=by simp[getD_eq_getElem?_getD,hj]
    rw[this]
    exact getElem_mem _)
   exact⟨po.pos,po.cop,(po.toOk.usz hU).mono (by decide)⟩
  ·rintro acc H2 ⟨s2,cG,rfl⟩
   rw[hzl] at cG
   refine⟨l,_,rfl,cG,?_⟩
   have iff:(((range aU.length).map fun j=>decide ((aU.getD j []).length=ws.length)).all id)=true↔∀ j,j < aU.length->(aU.getD j []).length=ws.length:=by
    rw[all_eq_true]
    constructor
    ·intro h k hk
     exact of_decide_eq_true (h _ (mem_map.mpr ⟨k,mem_range.mpr hk,rfl⟩))
    ·intro h b hb
     obtain⟨k,hk,rfl⟩:=mem_map.mp hb
     exact decide_eq_true (h k (mem_range.mp hk))
   generalize ((range aU.length).map fun j=>decide ((aU.getD j []).length=ws.length)).all id=b0 at iff |-
   refine⟨_,rfl,vg (fun h3=>?_) (fun h3=>?_)⟩
   ·k_extra "rx"
    refine hQ false H2 s2 ⟨(fun z=>nomatch z),fun zz=>?_⟩
    rw[iff.mpr fun j hj=>(zz.2.1 j (by omega)).1] at h3
    cases h3
   ·have Mg:=iff.mp h3
    have vH:=sh.same s2
    have hp2:=s2 _ _ hp
    have Qu:=hP.ts (TS.of s2)
    have Gb:=s2 _ _ hz
    have Pp:=hZ.same s2
    clear iff h3 cG hl
    refine bZ ?_
    k_extra "rx"
    refine⟨_,rfl,c,_,rfl,aP vH.c,_,rfl,by omega,by omega,fun l hl=>?_⟩
    refine de (k:=((xs.length:Nat):Int).toNat) (fun i acc H3=>∃ bs:List Bool,acc=bs.map V.bl/\bs.length=i/\(∀ j,j < i->(bs.getD j false=true↔yy ws.length (aT cs j) (ps.getD j (0,1)) (aU.getD j [])))/\ak H2 H3/\H3 l=some (.lst acc)) ⟨[],rfl,rfl,(fun j hj=>by omega),ak.new hl,af⟩ ?_ ?_
    ·rintro i acc H3 Ld ⟨bs,rfl,bl,hb,s3,lb⟩
     have hi:i < cs.length:=by omega
     obtain⟨v',ev,rc,pc,kc,rfl,e1,e2,e3⟩:=vH.hC.2 i cs[i] (getElem?_eq_getElem hi)
     obtain⟨rp,er,hrp⟩:=Qu.2 i ps[i] (getElem?_eq_getElem (by omega))
     obtain⟨l',as,el,iT,JR,GZ⟩:=Pp.2 i aU[i] (getElem?_eq_getElem (by omega))
     have a1:atI xs (i:Int)=some (.ref rc):=aQ ev
     have a2:atI ys (i:Int)=some (.ref rp):=aQ er
     have a3:atI zs (i:Int)=some (.ref l'):=aQ el
     have ep:ps.getD i (0,1)=ps[i]:=by simp[getD_eq_getElem?_getD,show i < ps.length by omega]
     have erw:aU.getD i []=aU[i]:=by simp[getD_eq_getElem?_getD,show i < aU.length by omega]
     have eh:aT cs i=cs[i].hp:=fK hi
     have rli:aU[i].length=ws.length:=by rw[<- erw];exact Mg i (by omega)
     have fc:=s3 _ _ vH.c
     have fp:=s3 _ _ hp2
     have fz:=s3 _ _ Gb
     have f1:=s3 _ _ e1
     have f3:=s3 _ _ e3
     have frp:=s3 _ _ hrp
     have fl:=s3 _ _ iT
     have fA:=JR.ts (TS.of s3)
     rw[zero_add]
     simp only[aD,eC,if_true]
     k_extra "rx"
     refine⟨rc,kc,rp,l',pc,cs[i].rk,cs[i].hp,ps[i],as,aU[i],k,U,rfl,f1,f3,frp,fl,fA,hU,hk,GZ,fun b H4 s4 RP=>⟨s4 _ _ lb,ay (by rw[length_map];omega),bs++[b],by rw[map_append];rfl,by rw[length_append,bl];rfl,fun j hj=>?_,bg hl (s3.trans s4),af⟩⟩
     by_cases e:j < i
     ·have:(bs++[b]).getD j false=bs.getD j false:=by rw[getD_eq_getElem?_getD,getElem?_append_left (by omega),getD_eq_getElem?_getD]
      rw[this]
      exact hb j e
     ·have ej:j=i:=by omega
      subst ej
      have:(bs++[b]).getD j false=b:=by rw[getD_eq_getElem?_getD,getElem?_append_right (by omega)];simp[bl]
      rw[this,ep,erw,eh,<- rli]
      exact RP
    ·rintro acc H3 ⟨bs,rfl,bl,hb,s3,lb⟩
     rw[toNat_natCast,hxl] at bl hb
     refine⟨l,bs,rfl,lb,?_⟩
     have iff:bs.all id=true↔∀ j,j < cs.length->yy ws.length (aT cs j) (ps.getD j (0,1)) (aU.getD j []):=by
      rw[all_eq_true]
      constructor
      ·intro h j hj
       refine (hb j hj).mp ?_
       have e:bs.getD j false=bs[j]:=by simp[getD_eq_getElem?_getD,show j < bs.length by omega]
       rw[e]
       exact h _ (getElem_mem _)
      ·intro h b hbm
       obtain⟨j,hj,rfl⟩:=getElem_of_mem hbm
       have e:bs.getD j false=bs[j]:=by simp[getD_eq_getElem?_getD,hj]
       show bs[j]=true
       rw[<- e]
       exact (hb j (by omega)).mpr (h j (by omega))
     generalize bs.all id=b0 at iff |-
     have Ez:=s2.trans s3
     refine⟨_,rfl,vg (fun h3=>?_) (fun h3=>?_)⟩
     ·k_extra "rx"
      refine hQ false H3 Ez ⟨(fun z=>nomatch z),fun zz=>?_⟩
      rw[iff.mpr zz.2.1] at h3
      cases h3
     ·have inv:=iff.mp h3
      have Kg:=s3 _ _ vH.w
      have QZ:=s3 _ _ Gb
      have Rn:=Pp.same s3
      clear iff h3 lb hl hb
      refine bZ ?_
      refine⟨_,rfl,w,_,rfl,aP Kg,_,rfl,by omega,by omega,fo (lo:=0) (n:=(((ws.map V.int).length:Nat):Int).toNat) (fun j σ H'=>∃ v4,σ=[some (.ref w),some (.ref c),some (.ref p),some (.ref z),v4]/\ak H3 H'/\∀ f,f < j->¬ ws.getD f 0*(bN (mP aU f)).2 < (bN (mP aU f)).1*1) ⟨_,rfl,fun _ _ h=>h,fun f hf=>by omega⟩ ?_ ?_⟩
      ·rintro f σ H4 NN BB SX ⟨v4,rfl,s4,inv2⟩ kN kB
       clear kB
       have hf:f < ws.length:=by omega
       have aw:atI (ws.map V.int) (f:Int)=some (.int ws[f]):=aQ (by rw[getElem?_map,getElem?_eq_getElem hf];rfl)
       have SN:=s4 _ _ Kg
       have QD:=s4 _ _ QZ
       have RX:=Rn.same s4
       have ew:ws.getD f 0=ws[f]:=by simp[getD_eq_getElem?_getD,hf]
       have wzf:=wz _ (getElem_mem hf)
       refine ba ?_
       rw[zero_add]
       k_extra "rx"
       refine bK (le_of_ble_eq_true rfl) fun t H5 _ s5 ht=>?_
       have O4:=s5 _ _ QD
       have GA:=RX.same s5
       k_extra "rx"
       refine⟨_,rfl,z,rfl,⟨_,SqL.of O4⟩,fun l hl=>?_⟩
       refine aV (K:=K) (a:=z) (xs:=zs) (fun i acc H6=>ak H5 H6/\H6 l=some (.lst acc)/\bL U k H6 acc (mP (aU.take i) f)) ⟨ak.new hl,af,bL.nil⟩ (fun i acc H6 _ ⟨s6,_,_⟩=>SqL.of (s6 _ _ O4)) ?_ ?_
       ·rintro i y acc H6 hy ⟨s6,rH,hA⟩
        have hi:i < aU.length:=by rw[<- hzl];exact (List.getElem?_eq_some_iff.mp hy).1
        obtain⟨l',as,el,iT,JR,GZ⟩:=GA.2 i aU[i] (getElem?_eq_getElem hi)
        rw[el] at hy
        cases hy
        have erw:aU.getD i []=aU[i]:=by simp[getD_eq_getElem?_getD,hi]
        have rli:aU[i].length=ws.length:=by rw[<- erw];exact Mg i hi
        have OL:f < aU[i].length:=by omega
        obtain⟨rp,er,hrp,po⟩:=JR.2 f aU[i][f] (getElem?_eq_getElem OL)
        have a1:atI as (f:Int)=some (.ref rp):=aQ er
        have ec:mP (aU.take (i+1)) f=mP (aU.take i) f++[aU[i][f]]:=by
         unfold mP
         rw[bx _ hi]
         simp[getD_eq_getElem?_getD,OL]
        rw[ec]
        have len:acc.length<=16:=by
         rw[hA.1]
         unfold mP
         rw[length_map,length_take]
         omega
        have k1:=s6 _ _ iT
        have k2:=s6 _ _ hrp
        generalize aU[i][f]=P0 at k2 po |-
        generalize mP (aU.take i) f=A' at hA |-
        clear hrp er iT JR el ec
        simp only[aD,eC,if_true]
        k_extra "rx"
        have np:rp≠l:=fun zz=>by rw[zz,rH] at k2;cases k2
        exact⟨rH,ay (by omega),bg hl s6,af,(hA.ts (TS.lst rH)).snoc (by rw[ax np];exact k2) po⟩
       ·rintro acc H6 ⟨s6,rH,hA⟩
        rw[hzl,take_length] at hA
        have cl:(mP aU f).length<=16:=by unfold mP;rw[length_map];omega
        refine⟨l,acc,_,U,k,rfl,rH,hU,hA,hk,cl,fun q2 H7 s7 Qm=>?_⟩
        have sp:=m5 hU.pos hA.mem
        have Kl:=s6.trans s7
        k_extra "rx"
        refine⟨t,q2,_,_,_,_,rfl,Kl _ _ ht,Qm,wzf.mono (by decide),by decide,(sp.nsz hU.pos).mono (by omega),(sp.toOk.usz hU).mono (by decide),?_⟩
        have JC:=(s4.trans s5).trans Kl
        refine⟨_,rfl,gO (fun h2=>?_) (fun h2=>?_)⟩
        ·k_extra "rx"
         refine hQ false H7 (Ez.trans JC) ⟨(fun z=>nomatch z),fun zz=>?_⟩
         have:=zz.2.2 f hf
         rw[ew] at this
         exact absurd h2 this
        ·refine bZ ?_
         refine kN _ _ ⟨_,rfl,JC,fun g hg=>?_⟩
         by_cases e:g < f
         ·exact inv2 g e
         ·rw[show g=f by omega,ew]
          exact h2
      ·rintro σ H4 ⟨v4,rfl,s4,inv2⟩
       rw[toNat_natCast,wl] at inv2
       k_extra "rx"
       exact hQ true H4 (Ez.trans s4) ⟨fun _=>⟨rl,inv,inv2⟩,fun _=>rfl⟩
theorem qY(D:aS K mg "moves_from" i6 f fd)(T:Txt K mg cx):aq P w K mg base CX0 1 "moves_from" ["claims","rows","fund"] iC:=by
 refine D.ok (D.q dI (fun vs H Q E h=>?_) (fun bW A outer s H vs Q E hr h=>?_)) (D.fn.binds fun _ _ _ _ _ _ us hl=>match us,hl with | [_,_,_],_=>rfl)
 ·obtain⟨_,_,_,_,_,_,_,_,_,_,rfl,_⟩:=h
  rfl
 obtain⟨ac,ar,al,xs,cs,zs,m,R,Lf,f,rfl,x,hf,c16,hb,hQ⟩:=h
 refine⟨_,(ag (aO 3 dI.nd (bJ bq))
   (ag (bR PassesOwn.never rfl (kD (K:=K) rfl (by rfl) T.n_enumerate (aF (qv 1))) (eK (K:=K) (n:=2) rfl rfl (aY (au (i:=4) dI.nd rfl (inr rfl)) (aY (au (i:=5) dI.nd rfl (inl rfl)) eo))) (ah (bX (aK pK (aj (qv 5) (qv 2)) ae (aX _)) (ah (aO 3 dI.nd (aG wI (qv 3) (ck ["other"] [("place", 4)] (ja (K:=K) rfl (aj (aj (qv 0) (qv 4)) ae)) (aE (by decide)) (fun _ _ _ _ _=>⟨(au (i:=0) (show (["other","place"]:List Str).Nodup by decide +kernel) rfl (inl rfl)),bF,(bh (aH (qv 1) (qv 0)))⟩))))) be)))
   (ah (aB (qv 3))))),?_⟩
 k_extra "rx"
 refine bK (by decide) fun F0 H1 zb s1 JW=>?_
 have x1:=x.same s1
 have zl:=x1.hR.1
 refine ba ?_
 dsimp only
 refine⟨_,rfl,ar,rfl,⟨_,SqL.of x1.r⟩,sd (K:=K) (a:=ar) (xs:=zs) (fun i σ H'=>∃ F vs,∃ ms:List (Nat×Nat),∃ v4 v5,σ=[some (.ref ac),some (.ref ar),some (.int (f:Int)),some (.ref F),v4,v5]/\ak H1 H'/\H F=none/\H' F=some (.lst vs)/\cf H' vs (ms.map ic)/\ms.length<=6*i/\(∀ s∈ms,s.1 < cs.length/\0 < R s.1 f/\(s.2:Int)∈aT cs s.1)/\∀ p,p < i->0 < R p f->∀ x∈aT cs p,(p,x.toNat)∈ms) ⟨F0,[],[],_,_,rfl,fun _ _ h=>h,zb,JW,⟨rfl,fun i p h=>by simp at h⟩,le_refl _,(fun s h=>by cases h),fun p h=>by omega⟩ (fun i σ H' _ ⟨_,_,_,_,_,_,s,_⟩=>SqL.of (s _ _ x1.r)) ?_ ?_⟩
 ·rintro i y q σ H2 H3 NN BB hy hq s3 Ah ⟨F,vs,ms,v4,v5,rfl,s2,nF,hF,hR,ml,h1,h2⟩ kN kB
  clear kB
  have hi:i < cs.length:=by rw[<- zl];exact (List.getElem?_eq_some_iff.mp hy).1
  have x3:=x1.same (s2.trans s3)
  have vi:=s3 _ _ hF
  have uY:=hR.ts (TS.of s3)
  have oh:=s2.trans s3
  obtain⟨l,e0,hl,e1,_,_⟩:=x3.row hi
  rw[e1] at hy
  cases hy
  obtain⟨rc,pc,kc,a1,k1,k2⟩:=x3.cl' hi
  have a2:=g_ (g:=R i) hf
  have Nz:=x3.c
  clear hF hR s2 s3
  refine⟨q,_,rfl,SqT.of Ah,rfl,_,_,rfl,_,_,rfl,rfl,?_⟩
  dsimp only
  k_extra "rx"
  refine gO (fun h3=>?_) (fun h3=>?_)
  ·k_extra "rx"
   refine⟨_,rfl,_,rfl,ac,xs,_,_,rfl,rfl,aP Nz,a1,rc,_,1,_,rfl,rfl,dZ k1,rfl,kc,rfl,⟨_,SqT.of k2⟩,fun F2 Aj=>?_⟩
   refine gn (K:=K) (a:=kc) (xs:=(aT cs i).map V.int) (fun j acc H4=>ak H3 H4/\H4 F2=some (.lst acc)/\cf H4 acc (((aT cs i).take j).map fun x=>((i:Int),x))) ⟨ak.new Aj,af,⟨rfl,fun i p h=>by simp at h⟩⟩ (fun j acc H4 _ ⟨s4,_⟩=>SqT.of (s4 _ _ k2)) ?_ ?_
   ·rintro j y acc H4 hy ⟨s4,Af,hA⟩
    obtain⟨hj,rfl⟩:=int_at hy
    have len:=hA.1
    rw[length_map,length_take] at len
    have O0:=(hb i hi).1
    rw[bx _ hj]
    generalize (aT cs i)[j]=X
    simp only[aD,eC,if_true]
    k_extra "rx"
    refine bK (le_of_ble_eq_true rfl) fun t0 H5 Ai s5 M8=>?_
    have l5:=s5 _ _ Af
    have nt:t0≠F2:=fun z=>by rw[z,Af] at Ai;cases Ai
    exact⟨l5,ay (by omega),bg Aj (s4.trans s5),af,((hA.ts (TS.of s5)).ts (TS.lst l5)).snoc (by rw[ax nt];exact M8)⟩
   ·rintro acc H4 ⟨s4,Af,hA⟩
    rw[length_map,take_length] at hA
    have Nv:=s4 _ _ vi
    have lj:=uY.ts (TS.of s4)
    have vl:=lj.1
    have QU:=hA.1
    rw[length_map] at vl QU
    have O0:=(hb i hi).1
    refine⟨F,F2,vs,acc,rfl,rfl,Nv,Af,le_trans (show vs.length+acc.length<=200 by omega) (by decide),fun F3 uL=>?_⟩
    have s5:=ak.new (o:=.lst (vs++acc)) uL
    refine ba ?_
    refine kN _ _ ⟨F3,vs++acc,ms++(aT cs i).map (fun x=>(i,x.toNat)),_,_,rfl,(oh.trans s4).trans s5,kK ((s1.trans oh).trans s4) uL,af,?_,?_,fun s hs=>?_,fun p hp h x hx=>?_⟩
    ·rw[map_append,map_map]
     have e:List.map (ic ∘ fun x=>(i,x.toNat)) (aT cs i)=(aT cs i).map fun x=>((i:Int),x):=map_congr_left fun x hx=>by
      have:=(hb i hi).2 x hx
      show ((i:Int),((x.toNat:Nat):Int))=((i:Int),x)
      rw[toNat_of_nonneg this.1]
     rw[e]
     exact (lj.ts (TS.of s5)).app (hA.ts (TS.of s5))
    ·rw[length_append,length_map]
     omega
    ·rcases mem_append.mp hs with hs | hs
     ·exact h1 s hs
     ·obtain⟨x,hx,rfl⟩:=mem_map.mp hs
      refine⟨hi,h3,?_⟩
      show ((x.toNat:Nat):Int)∈_
      rw[toNat_of_nonneg ((hb i hi).2 x hx).1]
      exact hx
    ·by_cases e:p < i
     ·exact mem_append_left _ (h2 p e h x hx)
     ·have e:p=i:=by omega
      subst e
      exact mem_append_right _ (mem_map.mpr ⟨x,hx,rfl⟩)
  ·refine bZ ?_
   exact kN _ _ ⟨F,vs,ms,_,_,rfl,oh,nF,vi,uY,by omega,h1,fun p hp h=>by
    by_cases e:p < i
    ·exact h2 p e h
    ·rw[show p=i by omega] at h
     exact absurd h h3⟩
 ·rintro σ H2 ⟨F,vs,ms,v4,v5,rfl,s2,nF,hF,hR,ml,h1,h2⟩
  rw[zl] at h2
  k_extra "rx"
  exact hQ F vs ms H2 (s1.trans s2) nF hF hR h1 h2
theorem rS(D:aS K mg "most_along" jf f fd)(T:Txt K mg cx):aq P w K mg base CX0 1 "most_along" ["rows","left","chain"] ix:=by
 refine D.ok (D.q dG (fun vs H Q E h=>?_) (fun bW A outer s H vs Q E hr h=>?_)) (D.fn.binds fun _ _ _ _ _ _ us hl=>match us,hl with | [_,_,_],_=>rfl)
 ·obtain⟨_,_,_,_,_,_,_,_,_,_,_,_,_,rfl,_⟩:=h
  rfl
 obtain⟨ac,ar,al,xs,cs,zs,m,R,Lf,place,q,ts,ch,rfl,x,hq,hR,hc,hQ⟩:=h
 refine⟨_,(ag (aO 3 dG.nd (aj (qv 1) (aj (aj (qv 2) (vE oV ae)) ae)))
   (ag (bR PassesOwn.never rfl (vk (K:=K) rfl (by rfl) T.n_zip (aH (qv 2) (km yo (qv 2) (mE ae) mC))) (eK (K:=K) (n:=2) rfl rfl (aY (au (i:=4) dG.nd rfl (inl rfl)) (aY (au (i:=5) dG.nd rfl (inl rfl)) eo))) (ah (aO 3 dG.nd (aA (nG rfl) (by rfl) T.n_min wK (aH (qv 3) (aj (aj (qv 0) (aj (qv 5) ae)) (aj (qv 4) ae)))))))
   (ah (aB (qv 3))))),?_⟩
 have tl:ts.length=ch.length:=by rw[hR.1,length_map]
 have ne:=hc.ne
 obtain⟨qe,e1,_,hqe⟩:=mq hR (show ch.length - 1 < ch.length by omega)
 have a1:atI ts (-1)=some (.ref qe):=wo (by omega) (by rw[tl];exact e1)
 have lt:=hc.lt (ch.length - 1) (by omega)
 have a2:=g_ (g:=Lf) lt.2
 have xl:=x.l
 k_extra "rx"
 refine sA hq a1 ?_
 k_extra "rx"
 refine⟨_,rfl,_,rfl,1,rfl,q,ts,rfl,hq,fun q2 H1 s1 mG=>?_⟩
 have ec:lA ts (some 1) none=ts.drop 1:=LQ (by omega)
 rw[ec] at mG
 have x1:=x.same s1
 have m7:=s1 _ _ hq
 have C3:=hR.ts (TS.of s1)
 have dl:(ts.drop 1).length=ch.length - 1:=by rw[length_drop,tl]
 refine⟨q,q2,rfl,⟨_,SqT.of m7⟩,⟨_,SqT.of mG⟩,sy (K:=K) (a:=q) (b:=q2) (xs:=ts) (ys:=ts.drop 1) (fun i σ H'=>∃ a v4 v5,σ=[some (.ref ar),some (.ref al),some (.ref q),some (.int a),v4,v5]/\ak H1 H'/\a<=Lf (cF ch (ch.length - 1))/\(∀ k,k < i->a<=R (cP ch (k+1)) (cF ch k))/\(0 < Lf (cF ch (ch.length - 1))->0 < a)) ⟨_,_,_,rfl,fun _ _ h=>h,Int.le_refl _,(fun k hk=>by omega),fun h=>h⟩ (by omega) (fun i σ H' _ ⟨_,_,_,_,s,_⟩=>⟨SqT.of (s _ _ m7),SqT.of (s _ _ mG)⟩) ?_ ?_⟩
 ·rintro i y1 y2 pq σ H2 H3 NN BB JX Gr hpq s3 N4 ⟨a,v4,v5,rfl,s2,b1,b2,b3⟩ kN kB
  clear kB
  have oh:=s2.trans s3
  have hi:i+1 < ch.length:=by
   have:=(List.getElem?_eq_some_iff.mp Gr).1
   omega
  have uY:=C3.ts (TS.of oh)
  have x3:=x1.same oh
  obtain⟨qa,k1,_,k3⟩:=mq uY (show i < ch.length by omega)
  obtain⟨qb,k4,_,k6⟩:=mq uY hi
  rw[k1] at JX
  cases JX
  rw[List.getElem?_drop,Nat.add_comm,k4] at Gr
  cases Gr
  obtain⟨l1,l2⟩:=hc.lt (i+1) hi
  obtain⟨l3,l4⟩:=hc.lt i (by omega)
  obtain⟨l,e0,hl,_,_,_⟩:=x3.row l1
  have a5:=g_ (g:=R (cP ch (i+1))) l4
  have Tc:=x3.r
  have st:=hc.st i hi
  refine⟨pq,_,rfl,SqT.of N4,rfl,_,_,rfl,_,_,rfl,rfl,?_⟩
  dsimp only
  k_extra "rx"
  refine⟨_,_,rfl,?_⟩
  refine ba ?_
  refine kN _ _ ⟨_,_,_,rfl,oh,?_,fun k hk=>?_,fun h=>?_⟩
  ·split<;>omega
  ·by_cases e:k < i
   ·have:=b2 k e
    split<;>omega
   ·rw[show k=i by omega]
    split<;>omega
  ·have:=b3 h
   split<;>omega
 ·rintro σ H2 ⟨a,v4,v5,rfl,s2,b1,b2,b3⟩
  rw[dl] at b2
  k_extra "rx"
  exact hQ a H2 (s1.trans s2) b1 (fun i hi=>b2 i (by omega)) b3
theorem rK(D:aS K mg "move_along" jb f fd)(T:Txt K mg cx):aq P w K mg base CX0 1 "move_along" ["rows","left","chain","amount"] iF:=by
 refine D.ok (D.q ip (fun vs H Q E h=>?_) (fun bW A outer s H vs Q E hr h=>?_)) (D.fn.binds fun _ _ _ _ _ _ us hl=>match us,hl with | [_,_,_,_],_=>rfl)
 ·obtain⟨_,_,_,_,_,_,_,_,_,_,_,_,_,_,_,rfl,_⟩:=h
  rfl
 obtain⟨ac,ar,al,xs,cs,zs,m,R,Lf,place,q,ts,ch,a,cap,rfl,x,hq,hR,hc,fl,a0,aL,aR,hQ⟩:=h
 refine⟨_,(ag (mO (aj (qv 0) (aj (aj (qv 2) ae) ae)) (aj (aj (qv 2) ae) ae) jP (qv 3) sN set_list)
   (ag (bR PassesOwn.never rfl (vk (K:=K) rfl (by rfl) T.n_zip (aH (qv 2) (km yo (qv 2) (mE ae) mC))) (eK (K:=K) (n:=2) rfl rfl (aY (au (i:=4) ip.nd rfl (inl rfl)) (aY (au (i:=5) ip.nd rfl (inl rfl)) eo))) (ag (mO (aj (qv 0) (aj (qv 5) ae)) (aj (qv 4) ae) jP (qv 3) wy set_list)
   (ah (mO (aj (qv 0) (aj (qv 5) ae)) (aj (qv 5) ae) jP (qv 3) sN set_list))))
   (ah (mO (qv 1) (aj (aj (qv 2) (vE oV ae)) ae) jP (qv 3) wy set_list)))),?_⟩
 have tl:ts.length=ch.length:=by rw[hR.1,length_map]
 have ne:=hc.ne
 obtain⟨q0,_,e0,SO⟩:=mq hR ne
 have e0:atI ts 0=some (.ref q0):=e0
 obtain⟨l1,l2⟩:=hc.lt 0 ne
 obtain⟨l,el,hl,ez,nX,lz⟩:=x.row l1
 have a1:=g_ (g:=R (cP ch 0)) l2
 have xr:=x.r
 k_extra "rx"
 refine sA hq e0 ?_
 k_extra "rx"
 refine sA hq e0 ?_
 k_extra "rx"
 refine qm hl (by omega) a1 ?_
 k_extra "rx"
 refine jS (k:=cF ch 0) hl (mi (by rw[dC];exact l2)) (tX l2) fun H1 g1 f1=>?_
 have Ng:=TS.frl hl f1
 have x1:=x.GL l1 ez hl nX f1 g1
 have mv:=Mv.start fl hc a0
 have z1:FrZ zs al H H1:=FrZ.row lz f1
 have m7:=Ng _ _ hq
 have C3:=hR.ts Ng
 generalize up2 R (cP ch 0) (cF ch 0) (R (cP ch 0) (cF ch 0)+a)=R0 at x1 mv
 clear g1 f1 Ng hl xr a1 el ez
 k_extra "rx"
 refine⟨_,rfl,_,rfl,1,rfl,q,ts,rfl,m7,fun q2 H2 s2 mG=>?_⟩
 have ec:lA ts (some 1) none=ts.drop 1:=LQ (by omega)
 rw[ec] at mG
 have x2:=x1.same s2
 have JI:=s2 _ _ m7
 have IK:=C3.ts (TS.of s2)
 have z2:=z1.trans (FrZ.of s2)
 have dl:(ts.drop 1).length=ch.length - 1:=by rw[length_drop,tl]
 clear x1 m7 C3 z1 s2 hq hR x
 refine⟨q,q2,rfl,⟨_,SqT.of JI⟩,⟨_,SqT.of mG⟩,sy (K:=K) (a:=q) (b:=q2) (xs:=ts) (ys:=ts.drop 1) (fun i σ H'=>∃ Ri v4 v5,σ=[some (.ref ar),some (.ref al),some (.ref q),some (.int a),v4,v5]/\Tq ac ar al xs cs zs m Ri Lf H'/\Mv cs.length m R (aT cs) place ch a i Ri/\Toy.TS H2 H'/\FrZ zs al H H') ⟨R0,_,_,rfl,x2,mv,(fun _ _ h=>h),z2⟩ (by omega) (fun i σ H' _ ⟨_,_,_,_,_,_,s,_⟩=>⟨SqT.of (s _ _ JI),SqT.of (s _ _ mG)⟩) ?_ ?_⟩
 ·rintro i y1 y2 pq σ H3 H4 NN BB JX Gr hpq s4 ND ⟨Ri,v4,v5,rfl,x3,mv,t3,z3⟩ kN kB
  clear kB x2 z2
  have hi:i+1 < ch.length:=by
   have:=(List.getElem?_eq_some_iff.mp Gr).1
   omega
  have t4:Toy.TS H2 H4:=fun b o h=>s4 _ _ (t3 b o h)
  have lj:=IK.ts t4
  have x4:=x3.same s4
  have z4:=z3.trans (FrZ.of s4)
  clear x3 t3 z3 s4
  obtain⟨qa,k1,_,k3⟩:=mq lj (show i < ch.length by omega)
  obtain⟨qb,k4,_,k6⟩:=mq lj hi
  rw[k1] at JX
  cases JX
  rw[List.getElem?_drop,Nat.add_comm,k4] at Gr
  cases Gr
  obtain⟨l1,l2⟩:=hc.lt (i+1) hi
  obtain⟨l3,l4⟩:=hc.lt i (by omega)
  obtain⟨l,e0,hl,ez,nX,lz⟩:=x4.row l1
  have a5:=g_ (g:=Ri (cP ch (i+1))) l4
  have Mb:=x4.r
  refine⟨pq,_,rfl,SqT.of ND,rfl,_,_,rfl,_,_,rfl,rfl,?_⟩
  dsimp only
  k_extra "rx"
  refine qm hl (by omega) a5 ?_
  k_extra "rx"
  refine jS (k:=cF ch i) hl (mi (by rw[dC];exact l4)) (tX l4) fun H5 g5 f5=>?_
  have MD:=TS.frl hl f5
  have x5:=x4.GL l1 ez hl nX f5 g5
  have SR:=MD _ _ k3
  have SV:=MD _ _ k6
  have t5:Toy.TS H2 H5:=fun b o h=>MD _ _ (t4 b o h)
  have z5:=z4.trans (FrZ.row lz f5)
  have mvs:=fun R1 e=>mv.step fl hc a0 hi (aR i hi) R1 e
  have O3:=mvs _ rfl
  generalize up2 Ri (cP ch (i+1)) (cF ch i) (Ri (cP ch (i+1)) (cF ch i) - a)=R1 at x5 O3
  clear mvs mv x4 Mb hl g5 f5 MD t4 z4 k3 k6 a5 e0 ez nX lz
  obtain⟨l,e0,hl,ez,nX,lz⟩:=x5.row l1
  have a5:=g_ (g:=R1 (cP ch (i+1))) l2
  have S4:=x5.r
  k_extra "rx"
  refine qm hl (by omega) a5 ?_
  k_extra "rx"
  refine jS (k:=cF ch (i+1)) hl (mi (by rw[dC];exact l2)) (tX l2) fun H6 g6 f6=>?_
  have Qd:=TS.frl hl f6
  exact kN _ _ ⟨_,_,_,rfl,x5.GL l1 ez hl nX f6 g6,O3,fun b o h=>Qd _ _ (t5 b o h),z5.trans (FrZ.row lz f6)⟩
 ·rintro σ H3 ⟨Ri,v4,v5,rfl,x3,mv,t3,z3⟩
  rw[dl] at mv
  have Ah:=t3 _ _ JI
  have uY:=IK.ts t3
  obtain⟨qe,e1,_,hqe⟩:=mq uY (show ch.length - 1 < ch.length by omega)
  have a1:atI ts (-1)=some (.ref qe):=wo (by omega) (by rw[tl];exact e1)
  have lt:=hc.lt (ch.length - 1) (by omega)
  have a2:=g_ (g:=Lf) lt.2
  have xl:=x3.l
  k_extra "rx"
  refine sA Ah a1 ?_
  k_extra "rx"
  refine qm xl (by omega) a2 ?_
  k_extra "rx"
  refine jS (k:=cF ch (ch.length - 1)) x3.l (mi (by rw[dC];exact lt.2)) (vf lt.2) fun H4 g4 f4=>?_
  exact hQ Ri _ H4 (x3.putL f4 g4) (fl.move hc mv aL) mv.row (z3.trans (FrZ.left f4))
theorem mj(D:aS K mg "shortest_chain" fj f fd)(T:Txt K mg cx)(i8:aq P w K mg base CX0 1 "moves_from" ["claims","rows","fund"] iC):aq P w K mg base CX0 2 "shortest_chain" ["claims","rows","left","place"] ef:=by
 refine D.ok (D.q bD (fun vs H Q E h=>?_) (fun bW A outer s H vs Q E hr h=>?_)) (D.fn.binds fun _ _ _ _ _ _ us hl=>match us,hl with | [_,_,_,_],_=>rfl)
 ·obtain⟨_,_,_,_,_,_,_,_,_,_,rfl,_⟩:=h
  rfl
 obtain⟨ac,ar,al,xs,cs,zs,m,R,Lf,place,rfl,x,hp,c16,m6,hb,no,hQ⟩:=h
 refine⟨_,(ag (fF (k:=4) ["fund"] [("place", 3)] bD.nd (ja (K:=K) rfl (aj (aj (qv 0) (qv 3)) ae)) (aE (by decide)) (fun _ _ _ _ _=>⟨(au (i:=0) (show (["fund","place"]:List Str).Nodup by decide +kernel) rfl (inl rfl)),bF,(bh (aF (bh (aH (qv 1) (qv 0)))))⟩))
   (ag (aO 5 bD.nd (cm cg (by rfl) T.n_list dM (aF (aj (aj (qv 0) (qv 3)) ae))))
   (ag (aO 6 bD.nd ae)
   (ag (jR PassesOwn.never (aK n5 (qv 6) (aA aW (by rfl) T.n_len bQ (aF (qv 4))) (aX _)) (ag (aO 7 bD.nd (aj (aj (aj (qv 4) (qv 6)) (vE oV ae)) ae))
   (ag (bX (aK pK (aj (qv 2) (qv 7)) ae (aX _)) (ah (aB (aj (qv 4) (qv 6)))) be)
   (ag (bR PassesOwn.never rfl (aM (K:=K) rfl (aJ i8 (oX (qv 0) (qv 1) (qv 7)))) (au (i:=8) bD.nd rfl (inl rfl)) (ah (bX (aK (nu (K:=K) rfl) (aj (qv 8) ae) (qv 5) (by rfl)) (ag (dN (iG (K:=K) rfl PySem.F.plainAttrs_list PySem.F.slot_list_append PySem.F.type_list_append bT (qv 4) (aF (aG ui (aj (qv 4) (qv 6)) (bh (aF (qv 8)))))))
   (ah (dN (iG (K:=K) rfl PySem.F.plainAttrs_list PySem.F.slot_list_append PySem.F.type_list_append bT (qv 5) (aF (aj (qv 8) ae)))))) be)))
   (ah (AG (i:=6) bD.nd rfl (inl rfl) ae sN))))))
   (ah L3))))),?_⟩
 obtain⟨rc,pc,kc,a1,k1,k2⟩:=x.cl' hp
 have xc:=x.c
 refine⟨_,rfl,_,rfl,ac,xs,_,_,rfl,rfl,aP xc,a1,rc,_,1,_,rfl,rfl,dZ k1,rfl,kc,rfl,⟨_,SqT.of k2⟩,fun C hC=>?_⟩
 refine gn (K:=K) (a:=kc) (xs:=(aT cs place).map V.int) (fun j acc H1=>ak H H1/\H1 C=some (.lst acc)/\la H1 acc (((aT cs place).take j).map fun x=>[(place,x.toNat)])) ⟨ak.new hC,af,⟨rfl,fun i p h=>by simp at h⟩⟩ (fun j acc H1 _ ⟨s1,_⟩=>SqT.of (s1 _ _ k2)) ?_ ?_
 ·rintro j y acc H1 hy ⟨s1,JO,hA⟩
  obtain⟨hj,rfl⟩:=int_at hy
  have len:=hA.1
  rw[length_map,length_take] at len
  have O0:=(hb place hp).1
  have b:=(hb place hp).2 _ (getElem_mem hj)
  rw[bx _ hj]
  generalize (aT cs place)[j]=X at b |-
  simp only[aD,eC,if_true]
  k_extra "rx"
  refine bK (le_of_ble_eq_true rfl) fun t0 H2 Ai s2 Ig=>?_
  k_extra "rx"
  refine bK (le_of_ble_eq_true rfl) fun t1 H3 J3 s3 ME=>?_
  have Fd:=s2.trans s3
  have l3:=Fd _ _ JO
  have ts:Toy.TS H3 (upd H3 C (.lst (acc++[.ref t1]))):=TS.lst l3
  refine⟨l3,ay (by omega),bg hC (s1.trans Fd),af,(((hA.ts (TS.of Fd)).ts ts).snoc (ts _ _ ME) ?_)⟩
  have e:([(place,X.toNat)].map ic)=[((place:Int),X)]:=by
   show [((place:Int),((X.toNat:Nat):Int))]=_
   rw[toNat_of_nonneg b.1]
  rw[e]
  exact cf.snoc (xs:=[]) (ps:=[]) ⟨rfl,fun i p h=>by simp at h⟩ (ts _ _ (s3 _ _ Ig))
 ·rintro acc H1 ⟨s1,JO,hA⟩
  rw[length_map,take_length] at hA
  have x1:=x.same s1
  have Rx:=a1
  have Sg:=s1 _ _ k1
  have Pn:=s1 _ _ k2
  have Sm:=x1.c
  refine ba ?_
  dsimp only
  k_extra "rx"
  refine⟨kc,_,rfl,dZ Pn,fun Rc Ln=>?_⟩
  have s2:=ak.new (o:=.lst ((aT cs place).map V.int)) Ln
  have g2:upd H1 Rc (.lst ((aT cs place).map V.int)) Rc=_:=af
  generalize upd H1 Rc (.lst ((aT cs place).map V.int))=H2 at s2 g2 |-
  have CR:C≠Rc:=fun z=>by rw[z,Ln] at JO;cases JO
  have Rc0:H Rc=none:=by
   cases e:H Rc with
   | none=>rfl
   | some o=>rw[s1 _ _ e] at Ln;cases Ln
  have j4:=s1.trans s2
  have Px:=s2 _ _ JO
  have OS:=hA.ts (TS.of s2)
  have bf:=Bf.start (R:=R) (Lf:=Lf) hp m6 (hb place hp)
  clear JO hA s1 s2 Ln x1 Sm Sg Pn Rx
  refine ba ?_
  k_extra "rx"
  refine⟨fun k σ H'=>∃ a:Nat,k=13 - a/\∃ vs dB,∃ rs:List Int,∃ v7 v8,σ=[some (.ref ac),some (.ref ar),some (.ref al),some (.int (place:Int)),some (.ref C),some (.ref Rc),some (.int (a:Int)),v7,v8]/\ak H H'/\H' C=some (.lst vs)/\la H' vs dB/\H' Rc=some (.lst (rs.map V.int))/\Bf cs.length m R Lf (aT cs) place dB rs a,⟨13,0,rfl,_,_,_,_,_,rfl,j4,Px,OS,g2,bf⟩,?_⟩
  clear bf j4 Px OS g2 acc
  rintro k σ H3 ⟨a,rfl,vs,dB,rs,v7,v8,rfl,s3,MR,Me,g3,bf⟩
  have vl:=Me.1
  have OZ:=bf.K_
  have len:=bf.len
  k_extra "rx"
  refine sG (fun h1=>?_) (fun h1=>?_)
  ·have h1:(a:Int) < (vs.length:Int):=of_decide_eq_true h1
   have ha:a < dB.length:=by omega
   refine⟨fun σ' H'=>∃ vs dB,∃ rs:List Int,∃ v7 v8,σ'=[some (.ref ac),some (.ref ar),some (.ref al),some (.int (place:Int)),some (.ref C),some (.ref Rc),some (.int ((a+1:Nat):Int)),v7,v8]/\ak H H'/\H' C=some (.lst vs)/\la H' vs dB/\H' Rc=some (.lst (rs.map V.int))/\Bf cs.length m R Lf (aT cs) place dB rs (a+1),fun σ' H' h=>⟨13 - (a+1),by omega,a+1,rfl,h⟩,?_⟩
   obtain⟨o1,o2,o3,o4⟩:=bf.ok a ha
   obtain⟨q,ts,e1,hq,hR⟩:=Me.2 a (dB.getD a []) (by simp[getD_eq_getElem?_getD,ha])
   have tl:ts.length=(dB.getD a []).length:=by rw[hR.1,length_map]
   have ne:=o1.ne
   obtain⟨qe,e2,_,hqe⟩:=mq hR (show (dB.getD a []).length - 1 < (dB.getD a []).length by omega)
   have a2:atI ts (-1)=some (.ref qe):=wo (by omega) (by rw[tl];exact e2)
   have lt:=(o1.lt ((dB.getD a []).length - 1) (by omega)).2
   have aC:atI vs (a:Int)=some (.ref q):=aQ e1
   have x3:=x.same s3
   have PZ:=x3.l
   have a3:=g_ (g:=Lf) lt
   k_extra "rx"
   refine sA hq a2 ?_
   k_extra "rx"
   refine gO (fun h2=>?_) (fun h2=>?_)
   ·k_extra "rx"
    exact hQ q ts _ H3 s3 hq hR o1 h2
   ·have eff:(rs.getD a 0).toNat=cF (dB.getD a []) ((dB.getD a []).length - 1):=by rw[<- o2,toNat_natCast]
    generalize cF (dB.getD a []) ((dB.getD a []).length - 1)=ff at h2 lt a3 hqe o2 eff
    clear hqe e2 a2 hq hR tl e1 aC a3 PZ o1 o3 o4 ne vl
    refine bZ ?_
    k_extra "rx"
    refine⟨_,rfl,_,rfl,_,rfl,ac,ar,al,xs,cs,zs,m,R,Lf,ff,rfl,x3,lt,c16,hb,fun F mv ms H4 s4 nF hF hM m1 m2=>?_⟩
    have FC:F≠C:=fun z=>by rw[z,MR] at nF;cases nF
    have FR:F≠Rc:=fun z=>by rw[z,g3] at nF;cases nF
    have ml:mv.length=ms.length:=by rw[hM.1,length_map]
    refine⟨F,rfl,⟨_,SqL.of hF⟩,eW (K:=K) (a:=F) (xs:=mv) (fun j σ H'=>∃ vs dB,∃ rs:List Int,∃ v8,σ=[some (.ref ac),some (.ref ar),some (.ref al),some (.int (place:Int)),some (.ref C),some (.ref Rc),some (.int (a:Int)),some (.int (ff:Int)),v8]/\ak H H'/\H' C=some (.lst vs)/\la H' vs dB/\H' Rc=some (.lst (rs.map V.int))/\Bf cs.length m R Lf (aT cs) place dB rs a/\a < dB.length/\(rs.getD a 0).toNat=ff/\H' F=some (.lst mv)/\cf H' mv (ms.map ic)/\∀ k,k < j->(cF ms k:Int)∈rs) ⟨vs,dB,rs,_,rfl,s3.trans s4,s4 _ _ MR,Me.ts (TS.of s4),s4 _ _ g3,bf,ha,eff,hF,hM,fun k hk=>by omega⟩ (fun i σ H' _ ⟨_,_,_,_,_,_,_,_,_,_,_,_,h,_⟩=>SqL.of h) ?_ ?_⟩
    ·clear bf Me MR g3 s3 s4 hF hM eff h1 ha len OZ x3 o2
     rintro j y σ H5 NN BB hy ⟨vs,dB,rs,v8,rfl,s5,J2,GF,g5,bf,ha,eff,hF,hM,dn⟩ kN kB
     clear kB
     have hj:j < ms.length:=by rw[<- ml];exact (List.getElem?_eq_some_iff.mp hy).1
     obtain⟨qs,e1,_,hqs⟩:=mq hM hj
     rw[e1] at hy
     cases hy
     have es:ms.getD j (0,0)=ms[j]:=by simp[getD_eq_getElem?_getD,hj]
     obtain⟨n1,n2,n3⟩:=m1 ms[j] (getElem_mem hj)
     rw[<- es] at n1 n2 n3
     have n4:cF ms j < m:=by
      have:=((hb _ n1).2 _ n3).2
      show (ms.getD j (0,0)).2 < m
      omega
     have vl:=GF.1
     have OZ:=bf.K_
     have len:=bf.len
     refine ba ?_
     dsimp only
     k_extra "rx"
     refine⟨Rc,rs.map V.int,rfl,.inl (SqL.of g5),rfl,by simp[h7],?_⟩
     rw[if_pos rfl,fS]
     refine⟨_,rfl,E_ (fun h3=>?_) (fun h3=>?_)⟩
     ·obtain⟨o1,o2,o3,o4⟩:=bf.ok a ha
      obtain⟨q,ts,e2,hq,hR⟩:=GF.2 a (dB.getD a []) (by simp[getD_eq_getElem?_getD,ha])
      have tl:ts.length=(dB.getD a []).length:=by rw[hR.1,length_map]
      have aC:atI vs (a:Int)=some (.ref q):=aQ e2
      refine n_ ?_
      k_extra "rx"
      refine⟨.inl ⟨rfl,_,SqL.of J2⟩,?_⟩
      k_extra "rx"
      refine bK (le_of_ble_eq_true rfl) fun t1 H6 J3 s6 PK=>?_
      have Lq:=s6 _ _ hq
      have Lk:=s6 _ _ hqs
      refine⟨q,t1,ts,[.ref qs],rfl,rfl,Lq,PK,by simp,le_trans (show ts.length+1<=32 by omega) (by decide),fun t2 H7 s7 OG=>?_⟩
      have vS:=s6.trans s7
      have Iq:=s7 _ _ Lk
      have PH:=hR.ts (TS.of vS)
      have DT:=vS _ _ J2
      have OM:=GF.ts (TS.of vS)
      have g7:=vS _ _ g5
      have IS:=vS _ _ hF
      have PF:=hM.ts (TS.of vS)
      have Kl:=s5.trans vS
      clear Lq Lk s6 s7 vS hR hq hqs hM hF g5 GF J2 s5 PK
      k_extra "rx"
      refine rV DT (by omega) fun H8 g8 f8=>?_
      have t8:=TS.frl DT f8
      have MV:=f8 _ _ CR.symm g7
      have wN:=f8 _ _ FC IS
      have Q9:=PF.ts t8
      have QX:=(OM.ts t8).snoc (q:=t2) (ch:=dB.getD a []++[ms.getD j (0,0)]) (t8 _ _ OG) (by
       rw[map_append]
       exact (PH.ts t8).snoc (t8 _ _ Iq))
      have Rq:=t8 _ _ Iq
      have Q2:=mK hC Kl f8
      clear PH OM g7 IS PF Kl DT t8 f8 OG Iq
      have R_:=bf.more ha n1 n4 n3 (by rw[eff];exact n2) h3
      have N1:((rs++[(cF ms j:Int)]).getD a 0).toNat=ff:=by rw[getD_snoc,if_pos (by omega),eff]
      k_extra "rx"
      refine n_ ?_
      k_extra "rx"
      refine⟨.inl ⟨rfl,_,SqL.of MV⟩,?_⟩
      k_extra "rx"
      refine rV MV (by rw[length_map];omega) fun H9 g9 f9=>?_
      have t9:=TS.frl MV f9
      refine kN _ _ ⟨_,_,rs++[(cF ms j:Int)],_,rfl,mK Rc0 Q2 f9,f9 _ _ CR g8,QX.ts t9,by rw[map_append];exact g9,R_,by rw[length_append];omega,N1,f9 _ _ FR wN,Q9.ts t9,fun k hk=>?_⟩
      by_cases e:k < j
      ·exact mem_append_left _ (dn k e)
      ·rw[show k=j by omega]
       exact mem_append_right _ mem_cons_self
     ·refine bZ ?_
      refine kN _ _ ⟨vs,dB,rs,_,rfl,s5,J2,GF,g5,bf,ha,eff,hF,hM,fun k hk=>?_⟩
      by_cases e:k < j
      ·exact dn k e
      ·rw[show k=j by omega]
       exact h3
    ·rintro σ H5 ⟨vs,dB,rs,v8,rfl,s5,J2,GF,g5,bf,ha,eff,hF,hM,dn⟩
     rw[ml] at dn
     refine⟨_,rfl,_,_,rfl,rfl,?_⟩
     refine⟨vs,dB,rs,_,_,rfl,s5,J2,GF,g5,bf.next ha (by rw[eff];omega) fun p hp h x hx=>?_⟩
     rw[eff] at h
     obtain⟨k,hk,e⟩:=getElem_of_mem (m2 p hp h x hx)
     have es:ms.getD k (0,0)=ms[k]:=by simp[getD_eq_getElem?_getD,hk]
     have:=dn k hk
     have e3:cF ms k=x.toNat:=by show (ms.getD k (0,0)).2=_;rw[es,e]
     rw[e3,toNat_of_nonneg ((hb p hp).2 x hx).1] at this
     exact this
  ·have h1:¬ (a:Int) < (vs.length:Int):=of_decide_eq_false h1
   have:=bf.le
   exact (bf.end (by omega) (fun p hp=>(hb p hp).2) hp no).elim
theorem Il(D:aS K mg "pay" BE f fd)(T:Txt K mg cx)(fb:aq P w K mg base CX0 2 "shortest_chain" ["claims","rows","left","place"] ef)(jw:aq P w K mg base CX0 1 "move_along" ["rows","left","chain","amount"] iF)(jk:aq P w K mg base CX0 1 "most_along" ["rows","left","chain"] ix):aq P w K mg base CX0 3 "pay" ["claims","rows","left","place","number"] xF:=by
 refine D.ok (D.q qG (fun vs H Q E h=>?_) (fun bW A outer s H vs Q E hr h=>?_)) (D.fn.binds fun _ _ _ _ _ _ us hl=>match us,hl with | [_,_,_,_,_],_=>rfl)
 ·obtain⟨_,_,_,_,_,_,_,_,_,_,_,_,_,rfl,_⟩:=h
  rfl
 obtain⟨ac,ar,al,xs,cs,zs,m,R,Lf,place,number,cap,nm,rfl,x,fl,hp,c16,m6,hb,n0,C8,no,hQ⟩:=h
 refine⟨_,(ag (aO 5 qG.nd (qv 4))
   (ah (jR PassesOwn.never (aK pK (qv 5) ae (aX _)) (ag (aO 6 qG.nd (aJ fb (ai (qv 0) (ai (qv 1) (ai (qv 2) (ai (qv 3) bq))))))
   (ag (aO 7 qG.nd (aA (nG rfl) (by rfl) T.n_min wK (aH (qv 5) (aJ jk (oX (qv 1) (qv 2) (qv 6))))))
   (ag (dN (aJ jw (ai (qv 1) (ai (qv 2) (ai (qv 6) (ai (qv 7) bq))))))
   (ah (AG (i:=5) qG.nd rfl (inl rfl) (qv 7) wy)))))))),?_⟩
 k_extra "rx"
 refine⟨fun k σ H'=>∃ lack:Int,k=lack.toNat/\0<=lack/\∃ R' Lf' v6 v7,σ=[some (.ref ac),some (.ref ar),some (.ref al),some (.int (place:Int)),some (.int number),some (.int lack),v6,v7]/\Tq ac ar al xs cs zs m R' Lf' H'/\Flo cs.length m R' Lf' (aT cs) cap/\(∀ p,p < cs.length->sm m (R' p)=sm m (R p)+if p=place then number - lack else 0)/\FrZ zs al H H',⟨_,number,rfl,n0,R,Lf,_,_,rfl,x,fl,fun p _=>by rw[Int.sub_self];split<;>omega,fun _ _ _ _ h=>h⟩,?_⟩
 clear x fl
 rintro k σ H1 ⟨lack,rfl,l0,R1,Lf1,v6,v7,rfl,x1,Nm,LL,z1⟩
 k_extra "rx"
 refine sG (fun h1=>?_) (fun h1=>?_)
 ·have h1:0 < lack:=of_decide_eq_true h1
  refine⟨fun σ' H'=>∃ yx:Int,yx < lack/\0<=yx/\∃ R' Lf' v6 v7,σ'=[some (.ref ac),some (.ref ar),some (.ref al),some (.int (place:Int)),some (.int number),some (.int yx),v6,v7]/\Tq ac ar al xs cs zs m R' Lf' H'/\Flo cs.length m R' Lf' (aT cs) cap/\(∀ p,p < cs.length->sm m (R' p)=sm m (R p)+if p=place then number - yx else 0)/\FrZ zs al H H',fun σ' H' ⟨l',q1,q2,h⟩=>⟨l'.toNat,by omega,l',rfl,q2,h⟩,?_⟩
  have lk:sm m (R1 place) < nm place:=by
   have a:=LL place hp
   have b:=C8 place hp
   rw[if_pos rfl] at a b
   omega
  have le:∀ p,p < cs.length->sm m (R1 p)<=nm p:=fun p hp=>by
   have a:=LL p hp
   have b:=C8 p hp
   split at a<;>rename_i e
   ·rw[if_pos e] at b
    omega
   ·rw[if_neg e] at b
    omega
  k_extra "rx"
  refine⟨ac,ar,al,xs,cs,zs,m,R1,Lf1,place,rfl,x1,hp,c16,m6,hb,fun S h1 h2 h3=>no S (Nm.stuck le hp lk S h1 h2 h3),fun q ts ch H2 s2 hq hR hc lp=>?_⟩
  have x2:=x1.same s2
  have z2:=z1.trans (FrZ.of s2)
  clear x1 z1 s2
  k_extra "rx"
  refine⟨ac,ar,al,xs,cs,zs,m,R1,Lf1,place,q,ts,ch,rfl,x2,hq,hR,hc,fun b H3 s3 b1 b2 b3=>?_⟩
  have b3:=b3 lp
  have x3:=x2.same s3
  have z3:=z2.trans (FrZ.of s3)
  have Ah:=s3 _ _ hq
  have uY:=hR.ts (TS.of s3)
  clear x2 z2 s3 hq hR
  k_extra "rx"
  refine⟨_,_,rfl,?_⟩
  have am:0 < (if b < lack then b else lack)/\(if b < lack then b else lack)<=b/\(if b < lack then b else lack)<=lack:=by split<;>omega
  generalize (if b < lack then b else lack)=a at am
  k_extra "rx"
  refine⟨ac,ar,al,xs,cs,zs,m,R1,Lf1,place,q,ts,ch,a,cap,rfl,x3,Ah,uY,hc,Nm,by omega,by omega,fun i hi=>by have:=b2 i hi;omega,fun R4 Lf4 H4 x4 DW Di z4=>?_⟩
  refine⟨_,rfl,_,rfl,_,_,rfl,rfl,?_⟩
  refine⟨lack - a,by omega,by omega,R4,Lf4,_,_,rfl,x4,DW,fun p hp=>?_,z3.trans z4⟩
  rw[Di p hp,LL p hp]
  split<;>omega
 ·have h1:¬ 0 < lack:=of_decide_eq_false h1
  have e:lack=0:=by omega
  subst e
  rw[Int.sub_zero] at LL
  exact hQ R1 Lf1 H1 x1 Nm LL z1
theorem uU(D:aS K mg "as_parts" lV f fd)(T:Txt K mg cx)(d_:aq P w K mg base (CXR P w) 2 "lowest" ["number","under"] (iR K cx)):aq P w K mg base CX0 3 "as_parts" ["numbers","under"] j7:=by
 refine D.ok (D.q vw (fun vs H Q E h=>?_) (fun bW A outer s H vs Q E hr h=>?_)) (D.fn.binds fun _ _ _ _ _ _ us hl=>match us,hl with | [_,_],_=>rfl)
 ·obtain⟨_,_,_,_,rfl,_⟩:=h
  rfl
 obtain⟨l,m,g,V,rfl,hl,m6,hV,hz,hQ⟩:=h
 refine⟨_,(ah (aB (ck ["number"] [("under", 1)] (aM (K:=K) rfl (qv 0)) (aE (by decide)) (fun _ _ _ _ _=>⟨(au (i:=0) (show (["number","under"]:List Str).Nodup by decide +kernel) rfl (inl rfl)),bF,(Hc d_ hr.le wb (aH (qv 0) (qv 1)))⟩)))),?_⟩
 have vz:Sz 9000 V:=hV.sz.mono (by decide)
 have v0:=hV.pos
 refine⟨_,rfl,l,rfl,⟨_,SqL.of hl⟩,fun F hF=>?_⟩
 refine aV (K:=K) (a:=l) (xs:=dy m g) (fun j acc H1=>ak H H1/\H1 F=some (.lst acc)/\bL V 4300 H1 acc ((range j).map fun f=>low (g f) V)) ⟨ak.new hF,af,bL.nil⟩ (fun j acc H1 _ ⟨s1,_⟩=>SqL.of (s1 _ _ hl)) ?_ ?_
 ·rintro j y acc H1 hy ⟨s1,JW,hA⟩
  have hj:j < m:=by have:=(List.getElem?_eq_some_iff.mp hy).1;rwa [dC] at this
  rw[kx hj] at hy
  cases hy
  have len:=hA.1
  rw[length_map,length_range] at len
  have gz:=hz j hj
  have er:(range (j+1)).map (fun f=>low (g f) V)=(range j).map (fun f=>low (g f) V)++[low (g j) V]:=by rw[range_succ,map_append];rfl
  rw[er]
  generalize g j=X at gz
  simp only[aD,eC,if_true]
  k_extra "rx"
  refine⟨X,V,rfl,vz,(fun h=>by omega),fun _ q hq=>?_⟩
  have s2:=ak.new (o:=.tup [.int (X / (gcd X V:Int)),.int (V / (gcd X V:Int))]) hq
  have g2:upd H1 q (.tup [.int (X / (gcd X V:Int)),.int (V / (gcd X V:Int))]) q=some (.tup [.int (low X V).1,.int (low X V).2]):=af
  generalize upd H1 q (.tup [.int (X / (gcd X V:Int)),.int (V / (gcd X V:Int))])=H2 at s2 g2 |-
  have l2:=s2 _ _ JW
  have nt:q≠F:=fun z=>by rw[z,JW] at hq;cases hq
  exact⟨l2,ay (by omega),bg hF (s1.trans s2),af,((hA.ts (TS.of s2)).ts (TS.lst l2)).snoc (by rw[ax nt];exact g2) ⟨qq v0,by rw[oJ v0];exact gz⟩⟩
 ·rintro acc H1 ⟨s1,JW,hA⟩
  rw[dC] at hA
  exact hQ F acc H1 s1 hF JW hA
theorem Ao(D:aS K mg "table" tS f fd)(T:Txt K mg cx)(dX:aq P w K mg base CX0 2 "one_under" ["row"] fX)(cu:aq P w K mg base CX0 1 "numbers_over" ["row","under"] dO)(AA:aq P w K mg base CX0 3 "pay" ["claims","rows","left","place","number"] xF)(lI:aq P w K mg base CX0 3 "as_parts" ["numbers","under"] j7):aq P w K mg base CX0 4 "table" ["worths","claims","parts"] qQ:=by
 refine D.ok (D.q iS (fun vs H Q E h=>?_) (fun bW A outer s H vs Q E hr h=>?_)) (D.fn.binds fun _ _ _ _ _ _ us hl=>match us,hl with | [_,_,_],_=>rfl)
 ·obtain⟨_,_,_,_,_,_,_,_,_,_,rfl,_⟩:=h
  rfl
 obtain⟨w,c,p,ws,xs,cs,ys,ps,U,k,rfl,sh,hp,hU,hR,hk,pl,c16,w6,wz,hb,p0,room,hQ⟩:=h
 refine⟨_,(ag (jJ (i:=3) iS.nd rfl (inr rfl) (aJ dX (aF (qv 2))))
   (ag (fF (k:=4) ["worth"] [("under", 3)] iS.nd (aM (K:=K) rfl (qv 0)) (aE (by decide)) (fun _ _ _ _ _=>⟨(au (i:=0) (show (["worth","under"]:List Str).Nodup by decide +kernel) rfl (inl rfl)),bF,(aG bz (qv 0) (qv 1))⟩))
   (ag (fF (k:=5) ["claim"] [("worths", 0)] iS.nd (aM (K:=K) rfl (qv 1)) (aE (by decide)) (fun _ _ _ _ _=>⟨(au (i:=0) (show (["claim","worths"]:List Str).Nodup by decide +kernel) rfl (inl rfl)),bF,(aG HH (bJ (aF ae)) (aA aW (by rfl) T.n_len bQ (aF (qv 1))))⟩))
   (ag (bR PassesOwn.never rfl (kD (K:=K) rfl (by rfl) T.n_enumerate (aF (aJ cu (aH (qv 2) (qv 3))))) (eK (K:=K) (n:=2) rfl rfl (aY (au (i:=6) iS.nd rfl (inl rfl)) (aY (au (i:=7) iS.nd rfl (inl rfl)) eo))) (ah (dN (aJ AA (ai (qv 1) (ai (qv 5) (ai (qv 4) (ai (qv 6) (ai (qv 7) bq)))))))))
   (ah (aB (ck ["row"] [("under", 3)] (aM (K:=K) rfl (qv 5)) (aE (by decide)) (fun _ _ _ _ _=>⟨(au (i:=0) (show (["row","under"]:List Str).Nodup by decide +kernel) rfl (inl rfl)),bF,(aJ lI (aH (qv 0) (qv 1)))⟩)))))))),?_⟩
 obtain⟨v0,dV,Rk⟩:=oN fun q hq=>(hR.mem q hq).toOk
 have hV:UOk (bS ps):=⟨v0,hU.sz.le (cC dV hU.pos)⟩
 have Ow:∀ i,i < cs.length->Ok (bS ps) (ps.getD i (0,1)):=fun i hi=>by
  have h2:i < ps.length:=by omega
  have e:ps.getD i (0,1)=ps[i]:=by simp[getD_eq_getElem?_getD,h2]
  rw[e]
  exact Rk _ (getElem_mem h2)
 k_extra "rx"
 refine⟨p,ys,ps,U,k,rfl,hp,hU,hR,hk,by omega,?_⟩
 have OI:∀ i,i < cs.length->0<=num (bS ps) (ps.getD i (0,1)):=fun i hi=>(fN v0 (Ow i hi)).mp (p0 i hi)
 have room:=Bi w6 (fun p hp=>(hb p hp).2) (room _ v0 Ow)
 have nl:(dD (bS ps) ps).length=cs.length:=by unfold dD;rw[length_map,pl]
 have nat:∀ i,i < cs.length->(dD (bS ps) ps)[i]?=some (num (bS ps) (ps.getD i (0,1))):=fun i hi=>by
  unfold dD
  rw[getElem?_map,getElem?_eq_getElem (by omega:i < ps.length)]
  have e:ps.getD i (0,1)=ps[i]'(by omega):=by simp[getD_eq_getElem?_getD,show i < ps.length by omega]
  rw[e]
  rfl
 refine ba ?_
 dsimp only
 have shw:=sh.w
 refine⟨_,rfl,w,rfl,⟨_,SqL.of shw⟩,fun al hal=>?_⟩
 refine aV (K:=K) (a:=w) (xs:=ws.map V.int) (fun j acc H1=>ak H H1/\H1 al=some (.lst acc)/\acc=dy j fun f=>ws.getD f 0*bS ps) ⟨ak.new hal,af,rfl⟩ (fun j acc H1 _ ⟨s1,_⟩=>SqL.of (s1 _ _ shw)) ?_ ?_
 ·rintro j y acc H1 hy ⟨s1,qU,rfl⟩
  obtain⟨hj,rfl⟩:=int_at hy
  have e:ws.getD j 0=ws[j]:=by simp[getD_eq_getElem?_getD,hj]
  have om:IntMulOk ws[j] (bS ps):=(wz _ (getElem_mem hj)).2.ok hV.sz (by decide)
  have er:dy (j+1) (fun f=>ws.getD f 0*bS ps)=dy j (fun f=>ws.getD f 0*bS ps)++[.int (ws[j]*bS ps)]:=by
   unfold dy
   rw[range_succ,map_append,<- e]
   rfl
  have len:=dC (m:=j) (g:=fun f=>ws.getD f 0*bS ps)
  rw[er]
  generalize dy j (fun f=>ws.getD f 0*bS ps)=A at qU len |-
  generalize ws[j]=X at om
  simp only[aD,eC,if_true]
  k_extra "rx"
  exact⟨X,_,rfl,rfl,om,qU,ay (by omega),bg hal s1,af,rfl⟩
 ·rintro acc H1 ⟨s1,qU,rfl⟩
  rw[length_map] at qU
  have Gw:=sh.same s1
  have hp1:=s1 _ _ hp
  have C3:=hR.ts (TS.of s1)
  refine ba ?_
  dsimp only
  have CK:=Gw.c
  have Kc:=Gw.w
  have hxl:=Gw.hC.1
  refine⟨_,rfl,c,rfl,⟨_,SqL.of CK⟩,fun ar har=>?_⟩
  have arl:ar≠al:=fun z=>by rw[z,qU] at har;cases har
  refine aV (K:=K) (a:=c) (xs:=xs) (fun j acc H2=>ak H1 H2/\H2 ar=some (.lst acc)/\acc.length=j/\acc.Nodup/\∀ v∈acc,∃ l,v=.ref l/\H2 l=some (.lst (dy ws.length fun _=>0))/\H1 l=none/\l≠ar) ⟨ak.new har,af,rfl,.nil,fun v h=>by cases h⟩ (fun j acc H2 _ ⟨s2,_⟩=>SqL.of (s2 _ _ CK)) ?_ ?_
  ·rintro j y acc H2 hy ⟨s2,C4,MF,nd,hall⟩
   have hj:j < xs.length:=(List.getElem?_eq_some_iff.mp hy).1
   have w2:=s2 _ _ Kc
   simp only[aD,eC,if_true]
   k_extra "rx"
   refine bK (le_of_ble_eq_true rfl) fun t0 H3 Ai s3 ME=>?_
   have w3:=s3 _ _ w2
   k_extra "rx"
   have wl:(ws.map V.int).length=ws.length:=length_map _
   refine⟨t0,_,[V.int 0],rfl,rfl,ME,by omega,by omega,le_trans (show 1*((ws.map V.int).length:Int).toNat<=32 by rw[length_map];omega) (by decide),fun q hq=>?_⟩
   have eq:(replicate (((ws.map V.int).length:Nat):Int).toNat [V.int 0]).flatten=dy ws.length fun _=>0:=by rw[toNat_natCast,length_map,uS]
   rw[eq]
   have s4:=ak.new (o:=.lst (dy ws.length fun _=>0)) hq
   have g4:upd H3 q (.lst (dy ws.length fun _=>0)) q=_:=af
   generalize upd H3 q (.lst (dy ws.length fun _=>0))=H4 at s4 g4 |-
   have l4:=s4 _ _ (s3 _ _ C4)
   have oC:=s3.trans s4
   have q1:H1 q=none:=kK (s2.trans s3) hq
   have qr:q≠ar:=fun z=>by rw[z,s3 _ _ C4] at hq;cases hq
   have qa:V.ref q∉acc:=fun z=>by
    obtain⟨l,e,h,_⟩:=hall _ z
    cases e
    rw[s3 _ _ h] at hq
    cases hq
   refine⟨l4,ay (by omega),bg har (s2.trans oC),af,by rw[length_append,MF];rfl,?_,fun v hv=>?_⟩
   ·refine (List.perm_append_comm (l₁:=acc) (l₂:=[.ref q])).nodup_iff.mpr (nodup_cons.mpr ⟨qa,nd⟩)
   ·rcases mem_append.mp hv with hv | hv
    ·obtain⟨l,rfl,h,h2,h3⟩:=hall v hv
     exact⟨l,rfl,by rw[ax h3];exact oC _ _ h,h2,h3⟩
    ·rw[mem_singleton.mp hv]
     exact⟨q,rfl,by rw[ax qr];exact g4,q1,qr⟩
  ·rintro zs H2 ⟨s2,C4,MF,nd,hall⟩
   have j4:=s1.trans s2
   have vH:=Gw.same s2
   have hp2:=s2 _ _ hp1
   have IK:=C3.ts (TS.of s2)
   have cG:=s2 _ _ qU
   have ca:c≠ar:=fun z=>by rw[<- z,CK] at har;cases har
   have cl:c≠al:=fun z=>by
    have:=sh.c
    rw[z,hal] at this
    cases this
   have z0:∀ a,V.ref a∈zs->H a=none:=fun a ha=>by
    obtain⟨l,e,_,h,_⟩:=hall _ ha
    cases e
    exact kK s1 h
   have x2:Tq c ar al xs cs zs ws.length (fun _ _=>0) (fun f=>ws.getD f 0*bS ps) H2:=⟨vH.c,vH.hC,C4,⟨by omega,nd,fun p hp=>by
    have hpz:p < zs.length:=by omega
    obtain⟨l,e,h,h2,h3⟩:=hall _ (getElem_mem hpz)
    refine⟨l,by rw[getElem?_eq_getElem hpz,e],h,?_⟩
    simp only[mem_cons,not_mem_nil,or_false,not_or]
    exact⟨(fun z=>by rw[z,CK] at h2;cases h2),h3,fun z=>by rw[z,qU] at h2;cases h2⟩⟩,cG,ca,cl,arl⟩
   have Pf:Flo cs.length ws.length (fun _ _=>0) (fun f=>ws.getD f 0*bS ps) (aT cs) fun f=>ws.getD f 0*bS ps:=⟨fun _ _ _ _=>Int.le_refl _,fun f hf=>by
    have e:ws.getD f 0=ws[f]:=by simp[getD_eq_getElem?_getD,hf]
    rw[e]
    exact mul_nonneg (wz _ (getElem_mem hf)).1 (le_of_lt v0),fun _ _ _ _ h=>absurd rfl h,fun f _=>by rw[gU,add_zero]⟩
   clear hall nd C4 har qU s1 s2 Gw CK Kc hp1 C3
   refine ba ?_
   dsimp only
   refine⟨_,rfl,_,rfl,p,_,ys,ps,U,k,rfl,hp2,hU,IK,hk,by omega,hV.sz,fun N hN=>?_⟩
   have s3:=ak.new (o:=.lst ((dD (bS ps) ps).map V.int)) hN
   have g3:upd H2 N (.lst ((dD (bS ps) ps).map V.int)) N=_:=af
   have NL:N≠al:=fun z=>by rw[z,cG] at hN;cases hN
   have NZ:V.ref N∉zs:=fun z=>by
    obtain⟨i,hi,e⟩:=getElem_of_mem z
    obtain⟨l,e2,h,_⟩:=x2.hR.2.2 i (by omega)
    rw[getElem?_eq_getElem hi,e] at e2
    cases e2
    rw[h] at hN
    cases hN
   generalize upd H2 N (.lst ((dD (bS ps) ps).map V.int))=H3 at s3 g3 |-
   have x3:=x2.same s3
   have oh:=j4.trans s3
   clear x2 hN s3 j4 vH hp2 IK cG
   refine⟨N,rfl,⟨_,SqL.of g3⟩,sd (K:=K) (a:=N) (xs:=(dD (bS ps) ps).map V.int) (fun i σ H'=>∃ R Lf v6 v7,σ=[some (.ref w),some (.ref c),some (.ref p),some (.int (bS ps)),some (.ref al),some (.ref ar),v6,v7]/\Tq c ar al xs cs zs ws.length R Lf H'/\Flo cs.length ws.length R Lf (aT cs) (fun f=>ws.getD f 0*bS ps)/\(∀ q,q < cs.length->sm ws.length (R q)=if q < i then num (bS ps) (ps.getD q (0,1)) else 0)/\FrZ zs al H3 H') ⟨_,_,_,_,rfl,x3,Pf,fun q _=>by rw[if_neg (by omega),gU],fun _ _ _ _ h=>h⟩ (fun i σ H' _ ⟨_,_,_,_,_,_,_,_,f⟩=>SqL.of (f _ _ NL NZ g3)) ?_ ?_⟩
   ·clear x3 Pf
    rintro i y q σ H4 H5 NN BB hy hq s5 N5 ⟨R,Lf,v6,v7,rfl,x4,DW,Di,z4⟩ kN kB
    clear kB
    have hi:i < cs.length:=by
     have:=(List.getElem?_eq_some_iff.mp hy).1
     rw[length_map] at this
     omega
    rw[getElem?_map,nat i hi] at hy
    cases hy
    have x5:=x4.same s5
    refine⟨q,_,rfl,SqT.of N5,rfl,_,_,rfl,_,_,rfl,rfl,?_⟩
    dsimp only
    k_extra "rx"
    refine⟨c,ar,al,xs,cs,zs,ws.length,R,Lf,i,_,_,fun q=>num (bS ps) (ps.getD q (0,1)),rfl,x5,DW,hi,c16,w6,hb,OI i hi,fun q hq=>?_,room,fun R6 Lf6 H6 x6 Rf Mg z6=>?_⟩
    ·rw[Di q hq]
     have:=OI q hq
     show _<=num (bS ps) (ps.getD q (0,1))
     by_cases e:q=i
     ·subst e
      rw[if_neg (by omega),if_pos rfl]
      omega
     ·rw[if_neg e]
      split<;>omega
    ·refine kN _ _ ⟨R6,Lf6,_,_,rfl,x6,Rf,fun q hq=>?_,(z4.trans (FrZ.of s5)).trans z6⟩
     rw[Mg q hq,Di q hq]
     by_cases e:q=i
     ·subst e
      rw[if_neg (by omega),if_pos rfl,if_pos (by omega)]
      omega
     ·rw[if_neg e]
      by_cases e2:q < i
      ·rw[if_pos e2,if_pos (by omega)]
       omega
      ·rw[if_neg e2,if_neg (by omega)]
       rfl
   ·rintro σ H4 ⟨R,Lf,v6,v7,rfl,x4,DW,Di,z4⟩
    rw[length_map,nl] at Di
    have Di:∀ q,q < cs.length->sm ws.length (R q)=num (bS ps) (ps.getD q (0,1)):=fun q hq=>by rw[Di q hq,if_pos hq]
    have s4:=z4.same oh hal z0
    have Mb:=x4.r
    have gd:=B5 v0 DW Ow Di
    have rz:∀ q f,q < cs.length->f < ws.length->Sz 4300 (R q f):=fun q f hq hf=>by
     have e:ws.getD f 0=ws[f]:=by simp[getD_eq_getElem?_getD,hf]
     have a1:=DW.nn q f hq hf
     have a2:=DW.col f hf
     have a3:=DW.ln f hf
     have a4:=KI (f:=fun q=>R q f) hq fun i hi=>DW.nn i f hi hf
     have a5:=((wz _ (getElem_mem hf)).2.mul hV.sz)
     rw[e] at a2
     exact (Sz.le a5 (by omega)).mono (by decide)
    k_extra "rx"
    refine⟨_,rfl,ar,rfl,⟨_,SqL.of Mb⟩,fun Z hZ=>?_⟩
    have zl:=x4.hR.1
    refine aV (K:=K) (a:=ar) (xs:=zs) (fun j acc H5=>ak H4 H5/\H5 Z=some (.lst acc)/\RsU (bS ps) 4300 H5 acc ((m9 cs.length ws.length (bS ps) R).take j)/\V.ref Z∉acc) ⟨ak.new hZ,af,⟨by simp,fun i r h=>by simp at h⟩,by simp⟩ (fun j acc H5 _ ⟨s5,_⟩=>SqL.of (s5 _ _ Mb)) ?_ ?_
    ·rintro j y acc H5 hy ⟨s5,GA,hA,nZ⟩
     have hj:j < cs.length:=by
      have:=(List.getElem?_eq_some_iff.mp hy).1
      omega
     obtain⟨l,_,hl,el,_,_⟩:=(x4.same s5).row hj
     rw[el] at hy
     cases hy
     have tl:(m9 cs.length ws.length (bS ps) R).length=cs.length:=by unfold m9;rw[length_map,length_range]
     have et:(m9 cs.length ws.length (bS ps) R).take (j+1)=(m9 cs.length ws.length (bS ps) R).take j++[(range ws.length).map fun f=>low (R j f) (bS ps)]:=by
      rw[take_succ_eq_append_getElem (by omega)]
      unfold m9
      simp
     have len:=hA.1
     rw[length_take] at len
     rw[et]
     simp only[aD,eC,if_true]
     k_extra "rx"
     refine⟨l,ws.length,R j,bS ps,rfl,hl,w6,hV,fun f hf=>rz j f hj hf,fun F as H6 s6 nF hF N8=>?_⟩
     have l6:=s6 _ _ GA
     have FZ:F≠Z:=fun z=>by rw[z,GA] at nF;cases nF
     refine⟨l6,ay (by omega),bg hZ (s5.trans s6),af,((hA.same s6).put l6 nZ).snoc (by rw[ax FZ];exact hF) (N8.ts (TS.lst l6)) (by rw[length_map,length_range];omega),fun z=>?_⟩
     rcases mem_append.mp z with z | z
     ·exact nZ z
     ·exact FZ (V.ref.inj (mem_singleton.mp z)).symm
    ·rintro acc H5 ⟨s5,GA,hA,nZ⟩
     have tl:(m9 cs.length ws.length (bS ps) R).length=cs.length:=by unfold m9;rw[length_map,length_range]
     rw[zl,List.take_of_length_le (by omega)] at hA
     exact hQ Z acc _ _ H5 (s4.trans s5) (kK s4 hZ) GA hA hV gd
theorem jg(D:aS K mg "_law_over_its_worth" cV f fd)(T:Txt K mg cx)(bA:aq P w K mg base CX0 1 "_law_below" ["_law_one","_law_other"] cN)(kj:aq P w K mg base CX0 5 "_law_load" ["_law_claims_here","_law_parts","_law_heap_here"] jx)(dt:aq P w K mg base CX0 1 "_law_worth" ["_law_worths_here","_law_heap_here"] fE):aq P w K mg base CX0 6 "_law_over_its_worth" ["_law_worths_here","_law_claims_here","_law_parts","_law_heap_here"] cA:=by
 refine D.ok (D.q jd (fun vs H Q E h=>?_) (fun bW A outer s H vs Q E hr h=>?_)) (D.fn.binds fun _ _ _ _ _ _ us hl=>match us,hl with | [_,_,_,_],_=>rfl)
 ·obtain⟨_,_,_,_,_,_,_,_,_,_,_,rfl,_⟩:=h
  rfl
 obtain⟨w,c,p,h,M,ws,xs,cs,ys,ps,j,rfl,sh,hC,hp,Jz,hM,pl,oj,ht,le,hQ⟩:=h
 refine⟨_,(ah (aB (aJ bA (aH (bh (aH (aJ dt (aH (qv 0) (qv 3))) ae)) (aJ kj (oX (qv 1) (qv 2) (qv 3))))))),?_⟩
 have c16:=hC.c16
 have w6:=hC.w6
 have h6:∀ c∈cs,c.hp.length<=6:=fun c hc=>(hC.due c hc).2.2
 k_extra "rx"
 refine⟨w,h,ws,Srt.sub j,rfl,sh.w,ht,sub_len j,vX ws.length w6 j oj,fun H3 s3=>?_⟩
 k_extra "rx"
 refine bK (le_of_ble_eq_true rfl) fun t H4 _ s4 Qj=>?_
 have oC:=s3.trans s4
 have BV:=sh.same oC
 k_extra "rx"
 refine⟨c,p,h,M,3700,xs,cs,ys,ps,Srt.sub j,rfl,BV.c,BV.hC,h6,c16,oC _ _ hp,hM,by decide,Jz.ts (TS.of oC),pl,oC _ _ ht,fun r d H5 s5 hr pd ed=>?_⟩
 rw[CG rfl] at ed
 have wS:Sz (200+6) (aZ ws (Srt.sub j)):=qA hC.wz (sub_len j)
 k_extra "rx"
 refine⟨t,r,_,_,_,_,rfl,s5 _ _ Qj,hr,wS.mono (by decide),by decide,(pd.nsz hM.pos).mono (by decide),(pd.toOk.usz hM).mono (by decide),?_⟩
 have lt:=lt_num hM.pos (BK (U:=M) (w:=aZ ws (Srt.sub j))) pd.toOk
 rw[sQ,ed] at lt
 have e:decide (aZ ws (Srt.sub j)*d.2 < d.1*1)=false:=decide_eq_false fun z=>by
  have:=lt.mp z
  omega
 rw[e]
 exact hQ H5 (oC.trans s5)
theorem mf(D:aS K mg "_law_overdrawn" e_ f fd)(T:Txt K mg cx)(dr:aq P w K mg base CX0 1 "_law_heaps" ["_law_many_here"] fu)(cW:aq P w K mg base CX0 6 "_law_over_its_worth" ["_law_worths_here","_law_claims_here","_law_parts","_law_heap_here"] cA):aq P w K mg base CX0 7 "_law_overdrawn" ["_law_worths_here","_law_claims_here","_law_parts"] eB:=by
 refine D.ok (D.q ib (fun vs H Q E h=>?_) (fun bW A outer s H vs Q E hr h=>?_)) (D.fn.binds fun _ _ _ _ _ _ us hl=>match us,hl with | [_,_,_],_=>rfl)
 ·obtain⟨_,_,_,_,_,_,_,_,_,rfl,_⟩:=h
  rfl
 obtain⟨w,c,p,M,ws,xs,cs,ys,ps,rfl,sh,hC,hp,Jz,hM,pl,room,hQ⟩:=h
 refine⟨_,(ag (bR PassesOwn.never rfl (aM (K:=K) rfl (aJ dr (aF (aA aW (by rfl) T.n_len bQ (aF (qv 0)))))) (au (i:=3) ib.nd rfl (inl rfl)) (ah (bX (cE (aJ cW (ai (qv 0) (ai (qv 1) (ai (qv 2) (ai (qv 3) bq)))))) (ah (aB jz)) be)))
   (ah (aB jz))),?_⟩
 have w6:=hC.w6
 have wl:(ws.map V.int).length=ws.length:=length_map _
 k_extra "rx"
 refine⟨_,rfl,w,_,rfl,aP sh.w,ws.length,by rw[wl],w6,fun E0 es H1 s1 nE hE hO=>?_⟩
 have el:es.length=2 ^ ws.length:=hO.1
 refine⟨E0,rfl,⟨_,SqL.of hE⟩,eW (K:=K) (a:=E0) (xs:=es) (fun j σ H'=>∃ v3,σ=[some (.ref w),some (.ref c),some (.ref p),v3]/\ak H1 H') ⟨_,rfl,fun _ _ h=>h⟩ (fun j σ H' _ ⟨_,_,s⟩=>SqL.of (s _ _ hE)) ?_ ?_⟩
 ·rintro j y σ H2 NN BB hy ⟨v3,rfl,s2⟩ kN kB
  clear kB
  have oj:j < 2 ^ ws.length:=by rw[<- el];exact (List.getElem?_eq_some_iff.mp hy).1
  obtain⟨t,et,ht⟩:=hO.2 j oj
  rw[et] at hy
  cases hy
  have j4:=s1.trans s2
  refine ba ?_
  k_extra "rx"
  refine⟨w,c,p,t,M,ws,xs,cs,ys,ps,j,rfl,sh.same j4,hC,j4 _ _ hp,Jz.ts (TS.of j4),hM,pl,oj,s2 _ _ ht,room j oj,fun H3 s3=>?_⟩
  refine⟨_,rfl,tJ ?_⟩
  refine bZ ?_
  exact kN _ _ ⟨_,rfl,s2.trans s3⟩
 ·rintro σ H2 ⟨v3,rfl,s2⟩
  k_extra "rx"
  exact hQ H2 (s1.trans s2)
theorem HD(D:aS K mg "law" rX f fd)(T:Txt K mg cx)(lT:aq P w K mg base CX0 1 "_law_bag" ["_law_script"] (j6 K cx))(jQ:aq P w K mg base CX0 6 "_law_case" ["_law_bag_here"] jn)(iH:aq P w K mg base CX0 7 "_law_shared" ["_law_worths_here","_law_claims_here"] gM)(eA:aq P w K mg base CX0 6 "_law_good_table" ["_law_worths_here","_law_claims_here","_law_parts","_law_rows"] dP)(fg:aq P w K mg base CX0 7 "_law_overdrawn" ["_law_worths_here","_law_claims_here","_law_parts"] eB)(uE:aq P w K mg base CX0 4 "table" ["worths","claims","parts"] qQ)(iI:aq P w K mg base CX0 6 "_law_papers" ["_law_worths_here","_law_claims_here","_law_parts","_law_place"] gK):mn P w K mg base CX0 8 f fd ["_law_script"] (uw K cx):=by
 refine D.q mW (fun vs H Q E h=>?_) (fun bW A outer s H vs Q E hr h=>?_)
 ·obtain⟨_,_,rfl,_⟩:=h
  rfl
 obtain⟨s0,ns,rfl,hS,hl,hQ⟩:=h
 have Qa:Q (.bl true)=fun _=>True:=by funext H';exact eq_true (hQ H')
 clear hQ
 refine⟨_,(ag (aO 1 mW.nd (aJ lT (aF (qv 0))))
   (ag (nk (aJ jQ (aF (qv 1))) (eK (K:=K) (n:=2) rfl rfl (aY (au (i:=2) mW.nd rfl (inl rfl)) (aY (au (i:=3) mW.nd rfl (inl rfl)) eo))))
   (ag (aO 4 mW.nd (aJ iH (aH (qv 2) (qv 3))))
   (ag (bX (ll (HG ((qv 4))) (jv (cE (aJ fg (oX (qv 2) (qv 3) (qv 4)))))).pt (ah (aB jz)) be)
   (ag (bR PassesOwn.never rfl (bG (by rfl) T.n_range (aF (aA aW (by rfl) T.n_len bQ (aF (qv 3))))) (au (i:=5) mW.nd rfl (inl rfl)) (ah (bX (uI (aK (wY hr.units) (aj (qv 4) (qv 5)) (aj (aj (qv 3) (qv 5)) ae) (aX _)) (oH (aK (Bv hr.units) (aJ iI (ai (qv 2) (ai (qv 3) (ai (qv 4) (ai (qv 5) bq))))) (bJ bq) (aX _)))).pt (ah (aB jz)) be)))
   (ah (aB (aJ eA (ai (qv 2) (ai (qv 3) (ai (qv 4) (ai (aJ uE (oX (cm cg (by rfl) T.n_list dM (aF (qv 2))) (cm cg (by rfl) T.n_list dM (aF (qv 3))) (cm cg (by rfl) T.n_list dM (aF (qv 4))))) bq)))))))))))),?_⟩
 refine⟨_,rfl,s0,ns,rfl,hS,hl,fun B L H1 s1 nB b1=>?_⟩
 clear hl hS s1
 refine⟨_,rfl,B,L,rfl,b1,fun T W C ws xs cs H2 x2 hT=>?_⟩
 refine⟨T,_,rfl,SqT.of hT,rfl,_,_,rfl,_,_,rfl,rfl,?_⟩
 dsimp only
 clear hT b1 nB
 have hC:=x2.fc
 have w0:=x2.w0
 have gd:=x2.gd
 have wz:=x2.wz
 have c16:=hC.c16
 have w6:=hC.w6
 have vH:=x2.sh
 clear x2
 k_extra "rx"
 refine⟨W,C,UM,ws,xs,cs,rfl,vH,hC,w0,fun F ys zs U r H3 s3 nF hF rk hR fi OA=>?_⟩
 have Ga:=vH.same s3
 clear vH s3 nF
 have hxl:=Ga.hC.1
 have fl:=fi.len
 have dU:=fi.dvd
 have uz:Sz 3300 U:=fi.uz.mono (by omega)
 obtain⟨ff,pap⟩:=Ew hC w0 rk fi.up (fun i hi=>(fi.ok i hi).toOk) (fun i hi=>(hC.dp hi).1.toOk.up dU)
 have pf:=fun i hi=>Bs ff hi (pap i hi)
 clear fi rk pap
 generalize bp ws cs zs (cw cs)=fs at hR fl ff pf
 have hU:UOk U:=⟨ff.vp,uz.mono (by decide)⟩
 have fz:∀ i,i < cs.length->dS U 3700 (fs.getD i (0,1)):=fun i hi=>(ff.btw.pt hC dU uz hi).mono (by decide)
 have Jz:bL U 3700 H3 ys fs:=hR.toU fun i hi=>fz i (by omega)
 k_extra "rx"
 rw[yK]
 refine⟨_,rfl,?_⟩
 refine⟨_,rfl,brk (fun z=>nomatch z) (fun _=>?_)⟩
 k_extra "rx"
 refine⟨W,C,F,U,ws,xs,cs,ys,fs,rfl,Ga,hC,hF,Jz,hU,fl,ff.room,fun H4 s4=>?_⟩
 refine⟨_,rfl,tJ ?_⟩
 refine bZ ?_
 have BV:=Ga.same s4
 have Af:=s4 _ _ hF
 have lj:=hR.ts (TS.of s4)
 have KZ:=Jz.ts (TS.of s4)
 clear Ga hF hR Jz s4
 refine⟨_,rfl,C,_,rfl,aP BV.c,_,rfl,by omega,by omega,fo (lo:=0) (n:=((xs.length:Nat):Int).toNat) (fun j σ H'=>∃ v5,σ=[some (.ref s0),some (.ref B),some (.ref W),some (.ref C),some (.ref F),v5]/\ak H4 H') ⟨_,rfl,fun _ _ h=>h⟩ ?_ ?_⟩
 ·rintro i σ H5 NN BB Ld ⟨v5,rfl,s5⟩ kN kB
  clear kB
  have hi:i < cs.length:=by omega
  have jK:i < fs.length:=by omega
  have F_:=BV.same s5
  have uL:=s5 _ _ Af
  have LM:=lj.ts (TS.of s5)
  obtain⟨v,ev,rc,pc,kc,rfl,e1,e2,e3⟩:=F_.hC.2 i cs[i] (getElem?_eq_getElem hi)
  obtain⟨rp,er,hrp⟩:=LM.2 i fs[i] (getElem?_eq_getElem jK)
  have a1:atI xs (i:Int)=some (.ref rc):=aQ ev
  have a2:atI ys (i:Int)=some (.ref rp):=aQ er
  have ep:fs.getD i (0,1)=fs[i]:=by simp[getD_eq_getElem?_getD,jK]
  have ed:aI cs i=(cs[i].n,cs[i].u):=fW hi
  have R7:=F_.c
  refine ba ?_
  rw[zero_add]
  k_extra "rx"
  refine⟨rp,pc,_,_,_,_,rfl,rfl,hrp,e2,?_⟩
  refine⟨_,rfl,E_ (fun h1=>?_) (fun h1=>?_)⟩
  ·have ne:¬ fs.getD i (0,1)=aI cs i:=fun z=>h1 (by rw[ep,ed] at z;rw[z];exact⟨rfl,rfl⟩)
   k_extra "rx"
   refine⟨W,C,F,U,ws,xs,cs,ys,fs,i,rfl,F_,hC,hi,uL,LM,fl,ff.btw,fz,hU,fun G gs H6 s6 hG hP=>?_⟩
   have pe:BC U ws cs fs i≠[]:=by
    rcases pf i hi with z | ⟨j,hj,hb⟩
    ·exact absurd z ne
    ·intro z
     unfold BC at z
     rw[if_neg ne] at z
     have:j∈(range (2 ^ ws.length)).filter (ow U ws cs fs i):=mem_filter.mpr ⟨mem_range.mpr hj,hb⟩
     rw[z] at this
     cases this
   generalize BC U ws cs fs i=js at hP pe
   k_extra "rx"
   refine bK (by decide) fun e0 H7 _ s7 he=>?_
   refine⟨.lst (js.map fun i=>Dt.tup ((Srt.sub i).map Dt.int)),.lst [],kO (s7 _ _ hG) (hP.ts (TS.of s7)).BM,kO he so,fun _ j d e h1 h2=>by simp at h2,?_⟩
   refine⟨_,rfl,brk (fun h2=>?_) (fun h2=>?_)⟩
   ·exfalso
    simp at h2
    exact pe h2
   ·refine bZ ?_
    exact kN _ _ ⟨_,rfl,(s5.trans s6).trans s7⟩
  ·refine bZ ?_
   exact kN _ _ ⟨_,rfl,s5⟩
 ·rintro σ H5 ⟨v5,rfl,s5⟩
  have F_:=BV.same s5
  have uL:=s5 _ _ Af
  have LM:=lj.ts (TS.of s5)
  have Kf:=KZ.ts (TS.of s5)
  clear BV Af lj KZ s5
  k_extra "rx"
  refine⟨W,_,rfl,aP F_.w,fun w' O2=>?_⟩
  have t1:=ak.new (o:=.lst (ws.map V.int)) O2
  have g1:upd H5 w' (.lst (ws.map V.int)) w'=_:=af
  generalize upd H5 w' (.lst (ws.map V.int))=H6 at t1 g1 |-
  k_extra "rx"
  refine⟨C,_,rfl,aP (t1 _ _ F_.c),fun c' Ar=>?_⟩
  have t2:=ak.new (o:=.lst xs) Ar
  have g2:upd H6 c' (.lst xs) c'=_:=af
  generalize upd H6 c' (.lst xs)=H7 at t2 g2 |-
  k_extra "rx"
  refine⟨F,_,rfl,aP ((t1.trans t2) _ _ uL),fun p' PB=>?_⟩
  have t3:=ak.new (o:=.lst ys) PB
  have g3:upd H7 p' (.lst ys) p'=_:=af
  generalize upd H7 p' (.lst ys)=H8 at t3 g3 |-
  have tt:=(t1.trans t2).trans t3
  have Pb:=F_.same tt
  have wN:=tt _ _ uL
  have Ac:=LM.ts (TS.of tt)
  have Ob:=Kf.ts (TS.of tt)
  have k1:=(t2.trans t3) _ _ g1
  have k2:=t3 _ _ g2
  clear F_ uL LM Kf t1 t2 t3 tt g1 g2 O2 Ar PB
  have hb:∀ p,p < cs.length->(aT cs p).length<=6/\∀ x∈aT cs p,0<=x/\x < (ws.length:Int):=fun p hp=>by
   have hm:=getElem_mem hp
   rw[fK hp]
   exact⟨(hC.due _ hm).2.2,(gd _ hm).2.2⟩
  have p0:∀ i,i < cs.length->0<=(fs.getD i (0,1)).1:=fun i hi=>(fN ff.vp (ff.ok i hi)).mpr (ff.nn i hi)
  have od:=fun V (hV:0 < V) ok j hj=>vV ff hV ok j hj
  k_extra "rx"
  refine⟨w',c',p',ws,xs,cs,ys,fs,U,3700,rfl,⟨k1,k2,Pb.hC⟩,g3,hU,Ob,by decide,fl,c16,w6,fun x hx=>⟨w0 x hx,(wz x hx).mono (by decide)⟩,hb,p0,od,fun Z zz aU V H9 s9 nZ hZ P_ hV gt=>?_⟩
  k_extra "rx"
  refine⟨W,C,F,Z,ws,xs,cs,ys,fs,zz,aU,4300,V,rfl,Pb.same s9,s9 _ _ wN,Ac.ts (TS.of s9),fl,hZ,P_,hV,by decide,c16,w6,fun x hx=>(wz x hx).mono (by decide),fun b H10 zX hb=>?_⟩
  rw[hb.mpr gt]
  show Q (.bl true) H10
  rw[Qa]
  trivial
def FnA(K:PySem.W.Frag)(x:Str)(s:Stmt):Prop:=∃ f fd,Fun K x x s f fd/\nsIn K mainGlobals x=some (some (.ref f))
end
theorem FnA.mk{K:PySem.W.Frag}{x:Str}{s:Stmt}{f:Addr}{oc:Value}{od:Option Addr}{kV dc pm:Value}{an:Option Addr}{cd ct:Value}{sl:Array (Option Value)}(a:nsIn K mainGlobals x=some (some (.ref f)))(l:K.lookup f=some ⟨oc,od,.func (fnOf x x (kJ s) (fI s) (ao s) .none kV dc pm an cd ct),sl⟩)(c:codeIn K cd x=true)(k:keepIn K (.ref f)=true):FnA K x s:=⟨f,_,Jx (st:=s) l c k,a⟩
theorem FnA.def{K:PySem.W.Frag}{h:Heap}{mg:Str->Option Value}{x:Str}{s:Stmt}(a:FnA K x s)(X:K.In h)(G:h.Ns mainGlobals mg):∃ f fd,aS K mg x s f fd:=by
 obtain⟨f,fd,u,a⟩:=a
 exact⟨f,fd,u,mg_of X G a⟩
theorem all_mk{l:PySem.W.OpenLaw}{w:World}{K:PySem.W.Frag}{h:Heap}{mg:Str->Option Value}{fa c0:Addr}(X:K.In h)(G:h.Ns mainGlobals mg)(hfa:mg "law" = some (.ref fa))
  (a0:FnA K "common_factor" fP)
  (a1:FnA K "lowest" qc)
  (a2:FnA K "times" uj)
  (a3:FnA K "below" sH)
  (a4:FnA K "one_under" kA)
  (a5:FnA K "numbers_over" gx)
  (a6:FnA K "heaps" um)
  (a7:FnA K "within" qT)
  (a8:FnA K "heap_worth" iV)
  (a9:FnA K "bounds" o6)
  (RC:FnA K "least_fill" i4)
  (SJ:FnA K "rise" wD)
  (Sh:FnA K "filled" qN)
  (Si:FnA K "shared" qo)
  (QH:FnA K "moves_from" i6)
  (Ql:FnA K "shortest_chain" fj)
  (Su:FnA K "most_along" jf)
  (Qp:FnA K "move_along" jb)
  (So:FnA K "pay" BE)
  (QP:FnA K "as_parts" lV)
  (RR:FnA K "table" tS)
  (RD:FnA K "_law_bag" lW)
  (RM:FnA K "_law_pull" jN)
  (Sx:FnA K "_law_gcd" lP)
  (Qn:FnA K "_law_low" ly)
  (Rl:FnA K "_law_plus" kC)
  (Qt:FnA K "_law_over" jZ)
  (RV:FnA K "_law_below" i9)
  (Sq:FnA K "_law_sum" lU)
  (Sr:FnA K "_law_whole" jt)
  (Se:FnA K "_law_pair" jT)
  (Q1:FnA K "_law_pairs" iU)
  (RH:FnA K "_law_heaps" ji)
  (Qc:FnA K "_law_lies" ke)
  (PY:FnA K "_law_worth" je)
  (QQ:FnA K "_law_load" jW)
  (RG:FnA K "_law_many" ko)
  (Q3:FnA K "_law_heap" ky)
  (Q8:FnA K "_law_worths" iJ)
  (Ra:FnA K "_law_due" lE)
  (RZ:FnA K "_law_claims" iB)
  (Rj:FnA K "_law_over_its_worth" cV)
  (PV:FnA K "_law_ceil" j_)
  (RO:FnA K "_law_tabled" iz)
  (SG:FnA K "_law_good_row" fO)
  (P8:FnA K "_law_good_table" eE)
  (QK:FnA K "_law_overdrawn" e_)
  (RE:FnA K "_law_case" jF)
  (RJ:FnA K "_law_shared" ig)
  (Qk:FnA K "_law_fill" jV)
  (Q_:FnA K "_law_ahead" jh)
  (SF:FnA K "_law_papers" ij)
  (Qi:FnA K "law" rX)
  (x0:nsIn K mainGlobals "BadPart" = some (some (.ref c0))) (y0:excIn K c0 vY "ValueError.__new__" = true)
  (z0:nsIn K mainGlobals "sorted" = some none)
  (z1:nsIn K mainGlobals "range" = some none)
  (z2:nsIn K mainGlobals "all" = some none)
  (z3:nsIn K mainGlobals "sum" = some none)
  (z4:nsIn K mainGlobals "len" = some none)
  (z5:nsIn K mainGlobals "enumerate" = some none)
  (z6:nsIn K mainGlobals "any" = some none)
  (z7:nsIn K mainGlobals "list" = some none)
  (z8:nsIn K mainGlobals "set" = some none)
  (z9:nsIn K mainGlobals "zip" = some none)
  (SK:nsIn K mainGlobals "min" = some none)
  (PU:nsIn K mainGlobals "abs" = some none)
  (Qh:nsIn K mainGlobals "isinstance" = some none)
  (Q5:nsIn K mainGlobals "bool" = some none)
  (Qb:nsIn K mainGlobals "int" = some none)
  (Qe:nsIn K mainGlobals "tuple" = some none)
  : ∃ fd:FuncData,(∀(s:Shared)(v:Value),BindsTo s fd ⟨[v],[]⟩ [("_law_script", v)])/\∀ base:Heap,K.In base->base.Ns mainGlobals mg->mn l.prog w K mg base CX0 8 fa fd ["_law_script"] (uw K (fun _=>0)):=by
 obtain⟨_,_,D52⟩:=Qi.def X G
 have e:=hfa.symm.trans D52.mg
 cases e
 obtain⟨oc,od,kV,dc,pm,an,cd,ct,sl,rfl,_,_⟩:=id D52.fn.ex
 have T:Txt K mg (fun x=>if x = "BadPart" then c0 else 0):=⟨mg_none_of X G z0,mg_none_of X G z1,mg_none_of X G z2,mg_none_of X G z3,mg_none_of X G z4,mg_none_of X G z5,mg_none_of X G z6,mg_none_of X G z7,mg_none_of X G z8,mg_none_of X G z9,mg_none_of X G SK,mg_none_of X G PU,mg_none_of X G Qh,mg_none_of X G Q5,mg_none_of X G Qb,mg_none_of X G Qe,⟨by simpa using mg_of X G x0,by simpa using y0⟩⟩
 obtain⟨_,_,D0⟩:=a0.def X G
 obtain⟨_,_,D1⟩:=a1.def X G
 obtain⟨_,_,D2⟩:=a2.def X G
 obtain⟨_,_,D3⟩:=a3.def X G
 obtain⟨_,_,D4⟩:=a4.def X G
 obtain⟨_,_,D5⟩:=a5.def X G
 obtain⟨_,_,D6⟩:=a6.def X G
 obtain⟨_,_,D7⟩:=a7.def X G
 obtain⟨_,_,D8⟩:=a8.def X G
 obtain⟨_,_,D9⟩:=a9.def X G
 obtain⟨_,_,D10⟩:=RC.def X G
 obtain⟨_,_,D11⟩:=SJ.def X G
 obtain⟨_,_,D12⟩:=Sh.def X G
 obtain⟨_,_,D13⟩:=Si.def X G
 obtain⟨_,_,D14⟩:=QH.def X G
 obtain⟨_,_,D15⟩:=Ql.def X G
 obtain⟨_,_,D16⟩:=Su.def X G
 obtain⟨_,_,D17⟩:=Qp.def X G
 obtain⟨_,_,D18⟩:=So.def X G
 obtain⟨_,_,D19⟩:=QP.def X G
 obtain⟨_,_,D20⟩:=RR.def X G
 obtain⟨_,_,D21⟩:=RD.def X G
 obtain⟨_,_,D22⟩:=RM.def X G
 obtain⟨_,_,D23⟩:=Sx.def X G
 obtain⟨_,_,D24⟩:=Qn.def X G
 obtain⟨_,_,D25⟩:=Rl.def X G
 obtain⟨_,_,D26⟩:=Qt.def X G
 obtain⟨_,_,D27⟩:=RV.def X G
 obtain⟨_,_,D28⟩:=Sq.def X G
 obtain⟨_,_,D29⟩:=Sr.def X G
 obtain⟨_,_,D30⟩:=Se.def X G
 obtain⟨_,_,D31⟩:=Q1.def X G
 obtain⟨_,_,D32⟩:=RH.def X G
 obtain⟨_,_,D33⟩:=Qc.def X G
 obtain⟨_,_,D34⟩:=PY.def X G
 obtain⟨_,_,D35⟩:=QQ.def X G
 obtain⟨_,_,D36⟩:=RG.def X G
 obtain⟨_,_,D37⟩:=Q3.def X G
 obtain⟨_,_,D38⟩:=Q8.def X G
 obtain⟨_,_,D39⟩:=Ra.def X G
 obtain⟨_,_,D40⟩:=RZ.def X G
 obtain⟨_,_,D41⟩:=Rj.def X G
 obtain⟨_,_,D42⟩:=PV.def X G
 obtain⟨_,_,D43⟩:=RO.def X G
 obtain⟨_,_,D44⟩:=SG.def X G
 obtain⟨_,_,D45⟩:=P8.def X G
 obtain⟨_,_,D46⟩:=QK.def X G
 obtain⟨_,_,D47⟩:=RE.def X G
 obtain⟨_,_,D48⟩:=RJ.def X G
 obtain⟨_,_,D49⟩:=Qk.def X G
 obtain⟨_,_,D50⟩:=Q_.def X G
 obtain⟨_,_,D51⟩:=SF.def X G
 refine⟨fnOf "law" "law" (kJ rX) (fI rX) (ao rX) .none kV dc pm an cd ct,fun s v=>.of_eq rfl,fun base _ _=>?_⟩
 have lT:=uR (P:=l.prog) (w:=w) (base:=base) D21 T
 have av:=sZ (P:=l.prog) (w:=w) (base:=base) D22 T
 have dW:=tW D36 T av
 have fk:=va (P:=l.prog) (w:=w) (base:=base) D23 T
 have bO:=vB D24 T fk
 have lH:=vC D39 T bO av
 have kE:=tR D37 T av
 have cR:=p7 D40 T av lH kE
 have dY:=uu D25 T bO
 have bo:=vn D28 T dY
 have jY:=uD (P:=l.prog) (w:=w) (base:=base) D42 T
 have iq:=pR D43 T dW cR av bO bo dY jY
 have iE:=qP D38 T av
 have jQ:=sW D47 T dW av iq iE cR
 have bY:=nN (P:=l.prog) (w:=w) (base:=base) D0 T
 have dX:=uB D4 T bY
 have cu:=oE (P:=l.prog) (w:=w) (base:=base) D5 T
 have tK:=Bg (P:=l.prog) (w:=w) (base:=base) D6 T
 have iP:=zj (P:=l.prog) (w:=w) (base:=base) D7 T
 have ju:=rJ (P:=l.prog) (w:=w) (base:=base) D8 T
 have qM:=zG D9 T dX cu tK iP ju
 have d_:=zE D1 T bY
 have sS:=Cf (P:=l.prog) (w:=w) (base:=base) D3 T
 have jq:=rG D10 T d_ sS
 have vW:=FA D11 T qM jq iP
 have sL:=Cc D2 T d_
 have qJ:=zM D12 T vW sL
 have pE:=yT D13 T qJ
 have gj:=q9 (P:=l.prog) (w:=w) (base:=base) D29 T
 have j3:=sI D30 T fk gj
 have dw:=rE D31 T j3
 have bA:=rj (P:=l.prog) (w:=w) (base:=base) D27 T
 have iH:=qS D48 T pE dw bA
 have fQ:=nA D44 T bo
 have eA:=lK D45 T bA bo dw fQ
 have dr:=q_ (P:=l.prog) (w:=w) (base:=base) D32 T
 have c_:=sO (P:=l.prog) (w:=w) (base:=base) D33 T
 have kj:=tL D35 T bo c_
 have dt:=rA (P:=l.prog) (w:=w) (base:=base) D34 T
 have cW:=jg D41 T bA kj dt
 have fg:=mf D46 T dr cW
 have i8:=qY (P:=l.prog) (w:=w) (base:=base) D14 T
 have fb:=mj D15 T i8
 have jw:=rK (P:=l.prog) (w:=w) (base:=base) D17 T
 have jk:=rS (P:=l.prog) (w:=w) (base:=base) D16 T
 have AA:=Il D18 T fb jw jk
 have lI:=uU D19 T d_
 have uE:=Ao D20 T dX cu AA lI
 have jX:=uC D26 T bO
 have gX:=td D49 T jX
 have jo:=rQ D50 T gX bA
 have iI:=qH D51 T jo dr c_ bo dt
 have K1:=HD D52 T lT jQ iH eA fg uE iI
 exact K1
theorem walk{l:PySem.W.OpenLaw}{q:Program}{loose:List Str}{XP:(Str->Option Value)->Heap->Prop}{YP:World->Heap->Prop}{d:DefRec}{K:Params->PySem.W.Frag}(hn:l.most=some 63)(hdf:d.params.defaults=[])
  (hY:∀(w:World)(h:Heap),YP w h->(K w.params).In h)
  (F:∀(w:World)(mg:Str->Option Value)(fa:Addr)(h:Heap),(K w.params).In h->h.Ns mainGlobals mg->mg d.name=some (.ref fa) ->
   ∃ fd:FuncData,(∀(s:Shared)(u:Value),BindsTo s fd ⟨[u],[]⟩ [("_law_script", u)])/\∀ base:Heap,(K w.params).In base->base.Ns mainGlobals mg->mn l.prog w (K w.params) mg base CX0 8 fa fd ["_law_script"] (uw (K w.params) (fun _=>0))) :
  PySem.W.WalkO q loose XP YP l.row.toRowW d [] (fun f vs=>PySem.call f vs) :=
 L2.Dy (n:=63) (k:=8) (x := "_law_script") (CX:=fun _=>CX0) (sp:=fun w=>uw (K w.params) (fun _=>0)) hn (by decide) hdf ⟨rfl,by decide,by decide⟩ hY F (fun _ _ a ns hl _ hS=>⟨a,ns,rfl,hS,hl,fun _=>rfl⟩) fun _ _ _ _ _ z=>z
end Toy
def PySem.W.Fast.tw15154615786971522860:Unit:=()
def PySem.W.Fast.tw14509385085045069962:Unit:=()
def PySem.W.Fast.tw2683604790653503726:Unit:=()
def PySem.W.Fast.tw1480239772281427025:Unit:=()
def PySem.W.Fast.tw10021460067648320975:Unit:=()
def PySem.W.Fast.tw5218779193137063026:Unit:=()
def PySem.W.Fast.tw1436631944685001150:Unit:=()
def PySem.W.Fast.tw14240433454779845162:Unit:=()
def PySem.W.Fast.tw9722252445265059982:Unit:=()
def PySem.W.Fast.tw12761386451251388433:Unit:=()
def PySem.W.Fast.tw3036184183066482363:Unit:=()
def PySem.W.Fast.tw9189695523688579124:Unit:=()
def PySem.W.Fast.tw4571370282477850926:Unit:=()
def PySem.W.Fast.tw14334223500639115060:Unit:=()
def PySem.W.Fast.tw4788170114813978692:Unit:=()
def PySem.W.Fast.tw4935019729807483622:Unit:=()
def PySem.W.Fast.tw6277613108839900917:Unit:=()
def PySem.W.Fast.tw5242624675998937264:Unit:=()
def PySem.W.Fast.tw2218253499994777320:Unit:=()
def PySem.W.Fast.tw7995479919090596170:Unit:=()
def PySem.W.Fast.tw458744003396458515:Unit:=()
def PySem.W.Fast.tw10323289373045401110:Unit:=()
def PySem.W.Fast.tw4785094405966046117:Unit:=()
def PySem.W.Fast.tw3466192271000871728:Unit:=()
def PySem.W.Fast.tw14278853641711842248:Unit:=()
def PySem.W.Fast.tw5715144602413401471:Unit:=()
def PySem.W.Fast.tw748338199017977764:Unit:=()
def PySem.W.Fast.tw15356523294002244967:Unit:=()
def PySem.W.Fast.tw3876171829847166127:Unit:=()
def PySem.W.Fast.tw17699337501047384339:Unit:=()
def PySem.W.Fast.tw9147075075299024309:Unit:=()
def PySem.W.Fast.tw5604940847891711661:Unit:=()
def PySem.W.Fast.tw9165352432247274559:Unit:=()
def PySem.W.Fast.tw5293716082417634804:Unit:=()
def PySem.W.Fast.tw13749538677254426086:Unit:=()
def PySem.W.Fast.tw3531879555327745110:Unit:=()
def PySem.W.Fast.tw4624336891056171176:Unit:=()
def PySem.W.Fast.tw17077153074845702548:Unit:=()
def PySem.W.Fast.tw12272015150482549739:Unit:=()
def PySem.W.Fast.tw13957088486332831278:Unit:=()
def PySem.W.Fast.tw5192028019818485910:Unit:=()
def PySem.W.Fast.tw2530063760188035352:Unit:=()
def PySem.W.Fast.tw8163552900476129492:Unit:=()
def PySem.W.Fast.tw13997148881629797546:Unit:=()
def PySem.W.Fast.tw15177468039180965867:Unit:=()
def PySem.W.Fast.tw8779917380813630183:Unit:=()
def PySem.W.Fast.tw13838909863114374173:Unit:=()
def PySem.W.Fast.tw12669492964250385090:Unit:=()
def PySem.W.Fast.tw10141799647978666340:Unit:=()
def PySem.W.Fast.tw13533886850454757398:Unit:=()
def PySem.W.Fast.tw11784486851542351625:Unit:=()
def PySem.W.Fast.tw16542906794505377434:Unit:=()
def PySem.W.Fast.tw5784211447370083660:Unit:=()
def PySem.W.Fast.tw821924631568494577:Unit:=()
def PySem.W.Fast.tw14325972771202113454:Unit:=()
def PySem.W.Fast.tw6693689604513114031:Unit:=()
def PySem.W.Fast.tw694559805945097020:Unit:=()
def PySem.W.Fast.tw13096463003879223727:Unit:=()
def PySem.W.Fast.tw11317645382134974936:Unit:=()
def PySem.W.Fast.tw5439587305588823506:Unit:=()
def PySem.W.Fast.tw6141012711413431139:Unit:=()
def PySem.W.Fast.tw9595881784679850771:Unit:=()
def PySem.W.Fast.tw12548606642055941789:Unit:=()
def PySem.W.Fast.tw13890249095236701697:Unit:=()
def PySem.W.Fast.tw2744559670148663991:Unit:=()
def PySem.W.Fast.tw12668273080107587482:Unit:=()
def PySem.W.Fast.tw10062918760744492301:Unit:=()
def PySem.W.Fast.tw17291338905471308063:Unit:=()
def PySem.W.Fast.tw3216170790848539239:Unit:=()
def PySem.W.Fast.tw16634125699025444564:Unit:=()
def PySem.W.Fast.tw16272425971214130079:Unit:=()
def PySem.W.Fast.tw3861024847843388532:Unit:=()
def PySem.W.Fast.tw7633566457102268055:Unit:=()
def PySem.W.Fast.tw4471079567708755257:Unit:=()
def PySem.W.Fast.tw7186277979750894004:Unit:=()
def PySem.W.Fast.tw237450659832082178:Unit:=()
def PySem.W.Fast.tw11174550961131513702:Unit:=()
def PySem.W.Fast.tw10510639868313670666:Unit:=()
def PySem.W.Fast.tw2810850925001276979:Unit:=()
def PySem.W.Fast.tw7289773513450412105:Unit:=()
def PySem.W.Fast.tw16559723838894904869:Unit:=()
def PySem.W.Fast.tw12437351579460128577:Unit:=()
def PySem.W.Fast.tw13171709641823303371:Unit:=()
def PySem.W.Fast.tw3716441121485263288:Unit:=()
def PySem.W.Fast.tw13579513055113958574:Unit:=()
def PySem.W.Fast.tw7561536141651486421:Unit:=()
def PySem.W.Fast.tw16813482536598086392:Unit:=()
def PySem.W.Fast.tw9604923229108763347:Unit:=()
def PySem.W.Fast.tw13594437136997213746:Unit:=()
def PySem.W.Fast.tw13428185734238907490:Unit:=()
def PySem.W.Fast.tw16254151741385296269:Unit:=()
def PySem.W.Fast.tw10456568996175379804:Unit:=()
def PySem.W.Fast.tw12933995916762255884:Unit:=()
def PySem.W.Fast.tw14124280349231484982:Unit:=()
def PySem.W.Fast.tw8525688937962408371:Unit:=()
def PySem.W.Fast.tw9308988525790133964:Unit:=()
def PySem.W.Fast.tw4810682185667082810:Unit:=()
def PySem.W.Fast.tw1346748713211517219:Unit:=()
def PySem.W.Fast.tw398578272959314031:Unit:=()
def PySem.W.Fast.tw11041710339915712545:Unit:=()
def PySem.W.Fast.tw9259235575557287046:Unit:=()
def PySem.W.Fast.tw12018559268781123443:Unit:=()
def PySem.W.Fast.tw11501963236836029035:Unit:=()
def PySem.W.Fast.tw3643673326863418040:Unit:=()
def PySem.W.Fast.tw7818206774814812045:Unit:=()
def PySem.W.Fast.tw2671389535631165997:Unit:=()
def PySem.W.Fast.tw14062606303974098448:Unit:=()
def PySem.W.Fast.tw5622758573435390484:Unit:=()
def PySem.W.Fast.tw6947036697403920062:Unit:=()
def PySem.W.Fast.tw956263894591271006:Unit:=()
def PySem.W.Fast.tw9186840537377597176:Unit:=()
def PySem.W.Fast.tw8501162548331843265:Unit:=()
def PySem.W.Fast.tw241969112510431118:Unit:=()
def PySem.W.Fast.tw17726374006736551492:Unit:=()
def PySem.W.Fast.tw7512053860672795482:Unit:=()
def PySem.W.Fast.tw16273247436401081021:Unit:=()
def PySem.W.Fast.tw10735546379492420034:Unit:=()
def PySem.W.Fast.tw12971513594959751173:Unit:=()
def PySem.W.Fast.tw11103469936752508132:Unit:=()
def PySem.W.Fast.tw14213270728594915225:Unit:=()
def PySem.W.Fast.tw3379882902758690406:Unit:=()
def PySem.W.Fast.tw17950641865528782652:Unit:=()
def PySem.W.Fast.tw16082597171631938107:Unit:=()
def PySem.W.Fast.tw5878882193159413704:Unit:=()
def PySem.W.Fast.tw15553200672371775098:Unit:=()
def PySem.W.Fast.tw5544584790749150283:Unit:=()
def PySem.W.Fast.tw9415033980985782198:Unit:=()
def PySem.W.Fast.tw18033923253688051980:Unit:=()
def PySem.W.Fast.tw17834593266267744537:Unit:=()
def PySem.W.Fast.tw6808386201362504414:Unit:=()
def PySem.W.Fast.tw9623195296354412386:Unit:=()
def PySem.W.Fast.tw2937408223261592921:Unit:=()
def PySem.W.Fast.tw6263415291921470372:Unit:=()
def PySem.W.Fast.tw9315458930717921499:Unit:=()
def PySem.W.Fast.tw13590398185867659125:Unit:=()
def PySem.W.Fast.tw15772103690940709764:Unit:=()
def PySem.W.Fast.tw14718043876965984277:Unit:=()
def PySem.W.Fast.tw14858053317212996423:Unit:=()
def PySem.W.Fast.tw15641531291203299924:Unit:=()
def PySem.W.Fast.tw9262550559821995273:Unit:=()
def PySem.W.Fast.tw5553114858349111511:Unit:=()
open PySem PySem.W PyProof.Rows
set_option maxRecDepth 100000 in
set_option maxHeartbeats 0 in
theorem PySem.Challenge.cw_keelbond_k17_whole_shared_is_paid_and_pa_holds : PySem.Challenge.rw_keelbond_k17_whole_shared_is_paid_and_pa.Holds := by
 w_on;o_law;k_head;(case hw=>w_witness2)
 k_fill
 refine Toy.walk (l:=PySem.Challenge.rw_keelbond_k17_whole_shared_is_paid_and_pa) rfl rfl (fun w h Y=>PySem.W.kIn_of Y) ?F
 case F =>
  intro w mg fa h KX G hmg
  refine' Toy.all_mk KX G hmg ?_ ?_ ?_ ?_ ?_ ?_ ?_ ?_ ?_ ?_ ?_ ?_ ?_ ?_ ?_ ?_ ?_ ?_ ?_ ?_ ?_ ?_ ?_ ?_ ?_ ?_ ?_ ?_ ?_ ?_ ?_ ?_ ?_ ?_ ?_ ?_ ?_ ?_ ?_ ?_ ?_ ?_ ?_ ?_ ?_ ?_ ?_ ?_ ?_ ?_ ?_ ?_ ?_ ?_ ?_ ?_ ?_ ?_ ?_ ?_ ?_ ?_ ?_ ?_ ?_ ?_ ?_ ?_ ?_ ?_ ?_
  any_goals first | (refine' Toy.FnA.mk ?aa ?bb ?cc ?dd;(case aa=>k_is);(case bb=>k_is);(case cc=>k_is);(case dd=>k_is)) | k_exc | k_is | decide
