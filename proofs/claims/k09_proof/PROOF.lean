import PyProof.Rows.All
import Wide.All
import OpenK.AllK
import Wide.FinOn
import Lean
import PyProof.EqAt
import PyProof.EqKinds
import PyProof.TupleCall
import PyProof.Rows.SortRuns
import PyProof.Rows.SortShell
import PyProof.ZipIter
import PyProof.TupleIter
import KE.KIntText
import PyProof.Rows.StrNews
import PyProof.StrLawsTight
import KE.KDictOf
import PyProof.StationsW
import PyProof.InstStoreFacts
import PyProof.ExcInit
import PyProof.ExcClass3
import PySem.Challenge.RW_keelbond_k09_whole_table_or_overdrawn
set_option Elab.async false
set_option linter.all false
set_option maxRecDepth 100000
namespace L2
open PySem PySem.Spec PyProof.Rows
abbrev Key:=Sum Int Str
def keyIs:Key→Value→Bool
 | .inl k,v=>Value.isInt k v
 | .inr x,v=>Value.isStrOf x v
def keyH(w:World):Key→Int
 | .inl k=>hashInt k
 | .inr x=>hashStr w x
theorem keyIs_shape:∀{k:Key}{v:Value},keyIs k v=true→(∃ i t,k=Sum.inl i∧v=Value.int i t)∨(∃ x t,k=Sum.inr x∧v=Value.str x t)
 | .inl i,v,h=>by
  obtain⟨t,e⟩:=Value.isInt_shape (k:=i) (v:=v) h
  exact .inl ⟨i,t,rfl,e⟩
 | .inr x,v,h=>by
  obtain⟨t,e⟩:=Value.isStrOf_shape (x:=x) (v:=v) h
  exact .inr ⟨x,t,rfl,e⟩
theorem key_ll(a b:Int):decide ((Sum.inl a:Key)=Sum.inl b)=(a == b):=by
 by_cases e:a=b
 ·subst e;simp
 ·have h:¬ (Sum.inl a:Key)=Sum.inl b:=fun q=>e (Sum.inl.inj q)
  rw[decide_eq_false h]
  exact (beq_eq_false_iff_ne.mpr e).symm
theorem key_rr(a b:Str):decide ((Sum.inr a:Key)=Sum.inr b)=decide (a=b):=by
 by_cases e:a=b
 ·subst e;simp
 ·have h:¬ (Sum.inr a:Key)=Sum.inr b:=fun q=>e (Sum.inr.inj q)
  rw[decide_eq_false h,decide_eq_false e]
theorem key_lr(a:Int)(b:Str):decide ((Sum.inl a:Key)=Sum.inr b)=false:=decide_eq_false (fun q=>nomatch q)
theorem key_rl(a:Str)(b:Int):decide ((Sum.inr a:Key)=Sum.inl b)=false:=decide_eq_false (fun q=>nomatch q)
def mixKind(prog:Program)(w:World):PySem.KeyKind prog w Key where
 is:=keyIs
 hash:=keyH w
 inj:=fun v a b ha hb=>by
  rcases keyIs_shape ha with ⟨i,t,rfl,rfl⟩ | ⟨x,t,rfl,rfl⟩
  ·rcases keyIs_shape hb with ⟨j,u,rfl,e⟩ | ⟨y,u,rfl,e⟩
   ·injection e with e1 _;rw[e1]
   ·exact nomatch e
  ·rcases keyIs_shape hb with ⟨j,u,rfl,e⟩ | ⟨y,u,rfl,e⟩
   ·exact nomatch e
   ·injection e with e1 _;rw[e1]
 byValue:=fun k v h=>by
  rcases keyIs_shape h with ⟨i,t,rfl,rfl⟩ | ⟨x,t,rfl,rfl⟩<;>rfl
 pyHash:=fun hv h=>by
  rcases keyIs_shape hv with ⟨i,t,rfl,rfl⟩ | ⟨x,t,rfl,rfl⟩
  ·exact wpAny_pyHash_int h
  ·exact wpAny_pyHash_str h
 eqBool:=fun hu hv h=>by
  rcases keyIs_shape hu with ⟨i,t,rfl,rfl⟩ | ⟨x,t,rfl,rfl⟩
  ·rcases keyIs_shape hv with ⟨j,u,rfl,rfl⟩ | ⟨y,u,rfl,rfl⟩
   ·rw[key_ll] at h;exact wpAny_eqBool_int h
   ·rw[key_lr] at h;exact SeqAt.EqAt.int_str i t y u _ _ _ _ h
  ·rcases keyIs_shape hv with ⟨j,u,rfl,rfl⟩ | ⟨y,u,rfl,rfl⟩
   ·rw[key_rl] at h;exact SeqAt.EqAt.str_int x t j u _ _ _ _ h
   ·rw[key_rr] at h;exact wpAny_eqBool_str h
 «strs»:=fun k x t v h=>by
  rcases keyIs_shape h with ⟨i,u,rfl,e⟩ | ⟨y,u,rfl,e⟩
  ·exact nomatch e
  ·injection e with e1 _
   subst e1
   cases v<;>rfl
end L2
namespace L2
open PySem PySem.Spec PyProof.Rows
inductive V where
 | non | bl (b:Bool) | int (i:Int) | str (x:Str) | byt (b:Array UInt8) | flt (b:UInt64) | ref (a:Addr) | ty (n:String)
 deriving DecidableEq
def RelV:V→Value→Prop
 | .non,u=>u=Value.none
 | .bl b,u=>u=Value.bool b
 | .int i,u=>∃ t,u=Value.int i t
 | .str x,u=>∃ t,u=Value.str x t
 | .byt b,u=>∃ t,u=Value.bytes b t
 | .flt b,u=>∃ t,u=Value.float b t
 | .ref a,u=>u=Value.ref a
 | .ty n,u=>u=Value.type n
abbrev Vals:List V→List Value→Prop:=Paired RelV
theorem Vals.length{xs:List V}{us:List Value}(r:Vals xs us):xs.length=us.length:=Paired.length r
theorem Vals.get:∀{xs:List V}{us:List Value}{i:Nat}{x:V},Vals xs us→xs[i]?=some x→∃ u,us[i]?=some u∧RelV x u
 | _,_,_,_,.nil,e=>by simp at e
 | _,_,0,_,.cons r _,e=>by simp at e;subst e;exact⟨_,rfl,r⟩
 | _,_,i+1,x,.cons _ t,e=>by
  obtain⟨u,h1,h2⟩:=Vals.get (i:=i) (x:=x) t (by simpa using e)
  exact⟨u,by simpa using h1,h2⟩
theorem Vals.set{x:V}{u:Value}(r:RelV x u):∀{xs:List V}{us:List Value}(i:Nat),Vals xs us→Vals (xs.set i x) (us.set i u)
 | _,_,_,.nil=>.nil
 | _,_,0,.cons _ t=>.cons r t
 | _,_,i+1,.cons q t=>.cons q (Vals.set r i t)
theorem Vals.append:∀{xs ys:List V}{us ws:List Value},Vals xs us→Vals ys ws→Vals (xs++ys) (us++ws)
 | _,_,_,_,.nil,s=>s
 | _,_,_,_,.cons r t,s=>.cons r (Vals.append t s)
theorem Vals.take:∀{xs:List V}{us:List Value}(n:Nat),Vals xs us→Vals (xs.take n) (us.take n)
 | _,_,0,_=>.nil
 | _,_,_+1,.nil=>.nil
 | _,_,n+1,.cons r t=>.cons r (Vals.take n t)
theorem Vals.drop:∀{xs:List V}{us:List Value}(n:Nat),Vals xs us→Vals (xs.drop n) (us.drop n)
 | _,_,0,r=>r
 | _,_,_+1,.nil=>.nil
 | _,_,n+1,.cons _ t=>Vals.drop n t
def RelO:Option V→Option Value→Prop
 | some v,some u=>RelV v u
 | none,none=>True
 | _,_=>False
def KV{κ:Type}:List (κ×V)→List (κ×Value)→Prop:=Paired fun (p:κ×V) (q:κ×Value)=>p.1=q.1∧RelV p.2 q.2
def kV:Key→V
 | .inl i=>.int i
 | .inr x=>.str x
inductive HO where
 | lst (xs:List V)
 | tup (xs:List V)
 | dK (kvs:List (Key×V)) | dT (kvs:List (List Key×V))
 | set (S:Int→Bool) (n:Nat)
 | ins (C dx:Addr) (fs:List (Str×V))
 | own (x:Addr)
 | xd (fs:List (Str×V))
 | met (f x:Addr)
 | rng (lo hi:Int)
 | frz (o:Obj) (u:HO)
 | tbl (ps:Array Value)
 | ext (φ:Heap→Prop)
abbrev Hp:=Addr→Option HO
def upd(H:Hp)(a:Addr)(o:HO):Hp:=fun b=>if b=a then some o else H b
theorem upd_same{H:Hp}{a:Addr}{o:HO}:upd H a o a=some o:=by unfold upd;rw[if_pos rfl]
theorem upd_ne{H:Hp}{a b:Addr}{o:HO}(h:b≠a):upd H a o b=H b:=by unfold upd;rw[if_neg h]
theorem upd_upd{H:Hp}{a:Addr}{o u:HO}:upd (upd H a o) a u=upd H a u:=by
 funext b;unfold upd;split<;>rfl
theorem ne_of{H:Hp}{a b:Addr}{o u:HO}(h:H a=some o)(h':H b=some u)(d:o≠u):a≠b:=by
 intro e;subst e;rw[h] at h';exact d (Option.some.inj h')
theorem ne_of_none{H:Hp}{a b:Addr}{o:HO}(h:H a=some o)(h':H b=none):a≠b:=by
 intro e;subst e;rw[h] at h';cases h'
section
variable (P:Program)(w:World)
def ObjOk(H:Hp)(h:Heap)(a:Addr):HO→Prop
 | .lst xs=>xs.length≤sizeLine∧∃(its:List Value)(n:Nat),Vals xs its∧h.get? a=some { cls:=.type "list", data:=.seq its.toArray n }
 | .tup xs=>xs.length≤sizeLine∧∃ its:List Value,Vals xs its∧IsTup h a its.toArray
 | .dK kvs=>kvs.length≤sizeLine∧(a == sysModules)=false∧∃ vs,KV kvs vs∧h.DictOf (mixKind P w) a vs
 | .dT kvs=>kvs.length≤sizeLine∧(a == sysModules)=false∧∃ xs:List (List Key×Addr×Value),
   Paired (fun (p:List Key×V) (q:List Key×Addr×Value)=>p.1=q.1∧H q.2.1=some (.tup (p.1.map kV))∧RelV p.2 q.2.2) kvs xs ∧
   ∃ o es ep,h.get? a=some o∧o.ExactDict∧o.data=.dict es ep∧es.toList=xs.map (entryOfKey (tupleKind (mixKind P w)))∧(xs.map (·.1)).Nodup
 | .set S n=>h.SetOf (intKind P w) a S n
 | .ins C dx fs=>H dx=some (.own a)∧fs.length≤1000∧dx≠a∧h.get? a=some (PySem.W.instObj C dx) ∧
   ∃ mA,h.Ns1 dx mA∧(∀ f,RelO (fs.lookup f) (mA f))∧PySem.Within mA (fs.map (·.1))
 | .own _=>∃ o,h.get? a=some o
 | .xd fs=>∃ mA,h.Ns1 a mA∧∀ f,RelO (fs.lookup f) (mA f)
 | .rng lo hi=>∃ t u v,h.get? a=some { cls:=.type "range", data:=.fields #[.int lo t,.int hi u,.int 1 v] }
 | .frz o u=>h.get? a=some o∧ObjOk H h a u
 | .tbl ps=>h.get? a=some { cls:=.none,data:=.fields ps }
 | .met f x=>h.get? a=some (PySem.W.methodObj (.ref f) (.ref x))
 | .ext φ=>φ h∧(∃ o,h.get? a=some o)∧∀ h1 h2:Heap,φ h1→(∀ o,h1.get? a=some o→h2.get? a=some o)→φ h2
def HOk(H:Hp)(h:Heap):Prop:=∀ a o,H a=some o→ObjOk P w H h a o
end
section
variable {P:Program}{w:World}{H H':Hp}{h h':Heap}{a:Addr}{o:HO}
theorem ObjOk.lt(x:ObjOk P w H h a o):a < h.objs.size:=by
 cases o with
 | lst xs=>obtain⟨_,_,_,_,e⟩:=x;exact Heap.lt_size e
 | tup xs=>obtain⟨_,_,_,p⟩:=x;exact p.lt
 | dK kvs=>obtain⟨_,_,_,_,o,_,_,e,_⟩:=x;exact Heap.lt_size e
 | dT kvs=>obtain⟨_,_,_,_,o,_,_,e,_⟩:=x;exact Heap.lt_size e
 | set S n=>obtain⟨o,_,_,_,e,_⟩:=x;exact Heap.lt_size e
 | ins C dx fs=>obtain⟨_,_,_,e,_⟩:=x;exact Heap.lt_size e
 | own y=>obtain⟨_,e⟩:=x;exact Heap.lt_size e
 | xd fs=>obtain⟨_,⟨_,_,_,e,_⟩,_⟩:=x;exact Heap.lt_size e
 | rng lo hi=>obtain⟨_,_,_,e⟩:=x;exact Heap.lt_size e
 | frz ob u=>obtain⟨e,_⟩:=x;exact Heap.lt_size e
 | tbl ps=>exact Heap.lt_size (show h.get? a=some _ from x)
 | met f y=>exact Heap.lt_size (show h.get? a=some _ from x)
 | ext φ=>obtain⟨_,⟨_,e⟩,_⟩:=x;exact Heap.lt_size e
theorem Paired.mapP{α β:Type}{F G:α→β→Prop}:∀{l₁:List α}{l₂:List β},Paired F l₁ l₂→(∀ a b,F a b→G a b)→Paired G l₁ l₂
 | _,_,.nil,_=>.nil
 | _,_,.cons r t,f=>.cons (f _ _ r) (Paired.mapP t f)
theorem ObjOk.stay(x:ObjOk P w H h a o)(k:∀ b u,(b=a∨H b=some (.own a))→h.get? b=some u→h'.get? b=some u)
  (ho:∀ b,H b=some (.own a)→H' b=some (.own a)) (ht:∀ b xs,H b=some (.tup xs)→H' b=some (.tup xs)):ObjOk P w H' h' a o:=by
 induction o with
 | lst xs=>obtain⟨z,its,n,r,e⟩:=x;exact⟨z,its,n,r,k _ _ (.inl rfl) e⟩
 | tup xs=>obtain⟨z,its,r,ob,e,c⟩:=x;exact⟨z,its,r,ob,k _ _ (.inl rfl) e,c⟩
 | dK kvs=>obtain⟨z,y,vs,r,ob,es,ep,e,c⟩:=x;exact⟨z,y,vs,r,ob,es,ep,k _ _ (.inl rfl) e,c⟩
 | dT kvs =>
  obtain⟨z,y,xs,r,ob,es,ep,e,c⟩:=x
  exact⟨z,y,xs,Paired.mapP r fun p q z=>⟨z.1,ht _ _ z.2.1,z.2.2⟩,ob,es,ep,k _ _ (.inl rfl) e,c⟩
 | set S n=>obtain⟨ob,es,ep,t,e,c⟩:=x;exact⟨ob,es,ep,t,k _ _ (.inl rfl) e,c⟩
 | ins C dx fs =>
  obtain⟨d,z,ne,e,mA,⟨od,es,ep,e2,c⟩,r⟩:=x
  exact⟨ho _ d,z,ne,k _ _ (.inl rfl) e,mA,⟨od,es,ep,k _ _ (.inr d) e2,c⟩,r⟩
 | own y=>obtain⟨ob,e⟩:=x;exact⟨ob,k _ _ (.inl rfl) e⟩
 | xd fs=>obtain⟨mA,⟨od,es,ep,e,c⟩,r⟩:=x;exact⟨mA,⟨od,es,ep,k _ _ (.inl rfl) e,c⟩,r⟩
 | rng lo hi=>obtain⟨t,u,v,e⟩:=x;exact⟨t,u,v,k _ _ (.inl rfl) e⟩
 | frz ob u ih=>obtain⟨e,q⟩:=x;exact⟨k _ _ (.inl rfl) e,ih q⟩
 | tbl ps =>
  have e:h.get? a=some { cls:=.none,data:=.fields ps }:=x
  show h'.get? a=some { cls:=.none,data:=.fields ps }
  exact k a _ (.inl rfl) e
 | met f y =>
  have e:h.get? a=some (PySem.W.methodObj (.ref f) (.ref y)):=x
  show h'.get? a=some (PySem.W.methodObj (.ref f) (.ref y))
  exact k a _ (.inl rfl) e
 | ext φ=>obtain⟨p,⟨o,e⟩,st⟩:=x;exact⟨st _ _ p fun o q=>k _ _ (.inl rfl) q,⟨o,k _ _ (.inl rfl) e⟩,st⟩
theorem HOk.lt(x:HOk P w H h)(e:H a=some o):a < h.objs.size:=(x a o e).lt
theorem HOk.fresh(x:HOk P w H h)(e:h.objs.size≤a):H a=none:=by
 cases q:H a with
 | none=>rfl
 | some u=>exact absurd (Nat.lt_of_lt_of_le (x.lt q) e) (Nat.lt_irrefl _)
theorem HOk.kept(x:HOk P w H h)(k:∀ b u,h.get? b=some u→h'.get? b=some u):HOk P w H h':=fun a o e =>
 (x a o e).stay (fun b u _ q=>k b u q) (fun _ q=>q) fun _ _ q=>q
theorem HOk.laid(x:HOk P w H h)(k:∀ b u,h.get? b=some u→h'.get? b=some u)(hp:h.objs.size≤a)(new:ObjOk P w (upd H a o) h' a o):HOk P w (upd H a o) h':=fun b u e=>by
 have hn:=x.fresh hp
 by_cases hb:b=a
 ·subst hb;rw[upd_same] at e;cases e;exact new
 ·rw[upd_ne hb] at e
  exact (x b u e).stay (fun c v _ q=>k c v q) (fun c q=>by rw[upd_ne (ne_of_none q hn)];exact q) fun c xs q=>by rw[upd_ne (ne_of_none q hn)];exact q
end
def Rd(H:Hp)(a:Addr)(u:HO):Prop:=H a=some u∨∃ o,H a=some (.frz o u)
theorem Rd.ok{P:Program}{w:World}{H:Hp}{h:Heap}{a:Addr}{u:HO}(r:Rd H a u)(x:HOk P w H h):ObjOk P w H h a u:=by
 rcases r with r | ⟨o,r⟩
 ·exact x a u r
 ·obtain⟨_,q⟩:=x a _ r
  exact q
def Mut:Option HO→Prop
 | some (.lst _)=>True
 | some (.dK _)=>True
 | some (.dT _)=>True
 | some (.set _ _)=>True
 | some (.ins _ _ _)=>True
 | some (.ext _)=>True
 | _=>False
section
variable {P:Program}{w:World}{H:Hp}{h h':Heap}{x e:Addr}{o':HO}
theorem HOk.write(ok:HOk P w H h)(mu:Mut (H x))(he:e=x∨H e=some (.own x))(k:∀ b u,b≠e→h.get? b=some u→h'.get? b=some u)(heo:∃ u,h'.get? e=some u)
  (new:ObjOk P w (upd H x o') h' x o'):HOk P w (upd H x o') h':=fun b u q=>by
 have nown:∀ c y,H c=some (.own y)→c≠x:=fun c y r z=>by subst z;rw[r] at mu;exact mu
 have ntup:∀ c xs,H c=some (.tup xs)→c≠x:=fun c xs r z=>by subst z;rw[r] at mu;exact mu
 by_cases hb:b=x
 ·subst hb;rw[upd_same] at q;cases q;exact new
 ·rw[upd_ne hb] at q
  by_cases hbe:b=e
  ·have q':H b=some (.own x):=by
    rcases he with z | z
    ·exact absurd (hbe.trans z) hb
    ·rw[hbe];exact z
   rw[q] at q';cases q'
   obtain⟨v,hv⟩:=heo
   exact⟨v,by rw[hbe];exact hv⟩
  ·refine (ok b u q).stay (fun c v hc r=>k c v ?_ r) (fun c r=>by rw[upd_ne (nown c b r)];exact r) fun c xs r=>by rw[upd_ne (ntup c xs r)];exact r
   rcases hc with rfl | hc
   ·exact hbe
   ·rintro rfl
    rcases he with z | z
    ·exact nown c b hc z
    ·rw[hc] at z;cases z;exact hb rfl
end
structure Un(fs ex:List Addr)(H H':Hp)(h h':Heap):Prop where
 keep:∀ b o,h.get? b=some o→H b=none→b∉fs→b∉ex→h'.get? b=some o
 slot:∀ b o,h.get? b=some o→H b=none→b∈fs→b∉ex→∃ sl,h'.get? b=some { o with slots:=sl }
 free:∀ b o,h.get? b=some o→H b=none→b∉ex→H' b=none
 there:∀ b o,h.get? b=some o→b∉ex→∃ o',h'.get? b=some o'
 tups:∀ b xs,H b=some (.tup xs)→H' b=some (.tup xs)
 frzs:∀ b o u,H b=some (.frz o u)→H' b=some (.frz o u)
 tbls:∀ b ps,H b=some (.tbl ps)→∃ more,H' b=some (.tbl (ps++more))
section
variable {fs fs' ex ex':List Addr}{H H1 H2:Hp}{h h1 h2 h':Heap}{a x e:Addr}{o:HO}
theorem Un.any(u:Un fs ex H H1 h h1){b:Addr}{ob:Obj}(q:h.get? b=some ob)(n:H b=none)(hx:b∉ex):∃ sl,h1.get? b=some { ob with slots:=sl }:=by
 by_cases hb:b∈fs
 ·exact u.slot b ob q n hb hx
 ·exact⟨ob.slots,u.keep b ob q n hb hx⟩
theorem Un.kept(k:∀ b u,h.get? b=some u→h'.get? b=some u):Un fs ex H H h h' :=
 ⟨fun b ob q _ _ _=>k b ob q,fun b ob q _ _ _=>⟨ob.slots,k b ob q⟩,fun _ _ _ n _=>n,fun b ob q _=>⟨ob,k b ob q⟩,fun _ _ q=>q,fun _ _ _ q=>q,fun _ ps q=>⟨#[],by rw[q];simp⟩⟩
theorem Un.refl:Un fs ex H H h h:=Un.kept fun _ _ q=>q
theorem Un.laid(k:∀ b u,h.get? b=some u→h'.get? b=some u)(hp:h.objs.size≤a)(hn:H a=none):Un fs ex H (upd H a o) h h' where
 keep:=fun b u q _ _ _=>k b u q
 slot:=fun b u q _ _ _=>⟨u.slots,k b u q⟩
 free:=fun b u q n _=>by rw[upd_ne (Nat.ne_of_lt (Nat.lt_of_lt_of_le (Heap.lt_size q) hp))];exact n
 there:=fun b u q _=>⟨u,k b u q⟩
 tups:=fun b xs q=>by rw[upd_ne (ne_of_none q hn)];exact q
 frzs:=fun b u xs q=>by rw[upd_ne (ne_of_none q hn)];exact q
 tbls:=fun b ps q=>⟨#[],by rw[upd_ne (ne_of_none q hn),q];simp⟩
theorem Un.write(mu:Mut (H x))(he:e=x∨H e=some (.own x))(k:∀ b u,b≠e→h.get? b=some u→h'.get? b=some u)(heo:∃ u,h'.get? e=some u):Un fs ex H (upd H x o) h h':=by
 have hx:∀ b,H b=none→b≠x:=fun b n z=>by subst z;rw[n] at mu;exact mu
 have hb:∀ b,H b=none→b≠e:=fun b n z=>by
  subst z
  rcases he with r | r
  ·exact hx b n r
  ·rw[n] at r;cases r
 have hm:∀ b u,H b=some u→¬ Mut (some u)→b≠x:=fun b u q nm z=>by subst z;rw[q] at mu;exact nm mu
 refine⟨fun b u q n _ _=>k b u (hb b n) q,fun b u q n _ _=>⟨u.slots,k b u (hb b n) q⟩,fun b u q n _=>by rw[upd_ne (hx b n)];exact n,fun b u q _=>?_,
  fun b xs q=>by rw[upd_ne (hm b _ q fun z=>z)];exact q,fun b u xs q=>by rw[upd_ne (hm b _ q fun z=>z)];exact q,fun b ps q=>⟨#[],by rw[upd_ne (hm b _ q fun z=>z),q];simp⟩⟩
 by_cases hbe:b=e
 ·subst hbe;exact heo
 ·exact⟨u,k b u hbe q⟩
end
def trk(h:Heap)(H:Hp):List Addr:=(List.range h.objs.size).filter fun a=>(H a).isSome
def hidT(h:Heap)(H:Hp):Heap:=PySem.W.hideAll h (trk h H)
theorem hidT_size(h:Heap)(H:Hp):(hidT h H).objs.size=h.objs.size:=PySem.W.hideAll_size _ _
theorem hidT_get{h:Heap}{H:Hp}{b:Addr}{o:Obj}(e:h.get? b=some o)(n:H b=none):(hidT h H).get? b=some o :=
 PySem.W.hideAll_get _ e fun hm=>by
  have q:(H b).isSome=true:=(List.mem_filter.mp hm).2
  rw[n] at q;simp at q
theorem of_hidT{h:Heap}{H:Hp}{b:Addr}{o:Obj}(e:(hidT h H).get? b=some o):h.get? b=some o∧H b=none:=by
 have e':h.get? b=some o:=PySem.W.of_hideAll (trk h H) e
 refine⟨e',?_⟩
 cases q:H b with
 | none=>rfl
 | some x =>
  have hm:b∈trk h H:=List.mem_filter.mpr ⟨List.mem_range.mpr (Heap.lt_size e'),by simp[q]⟩
  have z:(hidT h H).get? b=none:=PySem.W.hideAll_none (trk h H) hm
  rw[z] at e;cases e
def allNews(g h:Heap)(L:Addr):List (Addr×Obj):=(List.range h.objs.size).filterMap fun a=>if a=L∨(g.get? a).isSome=true then none else (h.get? a).map fun o=>(a,o)
def rest(g h:Heap)(L d:Addr):List (Addr×Obj):=(allNews g h L).filter fun p=>decide (p.1≠d)
end L2
namespace L2
open PySem PySem.Spec PyProof.Rows
structure Mod(K:PySem.W.Frag)(mg:Str→Option Value)(base:Heap):Prop where
 kin:K.In base
 glob:base.Ns mainGlobals mg
 blt:∃ mb,base.Ns builtinsNs mb∧∀ x:Str,x ≠ "__name__" → mb x=bootBuiltins x
 nolimit:base.NoLimit
structure Cx where
 prog:Program
 w:World
 K:PySem.W.Frag
 mg:Str→Option Value
 base:Heap
 A:Around
 N:List Str
 s₀:Shared
 H₀:Hp
 env:Env
 outer:List Env
 stack:List Env
 ex:List Addr
 fn:Str→Bool
 calm:Bool
 pn:List (Addr×Obj)
 xe:Value→Shared→Prop
def frs(l:List Env):List Addr:=l.filterMap (·.frame)
abbrev Cx.fs(X:Cx):List Addr:=frs X.outer
def Vis(sc:Scope)(x:Str):Prop:=sc.names.lookup x=some .local∨sc.names.lookup x=some .cell∨sc.names.lookup x=some .free
def Loc(sc:Scope)(x:Str):Prop:=sc.names.lookup x=some .local∨sc.names.lookup x=some .cell
def Look(env:Env)(h:Heap)(m:Str→Option Value)(x:Str)(u:Value):Prop :=
 (env.kindOf x=some .local∧m x=some u)∨((env.kindOf x=some .cell∨env.kindOf x=some .free)∧∃ c,env.cells.lookup x=some c∧h.IsCell c (some u))
structure Cx.Ok(X:Cx):Prop where
 mod:Mod X.K X.mg X.base
 kind:X.env.scope.kind=.function
 glob:X.env.globals=mainGlobals
 blt:X.env.builtins=builtinsNs
 above:X.s₀.heap.objs.size≤X.env.locals
 inj:∀ x y c,X.env.cells.lookup x=some c→X.env.cells.lookup y=some c→x=y
 has:∀ x,(X.env.kindOf x=some .cell∨X.env.kindOf x=some .free)→∃ c,X.env.cells.lookup x=some c
 cab:∀ x c,X.fn x=true→X.env.cells.lookup x=some c→X.s₀.heap.objs.size≤c
 hd:X.calm=true→X.A.handled=none
 frames:X.A.frames=some X.stack
 stk:X.stack=X.outer∨(X.stack=X.env::X.outer∧X.env.frame=some X.env.locals)
 exf:∀ b∈X.ex,b≠X.env.locals∧∀ x c,X.env.cells.lookup x=some c→c≠b
 bs:∀ b o,X.base.get? b=some o→X.s₀.heap.get? b=some o∧X.H₀ b=none
 bsz:X.base.objs.size≤X.s₀.heap.objs.size
 noex:∀ b o,X.base.get? b=some o→b∉X.ex
 exfs:∀ b∈X.ex,b∉X.fs
 funs:X.s₀.heap.FunFrames X.base X.outer
 frf:∀ b∈X.fs,X.H₀ b=none
structure Inv(X:Cx)(pins:List (Addr×Obj))(σ:List (Option V))(H:Hp)(s:Shared):Prop where
 ok:X.Ok
 os:s.os=X.s₀.os
 bare:AllBare s.gens
 base:Un X.fs X.ex X.H₀ H X.s₀.heap s.heap
 loc:∃ m,s.heap.Ns X.env.locals m∧∀(i:Nat)(x:Str)(v:V),X.N[i]?=some x→σ[i]?=some (some v)→Vis X.env.scope x→∃ u,RelV v u∧Look X.env s.heap m x u
 cell:∀ x c,X.env.cells.lookup x=some c→∃ v,s.heap.IsCell c v
 free:H X.env.locals=none
 freeC:∀ x c,X.env.cells.lookup x=some c→H c=none
 pin:∀ p∈X.pn++pins,s.heap.get? p.1=some p.2∧H p.1=none∧p.1≠X.env.locals∧p.1∉X.fs∧∀ v,p.2.data≠.cell v
 hok:HOk X.prog X.w H s.heap
 len:σ.length=X.N.length
section
variable {X:Cx}{pins:List (Addr×Obj)}{σ:List (Option V)}{H H':Hp}{s:Shared}{h':Heap}
theorem Cx.Ok.nofr(ok:X.Ok){b:Addr}{o:Obj}(e:X.base.get? b=some o):b∉X.fs:=fun hb=>by
 have:=(ok.funs.mem hb).1
 rw[e] at this;cases this
theorem Inv.bs(I:Inv X pins σ H s):∀ b o,X.base.get? b=some o→s.heap.get? b=some o∧H b=none:=fun b o e =>
 ⟨I.base.keep b o (I.ok.bs b o e).1 (I.ok.bs b o e).2 (I.ok.nofr e) (I.ok.noex b o e),I.base.free b o (I.ok.bs b o e).1 (I.ok.bs b o e).2 (I.ok.noex b o e)⟩
theorem Inv.bk(I:Inv X pins σ H s):∀ b o,X.base.get? b=some o→s.heap.get? b=some o:=fun b o e=>(I.bs b o e).1
theorem Inv.mod(I:Inv X pins σ H s):Mod X.K X.mg X.base:=I.ok.mod
theorem Inv.kIn(I:Inv X pins σ H s):X.K.In s.heap:=I.ok.mod.kin.keeps I.bk
theorem Inv.lt(I:Inv X pins σ H s):X.env.locals < s.heap.objs.size:=let ⟨_,hn,_⟩:=I.loc;hn.lt
theorem Inv.sz(I:Inv X pins σ H s):X.s₀.heap.objs.size≤s.heap.objs.size:=Nat.le_trans I.ok.above (Nat.le_of_lt I.lt)
theorem Inv.nofs(I:Inv X pins σ H s){a:Addr}(h:s.heap.objs.size≤a):a∉X.fs:=fun hb=>by
 obtain⟨_,o,ho,_⟩:=I.ok.funs.mem hb
 exact absurd (Nat.lt_of_lt_of_le (Heap.lt_size ho) (Nat.le_trans I.sz h)) (Nat.lt_irrefl _)
theorem Inv.cne(I:Inv X pins σ H s):∀ x c,X.env.cells.lookup x=some c→c≠X.env.locals:=fun x c e z=>by
 obtain⟨v,o,ho,hd⟩:=I.cell x c e
 obtain⟨m,⟨o',es,ep,ho',hd',_⟩,_⟩:=I.loc
 rw[z,ho'] at ho;cases ho;rw[hd'] at hd;cases hd
theorem Inv.funs(I:Inv X pins σ H s):s.heap.FunFrames X.base X.outer:=by
 have all:∀(l:List Env),(∀ b∈frs l,b∈X.fs)→X.s₀.heap.FunFrames X.base l→s.heap.FunFrames X.base l:=by
  intro l
  induction l with
  | nil=>intro _ _;trivial
  | cons env r ih =>
   intro hs hl
   obtain⟨hk,⟨L,o,hf,hn,ho,hd⟩,hr⟩:=hl
   have hL:L∈X.fs:=hs L (by unfold frs;rw[List.filterMap_cons,hf];exact List.mem_cons_self)
   obtain⟨sl,e⟩:=I.base.slot L o ho (I.ok.frf L hL) hL fun z=>I.ok.exfs L z hL
   exact⟨hk,⟨L,_,hf,hn,e,hd⟩,ih (fun b hb=>hs b (by unfold frs;rw[List.filterMap_cons,hf];exact List.mem_cons_of_mem _ hb)) hr⟩
 exact all X.outer (fun _ hb=>hb) I.ok.funs
theorem Inv.stack(I:Inv X pins σ H s):s.heap.FunFrames X.base X.stack:=by
 rcases I.ok.stk with e | ⟨e,hf⟩
 ·rw[e];exact I.funs
 ·rw[e]
  obtain⟨m,hn,_⟩:=I.loc
  refine .cons (by rw[I.ok.kind];decide) hf hn ?_ I.funs
  exact Heap.get?_none_of_le (Nat.le_trans I.ok.bsz I.ok.above)
theorem Inv.stkSub(I:Inv X pins σ H s):∀ b∈frs X.stack,b∈X.env.locals::X.fs:=fun b hb=>by
 rcases I.ok.stk with e | ⟨e,hf⟩
 ·rw[e] at hb;exact List.mem_cons_of_mem _ hb
 ·rw[e] at hb
  unfold frs at hb
  rw[List.filterMap_cons,hf] at hb
  exact hb
theorem Inv.stkFree(I:Inv X pins σ H s):∀ b∈frs X.stack,H b=none:=fun b hb=>by
 rcases List.mem_cons.mp (I.stkSub b hb) with e | hb
 ·rw[e];exact I.free
 ·obtain⟨_,o,ho,_⟩:=I.ok.funs.mem hb
  exact I.base.free b o ho (I.ok.frf b hb) fun z=>I.ok.exfs b z hb
theorem Inv.step{g':Array GenState}{t':Nat}{d':Drawn}{ch:List Addr}(I:Inv X pins σ H s)
  (hch:∀ b∈ch,(b∈X.ex∨X.s₀.heap.objs.size≤b)∧b≠X.env.locals∧(∀ x c,X.env.cells.lookup x=some c→c≠b)∧∀ p∈X.pn++pins,p.1≠b)
  (keep:∀ b o,b≠X.env.locals→b∉X.fs→b∉ch→s.heap.get? b=some o→H b=none→h'.get? b=some o)
  (slot:∀ b o,b≠X.env.locals→b∈X.fs→b∉ch→s.heap.get? b=some o→H b=none→∃ sl,h'.get? b=some { o with slots:=sl }) (free:∀ b o,b∉ch→s.heap.get? b=some o→H b=none→H' b=none)
  (there:∀ b o,b∉ch→s.heap.get? b=some o→∃ o',h'.get? b=some o')
  (tups:∀ b xs,H b=some (.tup xs)→H' b=some (.tup xs)) (frzs:∀ b o u,H b=some (.frz o u)→H' b=some (.frz o u)) (tbls:∀ b ps,H b=some (.tbl ps)→∃ more,H' b=some (.tbl (ps++more)))
  (ns:∀ m,s.heap.Ns X.env.locals m→h'.Ns X.env.locals m) (hok:HOk X.prog X.w H' h') (hg:AllBare g') :
  Inv X pins σ H' { s with heap:=h',gens:=g',drawn:=d',toks:=t' }:=by
 have neL:∀ b o,X.s₀.heap.get? b=some o→b≠X.env.locals:=fun b o e=>Nat.ne_of_lt (Nat.lt_of_lt_of_le (Heap.lt_size e) I.ok.above)
 have neC:∀ b o,X.s₀.heap.get? b=some o→b∉X.ex→b∉ch:=fun b o e hx hb=>by
  rcases (hch b hb).1 with z | z
  ·exact hx z
  ·exact absurd (Nat.lt_of_lt_of_le (Heap.lt_size e) z) (Nat.lt_irrefl _)
 have cellK:∀ x c,X.env.cells.lookup x=some c→∀ v,s.heap.IsCell c v→h'.IsCell c v:=fun x c e v ⟨o,ho,hd⟩=>by
  have nch:c∉ch:=fun z=>(hch c z).2.2.1 x c e rfl
  by_cases hc:c∈X.fs
  ·obtain⟨sl,q⟩:=slot c o (I.cne x c e) hc nch ho (I.freeC x c e)
   exact⟨_,q,hd⟩
  ·exact⟨o,keep c o (I.cne x c e) hc nch ho (I.freeC x c e),hd⟩
 refine⟨I.ok,I.os,hg,⟨fun b o e n hb hx=>?_,fun b o e n hb hx=>?_,fun b o e n hx=>?_,fun b o e hx=>?_,fun b xs e=>tups b xs (I.base.tups b xs e),fun b o xs e=>frzs b o xs (I.base.frzs b o xs e),fun b ps e=>?_⟩,?_,fun x c e=>?_,?_,fun x c e=>?_,fun p hp=>?_,hok,I.len⟩
 ·exact keep b o (neL b o e) hb (neC b o e hx) (I.base.keep b o e n hb hx) (I.base.free b o e n hx)
 ·obtain⟨sl,e1⟩:=I.base.slot b o e n hb hx
  obtain⟨sl',e2⟩:=slot b _ (neL b o e) hb (neC b o e hx) e1 (I.base.free b o e n hx)
  exact⟨sl',e2⟩
 ·obtain⟨o',e1⟩:=I.base.there b o e hx
  exact free b o' (neC b o e hx) e1 (I.base.free b o e n hx)
 ·obtain⟨o',e1⟩:=I.base.there b o e hx
  exact there b o' (neC b o e hx) e1
 ·obtain⟨m1,e1⟩:=I.base.tbls b ps e
  obtain⟨m2,e2⟩:=tbls b _ e1
  exact⟨m1++m2,by rw[e2,Array.append_assoc]⟩
 ·obtain⟨m,hn,hl⟩:=I.loc
  refine⟨m,ns m hn,fun i x v e1 e2 e3=>?_⟩
  obtain⟨u,r,l⟩:=hl i x v e1 e2 e3
  refine⟨u,r,?_⟩
  rcases l with l | ⟨k,c,e,z⟩
  ·exact .inl l
  ·exact .inr ⟨k,c,e,cellK x c e _ z⟩
 ·obtain⟨v,z⟩:=I.cell x c e
  exact⟨v,cellK x c e v z⟩
 ·obtain⟨m,⟨o,_,_,ho,_⟩,_⟩:=I.loc
  exact free _ o (fun z=>(hch _ z).2.1 rfl) ho I.free
 ·obtain⟨v,o,ho,hd⟩:=I.cell x c e
  exact free c o (fun z=>(hch c z).2.2.1 x c e rfl) ho (I.freeC x c e)
 ·obtain⟨e,n,ne,nf,d⟩:=I.pin p hp
  have nch:p.1∉ch:=fun z=>(hch p.1 z).2.2.2 p hp rfl
  exact⟨keep p.1 p.2 ne nf nch e n,free p.1 p.2 nch e n,ne,nf,d⟩
theorem Inv.un{t':Nat}(I:Inv X pins σ H s)(u:Un X.fs [] H H' s.heap h')(hok:HOk X.prog X.w H' h'):Inv X pins σ H' { s with heap:=h',toks:=t' }:=by
 obtain⟨m,⟨o,es,ep,ho,r⟩,_⟩:=id I.loc
 obtain⟨sl,hL⟩:=u.any ho I.free (by simp)
 exact I.step (g':=s.gens) (d':=s.drawn) (ch:=[]) (fun _ z=>nomatch z) (fun b o _ hb _ e n=>u.keep b o e n hb (by simp)) (fun b o _ hb _ e n=>u.slot b o e n hb (by simp)) (fun b o _ e n=>u.free b o e n (by simp)) (fun b o _ e=>u.there b o e (by simp)) u.tups u.frzs u.tbls (fun m' hm=>by
  obtain⟨o',es',ep',ho',r'⟩:=hm
  rw[ho] at ho';cases ho'
  exact⟨_,es',ep',hL,r'⟩) hok I.bare
theorem Inv.call{g':Array GenState}{t':Nat}{d':Drawn}{ch:List Addr}(I:Inv X pins σ H s)(u:Un (frs X.stack) ch H H' s.heap h')(hok:HOk X.prog X.w H' h')(hg:AllBare g')
  (hch:∀ b∈ch,(b∈X.ex∨X.s₀.heap.objs.size≤b)∧b≠X.env.locals∧(∀ x c,X.env.cells.lookup x=some c→c≠b)∧∀ p∈X.pn++pins,p.1≠b) :
  Inv X pins σ H' { s with heap:=h',gens:=g',drawn:=d',toks:=t' }:=by
 obtain⟨m,⟨o,es,ep,ho,r⟩,_⟩:=id I.loc
 obtain⟨sl,hL⟩:=u.any ho I.free fun z=>(hch _ z).2.1 rfl
 exact I.step (ch:=ch) hch (fun b o hL hb hc e n=>u.keep b o e n (fun z=>(List.mem_cons.mp (I.stkSub b z)).elim hL hb) hc) (fun b o _ _ hc e n=>u.any e n hc) (fun b o hc e n=>u.free b o e n hc) (fun b o hc e=>u.there b o e hc) u.tups u.frzs u.tbls (fun m' hm=>by
  obtain⟨o',es',ep',ho',r'⟩:=hm
  rw[ho] at ho';cases ho'
  exact⟨_,es',ep',hL,r'⟩) hok hg
theorem Inv.turned{t':Nat}{it:Addr}(I:Inv X pins σ H s)(k:∀ b o,b≠it→s.heap.get? b=some o→h'.get? b=some o)(hn:H it=none)(hL:it≠X.env.locals)
  (h1:it∈X.ex∨X.s₀.heap.objs.size≤it) (h2:∀ x c,X.env.cells.lookup x=some c→c≠it) (h3:∀ p∈X.pn++pins,p.1≠it):Inv X pins σ H { s with heap:=h',toks:=t' }:=by
 have nit:∀ b u,H b=some u→b≠it:=fun b u e z=>by rw[z,hn] at e;cases e
 refine I.step (g':=s.gens) (d':=s.drawn) (ch:=[it]) (fun b hb=>?_) (fun b o _ _ hc e _=>k b o (fun z=>hc (by simp[z])) e) (fun b o _ _ hc e _=>⟨o.slots,k b o (fun z=>hc (by simp[z])) e⟩) (fun _ _ _ _ n=>n)
  (fun b o hc e=>⟨o,k b o (fun z=>hc (by simp[z])) e⟩) (fun _ _ e=>e) (fun _ _ _ e=>e) (fun b ps e=>⟨#[],by rw[e];simp⟩) (fun m hm=>?_) (fun b u e=>?_) I.bare
 ·have e:b=it:=by simpa using hb
  subst e
  exact⟨h1,hL,h2,h3⟩
 ·obtain⟨o,es,ep,ho,r⟩:=hm
  exact⟨o,es,ep,k _ o (Ne.symm hL) ho,r⟩
 ·refine (I.hok b u e).stay (fun c v hc q=>k c v ?_ q) (fun _ q=>q) fun _ _ q=>q
  rcases hc with z | z
  ·rw[z];exact nit b u e
  ·exact nit c _ z
theorem Inv.tok(I:Inv X pins σ H s)(t:Nat):Inv X pins σ H { s with toks:=t }:=I.un (h':=s.heap) (t':=t) Un.refl I.hok
theorem Inv.kept{t':Nat}(I:Inv X pins σ H s)(k:∀ b u,s.heap.get? b=some u→h'.get? b=some u):Inv X pins σ H { s with heap:=h',toks:=t' }:=I.un (Un.kept k) (I.hok.kept k)
theorem Inv.laid{a:Addr}{o:HO}{t':Nat}(I:Inv X pins σ H s)(k:∀ b u,s.heap.get? b=some u→h'.get? b=some u)(hp:s.heap.objs.size≤a)(new:ObjOk X.prog X.w (upd H a o) h' a o) :
  Inv X pins σ (upd H a o) { s with heap:=h',toks:=t' }:=I.un (Un.laid k hp (I.hok.fresh hp)) (I.hok.laid k hp new)
theorem Inv.write{x e:Addr}{o:HO}{t':Nat}(I:Inv X pins σ H s)(mu:Mut (H x))(he:e=x∨H e=some (.own x))(k:∀ b u,b≠e→s.heap.get? b=some u→h'.get? b=some u)(heo:∃ u,h'.get? e=some u)
  (new:ObjOk X.prog X.w (upd H x o) h' x o):Inv X pins σ (upd H x o) { s with heap:=h',toks:=t' }:=I.un (Un.write mu he k heo) (I.hok.write mu he k heo new)
theorem Inv.weak{σ':List (Option V)}(I:Inv X pins σ H s)(hl:σ'.length=σ.length)(w:∀(i:Nat) v,σ'[i]?=some (some v)→σ[i]?=some (some v)):Inv X pins σ' H s :=
 ⟨I.ok,I.os,I.bare,I.base,let ⟨m,hn,hl'⟩:=I.loc;⟨m,hn,fun i x v e1 e2 e3=>hl' i x v e1 (w i v e2) e3⟩,I.cell,I.free,I.freeC,I.pin,I.hok,hl.trans I.len⟩
theorem Inv.pins_of{pins':List (Addr×Obj)}(I:Inv X pins σ H s)(h:∀ p∈pins',s.heap.get? p.1=some p.2∧H p.1=none∧p.1≠X.env.locals∧p.1∉X.fs∧∀ v,p.2.data≠.cell v):Inv X pins' σ H s :=
 ⟨I.ok,I.os,I.bare,I.base,I.loc,I.cell,I.free,I.freeC,fun p hp=>(List.mem_append.mp hp).elim (fun z=>I.pin p (List.mem_append_left _ z)) (h p),I.hok,I.len⟩
theorem nodup_ix{N:List Str}(hN:N.Nodup){i j:Nat}{x:Str}(a:N[i]?=some x)(b:N[j]?=some x):i=j:=by
 obtain⟨h1,e1⟩:=List.getElem?_eq_some_iff.mp a
 obtain⟨h2,e2⟩:=List.getElem?_eq_some_iff.mp b
 exact (List.getElem_inj hN).mp (e1.trans e2.symm)
theorem store_ok2{M:Model}{A:Around}{E:Value→Shared→Prop}{i:Nat}{x:Str}{v:V}{u:Value}{Q:Unit→Shared→Prop}(I:Inv X pins σ H s)(hN:X.N.Nodup)(hi:X.N[i]?=some x)(hx:Loc X.env.scope x)(r:RelV v u)
  (h:∀ s',Inv X pins (σ.set i (some v)) H s'→(∃ a,Heap.SameBut a s.heap s'.heap∧(a=X.env.locals∨X.env.cells.lookup x=some a))→Q () s') (hf:X.fn x=true∨X.env.scope.names.lookup x=some .local:=by first | exact .inl rfl | exact .inr rfl | assumption):wpAny M A (storeName X.env x u) Q E s:=by
 obtain⟨m,hn,hl⟩:=id I.loc
 have hcls:(X.env.scope.kind == .class || (X.env.scope.kind == .module && X.env.locals != X.env.globals))=false:=by rw[I.ok.kind];rfl
 have hiσ:i < σ.length:=by rw[I.len];exact (List.getElem?_eq_some_iff.mp hi).1
 have cne:=I.cne
 have tracked:∀{a:Addr}{h':Heap},(∃ o,s.heap.get? a=some o∧H a=none)→Heap.SameBut a s.heap h'→HOk X.prog X.w H h':=fun {a h'} ha hs b ob e=>by
  obtain⟨_,_,hfree⟩:=ha
  refine (I.hok b ob e).stay (fun c w' hc q=>(hs.2 c ?_).trans q) (fun _ q=>q) fun _ _ q=>q
  rintro rfl
  rcases hc with rfl | hc
  ·rw[hfree] at e;cases e
  ·rw[hfree] at hc;cases hc
 rcases hx with hk | hk
 ·refine wpAny_storeName_local hk hn (fun h' hn' hs=>?_) hcls
  obtain⟨oL,_,_,hoL,_⟩:=id hn
  refine h _ ⟨I.ok,I.os,I.bare,⟨fun b o e n hb hx=>?_,fun b o e n hb hx=>?_,I.base.free,fun b o e hx=>?_,I.base.tups,I.base.frzs,I.base.tbls⟩,⟨_,hn',fun j y v' e1 e2 e3=>?_⟩,fun y c e=>?_,I.free,I.freeC,fun p hp=>?_,tracked ⟨oL,hoL,I.free⟩ hs,by simpa using I.len⟩ ⟨_,hs,.inl rfl⟩
  ·exact (hs.2 b (Nat.ne_of_lt (Nat.lt_of_lt_of_le (Heap.lt_size e) I.ok.above))).trans (I.base.keep b o e n hb hx)
  ·obtain⟨sl,e1⟩:=I.base.slot b o e n hb hx
   exact⟨sl,(hs.2 b (Nat.ne_of_lt (Nat.lt_of_lt_of_le (Heap.lt_size e) I.ok.above))).trans e1⟩
  ·obtain⟨o',e1⟩:=I.base.there b o e hx
   exact⟨o',(hs.2 b (Nat.ne_of_lt (Nat.lt_of_lt_of_le (Heap.lt_size e) I.ok.above))).trans e1⟩
  ·by_cases hj:j=i
   ·subst hj
    rw[hi] at e1;cases e1
    rw[List.getElem?_set_self hiσ] at e2
    cases e2
    exact⟨u,r,.inl ⟨hk,by simp⟩⟩
   ·rw[List.getElem?_set_ne (Ne.symm hj)] at e2
    obtain⟨u',r',q⟩:=hl j y v' e1 e2 e3
    refine⟨u',r',?_⟩
    rcases q with ⟨k,e⟩ | ⟨k,c,e,z⟩
    ·refine .inl ⟨k,?_⟩
     have:y≠x:=fun e=>hj (nodup_ix hN e1 (e▸hi))
     simp[this,e]
    ·exact .inr ⟨k,c,e,z.sameBut hs (cne y c e)⟩
  ·obtain⟨w',z⟩:=I.cell y c e
   exact⟨w',z.sameBut hs (cne y c e)⟩
  ·obtain⟨e,n,ne,nf,d⟩:=I.pin p hp
   exact⟨(hs.2 p.1 ne).trans e,n,ne,nf,d⟩
 ·have hfn:X.fn x=true:=by
   rcases hf with z | z
   ·exact z
   ·rw[z] at hk;cases hk
  obtain⟨c,hc⟩:=I.ok.has x (.inl hk)
  obtain⟨w',z⟩:=I.cell x c hc
  refine wpAny_storeName_cell I.ok.kind hk hc z (fun h' hc' hs=>?_)
  obtain⟨oc,hoc,hocd⟩:=id z
  refine h { s with heap:=h' } ⟨I.ok,I.os,I.bare,⟨fun b o e n hb hx=>?_,fun b o e n hb hx=>?_,I.base.free,fun b o e hx=>?_,I.base.tups,I.base.frzs,I.base.tbls⟩,⟨m,hn.sameBut hs (Ne.symm (cne x c hc)),fun j y v' e1 e2 e3=>?_⟩,fun y c' e=>?_,I.free,I.freeC,fun p hp=>?_,tracked ⟨oc,hoc,I.freeC x c hc⟩ hs,by simpa using I.len⟩ ⟨c,hs,.inr hc⟩
  ·exact (hs.2 b (Nat.ne_of_lt (Nat.lt_of_lt_of_le (Heap.lt_size e) (I.ok.cab x c hfn hc)))).trans (I.base.keep b o e n hb hx)
  ·obtain⟨sl,e1⟩:=I.base.slot b o e n hb hx
   exact⟨sl,(hs.2 b (Nat.ne_of_lt (Nat.lt_of_lt_of_le (Heap.lt_size e) (I.ok.cab x c hfn hc)))).trans e1⟩
  ·obtain⟨o',e1⟩:=I.base.there b o e hx
   exact⟨o',(hs.2 b (Nat.ne_of_lt (Nat.lt_of_lt_of_le (Heap.lt_size e) (I.ok.cab x c hfn hc)))).trans e1⟩
  ·by_cases hj:j=i
   ·subst hj
    rw[hi] at e1;cases e1
    rw[List.getElem?_set_self hiσ] at e2
    cases e2
    exact⟨u,r,.inr ⟨.inl hk,c,hc,hc'⟩⟩
   ·rw[List.getElem?_set_ne (Ne.symm hj)] at e2
    obtain⟨u',r',q⟩:=hl j y v' e1 e2 e3
    refine⟨u',r',?_⟩
    rcases q with q | ⟨k,c',e,z'⟩
    ·exact .inl q
    ·refine .inr ⟨k,c',e,z'.sameBut hs ?_⟩
     rintro rfl
     exact hj (nodup_ix hN e1 (I.ok.inj _ _ _ e hc▸hi))
  ·by_cases hcc:c'=c
   ·subst hcc;exact⟨_,hc'⟩
   ·obtain⟨w2,z2⟩:=I.cell y c' e
    exact⟨w2,z2.sameBut hs hcc⟩
  ·obtain⟨e,n,ne,nf,d⟩:=I.pin p hp
   refine⟨(hs.2 p.1 ?_).trans e,n,ne,nf,d⟩
   intro q
   rw[q,hoc] at e
   have q':oc=p.2:=Option.some.inj e
   exact d w' (by rw[← q'];exact hocd)
theorem store_ok{M:Model}{A:Around}{E:Value→Shared→Prop}{i:Nat}{x:Str}{v:V}{u:Value}{Q:Unit→Shared→Prop}(I:Inv X pins σ H s)(hN:X.N.Nodup)(hi:X.N[i]?=some x)(hx:Loc X.env.scope x)(r:RelV v u)
  (h:∀ s',Inv X pins (σ.set i (some v)) H s'→Q () s') (hf:X.fn x=true∨X.env.scope.names.lookup x=some .local:=by first | exact .inl rfl | exact .inr rfl | assumption):wpAny M A (storeName X.env x u) Q E s :=
 store_ok2 I hN hi hx r (fun s' I' _=>h s' I') hf
theorem Inv.call'{s':Shared}{ch:List Addr}(I:Inv X pins σ H s)(ho:s'.os=s.os)(u:Un (frs X.stack) ch H H' s.heap s'.heap)(hok:HOk X.prog X.w H' s'.heap)(hg:AllBare s'.gens)
  (hch:∀ b∈ch,(b∈X.ex∨X.s₀.heap.objs.size≤b)∧b≠X.env.locals∧(∀ x c,X.env.cells.lookup x=some c→c≠b)∧∀ p∈X.pn++pins,p.1≠b):Inv X pins σ H' s':=by
 obtain⟨h',g',d',t',o'⟩:=s'
 have e:o'=s.os:=ho
 subst e
 exact I.call (g':=g') (t':=t') (d':=d') u hok hg hch
end
abbrev XK:=Value→Option Addr→Hp→Prop
abbrev St:=List (Option V)
abbrev VK:=V→Hp→Prop
abbrev TE:=St→Hp→VK→Prop
abbrev TT:=St→Hp→(Bool→Hp→Prop)→Prop
abbrev TA:=St→Hp→(List V→Hp→Prop)→Prop
structure Ends where
 nx:St→Hp→Prop
 rt:VK
 bk:St→Hp→Prop:=fun _ _=>False
 ct:St→Hp→Prop:=fun _ _=>False
abbrev TS:=Ends→St→Hp→Prop
def EP(X:Cx)(pins:List (Addr×Obj))(σ:St)(Q:VK)(u:Value)(s':Shared):Prop:=∃ v H',Inv X pins σ H' s'∧RelV v u∧Q v H'
def TP(X:Cx)(pins:List (Addr×Obj))(σ:St)(Q:Bool→Hp→Prop)(b:Bool)(s':Shared):Prop:=∃ H',Inv X pins σ H' s'∧Q b H'
def AP(X:Cx)(pins:List (Addr×Obj))(σ:St)(Q:List V→Hp→Prop)(us:List Value)(s':Shared):Prop:=∃ vs H',Inv X pins σ H' s'∧Vals vs us∧Q vs H'
def SP(X:Cx)(pins:List (Addr×Obj))(D:Ends)(f:Flow)(s':Shared):Prop :=
 match f with
 | .next=>∃ σ' H',Inv X pins σ' H' s'∧D.nx σ' H'
 | .brk=>∃ σ' H',Inv X pins σ' H' s'∧D.bk σ' H'
 | .cont=>∃ σ' H',Inv X pins σ' H' s'∧D.ct σ' H'
 | .ret u=>∃ v σ' H',Inv X pins σ' H' s'∧RelV v u∧D.rt v H'
def PE(X:Cx)(e:Expr)(t:TE):Prop :=
 ∀ (pins:List (Addr×Obj)) (s:Shared) (σ:St) (H:Hp) (Q:VK),Inv X pins σ H s→t σ H Q→wpAny (model X.prog X.w) X.A (eval e X.env) (EP X pins σ Q) X.xe s
def PT(X:Cx)(e:Expr)(t:TT):Prop :=
 ∀ (pins:List (Addr×Obj)) (s:Shared) (σ:St) (H:Hp) (Q:Bool→Hp→Prop),Inv X pins σ H s→t σ H Q→wpAny (model X.prog X.w) X.A (isTrue e X.env (eval e X.env)) (TP X pins σ Q) X.xe s
def PW(X:Cx)(e:Expr)(t:TT):Prop :=
 ∀(whole:Sem Value) (pins:List (Addr×Obj)) (s:Shared) (σ:St) (H:Hp) (Q:Bool→Hp→Prop),Inv X pins σ H s→t σ H Q→wpAny (model X.prog X.w) X.A (isTrue e X.env whole) (TP X pins σ Q) X.xe s
theorem PW.pt{X:Cx}{e:Expr}{t:TT}(h:PW X e t):PT X e t:=h _
def PA(X:Cx)(es:List Expr)(t:TA):Prop :=
 ∀(pos:Pos) (pins:List (Addr×Obj)) (s:Shared) (σ:St) (H:Hp) (Q:List V→Hp→Prop),Inv X pins σ H s→t σ H Q→wpAny (model X.prog X.w) X.A (spliced (backTo pos (starEach es X.env))) (AP X pins σ Q) X.xe s
def PS(X:Cx)(st:Stmt)(t:TS):Prop :=
 ∀ (pins:List (Addr×Obj)) (s:Shared) (σ:St) (H:Hp) (D:Ends),Inv X pins σ H s→t D σ H→wpAny (model X.prog X.w) X.A (exec st X.env) (SP X pins D) X.xe s
def PSs(X:Cx)(st:List Stmt)(t:TS):Prop :=
 ∀ (pins:List (Addr×Obj)) (s:Shared) (σ:St) (H:Hp) (D:Ends),Inv X pins σ H s→t D σ H→wpAny (model X.prog X.w) X.A (execs st X.env) (SP X pins D) X.xe s
theorem thn{α:Type}{t:Sem α}{Q Q':α→Shared→Prop}{M:Model}{A:Around}{E:Value→Shared→Prop}{s:Shared}(h:wpAny M A t Q E s)(hQ:∀ a s,Q a s→Q' a s):wpAny M A t Q' E s:=wpAny_mono h hQ fun _ _ x=>x
end L2
namespace L2
open PySem PySem.Spec PyProof.Rows
section
variable {X:Cx}
def tVar(i:Nat):TE:=fun σ H Q=>∃ v,σ[i]?=some (some v)∧Q v H
def tC(v:V):TE:=fun _ H Q=>Q v H
theorem pe_var{i:Nat}{x:Str}{pos:Pos}(hN:X.N[i]?=some x)(hv:Vis X.env.scope x)(hd:(x == ("__debug__" : Str))=false:=by decide)(hcd:(x == ("__classdict__" : Str))=false:=by decide):PE X (.Name x pos) (tVar i):=by
 intro pins s σ H Q I h
 obtain⟨v,e,h⟩:=h
 obtain⟨m,hn,hl⟩:=I.loc
 obtain⟨u,r,l⟩:=hl i x v hN e hv
 have fin:EP X pins σ Q u s:=⟨v,H,I,r,h⟩
 rcases l with ⟨hk,hm⟩ | ⟨hk,c,hc,hcell⟩
 ·exact wpAny_Name (wpAny_loadName_local I.ok.kind hk hn hm fin) hd
 ·rcases hk with hk | hk
  ·exact wpAny_Name (wpAny_loadName_cell I.ok.kind hk hc hcell fin) hd
  ·exact wpAny_Name (wpAny_loadName_free I.ok.kind hk hc hcell fin hcd) hd
theorem pe_int{i j pos}:PE X (.Constant (.int i) j pos) (tC (.int i)):=fun _ _ _ H _ I h=>wpAny_Constant_int ⟨.int i,H,I.tok _,⟨_,rfl⟩,h⟩
theorem pe_bl{b j pos}:PE X (.Constant (.bool b) j pos) (tC (.bl b)):=fun _ _ _ H _ I h=>Constant_bool ⟨.bl b,H,I,rfl,h⟩
theorem pe_non{j pos}:PE X (.Constant .none j pos) (tC .non):=fun _ _ _ H _ I h=>Constant_none ⟨.non,H,I,rfl,h⟩
theorem pe_str{x j pos}:PE X (.Constant (.str x) j pos) (tC (.str x)):=fun _ _ _ H _ I h=>Calls.Constant_str ⟨.str x,H,I.tok _,⟨_,rfl⟩,h⟩
def Gl(X:Cx)(x:Str):Prop:=X.env.kindOf x=some .globalImplicit
theorem ld_glob{E:Value→Shared→Prop}{pins:List (Addr×Obj)}{s:Shared}{σ:St}{H:Hp}{x:Str}{u:Value}{pos:Pos}{Q:Value→Shared→Prop}(I:Inv X pins σ H s)(hg:Gl X x)(hm:X.mg x=some u)(h:Q u s)
  (hd:(x == ("__debug__" : Str))=false:=by decide):wpAny (model X.prog X.w) X.A (eval (.Name x pos) X.env) Q E s :=
 Calls.Name_function_global I.ok.kind hg (Calls.loadGlobal_global (by rw[I.ok.glob];exact I.mod.glob.keeps I.bk) hm h) hd
theorem ld_blt{E:Value→Shared→Prop}{pins:List (Addr×Obj)}{s:Shared}{σ:St}{H:Hp}{x:Str}{u:Value}{pos:Pos}{Q:Value→Shared→Prop}(I:Inv X pins σ H s)(hg:Gl X x)(hm:X.mg x=none)(hv:bootBuiltins x=some u)(h:Q u s)
  (hn:x ≠ "__name__" := by decide) (hd:(x == ("__debug__" : Str))=false:=by decide):wpAny (model X.prog X.w) X.A (eval (.Name x pos) X.env) Q E s:=by
 obtain⟨mb,h1,h2⟩:=I.mod.blt
 exact Calls.Name_function_global I.ok.kind hg (Calls.loadGlobal_builtin (by rw[I.ok.glob];exact I.mod.glob.keeps I.bk) hm (by rw[I.ok.blt];exact h1.keeps I.bk) ((h2 x hn).trans hv) h) hd
theorem pe_bltn{x:Str}{v:V}{u:Value}{pos:Pos}(hg:Gl X x)(hm:X.mg x=none)(hv:bootBuiltins x=some u)(r:RelV v u)(hn:x ≠ "__name__" := by decide)(hd:(x == ("__debug__" : Str))=false:=by decide):PE X (.Name x pos) (tC v) :=
 fun _ _ _ H _ I h=>ld_blt I hg hm hv ⟨v,H,I,r,h⟩ hn hd
variable {a b:Expr}{ta tb:TE}{pos:Pos}
def PC(X:Cx)(op:CmpOp)(a b:Expr)(t:TE):Prop :=
 ∀ (pins:List (Addr×Obj)) (s:Shared) (σ:St) (H:Hp) (Q:VK),Inv X pins σ H s→t σ H Q →
  wpAny (model X.prog X.w) X.A (eval a X.env) (fun v s₁=>wpAny (model X.prog X.w) X.A (eval b X.env) (fun u s₂=>wpAny (model X.prog X.w) X.A (compareOp op v u) (EP X pins σ Q) X.xe s₂) X.xe s₁) X.xe s
theorem nobehind(b:Expr){op:CmpOp}(h:op≠.In)(h2:op≠.NotIn):behindInMarks op b=false:=by
 have e1:(op == CmpOp.In)=false:=by cases op<;>first | rfl | exact absurd rfl h
 have e2:(op == CmpOp.NotIn)=false:=by cases op<;>first | rfl | exact absurd rfl h2
 cases b<;>simp[behindInMarks,e1,e2]
def tIsN(ta:TE):TE:=fun σ H Q=>ta σ H fun x H1=>Q (.bl (decide (x=.non))) H1
def tNotN(ta:TE):TE:=fun σ H Q=>ta σ H fun x H1=>Q (.bl (!decide (x=.non))) H1
theorem RelV.none_iff{x:V}{v:Value}(r:RelV x v):(v == Value.none)=decide (x=.non):=by
 cases x with
 | non=>cases r;rfl
 | bl _=>cases r;rfl
 | int _=>obtain⟨t,rfl⟩:=r;rfl
 | str _=>obtain⟨t,rfl⟩:=r;rfl
 | byt _=>obtain⟨t,rfl⟩:=r;rfl
 | flt _=>obtain⟨t,rfl⟩:=r;rfl
 | ref _=>cases r;rfl
 | ty _=>cases r;rfl
theorem pc_isN{j pos'}(ha:PE X a ta):PC X .Is a (.Constant .none j pos') (tIsN ta):=by
 intro pins s σ H Q I h
 refine thn (ha pins s σ H _ I h) fun v s1 ⟨x,H1,I1,r1,q1⟩=>?_
 exact Constant_none (is_none_gen ⟨.bl _,H1,I1,by rw[r1.none_iff];rfl,q1⟩)
def tB(t:TE):TT:=fun σ H Q=>t σ H fun x H1=>∃ c,x=.bl c∧Q c H1
theorem pe_cmp{op:CmpOp}{t:TE}(h:PC X op a b t)(h1:behindInMarks op b=false:=by first | exact nobehind _ (by decide) (by decide) | rfl):PE X (.Compare a [op] [b] pos) t:=fun pins s σ H Q I hw=>wpAny_Compare1 (h pins s σ H Q I hw) h1
theorem pt_val{e:Expr}{t:TE}(h:PE X e t)(he:∀ whole,isTrue e X.env whole=(do let v ← whole;standAt e.pos;holding [v] (truthy v)):=by intro _;rfl):PT X e (tB t):=by
 intro pins s σ H Q I hw
 refine isTrue_plain (thn (h pins s σ H _ I hw) fun v s1 ⟨x,H1,I1,r1,q1⟩=>?_) (he _)
 obtain⟨d,rfl,q⟩:=q1
 cases r1
 exact wpAny_truthy_bool ⟨H1,I1,q⟩
variable {tA tB':TT}{rest:List Expr}
def tAnd(t u:TT):TT:=fun σ H Q=>t σ H fun c H1=>if c=true then u σ H1 Q else Q false H1
def tOr(t u:TT):TT:=fun σ H Q=>t σ H fun c H1=>if c=true then Q true H1 else u σ H1 Q
def tNot(t:TT):TT:=fun σ H Q=>t σ H fun c H1=>Q (!c) H1
theorem pw_and1(ha:PT X a tA):PW X (.BoolOp .And [a] pos) tA:=by
 intro wh pins s σ H Q I h
 refine isTrue_and (thn (ha pins s σ H Q I h) fun c s1 e=>?_)
 cases c with
 | true=>exact isTrue_and_nil e
 | false=>exact e
theorem pw_or1(ha:PT X a tA):PW X (.BoolOp .Or [a] pos) tA:=by
 intro wh pins s σ H Q I h
 refine isTrue_or (thn (ha pins s σ H Q I h) fun c s1 e=>?_)
 cases c with
 | false=>exact isTrue_or_nil e
 | true=>exact e
theorem pw_and(ha:PT X a tA)(hb:PW X (.BoolOp .And (b::rest) pos) tB'):PW X (.BoolOp .And (a::b::rest) pos) (tAnd tA tB'):=by
 intro wh pins s σ H Q I h
 refine isTrue_and (thn (ha pins s σ H _ I h) fun c s1 ⟨H1,I1,q1⟩=>?_)
 cases c with
 | true=>exact hb wh pins s1 σ H1 Q I1 q1
 | false=>exact⟨H1,I1,q1⟩
theorem pw_or(ha:PT X a tA)(hb:PW X (.BoolOp .Or (b::rest) pos) tB'):PW X (.BoolOp .Or (a::b::rest) pos) (tOr tA tB'):=by
 intro wh pins s σ H Q I h
 refine isTrue_or (thn (ha pins s σ H _ I h) fun c s1 ⟨H1,I1,q1⟩=>?_)
 cases c with
 | true=>exact⟨H1,I1,q1⟩
 | false=>exact hb wh pins s1 σ H1 Q I1 q1
theorem pt_not(ha:PT X a tA):PT X (.UnaryOp .Not a pos) (tNot tA):=by
 intro pins s σ H Q I h
 exact isTrue_not (ha pins s σ H (fun c H1=>Q (!c) H1) I h)
def tAndV(ta tb:TE):TE:=fun σ H Q=>ta σ H fun x H1=>∃ c,x=.bl c∧if c=true then tb σ H1 Q else Q (.bl false) H1
def tOrV(ta tb:TE):TE:=fun σ H Q=>ta σ H fun x H1=>∃ c,x=.bl c∧if c=true then Q (.bl true) H1 else tb σ H1 Q
def tNotV(ta:TE):TE:=fun σ H Q=>ta σ H fun x H1=>∃ c,x=.bl c∧Q (.bl (!c)) H1
theorem pe_one{op}{t:TE}(h:PE X a t):PE X (.BoolOp op [a] pos) t:=fun pins s σ H Q I hw=>BoolOp_one (h pins s σ H Q I hw)
theorem pe_and(ha:PE X a ta)(hb:PE X (.BoolOp .And (b::rest) pos) tb):PE X (.BoolOp .And (a::b::rest) pos) (tAndV ta tb):=by
 intro pins s σ H Q I h
 refine BoolOp_and (thn (ha pins s σ H _ I h) fun v s1 ⟨x,H1,I1,r1,q1⟩=>?_)
 obtain⟨c,rfl,q1⟩:=q1
 cases r1
 refine wpAny_truthy_bool ?_
 cases c with
 | true=>exact hb pins s1 σ H1 Q I1 q1
 | false=>exact⟨.bl false,H1,I1,rfl,q1⟩
theorem pe_or(ha:PE X a ta)(hb:PE X (.BoolOp .Or (b::rest) pos) tb):PE X (.BoolOp .Or (a::b::rest) pos) (tOrV ta tb):=by
 intro pins s σ H Q I h
 refine BoolOp_or (thn (ha pins s σ H _ I h) fun v s1 ⟨x,H1,I1,r1,q1⟩=>?_)
 obtain⟨c,rfl,q1⟩:=q1
 cases r1
 refine wpAny_truthy_bool ?_
 cases c with
 | false=>exact hb pins s1 σ H1 Q I1 q1
 | true=>exact⟨.bl true,H1,I1,rfl,q1⟩
theorem pe_not(ha:PE X a ta):PE X (.UnaryOp .Not a pos) (tNotV ta):=by
 intro pins s σ H Q I h
 refine UnaryOp_ (thn (ha pins s σ H _ I h) fun v s1 ⟨x,H1,I1,r1,q1⟩=>?_)
 obtain⟨c,rfl,q1⟩:=q1
 cases r1
 exact not_of (wpAny_truthy_bool ⟨.bl (!c),H1,I1,rfl,q1⟩)
def tIf(t:TT)(ta tb:TE):TE:=fun σ H Q=>t σ H fun c H1=>if c=true then ta σ H1 Q else tb σ H1 Q
end
end L2
namespace L2
open PySem PySem.Spec PyProof.Rows
def SqL(K:PySem.W.Frag)(H:Hp)(a:Addr)(xs:List V):Prop :=
 Rd H a (.lst xs) ∨
  ∃(o:Obj)(its:Array Value)(n:Nat),K.lookup a=some o∧o.cls=.type "list" ∧ o.dict=none∧o.data=.seq its n∧its.size≤sizeLine∧Vals xs its.toList
def SqT(K:PySem.W.Frag)(H:Hp)(a:Addr)(xs:List V):Prop :=
 Rd H a (.tup xs) ∨
  ∃(o:Obj)(its:Array Value)(n:Nat),K.lookup a=some o∧o.cls=.type "tuple" ∧ o.data=.seq its n∧its.size≤sizeLine∧Vals xs its.toList
def absV:Value→Option V
 | .none=>some .non
 | .bool b=>some (.bl b)
 | .int i _=>some (.int i)
 | .str x _=>some (.str x)
 | .bytes b _=>some (.byt b)
 | .float b _=>some (.flt b)
 | .ref a=>some (.ref a)
 | .type n=>some (.ty n)
 | _=>none
theorem RelV.abs{x:V}{u:Value}(r:RelV x u):absV u=some x:=by
 cases x with
 | non=>cases r;rfl
 | bl _=>cases r;rfl
 | int _=>obtain⟨t,rfl⟩:=r;rfl
 | str _=>obtain⟨t,rfl⟩:=r;rfl
 | byt _=>obtain⟨t,rfl⟩:=r;rfl
 | flt _=>obtain⟨t,rfl⟩:=r;rfl
 | ref _=>cases r;rfl
 | ty _=>cases r;rfl
theorem RelV.inj{x y:V}{u:Value}(r:RelV x u)(q:RelV y u):x=y:=Option.some.inj (r.abs.symm.trans q.abs)
theorem Vals.inj:∀{xs ys:List V}{us:List Value},Vals xs us→Vals ys us→xs=ys
 | _,_,_,.nil,.nil=>rfl
 | _,_,_,.cons r t,.cons r' t'=>by rw[r.inj r',Vals.inj t t']
section
variable {X:Cx}{pins:List (Addr×Obj)}{σ:St}{H:Hp}{s:Shared}{a:Addr}{xs ys:List V}
theorem SqL.of{K:PySem.W.Frag}(h:H a=some (.lst xs)):SqL K H a xs:=.inl (.inl h)
theorem SqT.of{K:PySem.W.Frag}(h:H a=some (.tup xs)):SqT K H a xs:=.inl (.inl h)
theorem Inv.list(I:Inv X pins σ H s)(h:SqL X.K H a xs):∃ its:List Value,Vals xs its∧PlainL s.heap a its.toArray∧xs.length≤sizeLine:=by
 rcases h with h | ⟨o,its,n,hk,hc,hd,hs,hz,r⟩
 ·obtain⟨z,its,n,r,e⟩:=h.ok I.hok
  exact⟨its,r,⟨_,n,e,rfl,rfl,rfl⟩,z⟩
 ·refine⟨its.toList,r,⟨o,n,I.kIn a o hk,hc,hd,by simpa using hs⟩,?_⟩
  have e:=r.length
  simp only[Array.length_toList] at e
  omega
theorem Inv.tuple(I:Inv X pins σ H s)(h:SqT X.K H a xs):∃ its:List Value,Vals xs its∧IsTup s.heap a its.toArray∧xs.length≤sizeLine:=by
 rcases h with h | ⟨o,its,n,hk,hc,hs,hz,r⟩
 ·obtain⟨z,its,r,p⟩:=h.ok I.hok
  exact⟨its,r,p,z⟩
 ·refine⟨its.toList,r,⟨o,I.kIn a o hk,hc,n,by simpa using hs⟩,?_⟩
  have e:=r.length
  simp only[Array.length_toList] at e
  omega
theorem Inv.list_inj(I:Inv X pins σ H s)(h:SqL X.K H a xs)(h':SqL X.K H a ys):xs=ys:=by
 obtain⟨its,r,⟨o,n,e,_,_,d⟩,_⟩:=I.list h
 obtain⟨its',r',⟨o',n',e',_,_,d'⟩,_⟩:=I.list h'
 rw[e] at e';cases e'
 rw[d] at d'
 injection d' with d1 _
 have:its=its':=by simpa using congrArg Array.toList d1
 subst this
 exact r.inj r'
theorem Inv.tuple_inj(I:Inv X pins σ H s)(h:SqT X.K H a xs)(h':SqT X.K H a ys):xs=ys:=by
 obtain⟨its,r,⟨o,e,_,n,d⟩,_⟩:=I.tuple h
 obtain⟨its',r',⟨o',e',_,n',d'⟩,_⟩:=I.tuple h'
 rw[e] at e';cases e'
 rw[d] at d'
 injection d' with d1 _
 have:its=its':=by simpa using congrArg Array.toList d1
 subst this
 exact r.inj r'
end
abbrev Cx.wish(X:Cx)(E:Value→Shared→Prop):Cx:={ X with xe:=E }
abbrev Cx.nox(X:Cx):Cx:=X.wish fun _ _=>False
theorem Cx.Ok.wish{X:Cx}(ok:X.Ok)(E:Value→Shared→Prop):(X.wish E).Ok :=
 ⟨ok.mod,ok.kind,ok.glob,ok.blt,ok.above,ok.inj,ok.has,ok.cab,ok.hd,ok.frames,ok.stk,ok.exf,ok.bs,ok.bsz,ok.noex,ok.exfs,ok.funs,ok.frf⟩
theorem Cx.Ok.unwish{X:Cx}{E:Value→Shared→Prop}(ok:(X.wish E).Ok):X.Ok :=
 ⟨ok.mod,ok.kind,ok.glob,ok.blt,ok.above,ok.inj,ok.has,ok.cab,ok.hd,ok.frames,ok.stk,ok.exf,ok.bs,ok.bsz,ok.noex,ok.exfs,ok.funs,ok.frf⟩
section
variable {X:Cx}{pins:List (Addr×Obj)}{σ:St}{H:Hp}{s:Shared}{E:Value→Shared→Prop}
theorem Inv.wish(I:Inv X pins σ H s)(E:Value→Shared→Prop):Inv (X.wish E) pins σ H s:=⟨I.ok.wish E,I.os,I.bare,I.base,I.loc,I.cell,I.free,I.freeC,I.pin,I.hok,I.len⟩
theorem Inv.unwish(I:Inv (X.wish E) pins σ H s):Inv X pins σ H s:=⟨I.ok.unwish,I.os,I.bare,I.base,I.loc,I.cell,I.free,I.freeC,I.pin,I.hok,I.len⟩
theorem SP.unwish{D:Ends}{f:Flow}{s':Shared}(h:SP (X.wish E) pins D f s'):SP X pins D f s':=by
 cases f with
 | next=>obtain⟨σ',H',I,q⟩:=h;exact⟨σ',H',I.unwish,q⟩
 | brk=>obtain⟨σ',H',I,q⟩:=h;exact⟨σ',H',I.unwish,q⟩
 | cont=>obtain⟨σ',H',I,q⟩:=h;exact⟨σ',H',I.unwish,q⟩
 | ret u=>obtain⟨v,σ',H',I,r,q⟩:=h;exact⟨v,σ',H',I.unwish,r,q⟩
theorem PSs.nox{st:List Stmt}{t:TS}(h:PSs X.nox st t):PSs X st t:=fun pins s σ H D I hw =>
 wpAny_mono (h pins s σ H D (I.wish _) hw) (fun _ _ q=>q.unwish) fun _ _ z=>False.elim z
end
section
variable {X:Cx}{st:Stmt}{rest:List Stmt}{t u:TS}{e:Expr}{te:TE}{pos:Pos}
def tNext:TS:=fun D σ H=>D.nx σ H
def tSeq(t u:TS):TS:=fun D σ H=>t { D with nx:=u D } σ H
theorem pss_nil:PSs X [] tNext:=fun _ _ σ H _ I h=>wpAny_execs_nil ⟨σ,H,I,h⟩
theorem pss_cons(h1:PS X st t)(h2:PSs X rest u):PSs X (st::rest) (tSeq t u):=by
 intro pins s σ H D I h
 refine wpAny_execs_cons (thn (h1 pins s σ H { D with nx:=u D } I h) fun f s1 q=>?_)
 cases f with
 | next =>
  obtain⟨σ',H',I',q⟩:=q
  exact h2 pins s1 σ' H' D I' q
 | ret v=>exact q
 | brk=>exact q
 | cont=>exact q
theorem pss_one(h1:PS X st t):PSs X [st] t:=by
 intro pins s σ H D I h
 refine wpAny_execs_cons (thn (h1 pins s σ H D I h) fun f s1 q=>?_)
 cases f with
 | next=>exact wpAny_execs_nil q
 | ret v=>exact q
 | brk=>exact q
 | cont=>exact q
theorem Inv.quiet{pins:List (Addr×Obj)}{σ:St}{H:Hp}{s:Shared}(I:Inv X pins σ H s):interactive X.env=false:=by simp[interactive,I.ok.kind]
def tDrop(te:TE):TS:=fun D σ H=>te σ H fun _ H1=>D.nx σ H1
theorem ps_expr(he:PE X e te)(hs:swapsWith e none pos.line X.env=pure false:=by rfl):PS X (.Expr e pos) (tDrop te):=by
 intro pins s σ H D I h
 exact wpAny_Expr_any (thn (he pins s σ H _ I h) fun v s1 ⟨x,H1,I1,r1,q1⟩=>⟨σ,H1,I1,q1⟩) I.quiet hs
def tRet(te:TE):TS:=fun D σ H=>te σ H D.rt
theorem ps_ret(he:PE X e te):PS X (.Return (some e) pos) (tRet te):=by
 intro pins s σ H D I h
 exact wpAny_Return_some (thn (he pins s σ H _ I h) fun v s1 ⟨x,H1,I1,r1,q1⟩=>⟨x,σ,H1,I1,r1,q1⟩)
def tRetN:TS:=fun D _ H=>D.rt .non H
def tIfS(c:TT)(t u:TS):TS:=fun D σ H=>c σ H fun b H1=>if b=true then t D σ H1 else u D σ H1
theorem ps_if{c:Expr}{a b:List Stmt}{tc:TT}(hc:PT X c tc)(ha:PSs X a t)(hb:PSs X b u):PS X (.If c a b pos) (tIfS tc t u):=by
 intro pins s σ H D I h
 refine wpAny_If (thn (hc pins s σ H _ I h) fun d s1 ⟨H1,I1,q1⟩=>?_)
 cases d with
 | true=>exact ha pins s1 σ H1 D I1 q1
 | false=>exact hb pins s1 σ H1 D I1 q1
end
abbrev TG:=V→St→Hp→(St→Hp→Prop)→Prop
abbrev TGs:=List V→St→Hp→(St→Hp→Prop)→Prop
def PG(X:Cx)(target:Expr)(t:TG):Prop :=
 ∀ (pins:List (Addr×Obj)) (s:Shared) (σ:St) (H:Hp) (v:V) (u:Value) (Q:St→Hp→Prop),Inv X pins σ H s→RelV v u→t v σ H Q →
  wpAny (model X.prog X.w) X.A (assign target X.env u) (fun _ s'=>∃ σ' H',Inv X pins σ' H' s'∧Q σ' H') X.xe s
def PGs(X:Cx)(ts:List Expr)(t:TGs):Prop :=
 ∀ (pins:List (Addr×Obj)) (s:Shared) (σ:St) (H:Hp) (vs:List V) (us:List Value) (Q:St→Hp→Prop),Inv X pins σ H s→Vals vs us→t vs σ H Q →
  wpAny (model X.prog X.w) X.A (assignInOrder ((assignEach ts X.env).map (·.2)) us) (fun _ s'=>∃ σ' H',Inv X pins σ' H' s'∧Q σ' H') X.xe s
abbrev TSet:=V→V→V→Hp→(Hp→Prop)→Prop
def PSet(X:Cx)(t:TSet):Prop :=
 ∀ (pins:List (Addr×Obj)) (s:Shared) (σ:St) (H:Hp) (o i v:V) (ov iv u:Value) (Q:Hp→Prop),Inv X pins σ H s→RelV o ov→RelV i iv→RelV v u→t o i v H Q →
  wpAny (model X.prog X.w) X.A (setItem ov iv u) (fun _ s'=>∃ H',Inv X pins σ H' s'∧Q H') X.xe s
abbrev TIp:=V→V→Hp→VK→Prop
def PIp(X:Cx)(op:Operator)(t:TIp):Prop :=
 ∀ (pins:List (Addr×Obj)) (s:Shared) (σ:St) (H:Hp) (x y:V) (v u:Value) (Q:VK),Inv X pins σ H s→RelV x v→RelV y u→t x y H Q →
  wpAny (model X.prog X.w) X.A (inplaceOp op v u) (EP X pins σ Q) X.xe s
section
variable {X:Cx}{pos:Pos}
def gName(i:Nat):TG:=fun v σ H Q=>Q (σ.set i (some v)) H
theorem pg_name{i:Nat}{x:Str}(hN:X.N.Nodup)(hi:X.N[i]?=some x)(hx:Loc X.env.scope x)(hf:X.fn x=true∨X.env.scope.names.lookup x=some .local:=by first | exact .inl rfl | exact .inr rfl | assumption):PG X (.Name x pos) (gName i):=by
 intro pins s σ H v u Q I r h
 exact wpAny_assign_Name (store_ok I hN hi hx r (fun s' I'=>⟨_,H,I',h⟩) hf)
def gNil:TGs:=fun vs σ H Q=>vs=[]∧Q σ H
def gCons(t:TG)(u:TGs):TGs:=fun vs σ H Q=>∃ v r,vs=v::r∧t v σ H fun σ' H'=>u r σ' H' Q
theorem pgs_nil:PGs X [] gNil:=by
 intro pins s σ H vs us Q I r h
 obtain⟨e,h⟩:=h
 subst e
 cases r
 exact assignInOrder_nil ⟨σ,H,I,h⟩
theorem pgs_cons{e:Expr}{es:List Expr}{t:TG}{u:TGs}(h1:PG X e t)(h2:PGs X es u)
  (hs:(assignEach (e::es) X.env).map (·.2)=assign e X.env::(assignEach es X.env).map (·.2):=by rfl):PGs X (e::es) (gCons t u):=by
 intro pins s σ H vs us Q I r h
 obtain⟨v,vr,e1,h⟩:=h
 subst e1
 cases r with
 | cons r rr =>
  rw[hs]
  refine assignInOrder_cons (thn (h1 pins s σ H _ _ _ I r h) fun _ s1 ⟨σ1,H1,I1,q1⟩=>?_)
  exact h2 pins s1 σ1 H1 _ _ Q I1 rr q1
def gTup(K:PySem.W.Frag)(n:Nat)(t:TGs):TG:=fun v σ H Q=>∃ a xs,v=.ref a∧SqT K H a xs∧xs.length=n∧t xs σ H Q
theorem pg_tup{es:List Expr}{k:Nat}{t:TGs}{n:Nat}(hc:X.calm=true)(h:PGs X es t)
  (hn:(assignEach es X.env).length=n:=by rfl) (hst:(assignEach es X.env).findIdx? (·.1)=none:=by rfl):PG X (.Tuple es k pos) (gTup X.K n t):=by
 intro pins s σ H v u Q I r hw
 obtain⟨a,xs,e1,hq,hl,hw⟩:=hw
 subst e1
 cases r
 obtain⟨its,rv,ht,hz⟩:=I.tuple hq
 refine assign_Tuple_tuple (I.ok.hd hc) ht (by simp[hn,← hl,rv.length]) hst fun h' hx=>?_
 have I1:Inv X pins σ H { s with heap:=h' }:=I.kept (t':=s.toks) fun b o e=>hx b o (Nat.ne_of_lt (Heap.lt_size e)) e
 exact h pins _ σ H xs _ Q I1 (by simpa using rv) hw
def gSub(to ti:TE)(t:TSet):TG:=fun v σ H Q=>to σ H fun o H1=>ti σ H1 fun i H2=>t o i v H2 fun H3=>Q σ H3
theorem pg_sub{o i:Expr}{to ti:TE}{t:TSet}(ho:PE X o to)(hi:PE X i ti)(hs:PSet X t)
  (ha:∀ v,assign (.Subscript o i pos) X.env v=(do
   let ov ← holding [v] (eval o X.env)
   let iv ← holding [v,ov] (eval i X.env)
   standAt pos
   holding [v,ov,iv] (setItem ov iv v)
   release [v,ov,iv] []):=by intro _;rfl):PG X (.Subscript o i pos) (gSub to ti t):=by
 intro pins s σ H v u Q I r h
 rw[ha]
 refine wpAny_bind (wpAny_holding (thn (ho pins s σ H _ I h) fun ov s1 ⟨x,H1,I1,r1,q1⟩=>?_))
 refine wpAny_bind (wpAny_holding (thn (hi pins s1 σ H1 _ I1 q1) fun iv s2 ⟨y,H2,I2,r2,q2⟩=>?_))
 refine wpAny_bind (wpAny_standAt (wpAny_bind (wpAny_holding (thn (hs pins s2 σ H2 x y v ov iv u _ I2 r1 r2 r q2) fun _ s3 ⟨H3,I3,q3⟩=>?_))))
 exact wpAny_release ⟨σ,H3,I3,q3⟩
def tAsg(te:TE)(g:TG):TS:=fun D σ H=>te σ H fun x H1=>g x σ H1 D.nx
theorem ps_asg{tg e:Expr}{te:TE}{g:TG}(he:PE X e te)(hg:PG X tg g)(hs:swapsWithSole [tg] e pos.line X.env=pure false:=by rfl)(hw:swappedStores [tg] e X.env=pure none:=by rfl)
  (h1:(assignEach [tg] X.env).map (·.2)=[assign tg X.env]:=by rfl):PS X (.Assign [tg] e pos) (tAsg te g):=by
 intro pins s σ H D I h
 refine wpAny_Assign_stores (thn (he pins s σ H _ I h) fun v s1 ⟨x,H1,I1,r1,q1⟩=>?_) hs hw
 rw[h1]
 exact thn (hg pins s1 σ H1 x v _ I1 r1 q1) fun _ s2 q=>q
theorem ps_set{i:Nat}{x:Str}{e:Expr}{te:TE}{pos':Pos}(hN:X.N.Nodup)(hi:X.N[i]?=some x)(hx:Loc X.env.scope x)(he:PE X e te)(hs:swapsWith e (some (.Name x pos')) pos.line X.env=pure false:=by rfl)(hf:X.fn x=true∨X.env.scope.names.lookup x=some .local:=by first | exact .inl rfl | exact .inr rfl | assumption) :
  PS X (.Assign [.Name x pos'] e pos) (tAsg te (gName i)):=by
 intro pins s σ H D I h
 refine wpAny_Assign_Name (thn (he pins s σ H _ I h) fun v s1 ⟨y,H1,I1,r1,q1⟩=>?_) hs
 exact store_ok I1 hN hi hx r1 (fun s2 I2=>⟨_,H1,I2,q1⟩) hf
def tPar(i j:Nat)(ta:TA):TS:=fun D σ H=>ta σ H fun vs H1=>∃ v w,vs=[v,w]∧D.nx ((σ.set i (some v)).set j (some w)) H1
theorem ps_par{i j:Nat}{x y:Str}{a b:Expr}{ta:TA}{px py pt:Pos}{kt k2 pt2}(hc:X.calm=true)(hN:X.N.Nodup)(hi:X.N[i]?=some x)(hj:X.N[j]?=some y)(hij:i≠j)
  (hx:X.env.scope.names.lookup x=some .local) (hy:X.env.scope.names.lookup y=some .local) (ha:PA X [a,b] ta)
  (hw:swappedStores [.Tuple [.Name x px,.Name y py] kt pt] (.Tuple [a,b] k2 pt2) X.env=pure (some [x,y]))
  (hs:swapsWithSole [.Tuple [.Name x px,.Name y py] kt pt] (.Tuple [a,b] k2 pt2) pos.line X.env=pure false:=by rfl) :
  PS X (.Assign [.Tuple [.Name x px,.Name y py] kt pt] (.Tuple [a,b] k2 pt2) pos) (tPar i j ta):=by
 intro pins s σ H D I h
 rw[exec_Assign_arm]
 refine wpAny_bind (wpAny_standAt ?_)
 rw[hs]
 refine wpAny_bind (wpAny_pure ?_)
 rw[if_neg (by decide)]
 refine wpAny_bind (Tuple_ (thn (ha _ pins s σ H _ I h) fun us s1 ⟨vs,H1,I1,r1,q1⟩=>?_))
 obtain⟨v,w,e1,q1⟩:=q1
 subst e1
 obtain⟨u1,u2,rfl,rv,rw'⟩:∃ u1 u2,us=[u1,u2]∧RelV v u1∧RelV w u2:=by
  cases r1 with
  | cons p q =>
   cases q with
   | cons p' q' =>
    cases q'
    exact⟨_,_,rfl,p,p'⟩
 refine wpAny_newObj_type ?_ (by show 2≤sizeLine;decide)
 have I2:Inv X pins σ H1 { s1 with heap:=s1.heap.push { cls:=.type "tuple", data:=.seq [u1,u2].toArray } }:=I1.kept (t':=s1.toks) fun b o e=>Heap.get?_push_of_some _ e
 rw[hw]
 refine wpAny_bind (wpAny_pure ?_)
 show wpAny (model X.prog X.w) X.A (do rule "assign.swapped-stores"; let items ← unpackItems (.ref s1.heap.objs.size) 2 none;assignInOrder [fun v=>bindName X.env y v,fun v=>bindName X.env x v] items.reverse;pure Flow.next) _ _ _
 refine wpAny_bind (wpAny_rule (wpAny_bind (unpackItems_tuple (items:=#[u1,u2]) (I.ok.hd hc) (IsTup.new s1.heap _) fun h' hx'=>?_)))
 have I3:=I2.kept (h':=h') (t':=s1.toks) fun b o e=>hx' b o (Nat.ne_of_lt (Heap.lt_size e)) e
 show wpAny _ _ (assignInOrder [fun v=>bindName X.env y v,fun v=>bindName X.env x v] [u2,u1] >>= fun _=>pure Flow.next) _ _ _
 refine wpAny_bind (assignInOrder_cons (wpAny_bindName (store_ok I3 hN hj (.inl hy) rw' (fun s2 I4=>?_) (.inr hy))))
 refine assignInOrder_cons (wpAny_bindName (store_ok I4 hN hi (.inl hx) rv (fun s3 I5=>assignInOrder_nil (wpAny_pure ?_)) (.inr hx)))
 rw[List.set_comm _ _ (Ne.symm hij)] at I5
 exact⟨_,H1,I5,q1⟩
def tAug(i:Nat)(te:TE)(ti:TIp):TS:=fun D σ H=>∃ x,σ[i]?=some (some x)∧te σ H fun y H1=>ti x y H1 fun z H2=>D.nx (σ.set i (some z)) H2
theorem ps_aug{i:Nat}{x:Str}{e:Expr}{te:TE}{op:Operator}{ti:TIp}{pos':Pos}(hN:X.N.Nodup)(hi:X.N[i]?=some x)(hx:Loc X.env.scope x)(he:PE X e te)(ho:PIp X op ti)(hf:X.fn x=true∨X.env.scope.names.lookup x=some .local:=by first | exact .inl rfl | exact .inr rfl | assumption) :
  PS X (.AugAssign (.Name x pos') op e pos) (tAug i te ti):=by
 intro pins s σ H D I h
 obtain⟨v,e1,h⟩:=h
 obtain⟨m,hn,hl⟩:=I.loc
 have vis:Vis X.env.scope x:=by rcases hx with k | k;exact .inl k;exact .inr (.inl k)
 obtain⟨u,r,l⟩:=hl i x v hi e1 vis
 refine wpAny_AugAssign_Name ?_
 have go:wpAny (model X.prog X.w) X.A (eval e X.env) (fun w s₂=>wpAny (model X.prog X.w) X.A (inplaceOp op u w) (fun r s₃=>wpAny (model X.prog X.w) X.A (storeName X.env x r) (fun _=>SP X pins D .next) X.xe s₃) X.xe s₂) X.xe s:=by
  refine thn (he pins s σ H _ I h) fun w s1 ⟨y,H1,I1,r1,q1⟩=>?_
  refine thn (ho pins s1 σ H1 v y u w _ I1 r r1 q1) fun z s2 ⟨zv,H2,I2,r2,q2⟩=>?_
  exact store_ok I2 hN hi hx r2 (fun s3 I3=>⟨_,H2,I3,q2⟩) hf
 rcases l with ⟨hk,hm⟩ | ⟨hk,c,hc,hcell⟩
 ·exact wpAny_loadName_local I.ok.kind hk hn hm go
 ·rcases hk with hk | hk
  ·exact wpAny_loadName_cell I.ok.kind hk hc hcell go
  ·rcases hx with k | k
   ·have:X.env.scope.names.lookup x=some .free:=hk
    rw[k] at this;cases this
   ·have:X.env.scope.names.lookup x=some .free:=hk
    rw[k] at this;cases this
def tAugS(to ti te:TE)(tget:V→V→Hp→VK→Prop)(tip:TIp)(tset:TSet):TS:=fun D σ H=>to σ H fun o H1=>ti σ H1 fun i H2=>tget o i H2 fun x H3=>te σ H3 fun y H4=>tip x y H4 fun z H5=>tset o i z H5 fun H6=>D.nx σ H6
def PGet(X:Cx)(t:V→V→Hp→VK→Prop):Prop :=
 ∀ (pins:List (Addr×Obj)) (s:Shared) (σ:St) (H:Hp) (o i:V) (ov iv:Value) (Q:VK),Inv X pins σ H s→RelV o ov→RelV i iv→t o i H Q →
  wpAny (model X.prog X.w) X.A (getItem ov iv) (EP X pins σ Q) X.xe s
theorem ps_augS{o i e:Expr}{to ti te:TE}{tget:V→V→Hp→VK→Prop}{tip:TIp}{tset:TSet}{op:Operator}{tpos:Pos}(ho:PE X o to)(hi:PE X i ti)(hg:PGet X tget)(he:PE X e te)(hp:PIp X op tip)(hs:PSet X tset)
  (ha:∀ ov iv new,augStore i ov iv new=(do holding [new,ov,iv] (setItem ov iv new);release [new,ov,iv] [];pure .next):=by intros;rfl):PS X (.AugAssign (.Subscript o i tpos) op e pos) (tAugS to ti te tget tip tset):=by
 intro pins s σ H D I h
 refine wpAny_AugAssign_SubscriptAny (thn (ho pins s σ H _ I h) fun ov s1 ⟨x1,H1,I1,r1,q1⟩=>?_) ha
 refine thn (hi pins s1 σ H1 _ I1 q1) fun iv s2 ⟨x2,H2,I2,r2,q2⟩=>?_
 refine thn (hg pins s2 σ H2 x1 x2 ov iv _ I2 r1 r2 q2) fun old s3 ⟨x3,H3,I3,r3,q3⟩=>?_
 refine thn (he pins s3 σ H3 _ I3 q3) fun v s4 ⟨x4,H4,I4,r4,q4⟩=>?_
 refine thn (hp pins s4 σ H4 x3 x4 old v _ I4 r3 r4 q4) fun new s5 ⟨x5,H5,I5,r5,q5⟩=>?_
 exact thn (hs pins s5 σ H5 x1 x2 x5 ov iv new _ I5 r1 r2 r5 q5) fun _ s6 ⟨H6,I6,q6⟩=>⟨σ,H6,I6,q6⟩
def ipI(f:Int→Int→Int):TIp:=fun x y H Q=>∃ i j,x=.int i∧y=.int j∧Q (.int (f i j)) H
theorem ip_add:PIp X .Add (ipI fun i j=>i+j):=by
 intro pins s σ H x y v u Q I r1 r2 h
 obtain⟨i,j,e1,e2,q⟩:=h
 subst e1;subst e2
 obtain⟨t,rfl⟩:=r1
 obtain⟨t',rfl⟩:=r2
 exact iadd_int ⟨.int _,H,I.tok _,⟨_,rfl⟩,q⟩
theorem ip_sub:PIp X .Sub (ipI fun i j=>i - j):=by
 intro pins s σ H x y v u Q I r1 r2 h
 obtain⟨i,j,e1,e2,q⟩:=h
 subst e1;subst e2
 obtain⟨t,rfl⟩:=r1
 obtain⟨t',rfl⟩:=r2
 exact isub_int ⟨.int _,H,I.tok _,⟨_,rfl⟩,q⟩
end
section
variable {X:Cx}{pos:Pos}
def tWhile(c:TT)(tb:TS):TS:=fun D σ H=>∃ W:Nat→St→Hp→Prop,(∃ m,W m σ H)∧∀ m σ H,W m σ H →
 c σ H fun b H1=>if b=true then ∃ N:St→Hp→Prop,(∀ σ' H',N σ' H'→∃ m',m' < m∧W m' σ' H')∧tb { D with nx:=N,ct:=N,bk:=D.nx } σ H1 else D.nx σ H1
theorem ps_while{c:Expr}{body:List Stmt}{tc:TT}{tb:TS}(hp:PassesOwn (model X.prog X.w) X.A X.env X.xe)(hc:PT X c tc)(hb:PSs X body tb):PS X (.While c body [] pos) (tWhile tc tb):=by
 intro pins s σ H D I h
 obtain⟨W,⟨m0,w0⟩,turn⟩:=h
 refine wpAny_While (codeAny_whileLoop (fun n s'=>∃ σ' H',Inv X pins σ' H' s'∧W n σ' H') ?_ m0 ⟨σ,H,I,w0⟩)
 rintro n s1 ⟨σ1,H1,I1,w1⟩
 refine wpAny_passesOwn hp (thn (hc pins s1 σ1 H1 _ I1 (turn n σ1 H1 w1)) fun b s2 ⟨H2,I2,q2⟩=>?_)
 cases b with
 | true =>
  obtain⟨N,hN,q2⟩:=q2
  rw[if_pos rfl]
  refine wpAny_passesOwn hp (thn (hb pins s2 σ1 H2 _ I2 q2) fun f s3 q3=>?_)
  cases f with
  | next =>
   obtain⟨σ3,H3,I3,n3⟩:=q3
   obtain⟨m',hm,w3⟩:=hN σ3 H3 n3
   exact⟨m',hm,σ3,H3,I3,w3⟩
  | cont =>
   obtain⟨σ3,H3,I3,n3⟩:=q3
   obtain⟨m',hm,w3⟩:=hN σ3 H3 n3
   exact⟨m',hm,σ3,H3,I3,w3⟩
  | brk=>exact q3
  | ret v=>exact q3
 | false =>
  rw[if_neg Bool.false_ne_true]
  exact wpAny_execs_nil ⟨σ1,H2,I2,q2⟩
end
structure It where
 go:Nat→Hp→Prop
 yld:Nat→Hp→V→Hp→Prop
 stop:Nat→Hp→Prop
def FpOk(X:Cx)(pins:List (Addr×Obj))(H:Hp)(b:Addr):Prop :=
 H b=none∧b≠X.env.locals∧b∉X.fs∧(b∈X.ex∨X.s₀.heap.objs.size≤b)∧(∀ x c,X.env.cells.lookup x=some c→c≠b)∧∀ p∈X.pn++pins,p.1≠b
theorem Inv.fpOk{X:Cx}{pins:List (Addr×Obj)}{σ:St}{H H':Hp}{s:Shared}{b:Addr}(I:Inv X pins σ H s)(hb:s.heap.objs.size≤b)(hn:H' b=none):FpOk X pins H' b:=by
 refine⟨hn,Nat.ne_of_gt (Nat.lt_of_lt_of_le I.lt hb),I.nofs hb,.inr (Nat.le_trans I.sz hb),fun x c e z=>?_,fun p hp z=>?_⟩
 ·obtain⟨v,q⟩:=I.cell x c e
  exact absurd (Nat.lt_of_lt_of_le q.lt (by rw[z];exact hb)) (Nat.lt_irrefl _)
 ·exact absurd (Nat.lt_of_lt_of_le (Heap.lt_size (I.pin p hp).1) (by rw[z];exact hb)) (Nat.lt_irrefl _)
structure Turn(P:Program)(w:World)(K:PySem.W.Frag)(tg:Expr)(J:It)(fp:List Addr)(it:Addr)(tn:Nat→Heap→Prop):Prop where
 mem:it∈fp
 obj:∀ i h,tn i h→∀ b∈fp,∃ o,h.get? b=some o∧∀ v,o.data≠.cell v
 keep:∀ i h h',tn i h→(∀ b∈fp,∀ o,h.get? b=some o→h'.get? b=some o)→tn i h'
 item:∀(X:Cx),X.prog=P→X.w=w→X.K=K→X.calm=true→∀(i:Nat) (pins:List (Addr×Obj)) (s:Shared) (σ:St) (H:Hp) (E:Value→Shared→Prop),Inv X pins σ H s→(∀ b∈fp,FpOk X pins H b)→tn i s.heap→J.go i H →
  wpAny (model P w) X.A (pyNext (.ref it)) (fun r s1=>∃ u,r=some u ∧
   wpAny (model P w) X.A (letOwnedTupleGo tg (.ref it) u) (fun _ s2=>∃ x H',Inv X pins σ H' s2∧RelV x u∧J.yld i H x H'∧tn (i+1) s2.heap∧∀ b∈fp,H' b=none) E s1) E s
 done:∀(X:Cx),X.prog=P→X.w=w→X.K=K→X.calm=true→∀(i:Nat) (pins:List (Addr×Obj)) (s:Shared) (σ:St) (H:Hp) (E:Value→Shared→Prop),Inv X pins σ H s→(∀ b∈fp,FpOk X pins H b)→tn i s.heap→J.stop i H →
  wpAny (model P w) X.A (pyNext (.ref it)) (fun r s1=>r=none∧Inv X pins σ H s1) E s
 self:∀(A:Around)(i:Nat)(s:Shared)(Q:Value→Shared→Prop)(E:Value→Shared→Prop),tn i s.heap→Q (.ref it) s→wpAny (model P w) A (pyIter (.ref it)) Q E s
abbrev TI:=St→Hp→(It→Hp→Prop)→Prop
def PIE(X:Cx)(pins:List (Addr×Obj))(σ:St)(tg:Expr)(R:It→Hp→Prop)(itv:Value)(s2:Shared):Prop :=
 ∃(it:Addr)(fp:List Addr)(tn:Nat→Heap→Prop)(J:It)(H':Hp),itv=.ref it∧Inv X pins σ H' s2∧Turn X.prog X.w X.K tg J fp it tn∧tn 0 s2.heap∧(∀ b∈fp,FpOk X pins H' b)∧R J H'
def PI(X:Cx)(tg iter:Expr)(wi:TI):Prop :=
 ∀ (pins:List (Addr×Obj)) (s:Shared) (σ:St) (H:Hp) (R:It→Hp→Prop),Inv X pins σ H s→wi σ H R →
  wpAny (model X.prog X.w) X.A (eval iter X.env) (fun v s1=>wpAny (model X.prog X.w) X.A (pyIter v) (PIE X pins σ tg R) X.xe s1) X.xe s
theorem go_of{M:Model}{A:Around}{E:Value→Shared→Prop}{s:Shared}{tg:Expr}{it:Addr}{u:Value}{o:Obj}{n:String}{vs:Array Value}{Q:Unit→Shared→Prop}(ho:s.heap.get? it=some o)(hc:o.cls=.type n)(hd:o.data=.fields vs)
  (hn:["enumerate", "zip", "dict_itemiterator", "dict_reverseitemiterator", "odict_iterator", "itertools.zip_longest", "itertools.pairwise"].contains n=false) (hQ:Q () s):wpAny M A (letOwnedTupleGo tg (.ref it) u) Q E s:=by
 unfold letOwnedTupleGo
 cases tg<;>first
  | exact wpAny_pure hQ
  | (cases u<;>first
    | exact wpAny_pure hQ
    | (refine wpAny_bind (wpAny_load ho ?_)
       rw[hc,hd]
       show wpAny M A (if (["enumerate", "zip", "dict_itemiterator", "dict_reverseitemiterator", "odict_iterator", "itertools.zip_longest", "itertools.pairwise"].contains n && vs[0]? == some (rawInt _))=true then _ else _) Q E s
       rw[if_neg (by intro h;rw[hn,Bool.false_and] at h;cases h)]
       exact wpAny_pure hQ))
def Itl(K:PySem.W.Frag)(a:Addr):It :=
 ⟨fun i H=>∃ xs x,SqL K H a xs∧xs[i]?=some x,fun i H x H'=>H'=H∧∀ xs,SqL K H a xs→xs[i]?=some x,fun i H=>∃ xs,SqL K H a xs∧xs.length≤i⟩
def Itt(K:PySem.W.Frag)(a:Addr):It :=
 ⟨fun i H=>∃ xs x,SqT K H a xs∧xs[i]?=some x,fun i H x H'=>H'=H∧∀ xs,SqT K H a xs→xs[i]?=some x,fun i H=>∃ xs,SqT K H a xs∧xs.length≤i⟩
def Itr(lo:Int)(n:Nat):It:=⟨fun i _=>i < n,fun i H x H'=>H'=H∧x=.int (lo+i),fun i _=>n≤i⟩
theorem turn_list{P:Program}{w:World}{K:PySem.W.Frag}{tg:Expr}(a it:Addr):Turn P w K tg (Itl K a) [it] it (fun i h=>h.IsListIter it a i) where
 mem:=by simp
 obj:=fun i h st b hb=>by
  have e:b=it:=by simpa using hb
  subst e
  obtain⟨o,e,c,d⟩:=st
  exact⟨o,e,fun v z=>by rw[d] at z;cases z⟩
 keep:=fun i h h' st k=>st.at fun o e=>k it (by simp) o e
 item:=by
  intro X hP hw hK hc i pins s σ H E I hf st hg
  subst hP hw hK
  obtain⟨xs,x,hq,hx⟩:=hg
  obtain⟨its,rv,p,hz⟩:=I.list hq
  obtain⟨u,hu,ru⟩:=rv.get hx
  obtain⟨f0,f1,f2,f3,f4,f5⟩:=hf it (by simp)
  refine wpAny_pyNext_list_item st p.isList (x:=u) (by simpa using hu) fun h' st' sb=>?_
  have I1:Inv X pins σ H { s with heap:=h' }:=I.turned (t':=s.toks) (fun b o hb e=>(sb.2 b hb).trans e) f0 f1 f3 f4 f5
  obtain⟨o,e,c,d⟩:=id st'
  exact⟨u,rfl,go_of (s:={ s with heap:=h' }) e c d (by decide) ⟨x,H,I1,ru,⟨rfl,fun ys hy=>by rw[I.list_inj hy hq];exact hx⟩,st',fun b hb=>(hf b hb).1⟩⟩
 done:=by
  intro X hP hw hK hc i pins s σ H E I hf st hg
  subst hP hw hK
  obtain⟨xs,hq,hx⟩:=hg
  obtain⟨its,rv,p,hz⟩:=I.list hq
  obtain⟨f0,f1,f2,f3,f4,f5⟩:=hf it (by simp)
  have hl:=rv.length
  exact wpAny_pyNext_list_end (I.ok.hd hc) st p.isList (by simp;omega) fun h' eb=>⟨rfl,I.turned (t':=s.toks) (fun b o hb e=>eb b o hb e) f0 f1 f3 f4 f5⟩
 self:=fun _ _ _ _ _ st h=>wpAny_pyIter_listiter st h
theorem turn_tuple{P:Program}{w:World}{K:PySem.W.Frag}{tg:Expr}(a it:Addr):Turn P w K tg (Itt K a) [it] it (fun i h=>h.IsTupleIter it a i) where
 mem:=by simp
 obj:=fun i h st b hb=>by
  have e:b=it:=by simpa using hb
  subst e
  obtain⟨o,e,c,d⟩:=st
  exact⟨o,e,fun v z=>by rw[d] at z;cases z⟩
 keep:=fun i h h' st k=>st.at fun o e=>k it (by simp) o e
 item:=by
  intro X hP hw hK hc i pins s σ H E I hf st hg
  subst hP hw hK
  obtain⟨xs,x,hq,hx⟩:=hg
  obtain⟨its,rv,p,hz⟩:=I.tuple hq
  obtain⟨u,hu,ru⟩:=rv.get hx
  obtain⟨f0,f1,f2,f3,f4,f5⟩:=hf it (by simp)
  refine wpAny_pyNext_tuple_item st (show s.heap.IsTuple a its.toArray from p) (x:=u) (by simpa using hu) fun h' st' sb=>?_
  have I1:Inv X pins σ H { s with heap:=h' }:=I.turned (t':=s.toks) (fun b o hb e=>(sb.2 b hb).trans e) f0 f1 f3 f4 f5
  obtain⟨o,e,c,d⟩:=id st'
  exact⟨u,rfl,go_of (s:={ s with heap:=h' }) e c d (by decide) ⟨x,H,I1,ru,⟨rfl,fun ys hy=>by rw[I.tuple_inj hy hq];exact hx⟩,st',fun b hb=>(hf b hb).1⟩⟩
 done:=by
  intro X hP hw hK hc i pins s σ H E I hf st hg
  subst hP hw hK
  obtain⟨xs,hq,hx⟩:=hg
  obtain⟨its,rv,p,hz⟩:=I.tuple hq
  obtain⟨f0,f1,f2,f3,f4,f5⟩:=hf it (by simp)
  have hl:=rv.length
  exact wpAny_pyNext_tuple_end (I.ok.hd hc) st (show s.heap.IsTuple a its.toArray from p) (by simp;omega) fun h' eb=>⟨rfl,I.turned (t':=s.toks) (fun b o hb e=>eb b o hb e) f0 f1 f3 f4 f5⟩
 self:=fun _ _ _ _ _ st h=>wpAny_pyIter_tupleiter st h
theorem turn_range{P:Program}{w:World}{K:PySem.W.Frag}{tg:Expr}(it:Addr)(lo:Int)(n:Nat):Turn P w K tg (Itr lo n) [it] it (fun i h=>IsRangeIter h it (lo+(i:Nat)*1) ((n:Int) - (i:Nat)) 1) where
 mem:=by simp
 obj:=fun i h st b hb=>by
  have e:b=it:=by simpa using hb
  subst e
  exact⟨_,st,fun v z=>by
   have z':Data.fields _=Data.cell v:=z
   cases z'⟩
 keep:=fun i h h' st k=>k it (by simp) _ st
 item:=by
  intro X hP hw hK hc i pins s σ H E I hf st hg
  subst hP hw hK
  obtain⟨f0,f1,f2,f3,f4,f5⟩:=hf it (by simp)
  have W:=Walks.range (prog:=X.prog) (w:=X.w) (I.ok.hd hc) it lo 1 n
  refine W.item i s _ _ hg st fun v h' tk hv st' kk=>?_
  obtain⟨t,rfl⟩:=hv
  have I1:Inv X pins σ H { s with heap:=h',toks:=tk }:=I.turned (fun b o hb e=>kk b o (by simpa using hb) e) f0 f1 f3 f4 f5
  refine⟨_,rfl,go_of (s:={ s with heap:=h',toks:=tk }) (n := "range_iterator") st' rfl rfl (by decide) ⟨.int (lo+i),H,I1,⟨t,?_⟩,⟨rfl,rfl⟩,st',fun b hb=>(hf b hb).1⟩⟩
  rw[Int.mul_one]
 done:=by
  intro X hP hw hK hc i pins s σ H E I hf st hg
  subst hP hw hK
  obtain⟨f0,f1,f2,f3,f4,f5⟩:=hf it (by simp)
  exact wpAny_pyNext_range_end (I.ok.hd hc) st (by have:n≤i:=hg;omega) fun h' eb=>⟨rfl,I.turned (t':=s.toks) (fun b o hb e=>eb b o hb e) f0 f1 f3 f4 f5⟩
 self:=fun _ _ _ _ _ st h=>wpAny_pyIter_rangeiter st h
end L2
namespace L2
open PySem PySem.Spec PyProof.Rows
section
variable {X:Cx}{tg:Expr}
def iList(K:PySem.W.Frag)(tl:TE):TI:=fun σ H R=>tl σ H fun x H1=>∃ a,x=.ref a∧(∃ xs,SqL K H1 a xs)∧R (Itl K a) H1
def iTup(K:PySem.W.Frag)(tl:TE):TI:=fun σ H R=>tl σ H fun x H1=>∃ a,x=.ref a∧(∃ xs,SqT K H1 a xs)∧R (Itt K a) H1
theorem pi_list{l:Expr}{tl:TE}(hl:PE X l tl):PI X tg l (iList X.K tl):=by
 intro pins s σ H R I h
 refine thn (hl pins s σ H _ I h) fun v s1 ⟨x,H1,I1,r1,q1⟩=>?_
 obtain⟨a,e,⟨xs,hq⟩,q⟩:=q1
 subst e
 cases r1
 obtain⟨its,rv,p,hz⟩:=I1.list hq
 refine wpAny_pyIter_list p.isList ?_
 refine⟨s1.heap.objs.size,[s1.heap.objs.size],_,_,H1,rfl,I1.kept (t':=s1.toks) fun b o e=>Heap.get?_push_of_some _ e,turn_list a _,⟨_,Heap.get?_push_size _ rfl,rfl,rfl⟩,fun b hb=>?_,q⟩
 have e:b=s1.heap.objs.size:=by simpa using hb
 subst e
 exact I1.fpOk (Nat.le_refl _) (I1.hok.fresh (Nat.le_refl _))
theorem pi_tup{l:Expr}{tl:TE}(hl:PE X l tl):PI X tg l (iTup X.K tl):=by
 intro pins s σ H R I h
 refine thn (hl pins s σ H _ I h) fun v s1 ⟨x,H1,I1,r1,q1⟩=>?_
 obtain⟨a,e,⟨xs,hq⟩,q⟩:=q1
 subst e
 cases r1
 obtain⟨its,rv,p,hz⟩:=I1.tuple hq
 refine wpAny_pyIter_tuple (show s1.heap.IsTuple a its.toArray from p) ?_
 refine⟨s1.heap.objs.size,[s1.heap.objs.size],_,_,H1,rfl,I1.kept (t':=s1.toks) fun b o e=>Heap.get?_push_of_some _ e,turn_tuple a _,⟨_,Heap.get?_push_size _ rfl,rfl,rfl⟩,fun b hb=>?_,q⟩
 have e:b=s1.heap.objs.size:=by simpa using hb
 subst e
 exact I1.fpOk (Nat.le_refl _) (I1.hok.fresh (Nat.le_refl _))
theorem range_it{pins:List (Addr×Obj)}{σ:St}{H:Hp}{s:Shared}{R:It→Hp→Prop}{E:Value→Shared→Prop}{lo hi:Int}{t u v:Tok}{tk:Nat}(I:Inv X pins σ H s)(h1:-(2 ^ 62)≤lo)(h2:lo < 2 ^ 62)(h3:-(2 ^ 62)≤hi)(h4:hi < 2 ^ 62)
  (q:R (Itr lo (hi - lo).toNat) H):wpAny (model X.prog X.w) X.A (pyIter (.ref s.heap.objs.size)) (PIE X pins σ tg R) E { s with heap:=s.heap.push { cls:=.type "range", data:=.fields #[.int lo t,.int hi u,.int 1 v] },toks:=tk }:=by
 refine wpAny_pyIter_range (IsRange.new ..) (small_one h1 h2 h3 h4) ?_
 have I1:Inv X pins σ H { s with heap:=s.heap.push { cls:=.type "range", data:=.fields #[.int lo t,.int hi u,.int 1 v] },toks:=tk }:=I.kept fun b o e=>Heap.get?_push_of_some _ e
 refine⟨(s.heap.push { cls:=.type "range", data:=.fields #[.int lo t,.int hi u,.int 1 v] }).objs.size,[(s.heap.push { cls:=.type "range", data:=.fields #[.int lo t,.int hi u,.int 1 v] }).objs.size],_,_,H,rfl,
  I1.kept (t':=tk) fun b o e=>Heap.get?_push_of_some _ e,turn_range _ lo (hi - lo).toNat,?_,fun b hb=>?_,q⟩
 ·have e1:lo+((0:Nat):Int)*1=lo:=by simp
  have e2:(((hi - lo).toNat:Nat):Int) - ((0:Nat):Int)=Builtin.Range.rangeSize lo hi 1:=by rw[rangeSize_one];split<;>omega
  show IsRangeIter _ _ (lo+((0:Nat):Int)*1) ((((hi - lo).toNat:Nat):Int) - ((0:Nat):Int)) 1
  rw[e1,e2]
  exact Heap.get?_push_size _ rfl
 ·have e:b=(s.heap.push { cls:=.type "range", data:=.fields #[.int lo t,.int hi u,.int 1 v] }).objs.size:=by simpa using hb
  subst e
  exact I1.fpOk (Nat.le_refl _) (I1.hok.fresh (Nat.le_refl _))
def iRng1(ta:TA):TI:=fun σ H R=>ta σ H fun vs H1=>∃ j:Int,vs=[.int j]∧-(2 ^ 62)≤j∧j < 2 ^ 62∧R (Itr 0 j.toNat) H1
theorem pi_range1{a:Expr}{ta:TA}{p pos:Pos}(hg:Gl X "range")(hm:X.mg "range" = none)(ha:PA X [a] ta)(hs:starEach [a] X.env=[(false,eval a X.env)]:=by rfl):PI X tg (.Call (.Name "range" p) [a] [] pos) (iRng1 ta):=by
 intro pins s σ H R I h
 refine Call_ (ld_blt I hg hm boot_range (PyProof.Rows.callWith_type1 (thn (ha pos pins s σ H _ I h) fun us s1 ⟨vs,H1,I1,r1,q1⟩=>?_) hs rfl))
 obtain⟨j,e,q1,q2,q⟩:=q1
 subst e
 cases r1 with
 | cons r rr =>
  cases rr
  obtain⟨t,rfl⟩:=r
  exact call_range_1 (range_it I1 (by omega) (by omega) q1 q2 (by simpa using q))
def tFor(wi:TI)(g:TG)(tb:TS):TS:=fun D σ H=>wi σ H fun J H1=>∃ W:Nat→Nat→St→Hp→Prop,(∃ m,W 0 m σ H1)∧∀ i m σ H,W i m σ H →
 (J.stop i H∧D.nx σ H)∨(J.go i H∧∃ N:St→Hp→Prop,(∀ σ' H',N σ' H'→∃ m',m' < m∧W (i+1) m' σ' H')∧∀ x H',J.yld i H x H'→g x σ H' fun σ2 H2=>tb { D with nx:=N,ct:=N,bk:=D.nx } σ2 H2)
def pinsAt(fp:List Addr)(h:Heap):List (Addr×Obj):=fp.filterMap fun b=>(h.get? b).map fun o=>(b,o)
theorem mem_pinsAt{fp:List Addr}{h:Heap}{b:Addr}{o:Obj}(hb:b∈fp)(e:h.get? b=some o):(b,o)∈pinsAt fp h:=List.mem_filterMap.mpr ⟨b,hb,by rw[e];rfl⟩
theorem of_pinsAt{fp:List Addr}{h:Heap}{p:Addr×Obj}(hp:p∈pinsAt fp h):p.1∈fp∧h.get? p.1=some p.2:=by
 obtain⟨b,hb,e⟩:=List.mem_filterMap.mp hp
 cases q:h.get? b with
 | none=>rw[q] at e;cases e
 | some o =>
  rw[q] at e
  have e':(b,o)=p:=Option.some.inj e
  subst e'
  exact⟨hb,q⟩
theorem Inv.pinned{pins:List (Addr×Obj)}{σ:St}{H:Hp}{s:Shared}{fp:List Addr}(I:Inv X pins σ H s)(hf:∀ b∈fp,FpOk X pins H b)(ho:∀ b∈fp,∃ o,s.heap.get? b=some o∧∀ v,o.data≠.cell v):Inv X (pins++pinsAt fp s.heap) σ H s :=
 I.pins_of fun p hp=>(List.mem_append.mp hp).elim (fun z=>I.pin p (List.mem_append_right _ z)) fun z=>by
  obtain⟨hb,e⟩:=of_pinsAt z
  obtain⟨f0,f1,f2,_⟩:=hf p.1 hb
  obtain⟨o,e',d⟩:=ho p.1 hb
  rw[e] at e';cases e'
  exact⟨e,f0,f1,f2,d⟩
theorem Inv.unpinned{pins pl:List (Addr×Obj)}{σ:St}{H:Hp}{s:Shared}(I:Inv X (pins++pl) σ H s):Inv X pins σ H s:=I.pins_of fun p hp=>I.pin p (List.mem_append_right _ (List.mem_append_left _ hp))
theorem ps_for{iter:Expr}{body:List Stmt}{wi:TI}{g:TG}{tb:TS}{pos:Pos}(hp:PassesOwn (model X.prog X.w) X.A X.env X.xe)(hc:X.calm=true)(hi:PI X tg iter wi)(hg:PG X tg g)(hb:PSs X body tb)
  (hs:∀ x,foldedSetIterable iter X.env x=pure x:=by intro _;rfl):PS X (.For tg iter body [] pos) (tFor wi g tb):=by
 intro pins s σ H D I h
 refine wpAny_For (thn (hi pins s σ H _ I h) fun v s1 h1=>thn h1 fun itv s2 h2=>?_) hs
 obtain⟨it,fp,tn,J,H2,e,I2,T,st2,f2,W,⟨m0,w0⟩,turn⟩:=h2
 subst e
 have stat:∀{H':Hp},(∀ b∈fp,H' b=none)→∀ b∈fp,FpOk X pins H' b:=fun hn b hb=>⟨hn b hb,(f2 b hb).2⟩
 refine codeAny_forLoop_any (fun n s'=>∃ i σ' H',Inv X pins σ' H' s'∧tn i s'.heap∧(∀ b∈fp,H' b=none)∧W i n σ' H') ?_ m0 ⟨0,σ,H2,I2,st2,fun b hb=>(f2 b hb).1,w0⟩
 rintro n s3 ⟨i,σ3,H3,I3,st3,fr3,w3⟩
 rcases turn i n σ3 H3 w3 with ⟨stop,qn⟩ | ⟨go,N,hN,step⟩
 ·refine wpAny_passesOwn hp (thn (T.done X rfl rfl rfl hc i pins s3 σ3 H3 X.xe I3 (stat fr3) st3 stop) fun r s4 ⟨hr,I4⟩=>?_)
  subst hr
  exact wpAny_execs_nil ⟨σ3,H3,I4,qn⟩
 ·refine wpAny_passesOwn hp (thn (T.item X rfl rfl rfl hc i pins s3 σ3 H3 X.xe I3 (stat fr3) st3 go) fun r s4 ⟨u,hr,h4⟩=>?_)
  subst hr
  refine wpAny_passesOwn hp (thn h4 fun _ s5 ⟨x,H5,I5,r5,y5,st5,fr5⟩=>?_)
  have I5':=I5.pinned (stat fr5) (T.obj _ _ st5)
  refine wpAny_passesOwn hp (thn (hg _ s5 σ3 H5 x u _ I5' r5 (step x H5 y5)) fun _ s6 ⟨σ6,H6,I6,q6⟩=>?_)
  refine wpAny_passesOwn hp (thn (hb _ s6 σ6 H6 _ I6 q6) fun f s7 q7=>?_)
  have again:∀{σ7:St}{H7:Hp},Inv X (pins++pinsAt fp s5.heap) σ7 H7 s7→N σ7 H7→∃ m,m < n∧∃ i σ' H',Inv X pins σ' H' s7∧tn i s7.heap∧(∀ b∈fp,H' b=none)∧W i m σ' H':=fun {σ7 H7} I7 n7=>by
   obtain⟨m',hm,w7⟩:=hN σ7 H7 n7
   refine⟨m',hm,i+1,σ7,H7,I7.unpinned,T.keep _ _ _ st5 fun b hb o e=>(I7.pin (b,o) (List.mem_append_right _ (List.mem_append_right _ (mem_pinsAt hb e)))).1,fun b hb=>?_,w7⟩
   obtain⟨o,e,d⟩:=T.obj _ _ st5 b hb
   exact (I7.pin (b,o) (List.mem_append_right _ (List.mem_append_right _ (mem_pinsAt hb e)))).2.1
  cases f with
  | next=>obtain⟨σ7,H7,I7,n7⟩:=q7;exact again I7 n7
  | cont=>obtain⟨σ7,H7,I7,n7⟩:=q7;exact again I7 n7
  | brk=>obtain⟨σ7,H7,I7,q7⟩:=q7;exact⟨σ7,H7,I7.unpinned,q7⟩
  | ret v=>obtain⟨x7,σ7,H7,I7,r7,q7⟩:=q7;exact⟨x7,σ7,H7,I7.unpinned,r7,q7⟩
end
theorem for_list{K:PySem.W.Frag}{a:Addr}{xs:List V}{g:TG}{tb:TS}{D:Ends}{σ:St}{H:Hp}(Pv:Nat→St→Hp→Prop)(h0:Pv 0 σ H)(hl:∀ i σ H,i≤xs.length→Pv i σ H→SqL K H a xs)
  (hs:∀ i x σ H,xs[i]?=some x→Pv i σ H→g x σ H fun σ2 H2=>tb { D with nx:=Pv (i+1),ct:=Pv (i+1),bk:=D.nx } σ2 H2) (hd:∀ σ H,Pv xs.length σ H→D.nx σ H) :
  ∃ W:Nat→Nat→St→Hp→Prop,(∃ m,W 0 m σ H)∧∀ i m σ H,W i m σ H →
   ((Itl K a).stop i H∧D.nx σ H)∨((Itl K a).go i H∧∃ N:St→Hp→Prop,(∀ σ' H',N σ' H'→∃ m',m' < m∧W (i+1) m' σ' H')∧∀ x H',(Itl K a).yld i H x H'→g x σ H' fun σ2 H2=>tb { D with nx:=N,ct:=N,bk:=D.nx } σ2 H2):=by
 refine⟨fun i m σ H=>m=xs.length - i∧i≤xs.length∧Pv i σ H,⟨xs.length,by simp,Nat.zero_le _,h0⟩,?_⟩
 rintro i m σ H ⟨rfl,hi,p⟩
 have q:=hl i σ H hi p
 by_cases hlt:i < xs.length
 ·refine .inr ⟨⟨xs,xs[i],q,by simp[hlt]⟩,Pv (i+1),fun σ' H' p'=>⟨xs.length - (i+1),by omega,rfl,hlt,p'⟩,fun x H' y=>?_⟩
  obtain⟨e,y⟩:=y
  subst e
  exact hs i x σ _ (y xs q) p
 ·have e:i=xs.length:=by omega
  subst e
  exact .inl ⟨⟨xs,q,Nat.le_refl _⟩,hd σ H p⟩
theorem for_tup{K:PySem.W.Frag}{a:Addr}{xs:List V}{g:TG}{tb:TS}{D:Ends}{σ:St}{H:Hp}(Pv:Nat→St→Hp→Prop)(h0:Pv 0 σ H)(hl:∀ i σ H,i≤xs.length→Pv i σ H→SqT K H a xs)
  (hs:∀ i x σ H,xs[i]?=some x→Pv i σ H→g x σ H fun σ2 H2=>tb { D with nx:=Pv (i+1),ct:=Pv (i+1),bk:=D.nx } σ2 H2) (hd:∀ σ H,Pv xs.length σ H→D.nx σ H) :
  ∃ W:Nat→Nat→St→Hp→Prop,(∃ m,W 0 m σ H)∧∀ i m σ H,W i m σ H →
   ((Itt K a).stop i H∧D.nx σ H)∨((Itt K a).go i H∧∃ N:St→Hp→Prop,(∀ σ' H',N σ' H'→∃ m',m' < m∧W (i+1) m' σ' H')∧∀ x H',(Itt K a).yld i H x H'→g x σ H' fun σ2 H2=>tb { D with nx:=N,ct:=N,bk:=D.nx } σ2 H2):=by
 refine⟨fun i m σ H=>m=xs.length - i∧i≤xs.length∧Pv i σ H,⟨xs.length,by simp,Nat.zero_le _,h0⟩,?_⟩
 rintro i m σ H ⟨rfl,hi,p⟩
 have q:=hl i σ H hi p
 by_cases hlt:i < xs.length
 ·refine .inr ⟨⟨xs,xs[i],q,by simp[hlt]⟩,Pv (i+1),fun σ' H' p'=>⟨xs.length - (i+1),by omega,rfl,hlt,p'⟩,fun x H' y=>?_⟩
  obtain⟨e,y⟩:=y
  subst e
  exact hs i x σ _ (y xs q) p
 ·have e:i=xs.length:=by omega
  subst e
  exact .inl ⟨⟨xs,q,Nat.le_refl _⟩,hd σ H p⟩
theorem for_range{lo:Int}{n:Nat}{g:TG}{tb:TS}{D:Ends}{σ:St}{H:Hp}(Pv:Nat→St→Hp→Prop)(h0:Pv 0 σ H)
  (hs:∀ i σ H,i < n→Pv i σ H→g (.int (lo+i)) σ H fun σ2 H2=>tb { D with nx:=Pv (i+1),ct:=Pv (i+1),bk:=D.nx } σ2 H2) (hd:∀ σ H,Pv n σ H→D.nx σ H) :
  ∃ W:Nat→Nat→St→Hp→Prop,(∃ m,W 0 m σ H)∧∀ i m σ H,W i m σ H →
   ((Itr lo n).stop i H∧D.nx σ H)∨((Itr lo n).go i H∧∃ N:St→Hp→Prop,(∀ σ' H',N σ' H'→∃ m',m' < m∧W (i+1) m' σ' H')∧∀ x H',(Itr lo n).yld i H x H'→g x σ H' fun σ2 H2=>tb { D with nx:=N,ct:=N,bk:=D.nx } σ2 H2):=by
 refine⟨fun i m σ H=>m=n - i∧i≤n∧Pv i σ H,⟨n,by simp,Nat.zero_le _,h0⟩,?_⟩
 rintro i m σ H ⟨rfl,hi,p⟩
 by_cases hlt:i < n
 ·refine .inr ⟨hlt,Pv (i+1),fun σ' H' p'=>⟨n - (i+1),by omega,rfl,hlt,p'⟩,fun x H' y=>?_⟩
  obtain⟨e,y⟩:=y
  subst e y
  exact hs i σ _ hlt p
 ·have e:i=n:=by omega
  subst e
  exact .inl ⟨Nat.le_refl _,hd σ H p⟩
end L2
namespace L2
open PySem PySem.Spec PyProof.Rows
abbrev R2:=V→V→Hp→VK→Prop
def OpR(X:Cx)(f:Value→Value→Sem Value)(r:R2):Prop :=
 ∀ (pins:List (Addr×Obj)) (s:Shared) (σ:St) (H:Hp) (x y:V) (v u:Value) (Q:VK),Inv X pins σ H s→RelV x v→RelV y u→r x y H Q →
  wpAny (model X.prog X.w) X.A (f v u) (EP X pins σ Q) X.xe s
def UnR(X:Cx)(f:Value→Sem Value)(r:V→Hp→VK→Prop):Prop :=
 ∀ (pins:List (Addr×Obj)) (s:Shared) (σ:St) (H:Hp) (x:V) (v:Value) (Q:VK),Inv X pins σ H s→RelV x v→r x H Q →
  wpAny (model X.prog X.w) X.A (f v) (EP X pins σ Q) X.xe s
def CallR(X:Cx)(f:Value)(r:List V→Hp→VK→Prop):Prop :=
 ∀ (pins:List (Addr×Obj)) (s:Shared) (σ:St) (H:Hp) (xs:List V) (us:List Value) (Q:VK),Inv X pins σ H s→Vals xs us→r xs H Q →
  wpAny (model X.prog X.w) X.A (call f us) (EP X pins σ Q) X.xe s
def tOp(r:R2)(ta tb:TE):TE:=fun σ H Q=>ta σ H fun x H1=>tb σ H1 fun y H2=>r x y H2 Q
def tUn(r:V→Hp→VK→Prop)(ta:TE):TE:=fun σ H Q=>ta σ H fun x H1=>r x H1 Q
def rI(C:Int→Int→Prop)(g:Int→Int→V):R2:=fun x y H Q=>∃ i j,x=.int i∧y=.int j∧C i j∧Q (g i j) H
def rI0(g:Int→Int→V):R2:=fun x y H Q=>∃ i j,x=.int i∧y=.int j∧Q (g i j) H
def rU(g:Int→V):V→Hp→VK→Prop:=fun x H Q=>∃ i,x=.int i∧Q (g i) H
section
variable {X:Cx}{a b c:Expr}{ta tb tc:TE}{pos:Pos}
theorem binT(ha:PE X a ta)(hb:PE X b tb){pins:List (Addr×Obj)}{s:Shared}{σ:St}{H:Hp}{R:V→V→Hp→Prop}(I:Inv X pins σ H s)
  (h:ta σ H fun x H1=>tb σ H1 fun y H2=>R x y H2) {Q:Value→Shared→Prop} {f:Value→Value→Sem Value}
  (hf:∀ v u s2 x y H2,Inv X pins σ H2 s2→RelV x v→RelV y u→R x y H2→wpAny (model X.prog X.w) X.A (f v u) Q X.xe s2) :
  wpAny (model X.prog X.w) X.A (eval a X.env) (fun v s₁=>wpAny (model X.prog X.w) X.A (eval b X.env) (fun u s₂=>wpAny (model X.prog X.w) X.A (f v u) Q X.xe s₂) X.xe s₁) X.xe s:=by
 refine thn (ha pins s σ H _ I h) fun v s1 ⟨x,H1,I1,r1,q1⟩=>?_
 refine thn (hb pins s1 σ H1 _ I1 q1) fun u s2 ⟨y,H2,I2,r2,q2⟩=>?_
 exact hf v u s2 x y H2 I2 r1 r2 q2
theorem pe_op{op:Operator}{r:R2}(ho:OpR X (binaryOp op) r)(ha:PE X a ta)(hb:PE X b tb):PE X (.BinOp a op b pos) (tOp r ta tb):=by
 intro pins s σ H Q I h
 exact wpAny_BinOp (binT ha hb I h fun v u s2 x y H2 I2 rx ry q=>ho pins s2 σ H2 x y v u Q I2 rx ry q)
theorem pe_un{op:UnaryOp}{r:V→Hp→VK→Prop}(ho:UnR X (unaryOp op) r)(ha:PE X a ta):PE X (.UnaryOp op a pos) (tUn r ta):=by
 intro pins s σ H Q I h
 exact UnaryOp_ (thn (ha pins s σ H _ I h) fun v s1 ⟨x,H1,I1,r1,q1⟩=>ho pins s1 σ H1 x v Q I1 r1 q1)
theorem opI{f:Value→Value→Sem Value}{C:Int→Int→Prop}{g:Int→Int→Int}
  (rule:∀(i j:Int)(t u:Tok)(s:Shared)(Q:Value→Shared→Prop)(E:Value→Shared→Prop),C i j→Q (.int (g i j) s.toks) { s with toks:=s.toks+1 }→wpAny (model X.prog X.w) X.A (f (.int i t) (.int j u)) Q E s) :
  OpR X f (rI C fun i j=>.int (g i j)):=by
 intro pins s σ H x y v u Q I rx ry h
 obtain⟨i,j,rfl,rfl,hc,q⟩:=h
 obtain⟨t,rfl⟩:=rx
 obtain⟨t',rfl⟩:=ry
 exact rule i j t t' s _ _ hc ⟨.int (g i j),H,I.tok _,⟨_,rfl⟩,q⟩
theorem opI0{f:Value→Value→Sem Value}{g:Int→Int→Int}
  (rule:∀(i j:Int)(t u:Tok)(s:Shared)(Q:Value→Shared→Prop)(E:Value→Shared→Prop),Q (.int (g i j) s.toks) { s with toks:=s.toks+1 }→wpAny (model X.prog X.w) X.A (f (.int i t) (.int j u)) Q E s) :
  OpR X f (rI0 fun i j=>.int (g i j)):=by
 intro pins s σ H x y v u Q I rx ry h
 obtain⟨i,j,rfl,rfl,q⟩:=h
 obtain⟨t,rfl⟩:=rx
 obtain⟨t',rfl⟩:=ry
 exact rule i j t t' s _ _ ⟨.int (g i j),H,I.tok _,⟨_,rfl⟩,q⟩
theorem opB0{f:Value→Value→Sem Value}{g:Int→Int→Bool}
  (rule:∀(i j:Int)(t u:Tok)(s:Shared)(Q:Value→Shared→Prop)(E:Value→Shared→Prop),Q (.bool (g i j)) s→wpAny (model X.prog X.w) X.A (f (.int i t) (.int j u)) Q E s) :
  OpR X f (rI0 fun i j=>.bl (g i j)):=by
 intro pins s σ H x y v u Q I rx ry h
 obtain⟨i,j,rfl,rfl,q⟩:=h
 obtain⟨t,rfl⟩:=rx
 obtain⟨t',rfl⟩:=ry
 exact rule i j t t' s _ _ ⟨.bl (g i j),H,I,rfl,q⟩
def CPow(i j:Int):Prop:=0≤j∧j≤1000000∧i.natAbs < 2 ^ 64
def CMul(i j:Int):Prop:=(-(2 ^ 64) < i∧i < 2 ^ 64)∨(-(2 ^ 64) < j∧j < 2 ^ 64)
theorem op_add:OpR X (binaryOp .Add) (rI0 fun i j=>.int (i+j)):=opI0 fun _ _ _ _ _ _ _ q=>add_int q
theorem op_sub:OpR X (binaryOp .Sub) (rI0 fun i j=>.int (i - j)):=opI0 fun _ _ _ _ _ _ _ q=>sub_int q
theorem op_mod:OpR X (binaryOp .Mod) (rI (fun _ j=>0 < j) fun i j=>.int (i % j)):=opI fun i j _ _ _ _ _ hc q=>by
 have h1:(0:Int) < j:=hc
 exact mod_int' (by omega) (by rw[Int.fmod_eq_emod_of_nonneg i (by omega)];exact q)
theorem op_pow:OpR X (binaryOp .Pow) (rI CPow fun i j=>.int (i ^ j.toNat)):=opI fun _ _ _ _ _ _ _ hc q=>pow_int_small hc.1 hc.2.1 hc.2.2 q
theorem unI{f:Value→Sem Value}{g:Int→Int}
  (rule:∀(i:Int)(t:Tok)(s:Shared)(Q:Value→Shared→Prop)(E:Value→Shared→Prop),Q (.int (g i) s.toks) { s with toks:=s.toks+1 }→wpAny (model X.prog X.w) X.A (f (.int i t)) Q E s) :
  UnR X f (rU fun i=>.int (g i)):=by
 intro pins s σ H x v Q I rx h
 obtain⟨i,rfl,q⟩:=h
 obtain⟨t,rfl⟩:=rx
 exact rule i t s _ _ ⟨.int (g i),H,I.tok _,⟨_,rfl⟩,q⟩
theorem un_neg:UnR X (unaryOp .USub) (rU fun i=>.int (-i)):=unI fun _ _ _ _ _ q=>neg_int q
end
def scal:V→V→Bool
 | .non,.non=>true | .non,.int _=>true | .int _,.non=>true | .non,.bl _=>true | .bl _,.non=>true | .non,.str _=>true | .str _,.non=>true
 | .int _,.int _=>true | .bl _,.bl _=>true | .str _,.str _=>true | .byt _,.byt _=>true
 | .int _,.str _=>true | .str _,.int _=>true | .bl _,.str _=>true | .str _,.bl _=>true
 | _,_=>false
def rEq:R2:=fun x y H Q=>scal x y=true∧Q (.bl (decide (x=y))) H
def rNe:R2:=fun x y H Q=>scal x y=true∧Q (.bl (!decide (x=y))) H
theorem dec_int{i j:Int}:decide (V.int i=V.int j)=(i == j):=by
 rw[Bool.eq_iff_iff]
 simp
theorem dec_bl{i j:Bool}:decide (V.bl i=V.bl j)=(i == j):=by
 rw[Bool.eq_iff_iff]
 simp
theorem dec_str{i j:Str}:decide (V.str i=V.str j)=(i == j):=by
 rw[Bool.eq_iff_iff]
 simp
theorem dec_byt{i j:Array UInt8}:decide (V.byt i=V.byt j)=(i.toList == j.toList):=by
 rw[Bool.eq_iff_iff]
 cases i
 cases j
 simp
section
variable {X:Cx}{a b c:Expr}{ta tb tc:TE}{pos:Pos}
theorem fin_bl{pins:List (Addr×Obj)}{σ:St}{H:Hp}{s:Shared}{Q:VK}{k k':Bool}(I:Inv X pins σ H s)(q:Q (.bl k) H)(e:k=k'):EP X pins σ Q (.bool k') s:=by
 subst e
 exact⟨.bl k,H,I,rfl,q⟩
theorem op_eq:OpR X (compareOp .Eq) rEq:=by
 intro pins s σ H x y v u Q I rx ry h
 obtain⟨hs,q⟩:=h
 cases x with
 | non =>
  cases rx
  cases y with
  | non=>cases ry;exact PySem.EqNone.eq_none_none (fin_bl I q (by simp))
  | bl j=>cases ry;exact PySem.EqNone.eq_none_bool (fin_bl I q (by simp))
  | int j=>obtain⟨t',rfl⟩:=ry;exact PySem.EqNone.eq_none_int (fin_bl I q (by simp))
  | str j=>obtain⟨t',rfl⟩:=ry;exact PySem.EqNone.eq_none_str (fin_bl I q (by simp))
  | _=>exact absurd (show false=true from hs) Bool.false_ne_true
 | bl i =>
  cases rx
  cases y with
  | non=>cases ry;exact PySem.EqNone.eq_bool_none (fin_bl I q (by simp))
  | bl j=>cases ry;exact eq_bool (fin_bl I q dec_bl)
  | str j=>obtain⟨t',rfl⟩:=ry;exact PySem.EqMixed.eq_bool_str (fin_bl I q (by simp))
  | _=>exact absurd (show false=true from hs) Bool.false_ne_true
 | int i =>
  obtain⟨t,rfl⟩:=rx
  cases y with
  | non=>cases ry;exact PySem.EqNone.eq_int_none (fin_bl I q (by simp))
  | int j=>obtain⟨t',rfl⟩:=ry;exact eq_int (fin_bl I q dec_int)
  | str j=>obtain⟨t',rfl⟩:=ry;exact PySem.EqMixed.eq_int_str (fin_bl I q (by simp))
  | _=>exact absurd (show false=true from hs) Bool.false_ne_true
 | str i =>
  obtain⟨t,rfl⟩:=rx
  cases y with
  | non=>cases ry;exact PySem.EqNone.eq_str_none (fin_bl I q (by simp))
  | bl j=>cases ry;exact PySem.EqMixed.eq_str_bool (fin_bl I q (by simp))
  | int j=>obtain⟨t',rfl⟩:=ry;exact PySem.EqMixed.eq_str_int (fin_bl I q (by simp))
  | str j=>obtain⟨t',rfl⟩:=ry;exact eq_str (fin_bl I q dec_str)
  | _=>exact absurd (show false=true from hs) Bool.false_ne_true
 | byt i =>
  obtain⟨t,rfl⟩:=rx
  cases y with
  | byt j=>obtain⟨t',rfl⟩:=ry;exact PySem.W.eq_bytes (fin_bl I q dec_byt)
  | _=>exact absurd (show false=true from hs) Bool.false_ne_true
 | _=>cases y<;>exact absurd (show false=true from hs) Bool.false_ne_true
theorem op_ne:OpR X (compareOp .NotEq) rNe:=by
 intro pins s σ H x y v u Q I rx ry h
 obtain⟨hs,q⟩:=h
 cases x with
 | non =>
  cases rx
  cases y with
  | non=>cases ry;exact PySem.EqNone.ne_none_none (fin_bl I q (by simp))
  | bl j=>cases ry;exact PySem.EqNone.ne_none_bool (fin_bl I q (by simp))
  | int j=>obtain⟨t',rfl⟩:=ry;exact PySem.EqNone.ne_none_int (fin_bl I q (by simp))
  | str j=>obtain⟨t',rfl⟩:=ry;exact PySem.EqNone.ne_none_str (fin_bl I q (by simp))
  | _=>exact absurd (show false=true from hs) Bool.false_ne_true
 | bl i =>
  cases rx
  cases y with
  | non=>cases ry;exact PySem.EqNone.ne_bool_none (fin_bl I q (by simp))
  | bl j=>cases ry;exact ne_bool (fin_bl I q (congrArg not dec_bl))
  | str j=>obtain⟨t',rfl⟩:=ry;exact PySem.EqMixed.ne_bool_str (fin_bl I q (by simp))
  | _=>exact absurd (show false=true from hs) Bool.false_ne_true
 | int i =>
  obtain⟨t,rfl⟩:=rx
  cases y with
  | non=>cases ry;exact PySem.EqNone.ne_int_none (fin_bl I q (by simp))
  | int j=>obtain⟨t',rfl⟩:=ry;exact ne_int (fin_bl I q (congrArg not dec_int))
  | str j=>obtain⟨t',rfl⟩:=ry;exact PySem.EqMixed.ne_int_str (fin_bl I q (by simp))
  | _=>exact absurd (show false=true from hs) Bool.false_ne_true
 | str i =>
  obtain⟨t,rfl⟩:=rx
  cases y with
  | non=>cases ry;exact PySem.EqNone.ne_str_none (fin_bl I q (by simp))
  | bl j=>cases ry;exact PySem.EqMixed.ne_str_bool (fin_bl I q (by simp))
  | int j=>obtain⟨t',rfl⟩:=ry;exact PySem.EqMixed.ne_str_int (fin_bl I q (by simp))
  | str j=>obtain⟨t',rfl⟩:=ry;exact ne_str (fin_bl I q (congrArg not dec_str))
  | _=>exact absurd (show false=true from hs) Bool.false_ne_true
 | byt i =>
  obtain⟨t,rfl⟩:=rx
  cases y with
  | byt j=>obtain⟨t',rfl⟩:=ry;exact PySem.W.ne_bytes (fin_bl I q (congrArg not dec_byt))
  | _=>exact absurd (show false=true from hs) Bool.false_ne_true
 | _=>cases y<;>exact absurd (show false=true from hs) Bool.false_ne_true
theorem op_lt:OpR X (compareOp .Lt) (rI0 fun i j=>.bl (decide (i < j))):=opB0 fun _ _ _ _ _ _ _ q=>lt_int q
theorem op_le:OpR X (compareOp .LtE) (rI0 fun i j=>.bl (decide (i≤j))):=opB0 fun _ _ _ _ _ _ _ q=>le_int q
theorem op_gt:OpR X (compareOp .Gt) (rI0 fun i j=>.bl (decide (j < i))):=opB0 fun _ _ _ _ _ _ _ q=>gt_int q
theorem op_ge:OpR X (compareOp .GtE) (rI0 fun i j=>.bl (decide (j≤i))):=opB0 fun _ _ _ _ _ _ _ q=>ge_int q
theorem nomark(b:Expr){op:CmpOp}(h:op≠.In:=by decide)(h2:op≠.NotIn:=by decide):behindInMarks op b=false:=by
 have e1:(op == CmpOp.In)=false:=by cases op<;>first | rfl | exact absurd rfl h
 have e2:(op == CmpOp.NotIn)=false:=by cases op<;>first | rfl | exact absurd rfl h2
 cases b<;>simp[behindInMarks,e1,e2]
theorem pe_cmpR{op:CmpOp}{r:R2}(ho:OpR X (compareOp op) r)(ha:PE X a ta)(hb:PE X b tb)(hm:behindInMarks op b=false):PE X (.Compare a [op] [b] pos) (tOp r ta tb):=by
 intro pins s σ H Q I h
 exact wpAny_Compare1 (binT ha hb I h fun v u s2 x y H2 I2 rx ry q=>ho pins s2 σ H2 x y v u Q I2 rx ry q) hm
def tTest(t:TE):TT:=fun σ H Q=>t σ H fun x H'=>∃ k,x=.bl k∧Q k H'
theorem pt_cmpR{op:CmpOp}{r:R2}(ho:OpR X (compareOp op) r)(ha:PE X a ta)(hb:PE X b tb)(hm:behindInMarks op b=false):PT X (.Compare a [op] [b] pos) (tTest (tOp r ta tb)):=by
 intro pins s σ H Q I h
 refine wpAny_isTrue_Compare1 (thn (ha pins s σ H _ I h) fun v s1 ⟨x,H1,I1,r1,q1⟩=>thn (hb pins s1 σ H1 _ I1 q1) fun u s2 ⟨y,H2,I2,r2,q2⟩ =>
  thn (ho pins s2 σ H2 x y v u _ I2 r1 r2 q2) fun c s3 ⟨z,H3,I3,r3,k,e,q3⟩=>?_) hm
 subst e
 cases r3
 exact wpAny_truthy_bool ⟨H3,I3,q3⟩
def tChain(r r':R2)(ta tb tc:TE):TE:=fun σ H Q=>ta σ H fun x H1=>tb σ H1 fun y H2=>r x y H2 fun z H3=>∃ k,z=.bl k ∧
 (if k=true then tc σ H3 fun w' H4=>r' y w' H4 Q else Q (.bl false) H3)
theorem line63:(sizeLine:Nat) < 2 ^ 63:=by rw[sizeLine_eq];decide
theorem vals1{x:V}{us:List Value}(r:Vals [x] us):∃ u,us=[u]∧RelV x u:=by
 cases r with
 | cons r1 r2=>cases r2;exact⟨_,rfl,r1⟩
theorem vals2{x y:V}{us:List Value}(r:Vals [x,y] us):∃ u w',us=[u,w']∧RelV x u∧RelV y w':=by
 cases r with
 | cons r1 r2 =>
  cases r2 with
  | cons r3 r4=>cases r4;exact⟨_,_,rfl,r1,r3⟩
theorem call_abs:CallR X (.builtin "abs") (fun xs H Q=>∃ i,xs=[.int i]∧Q (.int (if i < 0 then -i else i)) H):=by
 intro pins s σ H xs us Q I r h
 obtain⟨i,rfl,q⟩:=h
 obtain⟨u,rfl,t,rfl⟩:=vals1 r
 exact call_abs_int fun u tk=>⟨.int (if i < 0 then -i else i),H,I.tok _,⟨_,rfl⟩,q⟩
theorem call_max2(hc:X.calm=true):CallR X (.builtin "max") (fun xs H Q=>∃ i j,xs=[.int i,.int j]∧Q (.int (if j > i then j else i)) H):=by
 intro pins s σ H xs us Q I r h
 obtain⟨i,j,rfl,q⟩:=h
 obtain⟨u,w',rfl,⟨t,rfl⟩,⟨t',rfl⟩⟩:=vals2 r
 refine max_two_ints (I.ok.hd hc) fun h' tk k=>⟨_,H,I.kept k,?_,q⟩
 by_cases hj:j > i
 ·rw[if_pos hj,if_pos hj];exact⟨_,rfl⟩
 ·rw[if_neg hj,if_neg hj];exact⟨_,rfl⟩
theorem call_min2(hc:X.calm=true):CallR X (.builtin "min") (fun xs H Q=>∃ i j,xs=[.int i,.int j]∧Q (.int (if j < i then j else i)) H):=by
 intro pins s σ H xs us Q I r h
 obtain⟨i,j,rfl,q⟩:=h
 obtain⟨u,w',rfl,⟨t,rfl⟩,⟨t',rfl⟩⟩:=vals2 r
 refine min_two_ints (I.ok.hd hc) fun h' tk k=>⟨_,H,I.kept k,?_,q⟩
 by_cases hj:j < i
 ·rw[if_pos hj,if_pos hj];exact⟨_,rfl⟩
 ·rw[if_neg hj,if_neg hj];exact⟨_,rfl⟩
end
end L2
namespace L2
open PySem PySem.Spec PyProof.Rows
structure ObjM(h:Heap)(x dx C:Addr)(mA:Str→Option Value):Prop where
 obj:h.get? x=some (PySem.W.instObj C dx)
 ns:h.Ns1 dx mA
 ne:dx≠x
theorem lookIn_ns{h:Heap}{dx:Addr}{mA:Str→Option Value}(n:h.Ns1 dx mA):∃ od,h.get? dx=some od∧∀ name,PySem.W.lookIn name od=some (mA name):=by
 obtain⟨o,es,ep,ho,hd,hk,_,hm⟩:=n
 refine⟨o,ho,fun name=>?_⟩
 have e:=hm name
 unfold nsFind findBy at e
 rw[← Array.find?_toList] at e
 unfold PySem.W.lookIn
 rw[hd]
 dsimp only
 split
 ·rename_i y q
  rw[q] at e
  exact congrArg some e
 ·rename_i q
  rw[q] at e
  have a:es.toList.any (·.refKey)=false:=by
   rw[List.any_eq_false]
   intro y hy
   obtain⟨z,t,hkey⟩:=hk y (Array.mem_toList_iff.mp hy)
   simp[DictEntry.refKey,hkey]
  have a':¬ es.toList.any (·.refKey)=true:=by rw[a];exact Bool.false_ne_true
  rw[if_neg a']
  exact congrArg some e
theorem ObjM.look{h:Heap}{x dx C:Addr}{mA:Str→Option Value}(I:ObjM h x dx C mA):∃ od,PySem.W.InstAt h x (PySem.W.instObj C dx) C (some od)∧∀ name,PySem.W.lookIn name od=some (mA name) :=
 let ⟨od,ho,hl⟩:=lookIn_ns I.ns
 ⟨od,⟨I.obj,rfl,rfl,ho⟩,hl⟩
section
variable {prog:Program}{w:World}{A:Around}{E:Value→Shared→Prop}{s:Shared}{K:PySem.W.Frag}{x dx C f:Addr}{mA:Str→Option Value}{name:Str}{v:Value}
end
def putF(f:Str)(v:V):List (Str×V)→List (Str×V)
 | []=>[(f,v)]
 | (g,x)::r=>if g=f then (g,v)::r else (g,x)::putF f v r
theorem RelO.some_of{v:V}{o:Option Value}(r:RelO (some v) o):∃ u,o=some u∧RelV v u:=by
 cases o with
 | none=>exact (show False from r).elim
 | some u=>exact⟨u,rfl,r⟩
theorem handed_of{v:V}{u:Value}(r:RelV v u):PySem.W.handedIn u=true:=by
 cases v with
 | non=>cases (show u=Value.none from r);rfl
 | bl b=>cases (show u=Value.bool b from r);rfl
 | int i=>obtain⟨t,e⟩:=(show ∃ t,u=Value.int i t from r);cases e;rfl
 | str x=>obtain⟨t,e⟩:=(show ∃ t,u=Value.str x t from r);cases e;rfl
 | byt b=>obtain⟨t,e⟩:=(show ∃ t,u=Value.bytes b t from r);cases e;rfl
 | flt b=>obtain⟨t,e⟩:=(show ∃ t,u=Value.float b t from r);cases e;rfl
 | ref a=>cases (show u=Value.ref a from r);rfl
 | ty n=>cases (show u=Value.type n from r);rfl
section
variable {P:Program}{w:World}{H H':Hp}{h h':Heap}{a C dx:Addr}{fs fs':List (Str×V)}
theorem ins_get(hok:HOk P w H h)(e:H a=some (.ins C dx fs)):∃ mA,ObjM h a dx C mA∧(∀ f,RelO (fs.lookup f) (mA f))∧PySem.Within mA (fs.map (·.1))∧fs.length≤1000∧H dx=some (.own a):=by
 obtain⟨d,z,ne,ob,mA,n,r,q⟩:=(show ObjOk P w H h a (.ins C dx fs) from hok a _ e)
 exact⟨mA,⟨ob,n,ne⟩,r,q,z,d⟩
end
structure Cls(K:PySem.W.Frag)(C:Addr):Prop where
 pg:PySem.W.plainGet K C Str.empty=true
 hd:PySem.W.hasDictIn K C=true
 po:PySem.W.plainOver K C=true
 sa:PySem.W.findIn K (.ref C) "__setattr__" = some (some (.builtin "object.__setattr__"))
theorem Cls.get{K:PySem.W.Frag}{C:Addr}(c:Cls K C)(f:Str):PySem.W.plainGet K C f=true:=c.pg
structure Con(K:PySem.W.Frag)(C:Addr)(f:Str)(v:V)(u:Value):Prop where
 at_:PySem.W.findIn K (.ref C) f=some (some u)
 rel:RelV v u
 get:PySem.W.specialIn K u "__get__" = some none
 cp:PySem.W.copiedNames.contains f=false
structure Meth(K:PySem.W.Frag)(C:Addr)(m:Str)(f:Addr):Prop where
 at_:PySem.W.findIn K (.ref C) m=some (some (.ref f))
 fn:PySem.W.isFn K (.ref f)=true
 kp:PySem.W.keepIn K (.ref f)=true
section
variable {X:Cx}{pins:List (Addr×Obj)}{σ:St}{H:Hp}{s:Shared}{a C dx:Addr}{fs:List (Str×V)}{f:Str}{v:V}{A:Around}{E:Value→Shared→Prop}
theorem attr_of{prog:Program}{w:World}{env:Env}{e:Expr}{f:Str}{pos:Pos}{s:Shared}{Q:Value→Shared→Prop}(hb:attributeBase e f env (eval e env)=eval e env)
  (h:wpAny (model prog w) A (eval e env) (fun o s₁=>wpAny (model prog w) A (getAttr o f true) Q E s₁) E s):wpAny (model prog w) A (eval (.Attribute e f pos) env) Q E s :=
 Attribute_any_ h (by rw[arm_eval_Attribute,hb])
end
section
variable {X:Cx}{o e value:Expr}{f:Str}{pos pos' tpos:Pos}{ta tv:TE}
end
section
variable {X:Cx}{pins:List (Addr×Obj)}{σ:St}{H:Hp}{s:Shared}{A:Around}{E:Value→Shared→Prop}{Q:Value→Shared→Prop}{c:Value}{b:Bool}
inductive TyOf (K:PySem.W.Frag) (H:Hp):V→Value→Prop where
 | non:TyOf K H .non (.type "NoneType")
 | bl (x:Bool):TyOf K H (.bl x) (.type "bool")
 | int (i:Int):TyOf K H (.int i) (.type "int")
 | str (x:Str):TyOf K H (.str x) (.type "str")
 | flt (x:UInt64):TyOf K H (.flt x) (.type "float")
 | lst {a:Addr} {xs:List V} (e:H a=some (.lst xs)):TyOf K H (.ref a) (.type "list")
 | frz {a:Addr} {o:Obj} {xs:List V} (e:H a=some (.frz o (.lst xs))):TyOf K H (.ref a) (.type "list")
 | tup {a:Addr} {xs:List V} (e:H a=some (.tup xs)):TyOf K H (.ref a) (.type "tuple")
 | dK {a:Addr} {kvs:List (Key×V)} (e:H a=some (.dK kvs)):TyOf K H (.ref a) (.type "dict")
 | dT {a:Addr} {kvs:List (List Key×V)} (e:H a=some (.dT kvs)):TyOf K H (.ref a) (.type "dict")
 | ins {a C dx:Addr} {fs:List (Str×V)} (e:H a=some (.ins C dx fs)) (cl:Cls K C) (ha:PySem.W.findIn K (.ref C) "__class__" = some (some (.builtin "object.__class__")))
   (hn:PySem.W.specialIn K (.builtin "object.__class__") "__get__" = some (some (.builtin "getset_descriptor.__get__"))) (htk:PySem.W.takesIn K (.builtin "object.__class__")=some true)
   (hm:PySem.W.mroIn K C (.type "object")=some true):TyOf K H (.ref a) (.ref C)
theorem isinst_ok{x:V}{u t:Value}(I:Inv X pins σ H s)(rx:RelV x u)(ty:TyOf X.K H x t)(e:PySem.W.kitOne X.K t c=some b)(h:∀ tk,Q (.bool b) { s with toks:=tk }) :
  wpAny (model X.prog X.w) A (call (.builtin "isinstance") [u,c]) Q E s:=by
 cases ty with
 | non=>cases (show u=Value.none from rx);exact PySem.W.kia_one PySem.W.kitx_none I.kIn True.intro e (fun z=>nomatch z) h
 | bl y=>cases (show u=Value.bool y from rx);exact PySem.W.kia_one PySem.W.kitx_bool I.kIn True.intro e (fun z=>nomatch z) h
 | int i=>obtain⟨t,q⟩:=(show ∃ t,u=Value.int i t from rx);cases q;exact PySem.W.kia_one PySem.W.kitx_int I.kIn True.intro e (fun z=>nomatch z) h
 | str y=>obtain⟨t,q⟩:=(show ∃ t,u=Value.str y t from rx);cases q;exact PySem.W.kia_one PySem.W.kitx_str I.kIn True.intro e (fun z=>nomatch z) h
 | flt y=>obtain⟨t,q⟩:=(show ∃ t,u=Value.float y t from rx);cases q;exact PySem.W.kia_one PySem.W.kitx_float I.kIn True.intro e (fun z=>nomatch z) h
 | @lst a xs ea =>
  cases (show u=Value.ref a from rx)
  obtain⟨_,_,n,_,h1⟩:=(show ObjOk X.prog X.w H s.heap a (.lst xs) from I.hok a _ ea)
  exact PySem.W.kia_one PySem.W.kitx_list I.kIn ⟨_,h1,rfl⟩ e (fun z=>nomatch z) h
 | @frz a ob xs ea =>
  cases (show u=Value.ref a from rx)
  obtain⟨_,_,_,n,_,h1⟩:=(show ObjOk X.prog X.w H s.heap a (.frz ob (.lst xs)) from I.hok a _ ea)
  exact PySem.W.kia_one PySem.W.kitx_list I.kIn ⟨_,h1,rfl⟩ e (fun z=>nomatch z) h
 | @tup a xs ea =>
  cases (show u=Value.ref a from rx)
  obtain⟨_,_,_,p⟩:=(show ObjOk X.prog X.w H s.heap a (.tup xs) from I.hok a _ ea)
  obtain⟨o,h1,h2,_⟩:=p
  exact PySem.W.kia_one PySem.W.kitx_tuple I.kIn ⟨o,h1,h2⟩ e (fun z=>nomatch z) h
 | @dK a kvs ea =>
  cases (show u=Value.ref a from rx)
  obtain⟨_,_,vs,_,p⟩:=(show ObjOk X.prog X.w H s.heap a (.dK kvs) from I.hok a _ ea)
  obtain⟨o,es,ep,h1,h2,_⟩:=p
  exact PySem.W.kia_one PySem.W.kitx_dict I.kIn ⟨o,h1,h2.1⟩ e (fun z=>nomatch z) h
 | @dT a kvs ea =>
  cases (show u=Value.ref a from rx)
  obtain⟨_,_,xs,_,o,es,ep,h1,h2,_⟩:=(show ObjOk X.prog X.w H s.heap a (.dT kvs) from I.hok a _ ea)
  exact PySem.W.kia_one PySem.W.kitx_dict I.kIn ⟨o,h1,h2.1⟩ e (fun z=>nomatch z) h
 | @ins a C dx fs ea cl ha hn htk hm =>
  cases (show u=Value.ref a from rx)
  obtain⟨mA,O,_⟩:=ins_get I.hok ea
  obtain⟨od,J,_⟩:=O.look
  exact PySem.W.kia_one (PySem.W.kitx_own (cl.get _) cl.hd ha hn htk hm) I.kIn J e (fun z=>nomatch z) h
end
end L2
namespace L2
open PySem PySem.Spec PyProof.Rows
structure Room(k:Nat)(A:Around):Prop where
 hd:A.handled=none
 dp:A.depth+3*k+5 < recursionLimit
 un:A.units+16*k+200 < cLine
theorem Room.mono{j k:Nat}{A:Around}(r:Room k A)(h:j≤k):Room j A:=⟨r.hd,by have:=r.dp;omega,by have:=r.un;omega⟩
theorem Room.deeper{k:Nat}{A:Around}(r:Room (k+1) A)(env:Env):Room k (A.deeper env) :=
 ⟨r.hd,by have:=r.dp;show A.depth+1+3*k+5 < _;omega,by have:=r.un;show A.units+3+16*k+200 < _;omega⟩
theorem make_depth{A:Around}{C:Addr}{us:List Value}{kw:List (Str×Value)}:(A.under (.builtin "type.__call__" ⟨.ref C::us,kw⟩)).depth=A.depth+1:=by
 first | rfl | simp[Around.under,Code.weight,Code.isCreation,Code.isGuard,Code.isCaller,Code.frames,Code.isFrame,guardIds]
theorem make_units{A:Around}{C:Addr}{us:List Value}{kw:List (Str×Value)}:(A.under (.builtin "type.__call__" ⟨.ref C::us,kw⟩)).units=A.units+1:=by
 first | rfl | simp[Around.under,Code.cUnits,Code.frames,Code.isFrame]
theorem Room.make{k:Nat}{A:Around}(r:Room (k+1) A)(C:Addr)(us:List Value)(kw:List (Str×Value)):Room k (A.under (.builtin "type.__call__" ⟨.ref C::us,kw⟩)) :=
 ⟨r.hd,by have:=r.dp;rw[make_depth];omega,by have:=r.un;rw[make_units];omega⟩
theorem Room.depth{k:Nat}{A:Around}(r:Room k A):A.depth < recursionLimit:=by have:=r.dp;omega
theorem Room.units{k:Nat}{A:Around}(r:Room k A):A.units+64 < cLine:=by have:=r.un;omega
def tNil:TA:=fun _ H Q=>Q [] H
def tCons(ta:TE)(tr:TA):TA:=fun σ H Q=>ta σ H fun x H1=>tr σ H1 fun xs H2=>Q (x::xs) H2
section
variable {X:Cx}{e:Expr}{es:List Expr}{te:TE}{t:TA}{pos:Pos}
theorem pa_nil:PA X [] tNil:=fun _ _ _ _ H Q I h=>Calls.spliced_nil ⟨[],H,I,.nil,h⟩
theorem pa_cons(ha:PE X e te)(hr:PA X es t)(hs:starEach (e::es) X.env=(false,eval e X.env)::starEach es X.env:=by rfl):PA X (e::es) (tCons te t):=by
 intro pos pins s σ H Q I h
 rw[hs]
 show wpAny _ _ (spliced ((false,eval e X.env)::backTo pos (starEach es X.env))) _ _ s
 refine Calls.spliced_cons (thn (ha pins s σ H _ I h) fun u s1 ⟨x,H1,I1,r1,q1⟩=>?_)
 exact thn (hr pos pins s1 σ H1 _ I1 q1) fun us s2 ⟨xs,H2,I2,r2,q2⟩=>⟨x::xs,H2,I2,.cons r1 r2,q2⟩
def tTup(t:TA):TE:=fun σ H Q=>t σ H fun xs H1=>xs.length≤sizeLine∧∀ p,H1 p=none→Q (.ref p) (upd H1 p (.tup xs))
def tLst(t:TA):TE:=fun σ H Q=>t σ H fun xs H1=>xs.length≤sizeLine∧∀ p,H1 p=none→Q (.ref p) (upd H1 p (.lst xs))
theorem pe_tup{x1}(h:PA X es t):PE X (.Tuple es x1 pos) (tTup t):=by
 intro pins s σ H Q I hq
 refine wpAny_Tuple_spliced (thn (h pos pins s σ H _ I hq) fun us s1 ⟨xs,H1,I1,r,z,q⟩=>⟨by rw[← r.length];exact z,?_⟩)
 have hf:H1 s1.heap.objs.size=none:=I1.hok.fresh (Nat.le_refl _)
 refine⟨.ref s1.heap.objs.size,upd H1 s1.heap.objs.size (.tup xs),I1.laid (t':=s1.toks) (fun b u e=>Heap.get?_push_of_some _ e) (Nat.le_refl _) ?_,rfl,q _ hf⟩
 exact⟨z,us,r,⟨_,Heap.get?_push_size _ rfl,rfl,_,rfl⟩⟩
theorem pe_lst(h:PA X es t):PE X (.List es pos) (tLst t):=by
 intro pins s σ H Q I hq
 refine wpAny_List_spliced (thn (h pos pins s σ H _ I hq) fun us s1 ⟨xs,H1,I1,r,z,q⟩=>⟨by rw[← r.length];exact z,?_⟩)
 have hf:H1 s1.heap.objs.size=none:=I1.hok.fresh (Nat.le_refl _)
 refine⟨.ref s1.heap.objs.size,upd H1 s1.heap.objs.size (.lst xs),I1.laid (t':=s1.toks) (fun b u e=>Heap.get?_push_of_some _ e) (Nat.le_refl _) ?_,rfl,q _ hf⟩
 exact⟨z,us,0,r,Heap.get?_push_size _ rfl⟩
end
abbrev Sp:=List V→Hp→VK→XK→Prop
abbrev CXT:=List Env→Hp→Shared→XK→Value→Shared→Prop
structure Env0(P:Program)(w:World)(K:PySem.W.Frag)(mg:Str→Option Value)(base:Heap)(A:Around)(outer:List Env)(s:Shared)(H:Hp):Prop where
 frames:A.frames=some outer
 mod:Mod K mg base
 bs:∀ b o,base.get? b=some o→s.heap.get? b=some o∧H b=none
 bsz:base.objs.size≤s.heap.objs.size
 funs:s.heap.FunFrames base outer
 frf:∀ b∈frs outer,H b=none
 hok:HOk P w H s.heap
 bare:AllBare s.gens
def CE(outer:List Env)(P:Program)(w:World)(H:Hp)(s:Shared)(Q:VK)(u:Value)(s':Shared):Prop :=
 ∃ v H',s'.os=s.os∧AllBare s'.gens∧Un (frs outer) [] H H' s.heap s'.heap∧HOk P w H' s'.heap∧RelV v u∧Q v H'
def CR(CX:CXT)(outer:List Env)(P:Program)(w:World)(H:Hp)(s:Shared)(Q:VK)(E:XK)(r:Result)(s':Shared):Prop :=
 match r with
 | .ok (.ret u)=>CE outer P w H s Q u s'
 | .ok _=>False
 | .error e=>CX outer H s E e s'
structure FnOk(P:Program)(w:World)(K:PySem.W.Frag)(mg:Str→Option Value)(base:Heap)(CX:CXT)(k:Nat)(f:Addr)(fd:FuncData)(ps:List Str)(sp:Sp):Prop where
 len:∀ vs H Q E,sp vs H Q E→vs.length=ps.length
 run:∀(A:Around)(outer:List Env)(s:Shared)(H:Hp)(args:Args)(us:List Value)(vs:List V)(Q:VK)(E:XK),Room k A→Env0 P w K mg base A outer s H→BindsTo s fd args (ps.zip us)→Vals vs us→sp vs H Q E →
  codeAny (model P w) A (.call (.ref f) args) (CR CX outer P w H s Q E) s
theorem Env0.make{P:Program}{w:World}{K:PySem.W.Frag}{mg:Str→Option Value}{base:Heap}{A:Around}{outer:List Env}{s:Shared}{H:Hp}(e:Env0 P w K mg base A outer s H)(C:Addr)(us:List Value)(kw:List (Str×Value)) :
  Env0 P w K mg base (A.under (.builtin "type.__call__" ⟨.ref C::us,kw⟩)) outer s H:=⟨by first | exact e.frames | (simpa [Around.under,Code.envs,Code.isFrame,pushEnvs] using e.frames),e.mod,e.bs,e.bsz,e.funs,e.frf,e.hok,e.bare⟩
section
variable {X:Cx}{pins:List (Addr×Obj)}{σ:St}{H:Hp}{s s':Shared}
theorem Inv.env0(I:Inv X pins σ H s):Env0 X.prog X.w X.K X.mg X.base X.A X.stack s H :=
 ⟨I.ok.frames,I.ok.mod,I.bs,Nat.le_trans I.ok.bsz I.sz,I.stack,I.stkFree,I.hok,I.bare⟩
theorem Inv.after{Q:VK}{u:Value}(I:Inv X pins σ H s)(h:CE X.stack X.prog X.w H s Q u s'):EP X pins σ Q u s':=by
 obtain⟨v,H',os,bare,un,hok,r,q⟩:=h
 obtain⟨hh,g,d,t,os'⟩:=s'
 obtain rfl:os'=s.os:=os
 exact⟨v,H',I.call (h':=hh) (g':=g) (d':=d) (t':=t) (ch:=[]) un hok bare (fun b z=>absurd z (by simp)),r,q⟩
end
def tCall(sp:Sp)(dvs:List V)(E:XK)(t:TA):TE:=fun σ H Q=>t σ H fun vs H1=>sp (vs++dvs) H1 Q E
def Binds(K:PySem.W.Frag)(fd:FuncData)(ps:List Str)(ds:List Value):Prop :=
 ∀(s:Shared)(us:List Value),K.In s.heap→(us++ds).length=ps.length→BindsTo s fd ⟨us,[]⟩ (ps.zip (us++ds))
theorem Binds.all{K:PySem.W.Frag}{fd:FuncData}{ps:List Str}(h:∀ us:List Value,us.length=ps.length→bindArgs fd ⟨us,[]⟩=pure (ps.zip us)):Binds K fd ps []:=fun s us _ hl=>by
 rw[List.append_nil] at hl ⊢
 exact .of_eq (h us hl)
def Passes(CX:CXT)(X:Cx)(E:XK):Prop:=∀ (pins:List (Addr×Obj)) (σ:St) (H:Hp) (s:Shared) (e:Value) (s':Shared),Inv X pins σ H s→CX X.stack H s E e s'→X.xe e s'
section
variable {X:Cx}{CX:CXT}{k:Nat}{f C:Addr}{fd:FuncData}{ps:List Str}{sp:Sp}{dvs:List V}{ds:List Value}{E:XK}{x m:Str}{p pos apos:Pos}{e o:Expr}{es:List Expr}{ta:TE}{t:TA}
theorem run_fn{pins:List (Addr×Obj)}{σ:St}{H:Hp}{s:Shared}{Q:VK}{us:List Value}{vs:List V}(F:FnOk X.prog X.w X.K X.mg X.base CX k f fd ps sp)(hr:Room k X.A)(hb:Binds X.K fd ps ds)(hd:Vals dvs ds)(hx:Passes CX X E)
  (I:Inv X pins σ H s) (r:Vals vs us) (h:sp (vs++dvs) H Q E):wpAny (model X.prog X.w) X.A (call (.ref f) us) (EP X pins σ Q) X.xe s:=by
 have r2:Vals (vs++dvs) (us++ds):=r.append hd
 have hl:(us++ds).length=ps.length:=by rw[← r2.length];exact F.len _ _ _ _ h
 refine wpAny_call (codeAny_mono (F.run X.A X.stack s H ⟨us,[]⟩ (us++ds) (vs++dvs) Q E hr I.env0 (hb s us I.kIn hl) r2 h) fun r s' hq=>?_)
 cases r with
 | error e=>exact hx pins σ H s e s' I hq
 | ok fl =>
  cases fl with
  | ret u=>exact I.after hq
  | next=>exact False.elim hq
  | brk=>exact False.elim hq
  | cont=>exact False.elim hq
theorem pe_call(F:FnOk X.prog X.w X.K X.mg X.base CX k f fd ps sp)(hr:Room k X.A)(hg:Gl X x)(hm:X.mg x=some (.ref f))(hk:PySem.W.keepIn X.K (.ref f)=true)(hb:Binds X.K fd ps ds)(hd:Vals dvs ds)(hx:Passes CX X E)
  (ha:PA X (e::es) t) (hdb:(x == ("__debug__" : Str))=false:=by decide) (he:starEach (e::es) X.env=(false,eval e X.env)::starEach es X.env:=by rfl) (hpl:(backTo pos (starEach es X.env)).any (·.1)=false:=by rfl) :
  PE X (.Call (.Name x p) (e::es) [] pos) (tCall sp dvs E t):=by
 intro pins s σ H Q I h
 refine wpAny_Call_Name_kw (ld_glob I hg hm ?_ hdb)
 refine PySem.W.callWith_K (h₀:=X.base) I.ok.mod.kin hk (thn (ha pos pins s σ H _ I h) fun us s1 ⟨vs,H1,I1,r,q⟩=>⟨I1.kIn,?_⟩) he hpl
 exact run_fn F hr hb hd hx I1 r q
structure Mk(K:PySem.W.Frag)(C f:Addr):Prop where
 makes:PySem.W.makesIn K C=true
 init:PySem.W.findIn K (.ref C) "__init__" = some (some (.ref f))
 fn:PySem.W.isFn K (.ref f)=true
 kp:PySem.W.keepIn K (.ref C)=true
end
section
variable {X:Cx}{CX:CXT}{k:Nat}{f C:Addr}{fd:FuncData}{ps ks:List Str}{sp:Sp}{E:XK}{x m:Str}{p pos apos kpos:Pos}{e o:Expr}{es:List Expr}{kws:List Keyword}{te ta:TE}{t tk:TA}{nm:Option Str}
structure KBinds(K:PySem.W.Frag)(fd:FuncData)(ps ks:List Str)(g:List Value→List Value→List Value)(gV:List V→List V→List V):Prop where
 to:∀(s:Shared)(us ws:List Value),K.In s.heap→(g us ws).length=ps.length→BindsTo s fd ⟨us,ks.zip ws⟩ (ps.zip (g us ws))
 rel:∀{vs:List V}{us:List Value}{zs:List V}{ws:List Value},Vals vs us→Vals zs ws→Vals (gV vs zs) (g us ws)
variable {g:List Value→List Value→List Value}{gV:List V→List V→List V}
end
structure FnScope(N P:List Str)(sc:Scope):Prop where
 kind:sc.kind=.function
 co:sc.isCoroutine=false
 gen:sc.isGenerator=false
 nd:N.Nodup
 pre:N.take P.length=P
 par:∀ x∈P,sc.names.lookup x=some .local∨sc.names.lookup x=some .cell
 nofree:∀ y∈sc.names,y.2≠.free
theorem bindL_out{kindOf:Str→Option NameKind}{x:Str}:∀ {binds:List (Str×Value)} {m:Str→Option Value},(∀ v,(x,v)∉binds)→bindL kindOf binds m x=m x
 | [],_,_=>rfl
 | (n,v)::r,m,h=>by
  unfold bindL
  rw[bindL_out fun w hw=>h w (List.mem_cons_of_mem _ hw)]
  split
  ·have:x≠n:=by rintro rfl;exact h v List.mem_cons_self
   simp[this]
  ·rfl
theorem bindC_out{kindOf:Str→Option NameKind}{x:Str}:∀ {binds:List (Str×Value)} {m:Str→Option Value},(∀ v,(x,v)∉binds)→bindC kindOf binds m x=m x
 | [],_,_=>rfl
 | (n,v)::r,m,h=>by
  unfold bindC
  rw[bindC_out fun w hw=>h w (List.mem_cons_of_mem _ hw)]
  split
  ·rfl
  ·have:x≠n:=by rintro rfl;exact h v List.mem_cons_self
   simp[this]
theorem bindL_get{kindOf:Str→Option NameKind}{x:Str}{v:Value}:∀{P:List Str}{vs:List Value}{i:Nat}{m:Str→Option Value},P.Nodup→P[i]?=some x→vs[i]?=some v→kindOf x=some .local →
  bindL kindOf (P.zip vs) m x=some v
 | [],_,_,_,_,h,_,_=>by simp at h
 | _::_,[],_,_,_,_,h,_=>by simp at h
 | p::P,w::vs,0,m,nd,h1,h2,hk=>by
  simp at h1 h2;subst h1;subst h2
  show bindL kindOf ((p,w)::P.zip vs) m p=_
  unfold bindL
  rw[bindL_out fun v hv=>(List.nodup_cons.mp nd).1 (List.of_mem_zip hv).1,if_pos hk]
  simp
 | p::P,w::vs,i+1,m,nd,h1,h2,hk=>by
  show bindL kindOf ((p,w)::P.zip vs) m x=_
  unfold bindL
  exact bindL_get (i:=i) (List.nodup_cons.mp nd).2 (by simpa using h1) (by simpa using h2) hk
theorem bindC_get{kindOf:Str→Option NameKind}{x:Str}{v:Value}:∀{P:List Str}{vs:List Value}{i:Nat}{m:Str→Option Value},P.Nodup→P[i]?=some x→vs[i]?=some v→kindOf x≠some .local →
  bindC kindOf (P.zip vs) m x=some v
 | [],_,_,_,_,h,_,_=>by simp at h
 | _::_,[],_,_,_,_,h,_=>by simp at h
 | p::P,w::vs,0,m,nd,h1,h2,hk=>by
  simp at h1 h2;subst h1;subst h2
  show bindC kindOf ((p,w)::P.zip vs) m p=_
  unfold bindC
  rw[bindC_out fun v hv=>(List.nodup_cons.mp nd).1 (List.of_mem_zip hv).1,if_neg hk]
  simp
 | p::P,w::vs,i+1,m,nd,h1,h2,hk=>by
  show bindC kindOf ((p,w)::P.zip vs) m x=_
  unfold bindC
  exact bindC_get (i:=i) (List.nodup_cons.mp nd).2 (by simpa using h1) (by simpa using h2) hk
def start(N:List Str)(vs:List V):St:=vs.map some++List.replicate (N.length - vs.length) none
def cxOf(CX:CXT)(P:Program)(w:World)(K:PySem.W.Frag)(mg:Str→Option Value)(base:Heap)(N:List Str)(qual:Str)(scope:Scope)(f:Addr)(cd:Value)(A:Around)(outer:List Env)(s:Shared)(H:Hp)(E:XK):Cx where
 prog:=P
 w:=w
 K:=K
 mg:=mg
 base:=base
 A:=A.deeper (envOfC qual scope s.heap.objs.size f cd)
 N:=N
 s₀:=s
 H₀:=H
 env:=envOfC qual scope s.heap.objs.size f cd
 outer:=outer
 stack:=envOfC qual scope s.heap.objs.size f cd::outer
 ex:=[]
 calm:=true
 fn:=fun _=>true
 pn:=[]
 xe:=fun e s'=>wpAny (model P w) (A.deeper (envOfC qual scope s.heap.objs.size f cd)) (leaving (envOfC qual scope s.heap.objs.size f cd) e) (fun _ s''=>CX outer H s E e s'') (fun e' s''=>CX outer H s E e' s'') s'
theorem cell_has{sc:Scope}{n:Nat}{x:Str}(h:sc.names.lookup x=some .cell):∃ c,(cellsFrom n sc.names []).lookup x=some c:=by
 have q:=PySem.W.cellsFrom_some sc.names n [] (.inl h)
 exact Option.isSome_iff_exists.mp q
theorem inv_start{CX:CXT}{P:Program}{w:World}{K:PySem.W.Frag}{mg:Str→Option Value}{base:Heap}{N ps:List Str}{qual:Str}{scope:Scope}{f:Addr}{cd:Value}{A:Around}{outer:List Env}{s s1:Shared}{H:Hp}{E:XK}{us:List Value}{vs:List V}
  (S:FnScope N ps scope) (hd:A.handled=none) (e0:Env0 P w K mg base A outer s H) (hl:vs.length=ps.length) (r:Vals vs us)
  (x:InCallC s s.heap.objs.size (bindL (envOfC qual scope s.heap.objs.size f cd).kindOf (ps.zip us) fun _=>none) (cellsFrom (s.heap.objs.size+1) scope.names []) (bindC (envOfC qual scope s.heap.objs.size f cd).kindOf (ps.zip us) fun _=>none) s1) :
  Inv (cxOf CX P w K mg base N qual scope f cd A outer s H E) [] (start N vs) H s1:=by
 have hpl:ps.length≤N.length:=by have:=congrArg List.length S.pre;rw[List.length_take] at this;omega
 obtain⟨h1,tk,rfl,hk⟩:=x.done
 have noA:∀ b:Addr,b∉(cxOf CX P w K mg base N qual scope f cd A outer s H E).ex:=fun b z=>absurd (show b∈([]:List Addr) from z) (by simp)
 refine⟨⟨e0.mod,S.kind,rfl,rfl,Nat.le_refl _,fun y z c h1 h2=>?_,fun y hy=>?_,fun y c _ h=>?_,fun _=>hd,Around.frames_deeper e0.frames,.inr ⟨rfl,rfl⟩,fun b z=>absurd z (noA b),e0.bs,e0.bsz,fun b _ _=>noA b,fun b z=>absurd z (noA b),e0.funs,e0.frf⟩,
  rfl,e0.bare,Un.kept hk,⟨_,x.toInCall.ns,fun i y v h1 h2 h3=>?_⟩,fun y c h=>⟨_,x.cell y c h⟩,e0.hok.fresh (Nat.le_refl _),fun y c h=>?_,fun p hp=>absurd (show p∈([]:List (Addr×Obj)) from hp) (by simp),e0.hok.kept hk,?_⟩
 ·exact name_of_addr x.apart (PySem.mem_of_lookup h1) (PySem.mem_of_lookup h2)
 ·have hy:scope.names.lookup y=some .cell∨scope.names.lookup y=some .free:=hy
  rcases hy with hy | hy
  ·exact cell_has hy
  ·exact absurd rfl (S.nofree _ (PySem.mem_of_lookup hy))
 ·exact Nat.le_of_lt (x.above y c (PySem.mem_of_lookup h))
 ·have hi:i < vs.length:=by
   unfold start at h2
   by_cases hi:i < vs.length
   ·exact hi
   ·rw[List.getElem?_append_right (by simpa using hi)] at h2
    rw[List.getElem?_replicate] at h2
    split at h2<;>cases h2
  have ha:vs[i]?=some v:=by
   unfold start at h2
   rw[List.getElem?_append_left (by simpa using hi),List.getElem?_map] at h2
   cases e:vs[i]? with
   | none=>rw[e] at h2;cases h2
   | some a=>rw[e] at h2;cases h2;rfl
  obtain⟨u,hu,rv⟩:=r.get ha
  have hp:ps[i]?=some y:=by
   rw[← S.pre,List.getElem?_take_of_lt (by omega)];exact h1
  have ndP:ps.Nodup:=by rw[← S.pre];exact S.nd.sublist (List.take_sublist _ _)
  refine⟨u,rv,?_⟩
  rcases S.par y (List.mem_of_getElem? hp) with k | k
  ·exact .inl ⟨k,bindL_get ndP hp hu k⟩
  ·obtain⟨c,e⟩:=cell_has (n:=s.heap.objs.size+1) k
   refine .inr ⟨.inl k,c,e,?_⟩
   have q:=x.cell y c e
   rw[bindC_get ndP hp hu (by show scope.names.lookup y≠_;rw[k];decide)] at q
   exact q
 ·exact e0.hok.fresh (Nat.le_of_lt (x.above y c (PySem.mem_of_lookup h)))
 ·unfold start
  show _=N.length
  rw[List.length_append,List.length_map,List.length_replicate]
  omega
theorem fn_of{CX:CXT}{P:Program}{w:World}{K:PySem.W.Frag}{mg:Str→Option Value}{base:Heap}{k:Nat}{f:Addr}{name qual:Str}{params:Arguments}{body:List Stmt}{scope:Scope}{dV kV doc pm cdv ct oc:Value}{an od:Option Addr}
  {osl:Array (Option Value)} {N ps:List Str} {sp:Sp} (lk:K.lookup f=some ⟨oc,od,.func (PySem.W.fnOf name qual params body scope dV kV doc pm an cdv ct),osl⟩) (hcd:PySem.W.codeIn K cdv qual=true) (S:FnScope N ps scope)
  (len:∀ vs H Q E,sp vs H Q E→vs.length=ps.length)
  (hbody:∀(A:Around)(outer:List Env)(s:Shared)(H:Hp)(vs:List V)(Q:VK)(E:XK),Room k (A.deeper (envOfC qual scope s.heap.objs.size f cdv))→sp vs H Q E →
   ∃ t,PSs (cxOf CX P w K mg base N qual scope f cdv A outer s H E) body t∧t { nx:=fun _ H'=>Q .non H',rt:=Q } (start N vs) H) :
  FnOk P w K mg base CX (k+1) f (PySem.W.fnOf name qual params body scope dV kV doc pm an cdv ct) ps sp:=by
 refine⟨len,fun A outer s H args us vs Q E hr e0 hb r hsp=>?_⟩
 have hl:=len _ _ _ _ hsp
 have KX:K.In s.heap:=e0.mod.kin.keeps fun b o e=>(e0.bs b o e).1
 have lim:s.heap.NoLimit:=e0.mod.nolimit.keeps fun b o e=>(e0.bs b o e).1
 have hkind:∀ y∈ps.zip us,scope.names.lookup y.1=some .local∨(scope.names.lookup y.1=some .cell∧((cellsFrom (s.heap.objs.size+1) scope.names []).lookup y.1).isSome=true):=fun ⟨n,v⟩ hy=>by
  rcases S.par n (List.of_mem_zip hy).1 with q | q
  ·exact .inl q
  ·exact .inr ⟨q,PySem.W.cellsFrom_some _ _ _ (.inl q)⟩
 refine codeAny_call_function hr.depth (KX _ _ lk) rfl S.co S.gen rfl (PySem.W.codeRec_of KX hcd) (hb _ _ _ _ ?_)
 refine wpAny_newFunctionEnv_cells S.kind hkind fun env he s1 x=>?_
 subst he
 refine⟨lim.keeps x.toInCall.keep,codeAny_func ?_⟩
 obtain⟨t,ht,hq⟩:=hbody A outer s H vs Q E (hr.deeper _) hsp
 have I:Inv (cxOf CX P w K mg base N qual scope f cdv A outer s H E) [] (start N vs) H s1:=inv_start S hr.hd e0 hl r x
 refine wpAny_mono (ht [] s1 (start N vs) H _ I hq) (fun fl s' hs=>?_) fun e s' hs=>hs
 have fin:∀{σ':St}{H':Hp}{v:V}{u:Value},Inv (cxOf CX P w K mg base N qual scope f cdv A outer s H E) [] σ' H' s'→RelV v u→Q v H'→CE outer P w H s Q u s' :=
  fun {σ' H' v u} J rv q=>⟨v,H',J.os,J.bare,J.base,J.hok,rv,q⟩
 cases fl with
 | ret u =>
  obtain⟨v,σ',H',J,rv,q⟩:=hs
  exact fin J rv q
 | next =>
  obtain⟨σ',H',J,q⟩:=hs
  exact fin (v:=V.non) (u:=Value.none) J rfl q
 | brk =>
  obtain⟨_,_,_,q⟩:=hs
  exact False.elim q
 | cont =>
  obtain⟨_,_,_,q⟩:=hs
  exact False.elim q
end L2
namespace L2
open PySem PySem.Spec PyProof.Rows
section
variable {X:Cx}{x:Str}{p pos:Pos}{e:Expr}{es:List Expr}{t:TA}{id T:String}{r:List V→Hp→VK→Prop}
def tCB(r:List V→Hp→VK→Prop)(t:TA):TE:=fun σ H Q=>t σ H fun vs H1=>r vs H1 Q
theorem pe_callB(hc:CallR X (.builtin id) r)(hg:Gl X x)(hm:X.mg x=none)(hv:bootBuiltins x=some (.builtin id))(ha:PA X (e::es) t)(hn:x ≠ "__name__" := by decide)(hdb:(x == ("__debug__" : Str))=false:=by decide)
  (he:starEach (e::es) X.env=(false,eval e X.env)::starEach es X.env:=by rfl) (hpl:(backTo pos (starEach es X.env)).any (·.1)=false:=by rfl):PE X (.Call (.Name x p) (e::es) [] pos) (tCB r t):=by
 intro pins s σ H Q I h
 refine wpAny_Call_Name_kw (ld_blt I hg hm hv ?_ hn hdb)
 exact PyProof.Rows.callWith_builtin1 (thn (ha pos pins s σ H _ I h) fun us s1 ⟨vs,H1,I1,r1,q1⟩=>hc pins s1 σ H1 vs us Q I1 r1 q1) he hpl
theorem pe_callTy(hc:CallR X (.type T) r)(hg:Gl X x)(hm:X.mg x=none)(hv:bootBuiltins x=some (.type T))(ha:PA X (e::es) t)(hn:x ≠ "__name__" := by decide)(hdb:(x == ("__debug__" : Str))=false:=by decide)
  (he:starEach (e::es) X.env=(false,eval e X.env)::starEach es X.env:=by rfl) (hpl:(backTo pos (starEach es X.env)).any (·.1)=false:=by rfl):PE X (.Call (.Name x p) (e::es) [] pos) (tCB r t):=by
 intro pins s σ H Q I h
 refine wpAny_Call_Name_kw (ld_blt I hg hm hv ?_ hn hdb)
 exact PyProof.Rows.callWith_type1 (thn (ha pos pins s σ H _ I h) fun us s1 ⟨vs,H1,I1,r1,q1⟩=>hc pins s1 σ H1 vs us Q I1 r1 q1) he hpl
end
end L2
namespace HT
open PySem PyProof.Rows
section
open PySem.SeqAt
open PySem.AutoSeq1 (wpAny_loadPart')
open PySem.MeetsSeq PySem.MeetsSeq2 PySem.MeetsSeq3
end
section
variable {prog:Program}{w:World}{A:Around}{E:Value→Shared→Prop}{s:Shared}
theorem cat_tup{t b:Addr}{vs ws:List Value}{Q:Value→Shared→Prop}(ht:IsTup s.heap t vs.toArray)(hb:IsTup s.heap b ws.toArray)(hv:vs≠[])
  (h1:ws=[]→Q (.ref t) s) (h2:ws≠[]→Q (.ref s.heap.objs.size) { s with heap:=s.heap.push { cls:=.type "tuple", data:=.seq (vs++ws).toArray } })
  (hsz:vs.length+ws.length≤sizeLine):wpAny (model prog w) A (binaryOp .Add (.ref t) (.ref b)) Q E s:=by
 obtain⟨⟨cls,dd,data,sl⟩,ho,hc,n,hd⟩:=id ht
 obtain⟨⟨cls2,dd2,data2,sl2⟩,ho2,hc2,n2,hd2⟩:=id hb
 simp only at hc hd hc2 hd2
 subst hc hd hc2 hd2
 have e:vs.toArray++ws.toArray=(vs++ws).toArray:=by simp
 by_cases hw:ws=[]
 ·exact concat_meets ⟨_,ho,rfl⟩ ⟨_,ho2,rfl⟩ noFill_tuple_add seq_tuple_add PySem.F.slot_tuple_add PySem.F.entry_tuple_add (PySem.F.args_tuple_add_2 _ _)
   (tuple_addW1 t b vs.toArray ws.toArray n n2 dd dd2 sl sl2 (by simpa using hv) (by simp[hw])) ⟨ho,ho2,h1 hw⟩
 ·refine concat_meets ⟨_,ho,rfl⟩ ⟨_,ho2,rfl⟩ noFill_tuple_add seq_tuple_add PySem.F.slot_tuple_add PySem.F.entry_tuple_add (PySem.F.args_tuple_add_2 _ _)
   (tuple_addW2 t b vs.toArray ws.toArray n n2 dd dd2 sl sl2 (by simpa using hv) (by simpa using hw) (by rw[List.size_toArray,List.size_toArray];exact hsz)) ⟨ho,ho2,?_⟩
  rw[e]
  exact h2 hw
def sIx(n d:Nat):Option Int→Nat
 | none=>d
 | some v=>if v < 0 then (v+(n:Int)).toNat else min v.toNat n
theorem sIx_none(n d:Nat):sIx n d none=d:=rfl
theorem sIx_nat(n d k:Nat):sIx n d (some (k:Int))=min k n:=by
 show (if (k:Int) < 0 then ((k:Int)+(n:Int)).toNat else min (k:Int).toNat n)=min k n
 rw[if_neg (by omega),Int.toNat_natCast]
theorem sIx_le(n d:Nat)(hd:d≤n)(o:Option Int):sIx n d o≤n:=by
 cases o with
 | none=>exact hd
 | some v =>
  show (if v < 0 then (v+(n:Int)).toNat else min v.toNat n)≤n
  by_cases hv:v < 0
  ·rw[if_pos hv];omega
  ·rw[if_neg hv];exact Nat.min_le_right _ _
theorem clip_eq(v:Int)(n d:Nat):(if v < 0 then max (v+(n:Int)) 0 else min v (n:Int))=((sIx n d (some v):Nat):Int):=by
 show (if v < 0 then max (v+(n:Int)) 0 else min v (n:Int))=(((if v < 0 then (v+(n:Int)).toNat else min v.toNat n):Nat):Int)
 by_cases hv:v < 0
 ·simp only[if_pos hv];omega
 ·simp only[if_neg hv];omega
theorem adjust_gen(lo hi:Option Int)(n:Nat):Builtin.Slice.sliceAdjust lo hi 1 (n:Int)=(((sIx n 0 lo:Nat):Int),((sIx n n hi:Nat):Int)):=by
 have h1:¬ ((1:Int) < 0):=by omega
 unfold Builtin.Slice.sliceAdjust
 simp only[h1,if_false]
 refine Prod.ext ?_ ?_
 ·cases lo with
  | none=>rfl
  | some v=>exact clip_eq v n 0
 ·cases hi with
  | none=>rfl
  | some v=>exact clip_eq v n n
theorem places_gen(i j:Nat):Builtin.Slice.slicePlaces (i:Int) (j:Int) 1=j - i:=by
 unfold Builtin.Slice.slicePlaces
 have h1:(1:Int) > 0:=by omega
 simp only[h1,if_true,Int.ediv_one]
 split<;>omega
theorem slicePart_{v:Value}{o:Option Int}{Q:Option Int→Shared→Prop}(p:IsPart v o)(h:Q o s):wpAny (model prog w) A (Builtin.Slice.slicePartIndex v) Q E s:=by
 cases p with
 | none=>exact slicePart_none h
 | int i t=>exact slicePart_int h
theorem sliceApplied_gen{sl:Addr}{vl vu:Value}{lo hi:Option Int}{n:Nat}{Q:Int×Int×Nat→Shared→Prop}(hs:s.heap.IsSliceOf sl vl vu .none)(pl:IsPart vl lo)(pu:IsPart vu hi)
  (h:Q (((sIx n 0 lo:Nat):Int),1,sIx n n hi - sIx n 0 lo) s):wpAny (model prog w) A (Builtin.Slice.sliceApplied (.ref sl) (pure (n:Int))) Q E s:=by
 obtain⟨os,hos,hcs,hds⟩:=id hs
 unfold Builtin.Slice.sliceApplied Builtin.Slice.sliceFields
 refine wpAny_bind (wpAny_bind (wpAny_field hos hds (x:=vl) rfl (wpAny_bind (wpAny_field hos hds (x:=vu) rfl (wpAny_bind (wpAny_field hos hds (x:=.none) rfl (wpAny_pure ?_)))))))
 refine wpAny_bind (slicePart_none ?_)
 show wpAny _ _ (if ((1:Int) == 0)=true then _ else _) _ _ s
 rw[if_neg (by decide)]
 refine wpAny_bind (slicePart_ pl (wpAny_bind (slicePart_ pu (wpAny_bind (wpAny_pure ?_)))))
 show wpAny _ _ (match Builtin.Slice.sliceAdjust lo hi 1 (n:Int) with | (lo,hi)=>pure (lo,(1:Int),Builtin.Slice.slicePlaces lo hi 1)) _ _ s
 rw[adjust_gen lo hi n]
 show wpAny _ _ (pure (((sIx n 0 lo:Nat):Int),(1:Int),Builtin.Slice.slicePlaces ((sIx n 0 lo:Nat):Int) ((sIx n n hi:Nat):Int) 1)) _ _ s
 rw[places_gen]
 exact wpAny_pure h
theorem pick_gen(xs:Array Value)(i k:Nat):((List.range k).filterMap fun (m:Nat)=>xs[((i:Int)+(m:Int)*1).toNat]?).toArray=((xs.toList.drop i).take k).toArray:=by
 have e:(fun (m:Nat)=>xs[((i:Int)+(m:Int)*1).toNat]?)=fun m=>xs[i+m]?:=by
  funext m
  have:((i:Int)+(m:Int)*1).toNat=i+m:=by omega
  rw[this]
 rw[e]
 have:=pick_run xs i k
 rw[List.filterMap_map] at this
 have e2:((fun x=>xs[x]?) ∘ fun x=>i+x)=fun m=>xs[i+m]?:=rfl
 rw[e2] at this
 rw[this]
theorem getItem_tuple_cut{t sl:Addr}{items:Array Value}{vl vu:Value}{lo hi:Option Int}{Q:Value→Shared→Prop}(ht:IsTup s.heap t items)(hs:s.heap.IsSliceOf sl vl vu .none)(pl:IsPart vl lo)(pu:IsPart vu hi)
  (hw:¬ (sIx items.size 0 lo=0∧sIx items.size items.size hi=items.size))
  (h:Q (.ref s.heap.objs.size) { s with heap:=s.heap.push { cls:=.type "tuple", data:=.seq ((items.toList.drop (sIx items.size 0 lo)).take (sIx items.size items.size hi - sIx items.size 0 lo)).toArray } })
  (hsz:items.size≤sizeLine):wpAny (model prog w) A (getItem (.ref t) (.ref sl)) Q E s:=by
 have htake:sizeOk (.seq ((items.toList.drop (sIx items.size 0 lo)).take (sIx items.size items.size hi - sIx items.size 0 lo)).toArray):=by
  show ((items.toList.drop (sIx items.size 0 lo)).take (sIx items.size items.size hi - sIx items.size 0 lo)).toArray.size≤sizeLine
  rw[List.size_toArray,List.length_take,List.length_drop,Array.length_toList]
  omega
 have hj:sIx items.size items.size hi≤items.size:=sIx_le _ _ (Nat.le_refl _) hi
 obtain⟨os,hos,hcs,hds⟩:=id hs
 have hTs:s.TypeIs (.ref sl) "slice" := ⟨os,hos,hcs⟩
 unfold getItem
 try with_reducible refine wpAny_holding ?_
 first | refine wpAny_bind (wpAny_pure ?_) | skip
 refine wpAny_bind (wpAny_sequenceKey ht.typeIs (by decide) ?_)
 refine wpAny_bind (wpAny_callSpecial?_slot (name:=Str.ofString "__getitem__") ht.typeIs PyProof.Rows.slot_tuple_getitem
  (wpAny_call_entry PyProof.Rows.slot_tuple_getitem ht.typeIs entry_tuple_getitem ?_ (args_tuple_getitem _ _)))
 show wpAny _ _ (Builtin.Tuple.tupleItemsOf (.ref t) >>= _) _ _ s
 refine wpAny_bind (tupleItemsOf_ ht ?_)
 refine wpAny_bind (wpAny_typeOf hTs ?_)
 rw[if_pos (by decide)]
 refine wpAny_bind (sliceApplied_gen hs pl pu ?_)
 have hno:¬ ((((sIx items.size 0 lo:Nat):Int) == 0 && (1:Int) == 1 && (sIx items.size items.size hi - sIx items.size 0 lo) == items.size)=true):=by
  intro q
  rw[Bool.and_eq_true,Bool.and_eq_true] at q
  have q1:((sIx items.size 0 lo:Nat):Int)=0:=eq_of_beq q.1.1
  have q2:sIx items.size items.size hi - sIx items.size 0 lo=items.size:=eq_of_beq q.2
  exact hw ⟨by omega,by omega⟩
 show wpAny _ _ (if (((sIx items.size 0 lo:Nat):Int) == 0 && (1:Int) == 1 && (sIx items.size items.size hi - sIx items.size 0 lo) == items.size)=true then _ else _) _ _ s
 rw[if_neg hno,pick_gen]
 first
  | exact wpAny_bind (m:=Builtin.Tuple.tupleExact _) (wpAny_newObj_type (wpAny_pure ⟨_,rfl,wpAny_pure h⟩) htake)
  | exact wpAny_bind (m:=Builtin.Tuple.tupleExact _) (wpAny_newObj_type (wpAny_bind (wpAny_pure (wpAny_pure ⟨_,rfl,wpAny_pure h⟩))) htake)
  | exact wpAny_bind (wpAny_bind (m:=Builtin.Tuple.tupleExact _) (wpAny_newObj_type (wpAny_pure (wpAny_pure ⟨_,rfl,wpAny_pure h⟩)) htake))
  | exact wpAny_bind (wpAny_bind (m:=Builtin.Tuple.tupleExact _) (wpAny_newObj_type (wpAny_pure ⟨_,rfl,wpAny_pure h⟩) htake))
end
end HT
namespace L2
open PySem PySem.Spec PyProof.Rows
abbrev TO:=St→Hp→(Option Int→Hp→Prop)→Prop
def PO(X:Cx)(e:Option Expr)(t:TO):Prop :=
 ∀ (pins:List (Addr×Obj)) (s:Shared) (σ:St) (H:Hp) (Q:Option Int→Hp→Prop),Inv X pins σ H s→t σ H Q →
  wpAny (model X.prog X.w) X.A (evalPart e X.env) (fun u s'=>∃ o H',Inv X pins σ H' s'∧IsPart u o∧Q o H') X.xe s
def tNoPart:TO:=fun _ H Q=>Q none H
def tPart(t:TE):TO:=fun σ H Q=>t σ H fun x H1=>∃ i,x=.int i∧Q (some i) H1
section
variable {X:Cx}{e:Expr}{te:TE}{lo hi:Option Expr}{tl th:TO}{pos p2:Pos}
theorem po_none:PO X none tNoPart:=by
 intro pins s σ H Q I h
 rw[evalPart_none]
 exact wpAny_pure ⟨none,H,I,.none,h⟩
theorem po_some(h:PE X e te):PO X (some e) (tPart te):=by
 intro pins s σ H Q I hw
 rw[evalPart_some]
 refine thn (h pins s σ H _ I hw) fun u s1 ⟨x,H1,I1,r1,q1⟩=>?_
 obtain⟨i,rfl,q⟩:=q1
 obtain⟨t,rfl⟩:=r1
 exact⟨some i,H1,I1,.int i t,q⟩
def SlR(X:Cx)(r:V→Option Int→Option Int→Hp→VK→Prop):Prop :=
 ∀ (pins:List (Addr×Obj)) (s:Shared) (σ:St) (H:Hp) (x:V) (v vl vu:Value) (lo hi:Option Int) (sl:Addr) (Q:VK),Inv X pins σ H s→RelV x v→s.heap.IsSliceOf sl vl vu .none→IsPart vl lo→IsPart vu hi→r x lo hi H Q →
  ∃ T id,typeLookup (.type T) "__getitem__" = pure (some (.builtin id))∧s.TypeIs v T∧wpAny (model X.prog X.w) X.A (getItem v (.ref sl)) (EP X pins σ Q) X.xe s
def tSl(r:V→Option Int→Option Int→Hp→VK→Prop)(te:TE)(tl th:TO):TE:=fun σ H Q=>te σ H fun x H1=>tl σ H1 fun l H2=>th σ H2 fun u H3=>r x l u H3 Q
theorem pe_slice{r:V→Option Int→Option Int→Hp→VK→Prop}(hr:SlR X r)(he:PE X e te)(hl:PO X lo tl)(hu:PO X hi th):PE X (.Subscript e (.Slice lo hi none p2) pos) (tSl r te tl th):=by
 intro pins s σ H Q I h
 refine Subscript_ (thn (he pins s σ H _ I h) fun v s1 ⟨x,H1,I1,r1,q1⟩=>?_)
 refine wpAny_Slice (thn (hl pins s1 σ H1 _ I1 q1) fun vl s2 ⟨l,H2,I2,pl,q2⟩=>thn (hu pins s2 σ H2 _ I2 q2) fun vu s3 ⟨u,H3,I3,pu,q3⟩=>?_)
 rw[evalPart_none]
 refine wpAny_pure ?_
 have I4:Inv X pins σ H3 { s3 with heap:=s3.heap.push { cls:=.type "slice", data:=.fields #[vl,vu,.none] } }:=I3.kept (t':=s3.toks) fun b ob q=>Heap.get?_push_of_some _ q
 obtain⟨T,id,hT,ht,hg⟩:=hr pins { s3 with heap:=s3.heap.push { cls:=.type "slice", data:=.fields #[vl,vu,.none] } } σ H3 x v vl vu l u s3.heap.objs.size Q I4 r1 (Heap.IsSliceOf.new ..) pl pu q3
 show wpAny (model X.prog X.w) X.A (subscriptTail e (.Slice lo hi none p2) v (.ref s3.heap.objs.size)) (EP X pins σ Q) X.xe { s3 with heap:=s3.heap.push { cls:=.type "slice", data:=.fields #[vl,vu,.none] } }
 exact tail_any (ops:=[.ref s3.heap.objs.size,v]) ht hT hg (by with_unfolding_all rfl)
def cutV(xs:List V)(lo hi:Option Int):List V:=(xs.drop (HT.sIx xs.length 0 lo)).take (HT.sIx xs.length xs.length hi - HT.sIx xs.length 0 lo)
theorem cutV_length(xs:List V)(lo hi:Option Int):(cutV xs lo hi).length≤xs.length:=by
 unfold cutV
 rw[List.length_take,List.length_drop]
 omega
def rSlT(K:PySem.W.Frag):V→Option Int→Option Int→Hp→VK→Prop:=fun x lo hi H Q=>∃ a xs,x=.ref a∧SqT K H a xs ∧
 ¬ (HT.sIx xs.length 0 lo=0∧HT.sIx xs.length xs.length hi=xs.length)∧∀ p,H p=none→Q (.ref p) (upd H p (.tup (cutV xs lo hi)))
theorem sl_tup:SlR X (rSlT X.K):=by
 intro pins s σ H x v vl vu lo hi sl Q I rx hs pl pu h
 obtain⟨a,xs,rfl,hx,hw,q⟩:=h
 cases rx
 obtain⟨its,r,ht,hz⟩:=I.tuple hx
 have hlen:its.toArray.size=xs.length:=by rw[List.size_toArray];exact r.length.symm
 refine⟨"tuple", _,PyProof.Rows.slot_tuple_getitem.lookup,ht.typeIs,?_⟩
 refine HT.getItem_tuple_cut ht hs pl pu (by rw[hlen];exact hw) ?_ (by rw[hlen];exact hz)
 rw[hlen]
 refine⟨.ref s.heap.objs.size,_,I.laid (t':=s.toks) (o:=.tup (cutV xs lo hi)) (fun b ob q=>Heap.get?_push_of_some _ q) (Nat.le_refl _) ?_,rfl,q _ (I.hok.fresh (Nat.le_refl _))⟩
 exact⟨Nat.le_trans (cutV_length xs lo hi) hz,_,(r.drop (HT.sIx xs.length 0 lo)).take (HT.sIx xs.length xs.length hi - HT.sIx xs.length 0 lo),IsTup.new _ _⟩
def rCatT(K:PySem.W.Frag):R2:=fun x y H Q=>∃ a b xs ys,x=.ref a∧y=.ref b∧SqT K H a xs∧SqT K H b ys∧xs≠[]∧xs.length+ys.length≤sizeLine ∧
 (ys=[]→Q (.ref a) H)∧(ys≠[]→∀ p,H p=none→Q (.ref p) (upd H p (.tup (xs++ys))))
theorem Vals.nil_iff{xs:List V}{us:List Value}(r:Vals xs us):us=[]↔xs=[]:=by
 cases r with
 | nil=>simp
 | cons _ _=>simp
theorem op_catT:OpR X (binaryOp .Add) (rCatT X.K):=by
 intro pins s σ H x y v u Q I rx ry h
 obtain⟨a,b,xs,ys,rfl,rfl,ha,hb,hx,hz,q1,q2⟩:=h
 cases rx
 cases ry
 obtain⟨its,r1,p1,_⟩:=I.tuple ha
 obtain⟨its2,r2,p2,_⟩:=I.tuple hb
 refine HT.cat_tup p1 p2 (fun z=>hx (r1.nil_iff.mp z)) (fun z=>⟨.ref a,H,I,rfl,q1 (r2.nil_iff.mp z)⟩) (fun z=>?_) (by rw[← r1.length,← r2.length];exact hz)
 refine⟨.ref s.heap.objs.size,_,I.laid (t':=s.toks) (o:=.tup (xs++ys)) (fun b ob q=>Heap.get?_push_of_some _ q) (Nat.le_refl _) ?_,rfl,q2 (fun w=>z (r2.nil_iff.mpr w)) _ (I.hok.fresh (Nat.le_refl _))⟩
 exact⟨by rw[List.length_append];exact hz,_,r1.append r2,IsTup.new _ _⟩
end
end L2
namespace L2
open PySem PySem.Spec PyProof.Rows
def ixN(n:Nat)(i:Int):Option Nat:=if 0≤i then (if i < n then some i.toNat else none) else if -(n:Int)≤i then some (i+n).toNat else none
def atI{α:Type}(xs:List α)(i:Int):Option α:=(ixN xs.length i).bind fun j=>xs[j]?
theorem ixN_seq{n:Nat}{i:Int}{j:Nat}(h:ixN n i=some j):seqIndex? i n=some j∧j < n∧-(n:Int)≤i∧i < n:=by
 unfold ixN at h
 by_cases h0:0≤i
 ·rw[if_pos h0] at h
  by_cases h1:i < n
  ·rw[if_pos h1] at h
   have e:i.toNat=j:=Option.some.inj h
   exact⟨by rw[seqIndex_of h0 h1,e],by omega,by omega,h1⟩
  ·rw[if_neg h1] at h;cases h
 ·rw[if_neg h0] at h
  by_cases h1:-(n:Int)≤i
  ·rw[if_pos h1] at h
   have e:(i+n).toNat=j:=Option.some.inj h
   exact⟨by rw[seqIndex_neg (by omega) h1,e],by omega,h1,by omega⟩
  ·rw[if_neg h1] at h;cases h
theorem atI_get{α:Type}{xs:List α}{i:Int}{v:α}(h:atI xs i=some v):∃ j,seqIndex? i xs.length=some j∧xs[j]?=some v∧j < xs.length∧-(xs.length:Int)≤i∧i < xs.length:=by
 unfold atI at h
 cases e:ixN xs.length i with
 | none=>rw[e] at h;cases h
 | some j =>
  rw[e] at h
  obtain⟨h1,h2,h3,h4⟩:=ixN_seq e
  exact⟨j,h1,h,h2,h3,h4⟩
theorem atI_nat{α:Type}{xs:List α}{j:Nat}{v:α}(h:xs[j]?=some v):atI xs (j:Int)=some v:=by
 have hj:j < xs.length:=(List.getElem?_eq_some_iff.mp h).1
 have e:ixN xs.length (j:Int)=some j:=by
  unfold ixN
  rw[if_pos (by omega),if_pos (by omega)];simp
 unfold atI;rw[e];exact h
def PlainIx(b:Expr):Prop:=∀ o i,subscripted b false o i=operate [o,i] (getItem o i)
def IxR(X:Cx)(r:R2):Prop :=
 ∀(value slice:Expr) (pins:List (Addr×Obj)) (s:Shared) (σ:St) (H:Hp) (x y:V) (v u:Value) (Q:VK),Inv X pins σ H s→RelV x v→RelV y u→r x y H Q →
  subscripted slice false v u=operate [v,u] (getItem v u)→wpAny (model X.prog X.w) X.A (subscriptTail value slice v u) (EP X pins σ Q) X.xe s
def MtR(X:Cx)(id:String)(r:V→List V→Hp→VK→Prop):Prop :=
 ∀ (pins:List (Addr×Obj)) (s:Shared) (σ:St) (H:Hp) (x:V) (xs:List V) (v:Value) (us:List Value) (Q:VK),Inv X pins σ H s→RelV x v→Vals xs us→r x xs H Q →
  wpAny (model X.prog X.w) X.A (call (.builtin id) (v::us)) (EP X pins σ Q) X.xe s
section
variable {X:Cx}{a b:Expr}{ta tb:TE}{pos:Pos}
theorem pe_ix{r:R2}(hr:IxR X r)(ha:PE X a ta)(hb:PE X b tb)(hs:PlainIx b):PE X (.Subscript a b pos) (tOp r ta tb):=by
 intro pins s σ H Q I h
 exact Subscript_ (binT ha hb I h fun v u s2 x y H2 I2 rx ry q=>hr a b pins s2 σ H2 x y v u Q I2 rx ry q (hs _ _))
def rIxL(K:PySem.W.Frag):R2:=fun x y H Q=>∃ p xs i v,x=.ref p∧y=.int i∧SqL K H p xs∧atI xs i=some v∧Q v H
def rIxT(K:PySem.W.Frag):R2:=fun x y H Q=>∃ p xs i v,x=.ref p∧y=.int i∧SqT K H p xs∧atI xs i=some v∧Q v H
theorem ix_list:IxR X (rIxL X.K):=by
 intro value slice pins s σ H x y v u Q I rx ry h hs
 obtain⟨p,xs,i,z,rfl,rfl,hq,he,q⟩:=h
 cases rx
 obtain⟨t,rfl⟩:=ry
 obtain⟨its,r,pl,hz⟩:=I.list hq
 obtain⟨j,h1,h2,h3,h4,h5⟩:=atI_get he
 obtain⟨w,ew,rw'⟩:=r.get h2
 have hl:=r.length
 have hn:=line63
 have fin:EP X pins σ Q w s:=⟨z,H,I,rw',q⟩
 by_cases h0:0≤i
 ·have hj:i.toNat=j:=by
   rw[seqIndex_of h0 h5] at h1
   exact Option.some.inj h1
  exact item_listR pl.isList h0 (by omega) (by rw[hj];simpa using ew) fin hs
 ·have hj:(i+(its.toArray.size:Int)).toNat=j:=by
   rw[seqIndex_neg (by omega) h4] at h1
   rw[List.size_toArray,← hl]
   exact Option.some.inj h1
  exact subscriptTail_builtinR (x:=w) pl.isList.typeIs slot_list_getitem.lookup
   (wpAny_getItem_list_neg (Q:=fun r s'=>r=w∧EP X pins σ Q r s') pl.isList (by omega) (by rw[List.size_toArray]<;>omega) (by omega) (by rw[hj];simpa using ew) ⟨rfl,fin⟩) hs
theorem ix_tup:IxR X (rIxT X.K):=by
 intro value slice pins s σ H x y v u Q I rx ry h hs
 obtain⟨p,xs,i,z,rfl,rfl,hq,he,q⟩:=h
 cases rx
 obtain⟨t,rfl⟩:=ry
 obtain⟨its,r,pl,hz⟩:=I.tuple hq
 obtain⟨j,h1,h2,h3,h4,h5⟩:=atI_get he
 obtain⟨w,ew,rw'⟩:=r.get h2
 have hl:=r.length
 have hn:=line63
 have fin:EP X pins σ Q w s:=⟨z,H,I,rw',q⟩
 exact subscriptTail_builtinR (x:=w) pl.typeIs slot_tuple_getitem.lookup
  (getItem_tuple (j:=j) (Q:=fun r s'=>r=w∧EP X pins σ Q r s') pl (by omega) (by omega) (by rw[List.size_toArray,← hl];exact h1) (by simpa using ew) ⟨rfl,fin⟩) hs
theorem mapSeq_set(its:List Value)(n j:Nat)(u:Value):Obj.mapSeq (·.setIfInBounds j u) { cls:=.type "list", data:=.seq its.toArray n }={ cls:=.type "list", data:=.seq (its.set j u).toArray n }:=by
 simp[Obj.mapSeq]
theorem Inv.lst{pins:List (Addr×Obj)}{σ:St}{H:Hp}{s:Shared}{p:Addr}{xs:List V}(I:Inv X pins σ H s)(h:H p=some (.lst xs)) :
  ∃(its:List Value)(n:Nat),Vals xs its∧s.heap.get? p=some { cls:=.type "list", data:=.seq its.toArray n }∧xs.length≤sizeLine:=by
 obtain⟨z,its,n,r,e⟩:=I.hok p _ h
 exact⟨its,n,r,e,z⟩
theorem Inv.lstUpd{pins:List (Addr×Obj)}{σ:St}{H:Hp}{s:Shared}{p:Addr}{xs ys:List V}{its its':List Value}{n n':Nat}{f:Obj→Obj}(I:Inv X pins σ H s)(h:H p=some (.lst xs))
  (ho:s.heap.get? p=some { cls:=.type "list", data:=.seq its.toArray n }) (hf:f { cls:=.type "list", data:=.seq its.toArray n }={ cls:=.type "list", data:=.seq its'.toArray n' }) (r:Vals ys its') (hz:ys.length≤sizeLine) (t:Nat) :
  Inv X pins σ (upd H p (.lst ys)) { s with heap:=s.heap.update p f,toks:=t }:=by
 have e:(s.heap.update p f).get? p=some { cls:=.type "list", data:=.seq its'.toArray n' }:=by
  rw[Heap.get?_update_self f ho (by rw[hf]<;>rfl),hf]
 refine I.write (x:=p) (e:=p) (by rw[h];trivial) (.inl rfl) (fun b u hb q=>(Heap.get?_update_other _ _ (Ne.symm hb)).trans q) ⟨_,e⟩ ?_
 exact⟨hz,its',n',r,e⟩
def rSetL:V→V→V→Hp→(Hp→Prop)→Prop:=fun o i v H Q=>∃ p xs k j,o=.ref p∧i=.int k∧H p=some (.lst xs)∧ixN xs.length k=some j∧Q (upd H p (.lst (xs.set j v)))
theorem set_list:PSet X rSetL:=by
 intro pins s σ H o i v ov iv u Q I ro ri rv h
 obtain⟨p,xs,k,j,rfl,rfl,hp,hj,q⟩:=h
 cases ro
 obtain⟨t,rfl⟩:=ri
 obtain⟨its,n,r,ho,hz⟩:=I.lst hp
 obtain⟨h1,h2,h3,h4⟩:=ixN_seq hj
 have hl:=r.length
 have hn:=line63
 have I':Inv X pins σ (upd H p (.lst (xs.set j v))) { s with heap:=s.heap.update p (Obj.mapSeq (·.setIfInBounds j u)) } :=
  I.lstUpd hp ho (mapSeq_set its n j u) (r.set rv j) (by rw[List.length_set];exact hz) s.toks
 by_cases h0:0≤k
 ·have hk:k.toNat=j:=by
   rw[seqIndex_of h0 h4] at h1
   exact Option.some.inj h1
  exact PySem.W.ki_setAt ho h0 (by omega) (by rw[List.size_toArray,← hl];exact h4) (by rw[hk];exact⟨_,I',q⟩)
 ·have hk:(k+(its.toArray.size:Int)).toNat=j:=by
   rw[seqIndex_neg (by omega) h3] at h1
   rw[List.size_toArray,← hl]
   exact Option.some.inj h1
  exact PySem.W.ki_setBack ho (by omega) (by rw[List.size_toArray,← hl];exact h3) (by omega) (by rw[hk];exact⟨_,I',q⟩)
theorem slice_bounds(lo hi:Option Int)(n:Nat):(sliceBounds lo hi none n).1=((HT.sIx n 0 lo:Nat):Int)∧(sliceBounds lo hi none n).2.1=((HT.sIx n n hi:Nat):Int)∧(sliceBounds lo hi none n).2.2=1:=by
 refine⟨?_,?_,rfl⟩
 ·cases lo with
  | none=>simp[sliceBounds,HT.sIx]
  | some i =>
   simp only[sliceBounds,HT.sIx,Option.getD_none,show (1:Int) > 0 by decide,if_true]
   by_cases h:i < 0
   ·simp only[h,if_true]<;>omega
   ·simp only[h,if_false]<;>omega
 ·cases hi with
  | none=>simp[sliceBounds,HT.sIx]
  | some i =>
   simp only[sliceBounds,HT.sIx,Option.getD_none,show (1:Int) > 0 by decide,if_true]
   by_cases h:i < 0
   ·simp only[h,if_true]<;>omega
   ·simp only[h,if_false]<;>omega
theorem slicePick_cut(its:List Value)(lo hi:Option Int):slicePick its.toArray lo hi none=((its.drop (HT.sIx its.length 0 lo)).take (HT.sIx its.length its.length hi - HT.sIx its.length 0 lo)).toArray:=by
 obtain⟨h1,h2,h3⟩:=slice_bounds lo hi its.toArray.size
 unfold slicePick
 rw[h1,h2,h3]
 simp only[sliceRange_one,pick_run,List.size_toArray]<;>rfl
def rSlL(K:PySem.W.Frag):V→Option Int→Option Int→Hp→VK→Prop:=fun x lo hi H Q=>∃ a xs,x=.ref a∧SqL K H a xs∧∀ p,H p=none→Q (.ref p) (upd H p (.lst (cutV xs lo hi)))
theorem sl_list:SlR X (rSlL X.K):=by
 intro pins s σ H x v vl vu lo hi sl Q I rx hs pl pu h
 obtain⟨a,xs,rfl,hx,q⟩:=h
 cases rx
 obtain⟨its,r,ht,hz⟩:=I.list hx
 have hlen:=r.length
 refine⟨"list", _,slot_list_getitem.lookup,ht.isList.typeIs,?_⟩
 refine wpAny_getItem_list_slice ht.isList hs pl pu .none (by simp) ?_ (by rw[List.size_toArray]<;>omega)
 rw[slicePick_cut,← hlen]
 refine⟨.ref s.heap.objs.size,_,I.laid (t':=s.toks) (o:=.lst (cutV xs lo hi)) (fun b ob q=>Heap.get?_push_of_some _ q) (Nat.le_refl _) ?_,rfl,q _ (I.hok.fresh (Nat.le_refl _))⟩
 exact⟨Nat.le_trans (cutV_length xs lo hi) hz,_,0,(r.drop (HT.sIx xs.length 0 lo)).take (HT.sIx xs.length xs.length hi - HT.sIx xs.length 0 lo),Heap.get?_push_size _ rfl⟩
def flatV:V→Bool
 | .non=>true
 | .bl _=>true
 | .int _=>true
 | .str _=>true
 | _=>false
def eqV:V→V→Bool
 | .non,.non=>true
 | .bl a,.bl b=>a == b
 | .bl a,.int b=>(if a then 1 else 0) == b
 | .int a,.bl b=>a == (if b then 1 else 0)
 | .int a,.int b=>a == b
 | .str a,.str b=>a == b
 | _,_=>false
theorem eqAt_V{A:Around}{s:Shared}{y x:V}{u v:Value}(ry:RelV y u)(rx:RelV x v)(fy:flatV y=true)(fx:flatV x=true):SeqAt.EqAt A s u v (eqV y x):=by
 cases y with
 | non =>
  cases ry
  cases x with
  | non=>cases rx;exact SeqAt.EqAt.same _
  | bl b=>cases rx;exact SeqAt.EqAt.none_bool b
  | int b=>obtain⟨t,rfl⟩:=rx;exact SeqAt.EqAt.none_int b t
  | str b=>obtain⟨t,rfl⟩:=rx;exact SeqAt.EqAt.none_str b t
  | _=>exact absurd (show false=true from fx) Bool.false_ne_true
 | bl a =>
  cases ry
  cases x with
  | non=>cases rx;exact SeqAt.EqAt.bool_none a
  | bl b=>cases rx;exact SeqAt.EqAt.bool_bool a b
  | int b=>obtain⟨t,rfl⟩:=rx;exact SeqAt.EqAt.bool_int a b t
  | str b=>obtain⟨t,rfl⟩:=rx;exact SeqAt.EqAt.bool_str a b t
  | _=>exact absurd (show false=true from fx) Bool.false_ne_true
 | int a =>
  obtain⟨t',rfl⟩:=ry
  cases x with
  | non=>cases rx;exact SeqAt.EqAt.int_none a t'
  | bl b=>cases rx;exact SeqAt.EqAt.int_bool a t' b
  | int b=>obtain⟨t,rfl⟩:=rx;exact SeqAt.EqAt.int_int a t' b t
  | str b=>obtain⟨t,rfl⟩:=rx;exact SeqAt.EqAt.int_str a t' b t
  | _=>exact absurd (show false=true from fx) Bool.false_ne_true
 | str a =>
  obtain⟨t',rfl⟩:=ry
  cases x with
  | non=>cases rx;exact SeqAt.EqAt.str_none a t'
  | bl b=>cases rx;exact SeqAt.EqAt.str_bool a t' b
  | int b=>obtain⟨t,rfl⟩:=rx;exact SeqAt.EqAt.str_int a t' b t
  | str b=>obtain⟨t,rfl⟩:=rx;exact SeqAt.EqAt.str_str a t' b t
  | _=>exact absurd (show false=true from fx) Bool.false_ne_true
 | _=>exact absurd (show false=true from fy) Bool.false_ne_true
def eqU(x:V)(u:Value):Bool:=match u with
 | .none=>eqV .non x
 | .bool b=>eqV (.bl b) x
 | .int i _=>eqV (.int i) x
 | .str z _=>eqV (.str z) x
 | _=>false
theorem eqU_of{x y:V}{u:Value}(r:RelV y u)(f:flatV y=true):eqU x u=eqV y x:=by
 cases y with
 | non=>cases r;rfl
 | bl b=>cases r;rfl
 | int i=>obtain⟨t,rfl⟩:=r;rfl
 | str z=>obtain⟨t,rfl⟩:=r;rfl
 | _=>exact absurd (show false=true from f) Bool.false_ne_true
theorem any_eqU{x:V}:∀{xs:List V}{us:List Value},Vals xs us→xs.all flatV=true→us.any (eqU x)=xs.any fun y=>eqV y x
 | _,_,.nil,_=>rfl
 | y::xs,u::us,.cons r t,f=>by
  rw[List.all_cons,Bool.and_eq_true] at f
  rw[List.any_cons,List.any_cons,eqU_of r f.1,any_eqU t f.2]
theorem mem_eqAt{A:Around}{s:Shared}{x:V}{v:Value}(rx:RelV x v)(fx:flatV x=true):∀{xs:List V}{us:List Value},Vals xs us→xs.all flatV=true→∀ u∈us,SeqAt.EqAt A s u v (eqU x u)
 | _,_,.nil,_=>fun u hu=>by cases hu
 | y::xs,u::us,.cons r t,f=>fun u' hu=>by
  rw[List.all_cons,Bool.and_eq_true] at f
  rcases List.mem_cons.mp hu with rfl | hu
  ·rw[eqU_of r f.1];exact eqAt_V r rx f.1 fx
  ·exact mem_eqAt rx fx t f.2 u' hu
def inV(x:V)(xs:List V):Bool:=xs.any fun y=>eqV y x
def rIn(K:PySem.W.Frag)(neg:Bool):R2:=fun x y H Q=>∃ p xs,y=.ref p∧(SqL K H p xs∨SqT K H p xs)∧flatV x=true∧xs.all flatV=true∧Q (.bl (if neg then !inV x xs else inV x xs)) H
theorem op_in_seq:OpR X (compareOp .In) (rIn X.K false):=by
 intro pins s σ H x y v u Q I rx ry h
 obtain⟨p,xs,rfl,hq,fx,fs,q⟩:=h
 cases ry
 rcases hq with hq | hq
 ·obtain⟨its,r,pl,hz⟩:=I.list hq
  refine SeqAt.in_listAt (eqU x) pl.isList (fun w hw=>mem_eqAt rx fx r fs w (by simpa using hw)) ⟨.bl _,H,I,rfl,?_⟩
  rw[show its.toArray.any (eqU x)=its.any (eqU x) by simp,any_eqU r fs]
  exact q
 ·obtain⟨its,r,pl,hz⟩:=I.tuple hq
  refine SeqAt.in_tupleAt (eqU x) pl (fun w hw=>mem_eqAt rx fx r fs w (by simpa using hw)) ⟨.bl _,H,I,rfl,?_⟩
  rw[show its.toArray.any (eqU x)=its.any (eqU x) by simp,any_eqU r fs]
  exact q
theorem op_notIn_seq:OpR X (compareOp .NotIn) (rIn X.K true):=by
 intro pins s σ H x y v u Q I rx ry h
 obtain⟨p,xs,rfl,hq,fx,fs,q⟩:=h
 cases ry
 rcases hq with hq | hq
 ·obtain⟨its,r,pl,hz⟩:=I.list hq
  refine SeqAt.notIn_listAt (eqU x) pl.isList (fun w hw=>mem_eqAt rx fx r fs w (by simpa using hw)) ⟨.bl _,H,I,rfl,?_⟩
  rw[show its.toArray.any (eqU x)=its.any (eqU x) by simp,any_eqU r fs]
  exact q
 ·obtain⟨its,r,pl,hz⟩:=I.tuple hq
  refine SeqAt.notIn_tupleAt (eqU x) pl (fun w hw=>mem_eqAt rx fx r fs w (by simpa using hw)) ⟨.bl _,H,I,rfl,?_⟩
  rw[show its.toArray.any (eqU x)=its.any (eqU x) by simp,any_eqU r fs]
  exact q
theorem call_len_seq:CallR X (.builtin "len") (fun xs H Q=>∃ p ys,xs=[.ref p]∧(SqL X.K H p ys∨SqT X.K H p ys)∧Q (.int ys.length) H):=by
 intro pins s σ H xs us Q I r h
 obtain⟨p,ys,rfl,hq,q⟩:=h
 obtain⟨u,rfl,rx⟩:=vals1 r
 cases rx
 have hn:=line63
 rcases hq with hq | hq
 ·obtain⟨its,r',pl,hz⟩:=I.list hq
  have hlen:=r'.length
  exact Calls.call_len_list pl.isList (by simp only[List.size_toArray]<;>omega) ⟨.int ys.length,H,I.tok _,⟨s.toks+1,by rw[List.size_toArray,hlen]⟩,q⟩
 ·obtain⟨its,r',pl,hz⟩:=I.tuple hq
  have hlen:=r'.length
  exact len_tuple pl (by simp only[List.size_toArray]<;>omega) ⟨.int ys.length,H,I.tok _,⟨s.toks+1,by rw[List.size_toArray,hlen]⟩,q⟩
theorem call_list_of:CallR X (.type "list") (fun xs H Q=>∃ p ys,xs=[.ref p]∧(SqL X.K H p ys∨SqT X.K H p ys)∧∀ l,H l=none→Q (.ref l) (upd H l (.lst ys))):=by
 intro pins s σ H xs us Q I r h
 obtain⟨p,ys,rfl,hq,q⟩:=h
 obtain⟨u,rfl,rx⟩:=vals1 r
 cases rx
 have fin:∀(its:List Value),Vals ys its→ys.length≤sizeLine→∀(h':Heap)(c':Nat),(∀ b o',s.heap.get? b=some o'→h'.get? b=some o') →
   h'.get? s.heap.objs.size=some { cls:=.type "list", dict:=none,data:=.seq its.toArray c',slots:=#[] }→EP X pins σ Q (.ref s.heap.objs.size) { s with heap:=h' }:=fun its r' hz h' c' kp e =>
  ⟨.ref s.heap.objs.size,_,I.laid (t':=s.toks) kp (Nat.le_refl _) (show ObjOk X.prog X.w _ h' _ (.lst ys) from ⟨hz,its,c',r',e⟩),rfl,q _ (I.hok.fresh (Nat.le_refl _))⟩
 rcases hq with hq | hq
 ·obtain⟨its,r',pl,hz⟩:=I.list hq
  have hlen:=r'.length
  obtain⟨o,ho,hc,n,hd⟩:=pl.isList
  exact call_list_seq p (.inl rfl) ho hc hd (fun h' c' kp e=>fin its r' hz h' c' kp e) (by simp only[List.size_toArray]<;>omega)
 ·obtain⟨its,r',pl,hz⟩:=I.tuple hq
  have hlen:=r'.length
  obtain⟨o,ho,hc,n,hd⟩:=pl
  exact call_list_seq p (.inr rfl) ho hc hd (fun h' c' kp e=>fin its r' hz h' c' kp e) (by simp only[List.size_toArray]<;>omega)
theorem call_tuple_of:CallR X (.type "tuple") (fun xs H Q=>∃ p ys,xs=[.ref p]∧((SqL X.K H p ys∧∀ l,H l=none→Q (.ref l) (upd H l (.tup ys)))∨(SqT X.K H p ys∧Q (.ref p) H))):=by
 intro pins s σ H xs us Q I r h
 obtain⟨p,ys,rfl,h⟩:=h
 obtain⟨u,rfl,rx⟩:=vals1 r
 cases rx
 rcases h with ⟨hq,q⟩ | ⟨hq,q⟩
 ·obtain⟨its,r',pl,hz⟩:=I.list hq
  have hlen:=r'.length
  refine call_tuple_list pl.isList (fun h' kp=>?_) (by simp only[List.size_toArray]<;>omega)
  have I1:Inv X pins σ H { s with heap:=h' }:=I.kept (t':=s.toks) kp
  have I2:Inv X pins σ (upd H h'.objs.size (.tup ys)) { s with heap:=h'.push { cls:=.type "tuple", data:=.seq its.toArray } } :=
   I1.laid (t':=s.toks) (fun b o e=>Heap.get?_push_of_some _ e) (Nat.le_refl _) (show ObjOk X.prog X.w _ _ _ (.tup ys) from ⟨hz,its,r',IsTup.new _ _⟩)
  exact⟨.ref h'.objs.size,_,I2,rfl,q _ (I1.hok.fresh (Nat.le_refl _))⟩
 ·obtain⟨its,r',pl,hz⟩:=I.tuple hq
  exact call_tuple_same pl ⟨.ref p,H,I,rfl,q⟩
def tyV(K:PySem.W.Frag)(T:String)(x:V)(H:Hp):Prop:=match x with
 | .str _=>T = "str"
 | .int _=>T = "int"
 | .ref p=>(T = "list" ∧ ∃ xs,SqL K H p xs)∨(T = "tuple" ∧ ∃ o,K.lookup p=some o∧o.cls=.type "tuple" ∧ o.dict=none) ∨
   (T = "dict" ∧ ((∃ kvs,H p=some (.dK kvs))∨∃ kvs,H p=some (.dT kvs)))∨(T = "set" ∧ ∃ S n,H p=some (.set S n))
 | _=>False
theorem tyV_is{pins:List (Addr×Obj)}{σ:St}{H:Hp}{s:Shared}{T:String}{x:V}{v:Value}(I:Inv X pins σ H s)(r:RelV x v)(ty:tyV X.K T x H) :
  s.TypeIs v T∧∀ a,v=.ref a→∃ ob,s.heap.get? a=some ob∧ob.dict=none:=by
 cases x with
 | str z =>
  obtain⟨t,rfl⟩:=r
  cases (show T = "str" from ty)
  exact⟨typeIs_str s z t,fun _ e=>nomatch e⟩
 | int i =>
  obtain⟨t,rfl⟩:=r
  cases (show T = "int" from ty)
  exact⟨typeIs_int s i t,fun _ e=>nomatch e⟩
 | ref p =>
  cases r
  rcases ty with ⟨rfl,xs,hq⟩ | ⟨rfl,o,hk,hc,hd⟩ | ⟨rfl,hk⟩ | ⟨rfl,S,n,hk⟩
  ·obtain⟨its,_,pl,_⟩:=I.list hq
   refine⟨pl.isList.typeIs,fun a e=>?_⟩
   cases e
   obtain⟨o,n,e,c,hd,_⟩:=pl
   exact⟨o,e,hd⟩
  ·refine⟨⟨o,I.kIn p o hk,hc⟩,fun a e=>?_⟩
   cases e
   exact⟨o,I.kIn _ o hk,hd⟩
  ·have z:∃ o,s.heap.get? p=some o∧o.ExactDict:=by
    rcases hk with ⟨kvs,hk⟩ | ⟨kvs,hk⟩
    ·obtain⟨_,_,_,_,o,_,_,e,ex,_⟩:=I.hok p _ hk
     exact⟨o,e,ex⟩
    ·obtain⟨_,_,_,_,o,_,_,e,ex,_⟩:=I.hok p _ hk
     exact⟨o,e,ex⟩
   obtain⟨o,e,ex⟩:=z
   refine⟨⟨o,e,ex.1⟩,fun a e2=>?_⟩
   cases e2
   exact⟨o,e,ex.2.1⟩
  ·obtain⟨o,_,_,_,e,ex,_⟩:=I.hok p _ hk
   refine⟨⟨o,e,ex.1⟩,fun a e2=>?_⟩
   cases e2
   exact⟨o,e,ex.2.1⟩
 | _=>exact False.elim ty
def tBM(K:PySem.W.Frag)(T:String)(r:V→List V→Hp→VK→Prop)(to:TE)(t:TA):TE:=fun σ H Q=>to σ H fun x H1=>tyV K T x H1∧t σ H1 fun xs H2=>r x xs H2 Q
variable {o e:Expr}{es:List Expr}{to:TE}{t:TA}{name:Str}{apos cpos:Pos}{T id:String}{r:V→List V→Hp→VK→Prop}
theorem pe_bm(pa:PlainAttrs T)(slot:Slot T name id)(hty:typeOf (.builtin id)=pure (.type "method_descriptor"))(hm:MtR X id r)(ho:PE X o to)(ha:PA X (e::es) t)
  (hbase:attributeBase o name X.env (eval o X.env)=eval o X.env:=by rfl)
  (hfew:((backTo cpos (starEach (e::es) X.env)).all (fun x=>!x.1) && (backToKw cpos (keywordEach [] X.env)).all (fun x=>x.1.isSome)
   && decide ((e::es).length+([]:List Keyword).length+(if ([]:List Keyword).isEmpty then 0 else 1) < 30))=true:=by rfl)
  (hline:(apos.endLine == cpos.line)=true:=by rfl) (hs:starEach (e::es) X.env=(false,eval e X.env)::starEach es X.env:=by rfl) (hplain:(backTo cpos (starEach es X.env)).any (·.1)=false:=by rfl) :
  PE X (.Call (.Attribute o name apos) (e::es) [] cpos) (tBM X.K T r to t):=by
 intro pins s σ H Q I h
 refine wpAny_Call_method_late hbase hfew hline rfl (thn (ho pins s σ H _ I h) fun v s1 ⟨x,H1,I1,r1,ty,q1⟩=>?_)
 obtain⟨h1,h2⟩:=tyV_is I1 r1 ty
 refine⟨T,id,pa,slot,hty,h1,h2,?_⟩
 have hA:=ha cpos pins s1 σ H1 _ I1 q1
 rw[hs] at hA ⊢
 refine Calls.callWith_builtin (by show (false || (backTo cpos (starEach es X.env)).any (·.1))=false;rw[hplain]<;>rfl) (Calls.evalArgs_plain ?_)
 exact thn hA fun us s2 ⟨vs,H2,I2,r2,q2⟩=>hm pins s2 σ H2 x vs v us Q I2 r1 r2 q2
end
end L2
namespace L2
open PySem PySem.Spec PyProof.Rows
def MtM(X:Cx)(id:String)(r:V→List V→Hp→VK→Prop):Prop :=
 ∀ (pins:List (Addr×Obj)) (s:Shared) (σ:St) (H:Hp) (x:V) (xs:List V) (v:Value) (us:List Value) (Q:VK),Inv X pins σ H s→RelV x v→Vals xs us→r x xs H Q →
  wpAny (model X.prog X.w) X.A (call (.builtin id) (v::us)) (EP X pins σ Q) X.xe s
theorem Vals.one:∀{x:V}{us:List Value},Vals [x] us→∃ u,us=[u]∧RelV x u
 | _,_,.cons r .nil=>⟨_,rfl,r⟩
theorem Vals.two:∀{x y:V}{us:List Value},Vals [x,y] us→∃ u v,us=[u,v]∧RelV x u∧RelV y v
 | _,_,_,.cons r (.cons q .nil)=>⟨_,_,rfl,r,q⟩
theorem Vals.rep{xs:List V}{us:List Value}(h:Vals xs us):∀ k:Nat,Vals (List.replicate k xs).flatten (List.replicate k us).flatten
 | 0=>.nil
 | k+1=>by
  rw[List.replicate_succ,List.replicate_succ,List.flatten_cons,List.flatten_cons]
  exact Vals.append h (Vals.rep h k)
theorem foldl_rep(its:List Value):∀(k:Nat)(acc:List Value),
  List.foldl (fun x1 x2=>x1++x2) acc.toArray (List.replicate k its.toArray)=(acc++(List.replicate k its).flatten).toArray
 | 0,acc=>by simp
 | k+1,acc=>by
  have e:acc.toArray++its.toArray=(acc++its).toArray:=by simp
  have e2:(acc++its)++(List.replicate k its).flatten=acc++(List.replicate (k+1) its).flatten:=by
   rw[List.replicate_succ,List.flatten_cons,List.append_assoc]
  rw[← e2,← foldl_rep its k (acc++its),← e,List.replicate_succ,List.foldl_cons]
section
variable {X:Cx}{pins:List (Addr×Obj)}{σ:St}{H:Hp}{s:Shared}{l b:Addr}{xs ys zs:List V}
theorem Inv.lset{its its':List Value}{n:Nat}{f:Array Value→Array Value}{t':Nat}(I:Inv X pins σ H s)(hH:H l=some (.lst xs))
  (e:s.heap.get? l=some { cls:=.type "list", data:=.seq its.toArray n }) (hf:f its.toArray=its'.toArray) (hv:Vals ys its') (hz:ys.length≤sizeLine) :
  Inv X pins σ (upd H l (.lst ys)) { s with heap:=s.heap.update l (Obj.mapSeq f),toks:=t' }:=by
 have q:=PySem.IsL.update e f
 rw[hf] at q
 refine I.write (x:=l) (e:=l) (by rw[hH];exact trivial) (.inl rfl) (fun b' u hb hu=>(Heap.get?_update_other s.heap (Obj.mapSeq f) (Ne.symm hb)).trans hu) ⟨_,q⟩ ?_
 exact⟨hz,its',_,hv,q⟩
theorem Inv.lnew{its:List Value}{t':Nat}(I:Inv X pins σ H s)(hv:Vals ys its)(hz:ys.length≤sizeLine) :
  Inv X pins σ (upd H s.heap.objs.size (.lst ys)) { s with heap:=s.heap.push { cls:=.type "list", data:=.seq its.toArray },toks:=t' } :=
 I.laid (fun _ _ q=>Heap.get?_push_of_some _ q) (Nat.le_refl _) ⟨hz,its,0,hv,Heap.get?_push_size _ rfl⟩
theorem Inv.fresh(I:Inv X pins σ H s):H s.heap.objs.size=none:=I.hok.fresh (Nat.le_refl _)
theorem Inv.lstM(I:Inv X pins σ H s)(hH:H l=some (.lst xs)):xs.length≤sizeLine∧∃(its:List Value)(n:Nat),Vals xs its∧xs.length=its.length∧s.heap.get? l=some { cls:=.type "list", data:=.seq its.toArray n }:=by
 obtain⟨z,its,n,r,e⟩:=I.hok l _ hH
 exact⟨z,its,n,r,r.length,e⟩
theorem notLongL{n:Nat}(h:n≤sizeLine):Builtin.List.listTooLong n=false:=by
 unfold Builtin.List.listTooLong
 exact decide_eq_false (by omega)
end
section
variable {X:Cx}
def rAppend:V→List V→Hp→VK→Prop:=fun x vs H Q=>∃ l xs y,x=.ref l∧vs=[y]∧H l=some (.lst xs)∧xs.length < sizeLine∧Q .non (upd H l (.lst (xs++[y])))
theorem mt_append:MtM X "list.append" rAppend:=by
 intro pins s σ H x vs v us Q I rx rv h
 obtain⟨l,xs,y,rfl,rfl,hH,hz,q⟩:=h
 cases rx
 obtain⟨u,rfl,ru⟩:=rv.one
 obtain⟨z,its,n,r,hl,e⟩:=I.lstM hH
 refine call_meets F.slot_list_append ⟨_,e,rfl⟩ F.entry_list_append (F.args_list_append_2 _ _) (PySem.list_append l its.toArray n u (by rw[List.size_toArray];omega)) ⟨e,?_⟩
 refine⟨.non,_,I.lset (its':=its++[u]) hH e (by simp) (r.append (.cons ru .nil)) ?_,rfl,q⟩
 rw[List.length_append,List.length_singleton]
 omega
def rCat:R2:=fun x y H Q=>∃ l b xs zs,x=.ref l∧y=.ref b∧H l=some (.lst xs)∧H b=some (.lst zs)∧xs.length+zs.length≤sizeLine∧∀ p,H p=none→Q (.ref p) (upd H p (.lst (xs++zs)))
theorem op_cat:OpR X (binaryOp .Add) rCat:=by
 intro pins s σ H x y v u Q I rx ry h
 obtain⟨l,b,xs,zs,rfl,rfl,hH,hB,hz,q⟩:=h
 cases rx
 cases ry
 obtain⟨z,its,n,r,hl,e⟩:=I.lstM hH
 obtain⟨z2,its2,n2,r2,hl2,e2⟩:=I.lstM hB
 refine PySem.P.add_list e e2 ?_ (by rw[List.size_toArray,List.size_toArray];omega)
 have ea:its.toArray++its2.toArray=(its++its2).toArray:=by simp
 rw[ea]
 exact⟨.ref _,_,I.lnew (t':=s.toks) (r.append r2) (by rw[List.length_append];omega),rfl,q _ I.fresh⟩
def rRep:R2:=fun x y H Q=>∃ l k xs,x=.ref l∧y=.int k∧H l=some (.lst xs)∧-(2 ^ 63)≤k∧k < 2 ^ 63∧xs.length*k.toNat≤sizeLine ∧
 ∀ p,H p=none→Q (.ref p) (upd H p (.lst (List.replicate k.toNat xs).flatten))
theorem len_rep{α:Type}(xs:List α)(k:Nat):(List.replicate k xs).flatten.length=k*xs.length:=by
 induction k with
 | zero=>simp
 | succ k ih=>rw[List.replicate_succ,List.flatten_cons,List.length_append,ih,Nat.succ_mul,Nat.add_comm]
theorem op_rep:OpR X (binaryOp .Mult) rRep:=by
 intro pins s σ H x y v u Q I rx ry h
 obtain⟨l,k,xs,rfl,rfl,hH,h1,h2,hz,q⟩:=h
 cases rx
 obtain⟨t,rfl⟩:=ry
 obtain⟨z,its,n,r,hl,e⟩:=I.lstM hH
 have hlen:its.toArray.size*k.toNat≤sizeLine:=by rw[List.size_toArray,← hl];exact hz
 have hcap:¬ its.toArray.size*k.toNat > (2 ^ 63 - 1) / 8:=by
  have:(sizeLine:Nat)≤(2 ^ 63 - 1) / 8:=by decide
  omega
 have hfit:¬ (!Builtin.List.listFitsIndex k)=true:=by
  rw[fitsIndex_both h1 h2]
  exact Bool.false_ne_true
 have hlong:¬ Builtin.List.listTooLong (its.toArray.size*k.toNat)=true:=by
  rw[notLongL hlen]
  exact Bool.false_ne_true
 have hnew:List.foldl (fun x1 x2=>x1++x2) #[] (List.replicate (if its.toArray.isEmpty=true then 0 else k.toNat) its.toArray)=(List.replicate k.toNat its).flatten.toArray:=by
  have f0:∀ m:Nat,List.foldl (fun x1 x2=>x1++x2) #[] (List.replicate m its.toArray)=(List.replicate m its).flatten.toArray:=fun m=>by
   have:=foldl_rep its m []
   rw[List.nil_append] at this
   exact this
  rw[f0]
  cases its with
  | nil=>simp
  | cons a r'=>rw[if_neg (by simp)]
 refine wpAny_binaryOp_repeat_ref (T := "list") (U := "int") (by decide) ⟨_,e,rfl⟩ (fun s'=>typeIs_int s' k t) noFill_list_mul F.fills_int_mul F.slot_int_rmul repeat_list F.slot_int_index.lookup
  (call_meets F.slot_int_rmul (typeIs_int s k t) F.entry_int_rmul (F.args_int_rmul_2 _ _) (int___rmul___int_list k t l its.toArray n)
   ⟨e,rfl,⟨_,e,rfl⟩,call_meets F.slot_list_mul ⟨_,e,rfl⟩ F.entry_list_mul (F.args_list_mul_2 _ _) (AutoListH.list___mul___list_int_3 l its.toArray n k t hfit hcap hlong) ⟨e,?_⟩⟩)
 rw[hnew]
 exact⟨.ref _,_,I.lnew (t':=s.toks) (r.rep k.toNat) (by rw[len_rep,Nat.mul_comm];exact hz),rfl,q _ I.fresh⟩
end
section
variable {prog:Program}{w:World}{A:Around}{E:Value→Shared→Prop}{s:Shared}
end
section
variable {X:Cx}
end
end L2
namespace Att
open PySem PySem.W PySem.Calls PyProof.Rows
theorem ints_of_wellAll{P:Params}{h:Heap}:∀(ns:List Int)(vs:List Value),WellAll P h vs (ns.map WData.int)→IntsAre vs ns:=by
 intro ns
 induction ns with
 | nil =>
  intro vs w
  rw[List.map_nil] at w
  cases w
  exact .nil
 | cons n ns ih =>
  intro vs w
  rw[List.map_cons] at w
  cases w with
  | cons a b =>
   cases a
   exact .cons _ _ (ih _ b)
theorem script_of{l:OpenLaw}{n:Nat}(hn:l.most=some n){P:Params}{h:Heap}{args:List WData}{vals:List Value}
  (hpre:l.row.toRowW.claim.pre args=true) (hwl:WellAll P h vals args) :
  ∃ a vs ns,vals=[Value.ref a]∧args=[WData.list (ns.map WData.int)]∧h.get? a=some { cls:=.type "list", data:=.seq vs.toArray }∧IntsAre vs ns∧ns.length≤n:=by
 have hsh:WShape.hasAll [] args [.list .int]=true:=(pre_splitW hpre).1
 have hc:l.pre.holds [] { args:=args }=true:=(pre_splitW hpre).2
 obtain⟨d,r,rfl,h1,h2⟩:=hasAllW_cons hsh
 obtain rfl:=hasAllW_nil h2
 obtain⟨xs,rfl,h3⟩:=hasW_list h1
 obtain⟨ns,rfl⟩:=items_int h3
 have hlen:ns.length≤n:=by
  unfold OpenLaw.pre at hc
  have h4:(WTm.not (.lt (.lit (.int (n:Int))) (.len (.arg 0)))).holds [] { args:=[.list (ns.map .int)] }=true:=by
   have h4:=(holds_andW hc).1
   rw[hn] at h4
   exact h4
  have h5:=condW_of h4 (w_not (w_lt w_lit (w_len_list (w_arg rfl))))
  rw[List.length_map] at h5
  refine Nat.le_of_not_lt fun q=>?_
  have q':(n:Int) < ((ns.length:Nat):Int):=by omega
  first
   | (rw[decide_eq_true q'] at h5;exact absurd h5 (by decide))
   | (simp at h5;omega)
 cases hwl with
 | cons w1 w2 =>
  cases w2
  cases w1 with
  | list ho hall=>exact⟨_,_,ns,rfl,rfl,ho,ints_of_wellAll ns _ hall,hlen⟩
theorem post_true(l:OpenLaw)(args:List WData):l.row.toRowW.claim.post args (.bool true) args=true :=
 postW_of (r:=l.row.toRowW) (X:=(true == true))
  (show WShape.has [] (.bool true) .bool=true by first | rfl | decide | simp[WShape.has,WShape.arms,WShape.armsAll])
  (show (WTm.eq .res (.lit (.bool true))).value [] { args:=args,res:=some (.bool true),after:=args }=some (.bool (true == true)) from w_eq_bool (w_res rfl) w_lit) rfl
theorem attach_call{l:OpenLaw}{n:Nat}{q:Program}{loose:List Str}{XP:(Str→Option Value)→Heap→Prop}{YP:World→Heap→Prop}{d:DefRec}
  (hn:l.most=some n) (hdf:d.params.defaults=[])
  (call:∀(w:World)(s₀ s₁:Shared)(mg mb:Str→Option Value)(fa:Addr)(o:Obj)(pm cd doc:Value)(a:Addr)(vs:List Value)(ns:List Int),
   Ground q loose [] XP w s₀ mg mb s₁.heap→YP w s₁.heap →
   s₁.heap.get? fa=some o→o.data=.func (docDef d.name d.params d.body d.scope pm cd doc)→s₁.heap.CodeRec cd d.name→mg d.name=some (.ref fa) →
   s₁.heap.get? a=some { cls:=.type "list", data:=.seq vs.toArray }→IntsAre vs ns→ns.length≤n→s₁.gens=#[] →
   codeAny (model l.prog w) callerA (.call (.ref fa) ⟨[.ref a],[]⟩) (fun r s'=>r=.ok (.ret (.bool true))∧OldK s₁.heap s'.heap∧s'.os=s₁.os∧AllBare s'.gens) s₁) :
  WalkO q loose XP YP l.row.toRowW d [] (fun f vs=>PySem.call f vs):=by
 intro w s₀ s₁ mg mb G Y fa o pm cd doc dV kV ho hd hcd hD hmg hg args vals as hpre hlay hrd hwl hlo
 obtain rfl:dV=.none:=Dflts.none hD hdf
 obtain rfl:kV=.none:=Dflts.noKw hD
 obtain⟨a,vs,ns,rfl,rfl,hobj,hints,hlen⟩:=script_of hn hpre hwl
 refine enter_call (codeAny_mono (call w s₀ s₁ mg mb fa o pm cd doc a vs ns G Y ho (fd_plain hd) hcd hmg hobj hints hlen hg) fun r s' hq=>?_)
 obtain⟨rfl,h2,h3,h4⟩:=hq
 exact⟨.inl ⟨.bool true,.bool true,[],rfl,fun _=>rfl,.bool true,post_true l _,fun _=>⟨List.Pairwise.nil,fun _ hm=>(nomatch hm)⟩⟩,h2,h3,h4⟩
section
variable {prog:Program}{w:World}{A:Around}{E:Value→Shared→Prop}{s:Shared}{K:Frag}
end
end Att
namespace L2
open PySem PySem.Spec PyProof.Rows
theorem vals_ints:∀{vs:List Value}{ns:List Int},IntsAre vs ns→Vals (ns.map V.int) vs
 | _,_,.nil=>.nil
 | _,_,.cons n t h=>.cons ⟨t,rfl⟩ (vals_ints h)
def Only(H:Hp):Prop:=∀ b,H b=none∨∃ o xs,H b=some (.frz o (.lst xs))
theorem law_call{P:Program}{w:World}{K:PySem.W.Frag}{mg mb:Str→Option Value}{CX:CXT}{k:Nat}{fa a:Addr}{fd:FuncData}{x:Str}{sp:Sp}{s₁:Shared}{vs:List Value}{ns:List Int}
  (KX:K.In s₁.heap) (hns:s₁.heap.Ns mainGlobals mg) (hb:s₁.heap.Ns builtinsNs mb) (hbb:∀ x:Str,x ≠ "__name__" → mb x=bootBuiltins x) (hlim:s₁.heap.NoLimit) (hg:s₁.gens=#[])
  (ha:s₁.heap.get? a=some { cls:=.type "list", data:=.seq vs.toArray }) (hi:IntsAre vs ns) (hl:ns.length≤sizeLine) (hr:Room k callerA)
  (F:∀ base:Heap,K.In base→base.Ns mainGlobals mg→FnOk P w K mg base CX k fa fd [x] sp) (hbind:∀(s:Shared)(u:Value),BindsTo s fd ⟨[u],[]⟩ [(x,u)])
  (hsp:∀ H:Hp,Only H→SqL K H a (ns.map V.int)→sp [.ref a] H (fun v _=>v=.bl true) fun _ _ _=>False)
  (hCX:∀ H e s',CX [] H s₁ (fun _ _ _=>False) e s'→False) :
  codeAny (model P w) callerA (.call (.ref fa) ⟨[.ref a],[]⟩) (fun r s'=>r=.ok (.ret (.bool true))∧OldK s₁.heap s'.heap∧s'.os=s₁.os∧AllBare s'.gens) s₁:=by
 have rv:=vals_ints hi
 have lenV:=hi.length
 have core:∀ H:Hp,Only H→SqL K H a (ns.map V.int)→HOk P w H s₁.heap→(∀ b,H b≠none→b=a)→(H a≠none→K.lookup a=none) →
   codeAny (model P w) callerA (.call (.ref fa) ⟨[.ref a],[]⟩) (fun r s'=>r=.ok (.ret (.bool true))∧OldK s₁.heap s'.heap∧s'.os=s₁.os∧AllBare s'.gens) s₁:=by
  intro H hO hS hok hA hK
  have base_of:∀{b:Addr}{o:Obj},s₁.heap.get? b=some o→H b=none→(hidT s₁.heap H).get? b=some o:=fun e n=>hidT_get e n
  have noA:∀{b:Addr}{o:Obj}{es:Array DictEntry}{ep:Nat},s₁.heap.get? b=some o→o.data=.dict es ep→H b=none:=fun {b o es ep} e d=>by
   cases q:H b with
   | none=>rfl
   | some u =>
    have e':b=a:=hA b (by rw[q];simp)
    subst e'
    rw[ha] at e;cases e
    have d':Data.seq vs.toArray _=Data.dict es ep:=d
    cases d'
  have nsK:∀{b:Addr}{m:Str→Option Value},s₁.heap.Ns b m→(hidT s₁.heap H).Ns b m:=fun {b m} ⟨o,es,ep,e,d,r⟩=>⟨o,es,ep,base_of e (noA e d),d,r⟩
  have hKb:K.In (hidT s₁.heap H):=fun b o e=>base_of (KX b o e) (by
   cases q:H b with
   | none=>rfl
   | some u =>
    have e':b=a:=hA b (by rw[q];simp)
    subst e'
    rw[hK (by rw[q];simp)] at e;cases e)
  have hM:Mod K mg (hidT s₁.heap H):=⟨hKb,nsK hns,⟨mb,nsK hb,hbb⟩,let ⟨mc,h1,h2⟩:=hlim;⟨mc,nsK h1,h2⟩⟩
  have e0:Env0 P w K mg (hidT s₁.heap H) callerA [] s₁ H:=⟨rfl,hM,fun b o e=>of_hidT e,Nat.le_of_eq (hidT_size _ _),trivial,fun b hb=>absurd (show b∈([]:List Addr) from hb) (by simp),hok,.of_eq hg⟩
  refine codeAny_mono ((F _ hKb (nsK hns)).run callerA [] s₁ H ⟨[.ref a],[]⟩ [.ref a] [.ref a] _ _ hr e0 (hbind s₁ (.ref a)) (.cons rfl .nil) (hsp H hO hS)) fun r s' h=>?_
  cases r with
  | error e=>exact (hCX H e s' h).elim
  | ok fl =>
   cases fl with
   | next=>exact False.elim h
   | brk=>exact False.elim h
   | cont=>exact False.elim h
   | ret u =>
    obtain⟨v,H',os,bare,un,hok',r',q⟩:=h
    have q':v=.bl true:=q
    subst q'
    obtain rfl:u=Value.bool true:=r'
    refine⟨rfl,OldK.of_keep fun b o e=>?_,os,bare⟩
    cases q:H b with
    | none=>exact un.keep b o e q (by intro z;exact absurd (show b∈([]:List Addr) from z) (by simp)) (by simp)
    | some u =>
     rcases hO b with z | ⟨ob,xs,z⟩
     ·rw[q] at z;cases z
     ·have z2:=un.frzs b ob _ z
      obtain⟨e1,_⟩:=hok b _ z
      obtain⟨e2,_⟩:=hok' b _ z2
      rw[e] at e1;cases e1
      exact e2
 cases hk:K.lookup a with
 | some o =>
  have e:=KX a o hk
  rw[ha] at e
  cases e
  refine core (fun _=>none) (fun _=>.inl rfl) (.inr ⟨_,vs.toArray,_,hk,rfl,rfl,rfl,by rw[List.size_toArray,lenV];exact hl,by simpa using rv⟩) (fun b u z=>by have z':(none:Option HO)=some u:=z;cases z') (fun b z=>absurd rfl z) fun z=>absurd rfl z
 | none =>
  refine core (fun b=>if b=a then some (.frz { cls:=.type "list", data:=.seq vs.toArray } (.lst (ns.map V.int))) else none) (fun b=>?_) (.inl (.inr ⟨{ cls:=.type "list", data:=.seq vs.toArray },if_pos rfl⟩)) (fun b u z=>?_) (fun b z=>?_) fun _=>hk
  ·by_cases hb:b=a
   ·exact .inr ⟨_,_,if_pos hb⟩
   ·exact .inl (if_neg hb)
  ·by_cases hb:b=a
   ·have z':=(if_pos hb).symm.trans z
    cases z'
    subst hb
    exact⟨ha,by rw[List.length_map];exact hl,vs,_,rv,ha⟩
   ·have z':=(if_neg hb).symm.trans z
    cases z'
  ·by_cases hb:b=a
   ·exact hb
   ·exact absurd (if_neg hb) z
end L2
namespace L2
open PySem PySem.Spec PyProof.Rows
theorem walk_of{l:PySem.W.OpenLaw}{n k:Nat}{q:Program}{loose:List Str}{XP:(Str→Option Value)→Heap→Prop}{YP:World→Heap→Prop}{d:DefRec}{K:Params→PySem.W.Frag}{CX:World→CXT}{sp:World→Sp}{x:Str}
  (hn:l.most=some n) (hn2:n≤sizeLine) (hdf:d.params.defaults=[]) (hr:Room k callerA)
  (hY:∀(w:World)(h:Heap),YP w h→(K w.params).In h)
  (F:∀(w:World)(mg:Str→Option Value)(fa:Addr)(h:Heap),(K w.params).In h→h.Ns mainGlobals mg→mg d.name=some (.ref fa) →
   ∃ fd:FuncData,(∀(s:Shared)(u:Value),BindsTo s fd ⟨[u],[]⟩ [(x,u)]) ∧
    ∀ base:Heap,(K w.params).In base→base.Ns mainGlobals mg→FnOk l.prog w (K w.params) mg base (CX w) k fa fd [x] (sp w))
  (hsp:∀(w:World)(H:Hp)(a:Addr)(ns:List Int),ns.length≤n→Only H→SqL (K w.params) H a (ns.map V.int)→sp w [.ref a] H (fun v _=>v=.bl true) fun _ _ _=>False)
  (hCX:∀(w:World)(H:Hp)(s:Shared)(e:Value)(s':Shared),CX w [] H s (fun _ _ _=>False) e s'→False) :
  PySem.W.WalkO q loose XP YP l.row.toRowW d [] (fun f vs=>PySem.call f vs):=by
 refine Att.attach_call hn hdf fun w s₀ s₁ mg mb fa o pm cd doc a vs ns G Y ho hd hcd hmg hobj hints hlen hg=>?_
 have KX:=hY w _ Y
 obtain⟨fd,hb,hF⟩:=F w mg fa _ KX G.T.g hmg
 exact law_call KX G.T.g G.T.b G.T.builtins G.T.nolimit hg hobj hints (Nat.le_trans hlen hn2) hr hF hb (fun H hO hS=>hsp w H a ns hlen hO hS) fun H e s'=>hCX w H s₁ e s'
end L2
namespace L2
open PySem PySem.Spec PyProof.Rows
def inClass(s:Stmt)(j:Nat):Stmt:=match s with
 | .ClassDef _ _ _ body _ _ _ _ _ _ _=>body.getD j (.Pass ⟨0,0,0,0⟩)
 | _=>.Pass ⟨0,0,0,0⟩
def defArgs(s:Stmt):Arguments:=match s with
 | .FunctionDef _ a _ _ _ _ _ _ _ _=>a
 | _=>{ posonlyargs:=[],args:=[],vararg:=none,kwonlyargs:=[],kw_defaults:=[],kwarg:=none,defaults:=[] }
def defBody(s:Stmt):List Stmt:=match s with
 | .FunctionDef _ _ b _ _ _ _ _ _ _=>b
 | _=>[]
def defScope(s:Stmt):Scope:=match s with
 | .FunctionDef _ _ _ _ _ _ sc _ _ _=>sc
 | _=>{ kind:=.function,names:=[],isGenerator:=false,isCoroutine:=false }
abbrev CX0:CXT:=fun _ _ _ _ _ _=>False
abbrev E0:XK:=fun _ _ _=>False
theorem pass0{X:Cx}:Passes CX0 X E0:=fun _ _ _ _ _ _ _ h=>h.elim
structure Fun(K:PySem.W.Frag)(x qual:Str)(st:Stmt)(f:Addr)(fd:FuncData):Prop where
 ex:∃(oc:Value)(od:Option Addr)(kV doc pm:Value)(an:Option Addr)(cdv ct:Value) (osl:Array (Option Value)),
  fd=PySem.W.fnOf x qual (defArgs st) (defBody st) (defScope st) .none kV doc pm an cdv ct∧K.lookup f=some ⟨oc,od,.func fd,osl⟩∧PySem.W.codeIn K cdv qual=true
 kp:PySem.W.keepIn K (.ref f)=true
section
variable {P:Program}{w:World}{K:PySem.W.Frag}{mg:Str→Option Value}{base:Heap}
theorem Fun.ok{x qual:Str}{st:Stmt}{f:Addr}{fd:FuncData}{N ps:List Str}{k:Nat}{sp:Sp}(F:Fun K x qual st f fd)(S:FnScope N ps (defScope st))(len:∀ vs H Q E,sp vs H Q E→vs.length=ps.length)
  (hbody:∀(cdv:Value)(A:Around)(outer:List Env)(s:Shared)(H:Hp)(vs:List V)(Q:VK)(E:XK),Room k (A.deeper (envOfC qual (defScope st) s.heap.objs.size f cdv))→sp vs H Q E →
   ∃ t,PSs (cxOf CX0 P w K mg base N qual (defScope st) f cdv A outer s H E).nox (defBody st) t∧t { nx:=fun _ H'=>Q .non H',rt:=Q } (start N vs) H):FnOk P w K mg base CX0 (k+1) f fd ps sp:=by
 obtain⟨oc,od,kV,doc,pm,an,cdv,ct,osl,rfl,lk,hcd⟩:=F.ex
 refine fn_of lk hcd S len fun A outer s H vs Q E hr hsp=>?_
 obtain⟨t,h,q⟩:=hbody cdv A outer s H vs Q E hr hsp
 exact⟨t,h.nox,q⟩
theorem Fun.binds{x qual:Str}{st:Stmt}{f:Addr}{fd:FuncData}{ps:List Str}(F:Fun K x qual st f fd)
  (h:∀(kV doc pm:Value)(an:Option Addr)(cdv ct:Value)(us:List Value),us.length=ps.length→bindArgs (PySem.W.fnOf x qual (defArgs st) (defBody st) (defScope st) .none kV doc pm an cdv ct) ⟨us,[]⟩=pure (ps.zip us)):Binds K fd ps []:=by
 obtain⟨oc,od,kV,doc,pm,an,cdv,ct,osl,rfl,lk,hcd⟩:=F.ex
 exact .all (h kV doc pm an cdv ct)
theorem fun_mk{x qual:Str}{st:Stmt}{f:Addr}{oc:Value}{od an:Option Addr}{osl:Array (Option Value)}{kV doc pm cdv ct:Value}(l:K.lookup f=some ⟨oc,od,.func (PySem.W.fnOf x qual (defArgs st) (defBody st) (defScope st) .none kV doc pm an cdv ct),osl⟩)
  (c:PySem.W.codeIn K cdv qual=true) (k:PySem.W.keepIn K (.ref f)=true):Fun K x qual st f (PySem.W.fnOf x qual (defArgs st) (defBody st) (defScope st) .none kV doc pm an cdv ct):=⟨⟨oc,od,kV,doc,pm,an,cdv,ct,osl,rfl,l,c⟩,k⟩
end
theorem small1000{n:Nat}(h:n≤1000):n < sizeLine:=Nat.lt_of_le_of_lt h (by decide)
section
variable {X:Cx}
theorem pv(i:Nat){x:Str}{pos:Pos}(hN:X.N[i]?=some x:=by rfl)(hv:Vis X.env.scope x:=by first | exact Or.inl rfl | exact Or.inr (Or.inl rfl) | exact Or.inr (Or.inr rfl))(hd:(x == ("__debug__" : Str))=false:=by decide)
  (hcd:(x == ("__classdict__" : Str))=false:=by decide):PE X (.Name x pos) (tVar i):=pe_var hN hv hd hcd
end
theorem ite2{c A B:Prop}[Decidable c](h1:c→A)(h2:¬ c→B):if c then A else B:=by
 by_cases h:c
 ·rw[if_pos h]
  exact h1 h
 ·rw[if_neg h]
  exact h2 h
def Same(H H':Hp):Prop:=∀ b o,H b=some o→H' b=some o
theorem Same.refl(H:Hp):Same H H:=fun _ _ h=>h
theorem Same.trans{H H1 H2:Hp}(a:Same H H1)(b:Same H1 H2):Same H H2:=fun c o h=>b c o (a c o h)
theorem Same.free{H H':Hp}(e:Same H H'){l:Addr}(h:H' l=Option.none):H l=Option.none:=by
 cases q:H l with
 | none=>rfl
 | some o =>
  rw[e l o q] at h
  cases h
theorem Same.seq{K:PySem.W.Frag}{H H':Hp}{a:Addr}{xs:List V}(e:Same H H')(h:SqL K H a xs):SqL K H' a xs:=by
 rcases h with (h | ⟨o,h⟩) | h
 ·exact .inl (.inl (e _ _ h))
 ·exact .inl (.inr ⟨o,e _ _ h⟩)
 ·exact .inr h
end L2
namespace L2
open PySem PySem.Spec PyProof.Rows
section
variable {P:Program}{w:World}{H H':Hp}{h h':Heap}{a:Addr}{o:HO}
theorem ObjOk.there(x:ObjOk P w H h a o):∃ ob,h.get? a=some ob:=by
 induction o with
 | lst xs=>obtain⟨_,its,n,_,e⟩:=x;exact⟨_,e⟩
 | tup xs=>obtain⟨_,its,_,ob,e,_⟩:=x;exact⟨_,e⟩
 | dK kvs=>obtain⟨_,_,vs,_,ob,es,ep,e,_⟩:=x;exact⟨_,e⟩
 | dT kvs=>obtain⟨_,_,xs,_,ob,es,ep,e,_⟩:=x;exact⟨_,e⟩
 | set S n=>obtain⟨ob,es,ep,tb,e,_⟩:=(x:h.SetOf (intKind P w) a S n);exact⟨_,e⟩
 | ins C dx fs=>obtain⟨_,_,_,e,_⟩:=x;exact⟨_,e⟩
 | own x'=>exact x
 | xd fs=>obtain⟨mA,⟨ob,es,ep,e,_⟩,_⟩:=x;exact⟨_,e⟩
 | met f y=>exact⟨_,x⟩
 | rng lo hi=>obtain⟨t,u,v,e⟩:=x;exact⟨_,e⟩
 | frz ob u ih=>exact⟨_,x.1⟩
 | tbl ps=>exact⟨_,x⟩
 | ext φ=>exact x.2.1
theorem HOk.stays(x:HOk P w H h)(k:∀ b u,H b≠none→h.get? b=some u→h'.get? b=some u):HOk P w H h':=fun a o e =>
 (x a o e).stay (fun b u hb q=>k b u (by
  rcases hb with z | z
  ·rw[z,e];exact Option.some_ne_none _
  ·rw[z];exact Option.some_ne_none _) q) (fun _ q=>q) fun _ _ q=>q
end
def Fly(outer:List Env)(H':Hp)(h₀ h':Heap)(e:Addr)(cls:Value):Prop :=
 ∃ B a0,Heap.FlyingW B outer e cls a0 h'∧∀ b o,h'.get? b=some o→(H' b≠none∨∃ o₀,h₀.get? b=some o₀)→b∉frs outer→B.get? b=some o
def CXR(P:Program)(w:World):CXT:=fun outer H s E e s'=>∃ ea cls H',e=.ref ea∧s'.os=s.os∧AllBare s'.gens∧Un (frs outer) [] H H' s.heap s'.heap∧HOk P w H' s'.heap∧Fly outer H' s.heap s'.heap ea cls∧E cls none H'
theorem frs_cons{env:Env}{l:List Env}{L:Addr}(hf:env.frame=some L){b:Addr}:b∈frs (env::l)↔b=L∨b∈frs l:=by
 unfold frs
 rw[List.filterMap_cons,hf]
 exact List.mem_cons
theorem Un.onSlots{fs fs':List Addr}{H H1:Hp}{h h1 h2:Heap}(u:Un fs [] H H1 h h1)(hsub:∀ b o,h.get? b=some o→b∈fs'→b∈fs)
  (k:∀ b o,(∃ o₀,h.get? b=some o₀)→h1.get? b=some o→b∉fs'→h2.get? b=some o) (sl:∀ b o,h1.get? b=some o→b∈fs'→∃ sl,h2.get? b=some { o with slots:=sl }):Un fs [] H H1 h h2 where
 keep:=fun b o e n hb hx=>k b o ⟨o,e⟩ (u.keep b o e n hb hx) fun z=>hb (hsub b o e z)
 slot:=fun b o e n hb hx=>by
  obtain⟨s1,e1⟩:=u.slot b o e n hb hx
  by_cases z:b∈fs'
  ·obtain⟨s2,e2⟩:=sl b _ e1 z
   exact⟨s2,e2⟩
  ·exact⟨s1,k b _ ⟨o,e⟩ e1 z⟩
 free:=u.free
 there:=fun b o e hx=>by
  obtain⟨o1,e1⟩:=u.there b o e hx
  by_cases z:b∈fs'
  ·obtain⟨s2,e2⟩:=sl b _ e1 z
   exact⟨_,e2⟩
  ·exact⟨_,k b _ ⟨o,e⟩ e1 z⟩
 tups:=u.tups
 frzs:=u.frzs
 tbls:=u.tbls
section
variable {P:Program}{w:World}{K:PySem.W.Frag}{mg:Str→Option Value}{base:Heap}{N:List Str}{qual:Str}{scope:Scope}{f:Addr}{cd:Value}{A:Around}{outer:List Env}{s:Shared}{H:Hp}{E:XK}
abbrev cxR(P:Program)(w:World)(K:PySem.W.Frag)(mg:Str→Option Value)(base:Heap)(N:List Str)(qual:Str)(scope:Scope)(f:Addr)(cd:Value)(A:Around)(outer:List Env)(s:Shared)(H:Hp)(E:XK):Cx :=
 cxOf (CXR P w) P w K mg base N qual scope f cd A outer s H E
theorem frame_slots{l:List Env}{B h h':Heap}(hl:h.FunFrames B l)(k:h.UpToSlots h'){b:Addr}{o:Obj}(hb:b∈frs l)(e:h.get? b=some o):∃ sl,h'.get? b=some { o with slots:=sl }:=by
 obtain⟨_,o',e',nf⟩:=hl.mem hb
 rw[e] at e'
 cases e'
 exact k b o e nf
end
theorem PS.nox{X:Cx}{st:Stmt}{t:TS}(h:PS X.nox st t):PS X st t:=fun pins s σ H D I hw =>
 wpAny_mono (h pins s σ H D (I.wish _) hw) (fun _ _ z=>SP.unwish z) fun _ _ z=>z.elim
abbrev veTail:List Value:=[.type "ValueError", .type "Exception", .type "BaseException", .type "object"]
structure Exc(K:PySem.W.Frag)(mg:Str→Option Value)(x:Str)(C:Addr):Prop where
 bound:mg x=some (.ref C)
 isIn:PySem.W.excIn K C veTail "ValueError.__new__" = true
def tRaise(C:Addr)(E:XK)(t:TA):TS:=fun _ σ H=>t σ H fun vs H1=>vs.length≤sizeLine∧E (.ref C) none H1
abbrev XEx:=Value→St→Hp→Prop
abbrev Cx.pinned(X:Cx)(pn:List (Addr×Obj)):Cx:={ X with pn:=pn }
abbrev Cx.inH(X:Cx)(e:Addr):Cx:={ X with A:=X.A.mark (some (.ref e)),calm:=false,xe:=fun _ _=>False }
def tCallX(sp:Sp)(EX:XEx)(t:TA):TE:=fun σ H Q=>t σ H fun vs H1=>sp vs H1 Q fun cls _ H2=>EX cls σ H2
theorem Inv.repin{X:Cx}{pins:List (Addr×Obj)}{σ:St}{H:Hp}{s:Shared}(I:Inv X pins σ H s):Inv (X.pinned (X.pn++pins)) [] σ H s :=
 ⟨⟨I.ok.mod,I.ok.kind,I.ok.glob,I.ok.blt,I.ok.above,I.ok.inj,I.ok.has,I.ok.cab,I.ok.hd,I.ok.frames,I.ok.stk,I.ok.exf,I.ok.bs,I.ok.bsz,I.ok.noex,I.ok.exfs,I.ok.funs,I.ok.frf⟩,I.os,I.bare,I.base,I.loc,I.cell,I.free,I.freeC,
  fun p hp=>I.pin p (by
   have hp':p∈(X.pn++pins)++[]:=hp
   rwa [List.append_nil] at hp'),I.hok,I.len⟩
theorem Inv.unrepin{X:Cx}{pins pins':List (Addr×Obj)}{σ:St}{H:Hp}{s:Shared}(I:Inv (X.pinned (X.pn++pins)) pins' σ H s):Inv X pins σ H s :=
 ⟨⟨I.ok.mod,I.ok.kind,I.ok.glob,I.ok.blt,I.ok.above,I.ok.inj,I.ok.has,I.ok.cab,I.ok.hd,I.ok.frames,I.ok.stk,I.ok.exf,I.ok.bs,I.ok.bsz,I.ok.noex,I.ok.exfs,I.ok.funs,I.ok.frf⟩,I.os,I.bare,I.base,I.loc,I.cell,I.free,I.freeC,
  fun p hp=>I.pin p (List.mem_append_left pins' (show p∈X.pn++pins from hp)),I.hok,I.len⟩
theorem Inv.toH{X:Cx}{pins:List (Addr×Obj)}{σ:St}{H:Hp}{s:Shared}(I:Inv X pins σ H s)(e:Addr):Inv (X.inH e) pins σ H s :=
 ⟨⟨I.ok.mod,I.ok.kind,I.ok.glob,I.ok.blt,I.ok.above,I.ok.inj,I.ok.has,I.ok.cab,(fun z=>absurd (show false=true from z) Bool.false_ne_true),I.ok.frames,I.ok.stk,I.ok.exf,I.ok.bs,I.ok.bsz,I.ok.noex,I.ok.exfs,I.ok.funs,I.ok.frf⟩,I.os,I.bare,I.base,I.loc,I.cell,I.free,I.freeC,I.pin,I.hok,I.len⟩
theorem Inv.ofH{X:Cx}{pins:List (Addr×Obj)}{σ:St}{H:Hp}{s:Shared}{e:Addr}(ok:X.Ok)(I:Inv (X.inH e) pins σ H s):Inv X pins σ H s :=
 ⟨ok,I.os,I.bare,I.base,I.loc,I.cell,I.free,I.freeC,I.pin,I.hok,I.len⟩
theorem SP.imp{X Y:Cx}{pins pins':List (Addr×Obj)}{D:Ends}{f:Flow}{s':Shared}(k:∀ σ H,Inv X pins σ H s'→Inv Y pins' σ H s')(h:SP X pins D f s'):SP Y pins' D f s':=by
 cases f with
 | next=>obtain⟨σ,H,I,q⟩:=h;exact⟨σ,H,k σ H I,q⟩
 | brk=>obtain⟨σ,H,I,q⟩:=h;exact⟨σ,H,k σ H I,q⟩
 | cont=>obtain⟨σ,H,I,q⟩:=h;exact⟨σ,H,k σ H I,q⟩
 | ret u=>obtain⟨v,σ,H,I,r,q⟩:=h;exact⟨v,σ,H,k σ H I,r,q⟩
def tTry(C:Addr)(tb:XEx→TS)(th:TS):TS:=fun D σ H=>tb (fun cls σ' H'=>cls=.ref C∧th D σ' H') D σ H
end L2
namespace L2
open PySem PySem.Spec PyProof.Rows
theorem closure_ex{env:Env}:∀ (names:List (Str×NameKind)) (cs:List (Str×Addr)),(∀ y∈names,y.2=.free→∃ c,env.cells.lookup y.1=some c)→(∀ y c,cs.lookup y=some c→env.cells.lookup y=some c) →
  ∃ cl:List (Str×Addr),(forIn names cs fun (x:Str×NameKind) (r:List (Str×Addr))=>(if (x.2 == NameKind.free)=true then (cellOf env x.1 >>= fun a=>(pure (ForInStep.yield ((x.1,a)::r)):Sem _)) else pure (ForInStep.yield r)))=(pure cl:Sem (List (Str×Addr))) ∧
   (∀ y c,cl.lookup y=some c→env.cells.lookup y=some c)∧(∀ y c,cs.lookup y=some c→∃ c',cl.lookup y=some c')∧∀ y∈names,y.2=.free→∃ c,cl.lookup y.1=some c
 | [],cs,_,h2=>⟨cs,rfl,h2,fun y c e=>⟨c,e⟩,fun _ z=>nomatch z⟩
 | (n,k)::r,cs,h1,h2=>by
  have h1':∀ y∈r,y.2=.free→∃ c,env.cells.lookup y.1=some c:=fun y hy=>h1 y (List.mem_cons_of_mem _ hy)
  by_cases hk:k=.free
  ·subst hk
   obtain⟨c,hc⟩:=h1 (n,.free) List.mem_cons_self rfl
   obtain⟨cl,e,a1,a2,a3⟩:=closure_ex r ((n,c)::cs) h1' (fun y c' hy=>by
    rw[List.lookup_cons] at hy
    split at hy
    ·rename_i hyn
     have:y=n:=by simpa using hyn
     subst this
     cases hy
     exact hc
    ·exact h2 y c' hy)
   refine⟨cl,?_,a1,fun y c' hy=>?_,fun y hy hf=>?_⟩
   ·rw[List.forIn_cons]
    have e1:cellOf env n=(pure c:Sem Addr):=by unfold cellOf;rw[hc]
    simp only[beq_self_eq_true,if_true,e1,pure_bind]
    exact e
   ·by_cases hyn:(y == n)=true
    ·exact a2 y c (by rw[List.lookup_cons,hyn])
    ·exact a2 y c' (by rw[List.lookup_cons];simp only[hyn];exact hy)
   ·rcases List.mem_cons.mp hy with rfl | hy
    ·exact a2 n c (by rw[List.lookup_cons];simp)
    ·exact a3 y hy hf
  ·obtain⟨cl,e,a1,a2,a3⟩:=closure_ex r cs h1' h2
   refine⟨cl,?_,a1,a2,fun y hy hf=>?_⟩
   ·rw[List.forIn_cons]
    have hb:(k == NameKind.free)=false:=by simpa using hk
    simp only[hb,Bool.false_eq_true,if_false,pure_bind]
    exact e
   ·rcases List.mem_cons.mp hy with rfl | hy
    ·exact absurd hf hk
    ·exact a3 y hy hf
theorem closure_of{env:Env}{scope:Scope}(h:∀ y∈scope.names,y.2=.free→∃ c,env.cells.lookup y.1=some c) :
  ∃ cl,closureFor scope env=pure cl∧(∀ y c,cl.lookup y=some c→env.cells.lookup y=some c)∧∀ y∈scope.names,y.2=.free→∃ c,cl.lookup y.1=some c:=by
 obtain⟨cl,e,a1,_,a3⟩:=closure_ex (env:=env) scope.names [] h (fun y c z=>by simp at z)
 refine⟨cl,?_,a1,a3⟩
 unfold closureFor
 refine Eq.trans (congrArg (fun z=>z >>= fun (r:List (Str×Addr))=>(pure r:Sem (List (Str×Addr)))) ?_) (by rw[pure_bind])
 exact e
abbrev Cx.comp(X:Cx)(N':List Str)(scope:Scope)(cl:List (Str×Addr))(C:Addr)(fp:List Addr)(s2:Shared)(H2:Hp):Cx :=
 { X with N:=N',s₀:=s2,H₀:=H2,env:=compEnvC scope cl C X.env,outer:=X.stack,ex:=fp,fn:=fun _=>false,pn:=[],xe:=fun _ _=>False }
def PFs(X:Cx)(ifs:List Expr)(t:TT):Prop :=
 ∀ (pins:List (Addr×Obj)) (s:Shared) (σ:St) (H:Hp) (Q:Bool→Hp→Prop),Inv X pins σ H s→t σ H Q →
  wpAny (model X.prog X.w) X.A (forIn ifs true fun c r=>if r=true then do let ok ← isTrue c X.env (eval c X.env);pure (ForInStep.yield ok) else pure (ForInStep.yield r)) (TP X pins σ Q) X.xe s
def tYes:TT:=fun _ H Q=>Q true H
theorem pf_nil{X:Cx}:PFs X [] tYes:=fun _ _ _ H _ I h=>wpAny_tests_nil ⟨H,I,h⟩
theorem pf_one{X:Cx}{c:Expr}{t:TT}(h:PT X c t):PFs X [c] t:=fun pins s σ H Q I q=>wpAny_tests_one (h pins s σ H Q I q)
def compSt(n:Nat)(js:List Nat)(σ:St):St:=List.replicate n none++js.map fun j=>(σ[j]?).join
def Ext(σ σ':St):Prop:=σ.length=σ'.length∧∀(i:Nat) v,σ[i]?=some (some v)→σ'[i]?=some (some v)
def GExt(g:TG)(n:Nat):Prop:=∀(r:St) x H Q,g x (List.replicate n none++r) H Q→g x (List.replicate n none++r) H fun σ2 H2=>Ext (List.replicate n none++r) σ2∧Q σ2 H2
theorem ext_set{n k:Nat}(hk:k < n)(r:St){σ:St}(e:Ext (List.replicate n none++r) σ)(v:V):Ext (List.replicate n none++r) (σ.set k (some v)):=by
 refine⟨by rw[List.length_set];exact e.1,fun i w h=>?_⟩
 by_cases hi:i=k
 ·subst hi
  rw[List.getElem?_append_left (by simpa using hk),List.getElem?_replicate] at h
  split at h<;>cases h
 ·rw[List.getElem?_set_ne (fun z=>hi z.symm)]
  exact e.2 i w h
theorem Ext.refl(σ:St):Ext σ σ:=⟨rfl,fun _ _ h=>h⟩
theorem gext_name{n k:Nat}(hk:k < n):GExt (gName k) n:=fun r x H Q h=>⟨ext_set hk r (Ext.refl _) x,h⟩
def tComp(n:Nat)(js:List Nat)(wi:TI)(g:TG)(tt:TT)(te:TE):TE:=fun σ H Q=>wi σ H fun J H1=>∀ l,H1 l=none→∃ W:Nat→Nat→List V→Hp→Prop,(∃ m,W 0 m [] (upd H1 l (.lst [])))∧∀ i m acc H,W i m acc H →
 (J.stop i H∧Q (.ref l) H)∨(J.go i H∧∃ N:List V→Hp→Prop,(∀ acc' H',N acc' H'→∃ m',m' < m∧W (i+1) m' acc' H') ∧
  ∀ x H',J.yld i H x H'→g x (compSt n js σ) H' fun σ2 H2=>tt σ2 H2 fun b H3=>if b=true then te σ2 H3 fun y H4=>H4 l=some (.lst acc)∧acc.length < sizeLine∧N (acc++[y]) (upd H4 l (.lst (acc++[y]))) else N acc H3)
section
variable {prog:Program}{w:World}{A:Around}{R:Result→Shared→Prop}{s:Shared}
theorem compLoop_any{elt tg iter:Expr}{ifs:List Expr}{scope:Scope}{pos:Pos}{it acc:Value}{env:Env}(I:Nat→Shared→Prop){E:Value→Shared→Prop}(hE:∀ e s',E e s'→False)
  (turn:∀ n s,I n s→wpAny (model prog w) A (pyNext it) (fun r s₁=>match r with
   | none=>R (.ok .next) s₁
   | some v=>wpAny (model prog w) A (letOwnedTupleGo tg it v) (fun _ s₁=>wpAny (model prog w) A (assign tg env v) (fun _ s₂ =>
     wpAny (model prog w) A (forIn ifs true fun c r=>if r=true then do let ok ← isTrue c env (eval c env);pure (ForInStep.yield ok) else pure (ForInStep.yield r)) (fun ok s₃ =>
      if ok=true then wpAny (model prog w) A (eval elt env) (fun x s₄=>wpAny (model prog w) A (call (.builtin "list.append") [acc,x]) (fun _ s₅=>∃ m,m < n∧I m s₅) E s₄) E s₃
      else ∃ m,m < n∧I m s₃) E s₂) E s₁) E s₁) E s)
  (n:Nat) (h:I n s):codeAny (model prog w) A (.compLoop (.ListComp elt [⟨tg,iter,ifs,0⟩] scope pos) 0 it acc env) R s:=by
 refine codeAny_loop rfl I (fun n s hI=>?_) n h
 show wpAny _ A ((compTurn (.ListComp elt [⟨tg,iter,ifs,0⟩] scope pos) 0 it acc env).onRaise (fun x=>do noteFrame x env;theTreesLotGoes x)) _ _ s
 refine wpAny_noted ?_
 rw[compTurn_list]
 have up:∀{α:Type}{t:Sem α}{Q:α→Shared→Prop}{E':Value→Shared→Prop}{s:Shared},wpAny (model prog w) A t Q E s→wpAny (model prog w) A t Q E' s:=fun h=>wpAny_mono h (fun _ _ z=>z) fun _ _ z=>(hE _ _ z).elim
 refine wpAny_bind (wpAny_standAt (wpAny_bind (up (wpAny_mono (turn n s hI) (fun r s₁ h₁=>?_) fun _ _ z=>z))))
 cases r with
 | none=>exact wpAny_pure h₁
 | some v =>
  refine wpAny_bind (up (thn h₁ fun _ s₂ h₂=>wpAny_bind (up (thn h₂ fun _ s₃ h₃=>wpAny_bind (up (thn h₃ fun ok s₄ h₄=>?_))))))
  cases ok with
  | false=>exact wpAny_pure ⟨rfl,h₄⟩
  | true=>exact wpAny_bind (wpAny_bind (up (thn h₄ fun x s₅ h₅=>wpAny_bind (up (thn h₅ fun _ s₆ h₆=>wpAny_pure (wpAny_pure ⟨rfl,h₆⟩))))))
end
section
variable {X:Cx}
theorem Inv.fpComp{pins:List (Addr×Obj)}{σ:St}{H H':Hp}{s:Shared}{fp:List Addr}{N':List Str}{scope:Scope}{cl:List (Str×Addr)}{C:Addr}(I:Inv X pins σ H s)(f:∀ b∈fp,FpOk X pins H b)
  (hb:∀ b∈fp,b < s.heap.objs.size) (hC:s.heap.objs.size≤C) (hcl:∀ y c,cl.lookup y=some c→X.env.cells.lookup y=some c) (hn:∀ b∈fp,H' b=none) :
  ∀ b∈fp,FpOk (X.comp N' scope cl C fp s H) [] H' b:=fun b z=>by
 obtain⟨_,f1,f2,f3,f4,f5⟩:=f b z
 exact⟨hn b z,Nat.ne_of_lt (Nat.lt_of_lt_of_le (hb b z) hC),fun q=>(List.mem_cons.mp (I.stkSub b q)).elim f1 f2,.inl z,fun x c e=>f4 x c (hcl x c e),fun p hp=>absurd (show p∈([]:List (Addr×Obj))++[] from hp) (by simp)⟩
theorem Inv.comp{pins:List (Addr×Obj)}{σ:St}{H:Hp}{s s4:Shared}{fp:List Addr}{own:List Str}{fr:List (Str×Nat)}{scope:Scope}{cl:List (Str×Addr)}{C D:Addr}(I:Inv X pins σ H s)(f:∀ b∈fp,FpOk X pins H b)
  (hb:∀ b∈fp,b < s.heap.objs.size) (hkind:scope.kind=.function) (hcell:∀ y∈scope.names,y.2≠.cell)
  (hcl:∀ y c,cl.lookup y=some c→X.env.cells.lookup y=some c) (hcl2:∀ y∈scope.names,y.2=.free→∃ c,cl.lookup y.1=some c)
  (hfr:∀ p∈fr,X.N[p.2]?=some p.1∧(X.env.kindOf p.1=some .cell∨X.env.kindOf p.1=some .free)∧(p.1,NameKind.free)∈scope.names∧((relabel scope X.env).names.lookup p.1=some .cell∨(relabel scope X.env).names.lookup p.1=some .free))
  (hD:s.heap.objs.size≤D) (hC:s.heap.objs.size≤C) (hCD:C≠D) (hns:s4.heap.Ns C (fun _=>none)) (k:∀ b o,s.heap.get? b=some o→s4.heap.get? b=some o) (hl:s4.heap.get? D=some { cls:=.type "list", data:=.seq ([]:List Value).toArray })
  (os:s4.os=s.os) (bare:AllBare s4.gens):Inv (X.comp (own++fr.map (·.1)) scope cl C fp s H) [] (compSt own.length (fr.map (·.2)) σ) (upd H D (.lst [])) s4:=by
 have fresh:∀ b,s.heap.objs.size≤b→H b=none:=fun b h=>I.hok.fresh h
 have cellLt:∀ y c,X.env.cells.lookup y=some c→c < s.heap.objs.size:=fun y c e=>by
  obtain⟨v,q⟩:=I.cell y c e
  exact q.lt
 have relK:∀ y,((relabel scope X.env).names.lookup y=some .cell∨(relabel scope X.env).names.lookup y=some .free)→∃ z∈scope.names,z.1=y∧z.2=.free:=fun y h=>by
  have mem:∃ kk,(y,kk)∈(relabel scope X.env).names∧(kk=.cell∨kk=.free):=by
   rcases h with h | h
   ·exact⟨_,PySem.mem_of_lookup h,.inl rfl⟩
   ·exact⟨_,PySem.mem_of_lookup h,.inr rfl⟩
  obtain⟨kk,hm,hk⟩:=mem
  obtain⟨⟨n,k0⟩,hz,e⟩:=List.mem_map.mp hm
  refine⟨(n,k0),hz,?_,?_⟩
  ·dsimp only at e
   split at e<;>cases e<;>rfl
  ·dsimp only at e ⊢
   split at e
   ·rename_i hc
    simp only[Bool.and_eq_true,beq_iff_eq] at hc
    exact hc.1.1
   ·cases e
    rcases hk with hk | hk
    ·exact absurd hk (hcell _ hz)
    ·exact hk
 have ok:(X.comp (own++fr.map (·.1)) scope cl C fp s H).Ok :=
  {mod:=I.ok.mod
   kind:=hkind
   glob:=I.ok.glob
   blt:=I.ok.blt
   above:=hC
   inj:=fun x y c e1 e2=>I.ok.inj x y c (hcl x c e1) (hcl y c e2)
   has:=fun y hy=>by
    obtain⟨z,hz,rfl,hf⟩:=relK y hy
    exact hcl2 z hz hf
   cab:=fun x c z=>by cases (show false=true from z)
   hd:=I.ok.hd
   frames:=I.ok.frames
   stk:=.inl rfl
   exf:=fun b z=>⟨Nat.ne_of_lt (Nat.lt_of_lt_of_le (hb b z) hC),fun x c e=>(f b z).2.2.2.2.1 x c (hcl x c e)⟩
   bs:=fun b o e=>I.bs b o e
   bsz:=Nat.le_trans I.ok.bsz I.sz
   noex:=fun b o e z=>by
    obtain⟨_,_,_,h4,_⟩:=f b z
    rcases h4 with h4 | h4
    ·exact I.ok.noex b o e h4
    ·exact absurd (Heap.lt_size (I.ok.bs b o e).1) (Nat.not_lt.mpr h4)
   exfs:=fun b z q=>(List.mem_cons.mp (I.stkSub b q)).elim (f b z).2.1 (f b z).2.2.1
   funs:=I.stack
   frf:=I.stkFree }
 refine⟨ok,os,bare,Un.laid k hD (fresh D hD),⟨fun _=>none,hns,fun i x v h1 h2 h3=>?_⟩,fun x c e=>?_,?_,fun x c e=>?_,fun p hp=>absurd (show p∈([]:List (Addr×Obj))++[] from hp) (by simp),I.hok.laid k hD ⟨Nat.zero_le _,[],0,.nil,hl⟩,?_⟩
 ·-- a closed-over name
  have h2':(compSt own.length (fr.map (·.2)) σ)[i]?=some (some v):=h2
  have h1':(own++fr.map (·.1))[i]?=some x:=h1
  unfold compSt at h2'
  by_cases hi:i < own.length
  ·rw[List.getElem?_append_left (by simpa using hi),List.getElem?_replicate] at h2'
   split at h2'<;>cases h2'
  ·rw[List.getElem?_append_right (by simpa using hi),List.length_replicate,List.getElem?_map,List.getElem?_map] at h2'
   rw[List.getElem?_append_right (by omega),List.getElem?_map] at h1'
   cases e:fr[i - own.length]? with
   | none=>rw[e] at h1';cases h1'
   | some p =>
    rw[e] at h1' h2'
    have hx:p.1=x:=Option.some.inj h1'
    have hv:(σ[p.2]?).join=some v:=Option.some.inj h2'
    have hv':σ[p.2]?=some (some v):=by
     cases q:σ[p.2]? with
     | none=>rw[q] at hv;cases hv
     | some o=>rw[q] at hv;rw[show o=some v from hv]
    obtain⟨hN,hkx,hmem,hrel⟩:=hfr p (List.mem_of_getElem? e)
    obtain⟨m,hn,hl2⟩:=I.loc
    obtain⟨u,r,lk⟩:=hl2 p.2 p.1 v hN hv' (hkx.elim (fun z=>.inr (.inl z)) fun z=>.inr (.inr z))
    rcases lk with ⟨lk,_⟩ | ⟨_,c,hc,hcell'⟩
    ·rcases hkx with z | z
     ·rw[lk] at z;cases z
     ·rw[lk] at z;cases z
    ·subst hx
     obtain⟨c',hc'⟩:=hcl2 _ hmem rfl
     have:=hcl _ _ hc'
     rw[hc] at this
     cases this
     refine⟨u,r,.inr ⟨hrel,c,hc',?_⟩⟩
     obtain⟨ob,e1,e2⟩:=hcell'
     exact⟨ob,k _ _ e1,e2⟩
 ·obtain⟨v,ob,e1,e2⟩:=I.cell x c (hcl x c e)
  exact⟨v,ob,k _ _ e1,e2⟩
 ·show upd H D (.lst []) C=none
  rw[upd_ne hCD]
  exact fresh C hC
 ·rw[upd_ne (Nat.ne_of_lt (Nat.lt_of_lt_of_le (cellLt x c (hcl x c e)) hD))]
  exact I.freeC x c (hcl x c e)
 ·show (compSt own.length (fr.map (·.2)) σ).length=(own++fr.map (·.1)).length
  unfold compSt
  simp
theorem pe_comp{elt iter tg:Expr}{ifs:List Expr}{scope:Scope}{pos:Pos}{wi:TI}{g:TG}{tt:TT}{te:TE}(own:List Str)(fr:List (Str×Nat))(hc:X.calm=true)(hi:PI X tg iter wi)
  (hgx:GExt g own.length) (hB:∀ cl C fp s2 H2,PG (X.comp (own++fr.map (·.1)) scope cl C fp s2 H2) tg g∧PFs (X.comp (own++fr.map (·.1)) scope cl C fp s2 H2) ifs tt∧PE (X.comp (own++fr.map (·.1)) scope cl C fp s2 H2) elt te)
  (hkind:scope.kind=.function) (hcell:∀ y∈scope.names,y.2≠.cell) (hnames:∀ y∈scope.names,y.2=.local→scope.names.lookup y.1=some .local)
  (hfree:∀ y∈scope.names,y.2=.free→X.env.kindOf y.1=some .cell∨X.env.kindOf y.1=some .free)
  (hfr:∀ p∈fr,X.N[p.2]?=some p.1∧(X.env.kindOf p.1=some .cell∨X.env.kindOf p.1=some .free)∧(p.1,NameKind.free)∈scope.names∧((relabel scope X.env).names.lookup p.1=some .cell∨(relabel scope X.env).names.lookup p.1=some .free))
  (hs:∀ x,foldedSetIterable iter X.env x=pure x:=by intro _;rfl):PE X (.ListComp elt [⟨tg,iter,ifs,0⟩] scope pos) (tComp own.length (fr.map (·.2)) wi g tt te):=by
 intro pins s σ H Q I h
 obtain⟨cl,hclos,hcl,hcl2⟩:=closure_of (env:=X.env) (scope:=scope) fun y hy hf=>I.ok.has y.1 (hfree y hy hf)
 rw[eval_ListComp]
 refine wpAny_comprehension_free (use:=none) rfl hs hclos hkind hnames (thn (hi pins s σ H _ I h) fun v s1 h1=>thn h1 fun itv s2 h2=>?_)
 obtain⟨it,fp,tn,J,H2,e,I2,T,st2,f2,h3⟩:=h2
 subst e
 obtain⟨W,⟨m0,w0⟩,turn⟩:=h3 s2.heap.objs.size I2.fresh
 have hb:∀ b∈fp,b < s2.heap.objs.size:=fun b z=>by
  obtain⟨o,e,_⟩:=T.obj _ _ st2 b z
  exact Heap.lt_size e
 refine wpAny_newObj_type (wpAny_newFunctionEnv hcell (by intro y hy;simp at hy) (fun h₁ hns₁ hsb₁=>?_) hkind)
 dsimp only at hns₁ hsb₁ ⊢
 generalize hH2:s2.heap.push { cls:=.type "list", dict:=none,data:=.seq ([]:List Value).toArray }=G at hns₁ hsb₁ ⊢
 have hCs:G.objs.size=s2.heap.objs.size+1:=by rw[← hH2,Heap.size_push]
 have old:∀ b o,s2.heap.get? b=some o→h₁.get? b=some o:=fun b o e=>hsb₁.extBut b o (Nat.ne_of_lt (by rw[hCs];exact Nat.lt_succ_of_lt (Heap.lt_size e))) (Heap.get?_push_of_some _ (hH2▸Heap.get?_push_of_some _ e))
 have hD:h₁.get? s2.heap.objs.size=some { cls:=.type "list", data:=.seq ([]:List Value).toArray }:=hsb₁.extBut _ _ (Nat.ne_of_lt (by rw[hCs];exact Nat.lt_succ_self _)) (Heap.get?_push_of_some _ (hH2▸Heap.get?_push_size _ rfl))
 generalize hC:G.objs.size=C at hns₁ hsb₁ hCs ⊢
 have hns':h₁.Ns C (fun _=>none):=by
  have e:(fun x=>(([]:List (Str×Value)).reverse.lookup x))=fun _=>(none:Option Value):=by funext x;rfl
  rw[← e]
  exact hns₁
 have hle:s2.heap.objs.size≤C:=by rw[hCs];exact Nat.le_succ _
 have hne:C≠s2.heap.objs.size:=Nat.ne_of_gt (by rw[hCs];exact Nat.lt_succ_self _)
 let Y:Cx:=X.comp (own++fr.map (·.1)) scope cl C fp s2 H2
 have stat:∀{H':Hp},(∀ b∈fp,H' b=none)→∀ b∈fp,FpOk Y [] H' b:=fun hn=>Inv.fpComp I2 f2 hb hle hcl hn
 obtain⟨gY,pY,eY⟩:=hB cl C fp s2 H2
 have IY:Inv Y [] (compSt own.length (fr.map (·.2)) σ) (upd H2 s2.heap.objs.size (.lst [])) { s2 with heap:=h₁,toks:=s2.toks+([]:List (Str×Value)).length } :=
  Inv.comp (D:=s2.heap.objs.size) I2 f2 hb hkind hcell hcl hcl2 hfr (Nat.le_refl _) hle hne hns' old hD rfl I2.bare
 have loop:codeAny (model X.prog X.w) X.A (.compLoop (.ListComp elt [⟨tg,iter,ifs,0⟩] scope pos) 0 (.ref it) (.ref s2.heap.objs.size) (compEnvC scope cl C X.env)) (compPost (model X.prog X.w) X.A X.xe none (EP X pins σ Q) (.ref s2.heap.objs.size) C)
   { s2 with heap:=h₁,toks:=s2.toks+([]:List (Str×Value)).length }:=by
  refine compLoop_any (E:=fun _ _=>False) (fun n s'=>∃ i acc H',Inv Y [] (compSt own.length (fr.map (·.2)) σ) H' s'∧tn i s'.heap∧(∀ b∈fp,H' b=none)∧W i n acc H') (fun _ _ z=>z) ?_ m0
   ⟨0,[],_,IY,T.keep _ _ _ st2 fun b _ o e=>old b o e,fun b z=>by rw[upd_ne (Nat.ne_of_lt (hb b z))];exact (f2 b z).1,w0⟩
  rintro n s3 ⟨i,acc,H3,I3,st3,fr3,w3⟩
  rcases turn i n acc H3 w3 with ⟨stop,q⟩ | ⟨go,Nn,hN,step⟩
  ·refine thn (T.done Y rfl rfl rfl hc i [] s3 _ H3 _ I3 (stat fr3) st3 stop) fun r s4 ⟨hr,I4⟩=>?_
   subst hr
   obtain⟨m4,hn4,_⟩:=I4.loc
   refine⟨m4,hn4,fun h' hs'=>?_⟩
   have kb:∀ b o,b≠C→s4.heap.get? b=some o→h'.get? b=some o:=fun b o hne e=>hs'.extBut b o hne e
   have hok':HOk X.prog X.w H3 h':=HOk.stays (show HOk X.prog X.w H3 s4.heap from I4.hok) fun b u hn e=>kb b u (fun z=>hn (by rw[z];exact I4.free)) e
   have bI:Un (frs X.stack) fp H2 H3 s2.heap s4.heap:=I4.base
   have lt:∀ b o,s2.heap.get? b=some o→b≠C:=fun b o e=>Nat.ne_of_lt (Nat.lt_of_lt_of_le (Heap.lt_size e) hle)
   have un:Un (frs X.stack) fp H2 H3 s2.heap h' :=
    {keep:=fun b o e n hb hx=>kb b o (lt b o e) (bI.keep b o e n hb hx)
     slot:=fun b o e n hb hx=>by
      obtain⟨sl,e1⟩:=bI.slot b o e n hb hx
      exact⟨sl,kb b _ (lt b o e) e1⟩
     free:=bI.free
     there:=fun b o e hx=>by
      obtain⟨o1,e1⟩:=bI.there b o e hx
      exact⟨o1,kb b _ (lt b o e) e1⟩
     tups:=bI.tups
     frzs:=bI.frzs
     tbls:=bI.tbls }
   exact⟨.ref s2.heap.objs.size,H3,I2.call' (s':={ s4 with heap:=h' }) (ch:=fp) I4.os un hok' I4.bare (fun b z=>⟨(f2 b z).2.2.2.1,(f2 b z).2.1,(f2 b z).2.2.2.2.1,(f2 b z).2.2.2.2.2⟩),rfl,q⟩
  ·refine thn (T.item Y rfl rfl rfl hc i [] s3 _ H3 _ I3 (stat fr3) st3 go) fun r s4 ⟨u,hr,h4⟩=>?_
   subst hr
   refine thn h4 fun _ s5 ⟨x,H5,I5,r5,y5,st5,fr5⟩=>?_
   have I5':=I5.pinned (stat fr5) (T.obj _ _ st5)
   refine thn (gY _ s5 _ H5 x u _ I5' r5 (hgx _ x H5 _ (step x H5 y5))) fun _ s6 ⟨σ6,H6,I6,ex6,q6⟩=>?_
   refine thn (pY _ s6 σ6 H6 _ I6 q6) fun ok s7 ⟨H7,I7,q7⟩=>?_
   have again:∀{acc':List V}{H8:Hp}{s8:Shared},Inv Y ([]++pinsAt fp s5.heap) σ6 H8 s8→Nn acc' H8→∃ m,m < n∧∃ i acc H',Inv Y [] (compSt own.length (fr.map (·.2)) σ) H' s8∧tn i s8.heap∧(∀ b∈fp,H' b=none)∧W i m acc H':=fun {acc' H8 s8} I8 n8=>by
    obtain⟨m',hm,w8⟩:=hN acc' H8 n8
    refine⟨m',hm,i+1,acc',H8,I8.unpinned.weak ex6.1 ex6.2,T.keep _ _ _ st5 fun b hb o e=>(I8.pin (b,o) (List.mem_append_right _ (List.mem_append_right _ (mem_pinsAt hb e)))).1,fun b hb=>?_,w8⟩
    obtain⟨o,e,d⟩:=T.obj _ _ st5 b hb
    exact (I8.pin (b,o) (List.mem_append_right _ (List.mem_append_right _ (mem_pinsAt hb e)))).2.1
   cases ok with
   | false=>exact again I7 (by simpa using q7)
   | true =>
    have q7':=(by simpa using q7:te σ6 H7 _)
    refine thn (eY _ s7 σ6 H7 _ I7 q7') fun xv s8 ⟨y,H8,I8,r8,hl8,hz8,n8⟩=>?_
    refine thn (mt_append (X:=Y) _ s8 σ6 H8 (.ref s2.heap.objs.size) [y] (.ref s2.heap.objs.size) [xv] (fun v H9=>v=.non∧H9=upd H8 s2.heap.objs.size (.lst (acc++[y]))) I8 rfl (.cons r8 .nil) ⟨_,acc,y,rfl,rfl,hl8,hz8,rfl,rfl⟩) fun _ s9 ⟨v9,H9,I9,_,_,e9⟩=>?_
    subst e9
    exact again I9 n8
 exact codeAny_compStart_list loop (T.self X.A 0 _ _ _ (T.keep _ _ _ st2 fun b _ o e=>old b o e) loop)
theorem ps_setC{elt iter tg:Expr}{ifs:List Expr}{scope:Scope}{pos spos py:Pos}{wi:TI}{g:TG}{tt:TT}{te:TE}{k:Nat}{y:Str}(own:List Str)(fr:List (Str×Nat))(hNd:X.N.Nodup)(hk:X.N[k]?=some y)(hy:X.env.scope.names.lookup y=some .local)(hc:X.calm=true)(hi:PI X tg iter wi)
  (hgx:GExt g own.length) (hB:∀ cl C fp s2 H2,PG (X.comp (own++fr.map (·.1)) scope cl C fp s2 H2) tg g∧PFs (X.comp (own++fr.map (·.1)) scope cl C fp s2 H2) ifs tt∧PE (X.comp (own++fr.map (·.1)) scope cl C fp s2 H2) elt te)
  (hkind:scope.kind=.function) (hcell:∀ y∈scope.names,y.2≠.cell) (hnames:∀ y∈scope.names,y.2=.local→scope.names.lookup y.1=some .local)
  (hfree:∀ y∈scope.names,y.2=.free→X.env.kindOf y.1=some .cell∨X.env.kindOf y.1=some .free)
  (hfr:∀ p∈fr,X.N[p.2]?=some p.1∧(X.env.kindOf p.1=some .cell∨X.env.kindOf p.1=some .free)∧(p.1,NameKind.free)∈scope.names∧((relabel scope X.env).names.lookup p.1=some .cell∨(relabel scope X.env).names.lookup p.1=some .free))
  (hsw:swapsWith (.ListComp elt [⟨tg,iter,ifs,0⟩] scope pos) (some (.Name y py)) spos.line X.env=pure true:=by rfl)
  (hs:∀ x,foldedSetIterable iter X.env x=pure x:=by intro _;rfl):PS X (.Assign [.Name y py] (.ListComp elt [⟨tg,iter,ifs,0⟩] scope pos) spos) (tAsg (tComp own.length (fr.map (·.2)) wi g tt te) (gName k)):=by
 intro pins s σ H DD I h
 obtain⟨cl,hclos,hcl,hcl2⟩:=closure_of (env:=X.env) (scope:=scope) fun y hy hf=>I.ok.has y.1 (hfree y hy hf)
 rw[exec_Assign_Name_used _ _ _ _ hsw]
 refine wpAny_bind (wpAny_standAt (wpAny_bind ?_))
 refine wpAny_bind (thn (wpAny_comprehension_free (M:=model X.prog X.w) (A:=X.A) (E:=X.xe) (e:=.ListComp elt [⟨tg,iter,ifs,0⟩] scope pos) (first:=eval iter X.env) (newAcc:=newList []) (use:=some (assign (.Name y py) X.env)) (Q:=fun _ s'=>SP X pins DD .next s') rfl hs hclos hkind hnames
  (thn (hi pins s σ H _ I h) fun v s1 h1=>thn h1 fun itv s2 h2=>?_)) fun _ s' hq=>wpAny_pure (wpAny_pure hq))
 obtain⟨it,fp,tn,J,H2,e,I2,T,st2,f2,h3⟩:=h2
 subst e
 obtain⟨W,⟨m0,w0⟩,turn⟩:=h3 s2.heap.objs.size I2.fresh
 have hb:∀ b∈fp,b < s2.heap.objs.size:=fun b z=>by
  obtain⟨o,e,_⟩:=T.obj _ _ st2 b z
  exact Heap.lt_size e
 refine wpAny_newObj_type (wpAny_newFunctionEnv hcell (by intro y hy;simp at hy) (fun h₁ hns₁ hsb₁=>?_) hkind)
 dsimp only at hns₁ hsb₁ ⊢
 generalize hH2:s2.heap.push { cls:=.type "list", dict:=none,data:=.seq ([]:List Value).toArray }=G at hns₁ hsb₁ ⊢
 have hCs:G.objs.size=s2.heap.objs.size+1:=by rw[← hH2,Heap.size_push]
 have old:∀ b o,s2.heap.get? b=some o→h₁.get? b=some o:=fun b o e=>hsb₁.extBut b o (Nat.ne_of_lt (by rw[hCs];exact Nat.lt_succ_of_lt (Heap.lt_size e))) (Heap.get?_push_of_some _ (hH2▸Heap.get?_push_of_some _ e))
 have hD:h₁.get? s2.heap.objs.size=some { cls:=.type "list", data:=.seq ([]:List Value).toArray }:=hsb₁.extBut _ _ (Nat.ne_of_lt (by rw[hCs];exact Nat.lt_succ_self _)) (Heap.get?_push_of_some _ (hH2▸Heap.get?_push_size _ rfl))
 generalize hC:G.objs.size=C at hns₁ hsb₁ hCs ⊢
 have hns':h₁.Ns C (fun _=>none):=by
  have e:(fun x=>(([]:List (Str×Value)).reverse.lookup x))=fun _=>(none:Option Value):=by funext x;rfl
  rw[← e]
  exact hns₁
 have hle:s2.heap.objs.size≤C:=by rw[hCs];exact Nat.le_succ _
 have hne:C≠s2.heap.objs.size:=Nat.ne_of_gt (by rw[hCs];exact Nat.lt_succ_self _)
 let Y:Cx:=X.comp (own++fr.map (·.1)) scope cl C fp s2 H2
 have stat:∀{H':Hp},(∀ b∈fp,H' b=none)→∀ b∈fp,FpOk Y [] H' b:=fun hn=>Inv.fpComp I2 f2 hb hle hcl hn
 obtain⟨gY,pY,eY⟩:=hB cl C fp s2 H2
 have IY:Inv Y [] (compSt own.length (fr.map (·.2)) σ) (upd H2 s2.heap.objs.size (.lst [])) { s2 with heap:=h₁,toks:=s2.toks+([]:List (Str×Value)).length } :=
  Inv.comp (D:=s2.heap.objs.size) I2 f2 hb hkind hcell hcl hcl2 hfr (Nat.le_refl _) hle hne hns' old hD rfl I2.bare
 have loop:codeAny (model X.prog X.w) X.A (.compLoop (.ListComp elt [⟨tg,iter,ifs,0⟩] scope pos) 0 (.ref it) (.ref s2.heap.objs.size) (compEnvC scope cl C X.env)) (compPost (model X.prog X.w) X.A X.xe (some (assign (.Name y py) X.env)) (fun _ s'=>SP X pins DD .next s') (.ref s2.heap.objs.size) C)
   { s2 with heap:=h₁,toks:=s2.toks+([]:List (Str×Value)).length }:=by
  refine compLoop_any (E:=fun _ _=>False) (fun n s'=>∃ i acc H',Inv Y [] (compSt own.length (fr.map (·.2)) σ) H' s'∧tn i s'.heap∧(∀ b∈fp,H' b=none)∧W i n acc H') (fun _ _ z=>z) ?_ m0
   ⟨0,[],_,IY,T.keep _ _ _ st2 fun b _ o e=>old b o e,fun b z=>by rw[upd_ne (Nat.ne_of_lt (hb b z))];exact (f2 b z).1,w0⟩
  rintro n s3 ⟨i,acc,H3,I3,st3,fr3,w3⟩
  rcases turn i n acc H3 w3 with ⟨stop,q⟩ | ⟨go,Nn,hN,step⟩
  ·refine thn (T.done Y rfl rfl rfl hc i [] s3 _ H3 _ I3 (stat fr3) st3 stop) fun r s4 ⟨hr,I4⟩=>?_
   subst hr
   obtain⟨m4,hn4,_⟩:=I4.loc
   have IX:Inv X pins σ H3 s4:=I2.call' (s':=s4) (ch:=fp) I4.os (show Un (frs X.stack) fp H2 H3 s2.heap s4.heap from I4.base) I4.hok I4.bare (fun b z=>⟨(f2 b z).2.2.2.1,(f2 b z).2.1,(f2 b z).2.2.2.2.1,(f2 b z).2.2.2.2.2⟩)
   have hCL:C≠X.env.locals:=Nat.ne_of_gt (Nat.lt_of_lt_of_le I2.lt hle)
   show wpAny _ _ (assign (.Name y py) X.env (.ref s2.heap.objs.size)) _ _ s4
   have cellLt:∀ z c,X.env.cells.lookup z=some c→c < C:=fun z c e=>by
    obtain⟨v,q'⟩:=I2.cell z c e
    exact Nat.lt_of_lt_of_le q'.lt hle
   refine wpAny_assign_Name (store_ok2 IX hNd hk (Or.inl hy) (v:=.ref s2.heap.objs.size) (u:=.ref s2.heap.objs.size) rfl (fun s5 I5 k5=>?_) (Or.inr hy))
   obtain⟨a5,sb5,ha5⟩:=k5
   have hCa:C≠a5:=by
    rcases ha5 with z | z
    ·rw[z];exact hCL
    ·exact Nat.ne_of_gt (cellLt _ _ z)
   refine⟨m4,Heap.Ns.sameBut hn4 sb5 hCa,fun h' hs'=>?_⟩
   refine⟨σ.set k (some (.ref s2.heap.objs.size)),H3,?_,q⟩
   refine I5.turned (it:=C) (t':=s5.toks) (fun b o hne e=>hs'.extBut b o hne e) I4.free hCL (.inr (Nat.le_trans I2.sz hle)) (fun z c e=>Nat.ne_of_lt (cellLt z c e)) fun p hp=>?_
   exact Nat.ne_of_lt (Nat.lt_of_lt_of_le (Heap.lt_size (I2.pin p hp).1) hle)
  ·refine thn (T.item Y rfl rfl rfl hc i [] s3 _ H3 _ I3 (stat fr3) st3 go) fun r s4 ⟨u,hr,h4⟩=>?_
   subst hr
   refine thn h4 fun _ s5 ⟨x,H5,I5,r5,y5,st5,fr5⟩=>?_
   have I5':=I5.pinned (stat fr5) (T.obj _ _ st5)
   refine thn (gY _ s5 _ H5 x u _ I5' r5 (hgx _ x H5 _ (step x H5 y5))) fun _ s6 ⟨σ6,H6,I6,ex6,q6⟩=>?_
   refine thn (pY _ s6 σ6 H6 _ I6 q6) fun ok s7 ⟨H7,I7,q7⟩=>?_
   have again:∀{acc':List V}{H8:Hp}{s8:Shared},Inv Y ([]++pinsAt fp s5.heap) σ6 H8 s8→Nn acc' H8→∃ m,m < n∧∃ i acc H',Inv Y [] (compSt own.length (fr.map (·.2)) σ) H' s8∧tn i s8.heap∧(∀ b∈fp,H' b=none)∧W i m acc H':=fun {acc' H8 s8} I8 n8=>by
    obtain⟨m',hm,w8⟩:=hN acc' H8 n8
    refine⟨m',hm,i+1,acc',H8,I8.unpinned.weak ex6.1 ex6.2,T.keep _ _ _ st5 fun b hb o e=>(I8.pin (b,o) (List.mem_append_right _ (List.mem_append_right _ (mem_pinsAt hb e)))).1,fun b hb=>?_,w8⟩
    obtain⟨o,e,d⟩:=T.obj _ _ st5 b hb
    exact (I8.pin (b,o) (List.mem_append_right _ (List.mem_append_right _ (mem_pinsAt hb e)))).2.1
   cases ok with
   | false=>exact again I7 (by simpa using q7)
   | true =>
    have q7':=(by simpa using q7:te σ6 H7 _)
    refine thn (eY _ s7 σ6 H7 _ I7 q7') fun xv s8 ⟨y,H8,I8,r8,hl8,hz8,n8⟩=>?_
    refine thn (mt_append (X:=Y) _ s8 σ6 H8 (.ref s2.heap.objs.size) [y] (.ref s2.heap.objs.size) [xv] (fun v H9=>v=.non∧H9=upd H8 s2.heap.objs.size (.lst (acc++[y]))) I8 rfl (.cons r8 .nil) ⟨_,acc,y,rfl,rfl,hl8,hz8,rfl,rfl⟩) fun _ s9 ⟨v9,H9,I9,_,_,e9⟩=>?_
    subst e9
    exact again I9 n8
 exact codeAny_compStart_list loop (T.self X.A 0 _ _ _ (T.keep _ _ _ st2 fun b _ o e=>old b o e) loop)
end
theorem comp_list{K:PySem.W.Frag}{a l:Addr}{xs:List V}{n:Nat}{js:List Nat}{g:TG}{tt:TT}{te:TE}{σ:St}{H1:Hp}{Q:VK}(Pv:Nat→List V→Hp→Prop)(h0:Pv 0 [] (upd H1 l (.lst [])))(hl:∀ i acc H,i≤xs.length→Pv i acc H→SqL K H a xs)
  (hs:∀ i x acc H,xs[i]?=some x→Pv i acc H→g x (compSt n js σ) H fun σ2 H2=>tt σ2 H2 fun b H3=>if b=true then te σ2 H3 fun y H4=>H4 l=some (.lst acc)∧acc.length < sizeLine∧Pv (i+1) (acc++[y]) (upd H4 l (.lst (acc++[y]))) else Pv (i+1) acc H3)
  (hd:∀ acc H,Pv xs.length acc H→Q (.ref l) H) :
  ∃ W:Nat→Nat→List V→Hp→Prop,(∃ m,W 0 m [] (upd H1 l (.lst [])))∧∀ i m acc H,W i m acc H →
   ((Itl K a).stop i H∧Q (.ref l) H)∨((Itl K a).go i H∧∃ N:List V→Hp→Prop,(∀ acc' H',N acc' H'→∃ m',m' < m∧W (i+1) m' acc' H') ∧
    ∀ x H',(Itl K a).yld i H x H'→g x (compSt n js σ) H' fun σ2 H2=>tt σ2 H2 fun b H3=>if b=true then te σ2 H3 fun y H4=>H4 l=some (.lst acc)∧acc.length < sizeLine∧N (acc++[y]) (upd H4 l (.lst (acc++[y]))) else N acc H3):=by
 refine⟨fun i m acc H=>m=xs.length - i∧i≤xs.length∧Pv i acc H,⟨xs.length,by simp,Nat.zero_le _,h0⟩,?_⟩
 rintro i m acc H ⟨rfl,hi,p⟩
 have q:=hl i acc H hi p
 by_cases hlt:i < xs.length
 ·refine .inr ⟨⟨xs,xs[i],q,by simp[hlt]⟩,Pv (i+1),fun acc' H' p'=>⟨xs.length - (i+1),by omega,rfl,hlt,p'⟩,fun x H' y=>?_⟩
  obtain⟨e,y⟩:=y
  subst e
  exact hs i x acc _ (y xs q) p
 ·have e:i=xs.length:=by omega
  subst e
  exact .inl ⟨⟨xs,q,Nat.le_refl _⟩,hd acc H p⟩
theorem comp_tup{K:PySem.W.Frag}{a l:Addr}{xs:List V}{n:Nat}{js:List Nat}{g:TG}{tt:TT}{te:TE}{σ:St}{H1:Hp}{Q:VK}(Pv:Nat→List V→Hp→Prop)(h0:Pv 0 [] (upd H1 l (.lst [])))(hl:∀ i acc H,i≤xs.length→Pv i acc H→SqT K H a xs)
  (hs:∀ i x acc H,xs[i]?=some x→Pv i acc H→g x (compSt n js σ) H fun σ2 H2=>tt σ2 H2 fun b H3=>if b=true then te σ2 H3 fun y H4=>H4 l=some (.lst acc)∧acc.length < sizeLine∧Pv (i+1) (acc++[y]) (upd H4 l (.lst (acc++[y]))) else Pv (i+1) acc H3)
  (hd:∀ acc H,Pv xs.length acc H→Q (.ref l) H) :
  ∃ W:Nat→Nat→List V→Hp→Prop,(∃ m,W 0 m [] (upd H1 l (.lst [])))∧∀ i m acc H,W i m acc H →
   ((Itt K a).stop i H∧Q (.ref l) H)∨((Itt K a).go i H∧∃ N:List V→Hp→Prop,(∀ acc' H',N acc' H'→∃ m',m' < m∧W (i+1) m' acc' H') ∧
    ∀ x H',(Itt K a).yld i H x H'→g x (compSt n js σ) H' fun σ2 H2=>tt σ2 H2 fun b H3=>if b=true then te σ2 H3 fun y H4=>H4 l=some (.lst acc)∧acc.length < sizeLine∧N (acc++[y]) (upd H4 l (.lst (acc++[y]))) else N acc H3):=by
 refine⟨fun i m acc H=>m=xs.length - i∧i≤xs.length∧Pv i acc H,⟨xs.length,by simp,Nat.zero_le _,h0⟩,?_⟩
 rintro i m acc H ⟨rfl,hi,p⟩
 have q:=hl i acc H hi p
 by_cases hlt:i < xs.length
 ·refine .inr ⟨⟨xs,xs[i],q,by simp[hlt]⟩,Pv (i+1),fun acc' H' p'=>⟨xs.length - (i+1),by omega,rfl,hlt,p'⟩,fun x H' y=>?_⟩
  obtain⟨e,y⟩:=y
  subst e
  exact hs i x acc _ (y xs q) p
 ·have e:i=xs.length:=by omega
  subst e
  exact .inl ⟨⟨xs,q,Nat.le_refl _⟩,hd acc H p⟩
theorem comp_range{lo:Int}{k:Nat}{l:Addr}{n:Nat}{js:List Nat}{g:TG}{tt:TT}{te:TE}{σ:St}{H1:Hp}{Q:VK}(Pv:Nat→List V→Hp→Prop)(h0:Pv 0 [] (upd H1 l (.lst [])))
  (hs:∀ i acc H,i < k→Pv i acc H→g (.int (lo+i)) (compSt n js σ) H fun σ2 H2=>tt σ2 H2 fun b H3=>if b=true then te σ2 H3 fun y H4=>H4 l=some (.lst acc)∧acc.length < sizeLine∧Pv (i+1) (acc++[y]) (upd H4 l (.lst (acc++[y]))) else Pv (i+1) acc H3)
  (hd:∀ acc H,Pv k acc H→Q (.ref l) H) :
  ∃ W:Nat→Nat→List V→Hp→Prop,(∃ m,W 0 m [] (upd H1 l (.lst [])))∧∀ i m acc H,W i m acc H →
   ((Itr lo k).stop i H∧Q (.ref l) H)∨((Itr lo k).go i H∧∃ N:List V→Hp→Prop,(∀ acc' H',N acc' H'→∃ m',m' < m∧W (i+1) m' acc' H') ∧
    ∀ x H',(Itr lo k).yld i H x H'→g x (compSt n js σ) H' fun σ2 H2=>tt σ2 H2 fun b H3=>if b=true then te σ2 H3 fun y H4=>H4 l=some (.lst acc)∧acc.length < sizeLine∧N (acc++[y]) (upd H4 l (.lst (acc++[y]))) else N acc H3):=by
 refine⟨fun i m acc H=>m=k - i∧i≤k∧Pv i acc H,⟨k,by simp,Nat.zero_le _,h0⟩,?_⟩
 rintro i m acc H ⟨rfl,hi,p⟩
 by_cases hlt:i < k
 ·refine .inr ⟨hlt,Pv (i+1),fun acc' H' p'=>⟨k - (i+1),by omega,rfl,hlt,p'⟩,fun x H' y=>?_⟩
  obtain⟨e,y⟩:=y
  subst e y
  exact hs i acc _ hlt p
 ·have e:i=k:=by omega
  subst e
  exact .inl ⟨Nat.le_refl _,hd acc H p⟩
theorem comp_listR{K:PySem.W.Frag}{a l:Addr}{xs:List V}{n:Nat}{js:List Nat}{g:TG}{tt:TT}{te:TE}{σ:St}{H1:Hp}{R:Hp→Prop}(Pv:Nat→List V→Hp→Prop)(h0:Pv 0 [] (upd H1 l (.lst [])))(hl:∀ i acc H,i≤xs.length→Pv i acc H→SqL K H a xs)
  (hs:∀ i x acc H,xs[i]?=some x→Pv i acc H→g x (compSt n js σ) H fun σ2 H2=>tt σ2 H2 fun b H3=>if b=true then te σ2 H3 fun y H4=>H4 l=some (.lst acc)∧acc.length < sizeLine∧Pv (i+1) (acc++[y]) (upd H4 l (.lst (acc++[y]))) else Pv (i+1) acc H3)
  (hd:∀ acc H,Pv xs.length acc H→R H) :
  ∃ W:Nat→Nat→List V→Hp→Prop,(∃ m,W 0 m [] (upd H1 l (.lst [])))∧∀ i m acc H,W i m acc H →
   ((Itl K a).stop i H∧R H)∨((Itl K a).go i H∧∃ N:List V→Hp→Prop,(∀ acc' H',N acc' H'→∃ m',m' < m∧W (i+1) m' acc' H') ∧
    ∀ x H',(Itl K a).yld i H x H'→g x (compSt n js σ) H' fun σ2 H2=>tt σ2 H2 fun b H3=>if b=true then te σ2 H3 fun y H4=>H4 l=some (.lst acc)∧acc.length < sizeLine∧N (acc++[y]) (upd H4 l (.lst (acc++[y]))) else N acc H3):=comp_list (Q:=fun _ H=>R H) Pv h0 hl hs hd
theorem comp_tupR{K:PySem.W.Frag}{a l:Addr}{xs:List V}{n:Nat}{js:List Nat}{g:TG}{tt:TT}{te:TE}{σ:St}{H1:Hp}{R:Hp→Prop}(Pv:Nat→List V→Hp→Prop)(h0:Pv 0 [] (upd H1 l (.lst [])))(hl:∀ i acc H,i≤xs.length→Pv i acc H→SqT K H a xs)
  (hs:∀ i x acc H,xs[i]?=some x→Pv i acc H→g x (compSt n js σ) H fun σ2 H2=>tt σ2 H2 fun b H3=>if b=true then te σ2 H3 fun y H4=>H4 l=some (.lst acc)∧acc.length < sizeLine∧Pv (i+1) (acc++[y]) (upd H4 l (.lst (acc++[y]))) else Pv (i+1) acc H3)
  (hd:∀ acc H,Pv xs.length acc H→R H) :
  ∃ W:Nat→Nat→List V→Hp→Prop,(∃ m,W 0 m [] (upd H1 l (.lst [])))∧∀ i m acc H,W i m acc H →
   ((Itt K a).stop i H∧R H)∨((Itt K a).go i H∧∃ N:List V→Hp→Prop,(∀ acc' H',N acc' H'→∃ m',m' < m∧W (i+1) m' acc' H') ∧
    ∀ x H',(Itt K a).yld i H x H'→g x (compSt n js σ) H' fun σ2 H2=>tt σ2 H2 fun b H3=>if b=true then te σ2 H3 fun y H4=>H4 l=some (.lst acc)∧acc.length < sizeLine∧N (acc++[y]) (upd H4 l (.lst (acc++[y]))) else N acc H3):=comp_tup (Q:=fun _ H=>R H) Pv h0 hl hs hd
theorem comp_rangeR{lo:Int}{k:Nat}{l:Addr}{n:Nat}{js:List Nat}{g:TG}{tt:TT}{te:TE}{σ:St}{H1:Hp}{R:Hp→Prop}(Pv:Nat→List V→Hp→Prop)(h0:Pv 0 [] (upd H1 l (.lst [])))
  (hs:∀ i acc H,i < k→Pv i acc H→g (.int (lo+i)) (compSt n js σ) H fun σ2 H2=>tt σ2 H2 fun b H3=>if b=true then te σ2 H3 fun y H4=>H4 l=some (.lst acc)∧acc.length < sizeLine∧Pv (i+1) (acc++[y]) (upd H4 l (.lst (acc++[y]))) else Pv (i+1) acc H3)
  (hd:∀ acc H,Pv k acc H→R H) :
  ∃ W:Nat→Nat→List V→Hp→Prop,(∃ m,W 0 m [] (upd H1 l (.lst [])))∧∀ i m acc H,W i m acc H →
   ((Itr lo k).stop i H∧R H)∨((Itr lo k).go i H∧∃ N:List V→Hp→Prop,(∀ acc' H',N acc' H'→∃ m',m' < m∧W (i+1) m' acc' H') ∧
    ∀ x H',(Itr lo k).yld i H x H'→g x (compSt n js σ) H' fun σ2 H2=>tt σ2 H2 fun b H3=>if b=true then te σ2 H3 fun y H4=>H4 l=some (.lst acc)∧acc.length < sizeLine∧N (acc++[y]) (upd H4 l (.lst (acc++[y]))) else N acc H3):=comp_range (Q:=fun _ H=>R H) Pv h0 hs hd
end L2
namespace L2
open PySem PySem.Spec PyProof.Rows
open PySem.Builtin.Int (intBits)
abbrev Sz(k:Nat)(x:Int):Prop:=intBits x≤k
theorem Sz.of{k:Nat}{x:Int}(h:x.natAbs < 2 ^ k):Sz k x:=PySem.intBits_le_iff.mpr h
theorem Sz.lt{k:Nat}{x:Int}(h:Sz k x):x.natAbs < 2 ^ k:=PySem.intBits_le_iff.mp h
theorem Sz.mono{j k:Nat}{x:Int}(h:Sz j x)(q:j≤k):Sz k x:=Nat.le_trans h q
theorem Sz.le{k:Nat}{x y:Int}(h:Sz k y)(q:x.natAbs≤y.natAbs):Sz k x:=PySem.intBits_le_of_natAbs q h
theorem Sz.mul{j k:Nat}{x y:Int}(h:Sz j x)(q:Sz k y):Sz (j+k) (x*y):=PySem.intBits_mul_le h q
theorem Sz.add{k:Nat}{x y:Int}(h:Sz k x)(q:Sz k y):Sz (k+1) (x+y):=Nat.le_trans (PySem.intBits_add_le h q) (by omega)
theorem Sz.neg{k:Nat}{x:Int}(h:Sz k x):Sz k (-x):=PySem.intBits_neg_le h
theorem Sz.ok{j k:Nat}{x y:Int}(h:Sz j x)(q:Sz k y)(e:j+k≤134217728):IntMulOk x y:=PySem.IntMulOk.of_le h q e
theorem Sz.okR{k:Nat}{x y:Int}(q:Sz k y)(e:k≤64):IntMulOk x y:=IntMulOk.of_right (Nat.le_trans q e)
theorem Sz.noPy{k:Nat}{x y:Int}(q:Sz k y)(e:k≤9000):Builtin.divisionGoesByPylong x y=false:=by
 refine PyProof.noPylong_of_log2 ?_
 by_cases h0:y.natAbs=0
 ·rw[h0];decide +kernel
 ·exact (Nat.log2_lt h0).mpr (Sz.lt (q.mono e))
section
variable {X:Cx}
def CMulB(i j:Int):Prop:=IntMulOk i j
def CDivB(i j:Int):Prop:=0 < j∧Sz 9000 j
theorem op_mulB:OpR X (binaryOp .Mult) (rI CMulB fun i j=>.int (i*j)):=opI fun _ _ _ _ _ _ _ hc q=>mul_int q hc
theorem op_fdivB:OpR X (binaryOp .FloorDiv) (rI CDivB fun i j=>.int (i / j)):=opI fun i j _ _ _ _ _ hc q=>by
 have h1:(0:Int) < j:=hc.1
 exact floordiv_int (by omega) (by rw[Int.fdiv_eq_ediv_of_nonneg i (by omega)];exact q) (.inl (Sz.noPy hc.2 (Nat.le_refl _)))
def tyNm(x:V)(H:Hp):Option String:=match x with
 | .non=>some "NoneType"
 | .bl _=>some "bool"
 | .int _=>some "int"
 | .str _=>some "str"
 | .ref a=>(match H a with
  | some (.lst _)=>some "list"
  | some (.tup _)=>some "tuple"
  | some (.dK _)=>some "dict"
  | _=>none)
 | _=>none
theorem tyNm_of{K:PySem.W.Frag}{H:Hp}{x:V}{n:String}(h:tyNm x H=some n):TyOf K H x (.type n):=by
 unfold tyNm at h
 split at h
 ·cases h;exact .non
 ·cases h;exact .bl _
 ·cases h;exact .int _
 ·cases h;exact .str _
 ·split at h
  ·cases h;exact .lst (by assumption)
  ·cases h;exact .tup (by assumption)
  ·cases h;exact .dK (by assumption)
  ·cases h
 ·cases h
def isiB(t c:String):Bool:=t == c || (t == "bool" && c == "int")
def isiNames:List String:=["NoneType", "bool", "int", "str", "list", "tuple", "dict"]
theorem kit_of(K:PySem.W.Frag):∀ t∈isiNames,∀ c∈["bool", "int", "str", "list", "tuple", "dict"],PySem.W.kitOne K (.type t) (.type c)=some (isiB t c):=by
 intro t ht c hc
 simp only[isiNames,List.mem_cons,List.not_mem_nil,or_false] at ht hc
 rcases ht with rfl | rfl | rfl | rfl | rfl | rfl | rfl<;>rcases hc with rfl | rfl | rfl | rfl | rfl | rfl<;>kernel_rfl
theorem tyNm_mem{x:V}{H:Hp}{n:String}(h:tyNm x H=some n):n∈isiNames:=by
 unfold tyNm at h
 split at h
 ·cases h;decide
 ·cases h;decide
 ·cases h;decide
 ·cases h;decide
 ·split at h
  ·cases h;decide
  ·cases h;decide
  ·cases h;decide
  ·cases h
 ·cases h
def rIsi:List V→Hp→VK→Prop:=fun xs H Q=>∃ x n t,xs=[x,.ty n]∧n∈["bool", "int", "str", "list", "tuple", "dict"]∧tyNm x H=some t∧Q (.bl (isiB t n)) H
theorem call_isi:CallR X (.builtin "isinstance") rIsi:=by
 intro pins s σ H xs us Q I r h
 obtain⟨x,n,t,rfl,hn,ty,q⟩:=h
 obtain⟨u,v,rfl,ru,rv⟩:=r.two
 obtain rfl:v=Value.type n:=rv
 exact isinst_ok I ru (tyNm_of ty) (kit_of X.K t (tyNm_mem ty) n hn) fun tk=>⟨.bl _,H,I.tok tk,rfl,q⟩
theorem isiN_int:("int" ∈ ["bool", "int", "str", "list", "tuple", "dict"])=True:=eq_true (by decide)
theorem isiN_bool:("bool" ∈ ["bool", "int", "str", "list", "tuple", "dict"])=True:=eq_true (by decide)
theorem isiN_list:("list" ∈ ["bool", "int", "str", "list", "tuple", "dict"])=True:=eq_true (by decide)
theorem isiN_tuple:("tuple" ∈ ["bool", "int", "str", "list", "tuple", "dict"])=True:=eq_true (by decide)
theorem isiN_str:("str" ∈ ["bool", "int", "str", "list", "tuple", "dict"])=True:=eq_true (by decide)
theorem isi_ii:isiB "int" "int" = true:=rfl
theorem isi_ib:isiB "int" "bool" = false:=rfl
theorem isi_bb:isiB "bool" "bool" = true:=rfl
theorem isi_bi:isiB "bool" "int" = true:=rfl
theorem isi_tt:isiB "tuple" "tuple" = true:=rfl
theorem isi_ll:isiB "list" "list" = true:=rfl
theorem isi_nt:isiB "NoneType" "tuple" = false:=rfl
theorem isi_ni:isiB "NoneType" "int" = false:=rfl
def seqAt(H:Hp)(p:Addr):Option (List V):=match H p with
 | some (.lst xs)=>some xs
 | some (.tup xs)=>some xs
 | some (.frz _ (.lst xs))=>some xs
 | _=>none
theorem sq_of{K:PySem.W.Frag}{H:Hp}{p:Addr}{xs:List V}(h:seqAt H p=some xs):SqL K H p xs∨SqT K H p xs:=by
 unfold seqAt at h
 split at h
 ·rename_i e;cases h;exact .inl (SqL.of e)
 ·rename_i e;cases h;exact .inr (SqT.of e)
 ·rename_i e;cases h;exact .inl (.inl (.inr ⟨_,e⟩))
 ·cases h
def rIxF:R2:=fun x y H Q=>∃ p xs i v,x=.ref p∧y=.int i∧seqAt H p=some xs∧atI xs i=some v∧Q v H
theorem ix_seqA:IxR X rIxF:=by
 intro value slice pins s σ H x y v u Q I rx ry h hs
 obtain⟨p,xs,i,z,e1,e2,hq,he,q⟩:=h
 rcases sq_of (K:=X.K) hq with h' | h'
 ·exact ix_list value slice pins s σ H x y v u Q I rx ry ⟨p,xs,i,z,e1,e2,h',he,q⟩ hs
 ·exact ix_tup value slice pins s σ H x y v u Q I rx ry ⟨p,xs,i,z,e1,e2,h',he,q⟩ hs
def rLenF:List V→Hp→VK→Prop:=fun xs H Q=>∃ p ys,xs=[.ref p]∧seqAt H p=some ys∧Q (.int ys.length) H
theorem call_lenF:CallR X (.builtin "len") rLenF:=by
 intro pins s σ H xs us Q I r h
 obtain⟨p,ys,e1,hq,q⟩:=h
 exact call_len_seq pins s σ H xs us Q I r ⟨p,ys,e1,sq_of hq,q⟩
def rGetF:V→V→Hp→VK→Prop:=fun x y H Q=>∃ p xs i v,x=.ref p∧y=.int i∧H p=some (.lst xs)∧0≤i∧atI xs i=some v∧Q v H
theorem get_list:PGet X rGetF:=by
 intro pins s σ H o i ov iv Q I r1 r2 h
 obtain⟨p,xs,k,v,rfl,rfl,hl,h0,he,q⟩:=h
 obtain rfl:ov=Value.ref p:=r1
 obtain⟨t,rfl⟩:=r2
 obtain⟨its,rv,pl,hz⟩:=I.list (SqL.of hl)
 obtain⟨j,h1,h2,h3,h4,h5⟩:=atI_get he
 obtain⟨u,hu,ru⟩:=rv.get h2
 have hlen:=rv.length
 have hn:=line63
 have hj:k.toNat=j:=by
  rw[seqIndex_of h0 h5] at h1
  exact Option.some.inj h1
 exact wpAny_getItem_list pl.isList h0 (by omega) (by rw[hj];simpa using hu) ⟨v,H,I,ru,q⟩
theorem atI_0{α:Type}{a:α}{l:List α}:atI (a::l) 0=some a:=atI_nat (j:=0) rfl
theorem atI_1{α:Type}{a b:α}{l:List α}:atI (a::b::l) 1=some b:=atI_nat (j:=1) rfl
theorem atI_2{α:Type}{a b c:α}{l:List α}:atI (a::b::c::l) 2=some c:=atI_nat (j:=2) rfl
theorem atI_3{α:Type}{a b c d:α}{l:List α}:atI (a::b::c::d::l) 3=some d:=atI_nat (j:=3) rfl
theorem ixN_4_0:ixN 4 0=some 0:=rfl
theorem ixN_4_1:ixN 4 1=some 1:=rfl
theorem ixN_4_2:ixN 4 2=some 2:=rfl
theorem ixN_4_3:ixN 4 3=some 3:=rfl
theorem atI_lt{α:Type}{xs:List α}{i:Int}(h0:0≤i)(h1:i < xs.length):∃ v,atI xs i=some v∧v∈xs:=by
 have hl:i.toNat < xs.length:=by omega
 refine⟨xs[i.toNat],?_,List.getElem_mem hl⟩
 have:=atI_nat (xs:=xs) (j:=i.toNat) (v:=xs[i.toNat]) (by simp[hl])
 rwa [Int.toNat_of_nonneg h0] at this
end
theorem bt_len:bootBuiltins "len" = some (.builtin "len"):=by decide +kernel
theorem bt_abs:bootBuiltins "abs" = some (.builtin "abs"):=by decide +kernel
theorem bt_isinstance:bootBuiltins "isinstance" = some (.builtin "isinstance"):=by decide +kernel
theorem bt_sorted:bootBuiltins "sorted" = some (.builtin "sorted"):=by decide +kernel
theorem bt_sum:bootBuiltins "sum" = some (.builtin "sum"):=by decide +kernel
theorem bt_all:bootBuiltins "all" = some (.builtin "all"):=by decide +kernel
theorem bt_min:bootBuiltins "min" = some (.builtin "min"):=by decide +kernel
theorem bt_max:bootBuiltins "max" = some (.builtin "max"):=by decide +kernel
theorem bt_int:bootBuiltins "int" = some (.type "int"):=by decide +kernel
theorem bt_bool:bootBuiltins "bool" = some (.type "bool"):=by decide +kernel
theorem bt_list:bootBuiltins "list" = some (.type "list"):=by decide +kernel
theorem bt_tuple:bootBuiltins "tuple" = some (.type "tuple"):=by decide +kernel
theorem scal_ii{i j:Int}:scal (.int i) (.int j)=true:=rfl
theorem scal_bb{i j:Bool}:scal (.bl i) (.bl j)=true:=rfl
theorem scal_ss{i j:Str}:scal (.str i) (.str j)=true:=rfl
theorem scal_nn:scal .non .non=true:=rfl
theorem sizeLine_1:(1≤sizeLine)=True:=eq_true (by decide)
theorem sizeLine_2:(2≤sizeLine)=True:=eq_true (by decide)
theorem sizeLine_3:(3≤sizeLine)=True:=eq_true (by decide)
theorem sizeLine_4:(4≤sizeLine)=True:=eq_true (by decide)
theorem sizeLine_5:(5≤sizeLine)=True:=eq_true (by decide)
theorem sizeLine_6:(6≤sizeLine)=True:=eq_true (by decide)
theorem sizeLine_7:(7≤sizeLine)=True:=eq_true (by decide)
theorem int_c2:(((2:Nat):Int))=2:=rfl
theorem pow_ok:(Int.natAbs 10 < 2 ^ 64)=True:=eq_true (by decide)
theorem int_01:((0:Int)≤1)=True:=eq_true (by decide)
section
variable {X:Cx}
def rListF:List V→Hp→VK→Prop:=fun xs H Q=>∃ p ys,xs=[.ref p]∧seqAt H p=some ys∧∀ l,H l=none→Q (.ref l) (upd H l (.lst ys))
theorem call_listF:CallR X (.type "list") rListF:=by
 intro pins s σ H xs us Q I r h
 obtain⟨p,ys,e1,hq,q⟩:=h
 exact call_list_of pins s σ H xs us Q I r ⟨p,ys,e1,sq_of hq,q⟩
def rTupF:List V→Hp→VK→Prop:=fun xs H Q=>∃ p ys,xs=[.ref p]∧H p=some (.lst ys)∧∀ l,H l=none→Q (.ref l) (upd H l (.tup ys))
theorem call_tupF:CallR X (.type "tuple") rTupF:=by
 intro pins s σ H xs us Q I r h
 obtain⟨p,ys,e1,hq,q⟩:=h
 exact call_tuple_of pins s σ H xs us Q I r ⟨p,ys,e1,.inl ⟨SqL.of hq,q⟩⟩
theorem cutV_all{ns:List V}{k:Nat}(h:ns.length≤k):cutV ns none (some (k:Int))=ns:=by
 unfold cutV
 rw[HT.sIx_none,HT.sIx_nat,List.drop_zero,Nat.sub_zero,Nat.min_eq_right h,List.take_length]
end
def DefOk(P:Program)(w:World)(K:PySem.W.Frag)(mg:Str→Option Value)(base:Heap)(CX:CXT)(k:Nat)(x:Str)(ps:List Str)(sp:Sp):Prop :=
 ∃ f fd,FnOk P w K mg base CX k f fd ps sp∧mg x=some (.ref f)∧PySem.W.keepIn K (.ref f)=true∧Binds K fd ps []
inductive Tg.{u} {α:Sort u} (a:α):Type
 | mk
def Hold(Q:VK)(_:Tg Q):VK:=Q
theorem Hold_ap{Q:VK}{k:Tg Q}{v:V}{H:Hp}:Hold Q k v H=Q v H:=propext Iff.rfl
def tD(sp:Sp)(E:XK)(t:TA):TE:=fun σ H Q=>t σ H fun vs H1=>sp vs H1 (Hold Q .mk) E
section
variable {X:Cx}{CX:CXT}{k:Nat}{ps:List Str}{sp:Sp}{E:XK}{x:Str}{p pos:Pos}{e:Expr}{es:List Expr}{t:TA}
theorem pe_d(d:DefOk X.prog X.w X.K X.mg X.base CX k x ps sp)(hr:Room k X.A)(hx:Passes CX X E)(hg:Gl X x)(ha:PA X (e::es) t)
  (hdb:(x == ("__debug__" : Str))=false:=by decide) (he:starEach (e::es) X.env=(false,eval e X.env)::starEach es X.env:=by rfl) (hpl:(backTo pos (starEach es X.env)).any (·.1)=false:=by rfl) :
  PE X (.Call (.Name x p) (e::es) [] pos) (tD sp E t):=by
 obtain⟨f,fd,F,hm,hk,hb⟩:=d
 intro pins s σ H Q I h
 refine pe_call (dvs:=[]) (ds:=[]) F hr hg hm hk hb .nil hx ha hdb he hpl pins s σ H Q I ?_
 have e0:tCall sp [] E t=tD sp E t:=by
  funext σ H Q
  unfold tCall tD Hold
  simp only[List.append_nil]
 rw[e0]
 exact h
end
structure DefAt(K:PySem.W.Frag)(mg:Str→Option Value)(x:Str)(st:Stmt)(f:Addr)(fd:FuncData):Prop where
 fn:Fun K x x st f fd
 mg:mg x=some (.ref f)
theorem DefAt.ok{P:Program}{w:World}{K:PySem.W.Frag}{mg:Str→Option Value}{base:Heap}{CX:CXT}{k:Nat}{x:Str}{st:Stmt}{f:Addr}{fd:FuncData}{ps:List Str}{sp:Sp}(D:DefAt K mg x st f fd)(F:FnOk P w K mg base CX k f fd ps sp)(b:Binds K fd ps []):DefOk P w K mg base CX k x ps sp :=
 ⟨f,fd,F,D.mg,D.fn.kp,b⟩
theorem pick{P:Int→Prop}(l:List Int){d:Int}(h0:0≤d)(h1:d < l.length)(hp:∀ x∈l,P x):∃ x,atI (l.map V.int) d=some (.int x)∧P x:=by
 obtain⟨v,e,hv⟩:=atI_lt (xs:=l.map V.int) h0 (by rw[List.length_map];exact h1)
 obtain⟨x,hx,rfl⟩:=List.mem_map.mp hv
 exact⟨x,e,hp x hx⟩
def Fr1(B:Addr)(H H':Hp):Prop:=∀ b o,b≠B→H b=some o→H' b=some o
theorem Fr1.refl{B:Addr}{H:Hp}:Fr1 B H H:=fun _ _ _ h=>h
theorem Fr1.trans{B:Addr}{H H1 H2:Hp}(a:Fr1 B H H1)(b:Fr1 B H1 H2):Fr1 B H H2:=fun c o n h=>b c o n (a c o n h)
theorem Fr1.upd{B:Addr}{H:Hp}{o:HO}:Fr1 B H (L2.upd H B o):=fun c u n h=>by rw[upd_ne n];exact h
theorem Fr1.new{B p:Addr}{H:Hp}{o:HO}(hp:H p=none):Fr1 B H (L2.upd H p o):=fun c u n h=>by rw[upd_ne (ne_of_none h hp)];exact h
theorem Same.new{p:Addr}{H:Hp}{o:HO}(hp:H p=none):Same H (L2.upd H p o):=fun c u h=>by rw[upd_ne (ne_of_none h hp)];exact h
theorem Room.le{j k:Nat}{A:Around}(r:Room k A)(h:j≤k:=by decide):Room j A:=r.mono h
def Brk(b:Bool)(A B:Prop)(_:Tg A)(_:Tg B):Prop:=if b=true then A else B
theorem Brk_t{A B:Prop}{k:Tg A}{l:Tg B}:Brk true A B k l=A:=by unfold Brk;rw[if_pos rfl]
theorem Brk_f{A B:Prop}{k:Tg A}{l:Tg B}:Brk false A B k l=B:=by unfold Brk;rw[if_neg Bool.false_ne_true]
theorem brk{b:Bool}{A B:Prop}{k:Tg A}{l:Tg B}(h1:b=true→A)(h2:b=false→B):Brk b A B k l:=by
 cases b with
 | true=>rw[Brk_t];exact h1 rfl
 | false=>rw[Brk_f];exact h2 rfl
theorem brkD{p:Prop}[Decidable p]{A B:Prop}{k:Tg A}{l:Tg B}(h1:p→A)(h2:¬ p→B):Brk (decide p) A B k l:=brk (fun h=>h1 (of_decide_eq_true h)) (fun h=>h2 (of_decide_eq_false h))
theorem brkN{p:Prop}[Decidable p]{A B:Prop}{k:Tg A}{l:Tg B}(h1:¬ p→A)(h2:p→B):Brk (!decide p) A B k l:=brk (fun h=>h1 (by simpa using h)) (fun h=>h2 (by simpa using h))
section
variable {σ:St}{H:Hp}{Q:VK}{D:Ends}{te ta tb:TE}{t u:TS}{c c':TT}{tr:TA}{QT:Bool→Hp→Prop}{QA:List V→Hp→Prop}{x y:V}{xs:List V}{v:V}
theorem tSeq_ap:tSeq t u D σ H=t { D with nx:=u D } σ H:=propext Iff.rfl
theorem tIfS_ap:tIfS c t u D σ H=c σ H fun b H1=>Brk b (t D σ H1) (u D σ H1) .mk .mk:=propext Iff.rfl
theorem tNext_ap:tNext D σ H=D.nx σ H:=propext Iff.rfl
theorem tDrop_ap:tDrop te D σ H=te σ H fun _ H1=>D.nx σ H1:=propext Iff.rfl
theorem tRet_ap:tRet te D σ H=te σ H D.rt:=propext Iff.rfl
theorem tRetN_ap:tRetN D σ H=D.rt .non H:=propext Iff.rfl
theorem tAsg_ap{g:TG}:tAsg te g D σ H=te σ H fun x H1=>g x σ H1 D.nx:=propext Iff.rfl
theorem gName_ap{i:Nat}{R:St→Hp→Prop}:gName i v σ H R=R (σ.set i (some v)) H:=propext Iff.rfl
theorem gSub_ap{to ti:TE}{ts:TSet}{R:St→Hp→Prop}:gSub to ti ts v σ H R=to σ H fun o H1=>ti σ H1 fun i H2=>ts o i v H2 fun H3=>R σ H3:=propext Iff.rfl
theorem tPar_ap{i j:Nat}:tPar i j tr D σ H=tr σ H fun vs H1=>∃ v w,vs=[v,w]∧D.nx ((σ.set i (some v)).set j (some w)) H1:=propext Iff.rfl
theorem tAugS_ap{to ti:TE}{tg:V→V→Hp→VK→Prop}{tp:TIp}{ts:TSet}:tAugS to ti te tg tp ts D σ H=to σ H fun o H1=>ti σ H1 fun i H2=>tg o i H2 fun x H3=>te σ H3 fun y H4=>tp x y H4 fun z H5=>ts o i z H5 fun H6=>D.nx σ H6:=propext Iff.rfl
theorem tVar_ap{i:Nat}:tVar i σ H Q=∃ v,σ[i]?=some (some v)∧Q v H:=propext Iff.rfl
theorem tC_ap:tC v σ H Q=Q v H:=propext Iff.rfl
theorem tB_ap:tB te σ H QT=te σ H fun x H1=>∃ c,x=.bl c∧QT c H1:=propext Iff.rfl
theorem tTest_ap:tTest te σ H QT=te σ H fun x H1=>∃ c,x=.bl c∧QT c H1:=propext Iff.rfl
theorem tOp_ap{r:R2}:tOp r ta tb σ H Q=ta σ H fun x H1=>tb σ H1 fun y H2=>r x y H2 Q:=propext Iff.rfl
theorem tUn_ap{r:V→Hp→VK→Prop}:tUn r ta σ H Q=ta σ H fun x H1=>r x H1 Q:=propext Iff.rfl
theorem tCB_ap{r:List V→Hp→VK→Prop}:tCB r tr σ H Q=tr σ H fun vs H1=>r vs H1 Q:=propext Iff.rfl
theorem tNil_ap:tNil σ H QA=QA [] H:=propext Iff.rfl
theorem tCons_ap:tCons ta tr σ H QA=ta σ H fun x H1=>tr σ H1 fun xs H2=>QA (x::xs) H2:=propext Iff.rfl
theorem tTup_ap:tTup tr σ H Q=tr σ H fun xs H1=>xs.length≤sizeLine∧∀ p,H1 p=none→Q (.ref p) (upd H1 p (.tup xs)):=propext Iff.rfl
theorem tLst_ap:tLst tr σ H Q=tr σ H fun xs H1=>xs.length≤sizeLine∧∀ p,H1 p=none→Q (.ref p) (upd H1 p (.lst xs)):=propext Iff.rfl
theorem tAnd_ap:tAnd c c' σ H QT=c σ H fun b H1=>Brk b (c' σ H1 QT) (QT false H1) .mk .mk:=propext Iff.rfl
theorem tOr_ap:tOr c c' σ H QT=c σ H fun b H1=>Brk b (QT true H1) (c' σ H1 QT) .mk .mk:=propext Iff.rfl
theorem tNot_ap:tNot c σ H QT=c σ H fun b H1=>QT (!b) H1:=propext Iff.rfl
theorem tAndV_ap:tAndV ta tb σ H Q=ta σ H fun x H1=>∃ c,x=.bl c∧Brk c (tb σ H1 Q) (Q (.bl false) H1) .mk .mk:=propext Iff.rfl
theorem tOrV_ap:tOrV ta tb σ H Q=ta σ H fun x H1=>∃ c,x=.bl c∧Brk c (Q (.bl true) H1) (tb σ H1 Q) .mk .mk:=propext Iff.rfl
theorem tNotV_ap:tNotV ta σ H Q=ta σ H fun x H1=>∃ c,x=.bl c∧Q (.bl (!c)) H1:=propext Iff.rfl
theorem tIf_ap:tIf c ta tb σ H Q=c σ H fun b H1=>Brk b (ta σ H1 Q) (tb σ H1 Q) .mk .mk:=propext Iff.rfl
theorem tD_ap{sp:Sp}{E:XK}:tD sp E tr σ H Q=tr σ H fun vs H1=>sp vs H1 (Hold Q .mk) E:=propext Iff.rfl
theorem tCallX_ap{sp:Sp}{EX:XEx}:tCallX sp EX tr σ H Q=tr σ H fun vs H1=>sp vs H1 (Hold Q .mk) fun cls _ H2=>EX cls σ H2:=propext Iff.rfl
theorem tTry_ap{C:Addr}{tb':XEx→TS}{th:TS}:tTry C tb' th D σ H=tb' (fun cls σ' H'=>cls=.ref C∧th D σ' H') D σ H:=propext Iff.rfl
theorem tRaise_ap{C:Addr}{E:XK}:tRaise C E tr D σ H=tr σ H fun vs H1=>vs.length≤sizeLine∧E (.ref C) none H1:=propext Iff.rfl
theorem tIsN_ap:tIsN ta σ H Q=ta σ H fun x H1=>Q (.bl (decide (x=.non))) H1:=propext Iff.rfl
theorem tNotN_ap:tNotN ta σ H Q=ta σ H fun x H1=>Q (.bl (!decide (x=.non))) H1:=propext Iff.rfl
theorem rI_ap{C:Int→Int→Prop}{g:Int→Int→V}:rI C g x y H Q=∃ i j,x=.int i∧y=.int j∧C i j∧Q (g i j) H:=propext Iff.rfl
theorem rI0_ap{g:Int→Int→V}:rI0 g x y H Q=∃ i j,x=.int i∧y=.int j∧Q (g i j) H:=propext Iff.rfl
theorem rU_ap{g:Int→V}:rU g x H Q=∃ i,x=.int i∧Q (g i) H:=propext Iff.rfl
theorem rEq_ap:rEq x y H Q=(scal x y=true∧Q (.bl (decide (x=y))) H):=propext Iff.rfl
theorem rNe_ap:rNe x y H Q=(scal x y=true∧Q (.bl (!decide (x=y))) H):=propext Iff.rfl
theorem ipI_ap{f:Int→Int→Int}:ipI f x y H Q=∃ i j,x=.int i∧y=.int j∧Q (.int (f i j)) H:=propext Iff.rfl
theorem rIxF_ap:rIxF x y H Q=∃ p xs i v,x=.ref p∧y=.int i∧seqAt H p=some xs∧atI xs i=some v∧Q v H:=propext Iff.rfl
theorem rLenF_ap:rLenF xs H Q=∃ p ys,xs=[.ref p]∧seqAt H p=some ys∧Q (.int ys.length) H:=propext Iff.rfl
theorem rGetF_ap:rGetF x y H Q=∃ p xs i v,x=.ref p∧y=.int i∧H p=some (.lst xs)∧0≤i∧atI xs i=some v∧Q v H:=propext Iff.rfl
theorem rSetL_ap{R:Hp→Prop}:rSetL x y v H R=∃ p xs k j,x=.ref p∧y=.int k∧H p=some (.lst xs)∧ixN xs.length k=some j∧R (upd H p (.lst (xs.set j v))):=propext Iff.rfl
theorem rIsi_ap:rIsi xs H Q=∃ x n t,xs=[x,.ty n]∧n∈["bool", "int", "str", "list", "tuple", "dict"]∧tyNm x H=some t∧Q (.bl (isiB t n)) H:=propext Iff.rfl
theorem rListF_ap:rListF xs H Q=∃ p ys,xs=[.ref p]∧seqAt H p=some ys∧∀ l,H l=none→Q (.ref l) (upd H l (.lst ys)):=propext Iff.rfl
theorem rTupF_ap:rTupF xs H Q=∃ p ys,xs=[.ref p]∧H p=some (.lst ys)∧∀ l,H l=none→Q (.ref l) (upd H l (.tup ys)):=propext Iff.rfl
end
theorem seqAt_lst{H:Hp}{p:Addr}{xs:List V}(h:H p=some (.lst xs)):seqAt H p=some xs:=by unfold seqAt;rw[h]
theorem seqAt_tup{H:Hp}{p:Addr}{xs:List V}(h:H p=some (.tup xs)):seqAt H p=some xs:=by unfold seqAt;rw[h]
end L2
namespace L2
open PySem PySem.Spec PyProof.Rows
structure QE(X:Cx)(e:Expr)(t:TE):Prop where
 p:PE X e t
structure QT(X:Cx)(e:Expr)(t:TT):Prop where
 p:PT X e t
structure QW(X:Cx)(e:Expr)(t:TT):Prop where
 p:PW X e t
structure QA(X:Cx)(e:List Expr)(t:TA):Prop where
 p:PA X e t
structure QS(X:Cx)(e:Stmt)(t:TS):Prop where
 p:PS X e t
structure QB(X:Cx)(e:List Stmt)(t:TS):Prop where
 p:PSs X e t
structure QI(X:Cx)(tg e:Expr)(t:TI):Prop where
 p:PI X tg e t
structure QG(X:Cx)(e:Expr)(t:TG):Prop where
 p:PG X e t
structure QGs(X:Cx)(e:List Expr)(t:TGs):Prop where
 p:PGs X e t
structure QF(X:Cx)(e:List Expr)(t:TT):Prop where
 p:PFs X e t
structure QO(X:Cx)(e:Option Expr)(t:TO):Prop where
 p:PO X e t
section
variable {X:Cx}{a b c e o:Expr}{es rest:List Expr}{ta tb tc te:TE}{t tr:TA}{tA tB':TT}{pos p:Pos}{x:Str}{st:Stmt}{sts:List Stmt}{ts us:TS}
theorem qv(i:Nat)(hN:X.N[i]?=some x:=by rfl)(hv:Vis X.env.scope x:=by first | exact Or.inl rfl | exact Or.inr (Or.inl rfl) | exact Or.inr (Or.inr rfl))(hd:(x == ("__debug__" : Str))=false:=by decide)
  (hcd:(x == ("__classdict__" : Str))=false:=by decide):QE X (.Name x pos) (tVar i):=⟨pe_var hN hv hd hcd⟩
theorem qe_int{i j}:QE X (.Constant (.int i) j pos) (tC (.int i)):=⟨pe_int⟩
theorem qe_bl{i j}:QE X (.Constant (.bool i) j pos) (tC (.bl i)):=⟨pe_bl⟩
theorem qe_non{j}:QE X (.Constant .none j pos) (tC .non):=⟨pe_non⟩
theorem qe_bltn{v:V}{u:Value}(hg:Gl X x)(hm:X.mg x=none)(hv:bootBuiltins x=some u)(r:RelV v u)(hn:x ≠ "__name__" := by decide)(hd:(x == ("__debug__" : Str))=false:=by decide):QE X (.Name x pos) (tC v):=⟨pe_bltn hg hm hv r hn hd⟩
theorem qe_op{op:Operator}{r:R2}(ho:OpR X (binaryOp op) r)(ha:QE X a ta)(hb:QE X b tb):QE X (.BinOp a op b pos) (tOp r ta tb):=⟨pe_op ho ha.p hb.p⟩
theorem qe_un{op:UnaryOp}{r:V→Hp→VK→Prop}(ho:UnR X (unaryOp op) r)(ha:QE X a ta):QE X (.UnaryOp op a pos) (tUn r ta):=⟨pe_un ho ha.p⟩
theorem qe_not(ha:QE X a ta):QE X (.UnaryOp .Not a pos) (tNotV ta):=⟨pe_not ha.p⟩
theorem qe_one{op}(h:QE X a ta):QE X (.BoolOp op [a] pos) ta:=⟨pe_one h.p⟩
theorem qe_and(ha:QE X a ta)(hb:QE X (.BoolOp .And (b::rest) pos) tb):QE X (.BoolOp .And (a::b::rest) pos) (tAndV ta tb):=⟨pe_and ha.p hb.p⟩
theorem qe_or(ha:QE X a ta)(hb:QE X (.BoolOp .Or (b::rest) pos) tb):QE X (.BoolOp .Or (a::b::rest) pos) (tOrV ta tb):=⟨pe_or ha.p hb.p⟩
theorem qe_isN{j pos'}(ha:QE X a ta):QE X (.Compare a [.Is] [.Constant .none j pos'] pos) (tIsN ta):=⟨pe_cmp (pc_isN ha.p)⟩
theorem qe_cmpR{op:CmpOp}{r:R2}(ho:OpR X (compareOp op) r)(ha:QE X a ta)(hb:QE X b tb)(hm:behindInMarks op b=false):QE X (.Compare a [op] [b] pos) (tOp r ta tb):=⟨pe_cmpR ho ha.p hb.p hm⟩
theorem qe_tup{x1}(h:QA X es t):QE X (.Tuple es x1 pos) (tTup t):=⟨pe_tup h.p⟩
theorem qe_lst(h:QA X es t):QE X (.List es pos) (tLst t):=⟨pe_lst h.p⟩
theorem qe_slice{r:V→Option Int→Option Int→Hp→VK→Prop}{lo hi:Option Expr}{tl th:TO}{p2:Pos}(hr:SlR X r)(he:QE X e te)(hl:QO X lo tl)(hu:QO X hi th):QE X (.Subscript e (.Slice lo hi none p2) pos) (tSl r te tl th):=⟨pe_slice hr he.p hl.p hu.p⟩
theorem qe_ix{r:R2}(hr:IxR X r)(ha:QE X a ta)(hb:QE X b tb)(hs:PlainIx b):QE X (.Subscript a b pos) (tOp r ta tb):=⟨pe_ix hr ha.p hb.p hs⟩
theorem qe_callB{id:String}{r:List V→Hp→VK→Prop}(hc:CallR X (.builtin id) r)(hg:Gl X x)(hm:X.mg x=none)(hv:bootBuiltins x=some (.builtin id))(ha:QA X (e::es) t)(hn:x ≠ "__name__" := by decide)(hdb:(x == ("__debug__" : Str))=false:=by decide)
  (he:starEach (e::es) X.env=(false,eval e X.env)::starEach es X.env:=by rfl) (hpl:(backTo pos (starEach es X.env)).any (·.1)=false:=by rfl):QE X (.Call (.Name x p) (e::es) [] pos) (tCB r t):=⟨pe_callB hc hg hm hv ha.p hn hdb he hpl⟩
theorem qe_callTy{T:String}{r:List V→Hp→VK→Prop}(hc:CallR X (.type T) r)(hg:Gl X x)(hm:X.mg x=none)(hv:bootBuiltins x=some (.type T))(ha:QA X (e::es) t)(hn:x ≠ "__name__" := by decide)(hdb:(x == ("__debug__" : Str))=false:=by decide)
  (he:starEach (e::es) X.env=(false,eval e X.env)::starEach es X.env:=by rfl) (hpl:(backTo pos (starEach es X.env)).any (·.1)=false:=by rfl):QE X (.Call (.Name x p) (e::es) [] pos) (tCB r t):=⟨pe_callTy hc hg hm hv ha.p hn hdb he hpl⟩
theorem qe_d{CX:CXT}{k:Nat}{ps:List Str}{sp:Sp}{E:XK}(d:DefOk X.prog X.w X.K X.mg X.base CX k x ps sp)(hr:Room k X.A)(hx:Passes CX X E)(hg:Gl X x)(ha:QA X (e::es) t)
  (hdb:(x == ("__debug__" : Str))=false:=by decide) (he:starEach (e::es) X.env=(false,eval e X.env)::starEach es X.env:=by rfl) (hpl:(backTo pos (starEach es X.env)).any (·.1)=false:=by rfl) :
  QE X (.Call (.Name x p) (e::es) [] pos) (tD sp E t):=⟨pe_d d hr hx hg ha.p hdb he hpl⟩
theorem qt_cmpR{op:CmpOp}{r:R2}(ho:OpR X (compareOp op) r)(ha:QE X a ta)(hb:QE X b tb)(hm:behindInMarks op b=false):QT X (.Compare a [op] [b] pos) (tTest (tOp r ta tb)):=⟨pt_cmpR ho ha.p hb.p hm⟩
theorem qt_not(ha:QT X a tA):QT X (.UnaryOp .Not a pos) (tNot tA):=⟨pt_not ha.p⟩
theorem qw_and(ha:QT X a tA)(hb:QW X (.BoolOp .And (b::rest) pos) tB'):QW X (.BoolOp .And (a::b::rest) pos) (tAnd tA tB'):=⟨pw_and ha.p hb.p⟩
theorem qw_and1(ha:QT X a tA):QW X (.BoolOp .And [a] pos) tA:=⟨pw_and1 ha.p⟩
theorem qw_or(ha:QT X a tA)(hb:QW X (.BoolOp .Or (b::rest) pos) tB'):QW X (.BoolOp .Or (a::b::rest) pos) (tOr tA tB'):=⟨pw_or ha.p hb.p⟩
theorem qw_or1(ha:QT X a tA):QW X (.BoolOp .Or [a] pos) tA:=⟨pw_or1 ha.p⟩
theorem QW.pt(h:QW X e tA):QT X e tA:=⟨h.p.pt⟩
theorem qt_val(h:QE X e te)(he:∀ whole,isTrue e X.env whole=(do let v ← whole;standAt e.pos;holding [v] (truthy v)):=by intro _;rfl):QT X e (tB te):=⟨pt_val h.p he⟩
theorem qa_nil:QA X [] tNil:=⟨pa_nil⟩
theorem qa_cons(ha:QE X e te)(hr:QA X es t)(hs:starEach (e::es) X.env=(false,eval e X.env)::starEach es X.env:=by rfl):QA X (e::es) (tCons te t):=⟨pa_cons ha.p hr.p hs⟩
theorem qi_list{tg:Expr}(hl:QE X e te):QI X tg e (iList X.K te):=⟨pi_list hl.p⟩
theorem qi_tup{tg:Expr}(hl:QE X e te):QI X tg e (iTup X.K te):=⟨pi_tup hl.p⟩
theorem qi_range1{tg:Expr}(hg:Gl X "range")(hm:X.mg "range" = none)(ha:QA X [a] t)(hs:starEach [a] X.env=[(false,eval a X.env)]:=by rfl):QI X tg (.Call (.Name "range" p) [a] [] pos) (iRng1 t):=⟨pi_range1 hg hm ha.p hs⟩
theorem qg_name{i:Nat}(hN:X.N.Nodup)(hi:X.N[i]?=some x)(hx:Loc X.env.scope x)(hf:X.fn x=true∨X.env.scope.names.lookup x=some .local:=by first | exact .inl rfl | exact .inr rfl | assumption):QG X (.Name x pos) (gName i):=⟨pg_name hN hi hx hf⟩
theorem qg_tup{k:Nat}{tg:TGs}{n:Nat}(hc:X.calm=true)(h:QGs X es tg)(hn:(assignEach es X.env).length=n:=by rfl)(hst:(assignEach es X.env).findIdx? (·.1)=none:=by rfl):QG X (.Tuple es k pos) (gTup X.K n tg):=⟨pg_tup hc h.p hn hst⟩
theorem qg_sub{i:Expr}{ti:TE}{tset:TSet}(ho:QE X o ta)(hi:QE X i ti)(hs:PSet X tset)
  (ha:∀ v,assign (.Subscript o i pos) X.env v=(do
   let ov ← holding [v] (eval o X.env)
   let iv ← holding [v,ov] (eval i X.env)
   standAt pos
   holding [v,ov,iv] (setItem ov iv v)
   release [v,ov,iv] []):=by intro _;rfl):QG X (.Subscript o i pos) (gSub ta ti tset):=⟨pg_sub ho.p hi.p hs ha⟩
theorem qgs_nil:QGs X [] gNil:=⟨pgs_nil⟩
theorem qgs_cons{tg:TG}{tgs:TGs}(h1:QG X e tg)(h2:QGs X es tgs)(hs:(assignEach (e::es) X.env).map (·.2)=assign e X.env::(assignEach es X.env).map (·.2):=by rfl):QGs X (e::es) (gCons tg tgs):=⟨pgs_cons h1.p h2.p hs⟩
theorem qss_nil:QB X [] tNext:=⟨pss_nil⟩
theorem qss_cons(h1:QS X st ts)(h2:QB X sts us):QB X (st::sts) (tSeq ts us):=⟨pss_cons h1.p h2.p⟩
theorem qss_one(h1:QS X st ts):QB X [st] ts:=⟨pss_one h1.p⟩
theorem qs_set{i:Nat}{pos':Pos}(hN:X.N.Nodup)(hi:X.N[i]?=some x)(hx:Loc X.env.scope x)(he:QE X e te)(hs:swapsWith e (some (.Name x pos')) pos.line X.env=pure false:=by rfl)(hf:X.fn x=true∨X.env.scope.names.lookup x=some .local:=by first | exact .inl rfl | exact .inr rfl | assumption) :
  QS X (.Assign [.Name x pos'] e pos) (tAsg te (gName i)):=⟨ps_set hN hi hx he.p hs hf⟩
theorem qs_par{i j:Nat}{y:Str}{px py pt:Pos}{kt k2 pt2}(hc:X.calm=true)(hN:X.N.Nodup)(hi:X.N[i]?=some x)(hj:X.N[j]?=some y)(hij:i≠j)
  (hx:X.env.scope.names.lookup x=some .local) (hy:X.env.scope.names.lookup y=some .local) (ha:QA X [a,b] t)
  (hw:swappedStores [.Tuple [.Name x px,.Name y py] kt pt] (.Tuple [a,b] k2 pt2) X.env=pure (some [x,y]))
  (hs:swapsWithSole [.Tuple [.Name x px,.Name y py] kt pt] (.Tuple [a,b] k2 pt2) pos.line X.env=pure false:=by rfl) :
  QS X (.Assign [.Tuple [.Name x px,.Name y py] kt pt] (.Tuple [a,b] k2 pt2) pos) (tPar i j t):=⟨ps_par hc hN hi hj hij hx hy ha.p hw hs⟩
theorem qs_asg{tg:Expr}{g:TG}(he:QE X e te)(hg:QG X tg g)(hs:swapsWithSole [tg] e pos.line X.env=pure false:=by rfl)(hw:swappedStores [tg] e X.env=pure none:=by rfl)(h1:List.map (fun x=>x.snd) (assignEach [tg] X.env)=[assign tg X.env]:=by rfl):QS X (.Assign [tg] e pos) (tAsg te g):=⟨ps_asg he.p hg.p hs hw h1⟩
theorem qs_augS{i:Expr}{ti:TE}{tget:V→V→Hp→VK→Prop}{tip:TIp}{tset:TSet}{op:Operator}{tpos:Pos}(ho:QE X o ta)(hi:QE X i ti)(hg:PGet X tget)(he:QE X e te)(hp:PIp X op tip)(hs:PSet X tset)
  (ha:∀ ov iv new,augStore i ov iv new=(do holding [new,ov,iv] (setItem ov iv new);release [new,ov,iv] [];pure .next):=by intros;rfl):QS X (.AugAssign (.Subscript o i tpos) op e pos) (tAugS ta ti te tget tip tset):=⟨ps_augS ho.p hi.p hg he.p hp hs ha⟩
theorem qs_ret(he:QE X e te):QS X (.Return (some e) pos) (tRet te):=⟨ps_ret he.p⟩
theorem qs_if{ss:List Stmt}(hc:QT X c tA)(ha:QB X sts ts)(hb:QB X ss us):QS X (.If c sts ss pos) (tIfS tA ts us):=⟨ps_if hc.p ha.p hb.p⟩
theorem qs_while(hp:PassesOwn (model X.prog X.w) X.A X.env X.xe)(hc:QT X c tA)(hb:QB X sts ts):QS X (.While c sts [] pos) (tWhile tA ts):=⟨ps_while hp hc.p hb.p⟩
theorem qs_for{tg iter:Expr}{wi:TI}{g:TG}(hp:PassesOwn (model X.prog X.w) X.A X.env X.xe)(hc:X.calm=true)(hi:QI X tg iter wi)(hg:QG X tg g)(hb:QB X sts ts)
  (hs:∀ x,foldedSetIterable iter X.env x=pure x:=by intro _;rfl):QS X (.For tg iter sts [] pos) (tFor wi g ts):=⟨ps_for hp hc hi.p hg.p hb.p hs⟩
theorem qs_expr(he:QE X e te)(hs:swapsWith e none pos.line X.env=pure false:=by rfl):QS X (.Expr e pos) (tDrop te):=⟨ps_expr he.p hs⟩
theorem qs_nox(h:QS X.nox st ts):QS X st ts:=⟨PS.nox h.p⟩
theorem qo_none:QO X none tNoPart:=⟨po_none⟩
theorem qo_some(h:QE X e te):QO X (some e) (tPart te):=⟨po_some h.p⟩
end
section
variable {X:Cx}{elt iter tg c:Expr}{ifs:List Expr}{scope:Scope}{pos spos py:Pos}{wi:TI}{g:TG}{tt:TT}{te:TE}
theorem qf_nil:QF X [] tYes:=⟨pf_nil⟩
theorem qf_one(h:QT X c tt):QF X [c] tt:=⟨pf_one h.p⟩
theorem qe_comp(own:List Str)(fr:List (Str×Nat))(hc:X.calm=true)(hi:QI X tg iter wi)
  (hgx:GExt g own.length) (hB:∀ cl C fp s2 H2,QG (X.comp (own++fr.map (·.1)) scope cl C fp s2 H2) tg g∧QF (X.comp (own++fr.map (·.1)) scope cl C fp s2 H2) ifs tt∧QE (X.comp (own++fr.map (·.1)) scope cl C fp s2 H2) elt te)
  (hkind:scope.kind=.function) (hcell:∀ y∈scope.names,y.2≠.cell) (hnames:∀ y∈scope.names,y.2=.local→scope.names.lookup y.1=some .local)
  (hfree:∀ y∈scope.names,y.2=.free→X.env.kindOf y.1=some .cell∨X.env.kindOf y.1=some .free)
  (hfr:∀ p∈fr,X.N[p.2]?=some p.1∧(X.env.kindOf p.1=some .cell∨X.env.kindOf p.1=some .free)∧(p.1,NameKind.free)∈scope.names∧((relabel scope X.env).names.lookup p.1=some .cell∨(relabel scope X.env).names.lookup p.1=some .free))
  (hs:∀ x,foldedSetIterable iter X.env x=pure x:=by intro _;rfl):QE X (.ListComp elt [⟨tg,iter,ifs,0⟩] scope pos) (tComp own.length (fr.map (·.2)) wi g tt te) :=
 ⟨pe_comp own fr hc hi.p hgx (fun cl C fp s2 H2=>⟨(hB cl C fp s2 H2).1.p,(hB cl C fp s2 H2).2.1.p,(hB cl C fp s2 H2).2.2.p⟩) hkind hcell hnames hfree hfr hs⟩
theorem qs_setC{k:Nat}{y:Str}(own:List Str)(fr:List (Str×Nat))(hNd:X.N.Nodup)(hk:X.N[k]?=some y)(hy:X.env.scope.names.lookup y=some .local)(hc:X.calm=true)(hi:QI X tg iter wi)
  (hgx:GExt g own.length) (hB:∀ cl C fp s2 H2,QG (X.comp (own++fr.map (·.1)) scope cl C fp s2 H2) tg g∧QF (X.comp (own++fr.map (·.1)) scope cl C fp s2 H2) ifs tt∧QE (X.comp (own++fr.map (·.1)) scope cl C fp s2 H2) elt te)
  (hkind:scope.kind=.function) (hcell:∀ y∈scope.names,y.2≠.cell) (hnames:∀ y∈scope.names,y.2=.local→scope.names.lookup y.1=some .local)
  (hfree:∀ y∈scope.names,y.2=.free→X.env.kindOf y.1=some .cell∨X.env.kindOf y.1=some .free)
  (hfr:∀ p∈fr,X.N[p.2]?=some p.1∧(X.env.kindOf p.1=some .cell∨X.env.kindOf p.1=some .free)∧(p.1,NameKind.free)∈scope.names∧((relabel scope X.env).names.lookup p.1=some .cell∨(relabel scope X.env).names.lookup p.1=some .free))
  (hsw:swapsWith (.ListComp elt [⟨tg,iter,ifs,0⟩] scope pos) (some (.Name y py)) spos.line X.env=pure true:=by rfl)
  (hs:∀ x,foldedSetIterable iter X.env x=pure x:=by intro _;rfl):QS X (.Assign [.Name y py] (.ListComp elt [⟨tg,iter,ifs,0⟩] scope pos) spos) (tAsg (tComp own.length (fr.map (·.2)) wi g tt te) (gName k)) :=
 ⟨ps_setC own fr hNd hk hy hc hi.p hgx (fun cl C fp s2 H2=>⟨(hB cl C fp s2 H2).1.p,(hB cl C fp s2 H2).2.1.p,(hB cl C fp s2 H2).2.2.p⟩) hkind hcell hnames hfree hfr hsw hs⟩
theorem tChain_ap{r r':R2}{ta tb tc:TE}{σ:St}{H:Hp}{Q:VK}:tChain r r' ta tb tc σ H Q=ta σ H fun x H1=>tb σ H1 fun y H2=>r x y H2 fun z H3=>∃ k,z=.bl k∧Brk k (tc σ H3 fun w' H4=>r' y w' H4 Q) (Q (.bl false) H3) .mk .mk:=propext Iff.rfl
end
theorem free_of{names:List (Str×NameKind)}{k:Str→Option NameKind}(h:names.all (fun y=>!decide (y.2=.free) || (decide (k y.1=some .cell) || decide (k y.1=some .free)))=true):∀ y∈names,y.2=.free→k y.1=some .cell∨k y.1=some .free:=fun y hy hf=>by
 have:=List.all_eq_true.mp h y hy
 simpa [hf] using this
theorem fr_of{N:List Str}{names rel:List (Str×NameKind)}{k:Str→Option NameKind}{fr:List (Str×Nat)}
  (h:fr.all (fun p=>decide (N[p.2]?=some p.1) && (decide (k p.1=some .cell) || decide (k p.1=some .free)) && decide ((p.1,NameKind.free)∈names) && (decide (rel.lookup p.1=some .cell) || decide (rel.lookup p.1=some .free)))=true) :
  ∀ p∈fr,N[p.2]?=some p.1∧(k p.1=some .cell∨k p.1=some .free)∧(p.1,NameKind.free)∈names∧(rel.lookup p.1=some .cell∨rel.lookup p.1=some .free):=fun p hp=>by
 have:=List.all_eq_true.mp h p hp
 simp only[Bool.and_eq_true,Bool.or_eq_true,decide_eq_true_eq] at this
 exact⟨this.1.1.1,this.1.1.2,this.1.2,this.2⟩
theorem DefAt.q{P:Program}{w:World}{K:PySem.W.Frag}{mg:Str→Option Value}{base:Heap}{x:Str}{st:Stmt}{f:Addr}{fd:FuncData}{N ps:List Str}{k:Nat}{sp:Sp}(D:DefAt K mg x st f fd)(S:FnScope N ps (defScope st))(len:∀ vs H Q E,sp vs H Q E→vs.length=ps.length)
  (hbody:∀(cdv:Value)(A:Around)(outer:List Env)(s:Shared)(H:Hp)(vs:List V)(Q:VK)(E:XK),Room k (A.deeper (envOfC x (defScope st) s.heap.objs.size f cdv))→sp vs H Q E →
   ∃ t,QB (cxOf CX0 P w K mg base N x (defScope st) f cdv A outer s H E).nox (defBody st) t∧t { nx:=fun _ H'=>Q .non H',rt:=Q } (start N vs) H):FnOk P w K mg base CX0 (k+1) f fd ps sp :=
 D.fn.ok S len fun cdv A outer s H vs Q E hr h=>by
  obtain⟨t,h1,h2⟩:=hbody cdv A outer s H vs Q E hr h
  exact⟨t,h1.p,h2⟩
end L2
namespace L2
open PySem PySem.Spec PyProof.Rows
inductive Dt where
 | non | bl (b:Bool) | int (i:Int) | str (x:Str) | tup (l:List Dt) | lst (l:List Dt)
mutual
def Den(H:Hp):Dt→V→Prop
 | .non,x=>x=.non
 | .bl b,x=>x=.bl b
 | .int i,x=>x=.int i
 | .str z,x=>x=.str z
 | .tup ds,x=>∃ a xs,x=.ref a∧H a=some (.tup xs)∧Dens H ds xs
 | .lst ds,x=>∃ a xs,x=.ref a∧H a=some (.lst xs)∧Dens H ds xs
def Dens(H:Hp):List Dt→List V→Prop
 | [],xs=>xs=[]
 | d::ds,xs=>∃ y ys,xs=y::ys∧Den H d y∧Dens H ds ys
end
theorem Dens.length{H:Hp}:∀{ds:List Dt}{xs:List V},Dens H ds xs→ds.length=xs.length
 | [],xs,h=>by
  unfold Dens at h
  rw[h]
  rfl
 | d::ds,xs,h=>by
  unfold Dens at h
  obtain⟨y,ys,rfl,_,h2⟩:=h
  rw[List.length_cons,List.length_cons,Dens.length h2]
theorem Dens.get{H:Hp}:∀{ds:List Dt}{xs:List V}{j:Nat}{d:Dt},Dens H ds xs→ds[j]?=some d→∃ y,xs[j]?=some y∧Den H d y
 | [],xs,j,d,h,e=>by simp at e
 | c::ds,xs,0,d,h,e=>by
  unfold Dens at h
  obtain⟨y,ys,rfl,h1,h2⟩:=h
  cases e
  exact⟨y,rfl,h1⟩
 | c::ds,xs,j+1,d,h,e=>by
  unfold Dens at h
  obtain⟨y,ys,rfl,h1,h2⟩:=h
  obtain⟨y',g,n⟩:=Dens.get (j:=j) h2 (by simpa using e)
  exact⟨y',by simpa using g,n⟩
mutual
theorem Den.same{H H':Hp}(s:∀ b o,H b=some o→H' b=some o):∀{d:Dt}{x:V},Den H d x→Den H' d x
 | .non,x,h=>by unfold Den at h ⊢;exact h
 | .bl b,x,h=>by unfold Den at h ⊢;exact h
 | .int i,x,h=>by unfold Den at h ⊢;exact h
 | .str z,x,h=>by unfold Den at h ⊢;exact h
 | .tup ds,x,h=>by
  unfold Den at h ⊢
  obtain⟨a,xs,e,h1,h2⟩:=h
  exact⟨a,xs,e,s _ _ h1,Dens.same s h2⟩
 | .lst ds,x,h=>by
  unfold Den at h ⊢
  obtain⟨a,xs,e,h1,h2⟩:=h
  exact⟨a,xs,e,s _ _ h1,Dens.same s h2⟩
theorem Dens.same{H H':Hp}(s:∀ b o,H b=some o→H' b=some o):∀{ds:List Dt}{xs:List V},Dens H ds xs→Dens H' ds xs
 | [],xs,h=>by unfold Dens at h ⊢;exact h
 | d::ds,xs,h=>by
  unfold Dens at h ⊢
  obtain⟨y,ys,e,h1,h2⟩:=h
  exact⟨y,ys,e,Den.same s h1,Dens.same s h2⟩
end
mutual
theorem Den.inj{H:Hp}:∀{d e:Dt}{x:V},Den H d x→Den H e x→d=e
 | d,e,x,h1,h2=>by
  cases d with
  | tup ds =>
   unfold Den at h1
   obtain⟨a,xs,rfl,g1,g2⟩:=h1
   cases e<;>unfold Den at h2
   case tup es =>
    obtain⟨b,ys,eb,k1,k2⟩:=h2
    cases eb
    rw[g1] at k1
    cases k1
    rw[Dens.inj g2 k2]
   case lst es =>
    obtain⟨b,ys,eb,k1,k2⟩:=h2
    cases eb
    rw[g1] at k1
    cases k1
   all_goals cases h2
  | lst ds =>
   unfold Den at h1
   obtain⟨a,xs,rfl,g1,g2⟩:=h1
   cases e<;>unfold Den at h2
   case lst es =>
    obtain⟨b,ys,eb,k1,k2⟩:=h2
    cases eb
    rw[g1] at k1
    cases k1
    rw[Dens.inj g2 k2]
   case tup es =>
    obtain⟨b,ys,eb,k1,k2⟩:=h2
    cases eb
    rw[g1] at k1
    cases k1
   all_goals cases h2
  | non=>unfold Den at h1;subst h1;cases e<;>unfold Den at h2<;>first | (obtain⟨_,_,z,_⟩:=h2;cases z;done) | (cases h2;rfl) | (cases h2;done) | rfl
  | bl b=>unfold Den at h1;subst h1;cases e<;>unfold Den at h2<;>first | (obtain⟨_,_,z,_⟩:=h2;cases z;done) | (cases h2;rfl) | (cases h2;done) | rfl
  | int b=>unfold Den at h1;subst h1;cases e<;>unfold Den at h2<;>first | (obtain⟨_,_,z,_⟩:=h2;cases z;done) | (cases h2;rfl) | (cases h2;done) | rfl
  | str b=>unfold Den at h1;subst h1;cases e<;>unfold Den at h2<;>first | (obtain⟨_,_,z,_⟩:=h2;cases z;done) | (cases h2;rfl) | (cases h2;done) | rfl
theorem Dens.inj{H:Hp}:∀{ds es:List Dt}{xs:List V},Dens H ds xs→Dens H es xs→ds=es
 | [],[],_,_,_=>rfl
 | [],e::es,xs,h1,h2=>by
  unfold Dens at h1 h2
  obtain⟨_,_,z,_⟩:=h2
  rw[h1] at z
  cases z
 | d::ds,[],xs,h1,h2=>by
  unfold Dens at h1 h2
  obtain⟨_,_,z,_⟩:=h1
  rw[h2] at z
  cases z
 | d::ds,e::es,xs,h1,h2=>by
  unfold Dens at h1 h2
  obtain⟨y,ys,rfl,a1,a2⟩:=h1
  obtain⟨y',ys',ez,b1,b2⟩:=h2
  cases ez
  rw[Den.inj a1 b1,Dens.inj a2 b2]
end
def Cmp:Nat→Dt→Dt→Prop
 | _,.int _,.int _=>True
 | _,.bl _,.bl _=>True
 | _,.str _,.str _=>True
 | _,.non,.non=>True
 | _,.non,.tup _=>True
 | _,.tup _,.non=>True
 | k+1,.tup ds,.tup es=>∀(j:Nat) d e,ds[j]?=some d→es[j]?=some e→Cmp k d e
 | k+1,.lst ds,.lst es=>ds.length=es.length→∀(j:Nat) d e,ds[j]?=some d→es[j]?=some e→Cmp k d e
 | _,_,_=>False
section
open Classical
theorem all_range{ds es:List Dt}(n:Nat)(hn:n=min ds.length es.length):((List.range n).all (fun j=>decide (ds[j]?=es[j]?)) && decide (ds.length=es.length))=decide (ds=es):=by
 rw[Bool.eq_iff_iff]
 simp only[Bool.and_eq_true,List.all_eq_true,List.mem_range,decide_eq_true_eq]
 constructor
 ·rintro ⟨h1,h2⟩
  refine List.ext_getElem? fun i=>?_
  by_cases hi:i < n
  ·exact h1 i hi
  ·rw[List.getElem?_eq_none_iff.mpr (by omega),List.getElem?_eq_none_iff.mpr (by omega)]
 ·rintro rfl
  exact⟨fun _ _=>rfl,rfl⟩
theorem all_range2{ds es:List Dt}(hl:ds.length=es.length):((List.range ds.length).all (fun j=>decide (ds[j]?=es[j]?)))=decide (ds=es):=by
 have h:=all_range (ds:=ds) (es:=es) ds.length (by omega)
 rw[decide_eq_true hl,Bool.and_true] at h
 exact h
theorem dec_tup(ds es:List Dt):decide (Dt.tup ds=Dt.tup es)=decide (ds=es):=by
 rw[decide_eq_decide]
 exact⟨fun h=>Dt.tup.inj h,fun h=>by rw[h]⟩
theorem dec_lst(ds es:List Dt):decide (Dt.lst ds=Dt.lst es)=decide (ds=es):=by
 rw[decide_eq_decide]
 exact⟨fun h=>Dt.lst.inj h,fun h=>by rw[h]⟩
variable {X:Cx}{pins:List (Addr×Obj)}{σ:St}{H:Hp}{s:Shared}
theorem rc_seq(I:Inv X pins σ H s){k:Nat}(ih:∀ d e x y u v (A:Around),Den H d x→Den H e y→Cmp k d e→A.units+k+2 < cLine→RelV x u→RelV y v→SeqAt.EqAt A s u v (decide (d=e)))
  {ds es:List Dt} {a b:Addr} {A:Around} (hu:A.units+(k+1)+2 < cLine) :
  (∀ xs ys,H a=some (.tup xs)→H b=some (.tup ys)→Dens H ds xs→Dens H es ys→(∀(j:Nat) d e,ds[j]?=some d→es[j]?=some e→Cmp k d e)→SeqAt.RcAt A s (.ref a) (.ref b) (decide (Dt.tup ds=Dt.tup es))∧SeqAt.RcNeAt A s (.ref a) (.ref b) (!decide (Dt.tup ds=Dt.tup es))) ∧
  (∀ xs ys,H a=some (.lst xs)→H b=some (.lst ys)→Dens H ds xs→Dens H es ys→(ds.length=es.length→∀(j:Nat) d e,ds[j]?=some d→es[j]?=some e→Cmp k d e)→SeqAt.RcAt A s (.ref a) (.ref b) (decide (Dt.lst ds=Dt.lst es))∧SeqAt.RcNeAt A s (.ref a) (.ref b) (!decide (Dt.lst ds=Dt.lst es))):=by
 have hu':A.units < cLine:=by omega
 have el:∀(xs ys:List V)(i1 i2:List Value),Dens H ds xs→Dens H es ys→Vals xs i1→Vals ys i2→(∀(j:Nat) d e,ds[j]?=some d→es[j]?=some e→Cmp k d e) →
   ∀ j (h1:j < i1.toArray.size) (h2:j < i2.toArray.size),SeqAt.EqAt A.in1 s i1.toArray[j] i2.toArray[j] (decide (ds[j]?=es[j]?)):=fun xs ys i1 i2 d1 d2 v1 v2 hc j h1 h2=>by
  have l1:=v1.length
  have l2:=v2.length
  have l3:=d1.length
  have l4:=d2.length
  have k1:j < i1.length:=by simpa using h1
  have k2:j < i2.length:=by simpa using h2
  have m1:j < ds.length:=by omega
  have m2:j < es.length:=by omega
  have e1:ds[j]?=some ds[j]:=List.getElem?_eq_getElem m1
  have e2:es[j]?=some es[j]:=List.getElem?_eq_getElem m2
  obtain⟨y1,g1,n1⟩:=d1.get e1
  obtain⟨y2,g2,n2⟩:=d2.get e2
  obtain⟨u1,w1,r1⟩:=v1.get g1
  obtain⟨u2,w2,r2⟩:=v2.get g2
  have z1:i1.toArray[j]=u1:=by
   rw[List.getElem?_eq_getElem k1] at w1
   simpa using w1
  have z2:i2.toArray[j]=u2:=by
   rw[List.getElem?_eq_getElem k2] at w2
   simpa using w2
  have key:=ih _ _ _ _ _ _ A.in1 n1 n2 (hc j _ _ e1 e2) (by show A.units+1+k+2 < cLine;omega) r1 r2
  have ed:decide (ds[j]?=es[j]?)=decide (ds[j]=es[j]):=by
   rw[decide_eq_decide,e1,e2]
   exact⟨fun h=>Option.some.inj h,fun h=>by rw[h]⟩
  rw[z1,z2,ed]
  exact key
 refine⟨fun xs ys ha hb d1 d2 hc=>?_,fun xs ys ha hb d1 d2 hc=>?_⟩
 ·obtain⟨i1,v1,t1,_⟩:=I.tuple (SqT.of ha)
  obtain⟨i2,v2,t2,_⟩:=I.tuple (SqT.of hb)
  have l1:=v1.length
  have l2:=v2.length
  have l3:=d1.length
  have l4:=d2.length
  have e:=el xs ys i1 i2 d1 d2 v1 v2 hc
  have s1:i1.toArray.size=ds.length:=by rw[List.size_toArray];omega
  have s2:i2.toArray.size=es.length:=by rw[List.size_toArray];omega
  have b1:((List.range (min i1.toArray.size i2.toArray.size)).all (fun j=>decide (ds[j]?=es[j]?)) && i1.toArray.size == i2.toArray.size)=decide (Dt.tup ds=Dt.tup es):=by
   rw[s1,s2,dec_tup,← all_range (ds:=ds) (es:=es) _ rfl]
   congr 1
   all_goals (rw[Bool.eq_iff_iff];simp)
  rw[← b1]
  exact⟨SeqAt.RcAt.tuples t1 t2 hu' e,SeqAt.RcNeAt.tuples t1 t2 hu' e⟩
 ·obtain⟨i1,v1,t1,_⟩:=I.list (SqL.of ha)
  obtain⟨i2,v2,t2,_⟩:=I.list (SqL.of hb)
  have l1:=v1.length
  have l2:=v2.length
  have l3:=d1.length
  have l4:=d2.length
  have s1:i1.toArray.size=ds.length:=by rw[List.size_toArray];omega
  have s2:i2.toArray.size=es.length:=by rw[List.size_toArray];omega
  by_cases hl:ds.length=es.length
  ·have e:=el xs ys i1 i2 d1 d2 v1 v2 (hc hl)
   have b1:(List.range i1.toArray.size).all (fun j=>decide (ds[j]?=es[j]?))=decide (Dt.lst ds=Dt.lst es):=by
    rw[s1,dec_lst,← all_range2 hl]
   rw[← b1]
   exact⟨SeqAt.RcAt.lists t1.isList t2.isList (by omega) hu' e,SeqAt.RcNeAt.lists t1.isList t2.isList (by omega) hu' e⟩
  ·have b1:decide (Dt.lst ds=Dt.lst es)=false:=decide_eq_false fun h=>hl (by rw[Dt.lst.inj h])
   have nz:(i1.toArray.size != i2.toArray.size)=true:=by
    rw[s1,s2]
    simpa using hl
   rw[b1]
   exact⟨SeqAt.RcAt.lists_lengths t1.isList t2.isList nz hu',SeqAt.RcNeAt.lists_lengths t1.isList t2.isList nz hu'⟩
theorem dec_int'(a b:Int):decide (Dt.int a=Dt.int b)=(a == b):=by
 rw[Bool.eq_iff_iff]
 simp
theorem dec_bl'(a b:Bool):decide (Dt.bl a=Dt.bl b)=(a == b):=by
 rw[Bool.eq_iff_iff]
 simp
theorem dec_str'(a b:Str):decide (Dt.str a=Dt.str b)=(a == b):=by
 rw[Bool.eq_iff_iff]
 simp
theorem eq_den(I:Inv X pins σ H s):∀(k:Nat)(d e:Dt)(x y:V)(u v:Value)(A:Around),Den H d x→Den H e y→Cmp k d e→A.units+k+2 < cLine→RelV x u→RelV y v→SeqAt.EqAt A s u v (decide (d=e)):=by
 intro k
 induction k with
 | zero =>
  intro d e x y u v A h1 h2 hc hu r1 r2
  cases d<;>cases e<;>first | exact hc.elim | skip
  ·unfold Den at h1 h2;subst h1;subst h2;cases r1;cases r2
   rw[decide_eq_true rfl];exact SeqAt.EqAt.same _
  ·unfold Den at h1 h2;subst h1;cases r1
   obtain⟨a,xs,rfl,ha,_⟩:=h2;cases r2
   obtain⟨i1,_,t1,_⟩:=I.tuple (SqT.of ha)
   rw[decide_eq_false (by intro z;cases z)];exact SeqAt.EqAt.none_tuple t1 (by omega)
  ·unfold Den at h1 h2;subst h1;subst h2;cases r1;cases r2
   rw[dec_bl'];exact SeqAt.EqAt.bool_bool _ _
  ·unfold Den at h1 h2;subst h1;subst h2;obtain⟨t1,rfl⟩:=r1;obtain⟨t2,rfl⟩:=r2
   rw[dec_int'];exact SeqAt.EqAt.int_int _ _ _ _
  ·unfold Den at h1 h2;subst h1;subst h2;obtain⟨t1,rfl⟩:=r1;obtain⟨t2,rfl⟩:=r2
   rw[dec_str'];exact SeqAt.EqAt.str_str _ _ _ _
  ·unfold Den at h1 h2;subst h2;cases r2
   obtain⟨a,xs,rfl,ha,_⟩:=h1;cases r1
   obtain⟨i1,_,t1,_⟩:=I.tuple (SqT.of ha)
   rw[decide_eq_false (by intro z;cases z)];exact SeqAt.EqAt.tuple_none t1 (by omega)
 | succ k ih =>
  intro d e x y u v A h1 h2 hc hu r1 r2
  cases d<;>cases e<;>first | exact hc.elim | skip
  ·unfold Den at h1 h2;subst h1;subst h2;cases r1;cases r2
   rw[decide_eq_true rfl];exact SeqAt.EqAt.same _
  ·unfold Den at h1 h2;subst h1;cases r1
   obtain⟨a,xs,rfl,ha,_⟩:=h2;cases r2
   obtain⟨i1,_,t1,_⟩:=I.tuple (SqT.of ha)
   rw[decide_eq_false (by intro z;cases z)];exact SeqAt.EqAt.none_tuple t1 (by omega)
  ·unfold Den at h1 h2;subst h1;subst h2;cases r1;cases r2
   rw[dec_bl'];exact SeqAt.EqAt.bool_bool _ _
  ·unfold Den at h1 h2;subst h1;subst h2;obtain⟨t1,rfl⟩:=r1;obtain⟨t2,rfl⟩:=r2
   rw[dec_int'];exact SeqAt.EqAt.int_int _ _ _ _
  ·unfold Den at h1 h2;subst h1;subst h2;obtain⟨t1,rfl⟩:=r1;obtain⟨t2,rfl⟩:=r2
   rw[dec_str'];exact SeqAt.EqAt.str_str _ _ _ _
  ·unfold Den at h1 h2;subst h2;cases r2
   obtain⟨a,xs,rfl,ha,_⟩:=h1;cases r1
   obtain⟨i1,_,t1,_⟩:=I.tuple (SqT.of ha)
   rw[decide_eq_false (by intro z;cases z)];exact SeqAt.EqAt.tuple_none t1 (by omega)
  ·have g1:=h1
   have g2:=h2
   unfold Den at h1 h2
   obtain⟨a,xs,rfl,ha,da⟩:=h1
   obtain⟨b,ys,rfl,hb,db⟩:=h2
   cases r1;cases r2
   by_cases hab:a=b
   ·subst hab
    rw[decide_eq_true (g1.inj g2)]
    exact SeqAt.EqAt.same _
   ·exact SeqAt.EqAt.of_refs hab ((rc_seq I ih hu).1 xs ys ha hb da db hc).1
  ·have g1:=h1
   have g2:=h2
   unfold Den at h1 h2
   obtain⟨a,xs,rfl,ha,da⟩:=h1
   obtain⟨b,ys,rfl,hb,db⟩:=h2
   cases r1;cases r2
   by_cases hab:a=b
   ·subst hab
    rw[decide_eq_true (g1.inj g2)]
    exact SeqAt.EqAt.same _
   ·exact SeqAt.EqAt.of_refs hab ((rc_seq I ih hu).2 xs ys ha hb da db hc).1
def rEqD:R2:=fun x y H Q=>∃ d e,Den H d x∧Den H e y∧Cmp 8 d e∧Q (.bl (decide (d=e))) H
def rNeD:R2:=fun x y H Q=>∃ d e,Den H d x∧Den H e y∧Cmp 8 d e∧Q (.bl (!decide (d=e))) H
theorem rcs(I:Inv X pins σ H s){d e:Dt}{x y:V}{u v:Value}{A:Around}(h1:Den H d x)(h2:Den H e y)(hc:Cmp 8 d e)(hu:A.units+64 < cLine)(r1:RelV x u)(r2:RelV y v) :
  SeqAt.RcAt A s u v (decide (d=e))∧SeqAt.RcNeAt A s u v (!decide (d=e)):=by
 cases d<;>cases e<;>first | exact hc.elim | skip
 ·unfold Den at h1 h2;subst h1;subst h2;cases r1;cases r2
  rw[decide_eq_true rfl];exact⟨SeqAt.RcAt.none_none,SeqAt.RcNeAt.none_none⟩
 ·unfold Den at h1 h2;subst h1;cases r1
  obtain⟨a,xs,rfl,ha,_⟩:=h2;cases r2
  obtain⟨i1,_,t1,_⟩:=I.tuple (SqT.of ha)
  rw[decide_eq_false (by intro z;cases z)];exact⟨SeqAt.RcAt.none_tuple t1 (by omega),SeqAt.RcNeAt.none_tuple t1 (by omega)⟩
 ·unfold Den at h1 h2;subst h1;subst h2;cases r1;cases r2
  rw[dec_bl'];exact⟨SeqAt.RcAt.bool_bool _ _,SeqAt.RcNeAt.bool_bool _ _⟩
 ·unfold Den at h1 h2;subst h1;subst h2;obtain⟨t1,rfl⟩:=r1;obtain⟨t2,rfl⟩:=r2
  rw[dec_int'];exact⟨SeqAt.RcAt.int_int _ _ _ _,SeqAt.RcNeAt.int_int _ _ _ _⟩
 ·unfold Den at h1 h2;subst h1;subst h2;obtain⟨t1,rfl⟩:=r1;obtain⟨t2,rfl⟩:=r2
  rw[dec_str'];exact⟨SeqAt.RcAt.str_str _ _ _ _,SeqAt.RcNeAt.str_str _ _ _ _⟩
 ·unfold Den at h1 h2;subst h2;cases r2
  obtain⟨a,xs,rfl,ha,_⟩:=h1;cases r1
  obtain⟨i1,_,t1,_⟩:=I.tuple (SqT.of ha)
  rw[decide_eq_false (by intro z;cases z)];exact⟨SeqAt.RcAt.tuple_none t1 (by omega),SeqAt.RcNeAt.tuple_none t1 (by omega)⟩
 ·unfold Den at h1 h2
  obtain⟨a,xs,rfl,ha,da⟩:=h1
  obtain⟨b,ys,rfl,hb,db⟩:=h2
  cases r1;cases r2
  exact (rc_seq I (eq_den I 7) (by omega)).1 xs ys ha hb da db hc
 ·unfold Den at h1 h2
  obtain⟨a,xs,rfl,ha,da⟩:=h1
  obtain⟨b,ys,rfl,hb,db⟩:=h2
  cases r1;cases r2
  exact (rc_seq I (eq_den I 7) (by omega)).2 xs ys ha hb da db hc
theorem op_eqD(hu:X.A.units+64 < cLine):OpR X (compareOp .Eq) rEqD:=by
 intro pins s σ H x y v u Q I rx ry h
 obtain⟨d,e,h1,h2,hc,q⟩:=h
 exact (rcs I h1 h2 hc hu rx ry).1 _ _ _ _ ⟨.bl _,H,I,rfl,q⟩
theorem op_neD(hu:X.A.units+64 < cLine):OpR X (compareOp .NotEq) rNeD:=by
 intro pins s σ H x y v u Q I rx ry h
 obtain⟨d,e,h1,h2,hc,q⟩:=h
 exact (rcs I h1 h2 hc hu rx ry).2 _ _ _ _ ⟨.bl _,H,I,rfl,q⟩
end
theorem den2{H:Hp}{p:Addr}{a b:Int}(h:H p=some (.tup [.int a,.int b])):Den H (.tup [.int a,.int b]) (.ref p):=by
 unfold Den
 refine⟨p,_,rfl,h,?_⟩
 unfold Dens
 refine⟨_,_,rfl,by unfold Den;rfl,?_⟩
 unfold Dens
 refine⟨_,_,rfl,by unfold Den;rfl,?_⟩
 unfold Dens
 rfl
theorem cmp2{k:Nat}(a b c d:Int):Cmp (k+1) (.tup [.int a,.int b]) (.tup [.int c,.int d]):=by
 intro j x y h1 h2
 match j,h1,h2 with
 | 0,h1,h2=>cases h1;cases h2;cases k<;>exact trivial
 | 1,h1,h2=>cases h1;cases h2;cases k<;>exact trivial
 | j+2,h1,h2=>simp at h1
theorem dt2(a b c d:Int):(Dt.tup [.int a,.int b]=Dt.tup [.int c,.int d])↔(a=c∧b=d):=by
 constructor
 ·intro h
  injection h with h
  injection h with h1 h2
  injection h1 with h1
  injection h2 with h2 _
  injection h2 with h2
  exact⟨h1,h2⟩
 ·rintro ⟨rfl,rfl⟩
  rfl
section
variable {X:Cx}
def rEqP:R2:=fun x y H Q=>∃ p q a b c d,x=.ref p∧y=.ref q∧H p=some (.tup [.int a,.int b])∧H q=some (.tup [.int c,.int d])∧Q (.bl (decide (a=c∧b=d))) H
def rNeP:R2:=fun x y H Q=>∃ p q a b c d,x=.ref p∧y=.ref q∧H p=some (.tup [.int a,.int b])∧H q=some (.tup [.int c,.int d])∧Q (.bl (!decide (a=c∧b=d))) H
open Classical in
theorem op_eqP(hu:X.A.units+64 < cLine):OpR X (compareOp .Eq) rEqP:=by
 intro pins s σ H x y v u Q I rx ry h
 obtain⟨p,q,a,b,c,d,rfl,rfl,h1,h2,h3⟩:=h
 refine op_eqD hu pins s σ H _ _ v u Q I rx ry ⟨_,_,den2 h1,den2 h2,cmp2 a b c d,?_⟩
 have e:decide (Dt.tup [.int a,.int b]=Dt.tup [.int c,.int d])=decide (a=c∧b=d):=by rw[decide_eq_decide];exact dt2 a b c d
 rw[e]
 exact h3
open Classical in
theorem op_neP(hu:X.A.units+64 < cLine):OpR X (compareOp .NotEq) rNeP:=by
 intro pins s σ H x y v u Q I rx ry h
 obtain⟨p,q,a,b,c,d,rfl,rfl,h1,h2,h3⟩:=h
 refine op_neD hu pins s σ H _ _ v u Q I rx ry ⟨_,_,den2 h1,den2 h2,cmp2 a b c d,?_⟩
 have e:decide (Dt.tup [.int a,.int b]=Dt.tup [.int c,.int d])=decide (a=c∧b=d):=by rw[decide_eq_decide];exact dt2 a b c d
 rw[e]
 exact h3
theorem rEqP_ap{x y:V}{H:Hp}{Q:VK}:rEqP x y H Q=∃ p q a b c d,x=.ref p∧y=.ref q∧H p=some (.tup [.int a,.int b])∧H q=some (.tup [.int c,.int d])∧Q (.bl (decide (a=c∧b=d))) H:=propext Iff.rfl
theorem rNeP_ap{x y:V}{H:Hp}{Q:VK}:rNeP x y H Q=∃ p q a b c d,x=.ref p∧y=.ref q∧H p=some (.tup [.int a,.int b])∧H q=some (.tup [.int c,.int d])∧Q (.bl (!decide (a=c∧b=d))) H:=propext Iff.rfl
end
end L2
namespace L2
open PySem PySem.Spec PyProof.Rows
section
variable {X:Cx}
end
theorem qi_listK{X:Cx}{K:PySem.W.Frag}{e tg:Expr}{te:TE}(hK:X.K=K)(hl:QE X e te):QI X tg e (iList K te):=hK▸qi_list hl
theorem qi_tupK{X:Cx}{K:PySem.W.Frag}{e tg:Expr}{te:TE}(hK:X.K=K)(hl:QE X e te):QI X tg e (iTup K te):=hK▸qi_tup hl
section
variable {H:Hp}{Q:VK}{v:V}{l:St}
end
end L2
namespace L2
open PySem PySem.Spec PyProof.Rows
section
variable {X:Cx}
theorem ints_of_vals:∀{ns:List Int}{vs:List Value},Vals (ns.map V.int) vs→IntsAre vs ns
 | [],vs,h=>by
  cases vs with
  | nil=>exact .nil
  | cons _ _=>cases h
 | n::ns,vs,h=>by
  cases vs with
  | nil=>cases h
  | cons v vs =>
   cases h with
   | cons r rr =>
    obtain⟨t,rfl⟩:=r
    exact .cons n t (ints_of_vals rr)
def rSumF:List V→Hp→VK→Prop:=fun xs H Q=>∃(p:Addr)(ns:List Int),xs=[.ref p]∧H p=some (.lst (ns.map V.int))∧Q (.int ns.sum) H
theorem call_sumF(hc:X.calm=true):CallR X (.builtin "sum") rSumF:=by
 intro pins s σ H xs us Q I r h
 obtain⟨p,ns,rfl,hp,q⟩:=h
 obtain⟨u,rfl,rx⟩:=vals1 r
 cases rx
 obtain⟨its,r',pl,hz⟩:=I.list (SqL.of hp)
 have hi:=ints_of_vals r'
 obtain⟨ys,e⟩:=hi.allInts.items
 have hn:=hi.numsOf
 have e2:ns=ys.toList.map (·.1):=by
  rw[← nums_intItems,← e]
  exact hn.symm
 have hl:=pl.isList
 rw[e] at hl
 refine sum_intListG (I.ok.hd hc) hl fun h' tk t' hk=>⟨.int ns.sum,H,I.kept hk,⟨t',?_⟩,q⟩
 rw[preSum_eq,List.take_of_length_le (by simp),← e2]
def rAllF:List V→Hp→VK→Prop:=fun xs H Q=>∃(p:Addr)(bs:List Bool),xs=[.ref p]∧H p=some (.lst (bs.map V.bl))∧Q (.bl (bs.all id)) H
def rAnyF:List V→Hp→VK→Prop:=fun xs H Q=>∃(p:Addr)(bs:List Bool),xs=[.ref p]∧H p=some (.lst (bs.map V.bl))∧Q (.bl (bs.any id)) H
theorem bools_of_vals{bs:List Bool}{vs:List Value}(h:Vals (bs.map V.bl) vs):vs=bs.map Value.bool:=by
 induction bs generalizing vs with
 | nil=>cases h;rfl
 | cons b bs ih =>
  cases vs with
  | nil=>cases h
  | cons v vs =>
   cases h with
   | cons r rr =>
    cases r
    rw[ih rr];rfl
theorem range_all(bs:List Bool):((List.range bs.length).all fun i=>bs.getD i false)=bs.all id:=by
 rw[Bool.eq_iff_iff,List.all_eq_true,List.all_eq_true]
 constructor
 ·intro h b hb
  obtain⟨i,hi,rfl⟩:=List.getElem_of_mem hb
  have:=h i (List.mem_range.mpr hi)
  simpa [List.getD_eq_getElem?_getD,hi] using this
 ·intro h i hi
  have hi':=List.mem_range.mp hi
  have:=h bs[i] (List.getElem_mem hi')
  simpa [List.getD_eq_getElem?_getD,hi'] using this
theorem iter_list_of{M:Program}{w:World}{A:Around}{E:Value→Shared→Prop}{s:Shared}{l:Addr}{items:Array Value}{Q:Value→Shared→Prop}(hl:s.heap.IsList l items)
  (h:∀ s₂:Shared,s₂={ s with heap:=s.heap.push { cls:=.type "list_iterator", data:=.fields #[.ref l,.int 0 0] } } →
   (s₂.heap.IsListIter s.heap.objs.size l 0∧s₂.heap.IsList l items)→l≠s.heap.objs.size→Q (.ref s.heap.objs.size) s₂) :
  wpAny (model M w) A (pyIter (.ref l)) Q E s:=by
 have hlt:l < s.heap.objs.size:=by obtain⟨_,e,_⟩:=hl;exact Heap.lt_size e
 exact wpAny_pyIter_list hl (h _ rfl ⟨⟨_,Heap.get?_push_size _ rfl,rfl,rfl⟩,hl.push _⟩ (Nat.ne_of_lt hlt))
theorem truth_bools{P:Program}{w:World}{A:Around}{bs:List Bool}:TruthOf P w A (fun i v=>(List.toArray (bs.map Value.bool))[i]?=some v) (fun i=>bs.getD i false):=by
 intro i v s Q E hv hq
 have hv':(bs.map Value.bool)[i]?=some v:=by simpa using hv
 rw[List.getElem?_map] at hv'
 cases e:bs[i]? with
 | none=>rw[e] at hv';cases hv'
 | some b =>
  rw[e] at hv'
  cases hv'
  have:bs.getD i false=b:=by simp[List.getD_eq_getElem?_getD,e]
  have hq':Q (bs.getD i false) s:=hq
  rw[this] at hq'
  exact wpAny_truthy_bool hq'
theorem call_allF(hc:X.calm=true):CallR X (.builtin "all") rAllF:=by
 intro pins s σ H xs us Q I r h
 obtain⟨p,bs,rfl,hp,q⟩:=h
 obtain⟨u,rfl,rx⟩:=vals1 r
 cases rx
 obtain⟨its,r',pl,hz⟩:=I.list (SqL.of hp)
 rw[bools_of_vals r'] at pl
 refine call_all_walk (iter_list_of pl.isList fun s₂ e st hne=>?_)
 subst e
 refine⟨_,_,_,_,_,_,_,rfl,Walks.list (A:=X.A.in1) (I.ok.hd hc) _ p hne _,st,truth_bools,fun h' tk hk=>⟨.bl (bs.all id),H,I.kept (old_kept hk),?_,q⟩⟩
 show Value.bool _=Value.bool _
 rw[List.size_toArray,List.length_map,range_all]
theorem Inv.laidL{pins:List (Addr×Obj)}{σ:St}{H:Hp}{s:Shared}{h':Heap}{t':Nat}{wr:List Addr}{T:Addr}{o:HO}(I:Inv X pins σ H s)(k:∀ b u,b∉wr→s.heap.get? b=some u→h'.get? b=some u)(hw:∀ b∈wr,FpOk X pins H b)
  (hp:s.heap.objs.size≤T) (new:ObjOk X.prog X.w (upd H T o) h' T o):Inv X pins σ (upd H T o) { s with heap:=h',toks:=t' }:=by
 have hn:H T=none:=I.hok.fresh hp
 have neT:∀ b ob,s.heap.get? b=some ob→b≠T:=fun b ob e=>Nat.ne_of_lt (Nat.lt_of_lt_of_le (Heap.lt_size e) hp)
 have up:∀{b:Addr}{u:HO},H b=some u→upd H T o b=some u:=fun e=>by rw[upd_ne (ne_of_none e hn)];exact e
 have nit:∀ b u,H b=some u→b∉wr:=fun b u e z=>by rw[(hw b z).1] at e;cases e
 refine I.step (g':=s.gens) (d':=s.drawn) (ch:=wr) (fun b hb=>?_) (fun b ob _ _ hc e _=>k b ob hc e) (fun b ob _ _ hc e _=>⟨ob.slots,k b ob hc e⟩) (fun b ob _ e n=>by rw[upd_ne (neT b ob e)];exact n)
  (fun b ob hc e=>⟨ob,k b ob hc e⟩) (fun _ _ e=>up e) (fun _ _ _ e=>up e) (fun b ps e=>⟨#[],by rw[up e];simp⟩) (fun m hm=>?_) (fun b u e=>?_) I.bare
 ·obtain⟨_,f1,_,f3,f4,f5⟩:=hw b hb
  exact⟨f3,f1,f4,f5⟩
 ·obtain⟨ob,es,ep,ho,r⟩:=hm
  exact⟨ob,es,ep,k _ ob (fun z=>(hw _ z).2.1 rfl) ho,r⟩
 ·by_cases hb:b=T
  ·subst hb;rw[upd_same] at e;cases e;exact new
  ·rw[upd_ne hb] at e
   refine (I.hok b u e).stay (fun c v hc q=>k c v ?_ q) (fun c q=>up q) fun c xs q=>up q
   rcases hc with z | z
   ·rw[z];exact nit b u e
   ·exact nit c _ z
theorem Inv.turnedL{pins:List (Addr×Obj)}{σ:St}{H:Hp}{s:Shared}{h':Heap}{t':Nat}{wr:List Addr}(I:Inv X pins σ H s)(k:∀ b o,b∉wr→s.heap.get? b=some o→h'.get? b=some o)(hw:∀ b∈wr,FpOk X pins H b):Inv X pins σ H { s with heap:=h',toks:=t' }:=by
 have nit:∀ b u,H b=some u→b∉wr:=fun b u e z=>by rw[(hw b z).1] at e;cases e
 refine I.step (g':=s.gens) (d':=s.drawn) (ch:=wr) (fun b hb=>?_) (fun b o _ _ hc e _=>k b o hc e) (fun b o _ _ hc e _=>⟨o.slots,k b o hc e⟩) (fun _ _ _ _ n=>n)
  (fun b o hc e=>⟨o,k b o hc e⟩) (fun _ _ e=>e) (fun _ _ _ e=>e) (fun b ps e=>⟨#[],by rw[e];simp⟩) (fun m hm=>?_) (fun b u e=>?_) I.bare
 ·obtain⟨_,f1,_,f3,f4,f5⟩:=hw b hb
  exact⟨f3,f1,f4,f5⟩
 ·obtain⟨o,es,ep,ho,r⟩:=hm
  exact⟨o,es,ep,k _ o (fun z=>(hw _ z).2.1 rfl) ho,r⟩
 ·refine (I.hok b u e).stay (fun c v hc q=>k c v ?_ q) (fun _ q=>q) fun _ _ q=>q
  rcases hc with z | z
  ·rw[z];exact nit b u e
  ·exact nit c _ z
def Itn(K:PySem.W.Frag)(a:Addr):It :=
 ⟨fun i H=>∃ xs x,SqL K H a xs∧xs[i]?=some x,
   fun i H v H'=>∃ p x,H p=none∧(∀ xs,SqL K H a xs→xs[i]?=some x)∧v=.ref p∧H'=upd H p (.tup [.int i,x]),
   fun i H=>∃ xs,SqL K H a xs∧i=xs.length⟩
theorem turn_enum{P:Program}{w:World}{K:PySem.W.Frag}{elts:List Expr}{k:Nat}{tp:Pos}(e it a:Addr)(hei:e≠it)(hle:a≠e)(hli:a≠it) :
  Turn P w K (.Tuple elts k tp) (Itn K a) [e,it] e (fun i h=>(∃ old,IsEnum h e it i old)∧h.IsListIter it a i) where
 mem:=by simp
 obj:=fun i h st c hb=>by
  obtain⟨⟨old,s1⟩,⟨o4,e4,_,d4⟩⟩:=st
  simp only[List.mem_cons,List.not_mem_nil,or_false] at hb
  rcases hb with rfl | rfl
  ·exact⟨_,s1,fun v z=>by cases (show Data.fields _=Data.cell v from z)⟩
  ·exact⟨_,e4,fun v z=>by rw[d4] at z;cases z⟩
 keep:=fun i h h' st hk=>by
  obtain⟨⟨old,s1⟩,s4⟩:=st
  exact⟨⟨old,hk e (by simp) _ s1⟩,s4.at fun o q=>hk it (by simp) o q⟩
 item:=by
  intro X hP hw hK hc i pins s σ H E I hf st hg
  subst hP hw hK
  obtain⟨xs,x,hq1,hx⟩:=hg
  obtain⟨its1,rv1,p1,hz1⟩:=I.list hq1
  obtain⟨u1,hu1,ru1⟩:=rv1.get hx
  obtain⟨s1,s4⟩:=st
  have W:=WalksT.enumerate (prog:=X.prog) (w:=X.w) (A:=X.A) (I.ok.hd hc) e it a hei hle hli its1.toArray
  have l1:=(List.getElem?_eq_some_iff.mp hu1).1
  refine W.item i s _ E (by rw[List.size_toArray];exact l1) ⟨s1,s4,p1.isList⟩ fun T vals h' tk hv hT ht mid kk=>?_
  obtain⟨t,v1,e1,rfl⟩:=hv
  have e1':v1=u1:=by simpa [hu1] using e1.symm
  subst e1'
  refine⟨.ref T,rfl,W.go elts k tp i T _ _ E mid fun h2 st2 kk2=>?_⟩
  have kept:∀ c o,c∉[e,it]→s.heap.get? c=some o→h2.get? c=some o:=fun c o hc q=>kk2 c o hc (kk c o hc q)
  have nT:=W.apart i T _ mid
  obtain⟨oT,eT,cT,nT',dT⟩:=ht
  obtain⟨t1,t4,_⟩:=st2
  refine⟨.ref T,upd H T (.tup [.int i,x]),I.laidL (t':=tk) kept hf hT ⟨by show 2≤sizeLine;decide,[.int i t,v1],.cons ⟨t,rfl⟩ (.cons ru1 .nil),oT,kk2 T _ nT eT,cT,nT',dT⟩,rfl,
   ⟨T,x,I.hok.fresh hT,fun zs hzs=>by rw[I.list_inj hzs hq1];exact hx,rfl,rfl⟩,⟨t1,t4⟩,fun c hc=>?_⟩
  have hcn:=(hf c hc).1
  have hcl:c < s.heap.objs.size:=by
   obtain⟨old,s1⟩:=s1
   obtain⟨o4,e4,_⟩:=s4
   simp only[List.mem_cons,List.not_mem_nil,or_false] at hc
   rcases hc with rfl | rfl
   ·exact Heap.lt_size s1
   ·exact Heap.lt_size e4
  rw[upd_ne (Nat.ne_of_lt (Nat.lt_of_lt_of_le hcl hT))]
  exact hcn
 done:=by
  intro X hP hw hK hc i pins s σ H E I hf st hg
  subst hP hw hK
  obtain⟨xs,hq1,hx⟩:=hg
  obtain⟨its1,rv1,p1,hz1⟩:=I.list hq1
  obtain⟨s1,s4⟩:=st
  have W:=WalksT.enumerate (prog:=X.prog) (w:=X.w) (A:=X.A) (I.ok.hd hc) e it a hei hle hli its1.toArray
  have hm:its1.toArray.size=i:=by
   rw[List.size_toArray,← rv1.length];exact hx.symm
  refine W.done s _ E ?_ fun h' tk kk=>⟨rfl,I.turnedL kk hf⟩
  rw[hm]
  exact⟨s1,s4,p1.isList⟩
 self:=fun _ _ _ _ _ st h=>by
  obtain⟨⟨old,s1⟩,_⟩:=st
  exact wpAny_pyIter_enum s1 h
def iEnum(K:PySem.W.Frag)(ta:TA):TI:=fun σ H R=>ta σ H fun vs H1=>∃ a,vs=[.ref a]∧(∃ xs,SqL K H1 a xs)∧R (Itn K a) H1
theorem pi_enum{a:Expr}{ta:TA}{p pos tp:Pos}{elts:List Expr}{k:Nat}(hg:Gl X "enumerate")(hm:X.mg "enumerate" = none)(ha:PA X [a] ta)(hs:starEach [a] X.env=[(false,eval a X.env)]:=by rfl) :
  PI X (.Tuple elts k tp) (.Call (.Name "enumerate" p) [a] [] pos) (iEnum X.K ta):=by
 intro pins s σ H R I h
 refine Call_ (ld_blt I hg hm boot_enumerate (PyProof.Rows.callWith_type1 (thn (ha pos pins s σ H _ I h) fun us s1 ⟨vs,H1,I1,r1,q1⟩=>?_) hs rfl))
 obtain⟨a',e,⟨xs,hq1⟩,q⟩:=q1
 subst e
 cases r1 with
 | cons r rr =>
  cases rr
  cases r
  obtain⟨its1,rv1,p1,hz1⟩:=I1.list hq1
  have hlt1:a' < s1.heap.objs.size:=by obtain⟨_,e,_⟩:=p1.isList;exact Heap.lt_size e
  refine call_enumerate_list p1.isList fun h' hE hI hsz hk=>?_
  refine wpAny_pyIter_enum hE ?_
  refine⟨_,[_,_],_,_,H1,rfl,I1.kept (t':=s1.toks) hk,turn_enum _ _ a' (Nat.succ_ne_self _) (Nat.ne_of_lt (Nat.lt_succ_of_lt hlt1)) (Nat.ne_of_lt hlt1),⟨⟨_,hE⟩,hI⟩,fun c hc=>?_,q⟩
  have hle:s1.heap.objs.size≤c:=by
   simp only[List.mem_cons,List.not_mem_nil,or_false] at hc
   rcases hc with rfl | rfl<;>first | exact Nat.le_refl _ | exact Nat.le_add_right _ _
  exact I1.fpOk hle (I1.hok.fresh hle)
end
section
variable {X:Cx}{a b:Expr}{t:TA}{p pos tp:Pos}{elts:List Expr}{k:Nat}
theorem qi_enum(hg:Gl X "enumerate")(hm:X.mg "enumerate" = none)(ha:QA X [a] t)(hs:starEach [a] X.env=[(false,eval a X.env)]:=by rfl) :
  QI X (.Tuple elts k tp) (.Call (.Name "enumerate" p) [a] [] pos) (iEnum X.K t):=⟨pi_enum hg hm ha.p hs⟩
end
theorem rSumF_ap{xs:List V}{H:Hp}{Q:VK}:rSumF xs H Q=∃(p:Addr)(ns:List Int),xs=[.ref p]∧H p=some (.lst (ns.map V.int))∧Q (.int ns.sum) H:=propext Iff.rfl
theorem rAllF_ap{xs:List V}{H:Hp}{Q:VK}:rAllF xs H Q=∃(p:Addr)(bs:List Bool),xs=[.ref p]∧H p=some (.lst (bs.map V.bl))∧Q (.bl (bs.all id)) H:=propext Iff.rfl
theorem rAnyF_ap{xs:List V}{H:Hp}{Q:VK}:rAnyF xs H Q=∃(p:Addr)(bs:List Bool),xs=[.ref p]∧H p=some (.lst (bs.map V.bl))∧Q (.bl (bs.any id)) H:=propext Iff.rfl
end L2
namespace L2
open PySem PySem.Spec PyProof.Rows
section
variable {X:Cx}
def rCatA:R2:=fun x y H Q=>∃ a b xs ys,x=.ref a∧y=.ref b∧H a=some (.tup xs)∧H b=some (.tup ys)∧ys≠[]∧xs.length+ys.length≤sizeLine∧∀ p H',Same H H'→H' p=some (.tup (xs++ys))→Q (.ref p) H'
theorem op_catA:OpR X (binaryOp .Add) rCatA:=by
 intro pins s σ H x y v u Q I rx ry h
 obtain⟨a,b,xs,ys,rfl,rfl,ha,hb,hy,hz,q⟩:=h
 by_cases hx:xs=[]
 ·subst hx
  cases rx
  cases ry
  obtain⟨its,r1,p1,_⟩:=I.tuple (SqT.of ha)
  obtain⟨its2,r2,p2,_⟩:=I.tuple (SqT.of hb)
  cases r1
  obtain⟨⟨cls,dd,data,sl⟩,ho,hc,n,hd⟩:=id p1
  obtain⟨⟨cls2,dd2,data2,sl2⟩,ho2,hc2,n2,hd2⟩:=id p2
  simp only at hc hd hc2 hd2
  subst hc hd hc2 hd2
  exact concat_meets ⟨_,ho,rfl⟩ ⟨_,ho2,rfl⟩ noFill_tuple_add seq_tuple_add PySem.F.slot_tuple_add PySem.F.entry_tuple_add (PySem.F.args_tuple_add_2 _ _)
   (tuple_addW0 a b _ _ n n2 dd dd2 sl sl2 (by simp)) ⟨ho,ho2,⟨.ref b,H,I,rfl,q b H (Same.refl H) (by simpa using hb)⟩⟩
 ·exact op_catT pins s σ H (.ref a) (.ref b) _ _ Q I rx ry ⟨a,b,xs,ys,rfl,rfl,SqT.of ha,SqT.of hb,hx,hz,fun z=>absurd z hy,fun _ p hp=>q p _ (Same.new hp) upd_same⟩
end
theorem tBM_ap{K:PySem.W.Frag}{T:String}{r:V→List V→Hp→VK→Prop}{to:TE}{t:TA}{σ:St}{H:Hp}{Q:VK}:tBM K T r to t σ H Q=to σ H fun x H1=>tyV K T x H1∧t σ H1 fun vs H2=>r x vs H2 Q:=propext Iff.rfl
theorem rAppend_ap{x:V}{vs:List V}{H:Hp}{Q:VK}:rAppend x vs H Q=∃ l xs y,x=.ref l∧vs=[y]∧H l=some (.lst xs)∧xs.length < sizeLine∧Q .non (upd H l (.lst (xs++[y]))):=propext Iff.rfl
theorem sizeLine_8:(8≤sizeLine)=True:=eq_true (by decide)
theorem sizeLine_10:(10≤sizeLine)=True:=eq_true (by decide)
end L2
namespace L2
open PySem PySem.Spec PyProof.Rows
section
variable {X:Cx}{o e:Expr}{es:List Expr}{to:TE}{t:TA}{name:Str}{apos cpos:Pos}{T id:String}{r:V→List V→Hp→VK→Prop}
theorem qe_bm(pa:PlainAttrs T)(slot:Slot T name id)(hty:typeOf (.builtin id)=pure (.type "method_descriptor"))(hm:MtR X id r)(ho:QE X o to)(ha:QA X (e::es) t)
  (hbase:attributeBase o name X.env (eval o X.env)=eval o X.env:=by rfl)
  (hfew:((backTo cpos (starEach (e::es) X.env)).all (fun x=>!x.1) && (backToKw cpos (keywordEach [] X.env)).all (fun x=>x.1.isSome)
   && decide ((e::es).length+([]:List Keyword).length+(if ([]:List Keyword).isEmpty then 0 else 1) < 30))=true:=by rfl)
  (hline:(apos.endLine == cpos.line)=true:=by rfl) (hs:starEach (e::es) X.env=(false,eval e X.env)::starEach es X.env:=by rfl) (hplain:(backTo cpos (starEach es X.env)).any (·.1)=false:=by rfl) :
  QE X (.Call (.Attribute o name apos) (e::es) [] cpos) (tBM X.K T r to t):=⟨pe_bm pa slot hty hm ho.p ha.p hbase hfew hline hs hplain⟩
end
end L2
namespace L2
theorem compSt_ap{n:Nat}{js:List Nat}{σ:St}:compSt n js σ=List.replicate n none++js.map fun j=>(σ[j]?).join:=by unfold compSt;exact rfl
theorem join_somz{α:Type}{x:Option α}:(some x).join=x:=rfl
end L2
namespace L2
open PySem
theorem op_inK{X:Cx}{K:PySem.W.Frag}(hK:X.K=K):OpR X (compareOp .In) (rIn K false):=hK▸op_in_seq
theorem op_notInK{X:Cx}{K:PySem.W.Frag}(hK:X.K=K):OpR X (compareOp .NotIn) (rIn K true):=hK▸op_notIn_seq
end L2
namespace L2
open PySem
theorem qg_tupK{X:Cx}{K:PySem.W.Frag}{es:List Expr}{pos:Pos}{k:Nat}{tg:TGs}{n:Nat}(hK:X.K=K)(hc:X.calm=true)(h:QGs X es tg)(hn:(assignEach es X.env).length=n:=by rfl)(hst:(assignEach es X.env).findIdx? (·.1)=none:=by rfl):QG X (.Tuple es k pos) (gTup K n tg):=hK▸qg_tup hc h hn hst
end L2
namespace L2
theorem sizeLine_0:(0≤PySem.sizeLine)=True:=eq_true (Nat.zero_le _)
end L2
namespace L2
theorem brkNB{b:Bool}{A B:Prop}{k:Tg A}{l:Tg B}(h1:b=false→A)(h2:b=true→B):Brk (!b) A B k l:=brk (fun h=>h1 (by simpa using h)) (fun h=>h2 (by simpa using h))
end L2
set_option maxHeartbeats 4000000
namespace Srt
open PySem PyProof.Rows
abbrev PS:=Array Nat×Array (Nat×Nat×Nat)×Nat
abbrev TW(β:Type):=PS→Option (β×PS)
abbrev enc(k:Nat→Keyed)(t:PS):SortSt:=SortSt.mk' oneType' (t.1.map k) t.2.1 t.2.2 none
structure Asked(P:Program)(w:World)(A:Around)(s:Shared)(k:Nat→Keyed)(c:Nat→Nat→Bool)(N:Nat):Prop where
 lt:∀ i j,i < N→j < N→∀(E:Value→Shared→Prop)(Q:Bool→Shared→Prop),Q (c i j) s→wpAny (model P w) A (oneLt' true (k i).1 (k j).1) Q E s
structure Sim(c:Nat→Nat→Bool)(N:Nat){α β:Type}(φ:(Nat→Keyed)→β→α)(m:(Nat→Keyed)→StateT SortSt Sem α)(n:TW β):Prop where
 run:∀(P:Program)(w:World)(A:Around)(E:Value→Shared→Prop)(s:Shared)(k:Nat→Keyed),Asked P w A s k c N→∀ t b t',n t=some (b,t')→wpS (model P w) A E s (m k) (fun a st=>a=φ k b∧st=enc k t') (enc k t)
section
variable {c:Nat→Nat→Bool}{N:Nat}{α β γ δ:Type}
def tpure(b:β):TW β:=fun t=>some (b,t)
def tbind(n:TW β)(g:β→TW δ):TW δ:=fun t=>match n t with
 | none=>none
 | some (b,t')=>g b t'
def tfor(f:Nat→β→TW (ForInStep β)):List Nat→β→TW β
 | [],b=>tpure b
 | x::l,b=>fun t=>match f x b t with
  | none=>none
  | some (.done b',t')=>some (b',t')
  | some (.yield b',t')=>tfor f l b' t'
def tite(p:Prop)[Decidable p](x y:TW β):TW β:=fun t=>if p then x t else y t
def tnone:TW β:=fun _=>none
def tget:TW PS:=fun t=>some (t,t)
def tmod(f:PS→PS):TW Unit:=fun t=>some ((),f t)
def tlt(c:Nat→Nat→Bool)(N i j:Nat):TW Bool:=fun t=>if i < N∧j < N then some (c i j,t) else none
def tel(p:Array Nat)(i:Nat):TW Nat:=fun t=>match p[i]? with
 | none=>none
 | some j=>some (j,t)
abbrev ident:(Nat→Keyed)→β→β:=fun _ b=>b
theorem sim_pure(b:β):Sim c N ident (fun _=>pure b) (tpure b):=by
 refine⟨?_⟩
 intro P w A E s k h t b' t' e
 cases e
 exact wpS_pure ⟨rfl,rfl⟩
theorem sim_pureV{φ:(Nat→Keyed)→β→α}{v:(Nat→Keyed)→α}(b:β)(hv:∀ k,v k=φ k b):Sim c N φ (fun k=>pure (v k)) (tpure b):=by
 refine⟨?_⟩
 intro P w A E s k h t b' t' e
 cases e
 exact wpS_pure ⟨hv k,rfl⟩
theorem sim_bind{φ:(Nat→Keyed)→β→α}{ψ:(Nat→Keyed)→δ→γ}{m:(Nat→Keyed)→StateT SortSt Sem α}{f:(Nat→Keyed)→α→StateT SortSt Sem γ}{n:TW β}{g:β→TW δ}
  (h1:Sim c N φ m n) (h2:∀ b,Sim c N ψ (fun k=>f k (φ k b)) (g b)):Sim c N ψ (fun k=>m k >>= f k) (tbind n g):=by
 refine⟨?_⟩
 intro P w A E s k h t b t' e
 unfold tbind at e
 cases e1:n t with
 | none=>rw[e1] at e;cases e
 | some r =>
  obtain⟨b1,t1⟩:=r
  rw[e1] at e
  refine wpS_bind (wpS_mono (h1.run P w A E s k h t b1 t1 e1) fun a st ⟨ea,es⟩=>?_)
  rw[ea,es]
  exact (h2 b1).run P w A E s k h t1 b t' e
theorem sim_ite{φ:(Nat→Keyed)→β→α}{p:Prop}{d:(Nat→Keyed)→Decidable p}[Decidable p]{m1 m2:(Nat→Keyed)→StateT SortSt Sem α}{n1 n2:TW β}(h1:Sim c N φ m1 n1)(h2:Sim c N φ m2 n2):Sim c N φ (fun k=>@ite _ p (d k) (m1 k) (m2 k)) (tite p n1 n2):=by
 refine⟨?_⟩
 intro P w A E s k h t b t' e
 unfold tite at e
 by_cases hp:p
 ·rw[if_pos hp] at e
  simp only[if_pos hp]
  exact h1.run P w A E s k h t b t' e
 ·rw[if_neg hp] at e
  simp only[if_neg hp]
  exact h2.run P w A E s k h t b t' e
theorem sim_none{φ:(Nat→Keyed)→β→α}{m:(Nat→Keyed)→StateT SortSt Sem α}:Sim c N φ m tnone:=⟨fun _ _ _ _ _ _ _ _ _ _ e=>nomatch e⟩
theorem sim_get:Sim c N enc (fun _=>get) tget:=by
 refine⟨?_⟩
 intro P w A E s k h t b' t' e
 cases e
 exact wpS_get ⟨rfl,rfl⟩
theorem sim_mod{f:SortSt→SortSt}(f':PS→PS)(hf:∀ k t,f (enc k t)=enc k (f' t)):Sim c N ident (fun _=>modify f) (tmod f'):=by
 refine⟨?_⟩
 intro P w A E s k h t b' t' e
 cases e
 exact wpS_modify ⟨rfl,hf k t⟩
theorem sim_rule{x:String}:Sim c N ident (fun _=>(liftM (rule x):StateT SortSt Sem Unit)) (tpure ()):=by
 refine⟨?_⟩
 intro P w A E s k h t b' t' e
 cases e
 exact wpS_lift (wpAny_rule ⟨rfl,rfl,rfl⟩)
theorem sim_lt{i j:Nat}:Sim c N (fun _ b=>some b) (fun k=>lt' (k i) (k j)) (tlt c N i j):=by
 refine⟨?_⟩
 intro P w A E s k h t b' t' e
 unfold tlt at e
 split at e
 case isFalse=>cases e
 rename_i hij
 cases e
 try dsimp only
 rw[lt'_eq]
 refine wpS_bind (wpS_get ?_)
 show wpS _ _ _ _ (do let r ← (keyLt' oneType' (k i).1 (k j).1).attempt;_) _ _
 rw[keyLt'_oneType]
 refine wpS_bind (wpS_lift (wpAny_attempt (h.lt i j hij.1 hij.2 _ _ ⟨rfl,?_⟩)))
 exact wpS_pure ⟨rfl,rfl⟩
theorem sim_el{p:Array Nat}{i:Nat}:Sim c N (fun k j=>k j) (fun k=>elem' (p.map k) i) (tel p i):=by
 refine⟨?_⟩
 intro P w A E s k h t b' t' e
 unfold tel at e
 try dsimp only
 rw[elem'_eq]
 cases e1:p[i]? with
 | none=>rw[e1] at e;cases e
 | some j =>
  rw[e1] at e
  cases e
  rw[Array.getElem?_map,e1]
  exact wpS_pure ⟨rfl,rfl⟩
def stepM(φ:(Nat→Keyed)→β→α)(k:Nat→Keyed):ForInStep β→ForInStep α
 | .done b=>.done (φ k b)
 | .yield b=>.yield (φ k b)
theorem sim_forL{φ:(Nat→Keyed)→β→α}{F:(Nat→Keyed)→Nat→α→StateT SortSt Sem (ForInStep α)}{f:Nat→β→TW (ForInStep β)}(h:∀ x b,Sim c N (stepM φ) (fun k=>F k x (φ k b)) (f x b)) :
  ∀(l:List Nat)(b:β),Sim c N φ (fun k=>forIn l (φ k b) (F k)) (tfor f l b)
 | [],b=>by
  refine⟨?_⟩
  intro P w A E s k ha t b' t' e
  cases e
  simp only[List.forIn_nil]
  exact wpS_pure ⟨rfl,rfl⟩
 | x::l,b=>by
  refine⟨?_⟩
  intro P w A E s k ha t b' t' e
  simp only[List.forIn_cons]
  unfold tfor at e
  cases e1:f x b t with
  | none=>rw[e1] at e;cases e
  | some r =>
   obtain⟨r,t1⟩:=r
   rw[e1] at e
   refine wpS_bind (wpS_mono ((h x b).run P w A E s k ha t r t1 e1) fun a st ⟨ea,es⟩=>?_)
   rw[ea,es]
   cases r with
   | done b1 =>
    cases e
    exact wpS_pure ⟨rfl,rfl⟩
   | yield b1=>exact (sim_forL h l b1).run P w A E s k ha t1 b' t' e
theorem sim_for{φ:(Nat→Keyed)→β→α}{F:(Nat→Keyed)→Nat→α→StateT SortSt Sem (ForInStep α)}{f:Nat→β→TW (ForInStep β)}{a b:Nat}{v:(Nat→Keyed)→α}(b0:β)(hv:∀ k,v k=φ k b0)(h:∀ x b,Sim c N (stepM φ) (fun k=>F k x (φ k b)) (f x b)) :
  Sim c N φ (fun k=>forIn [a:b] (v k) (F k)) (tfor f (List.range' a (b - a)) b0):=by
 refine⟨?_⟩
 intro P w A E s k ha t b' t' e
 have:=(sim_forL h _ b0).run P w A E s k ha t b' t' e
 try dsimp only
 rw[hv k,Std.Legacy.Range.forIn_eq_forIn_range']
 have hsz:([a:b]:Std.Legacy.Range).size=b - a:=by simp[Std.Legacy.Range.size]
 show wpS _ _ _ _ (forIn (List.range' a ([a:b]:Std.Legacy.Range).size 1) _ _) _ _
 rw[hsz]
 exact this
theorem sim_forI{F:(Nat→Keyed)→Nat→β→StateT SortSt Sem (ForInStep β)}{f:Nat→β→TW (ForInStep β)}{a b:Nat}{b0:β}(h:∀ x b,Sim c N (stepM ident) (fun k=>F k x b) (f x b)) :
  Sim c N ident (fun k=>forIn [a:b] b0 (F k)) (tfor f (List.range' a (b - a)) b0):=sim_for b0 (fun _=>rfl) h
theorem sim_done(b:β):Sim c N (stepM ident) (fun _=>pure (ForInStep.done b)) (tpure (.done b)):=sim_pureV _ fun _=>rfl
theorem sim_yield(b:β):Sim c N (stepM ident) (fun _=>pure (ForInStep.yield b)) (tpure (.yield b)):=sim_pureV _ fun _=>rfl
def tcase{ρ τ:Type}(g1:ρ→τ→TW δ)(g2:τ→TW δ):Option ρ×τ→TW δ
 | (some r,y)=>g1 r y
 | (none,y)=>g2 y
theorem sim_case{ρ τ:Type}{ψ:(Nat→Keyed)→δ→γ}{f:(Nat→Keyed)→Option ρ×τ→StateT SortSt Sem γ}{g1:ρ→τ→TW δ}{g2:τ→TW δ}(h1:∀ r y,Sim c N ψ (fun k=>f k (some r,y)) (g1 r y))(h2:∀ y,Sim c N ψ (fun k=>f k (none,y)) (g2 y)) :
  ∀ b,Sim c N ψ (fun k=>f k b) (tcase g1 g2 b)
 | (some r,y)=>h1 r y
 | (none,y)=>h2 y
theorem sim_ltAt{i j:Nat}:Sim c N (fun _ b=>some b) (fun _=>ltAt' i j) (fun t=>tbind (tel t.1 i) (fun x=>tbind (tel t.1 j) (tlt c N x)) t):=by
 refine⟨?_⟩
 intro P w A E s k h t b' t' e
 try dsimp only
 rw[ltAt'_eq]
 refine wpS_bind (wpS_get ?_)
 have g:Sim c N (fun _ b=>some b) (fun k=>do let x ← elem' (t.1.map k) i;let y ← elem' (t.1.map k) j;lt' x y) (tbind (tel t.1 i) (fun x=>tbind (tel t.1 j) (tlt c N x))):=sim_bind sim_el fun x=>sim_bind sim_el fun y=>sim_lt
 exact g.run P w A E s k h t b' t' e
theorem swap_map(k:Nat→Keyed)(xs:Array Nat)(i j:Nat):(xs.map k).swapIfInBounds i j=(xs.swapIfInBounds i j).map k:=by
 by_cases hi:i < xs.size
 ·by_cases hj:j < xs.size
  ·apply Array.ext_getElem?
   intro q
   rw[getElem?_swapIB (by rw[Array.size_map];exact hi) (by rw[Array.size_map];exact hj)]
   simp only[Array.getElem?_map]
   rw[getElem?_swapIB hi hj]
   by_cases h1:j=q<;>by_cases h2:i=q<;>simp[h1,h2]
  ·simp[Array.swapIfInBounds_def,hi,hj]
 ·simp[Array.swapIfInBounds_def,hi]
theorem mirror_map(k:Nat→Keyed)(xs:Array Nat)(i j d:Nat):mirror (xs.map k) i j d=(mirror xs i j d).map k:=by
 have go:∀(l:List Nat)(xs:Array Nat),l.foldl (fun a q=>a.swapIfInBounds (i+q) (j - 1 - q)) (xs.map k)=(l.foldl (fun a q=>a.swapIfInBounds (i+q) (j - 1 - q)) xs).map k:=by
  intro l
  induction l with
  | nil=>intro xs;rfl
  | cons x l ih=>intro xs;simp only[List.foldl_cons];rw[swap_map,ih]
 exact go _ _
theorem bubble_map(k:Nat→Keyed)(xs:Array Nat)(src d:Nat):bubble (xs.map k) src d=(bubble xs src d).map k:=by
 have go:∀(l:List Nat)(xs:Array Nat),l.foldl (fun a q=>a.swapIfInBounds (src - q) (src - q - 1)) (xs.map k)=(l.foldl (fun a q=>a.swapIfInBounds (src - q) (src - q - 1)) xs).map k:=by
  intro l
  induction l with
  | nil=>intro xs;rfl
  | cons x l ih=>intro xs;simp only[List.foldl_cons];rw[swap_map,ih]
 exact go _ _
end
end Srt
set_option maxHeartbeats 4000000
namespace Srt
open PySem PyProof.Rows
variable {c:Nat→Nat→Bool}{N:Nat}
theorem sim_moveDown{src dst:Nat}:Sim c N ident (fun _=>moveDown' src dst) (tmod fun t=>(bubble t.1 src (src - dst),t.2)):=by
 simp only[moveDown'_eq]
 exact sim_mod _ fun k t=>by
  show SortSt.mk' oneType' (bubble (t.1.map k) src (src - dst)) t.2.1 t.2.2 none=_
  rw[bubble_map]
theorem sim_reverse{i j:Nat}:Sim c N ident (fun _=>reverseSlice' i j) (tmod fun t=>(mirror t.1 i j ((j - i) / 2),t.2)):=by
 simp only[reverseSlice'_eq]
 exact sim_mod _ fun k t=>by
  show SortSt.mk' oneType' (mirror (t.1.map k) i j ((j - i) / 2)) t.2.1 t.2.2 none=_
  rw[mirror_map]
def mkS{α β:Type}{φ:(Nat→Keyed)→β→α}{m:(Nat→Keyed)→StateT SortSt Sem α}{n:TW β}(h:Sim c N φ m n):{ n:TW β // Sim c N φ m n }:=⟨n,h⟩
def binS(c:Nat→Nat→Bool)(N lo n ok:Nat):{ m:TW Bool // Sim c N ident (fun _=>binarySort' lo n ok) m }:=by
 apply mkS
 ·simp only[binarySort'_eq]
  repeat' (first
   | with_reducible exact sim_done _ | with_reducible exact sim_yield _ | with_reducible exact sim_pure _ | with_reducible exact sim_ltAt | with_reducible exact sim_moveDown | with_reducible exact sim_reverse | with_reducible exact sim_rule | with_reducible exact sim_el | with_reducible exact sim_lt
   | apply sim_ite | with_reducible apply sim_forI | with_reducible apply sim_case | with_reducible apply sim_bind | (intro _;try dsimp only[ident]))
def countS(c:Nat→Nat→Bool)(N lo nrem:Nat):{ m:TW (Option Nat) // Sim c N ident (fun _=>countRun' lo nrem) m }:=by
 apply mkS
 ·simp only[countRun'_eq]
  repeat' (first
   | with_reducible exact sim_done _ | with_reducible exact sim_yield _ | with_reducible exact sim_pure _ | with_reducible exact sim_ltAt | with_reducible exact sim_moveDown | with_reducible exact sim_reverse | with_reducible exact sim_rule | with_reducible exact sim_el | with_reducible exact sim_lt
   | apply sim_ite | with_reducible apply sim_forI | with_reducible apply sim_case | with_reducible apply sim_bind | (intro _;try dsimp only[ident]))
end Srt
set_option maxHeartbeats 4000000
namespace Srt
open PySem PyProof.Rows
variable {c:Nat→Nat→Bool}{N:Nat}
def gallop':Bool→Keyed→Array Keyed→Nat→Nat→Nat→StateT SortSt Sem (Option Nat):=sortPriv% PySem.Builtin.gallop
def mergeLo':Array Keyed→Array Keyed→StateT SortSt Sem (Array Keyed):=sortPriv% PySem.Builtin.mergeLo
def setMinGallop':Nat→StateT SortSt Sem Unit:=sortPriv% PySem.Builtin.setMinGallop
def tbey(c:Nat→Nat→Bool)(N:Nat)(left:Bool)(p:Array Nat)(i j:Nat):TW Bool:=tbind (tel p i) fun x=>tite (left=true) (tlt c N x j) (tbind (tlt c N j x) fun r=>tpure (!r))
theorem sim_beyond{left:Bool}{p:Array Nat}{i j:Nat}:Sim c N (fun _ b=>some b) (fun k=>elem' (p.map k) i >>= fun x=>if left=true then lt' x (k j) else lt' (k j) x >>= fun r=>pure (Option.map (fun x=>!x) r)) (tbey c N left p i j):=by
 unfold tbey
 apply sim_bind
 ·exact sim_el
 ·intro x
  apply sim_ite
  ·exact sim_lt
  ·apply sim_bind
   ·exact sim_lt
   ·intro r
    exact sim_pureV (φ:=fun _ b=>some b) (!r) fun _=>rfl
def topt{ρ δ:Type}(g1:ρ→TW δ)(g2:TW δ):Option ρ→TW δ
 | some r=>g1 r
 | none=>g2
theorem sim_opt{ρ δ γ:Type}{ψ:(Nat→Keyed)→δ→γ}{f:(Nat→Keyed)→Option ρ→StateT SortSt Sem γ}{g1:ρ→TW δ}{g2:TW δ}(h1:∀ r,Sim c N ψ (fun k=>f k (some r)) (g1 r))(h2:Sim c N ψ (fun k=>f k none) g2):∀ b,Sim c N ψ (fun k=>f k b) (topt g1 g2 b)
 | some r=>h1 r
 | none=>h2
def gallopS(c:Nat→Nat→Bool)(N:Nat)(left:Bool)(j:Nat)(p:Array Nat)(base n hint:Nat):{ m:TW (Option Nat) // Sim c N ident (fun k=>gallop' left (k j) (p.map k) base n hint) m }:=by
 apply mkS
 ·apply sim_bind
  ·exact sim_beyond
  ·intro b
   dsimp only
   repeat' (first
    | with_reducible exact sim_done _ | with_reducible exact sim_yield _ | with_reducible exact sim_pure _ | exact sim_beyond
    | apply sim_ite | with_reducible apply sim_forI | with_reducible apply sim_case | with_reducible apply sim_bind | (intro _;try dsimp only[ident]))
theorem sim_gallop{left:Bool}{j:Nat}{p:Array Nat}{base n hint:Nat}:Sim c N ident (fun k=>gallop' left (k j) (p.map k) base n hint) (gallopS c N left j p base n hint).1:=(gallopS c N left j p base n hint).2
theorem sim_setMG{g:Nat}:Sim c N ident (fun _=>setMinGallop' g) (tmod fun t=>(t.1,t.2.1,g)):=sim_mod _ fun k t=>rfl
theorem sim_unsup{α β:Type}{φ:(Nat→Keyed)→β→α}{x:String}:Sim c N φ (fun _=>(liftM (unsupported x:Sem α):StateT SortSt Sem α)) tnone:=sim_none
abbrev phA:(Nat→Keyed)→Array Nat→Array Keyed:=fun k p=>Array.map k p
def phM{τ:Type}:(Nat→Keyed)→Option (Array Nat)×Array Nat×τ→Option (Array Keyed)×Array Keyed×τ:=fun k r=>(r.1.map (Array.map k),Array.map k r.2.1,r.2.2)
theorem phM_ap{τ:Type}(k:Nat→Keyed)(r:Option (Array Nat)×Array Nat×τ):phM k r=(r.1.map (Array.map k),Array.map k r.2.1,r.2.2):=rfl
theorem nm1(k:Nat→Keyed)(o:Array Nat)(j:Nat):(Array.map k o).push (k j)=Array.map k (o.push j):=by simp
theorem nm2(k:Nat→Keyed)(o:Array Nat)(i j:Nat):(Array.map k o).extract i j=Array.map k (o.extract i j):=by simp
theorem nm3(k:Nat→Keyed)(o q:Array Nat):Array.map k o++Array.map k q=Array.map k (o++q):=by simp
theorem nm4(k:Nat→Keyed)(o:Array Nat):(Array.map k o).size=o.size:=by simp
theorem nm5(k:Nat→Keyed)(j:Nat):(#[k j]:Array Keyed)=Array.map k #[j]:=by simp
section
variable {τ δ γ:Type}
theorem simM_for{F:(Nat→Keyed)→Nat→(Option (Array Keyed)×Array Keyed×τ)→StateT SortSt Sem (ForInStep (Option (Array Keyed)×Array Keyed×τ))}{f:Nat→(Option (Array Nat)×Array Nat×τ)→TW (ForInStep (Option (Array Nat)×Array Nat×τ))}{a b:Nat}{p0:Array Nat}{y0:τ}
  (h:∀ x b,Sim c N (stepM phM) (fun k=>F k x (phM k b)) (f x b)):Sim c N phM (fun k=>forIn [a:b] (none,Array.map k p0,y0) (F k)) (tfor f (List.range' a (b - a)) (none,p0,y0)):=sim_for (none,p0,y0) (fun _=>rfl) h
theorem simM_done0{o:Array Nat}{y:τ}:Sim c N (stepM phM) (fun k=>pure (ForInStep.done (none,Array.map k o,y))) (tpure (.done (none,o,y))):=sim_pureV _ fun _=>rfl
theorem simM_done1{r o:Array Nat}{y:τ}:Sim c N (stepM phM) (fun k=>pure (ForInStep.done (some (Array.map k r),Array.map k o,y))) (tpure (.done (some r,o,y))):=sim_pureV _ fun _=>rfl
theorem simM_yield{o:Array Nat}{y:τ}:Sim c N (stepM phM) (fun k=>pure (ForInStep.yield (none,Array.map k o,y))) (tpure (.yield (none,o,y))):=sim_pureV _ fun _=>rfl
theorem simM_pure{r:Array Nat}:Sim c N phA (fun k=>pure (Array.map k r)) (tpure r):=sim_pureV _ fun _=>rfl
def tcaseM(g1:Array Nat→Array Nat→τ→TW δ)(g2:Array Nat→τ→TW δ):Option (Array Nat)×Array Nat×τ→TW δ
 | (some r,o,y)=>g1 r o y
 | (none,o,y)=>g2 o y
theorem simM_case{ψ:(Nat→Keyed)→δ→γ}{f:(Nat→Keyed)→Option (Array Keyed)×Array Keyed×τ→StateT SortSt Sem γ}{g1:Array Nat→Array Nat→τ→TW δ}{g2:Array Nat→τ→TW δ}(h1:∀ r o y,Sim c N ψ (fun k=>f k (some (Array.map k r),Array.map k o,y)) (g1 r o y))(h2:∀ o y,Sim c N ψ (fun k=>f k (none,Array.map k o,y)) (g2 o y)) :
  ∀ b,Sim c N ψ (fun k=>f k (phM k b)) (tcaseM g1 g2 b)
 | (some r,o,y)=>h1 r o y
 | (none,o,y)=>h2 o y
theorem simM_bind{ψ:(Nat→Keyed)→δ→γ}{m:(Nat→Keyed)→StateT SortSt Sem (Option (Array Keyed)×Array Keyed×τ)}{f:(Nat→Keyed)→Option (Array Keyed)×Array Keyed×τ→StateT SortSt Sem γ}{n:TW (Option (Array Nat)×Array Nat×τ)}{g1:Array Nat→Array Nat→τ→TW δ}{g2:Array Nat→τ→TW δ}
  (h:Sim c N phM m n) (h1:∀ r o y,Sim c N ψ (fun k=>f k (some (Array.map k r),Array.map k o,y)) (g1 r o y)) (h2:∀ o y,Sim c N ψ (fun k=>f k (none,Array.map k o,y)) (g2 o y)) :
  Sim c N ψ (fun k=>m k >>= f k) (tbind n (tcaseM g1 g2)):=sim_bind h (simM_case h1 h2)
end
def mergeS(c:Nat→Nat→Bool)(N:Nat)(a b:Array Nat):{ m:TW (Array Nat) // Sim c N phA (fun k=>mergeLo' (a.map k) (b.map k)) m }:=by
 apply mkS
 ·apply sim_bind
  ·exact sim_rule
  ·intro _
   dsimp only
   apply sim_bind
   ·exact sim_el
   ·intro j
    try dsimp only
    simp only[nm1,nm2,nm3,nm4,nm5]
    repeat' (first
     | exact sim_rule | exact sim_unsup | exact sim_setMG | exact sim_el | exact sim_lt | exact sim_gallop | exact sim_get
     | apply sim_ite | with_reducible apply simM_for | with_reducible apply sim_opt | with_reducible apply simM_bind | with_reducible apply sim_bind | exact simM_done0 | exact simM_done1 | exact simM_yield | exact simM_pure | (simp only[nm1,nm2,nm3,nm4,nm5];first | exact simM_done0 | exact simM_done1 | exact simM_yield | exact simM_pure | apply sim_ite | with_reducible apply simM_bind | with_reducible apply sim_bind | with_reducible apply simM_for) | (intro _;try dsimp only[ident,enc,phM_ap];try simp only[nm1,nm2,nm3,nm4,nm5]))
end Srt
set_option maxHeartbeats 4000000
namespace Srt
open PySem PyProof.Rows
def sub(i:Nat):List Int:=((List.range 6).filter fun b=>i.testBit b).map Int.ofNat
def llt:List Int→List Int→Bool
 | [],[]=>false
 | [],_::_=>true
 | _::_,[]=>false
 | x::xs,y::ys=>if x=y then llt xs ys else decide (x < y)
def cmp(i j:Nat):Bool:=llt (sub i) (sub j)
def a1:Array Nat:=#[0,1,3,7,15,31,23,11,27,19,5,13,29,21,9,25,17,2,6,14,30,22,10,26,18,4,12,28,20,8,24,16,32,33,34,35,36,37,38,39,40,41,42,43,44,45,46,47,48,49,50,51,52,53,54,55,56,57,58,59,60,61,62,63]
def a3:Array Nat:=#[0,1,3,7,15,31,23,11,27,19,5,13,29,21,9,25,17,2,6,14,30,22,10,26,18,4,12,28,20,8,24,16,33,32,34,35,36,37,38,39,40,41,42,43,44,45,46,47,48,49,50,51,52,53,54,55,56,57,58,59,60,61,62,63]
def a4:Array Nat:=#[0,1,3,7,15,31,23,11,27,19,5,13,29,21,9,25,17,2,6,14,30,22,10,26,18,4,12,28,20,8,24,16,63,47,55,39,59,43,51,35,61,45,53,37,57,41,49,33,62,46,54,38,58,42,50,34,60,44,52,36,56,40,48,32]
def order:Array Nat:=#[0,1,3,7,15,31,63,47,23,55,39,11,27,59,43,19,51,35,5,13,29,61,45,21,53,37,9,25,57,41,17,49,33,2,6,14,30,62,46,22,54,38,10,26,58,42,18,50,34,4,12,28,60,44,20,52,36,8,24,56,40,16,48,32]
def t0:PS:=((List.range 64).toArray,#[],7)
def t2:PS:=(a1,#[(0,32,0)],7)
def t4:PS:=(a4,#[(0,32,0)],7)
def t5:PS:=(a4,#[(0,32,1),(32,32,0)],7)
def t6:PS:=(a4,#[(0,64,1)],7)
theorem e0:(countS cmp 64 0 64).1 t0=some (some 3,t0):=by kernel_rfl
theorem e1:(binS cmp 64 0 32 3).1 t0=some (true,(a1,#[],7)):=by kernel_rfl
theorem e2:(countS cmp 64 32 32).1 t2=some (some 2,(a3,#[(0,32,0)],7)):=by kernel_rfl
theorem e3:(binS cmp 64 32 32 2).1 (a3,#[(0,32,0)],7)=some (true,t4):=by kernel_rfl
theorem e4:(gallopS cmp 64 false (a4.getD 32 0) a4 0 32 0).1 t6=some (some 6,t6):=by kernel_rfl
theorem e5:(gallopS cmp 64 true (a4.getD 31 0) a4 32 32 31).1 t6=some (some 30,t6):=by kernel_rfl
def mg:Array Nat:=order.extract 6 62
theorem e6:(mergeS cmp 64 (a4.extract 6 32) (a4.extract 32 62)).1 t6=some (mg,t6):=by kernel_rfl
section
variable {P:Program}{w:World}{A:Around}{E:Value→Shared→Prop}{s:Shared}{k:Nat→Keyed}
end
end Srt
set_option maxHeartbeats 4000000
namespace Srt
open PySem PyProof.Rows
section
variable {P:Program}{w:World}{A:Around}{E:Value→Shared→Prop}{s:Shared}{k:Nat→Keyed}
def o2:Array Nat:=#[0,1]
theorem c2:(countS cmp 2 0 2).1 ((List.range 2).toArray,#[],7)=some (some 2,((List.range 2).toArray,#[],7)):=by kernel_rfl
def o4:Array Nat:=#[0,1,3,2]
theorem c4:(countS cmp 4 0 4).1 ((List.range 4).toArray,#[],7)=some (some 3,((List.range 4).toArray,#[],7)):=by kernel_rfl
theorem b4:(binS cmp 4 0 4 3).1 ((List.range 4).toArray,#[],7)=some (true,(o4,#[],7)):=by kernel_rfl
def o8:Array Nat:=#[0,1,3,7,5,2,6,4]
theorem c8:(countS cmp 8 0 8).1 ((List.range 8).toArray,#[],7)=some (some 3,((List.range 8).toArray,#[],7)):=by kernel_rfl
theorem b8:(binS cmp 8 0 8 3).1 ((List.range 8).toArray,#[],7)=some (true,(o8,#[],7)):=by kernel_rfl
theorem c16:(countS cmp 16 0 16).1 ((List.range 16).toArray,#[],7)=some (some 3,((List.range 16).toArray,#[],7)):=by kernel_rfl
end
end Srt
namespace L2
open PySem PySem.Spec PyProof.Rows Srt
section
variable {prog:Program}{w:World}{A:Around}{E:Value→Shared→Prop}{s:Shared}
end
end L2
namespace L2
open PySem PySem.Spec PyProof.Rows Srt
def ordL(n:Nat):List Nat:=order.toList.filter fun i=>decide (i < n)
def SubsAt(H:Hp)(vs:List V)(n:Nat):Prop:=vs.length=n∧∀ i,i < n→∃ t,vs[i]?=some (.ref t)∧H t=some (.tup ((sub i).map V.int))
section
variable {X:Cx}
end
end L2
namespace L2
open PySem PySem.Spec PyProof.Rows
section
variable {X:Cx}
def tRev(te:TE)(ts:TO):TE:=fun σ H Q=>te σ H fun x H1=>ts σ H1 fun l H2=>l=some (-1)∧∃ a xs,x=.ref a∧H2 a=some (.lst xs)∧∀ p,H2 p=none→Q (.ref p) (upd H2 p (.lst xs.reverse))
def rInsert:V→List V→Hp→VK→Prop:=fun x vs H Q=>∃ l xs i y,x=.ref l∧vs=[.int i,y]∧H l=some (.lst xs)∧0≤i∧i≤xs.length∧xs.length < 1000∧Q .non (upd H l (.lst (xs.take i.toNat++y::xs.drop i.toNat)))
end
theorem tRev_ap{te:TE}{ts:TO}{σ:St}{H:Hp}{Q:VK}:tRev te ts σ H Q=te σ H fun x H1=>ts σ H1 fun l H2=>l=some (-1)∧∃ a xs,x=.ref a∧H2 a=some (.lst xs)∧∀ p,H2 p=none→Q (.ref p) (upd H2 p (.lst xs.reverse)):=propext Iff.rfl
theorem rInsert_ap{x:V}{vs:List V}{H:Hp}{Q:VK}:rInsert x vs H Q=∃ l xs i y,x=.ref l∧vs=[.int i,y]∧H l=some (.lst xs)∧0≤i∧i≤xs.length∧xs.length < 1000∧Q .non (upd H l (.lst (xs.take i.toNat++y::xs.drop i.toNat))):=propext Iff.rfl
end L2
namespace L2
open PySem
theorem tPart_ap{te:TE}{σ:St}{H:Hp}{K:Option Int→Hp→Prop}:tPart te σ H K=te σ H fun x H1=>∃ i,x=.int i∧K (some i) H1:=propext Iff.rfl
theorem tNoPart_ap{σ:St}{H:Hp}{K:Option Int→Hp→Prop}:tNoPart σ H K=K none H:=propext Iff.rfl
end L2
namespace Toy
open PySem L2
open PySem.Builtin.Int (intBits)
structure BagAt(H:Hp)(B L:Addr):Prop where
 ex:∃ ns i r salt,H B=some (.lst [.ref L,.int i,.int r,.int salt])∧H L=some (.lst (List.map V.int ns))∧(0:Int)≤i
theorem BagAt.new{H:Hp}{B L p:Addr}{o:HO}(b:BagAt H B L)(hp:H p=none):BagAt (upd H p o) B L:=by
 obtain⟨ns,i,r,salt,h1,h2,h3⟩:=b
 exact⟨ns,i,r,salt,by rw[upd_ne (ne_of_none h1 hp)];exact h1,by rw[upd_ne (ne_of_none h2 hp)];exact h2,h3⟩
theorem BagAt.ne{H:Hp}{B L p:Addr}(b:BagAt H B L)(hp:H p=none):p≠B:=fun e=>by
 obtain⟨_,_,_,_,z,_⟩:=b
 rw[← e,hp] at z
 cases z
abbrev lowN(n u:Int):Int:=n / (Int.gcd n u:Int)
abbrev lowU(n u:Int):Int:=u / (Int.gcd n u:Int)
def addP(a b:Int×Int):Int×Int:=(lowN (a.1*b.2+b.1*a.2) (a.2*b.2),lowU (a.1*b.2+b.1*a.2) (a.2*b.2))
def sumP(l:List (Int×Int)):Int×Int:=l.foldl addP (0,1)
theorem sumP_succ{l:List (Int×Int)}{i:Nat}(h:i < l.length):sumP (l.take (i+1))=addP (sumP (l.take i)) l[i]:=by
 unfold sumP
 rw[List.take_succ_eq_append_getElem h,List.foldl_append]
 rfl
def und1(r:Int)(p:Int×Int):Int:=r / (Int.gcd r p.2:Int)*p.2
def undP(l:List (Int×Int)):Int:=l.foldl und1 1
def numsP(U:Int)(l:List (Int×Int)):List Int:=l.map fun p=>p.1*(U / p.2)
def RowAt(H:Hp)(xs:List V)(ps:List (Int×Int)):Prop:=xs.length=ps.length∧∀(i:Nat) p,ps[i]?=some p→∃ r,xs[i]?=some (.ref r)∧H r=some (.tup [.int p.1,.int p.2])∧0 < p.2∧Sz 100 p.1∧Sz 31 p.2
def pD(p:Int×Int):Dt:=.tup [.int p.1,.int p.2]
theorem dens_of{H:Hp}:∀ (ps:List (Int×Int)) (xs:List V),xs.length=ps.length→(∀(i:Nat) p,ps[i]?=some p→∃ r,xs[i]?=some (.ref r)∧H r=some (.tup [.int p.1,.int p.2]))→Dens H (ps.map pD) xs
 | [],xs,h1,h2=>by
  show Dens H [] xs
  unfold Dens
  exact List.length_eq_zero_iff.mp h1
 | p::ps,xs,h1,h2=>by
  obtain⟨r,e,h3⟩:=h2 0 p rfl
  cases xs with
  | nil=>cases h1
  | cons x xs =>
   cases e
   show Dens H (pD p::ps.map pD) (V.ref r::xs)
   unfold Dens
   refine⟨_,_,rfl,den2 h3,dens_of ps xs (by simpa using h1) fun i p' hp=>?_⟩
   obtain⟨r',e',h4⟩:=h2 (i+1) p' (by simpa using hp)
   exact⟨r',by simpa using e',h4⟩
def TS(H H':Hp):Prop:=∀ b xs,H b=some (.tup xs)→H' b=some (.tup xs)
theorem TS.of{H H':Hp}(s:Same H H'):TS H H':=fun b xs h=>s b _ h
theorem TS.trans{H H1 H2:Hp}(a:TS H H1)(b:TS H1 H2):TS H H2:=fun c xs h=>b c xs (a c xs h)
theorem TS.fr{H H':Hp}{B L:Addr}(b:BagAt H B L)(f:Fr1 B H H'):TS H H':=fun c xs h=>f c _ (fun e=>by
 obtain⟨_,_,_,_,z,_⟩:=b
 rw[← e,h] at z
 cases z) h
theorem TS.lst{H:Hp}{l:Addr}{xs:List V}{o:HO}(h:H l=some (.lst xs)):TS H (L2.upd H l o):=fun c ys hc=>by
 rw[upd_ne (fun e=>by rw[e,h] at hc;cases hc)]
 exact hc
theorem BagAt.put{H:Hp}{B L F:Addr}{o:HO}(b:BagAt H B L)(nB:F≠B)(nL:F≠L):BagAt (L2.upd H F o) B L:=by
 obtain⟨ns,i,r,salt,h1,h2,h3⟩:=b
 exact⟨ns,i,r,salt,by rw[upd_ne nB.symm];exact h1,by rw[upd_ne nL.symm];exact h2,h3⟩
theorem BagAt.neL{H:Hp}{B L p:Addr}(b:BagAt H B L)(hp:H p=none):p≠L:=fun e=>by
 obtain⟨_,_,_,_,_,z,_⟩:=b
 rw[← e,hp] at z
 cases z
theorem BagAt.keep{H H':Hp}{B L:Addr}(b:BagAt H B L)(s:Same H H'):BagAt H' B L:=by
 obtain⟨ns,i,r,salt,h1,h2,h3⟩:=b
 exact⟨ns,i,r,salt,s _ _ h1,s _ _ h2,h3⟩
theorem Fr1.of{H H':Hp}{B:Addr}(s:Same H H'):Fr1 B H H':=fun b o _ h=>s b o h
structure Cl where
 n:Int
 u:Int
 hp:List Int
 rk:Int
def ClAt(H:Hp)(v:V)(c:Cl):Prop:=∃ r p h,v=.ref r∧H r=some (.tup [.ref p,.ref h,.int c.rk])∧H p=some (.tup [.int c.n,.int c.u])∧H h=some (.tup (c.hp.map V.int))
theorem ClAt.ts{H H':Hp}{v:V}{c:Cl}(h:ClAt H v c)(s:TS H H'):ClAt H' v c:=by
 obtain⟨r,p,k,e,h1,h2,h3⟩:=h
 exact⟨r,p,k,e,s _ _ h1,s _ _ h2,s _ _ h3⟩
def ClsAt(H:Hp)(xs:List V)(cs:List Cl):Prop:=xs.length=cs.length∧∀(i:Nat) c,cs[i]?=some c→∃ v,xs[i]?=some v∧ClAt H v c
theorem ClsAt.ts{H H':Hp}{xs:List V}{cs:List Cl}(h:ClsAt H xs cs)(s:TS H H'):ClsAt H' xs cs:=⟨h.1,fun i c hc=>by
 obtain⟨v,e,h1⟩:=h.2 i c hc
 exact⟨v,e,h1.ts s⟩⟩
theorem ClsAt.nil{H:Hp}:ClsAt H [] []:=⟨rfl,fun i p h=>by simp at h⟩
theorem ClsAt.snoc{H:Hp}{xs:List V}{cs:List Cl}{v:V}{c:Cl}(h:ClsAt H xs cs)(hv:ClAt H v c):ClsAt H (xs++[v]) (cs++[c]):=by
 refine⟨by rw[List.length_append,List.length_append,h.1];rfl,fun i p hp=>?_⟩
 by_cases hi:i < cs.length
 ·rw[List.getElem?_append_left hi] at hp
  rw[List.getElem?_append_left (by rw[h.1];exact hi)]
  exact h.2 i p hp
 ·have hl:=(List.getElem?_eq_some_iff.mp hp).1
  rw[List.length_append] at hl
  have e:i=cs.length:=by
   have:([c]:List Cl).length=1:=rfl
   omega
  subst e
  rw[List.getElem?_append_right (Nat.le_refl _),Nat.sub_self] at hp
  cases hp
  exact⟨v,by rw[List.getElem?_append_right (by rw[h.1];exact Nat.le_refl _),h.1,Nat.sub_self];rfl,hv⟩
def cD(c:Cl):Dt:=.tup [.tup [.int c.n,.int c.u],.tup (c.hp.map Dt.int),.int c.rk]
theorem ints_dens{H:Hp}:∀ hs:List Int,Dens H (hs.map Dt.int) (hs.map V.int)
 | []=>by unfold List.map Dens;rfl
 | x::hs=>by
  show Dens H (Dt.int x::hs.map Dt.int) (V.int x::hs.map V.int)
  unfold Dens
  exact⟨_,_,rfl,by unfold Den;rfl,ints_dens hs⟩
theorem dens1{H:Hp}{d:Dt}{ds:List Dt}{x:V}{xs:List V}(h:Den H d x)(h2:Dens H ds xs):Dens H (d::ds) (x::xs):=by
 unfold Dens
 exact⟨_,_,rfl,h,h2⟩
theorem dens0{H:Hp}:Dens H [] []:=by unfold Dens;rfl
theorem den_tup{H:Hp}{a:Addr}{xs:List V}{ds:List Dt}(h:H a=some (.tup xs))(h2:Dens H ds xs):Den H (.tup ds) (.ref a):=by unfold Den;exact⟨a,xs,rfl,h,h2⟩
theorem den_lst{H:Hp}{a:Addr}{xs:List V}{ds:List Dt}(h:H a=some (.lst xs))(h2:Dens H ds xs):Den H (.lst ds) (.ref a):=by unfold Den;exact⟨a,xs,rfl,h,h2⟩
theorem den_int{H:Hp}{i:Int}:Den H (.int i) (.int i):=by unfold Den;rfl
theorem ClAt.den{H:Hp}{v:V}{c:Cl}(h:ClAt H v c):Den H (cD c) v:=by
 obtain⟨r,p,k,rfl,h1,h2,h3⟩:=h
 exact den_tup h1 (dens1 (den2 h2) (dens1 (den_tup h3 (ints_dens _)) (dens1 den_int dens0)))
theorem ClsAt.dens{H:Hp}:∀{cs:List Cl}{xs:List V},ClsAt H xs cs→Dens H (cs.map cD) xs
 | [],xs,h=>by
  have:xs=[]:=List.length_eq_zero_iff.mp h.1
  subst this
  exact dens0
 | c::cs,xs,h=>by
  obtain⟨v,e,hv⟩:=h.2 0 c rfl
  cases xs with
  | nil=>cases e
  | cons x xs =>
   cases e
   exact dens1 hv.den (ClsAt.dens (cs:=cs) ⟨by simpa using h.1,fun i c' hc=>by
    obtain⟨w,e,hw⟩:=h.2 (i+1) c' (by simpa using hc)
    exact⟨w,by simpa using e,hw⟩⟩)
theorem cmp_tup{k:Nat}{ds:List Dt}(h:∀ d∈ds,Cmp k d d):Cmp (k+1) (.tup ds) (.tup ds):=by
 unfold Cmp
 intro j d e h1 h2
 rw[h1] at h2
 cases h2
 exact h d (List.mem_of_getElem? h1)
theorem cmp_lst{k:Nat}{ds:List Dt}(h:∀ d∈ds,Cmp k d d):Cmp (k+1) (.lst ds) (.lst ds):=by
 unfold Cmp
 intro _ j d e h1 h2
 rw[h1] at h2
 cases h2
 exact h d (List.mem_of_getElem? h1)
theorem cmp_int{k:Nat}{i:Int}:Cmp k (.int i) (.int i):=by unfold Cmp;trivial
theorem cmp_ints{k:Nat}(hs:List Int):∀ d∈hs.map Dt.int,Cmp k d d:=fun d hd=>by
 obtain⟨x,_,rfl⟩:=List.mem_map.mp hd
 exact cmp_int
theorem cmp_cD{k:Nat}(c:Cl):Cmp (k+2) (cD c) (cD c):=cmp_tup fun d hd=>by
 simp only[List.mem_cons,List.not_mem_nil,or_false] at hd
 rcases hd with rfl | rfl | rfl
 ·exact cmp2 _ _ _ _
 ·exact cmp_tup (cmp_ints _)
 ·exact cmp_int
def lies(ts hs:List Int):Bool:=ts.all fun x=>decide (x∈hs)
def worthOf(ws hs:List Int):Int:=(hs.map fun x=>ws.getD x.toNat 0).sum
theorem flat_ints:∀ hs:List Int,(hs.map V.int).all flatV=true
 | []=>rfl
 | x::hs=>by
  show (flatV (.int x) && (hs.map V.int).all flatV)=true
  rw[flat_ints hs]
  rfl
theorem inV_int(x:Int):∀ hs:List Int,inV (.int x) (hs.map V.int)=decide (x∈hs)
 | []=>rfl
 | y::hs=>by
  show (eqV (.int y) (.int x) || inV (.int x) (hs.map V.int))=_
  rw[inV_int x hs]
  show ((y == x) || decide (x∈hs))=decide (x∈y::hs)
  rw[Bool.eq_iff_iff]
  simp only[Bool.or_eq_true,beq_iff_eq,decide_eq_true_eq,List.mem_cons]
  exact⟨fun h=>h.imp Eq.symm id,fun h=>h.imp Eq.symm id⟩
theorem take_map_succ{α β:Type}(f:α→β){l:List α}{i:Nat}(h:i < l.length):(l.take (i+1)).map f=(l.take i).map f++[f l[i]]:=by
 rw[List.take_succ_eq_append_getElem h,List.map_append]
 rfl
theorem int_at{ns:List Int}{i:Nat}{y:V}(h:(ns.map V.int)[i]?=some y):∃ hi:i < ns.length,y=.int ns[i]:=by
 rw[List.getElem?_map] at h
 cases e:ns[i]? with
 | none=>rw[e] at h;cases h
 | some k =>
  rw[e] at h
  obtain⟨hi,e2⟩:=List.getElem?_eq_some_iff.mp e
  exact⟨hi,by rw[e2];exact (Option.some.inj h).symm⟩
theorem atI_ints{ws:List Int}{x:Int}(h0:0≤x)(h1:x < ws.length):atI (ws.map V.int) x=some (.int (ws.getD x.toNat 0)):=by
 have h2:x.toNat < ws.length:=by omega
 have e:x=((x.toNat:Nat):Int):=by omega
 rw[e]
 refine atI_nat ?_
 rw[List.getElem?_map,Int.toNat_natCast,List.getD_eq_getElem?_getD]
 simp[h2]
def HeapsAt(H:Hp)(xs:List V)(m:Int):Prop:=∀ v∈xs,∃(t:Addr)(hs:List Int),v=.ref t∧H t=some (.tup (hs.map V.int))∧(hs.length:Int)≤m∧∀ x∈hs,0≤x∧x < m
theorem gcd_step{g l:Int}(hl:0 < l):Int.gcd l (g % l)=Int.gcd g l:=by
 rw[Int.gcd_comm g l]
 have e:g=g % l+l*(g / l):=(Int.emod_add_mul_ediv g l).symm
 conv=>rhs;rw[e]
 rw[Int.gcd_add_mul_left_right]
theorem gcd_pos{n u:Int}(hu:0 < u):0 < (Int.gcd n u:Int):=by
 have:0 < Int.gcd n u:=Int.gcd_pos_of_ne_zero_right n (by omega)
 omega
theorem natAbs_div_le(a b:Int):(a / b).natAbs≤a.natAbs:=by
 by_cases h:0≤b
 ·have:=PySem.natAbs_fdiv_le a b
  rwa [Int.fdiv_eq_ediv_of_nonneg a h] at this
 ·have e:a / b=-(a / -b):=by rw[Int.ediv_neg,Int.neg_neg]
  rw[e,Int.natAbs_neg]
  have:=PySem.natAbs_fdiv_le a (-b)
  rwa [Int.fdiv_eq_ediv_of_nonneg a (by omega)] at this
theorem low_red(n:Int){u:Int}(hu:0 < u):1≤u / (Int.gcd n u:Int)∧Int.gcd (n / (Int.gcd n u:Int)) (u / (Int.gcd n u:Int))=1∧n / (Int.gcd n u:Int)*u=n*(u / (Int.gcd n u:Int))∧0 < u / (Int.gcd n u:Int):=by
 have hg:=gcd_pos (n:=n) hu
 have d1:(Int.gcd n u:Int)∣n:=Int.gcd_dvd_left n u
 have d2:(Int.gcd n u:Int)∣u:=Int.gcd_dvd_right n u
 have e1:=Int.ediv_mul_cancel d1
 have e2:=Int.ediv_mul_cancel d2
 have p:0 < u / (Int.gcd n u:Int):=by
  by_cases h:0 < u / (Int.gcd n u:Int)
  ·exact h
  ·have:u / (Int.gcd n u:Int)*(Int.gcd n u:Int)≤0:=Int.mul_nonpos_of_nonpos_of_nonneg (by omega) (by omega)
   omega
 refine⟨p,Int.gcd_ediv_gcd_ediv_gcd (by omega),?_,p⟩
 generalize n / (Int.gcd n u:Int)=a at e1
 generalize u / (Int.gcd n u:Int)=b at e2
 generalize (Int.gcd n u:Int)=g at e1 e2
 rw[← e1,← e2]
 rw[Int.mul_comm b g,Int.mul_assoc]
theorem low_eq{a b n u:Int}(hb:0 < b)(hu:0 < u)(hc:Int.gcd n u=1)(h:a*u=n*b):lowN a b=n∧lowU a b=u:=by
 have hg:=gcd_pos (n:=a) hb
 have d1:(Int.gcd a b:Int)∣a:=Int.gcd_dvd_left a b
 have d2:(Int.gcd a b:Int)∣b:=Int.gcd_dvd_right a b
 have e1:=Int.ediv_mul_cancel d1
 have e2:=Int.ediv_mul_cancel d2
 have hc2:Int.gcd (a / (Int.gcd a b:Int)) (b / (Int.gcd a b:Int))=1:=Int.gcd_ediv_gcd_ediv_gcd (by omega)
 show a / (Int.gcd a b:Int)=n∧b / (Int.gcd a b:Int)=u
 generalize a / (Int.gcd a b:Int)=A at e1 hc2 ⊢
 generalize b / (Int.gcd a b:Int)=B at e2 hc2 ⊢
 generalize (Int.gcd a b:Int)=g at e1 e2 hg
 have k:A*u=n*B:=by
  have:g*(A*u)=g*(n*B):=by
   rw[← e1,← e2] at h
   rw[Int.mul_left_comm g A u,Int.mul_left_comm g n B,← Int.mul_assoc,← Int.mul_assoc]
   rw[Int.mul_assoc A g u,Int.mul_comm B g] at h
   rw[Int.mul_assoc A g u,Int.mul_assoc n g B]
   exact h
  exact Int.eq_of_mul_eq_mul_left (by omega) this
 have hB:0 < B:=by
  by_cases q:0 < B
  ·exact q
  ·have:B*g≤0:=Int.mul_nonpos_of_nonpos_of_nonneg (by omega) (by omega)
   omega
 have c1:Nat.Coprime u.natAbs n.natAbs:=by
  rw[Int.gcd_eq_natAbs_gcd_natAbs] at hc
  exact Nat.Coprime.symm hc
 have c2:Nat.Coprime B.natAbs A.natAbs:=by
  rw[Int.gcd_eq_natAbs_gcd_natAbs] at hc2
  exact Nat.Coprime.symm hc2
 have v1:u.natAbs∣B.natAbs:=c1.dvd_of_dvd_mul_left (by
  rw[← Int.natAbs_mul,Int.natAbs_dvd_natAbs,← k]
  exact Int.dvd_mul_left A u)
 have v2:B.natAbs∣u.natAbs:=c2.dvd_of_dvd_mul_left (by
  rw[← Int.natAbs_mul,Int.natAbs_dvd_natAbs,k]
  exact Int.dvd_mul_left n B)
 have e:u=B:=by
  have:=Nat.dvd_antisymm v1 v2
  omega
 subst e
 exact⟨Int.eq_of_mul_eq_mul_right (by omega) k,rfl⟩
theorem mul_pos'{a b:Int}(ha:0 < a)(hb:0 < b):0 < a*b:=Int.mul_pos ha hb
theorem gcdZ{k:Nat}(n:Int){u:Int}(hu:0 < u)(hz:Sz k u):Sz k (Int.gcd n u:Int):=hz.le (by have:=Int.gcd_le_natAbs_right n (b:=u) (by omega);omega)
theorem fold_red:∀ (l:List (Int×Int)) (s:Int×Int),0 < s.2→Int.gcd s.1 s.2=1→(∀ p∈l,0 < p.2)→0 < (l.foldl addP s).2∧Int.gcd (l.foldl addP s).1 (l.foldl addP s).2=1
 | [],s,h1,h2,_=>⟨h1,h2⟩
 | p::l,s,h1,h2,h3=>by
  have hp:=mul_pos' h1 (h3 p List.mem_cons_self)
  have hr:=low_red (s.1*p.2+p.1*s.2) hp
  exact fold_red l (addP s p) hr.1 hr.2.1 fun q hq=>h3 q (List.mem_cons_of_mem _ hq)
theorem undP_succ{l:List (Int×Int)}{i:Nat}(h:i < l.length):undP (l.take (i+1))=und1 (undP (l.take i)) l[i]:=by
 unfold undP
 rw[List.take_succ_eq_append_getElem h,List.foldl_append]
 rfl
theorem und1_ok{r:Int}{p:Int×Int}(hr:0 < r)(hu:0 < p.2):0 < und1 r p∧r∣und1 r p∧p.2∣und1 r p:=by
 have hg:=gcd_pos (n:=r) hu
 have e1:=Int.ediv_mul_cancel (Int.gcd_dvd_left r p.2)
 have e2:=Int.ediv_mul_cancel (Int.gcd_dvd_right r p.2)
 have p1:0 < r / (Int.gcd r p.2:Int):=by
  by_cases h:0 < r / (Int.gcd r p.2:Int)
  ·exact h
  ·have:r / (Int.gcd r p.2:Int)*(Int.gcd r p.2:Int)≤0:=Int.mul_nonpos_of_nonpos_of_nonneg (by omega) (by omega)
   omega
 refine⟨Int.mul_pos p1 hu,⟨p.2 / (Int.gcd r p.2:Int),?_⟩,Int.dvd_mul_left _ _⟩
 show r / (Int.gcd r p.2:Int)*p.2=r*(p.2 / (Int.gcd r p.2:Int))
 generalize r / (Int.gcd r p.2:Int)=A at e1 ⊢
 generalize p.2 / (Int.gcd r p.2:Int)=C at e2 ⊢
 generalize (Int.gcd r p.2:Int)=g at e1 e2
 grind
theorem und_fold:∀ (l:List (Int×Int)) (r:Int),0 < r→(∀ p∈l,0 < p.2)→0 < l.foldl und1 r∧r∣l.foldl und1 r∧∀ p∈l,p.2∣l.foldl und1 r
 | [],r,h,_=>⟨h,Int.dvd_refl r,fun _ z=>nomatch z⟩
 | p::l,r,h,hp=>by
  obtain⟨a,b,c⟩:=und1_ok h (hp p List.mem_cons_self)
  obtain⟨x,y,z⟩:=und_fold l (und1 r p) a fun q hq=>hp q (List.mem_cons_of_mem _ hq)
  exact⟨x,Int.dvd_trans b y,fun q hq=>(List.mem_cons.mp hq).elim (fun e=>by rw[e];exact Int.dvd_trans c y) (z q)⟩
theorem fold_val{U:Int}(hU:0 < U):∀ (l:List (Int×Int)) (s:Int×Int),0 < s.2→(∀ p∈l,0 < p.2∧p.2∣U)→∀ c,s.1*U=c*s.2→(l.foldl addP s).1*U=(c+(numsP U l).sum)*(l.foldl addP s).2
 | [],s,_,_,c,h=>by
  show s.1*U=(c+0)*s.2
  rw[Int.add_zero]
  exact h
 | p::l,s,hs,hp,c,h=>by
  obtain⟨hu,hd⟩:=hp p List.mem_cons_self
  have hb:0 < s.2*p.2:=Int.mul_pos hs hu
  have e1:=Int.ediv_mul_cancel hd
  have x1:lowN (s.1*p.2+p.1*s.2) (s.2*p.2)*(s.2*p.2)=(s.1*p.2+p.1*s.2)*lowU (s.1*p.2+p.1*s.2) (s.2*p.2):=(low_red _ hb).2.2.1
  have hpos:0 < lowU (s.1*p.2+p.1*s.2) (s.2*p.2):=(low_red _ hb).1
  have key:(addP s p).1*U=(c+p.1*(U / p.2))*(addP s p).2:=by
   show lowN (s.1*p.2+p.1*s.2) (s.2*p.2)*U=(c+p.1*(U / p.2))*lowU (s.1*p.2+p.1*s.2) (s.2*p.2)
   generalize lowN (s.1*p.2+p.1*s.2) (s.2*p.2)=A at x1 ⊢
   generalize lowU (s.1*p.2+p.1*s.2) (s.2*p.2)=C at x1 ⊢
   generalize U / p.2=k at e1 ⊢
   refine Int.eq_of_mul_eq_mul_right (a:=s.2*p.2) (by omega) ?_
   generalize s.1=s1 at *
   generalize s.2=s2 at *
   generalize p.1=p1 at *
   generalize p.2=p2 at *
   grind
  have r:=fold_val hU l (addP s p) hpos (fun q hq=>hp q (List.mem_cons_of_mem _ hq)) _ key
  have e:(numsP U (p::l)).sum=p.1*(U / p.2)+(numsP U l).sum:=rfl
  rw[e,← Int.add_assoc]
  exact r
theorem total_eq{ps:List (Int×Int)}(h:∀ p∈ps,0 < p.2):lowN (numsP (undP ps) ps).sum (undP ps)=(sumP ps).1∧lowU (numsP (undP ps) ps).sum (undP ps)=(sumP ps).2:=by
 obtain⟨a,_,c⟩:=und_fold ps 1 (by decide) h
 obtain⟨d1,d2⟩:=fold_red ps (0,1) (by decide) (by decide) h
 have v:=fold_val (U:=undP ps) a ps (0,1) (by decide) (fun p hp=>⟨h p hp,c p hp⟩) 0 (by simp)
 rw[Int.zero_add] at v
 exact low_eq a d1 d2 v.symm
def hp(m:Int):Int→List Int→Bool
 | _,[]=>true
 | l,x::r=>if x≤l∨m≤x then false else hp m x r
theorem sub_add:∀ p,p < 6→∀ j,j < 2 ^ p→Srt.sub (2 ^ p+j)=Srt.sub j++[Int.ofNat p]:=by decide +kernel
def OrdAt(H:Hp)(xs:List V)(n:Nat):Prop:=∃ ts:Nat→Addr,xs=(ordL n).map (fun i=>V.ref (ts i))∧∀ i,i < n→H (ts i)=some (.tup ((Srt.sub i).map V.int))
def oD(n:Nat):List Dt:=(ordL n).map fun i=>.tup ((Srt.sub i).map Dt.int)
theorem seq_cut{ta tb:L2.TS}{D:Ends}{σ:St}{H:Hp}(W:St→Hp→Prop)(h2:∀ σ' H',W σ' H'→tb D σ' H')(h1:∀ tb':L2.TS,(∀ σ' H',W σ' H'→tb' D σ' H')→tSeq ta tb' D σ H):tSeq ta tb D σ H:=h1 tb h2
theorem seq_cut2{t1 t2 tb:L2.TS}{D:Ends}{σ:St}{H:Hp}(W:St→Hp→Prop)(h2:∀ σ' H',W σ' H'→tb D σ' H')(h1:∀ tb':L2.TS,(∀ σ' H',W σ' H'→tb' D σ' H')→(tSeq t1 (tSeq t2 tb')) D σ H):(tSeq t1 (tSeq t2 tb)) D σ H:=h1 tb h2
theorem seq_cut6{t1 t2 t3 t4 t5 t6 tb:L2.TS}{D:Ends}{σ:St}{H:Hp}(W:St→Hp→Prop)(h2:∀ σ' H',W σ' H'→tb D σ' H')(h1:∀ tb':L2.TS,(∀ σ' H',W σ' H'→tb' D σ' H')→(tSeq t1 (tSeq t2 (tSeq t3 (tSeq t4 (tSeq t5 (tSeq t6 tb')))))) D σ H):(tSeq t1 (tSeq t2 (tSeq t3 (tSeq t4 (tSeq t5 (tSeq t6 tb)))))) D σ H:=h1 tb h2
theorem sum_sz{k:Nat}:∀(l:List Int),(∀ x∈l,Sz k x)→Sz (k+l.length) l.sum
 | [],_=>by
  refine Sz.of ?_
  show (0:Int).natAbs < 2 ^ (k+0)
  exact Nat.two_pow_pos _
 | x::l,h=>by
  have h1:=sum_sz l fun y hy=>h y (List.mem_cons_of_mem _ hy)
  have h2:=h x List.mem_cons_self
  have e:(x::l).sum=x+l.sum:=rfl
  rw[e]
  exact Sz.mono (Sz.add (k:=k+l.length) (h2.mono (by omega)) h1) (by simp only[List.length_cons];omega)
theorem worth_sz{k:Nat}{ws hs:List Int}(h:∀ x∈ws,Sz k x)(hl:hs.length≤6):Sz (k+6) (worthOf ws hs):=by
 unfold worthOf
 refine Sz.mono (sum_sz (k:=k) _ fun y hy=>?_) (by rw[List.length_map];omega)
 obtain⟨i,_,rfl⟩:=List.mem_map.mp hy
 rw[List.getD_eq_getElem?_getD]
 cases e:ws[i.toNat]? with
 | none=>exact Sz.of (Nat.two_pow_pos _)
 | some v=>exact h v (List.mem_of_getElem? e)
def OptH(H:Hp)(v:V):Option Nat→Prop
 | none=>v=.non
 | some i=>∃ t,v=.ref t∧H t=some (.tup ((Srt.sub i).map V.int))
theorem sub_in:∀ m:Nat,m≤6→∀ i,i < 2 ^ m→∀ x∈Srt.sub i,0≤x∧x < (m:Int):=by decide +kernel
theorem sub_len(i:Nat):(Srt.sub i).length≤6:=by
 unfold Srt.sub
 rw[List.length_map]
 exact Nat.le_trans (List.length_filter_le _ _) (by rw[List.length_range];exact Nat.le_refl _)
theorem for_listN{K:PySem.W.Frag}{a:Addr}{xs:List V}{g:TG}{tb:L2.TS}{D:Ends}{σ:St}{H:Hp}(Pv:Nat→St→Hp→Prop)(h0:Pv 0 σ H)(hl:∀ i σ H,i≤xs.length→Pv i σ H→SqL K H a xs)
  (hs:∀ i x σ H (N B:St→Hp→Prop),xs[i]?=some x→Pv i σ H→(∀ σ' H',Pv (i+1) σ' H'→N σ' H')→(∀ σ' H',D.nx σ' H'→B σ' H')→g x σ H fun σ2 H2=>tb { nx:=N,rt:=D.rt,bk:=B,ct:=N } σ2 H2) (hd:∀ σ H,Pv xs.length σ H→D.nx σ H) :
  ∃ W:Nat→Nat→St→Hp→Prop,(∃ m,W 0 m σ H)∧∀ i m σ H,W i m σ H →
   ((Itl K a).stop i H∧D.nx σ H)∨((Itl K a).go i H∧∃ N:St→Hp→Prop,(∀ σ' H',N σ' H'→∃ m',m' < m∧W (i+1) m' σ' H')∧∀ x H',(Itl K a).yld i H x H'→g x σ H' fun σ2 H2=>tb { D with nx:=N,ct:=N,bk:=D.nx } σ2 H2) :=
 for_list Pv h0 hl (fun i x σ H hx hp=>hs i x σ H (Pv (i+1)) D.nx hx hp (fun _ _ h=>h) fun _ _ h=>h) hd
theorem for_tupN{K:PySem.W.Frag}{a:Addr}{xs:List V}{g:TG}{tb:L2.TS}{D:Ends}{σ:St}{H:Hp}(Pv:Nat→St→Hp→Prop)(h0:Pv 0 σ H)(hl:∀ i σ H,i≤xs.length→Pv i σ H→SqT K H a xs)
  (hs:∀ i x σ H (N B:St→Hp→Prop),xs[i]?=some x→Pv i σ H→(∀ σ' H',Pv (i+1) σ' H'→N σ' H')→(∀ σ' H',D.nx σ' H'→B σ' H')→g x σ H fun σ2 H2=>tb { nx:=N,rt:=D.rt,bk:=B,ct:=N } σ2 H2) (hd:∀ σ H,Pv xs.length σ H→D.nx σ H) :
  ∃ W:Nat→Nat→St→Hp→Prop,(∃ m,W 0 m σ H)∧∀ i m σ H,W i m σ H →
   ((Itt K a).stop i H∧D.nx σ H)∨((Itt K a).go i H∧∃ N:St→Hp→Prop,(∀ σ' H',N σ' H'→∃ m',m' < m∧W (i+1) m' σ' H')∧∀ x H',(Itt K a).yld i H x H'→g x σ H' fun σ2 H2=>tb { D with nx:=N,ct:=N,bk:=D.nx } σ2 H2) :=
 for_tup Pv h0 hl (fun i x σ H hx hp=>hs i x σ H (Pv (i+1)) D.nx hx hp (fun _ _ h=>h) fun _ _ h=>h) hd
theorem for_rangeN{lo:Int}{n:Nat}{g:TG}{tb:L2.TS}{D:Ends}{σ:St}{H:Hp}(Pv:Nat→St→Hp→Prop)(h0:Pv 0 σ H)
  (hs:∀ i σ H (N B:St→Hp→Prop),i < n→Pv i σ H→(∀ σ' H',Pv (i+1) σ' H'→N σ' H')→(∀ σ' H',D.nx σ' H'→B σ' H')→g (.int (lo+i)) σ H fun σ2 H2=>tb { nx:=N,rt:=D.rt,bk:=B,ct:=N } σ2 H2) (hd:∀ σ H,Pv n σ H→D.nx σ H) :
  ∃ W:Nat→Nat→St→Hp→Prop,(∃ m,W 0 m σ H)∧∀ i m σ H,W i m σ H →
   ((Itr lo n).stop i H∧D.nx σ H)∨((Itr lo n).go i H∧∃ N:St→Hp→Prop,(∀ σ' H',N σ' H'→∃ m',m' < m∧W (i+1) m' σ' H')∧∀ x H',(Itr lo n).yld i H x H'→g x σ H' fun σ2 H2=>tb { D with nx:=N,ct:=N,bk:=D.nx } σ2 H2) :=
 for_range Pv h0 (fun i σ H hi hp=>hs i σ H (Pv (i+1)) D.nx hi hp (fun _ _ h=>h) fun _ _ h=>h) hd
theorem if_cut{c:TT}{t u:L2.TS}{D:Ends}{σ:St}{H:Hp}(W:Hp→Prop)(hu:∀ H',W H'→u D σ H')(h:∀ u':L2.TS,(∀ H',W H'→u' D σ H')→tIfS c t u' D σ H):tIfS c t u D σ H:=h u hu
theorem qe_bmK{X:Cx}{K:PySem.W.Frag}(hK:X.K=K){o e:Expr}{es:List Expr}{to:TE}{t:TA}{name:Str}{apos cpos:Pos}{T id:String}{r:V→List V→Hp→VK→Prop}(pa:PlainAttrs T)(slot:PySem.Slot T name id)(hty:typeOf (.builtin id)=pure (.type "method_descriptor"))(hm:MtR X id r)(ho:QE X o to)(ha:QA X (e::es) t)
  (hbase:attributeBase o name X.env (eval o X.env)=eval o X.env:=by rfl)
  (hfew:((backTo cpos (starEach (e::es) X.env)).all (fun x=>!x.1) && (backToKw cpos (keywordEach [] X.env)).all (fun x=>x.1.isSome)
   && decide ((e::es).length+([]:List Keyword).length+(if ([]:List Keyword).isEmpty then 0 else 1) < 30))=true:=by rfl)
  (hline:(apos.endLine == cpos.line)=true:=by rfl) (hs:starEach (e::es) X.env=(false,eval e X.env)::starEach es X.env:=by rfl) (hplain:(backTo cpos (starEach es X.env)).any (·.1)=false:=by rfl) :
  QE X (.Call (.Attribute o name apos) (e::es) [] cpos) (tBM K T r to t):=hK▸qe_bm pa slot hty hm ho ha hbase hfew hline hs hplain
theorem qi_enumK{X:Cx}{K:PySem.W.Frag}(hK:X.K=K){a:Expr}{t:TA}{elts:List Expr}{k:Nat}{tp p pos:Pos}(hg:Gl X "enumerate")(hm:X.mg "enumerate" = none)(ha:QA X [a] t)(hs:starEach [a] X.env=[(false,eval a X.env)]:=by rfl) :
  QI X (.Tuple elts k tp) (.Call (.Name "enumerate" p) [a] [] pos) (iEnum K t):=hK▸qi_enum hg hm ha hs
end Toy
namespace L2
open PySem
section
variable {σ:St}{H:Hp}{Q:VK}{D:Ends}{te ta tb:TE}{t u:TS}{c c':TT}{tr:TA}{QT:Bool→Hp→Prop}{QA:List V→Hp→Prop}{x y:V}{xs:List V}{v:V}{i j:Int}{p:Addr}
theorem i_tSeq(h:t { D with nx:=u D } σ H):tSeq t u D σ H:=h
theorem i_tIfS(h:c σ H fun b H1=>Brk b (t D σ H1) (u D σ H1) .mk .mk):tIfS c t u D σ H:=h
theorem i_tNext(h:D.nx σ H):tNext D σ H:=h
theorem i_tDrop(h:te σ H fun _ H1=>D.nx σ H1):tDrop te D σ H:=h
theorem i_tRet(h:te σ H D.rt):tRet te D σ H:=h
theorem i_tAsg{g:TG}(h:te σ H fun x H1=>g x σ H1 D.nx):tAsg te g D σ H:=h
theorem i_gName{k:Nat}{R:St→Hp→Prop}(h:R (σ.set k (some v)) H):gName k v σ H R:=h
theorem i_gSub{to ti:TE}{ts:TSet}{R:St→Hp→Prop}(h:to σ H fun o H1=>ti σ H1 fun i H2=>ts o i v H2 fun H3=>R σ H3):gSub to ti ts v σ H R:=h
theorem i_tAugS{to ti:TE}{tg:V→V→Hp→VK→Prop}{tp:TIp}{ts:TSet}(h:to σ H fun o H1=>ti σ H1 fun i H2=>tg o i H2 fun x H3=>te σ H3 fun y H4=>tp x y H4 fun z H5=>ts o i z H5 fun H6=>D.nx σ H6):tAugS to ti te tg tp ts D σ H:=h
theorem i_tVar{k:Nat}(e:σ[k]?=some (some v))(h:Q v H):tVar k σ H Q:=⟨v,e,h⟩
theorem i_tC(h:Q v H):tC v σ H Q:=h
theorem i_tB(h:te σ H fun x H1=>∃ c,x=.bl c∧QT c H1):tB te σ H QT:=h
theorem i_tTest(h:te σ H fun x H1=>∃ c,x=.bl c∧QT c H1):tTest te σ H QT:=h
theorem i_exB{b:Bool}{P:Bool→Prop}(h:P b):∃ c,V.bl b=V.bl c∧P c:=⟨b,rfl,h⟩
theorem i_tOp{r:R2}(h:ta σ H fun x H1=>tb σ H1 fun y H2=>r x y H2 Q):tOp r ta tb σ H Q:=h
theorem i_tUn{r:V→Hp→VK→Prop}(h:ta σ H fun x H1=>r x H1 Q):tUn r ta σ H Q:=h
theorem i_tCB{r:List V→Hp→VK→Prop}(h:tr σ H fun vs H1=>r vs H1 Q):tCB r tr σ H Q:=h
theorem i_tNil(h:QA [] H):tNil σ H QA:=h
theorem i_tCons(h:ta σ H fun x H1=>tr σ H1 fun xs H2=>QA (x::xs) H2):tCons ta tr σ H QA:=h
theorem i_tNot(h:c σ H fun b H1=>QT (!b) H1):tNot c σ H QT:=h
theorem i_tAnd(h:c σ H fun b H1=>Brk b (c' σ H1 QT) (QT false H1) .mk .mk):tAnd c c' σ H QT:=h
theorem i_tOr(h:c σ H fun b H1=>Brk b (QT true H1) (c' σ H1 QT) .mk .mk):tOr c c' σ H QT:=h
theorem i_tD{sp:Sp}{E:XK}(h:tr σ H fun vs H1=>sp vs H1 Q E):tD sp E tr σ H Q:=h
theorem i_rI0{g:Int→Int→V}(h:Q (g i j) H):rI0 g (.int i) (.int j) H Q:=⟨i,j,rfl,rfl,h⟩
theorem i_rI{C:Int→Int→Prop}{g:Int→Int→V}(hc:C i j)(h:Q (g i j) H):rI C g (.int i) (.int j) H Q:=⟨i,j,rfl,rfl,hc,h⟩
theorem i_rU{g:Int→V}(h:Q (g i) H):rU g (.int i) H Q:=⟨i,rfl,h⟩
theorem i_ixL(hp:H p=some (.lst xs))(e:atI xs i=some v)(h:Q v H):rIxF (.ref p) (.int i) H Q:=⟨p,xs,i,v,rfl,rfl,seqAt_lst hp,e,h⟩
theorem i_ixT(hp:H p=some (.tup xs))(e:atI xs i=some v)(h:Q v H):rIxF (.ref p) (.int i) H Q:=⟨p,xs,i,v,rfl,rfl,seqAt_tup hp,e,h⟩
theorem i_lenL(hp:H p=some (.lst xs))(h:Q (.int xs.length) H):rLenF [.ref p] H Q:=⟨p,xs,rfl,seqAt_lst hp,h⟩
theorem i_getL(hp:H p=some (.lst xs))(h0:0≤i)(e:atI xs i=some v)(h:Q v H):rGetF (.ref p) (.int i) H Q:=⟨p,xs,i,v,rfl,rfl,hp,h0,e,h⟩
theorem i_ipI{f:Int→Int→Int}(h:Q (.int (f i j)) H):ipI f (.int i) (.int j) H Q:=⟨i,j,rfl,rfl,h⟩
end
section
variable {σ:St}{H:Hp}{Q:VK}{D:Ends}{tr:TA}{xs:List V}{A B:Prop}{k:Tg A}{l:Tg B}{q:Prop}[Decidable q]
theorem i_brkT(h:A):Brk true A B k l:=brk (fun _=>h) (fun z=>by cases z)
theorem i_brkF(h:B):Brk false A B k l:=brk (fun z=>by cases z) (fun _=>h)
theorem i_brkP(hq:q)(h:A):Brk (decide q) A B k l:=brkD (fun _=>h) (fun z=>absurd hq z)
theorem i_brkN(hq:¬ q)(h:B):Brk (decide q) A B k l:=brkD (fun z=>absurd z hq) (fun _=>h)
end
end L2
namespace Toy
open PySem L2
open PySem.Builtin.Int (intBits)
def num(U:Int)(p:Int×Int):Int:=p.1*(U / p.2)
structure Ok(U:Int)(p:Int×Int):Prop where
 pos:0 < p.2
 dvd:p.2∣U
 cop:Int.gcd p.1 p.2=1
def low(n u:Int):Int×Int:=(lowN n u,lowU n u)
theorem low_pos{n u:Int}(hu:0 < u):0 < (low n u).2:=(low_red n hu).1
theorem low_cop{n u:Int}(hu:0 < u):Int.gcd (low n u).1 (low n u).2=1:=(low_red n hu).2.1
theorem low_x{n u:Int}(hu:0 < u):(low n u).1*u=n*(low n u).2:=(low_red n hu).2.2.1
theorem low_u{n u:Int}:(low n u).2∣u:=⟨(Int.gcd n u:Int),(Int.ediv_mul_cancel (Int.gcd_dvd_right n u)).symm⟩
theorem low_of{a b:Int}{p:Int×Int}(hb:0 < b)(hp:0 < p.2)(hc:Int.gcd p.1 p.2=1)(h:a*p.2=p.1*b):low a b=p:=by
 obtain⟨e1,e2⟩:=low_eq hb hp hc h
 exact Prod.ext e1 e2
theorem low_same{a b c d:Int}(hb:0 < b)(hd:0 < d)(h:a*d=c*b):low a b=low c d:=by
 refine low_of hb (low_pos hd) (low_cop hd) ?_
 have x:=low_x (n:=c) hd
 generalize low c d=q at x ⊢
 refine Int.eq_of_mul_eq_mul_right (a:=d) (by omega) ?_
 grind
theorem low_ok{n U:Int}(hU:0 < U):Ok U (low n U):=⟨low_pos hU,low_u,low_cop hU⟩
theorem num_mul{U:Int}{p:Int×Int}(h:Ok U p):num U p*p.2=p.1*U:=by
 unfold num
 rw[Int.mul_assoc,Int.ediv_mul_cancel h.dvd]
theorem num_of{U N:Int}{p:Int×Int}(h:Ok U p)(e:N*p.2=p.1*U):num U p=N:=by
 have:=num_mul h
 have hp:=h.pos
 refine Int.eq_of_mul_eq_mul_right (a:=p.2) (by omega) ?_
 omega
theorem num_low{n U:Int}(hU:0 < U):num U (low n U)=n:=num_of (low_ok hU) (low_x hU).symm
theorem low_num{U:Int}{p:Int×Int}(hU:0 < U)(h:Ok U p):low (num U p) U=p:=low_of hU h.pos h.cop (num_mul h)
theorem num_inj{U:Int}{p q:Int×Int}(hU:0 < U)(hp:Ok U p)(hq:Ok U q)(h:num U p=num U q):p=q:=by
 rw[← low_num hU hp,h,low_num hU hq]
theorem Ok.low{n u U:Int}(hu:0 < u)(h:u∣U):Ok U (Toy.low n u):=⟨low_pos hu,Int.dvd_trans low_u h,low_cop hu⟩
theorem addP_low(a b:Int×Int):addP a b=low (a.1*b.2+b.1*a.2) (a.2*b.2):=rfl
theorem add_ok{U:Int}(hU:0 < U){a b:Int×Int}(ha:Ok U a)(hb:Ok U b):addP a b=low (num U a+num U b) U:=by
 rw[addP_low]
 refine low_same (Int.mul_pos ha.pos hb.pos) hU ?_
 have:=num_mul ha
 have:=num_mul hb
 grind
theorem zero_ok{U:Int}:Ok U (0,1):=⟨by decide,Int.one_dvd U,by decide⟩
theorem int_ok{U w:Int}:Ok U (w,1):=⟨by show (0:Int) < 1;decide,Int.one_dvd U,Int.gcd_one_right w⟩
theorem num_int{U w:Int}:num U (w,1)=w*U:=by unfold num;show w*(U / 1)=_;rw[Int.ediv_one]
theorem sum_fold{U:Int}(hU:0 < U):∀ (l:List (Int×Int)) (s:Int×Int),Ok U s→(∀ p∈l,Ok U p)→Ok U (l.foldl addP s)∧num U (l.foldl addP s)=num U s+(l.map (num U)).sum
 | [],s,h,_=>⟨h,by show _=num U s+0;rw[Int.add_zero];rfl⟩
 | p::l,s,h,hl=>by
  have hp:=hl p List.mem_cons_self
  have e:=add_ok hU h hp
  have h1:Ok U (addP s p):=by rw[e];exact low_ok hU
  obtain⟨a,b⟩:=sum_fold hU l (addP s p) h1 fun q hq=>hl q (List.mem_cons_of_mem _ hq)
  refine⟨a,?_⟩
  have e2:num U (addP s p)=num U s+num U p:=by rw[e,num_low hU]
  show num U (l.foldl addP (addP s p))=_
  rw[b,e2]
  show _=num U s+(num U p+(l.map (num U)).sum)
  rw[Int.add_assoc]
theorem sum_ok{U:Int}(hU:0 < U){l:List (Int×Int)}(hl:∀ p∈l,Ok U p):Ok U (sumP l)∧num U (sumP l)=(l.map (num U)).sum:=by
 obtain⟨a,b⟩:=sum_fold hU l (0,1) zero_ok hl
 refine⟨a,b.trans ?_⟩
 have:num U (0,1)=0:=by unfold num;exact Int.zero_mul _
 rw[this,Int.zero_add]
theorem lt_num{U:Int}(hU:0 < U){p q:Int×Int}(hp:Ok U p)(hq:Ok U q):p.1*q.2 < q.1*p.2↔num U p < num U q:=by
 have e1:=num_mul hp
 have e2:=num_mul hq
 have p1:=hp.pos
 have p2:=hq.pos
 have pp:=Int.mul_pos p1 p2
 generalize num U p=A at e1 ⊢
 generalize num U q=B at e2 ⊢
 have k1:p.1*q.2*U=A*(p.2*q.2):=by grind
 have k2:q.1*p.2*U=B*(p.2*q.2):=by grind
 constructor
 ·intro h
  have:=Int.mul_lt_mul_of_pos_right h hU
  rw[k1,k2] at this
  exact Int.lt_of_mul_lt_mul_right this (by omega)
 ·intro h
  have:=Int.mul_lt_mul_of_pos_right h pp
  rw[← k1,← k2] at this
  exact Int.lt_of_mul_lt_mul_right this (by omega)
structure UOk(U:Int):Prop where
 pos:0 < U
 sz:Sz 4000 U
structure PtOk(U:Int)(k:Nat)(p:Int×Int):Prop extends Ok U p where
 sz:Sz k (num U p)
theorem le_of_dvd'{a b:Int}(h:a∣b)(hb:0 < b):a.natAbs≤b.natAbs:=Nat.le_of_dvd (by omega) (Int.natAbs_dvd_natAbs.mpr h)
theorem Ok.usz{U:Int}{p:Int×Int}(u:UOk U)(h:Ok U p):Sz 4000 p.2:=u.sz.le (le_of_dvd' h.dvd u.pos)
theorem Ok.nle{U:Int}{p:Int×Int}(hU:0 < U)(h:Ok U p):p.1.natAbs≤(num U p).natAbs:=by
 unfold num
 rw[Int.natAbs_mul]
 have hd:0 < U / p.2:=by
  by_cases z:0 < U / p.2
  ·exact z
  ·have:=Int.ediv_mul_cancel h.dvd
   have hp:=h.pos
   have:U / p.2*p.2≤0:=Int.mul_nonpos_of_nonpos_of_nonneg (by omega) (by omega)
   omega
 exact Nat.le_mul_of_pos_right _ (by omega)
theorem PtOk.nsz{U:Int}{k:Nat}{p:Int×Int}(hU:0 < U)(h:PtOk U k p):Sz k p.1:=h.sz.le (h.toOk.nle hU)
theorem PtOk.mono{U:Int}{k j:Nat}{p:Int×Int}(h:PtOk U k p)(q:k≤j):PtOk U j p:=⟨h.toOk,h.sz.mono q⟩
theorem sum_pt{U:Int}(hU:0 < U){k:Nat}{l:List (Int×Int)}(hl:∀ p∈l,PtOk U k p):PtOk U (k+l.length) (sumP l):=by
 obtain⟨a,b⟩:=sum_ok hU fun p hp=>(hl p hp).toOk
 refine⟨a,?_⟩
 rw[b]
 refine Sz.mono (sum_sz (k:=k) _ fun x hx=>?_) (by rw[List.length_map];omega)
 obtain⟨p,hp,rfl⟩:=List.mem_map.mp hx
 exact (hl p hp).sz
def RowU(U:Int)(k:Nat)(H:Hp)(xs:List V)(ps:List (Int×Int)):Prop:=xs.length=ps.length∧∀(i:Nat) p,ps[i]?=some p→∃ r,xs[i]?=some (.ref r)∧H r=some (.tup [.int p.1,.int p.2])∧PtOk U k p
theorem RowU.ts{U:Int}{k:Nat}{H H':Hp}{xs:List V}{ps:List (Int×Int)}(h:RowU U k H xs ps)(s:TS H H'):RowU U k H' xs ps:=⟨h.1,fun i p hp=>by
 obtain⟨r,e,h1,h2⟩:=h.2 i p hp
 exact⟨r,e,s _ _ h1,h2⟩⟩
theorem RowU.mono{U:Int}{k j:Nat}{H:Hp}{xs:List V}{ps:List (Int×Int)}(h:RowU U k H xs ps)(q:k≤j):RowU U j H xs ps:=⟨h.1,fun i p hp=>by
 obtain⟨r,e,h1,h2⟩:=h.2 i p hp
 exact⟨r,e,h1,h2.mono q⟩⟩
theorem RowU.nil{U:Int}{k:Nat}{H:Hp}:RowU U k H [] []:=⟨rfl,fun i p h=>by simp at h⟩
theorem RowU.mem{U:Int}{k:Nat}{H:Hp}{xs:List V}{ps:List (Int×Int)}(h:RowU U k H xs ps):∀ p∈ps,PtOk U k p:=fun p hp=>by
 obtain⟨i,hi⟩:=List.mem_iff_getElem?.mp hp
 obtain⟨r,_,_,h1⟩:=h.2 i p hi
 exact h1
theorem RowU.dens{U:Int}{k:Nat}{H:Hp}{xs:List V}{ps:List (Int×Int)}(h:RowU U k H xs ps):Dens H (ps.map pD) xs:=dens_of ps xs h.1 fun i p hp=>by
 obtain⟨r,e,h1,_⟩:=h.2 i p hp
 exact⟨r,e,h1⟩
theorem RowU.snoc{U:Int}{k:Nat}{H:Hp}{xs:List V}{ps:List (Int×Int)}{r:Addr}{p:Int×Int}(h:RowU U k H xs ps)(hr:H r=some (.tup [.int p.1,.int p.2]))(hp:PtOk U k p):RowU U k H (xs++[.ref r]) (ps++[p]):=by
 refine⟨by rw[List.length_append,List.length_append,h.1];rfl,fun i q hq=>?_⟩
 by_cases hi:i < ps.length
 ·rw[List.getElem?_append_left hi] at hq
  rw[List.getElem?_append_left (by rw[h.1];exact hi)]
  exact h.2 i q hq
 ·have hl:=(List.getElem?_eq_some_iff.mp hq).1
  rw[List.length_append] at hl
  have e:i=ps.length:=by
   have:([p]:List (Int×Int)).length=1:=rfl
   omega
  subst e
  rw[List.getElem?_append_right (Nat.le_refl _),Nat.sub_self] at hq
  cases hq
  exact⟨r,by rw[List.getElem?_append_right (by rw[h.1];exact Nat.le_refl _),h.1,Nat.sub_self];rfl,hr,hp⟩
theorem RowU.set{U:Int}{k:Nat}{H:Hp}{xs:List V}{ps:List (Int×Int)}{r:Addr}{p:Int×Int}{j:Nat}(h:RowU U k H xs ps)(hr:H r=some (.tup [.int p.1,.int p.2]))(hp:PtOk U k p):RowU U k H (xs.set j (.ref r)) (ps.set j p):=by
 refine⟨by rw[List.length_set,List.length_set,h.1],fun i q hq=>?_⟩
 by_cases e:j=i
 ·subst e
  rw[List.getElem?_set] at hq
  rw[if_pos rfl] at hq
  split at hq
  ·cases hq
   refine⟨r,?_,hr,hp⟩
   rw[List.getElem?_set,if_pos rfl,if_pos (by rw[h.1];assumption)]
  ·cases hq
 ·rw[List.getElem?_set_ne e] at hq
  rw[List.getElem?_set_ne e]
  exact h.2 i q hq
theorem und1_dvd{U r:Int}{p:Int×Int}(h0:0 < r)(hr:r∣U)(hp:0 < p.2)(hd:p.2∣U):und1 r p∣U:=by
 have e:und1 r p=(Int.lcm r p.2:Int):=by
  unfold und1
  have h1:(Int.gcd r p.2:Int)*(Int.lcm r p.2:Int)=r*p.2:=by
   have:=Int.gcd_mul_lcm r p.2
   have e2:((Int.gcd r p.2*Int.lcm r p.2:Nat):Int)=((r*p.2).natAbs:Int):=by rw[this,Int.natAbs_mul]
   have p3:=Int.mul_pos h0 hp
   rw[Int.natCast_mul] at e2
   omega
  have hg:=gcd_pos (n:=r) hp
  have e1:=Int.ediv_mul_cancel (Int.gcd_dvd_left r p.2)
  refine Int.eq_of_mul_eq_mul_left (a:=(Int.gcd r p.2:Int)) (by omega) ?_
  rw[h1]
  generalize r / (Int.gcd r p.2:Int)=A at e1 ⊢
  generalize (Int.gcd r p.2:Int)=g at e1 ⊢
  rw[← e1]
  grind
 rw[e]
 exact Int.coe_lcm_dvd hr hd
theorem und_dvd{U:Int}:∀ (l:List (Int×Int)) (r:Int),0 < r→r∣U→(∀ p∈l,0 < p.2∧p.2∣U)→l.foldl und1 r∣U
 | [],r,_,h,_=>h
 | p::l,r,h0,h,hp=>by
  obtain⟨a,b⟩:=hp p List.mem_cons_self
  exact und_dvd l (und1 r p) (und1_ok h0 a).1 (und1_dvd h0 h a b) fun q hq=>hp q (List.mem_cons_of_mem _ hq)
theorem undP_ok{U:Int}{l:List (Int×Int)}(h:∀ p∈l,Ok U p):0 < undP l∧undP l∣U∧∀ p∈l,Ok (undP l) p:=by
 obtain⟨a,_,c⟩:=und_fold l 1 (by decide) fun p hp=>(h p hp).pos
 exact⟨a,und_dvd l 1 (by decide) (Int.one_dvd U) fun p hp=>⟨(h p hp).pos,(h p hp).dvd⟩,fun p hp=>⟨(h p hp).pos,c p hp,(h p hp).cop⟩⟩
structure Lvl(R D:Nat→Int)(n:Nat)(r:Int×Int):Prop where
 pos:0 < r.2
 cop:Int.gcd r.1 r.2=1
 one:r.1≤r.2
 le:∀ i,i < n→0 < D i→r.1*D i≤R i*r.2
 at':r=(1,1)∨∃ i,i < n∧0 < D i∧r.1*D i=R i*r.2
def UM:Int:=9690712164777231700912800
theorem um_ok:UOk UM:=⟨by decide,by decide⟩
theorem um_nat:∀ d,d < 61→0 < d→UM.toNat % d=0:=by decide +kernel
theorem um_dvd{u:Int}(h0:0 < u)(h1:u≤60):u∣UM:=by
 have h:=um_nat u.toNat (by omega) (by omega)
 have e:u=((u.toNat:Nat):Int):=by omega
 have e2:UM=((UM.toNat:Nat):Int):=by decide
 rw[e,e2]
 exact Int.natCast_dvd_natCast.mpr (Nat.dvd_of_mod_eq_zero h)
structure Du(U:Int)(k:Nat)(n u:Int):Prop where
 pt:PtOk U k (n,u)
 nn:0≤n
theorem div_pos_le{U u:Int}(hu:0 < u)(hU:0 < U)(h:u∣U):0 < U / u∧U / u≤U:=by
 have e:=Int.ediv_mul_cancel h
 have p:0 < U / u:=by
  by_cases z:0 < U / u
  ·exact z
  ·have:U / u*u≤0:=Int.mul_nonpos_of_nonpos_of_nonneg (by omega) (by omega)
   omega
 refine⟨p,?_⟩
 have:U / u*1≤U / u*u:=Int.mul_le_mul_of_nonneg_left (by omega) (by omega)
 omega
theorem num_low'{n u U:Int}(hu:0 < u)(hU:0 < U)(h:u∣U):num U (low n u)=n*(U / u):=by
 refine num_of (Ok.low hu h) ?_
 have x:=low_x (n:=n) hu
 have e:=Int.ediv_mul_cancel h
 generalize low n u=q at x ⊢
 generalize U / u=k at e ⊢
 rw[← e]
 refine Int.eq_of_mul_eq_mul_right (a:=u) (by omega) ?_
 grind
theorem low_nn{n u:Int}(hu:0 < u)(hn:0≤n):0≤(low n u).1:=Int.ediv_nonneg hn (by have:=gcd_pos (n:=n) hu;omega)
theorem du_of{n u:Int}(h0:0≤n)(h1:n≤1000000000)(u0:0 < u)(u1:u≤60):Du UM 115 (lowN n u) (lowU n u):=by
 have hd:=um_dvd u0 u1
 refine⟨⟨Ok.low u0 hd,?_⟩,low_nn u0 h0⟩
 have e:num UM (low n u)=n*(UM / u):=num_low' u0 um_ok.pos hd
 show Sz 115 (num UM (low n u))
 rw[e]
 have hz:Sz 84 (UM / u):=by
  have:=div_pos_le u0 um_ok.pos hd
  have:(UM / u).natAbs≤UM.natAbs:=by omega
  exact Sz.le (by decide:Sz 84 UM) this
 exact Sz.mono (Sz.mul (Sz.of (k:=30) (by omega)) hz) (by decide)
theorem zero_pt{U:Int}{k:Nat}:PtOk U k (0,1):=⟨zero_ok,by
 have:num U (0,1)=0:=by unfold num;exact Int.zero_mul _
 rw[this]
 exact Sz.of (Nat.two_pow_pos _)⟩
theorem nn_num{U:Int}{p:Int×Int}(hU:0 < U)(h:Ok U p):0≤p.1↔0≤num U p:=by
 have:=lt_num hU h (zero_ok (U:=U))
 have e:num U (0,1)=0:=by unfold num;exact Int.zero_mul _
 rw[e] at this
 simp only[Int.zero_mul,Int.mul_one] at this
 omega
theorem sum_nn:∀(l:List Int),(∀ x∈l,0≤x)→0≤l.sum
 | [],_=>Int.le_refl _
 | x::l,h=>by
  have:=sum_nn l fun y hy=>h y (List.mem_cons_of_mem _ hy)
  have:=h x List.mem_cons_self
  show 0≤x+l.sum
  omega
theorem sumP_nn{U:Int}(hU:0 < U){l:List (Int×Int)}(hl:∀ p∈l,Ok U p)(h0:∀ p∈l,0≤p.1):0≤(sumP l).1:=by
 obtain⟨a,b⟩:=sum_ok hU hl
 rw[nn_num hU a,b]
 refine sum_nn _ fun x hx=>?_
 obtain⟨p,hp,rfl⟩:=List.mem_map.mp hx
 exact (nn_num hU (hl p hp)).mp (h0 p hp)
def RowsAt(X:List Addr)(U:Int)(k:Nat)(H:Hp)(zs:List V)(rss:List (List (Int×Int))):Prop:=zs.length=rss.length∧zs.Nodup∧∀(i:Nat) r,rss[i]?=some r→∃ l xs,zs[i]?=some (.ref l)∧H l=some (.lst xs)∧RowU U k H xs r∧l∉X
theorem RowsAt.step{X:List Addr}{U:Int}{k:Nat}{H H':Hp}{zs:List V}{rss:List (List (Int×Int))}(h:RowsAt X U k H zs rss)(f:∀ l xs,V.ref l∈zs→l∉X→H l=some (.lst xs)→H' l=some (.lst xs))(s:TS H H'):RowsAt X U k H' zs rss:=⟨h.1,h.2.1,fun i r hr=>by
 obtain⟨l,xs,e,h1,h2,h3⟩:=h.2.2 i r hr
 exact⟨l,xs,e,f l xs (List.mem_of_getElem? e) h3 h1,h2.ts s,h3⟩⟩
theorem RowsAt.nil{X:List Addr}{U:Int}{k:Nat}{H:Hp}:RowsAt X U k H [] []:=⟨rfl,.nil,fun i p h=>by simp at h⟩
theorem RowsAt.fresh{X:List Addr}{U:Int}{k:Nat}{H:Hp}{zs:List V}{rss:List (List (Int×Int))}(h:RowsAt X U k H zs rss){l:Addr}(hl:H l=none):V.ref l∉zs:=fun z=>by
 obtain⟨i,hi,e⟩:=List.getElem_of_mem z
 have hi2:i < rss.length:=by rw[← h.1];exact hi
 obtain⟨l',xs,e',h1,_⟩:=h.2.2 i rss[i] (List.getElem?_eq_getElem hi2)
 rw[List.getElem?_eq_getElem hi,e] at e'
 cases e'
 rw[hl] at h1
 cases h1
theorem RowsAt.snoc{X:List Addr}{U:Int}{k:Nat}{H:Hp}{zs:List V}{rss:List (List (Int×Int))}{l:Addr}{xs:List V}{r:List (Int×Int)}(h:RowsAt X U k H zs rss)(hn:V.ref l∉zs)(h1:H l=some (.lst xs))(h2:RowU U k H xs r)(h3:l∉X):RowsAt X U k H (zs++[.ref l]) (rss++[r]):=by
 refine⟨by rw[List.length_append,List.length_append,h.1];rfl,?_,fun i q hq=>?_⟩
 ·rw[List.nodup_append]
  exact⟨h.2.1,List.nodup_cons.mpr ⟨by simp,.nil⟩,fun a ha b hb e=>by rw[List.mem_singleton.mp hb] at e;rw[e] at ha;exact hn ha⟩
 by_cases hi:i < rss.length
 ·rw[List.getElem?_append_left hi] at hq
  rw[List.getElem?_append_left (by rw[h.1];exact hi)]
  exact h.2.2 i q hq
 ·have hl:=(List.getElem?_eq_some_iff.mp hq).1
  rw[List.length_append] at hl
  have e:i=rss.length:=by
   have:([r]:List (List (Int×Int))).length=1:=rfl
   omega
  subst e
  rw[List.getElem?_append_right (Nat.le_refl _),Nat.sub_self] at hq
  cases hq
  exact⟨l,xs,by rw[List.getElem?_append_right (by rw[h.1];exact Nat.le_refl _),h.1,Nat.sub_self];rfl,h1,h2,h3⟩
end Toy
namespace Toy
open PySem L2
open PySem.Builtin.Int (intBits)
def dueP(cs:List Cl)(i:Nat):Int×Int:=match cs[i]? with
 | some c=>(c.n,c.u)
 | none=>(0,1)
def heapP(cs:List Cl)(i:Nat):List Int:=match cs[i]? with
 | some c=>c.hp
 | none=>[]
theorem heapP_at{cs:List Cl}{i:Nat}(h:i < cs.length):heapP cs i=cs[i].hp:=by unfold heapP;rw[List.getElem?_eq_getElem h]
def inn(cs:List Cl)(hs:List Int)(i:Nat):Bool:=lies (heapP cs i) hs
def rowB(cs:List Cl)(ps:List (Int×Int))(q:Nat→Bool)(i:Nat):Int×Int:=if q i=true then dueP cs i else ps.getD i (0,1)
def rowL(cs:List Cl)(ps:List (Int×Int))(q:Nat→Bool)(n:Nat):List (Int×Int):=(List.range n).map (rowB cs ps q)
def plL(n:Nat)(q:Nat→Bool):List Int:=((List.range n).filter q).map fun i:Nat=>(i:Int)
def plV(n:Nat)(q:Nat→Bool):List V:=(plL n q).map V.int
theorem filt_succ{α:Type}(f:Nat→Bool)(g:Nat→α)(i:Nat):((List.range (i+1)).filter f).map g=((List.range i).filter f).map g++(if f i=true then [g i] else []):=by
 rw[List.range_succ,List.filter_append,List.map_append]
 by_cases h:f i=true
 ·simp[h]
 ·simp[h]
def insL(cs:List Cl)(hs:List Int):List Nat:=(List.range cs.length).filter (inn cs hs)
def dueN(U:Int)(cs:List Cl)(q:Nat→Bool)(hs:List Int):Int:=(((insL cs hs).filter q).map fun i=>num U (dueP cs i)).sum
def paidN(U:Int)(cs:List Cl)(ps:List (Int×Int))(q:Nat→Bool)(hs:List Int):Int:=(((insL cs hs).filter fun i=>!q i).map fun i=>num U (ps.getD i (0,1))).sum
def roomN(U:Int)(ws:List Int)(cs:List Cl)(ps:List (Int×Int))(q:Nat→Bool)(hs:List Int):Int:=worthOf ws hs*U - paidN U cs ps q hs
def lfStep(r:Int×Int)(f:Nat×Int×Int):Int×Int:=if f.2.1*r.2 < r.1*f.2.2 then (f.2.1,f.2.2) else r
def lfold(fs:List (Nat×Int×Int)):Int×Int:=fs.foldl lfStep (1,1)
def fndL(R D:Nat→Int)(O:List Nat):List (Nat×Int×Int):=(O.filter fun i=>decide (0 < D i)).map fun i=>(i,R i,D i)
def tightB(R D:Nat→Int)(r:Int×Int)(i:Nat):Bool:=decide (0 < D i) && decide (low (R i) (D i)=r)
end Toy
namespace L2
open PySem
section
variable {σ:St}{H:Hp}{Q:VK}{D:Ends}{te ta tb:TE}{t u:TS}{c c':TT}{tr:TA}{x y:V}{xs ys:List V}{v:V}{i j:Int}{p:Addr}
theorem i_setN{R:Hp→Prop}{k:Nat}(hp:H p=some (.lst xs))(e:ixN xs.length i=some k)(ey:xs.set k v=ys)(h:∀ H',H' p=some (.lst ys)→Fr1 p H H'→R H'):rSetL (.ref p) (.int i) v H R :=
 ⟨p,xs,i,k,rfl,rfl,hp,e,ey▸h _ (ey▸upd_same) Fr1.upd⟩
theorem mul_mod_ok{a b:Int}:IntMulOk (a % 2147483647) (b % 2147483647):=Sz.okR (k:=31) (Sz.of (by
 have h1:=Int.emod_nonneg b (by decide:(2147483647:Int)≠0)
 have h2:=Int.emod_lt_of_pos b (by decide:(0:Int) < 2147483647)
 omega)) (by decide)
def NewO(f:List V→HO)(xs:List V)(H:Hp)(Q:VK):Prop:=xs.length≤sizeLine∧∀ p,H p=none→Q (.ref p) (upd H p (f xs))
theorem i_tTup(h:tr σ H fun xs H1=>NewO HO.tup xs H1 Q):tTup tr σ H Q:=h
theorem i_tLst(h:tr σ H fun xs H1=>NewO HO.lst xs H1 Q):tLst tr σ H Q:=h
theorem i_NewO{f:List V→HO}(hl:xs.length≤64)(h:∀ p H',H p=none→Same H H'→H' p=some (f xs)→Q (.ref p) H'):NewO f xs H Q :=
 ⟨Nat.le_trans hl (by decide),fun p hp=>h p _ hp (Same.new hp) upd_same⟩
theorem i_tBM{K:PySem.W.Frag}{T:String}{r:V→List V→Hp→VK→Prop}{to:TE}(h:to σ H fun x H1=>tyV K T x H1∧tr σ H1 fun xs H2=>r x xs H2 Q):tBM K T r to tr σ H Q:=h
theorem i_app{l:Addr}(hl:H l=some (.lst xs))(hz:xs.length≤1000)(h:∀ H',H' l=some (.lst (xs++[y]))→Fr1 l H H'→Q .non H'):rAppend (.ref l) [y] H Q :=
 ⟨l,xs,y,rfl,rfl,hl,Nat.lt_of_le_of_lt hz (by decide),h _ upd_same Fr1.upd⟩
theorem i_ite{b:Bool}{A B:Prop}(h1:b=true→A)(h2:b=false→B):if b=true then A else B:=by
 cases b with
 | true=>rw[if_pos rfl];exact h1 rfl
 | false=>rw[if_neg Bool.false_ne_true];exact h2 rfl
theorem i_yes{q:Bool→Hp→Prop}(h:q true H):tYes σ H q:=h
end
theorem fr_new{H H0 H':Hp}{B l:Addr}(f:Fr1 B H H0)(g:Fr1 l H0 H')(hl:H l=none):Fr1 B H H':=fun b o nb hb=>g b o (fun e=>by rw[e,hl] at hb;cases hb) (f b o nb hb)
theorem fr_none{H H':Hp}{B l:Addr}(f:Fr1 B H H')(n:l≠B)(hl:H' l=none):H l=none:=by
 cases e:H l with
 | none=>rfl
 | some o=>rw[f l o n e] at hl;cases hl
end L2
namespace Toy
open PySem L2
theorem BagAt.frm{H H':Hp}{B L F:Addr}(b:BagAt H B L)(f:Fr1 F H H')(nB:F≠B)(nL:F≠L):BagAt H' B L:=by
 obtain⟨ns,i,r,salt,h1,h2,h3⟩:=b
 exact⟨ns,i,r,salt,f _ _ nB.symm h1,f _ _ nL.symm h2,h3⟩
theorem TS.frl{H H':Hp}{l:Addr}{xs:List V}(h:H l=some (.lst xs))(f:Fr1 l H H'):Toy.TS H H':=fun c ys hc=>f c _ (fun e=>by rw[e,h] at hc;cases hc) hc
end Toy
namespace L2
open PySem PySem.Spec PyProof.Rows
section
variable {X:Cx}{tg:Expr}
end
def lowC(c:Nat):Bool:=decide (97≤c) && decide (c≤122)
section
variable {H:Hp}{Q:VK}{z y:Str}{i:Int}
theorem i_tAndV{ta tb:TE}{σ:St}(h:ta σ H fun x H1=>∃ c,x=.bl c∧Brk c (tb σ H1 Q) (Q (.bl false) H1) .mk .mk):tAndV ta tb σ H Q:=h
end
theorem same_put{H H2:Hp}{l:Addr}{o:HO}(hl:H l=none)(s:Same H H2):Same H (upd H2 l o):=fun b u hb=>by
 rw[upd_ne (fun z=>by rw[z,hl] at hb;cases hb)]
 exact s b u hb
end L2
namespace Toy
open PySem L2
theorem sum_if{α:Type}(p:α→Bool)(f:α→Int):∀ I:List α,((I.filter p).map f).sum=(I.map fun i=>if p i=true then f i else 0).sum
 | []=>rfl
 | i::I=>by
  rw[List.filter_cons,List.map_cons,List.sum_cons,← sum_if p f I]
  by_cases h:p i=true
  ·rw[if_pos h,if_pos h,List.map_cons,List.sum_cons]
  ·rw[if_neg h,if_neg h,Int.zero_add]
section
variable {I:List Nat}{q hq:Nat→Bool}{a x x':Nat→Int}{n d:Int}
end
end Toy
namespace L2
open PySem
def Ris(xs:Array Nat):Prop:=xs.toList.Pairwise (· < ·)
def stand(xs:Array Nat):Nat→Nat
 | 0=>0
 | i+1=>xs.getD i 0+1
structure TabOk(L:Bool)(t:SetTable):Prop where
 ris:Ris t.place
 dum:t.dummies=#[]
 led:t.led=L
def keyOf:Int×Value→Int
 | (_,.int k _)=>k
 | _=>0
abbrev setO(es:Array (Int×Value))(ep:Nat)(t:SetTable):Obj:={ cls:=.type "set", dict:=none,data:=.set es ep t }
structure SetAt(h:Heap)(S:Addr)(L:Bool)(es:Array (Int×Value))(ep:Nat)(t:SetTable):Prop where
 at':h.get? S=some (setO es ep t)
 sh:∀ e∈es.toList,∃ k tk,e=(hashInt k,Value.int k tk)
 nd:(es.toList.map keyOf).Nodup
 sz:es.size < 100
 fit:t.fits es.size=true
 tab:TabOk L t
section
variable {prog:Program}{w:World}{A:Around}{E:Value→Shared→Prop}{s:Shared}{S:Addr}{L:Bool}{es:Array (Int×Value)}{ep:Nat}{t:SetTable}
end
end L2
namespace L2
open PySem
section
variable {prog:Program}{w:World}{A:Around}{E:Value→Shared→Prop}{s:Shared}
abbrev byT(w:World):Bool:=w.params.followText "set-order"
end
end L2
namespace L2
open PySem
section
variable {prog:Program}{w:World}{A:Around}{E:Value→Shared→Prop}{s:Shared}
variable {S:Addr}{es:Array (Int×Value)}{ep:Nat}{t:SetTable}
end
end L2
namespace L2
open PySem
section
variable {prog:Program}{w:World}{A:Around}{E:Value→Shared→Prop}{s:Shared}{S:Addr}{es:Array (Int×Value)}{ep:Nat}{t:SetTable}
end
end L2
namespace L2
open PySem
section
variable {prog:Program}{w:World}{A:Around}{E:Value→Shared→Prop}{s:Shared}{S:Addr}{es:Array (Int×Value)}{ep:Nat}{t:SetTable}
end
end L2
namespace L2
open PySem
theorem vals_of_ints:∀{ns:List Int}{vs:List Value},PyProof.Rows.IntsAre vs ns→Vals (ns.map V.int) vs
 | _,_,.nil=>.nil
 | _,_,.cons n t r=>.cons ⟨t,rfl⟩ (vals_of_ints r)
section
variable {X:Cx}{e:Expr}{te:TE}{p1 p2 p3 p4:Pos}
end
end L2
namespace L2
open PySem PySem.Spec PyProof.Rows
section
variable {X:Cx}{e:Expr}{te:TE}{p1 p2 p3 p4:Pos}
end
end L2
namespace L2
open PySem PyProof.Rows PySem.SeqAt
section
variable {X:Cx}
end
end L2
namespace L2
open PySem PyProof.Rows PySem.SeqAt
section
variable {X:Cx}
def rInT:R2:=fun x y H Q=>∃(a p:Addr)(ts:List Int)(js:List Nat)(f:Nat→Addr)(g:Nat→List Int),x=.ref a∧y=.ref p∧H a=some (.tup (ts.map V.int))∧H p=some (.lst (js.map fun i=>V.ref (f i)))∧(∀ i∈js,H (f i)=some (.tup ((g i).map V.int)))∧Q (.bl (js.any fun i=>decide (g i=ts))) H
theorem cmp_tI{k:Nat}(a b:List Int):Cmp (k+1) (.tup (a.map Dt.int)) (.tup (b.map Dt.int)):=by
 unfold Cmp
 intro j d e h1 h2
 rw[List.getElem?_map] at h1 h2
 obtain⟨x,_,rfl⟩:=Option.map_eq_some_iff.mp h1
 obtain⟨y,_,rfl⟩:=Option.map_eq_some_iff.mp h2
 unfold Cmp
 trivial
theorem vals_refs:∀{l:List Addr}{us:List Value},Vals (l.map V.ref) us→us=l.map Value.ref
 | [],_,.nil=>rfl
 | a::l,_,.cons r t=>by
  cases r
  rw[List.map_cons,vals_refs t]
end
end L2
namespace HT
open PySem PySem.Spec PyProof.Rows
section
variable {prog:Program}{w:World}{A:Around}{E:Value→Shared→Prop}{s:Shared}
theorem getItem_tuple_whole{t sl:Addr}{items:Array Value}{vl vu:Value}{lo hi:Option Int}{Q:Value→Shared→Prop}(ht:IsTup s.heap t items)(hs:s.heap.IsSliceOf sl vl vu .none)(pl:IsPart vl lo)(pu:IsPart vu hi)
  (hw:sIx items.size 0 lo=0∧sIx items.size items.size hi=items.size) (h:Q (.ref t) s):wpAny (model prog w) A (getItem (.ref t) (.ref sl)) Q E s:=by
 obtain⟨os,hos,hcs,hds⟩:=id hs
 have hTs:s.TypeIs (.ref sl) "slice" := ⟨os,hos,hcs⟩
 unfold getItem
 try with_reducible refine wpAny_holding ?_
 first | refine wpAny_bind (wpAny_pure ?_) | skip
 refine wpAny_bind (wpAny_sequenceKey ht.typeIs (by decide) ?_)
 refine wpAny_bind (wpAny_callSpecial?_slot (name:=Str.ofString "__getitem__") ht.typeIs PyProof.Rows.slot_tuple_getitem
  (wpAny_call_entry PyProof.Rows.slot_tuple_getitem ht.typeIs entry_tuple_getitem ?_ (args_tuple_getitem _ _)))
 show wpAny _ _ (Builtin.Tuple.tupleItemsOf (.ref t) >>= _) _ _ s
 refine wpAny_bind (tupleItemsOf_ ht ?_)
 refine wpAny_bind (wpAny_typeOf hTs ?_)
 rw[if_pos (by decide)]
 refine wpAny_bind (sliceApplied_gen hs pl pu ?_)
 have hyes:(((sIx items.size 0 lo:Nat):Int) == 0 && (1:Int) == 1 && (sIx items.size items.size hi - sIx items.size 0 lo) == items.size)=true:=by
  rw[hw.1,hw.2]
  simp
 show wpAny _ _ (if (((sIx items.size 0 lo:Nat):Int) == 0 && (1:Int) == 1 && (sIx items.size items.size hi - sIx items.size 0 lo) == items.size)=true then _ else _) _ _ s
 rw[if_pos hyes]
 unfold Builtin.Tuple.tupleIsExact
 refine wpAny_bind (wpAny_bind (wpAny_typeOf ht.typeIs (wpAny_pure ?_)))
 rw[if_pos (by decide)]
 refine wpAny_bind (wpAny_rule ?_)
 exact wpAny_pure ⟨_,rfl,wpAny_pure h⟩
end
end HT
namespace L2
open PySem PySem.Spec PyProof.Rows
section
variable {X:Cx}
def rSlG:V→Option Int→Option Int→Hp→VK→Prop:=fun x lo hi H Q=>∃ a xs,x=.ref a∧H a=some (.tup xs)∧∀ p H',Same H H'→H' p=some (.tup (cutV xs lo hi))→Q (.ref p) H'
theorem sl_tupG:SlR X rSlG:=by
 intro pins s σ H x v vl vu lo hi sl Q I rx hs pl pu h
 obtain⟨a,xs,rfl,hx,q⟩:=h
 by_cases hw:HT.sIx xs.length 0 lo=0∧HT.sIx xs.length xs.length hi=xs.length
 ·cases rx
  obtain⟨its,r,ht,hz⟩:=I.tuple (SqT.of hx)
  have hlen:its.toArray.size=xs.length:=by rw[List.size_toArray];exact r.length.symm
  refine⟨"tuple", _,PyProof.Rows.slot_tuple_getitem.lookup,ht.typeIs,?_⟩
  refine HT.getItem_tuple_whole ht hs pl pu (by rw[hlen];exact hw) ?_
  refine⟨.ref a,H,I,rfl,q a H (Same.refl H) ?_⟩
  rw[hx]
  unfold cutV
  rw[hw.1,hw.2,List.drop_zero,Nat.sub_zero,List.take_length]
 ·exact sl_tup pins s σ H (.ref a) v vl vu lo hi sl Q I rx hs pl pu ⟨a,xs,rfl,SqT.of hx,hw,fun p hp=>q p _ (Same.new hp) upd_same⟩
end
end L2
namespace Z3
open PySem PySem.Spec PyProof.Rows
abbrev IsTri(h:Heap)(T:Addr)(a b c:Value):Prop:=h.get? T=some { cls:=.type "tuple", data:=.seq #[a,b,c] }
theorem tc(a b c:Value):checkTypeCall "zip" ⟨[a,b,c],[]⟩=pure ():=by kernel_rfl
theorem nc(a b c:Value):checkBuiltinCall "zip.__new__" ⟨[.type "zip", a,b,c],[]⟩=pure ():=by kernel_rfl
theorem ac(a b c d:Value):argsOk "object.__init__" ⟨[a,b,c,d],[]⟩:=by
 unfold argsOk
 rw[signature?_of (id := "object.__init__")
  (n:=['_','_','t','i','n','i','_','_'])
  (o:=['t','c','e','j','b','o'])
  (by kernel_rfl) PySem.F.owner_object]
 kernel_rfl
structure Ap(n l1 l2 l3:Nat):Prop where
 a1:l1 < n
 a2:l2 < n
 a3:l3 < n
theorem dif{a b:Nat}(h:a < b∨b < a):(show Addr from a)≠(show Addr from b):=fun e=>by
 have e:a=b:=e
 omega
section
variable {prog:Program}{w:World}{A:Around}{E:Value→Shared→Prop}{s:Shared}
theorem up3{T:Addr}{a b c x:Value}{k:Nat}{Q:Unit→Shared→Prop}(hT:IsTri s.heap T a b c)
  (h:∀ h',h'.get? T=some { cls:=.type "tuple", data:=.seq ((#[a,b,c]:Array Value).setIfInBounds k x) }→Heap.SameBut T s.heap h'→Q () { s with heap:=h' }) :
  wpAny (model prog w) A (updateSeq T (·.setIfInBounds k x)) Q E s:=by
 refine wpAny_updateSeq hT rfl (h _ ?_ (Heap.SameBut.update ..))
 rw[Heap.get?_update_self _ hT rfl]
 simp[Obj.mapSeq]
abbrev hp1(h:Heap)(l1:Addr):Heap:=h.push { cls:=.type "list_iterator", data:=.fields #[.ref l1,.int 0 0] }
abbrev hp2(h:Heap)(l1 l2:Addr):Heap:=hp1 (hp1 h l1) l2
abbrev hp3(h:Heap)(l1 l2 l3:Addr):Heap:=hp1 (hp2 h l1 l2) l3
abbrev hp4(h:Heap)(l1 l2 l3:Addr):Heap:=(hp3 h l1 l2 l3).push { cls:=.type "tuple", data:=.seq #[.ref h.objs.size,.ref (hp1 h l1).objs.size,.ref (hp2 h l1 l2).objs.size] }
abbrev hp5(h:Heap)(l1 l2 l3:Addr):Heap:=(hp4 h l1 l2 l3).push { cls:=.type "tuple", data:=.seq #[.none,.none,.none] }
abbrev hp6(h:Heap)(l1 l2 l3:Addr):Heap:=(hp5 h l1 l2 l3).push { cls:=.type "zip", data:=.fields #[.none,.bool false,.bool false,.ref (hp3 h l1 l2 l3).objs.size,.ref (hp4 h l1 l2 l3).objs.size] }
theorem new3(l1 l2 l3:Addr)(xs ys zs:Array Value) :
  Meets (Builtin.«zip.__new__» ⟨[.type "zip", .ref l1,.ref l2,.ref l3],[]⟩) (fun _ R s=>s.heap.IsList l1 xs∧s.heap.IsList l2 ys∧s.heap.IsList l3 zs ∧
   R (.ok (.ret (.ref (hp5 s.heap l1 l2 l3).objs.size))) { s with heap:=hp6 s.heap l1 l2 l3 }) :=
 .of_wp fun prog w A R s h=>by
  obtain⟨hp,g,d,tk,os⟩:=s
  obtain⟨hl1,hl2,hl3,h⟩:=h
  have hsub:=sub_zip
  have hL1:Heap.IsList (Shared.heap ⟨hp,g,d,tk,os⟩) l1 xs:=hl1
  have hL2:Heap.IsList (Shared.heap ⟨hp1 hp l1,g,d,tk,os⟩) l2 ys:=Heap.IsList.push hl2 _
  have hL3:Heap.IsList (Shared.heap ⟨hp2 hp l1 l2,g,d,tk,os⟩) l3 zs:=Heap.IsList.push (Heap.IsList.push hl3 _) _
  wp_walk using wpAny_pyIter_list hL1,wpAny_pyIter_list hL2,wpAny_pyIter_list hL3
  exact⟨_,rfl,h⟩
theorem call3{l1 l2 l3:Addr}{xs ys zs:Array Value}{Q:Value→Shared→Prop}(hl1:s.heap.IsList l1 xs)(hl2:s.heap.IsList l2 ys)(hl3:s.heap.IsList l3 zs)
  (h:∀ h' n,n=s.heap.objs.size→IsZip h' (n+5) (n+3) (n+4) .none→IsTri h' (n+3) (.ref n) (.ref (n+1)) (.ref (n+2)) →
   IsTri h' (n+4) .none .none .none→h'.IsListIter n l1 0→h'.IsListIter (n+1) l2 0→h'.IsListIter (n+2) l3 0 →
   (∀ c o,s.heap.get? c=some o→h'.get? c=some o)→Q (.ref (n+5)) { s with heap:=h' }) :
  wpAny (model prog w) A (call (.type "zip") [.ref l1,.ref l2,.ref l3]) Q E s:=by
 refine callType_new F.called_zip (by decide) (tc _ _ _) (nc _ _ _) (fun obj=>ac obj _ _ _) F.entry_zip_new
  (new3 l1 l2 l3 xs ys zs) ⟨hl1,hl2,hl3,?_⟩
 have z1:(hp1 s.heap l1).objs.size=s.heap.objs.size+1:=Heap.size_push ..
 have z2:(hp2 s.heap l1 l2).objs.size=s.heap.objs.size+2:=by rw[Heap.size_push,z1]
 have z3:(hp3 s.heap l1 l2 l3).objs.size=s.heap.objs.size+3:=by rw[Heap.size_push,z2]
 have z4:(hp4 s.heap l1 l2 l3).objs.size=s.heap.objs.size+4:=by rw[Heap.size_push,z3]
 have z5:(hp5 s.heap l1 l2 l3).objs.size=s.heap.objs.size+5:=by rw[Heap.size_push,z4]
 have up {h:Heap} {o:Obj} {c:Addr} {u:Obj} (e:h.get? c=some u):(h.push o).get? c=some u:=Heap.get?_push_of_some _ e
 have g6:(hp6 s.heap l1 l2 l3).get? (hp5 s.heap l1 l2 l3).objs.size=some _:=Heap.get?_push_size _ rfl
 have g5:(hp6 s.heap l1 l2 l3).get? (hp4 s.heap l1 l2 l3).objs.size=some _:=up (Heap.get?_push_size _ rfl)
 have g4:(hp6 s.heap l1 l2 l3).get? (hp3 s.heap l1 l2 l3).objs.size=some _:=up (up (Heap.get?_push_size _ rfl))
 have g3:(hp6 s.heap l1 l2 l3).get? (hp2 s.heap l1 l2).objs.size=some _:=up (up (up (Heap.get?_push_size _ rfl)))
 have g2:(hp6 s.heap l1 l2 l3).get? (hp1 s.heap l1).objs.size=some _:=up (up (up (up (Heap.get?_push_size _ rfl))))
 have g1:(hp6 s.heap l1 l2 l3).get? s.heap.objs.size=some _:=up (up (up (up (up (Heap.get?_push_size _ rfl)))))
 show _∧_
 rw[z3,z4,z5] at g6
 rw[z4] at g5
 rw[z1,z2,z3] at g4
 rw[z2] at g3
 rw[z1] at g2
 rw[z5]
 exact⟨⟨_,g6,rfl⟩,h _ _ rfl g6 g4 g5 ⟨_,g1,rfl,rfl⟩ ⟨_,g2,rfl,rfl⟩ ⟨_,g3,rfl,rfl⟩ fun c o x=>up (up (up (up (up (up x)))))⟩
theorem item3{n l1 l2 l3:Addr}{k:Nat}{xs ys zs:Array Value}{x y v a b c:Value}{Q:Option Value→Shared→Prop}(D:Ap n l1 l2 l3)
  (hz:IsZip s.heap (n+5) (n+3) (n+4) .none) (hTI:IsTri s.heap (n+3) (.ref n) (.ref (n+1)) (.ref (n+2))) (hTO:IsTri s.heap (n+4) a b c)
  (h1:s.heap.IsListIter n l1 k) (h2:s.heap.IsListIter (n+1) l2 k) (h3:s.heap.IsListIter (n+2) l3 k) (hl1:s.heap.IsList l1 xs) (hl2:s.heap.IsList l2 ys) (hl3:s.heap.IsList l3 zs) (hx:xs[k]?=some x) (hy:ys[k]?=some y) (hv:zs[k]?=some v)
  (hQ:∀ h',IsZip h' (n+5) (n+3) (n+4) (rawInt s.heap.objs.size)→IsTri h' (n+4) x y v→h'.IsListIter n l1 (k+1)→h'.IsListIter (n+1) l2 (k+1)→h'.IsListIter (n+2) l3 (k+1)→IsTri h' s.heap.objs.size x y v →
   (∀ q o,q≠n+5→q≠n+4→q≠n→q≠n+1→q≠n+2→s.heap.get? q=some o→h'.get? q=some o)→Q (some (.ref s.heap.objs.size)) { s with heap:=h' }) :
  wpAny (model prog w) A (pyNext (.ref (n+5))) Q E s:=by
 obtain⟨d1,d2,d3⟩:=D
 have q0:n≠n+4:=dif (.inl (by omega))
 have q1:n+1≠n+4:=dif (.inl (by omega))
 have q2:n+2≠n+4:=dif (.inl (by omega))
 have q3:n≠n+1:=dif (.inl (by omega))
 have q4:n≠n+2:=dif (.inl (by omega))
 have q5:n+1≠n+2:=dif (.inl (by omega))
 have z0:n≠n+5:=dif (.inl (by omega))
 have z1:n+1≠n+5:=dif (.inl (by omega))
 have z2:n+2≠n+5:=dif (.inl (by omega))
 have z4:n+4≠n+5:=dif (.inl (by omega))
 have L1:∀ j,l1≠n+j:=fun j=>dif (.inl (by omega))
 have L2:∀ j,l2≠n+j:=fun j=>dif (.inl (by omega))
 have L3:∀ j,l3≠n+j:=fun j=>dif (.inl (by omega))
 have hT:s.TypeIs (.ref (n+5)) "zip" := ⟨_,hz,rfl⟩
 unfold pyNext
 refine wpAny_bind (wpAny_attempt (wpAny_callSpecial?_slot (name:=Str.ofString "__next__") hT F.slot_zip_next
  (wpAny_call_entry F.slot_zip_next hT F.entry_zip_next ?_ (F.args_zip_next_1 _))))
 show wpAny _ _ (field (.ref (n+5)) 2 >>= _) _ _ _
 refine wpAny_bind (wpAny_field hz rfl (x:=.bool false) rfl ?_)
 show wpAny _ _ (field (.ref (n+5)) 3 >>= _) _ _ _
 refine wpAny_bind (wpAny_field hz rfl (x:=.ref (n+3)) rfl ?_)
 refine wpAny_bind (wpAny_seqItems hTI rfl ?_)
 show wpAny _ _ (Builtin.SmallTypes.ownedTupleIsFree (.ref (n+5)) >>= _) _ _ _
 refine wpAny_bind ?_
 unfold Builtin.SmallTypes.ownedTupleIsFree
 refine wpAny_bind (wpAny_field hz rfl (x:=.none) rfl (wpAny_pure ?_))
 simp only[if_true]
 refine wpAny_bind (wpAny_rule ?_)
 refine wpAny_bind (wpAny_field hz rfl (x:=.ref (n+4)) rfl ?_)
 refine wpAny_bind (wpAny_setField_rec hz (by simp) fun g1 hz1 s1=>?_)
 replace hz1:IsZip g1 (n+5) (n+3) (n+4) .ellipsis:=hz1
 refine wpAny_bind ?_
 simp only[List.zipIdx_cons,List.zipIdx_nil,List.forIn_cons,List.forIn_nil]
 refine wpAny_bind (wpAny_bind (wpAny_onRaise ?_))
 show wpAny _ _ (Builtin.SmallTypes.nextOf (.ref n) >>= _) _ _ _
 refine wpAny_bind (wpAny_nextOf_list_item (h1.extBut s1.extBut z0) (hl1.extBut s1.extBut (L1 5)) hx fun g2 i1 s2=>wpAny_pure ?_)
 have t2:IsTri g2 (n+4) a b c:=s2.extBut _ _ q0.symm (s1.extBut _ _ z4 hTO)
 refine wpAny_bind (wpAny_seqItems t2 rfl ?_)
 refine wpAny_bind (up3 t2 fun g3 t3 s3=>?_)
 replace t3:IsTri g3 (n+4) x b c:=t3
 refine wpAny_bind (wpAny_letGo (wpAny_pure ?_))
 refine wpAny_bind (wpAny_bind (wpAny_onRaise ?_))
 show wpAny _ _ (Builtin.SmallTypes.nextOf (.ref (n+1)) >>= _) _ _ _
 refine wpAny_bind (wpAny_nextOf_list_item (((h2.extBut s1.extBut z1).extBut s2.extBut q3.symm).extBut s3.extBut q1)
  (((hl2.extBut s1.extBut (L2 5)).extBut s2.extBut (L2 0)).extBut s3.extBut (L2 4)) hy fun g4 i2 s4=>wpAny_pure ?_)
 have t4:IsTri g4 (n+4) x b c:=s4.extBut _ _ q1.symm t3
 refine wpAny_bind (wpAny_seqItems t4 rfl ?_)
 refine wpAny_bind (up3 t4 fun g5 t5 s5=>?_)
 replace t5:IsTri g5 (n+4) x y c:=t5
 refine wpAny_bind (wpAny_letGo (wpAny_pure ?_))
 refine wpAny_bind (wpAny_bind (wpAny_onRaise ?_))
 show wpAny _ _ (Builtin.SmallTypes.nextOf (.ref (n+2)) >>= _) _ _ _
 refine wpAny_bind (wpAny_nextOf_list_item (((((h3.extBut s1.extBut z2).extBut s2.extBut q4.symm).extBut s3.extBut q2).extBut s4.extBut q5.symm).extBut s5.extBut q2)
  (((((hl3.extBut s1.extBut (L3 5)).extBut s2.extBut (L3 0)).extBut s3.extBut (L3 4)).extBut s4.extBut (L3 1)).extBut s5.extBut (L3 4)) hv fun g6 i3 s6=>wpAny_pure ?_)
 have t6:IsTri g6 (n+4) x y c:=s6.extBut _ _ q2.symm t5
 refine wpAny_bind (wpAny_seqItems t6 rfl ?_)
 refine wpAny_bind (up3 t6 fun g7 t7 s7=>?_)
 replace t7:IsTri g7 (n+4) x y v:=t7
 refine wpAny_bind (wpAny_letGo (wpAny_pure (wpAny_pure ?_)))
 refine wpAny_bind (wpAny_seqItems t7 rfl ?_)
 refine wpAny_bind (wpAny_newTuple ?_)
 have hsz:g7.objs.size=s.heap.objs.size:=by rw[s7.1,s6.1,s5.1,s4.1,s3.1,s2.1,s1.1]
 have hz7:IsZip g7 (n+5) (n+3) (n+4) .ellipsis:=s7.extBut _ _ z4.symm (s6.extBut _ _ z2.symm (s5.extBut _ _ z4.symm (s4.extBut _ _ z1.symm (s3.extBut _ _ z4.symm (s2.extBut _ _ z0.symm hz1)))))
 have kk:∀ q o,q≠n+5→q≠n+4→q≠n→q≠n+1→q≠n+2→s.heap.get? q=some o→g7.get? q=some o:=fun q o c5 c4 c0 c1 c2 e =>
  s7.extBut _ _ c4 (s6.extBut _ _ c2 (s5.extBut _ _ c4 (s4.extBut _ _ c1 (s3.extBut _ _ c4 (s2.extBut _ _ c0 (s1.extBut _ _ c5 e))))))
 have j1:g7.IsListIter n l1 (k+1):=((((i1.extBut s3.extBut q0).extBut s4.extBut q3).extBut s5.extBut q0).extBut s6.extBut q4).extBut s7.extBut q0
 have j2:g7.IsListIter (n+1) l2 (k+1):=((i2.extBut s5.extBut q1).extBut s6.extBut q5).extBut s7.extBut q1
 have j3:g7.IsListIter (n+2) l3 (k+1):=i3.extBut s7.extBut q2
 have zlt:n+5 < g7.objs.size:=Heap.lt_size hz7
 show wpAny _ _ (Builtin.SmallTypes.ownedTupleHandOut (.ref (n+5)) (.ref g7.objs.size) >>= _) _ _ _
 refine wpAny_bind ?_
 unfold Builtin.SmallTypes.ownedTupleHandOut
 have hz8:IsZip (g7.push { cls:=.type "tuple", data:=.seq #[x,y,v] }) (n+5) (n+3) (n+4) .ellipsis:=Heap.get?_push_of_some _ hz7
 refine wpAny_bind (wpAny_setField_rec hz8 (by simp) fun g9 hz9 s9=>?_)
 replace hz9:IsZip g9 (n+5) (n+3) (n+4) (rawInt g7.objs.size):=hz9
 refine wpAny_setField_rec hz9 (by simp) fun g10 hz10 s10=>?_
 replace hz10:IsZip g10 (n+5) (n+3) (n+4) (rawInt g7.objs.size):=hz10
 have up:∀ q o,q≠n+5→g7.get? q=some o→g10.get? q=some o:=fun q o c1 e=>s10.extBut _ _ c1 (s9.extBut _ _ c1 (Heap.get?_push_of_some _ e))
 have tt:IsTri g10 g7.objs.size x y v:=s10.extBut _ _ (Nat.ne_of_gt zlt) (s9.extBut _ _ (Nat.ne_of_gt zlt) (Heap.get?_push_size _ rfl))
 rw[hsz] at hz10 tt
 refine wpAny_pure ⟨_,rfl,wpAny_pure ?_⟩
 show Q (some (.ref g7.objs.size)) _
 rw[hsz]
 exact hQ g10 hz10 (up _ _ z4 t7) (j1.at fun o e=>up _ o z0 e) (j2.at fun o e=>up _ o z1 e) (j3.at fun o e=>up _ o z2 e) tt fun q o c5 c4 c0 c1 c2 e=>up q o c5 (kk q o c5 c4 c0 c1 c2 e)
theorem end3{n l1 l2 l3:Addr}{k:Nat}{xs:Array Value}{a b c:Value}{Q:Option Value→Shared→Prop}(hh:A.handled=none)(D:Ap n l1 l2 l3)
  (hz:IsZip s.heap (n+5) (n+3) (n+4) .none) (hTI:IsTri s.heap (n+3) (.ref n) (.ref (n+1)) (.ref (n+2))) (hTO:IsTri s.heap (n+4) a b c)
  (h1:s.heap.IsListIter n l1 k) (hl1:s.heap.IsList l1 xs) (hx:xs[k]?=none)
  (hQ:∀ h',(∀ q o,q≠n+5→q≠n→s.heap.get? q=some o→h'.get? q=some o)→Q none { s with heap:=h' }) :
  wpAny (model prog w) A (pyNext (.ref (n+5))) Q E s:=by
 obtain⟨d1,d2,d3⟩:=D
 have z0:n≠n+5:=dif (.inl (by omega))
 have L1:∀ j,l1≠n+j:=fun j=>dif (.inl (by omega))
 have hT:s.TypeIs (.ref (n+5)) "zip" := ⟨_,hz,rfl⟩
 unfold pyNext
 refine wpAny_bind (wpAny_attempt (wpAny_callSpecial?_slot (name:=Str.ofString "__next__") hT F.slot_zip_next
  (wpAny_call_entry F.slot_zip_next hT F.entry_zip_next ?_ (F.args_zip_next_1 _))))
 show wpAny _ _ (field (.ref (n+5)) 2 >>= _) _ _ _
 refine wpAny_bind (wpAny_field hz rfl (x:=.bool false) rfl ?_)
 show wpAny _ _ (field (.ref (n+5)) 3 >>= _) _ _ _
 refine wpAny_bind (wpAny_field hz rfl (x:=.ref (n+3)) rfl ?_)
 refine wpAny_bind (wpAny_seqItems hTI rfl ?_)
 show wpAny _ _ (Builtin.SmallTypes.ownedTupleIsFree (.ref (n+5)) >>= _) _ _ _
 refine wpAny_bind ?_
 unfold Builtin.SmallTypes.ownedTupleIsFree
 refine wpAny_bind (wpAny_field hz rfl (x:=.none) rfl (wpAny_pure ?_))
 simp only[if_true]
 refine wpAny_bind (wpAny_rule ?_)
 refine wpAny_bind (wpAny_field hz rfl (x:=.ref (n+4)) rfl ?_)
 refine wpAny_bind (wpAny_setField_rec hz (by simp) fun g1 hz1 s1=>?_)
 replace hz1:IsZip g1 (n+5) (n+3) (n+4) .ellipsis:=hz1
 refine wpAny_bind ?_
 simp only[List.zipIdx_cons,List.zipIdx_nil,List.forIn_cons,List.forIn_nil]
 refine wpAny_bind (wpAny_bind (wpAny_onRaise ?_))
 show wpAny _ _ (Builtin.SmallTypes.nextOf (.ref n) >>= _) _ _ _
 refine wpAny_bind (wpAny_nextOf_list_end hh (h1.extBut s1.extBut z0) (hl1.extBut s1.extBut (L1 5)) hx fun g2 e s2 he=>?_)
 obtain⟨oe,hoe,hce⟩:=he
 have hz2:IsZip g2 (n+5) (n+3) (n+4) .ellipsis:=s2 _ _ z0.symm hz1
 have hez:e≠n+5:=fun x=>by
  rw[x,hz2] at hoe
  cases hoe
  simp at hce
 refine wpAny_setField_rec hz2 (by simp) fun g3 _ s3=>?_
 refine wpAny_bind (wpAny_isInstance (T := "StopIteration") (b:=true) ⟨oe,s3.extBut _ _ hez hoe,hce⟩ isSubtype_stop ?_)
 exact wpAny_pure (hQ g3 fun q o c5 c0 x=>s3.extBut _ _ c5 (s2 _ _ c0 (s1.extBut _ _ c5 x)))
end
end Z3
namespace L2
open PySem PySem.Spec PyProof.Rows Z3
section
variable {X:Cx}
def Itz3(K:PySem.W.Frag)(a b c:Addr):It :=
 ⟨fun i H=>∃ xs ys zs x y z,SqL K H a xs∧SqL K H b ys∧SqL K H c zs∧xs[i]?=some x∧ys[i]?=some y∧zs[i]?=some z,
   fun i H v H'=>∃ p x y z,H p=none∧(∀ xs,SqL K H a xs→xs[i]?=some x)∧(∀ ys,SqL K H b ys→ys[i]?=some y)∧(∀ zs,SqL K H c zs→zs[i]?=some z)∧v=.ref p∧H'=upd H p (.tup [x,y,z]),
   fun i H=>∃ xs,SqL K H a xs∧i=xs.length⟩
theorem turn_zip3{P:Program}{w:World}{K:PySem.W.Frag}{elts:List Expr}{k:Nat}{tp:Pos}(n a b c:Addr)(D:Ap n a b c) :
  Turn P w K (.Tuple elts k tp) (Itz3 K a b c) [n+5,n+3,n+4,n,n+1,n+2] (n+5) (fun i h=>IsZip h (n+5) (n+3) (n+4) .none∧IsTri h (n+3) (.ref n) (.ref (n+1)) (.ref (n+2))∧(∃ a b c,IsTri h (n+4) a b c)∧h.IsListIter n a i∧h.IsListIter (n+1) b i∧h.IsListIter (n+2) c i) where
 mem:=by simp
 obj:=fun i h st q hb=>by
  obtain⟨s1,s2,⟨_,_,_,s3⟩,⟨o4,e4,_,d4⟩,⟨o5,e5,_,d5⟩,⟨o6,e6,_,d6⟩⟩:=st
  simp only[List.mem_cons,List.not_mem_nil,or_false] at hb
  rcases hb with rfl | rfl | rfl | rfl | rfl | rfl
  ·exact⟨_,s1,fun v z=>by cases (show Data.fields _=Data.cell v from z)⟩
  ·exact⟨_,s2,fun v z=>by cases (show Data.seq _ _=Data.cell v from z)⟩
  ·exact⟨_,s3,fun v z=>by cases (show Data.seq _ _=Data.cell v from z)⟩
  ·exact⟨_,e4,fun v z=>by rw[d4] at z;cases z⟩
  ·exact⟨_,e5,fun v z=>by rw[d5] at z;cases z⟩
  ·exact⟨_,e6,fun v z=>by rw[d6] at z;cases z⟩
 keep:=fun i h h' st hk=>by
  obtain⟨s1,s2,⟨_,_,_,s3⟩,s4,s5,s6⟩:=st
  exact⟨hk _ (by simp) _ s1,hk _ (by simp) _ s2,⟨_,_,_,hk _ (by simp) _ s3⟩,s4.at fun o e=>hk n (by simp) o e,s5.at fun o e=>hk (n+1) (by simp) o e,s6.at fun o e=>hk (n+2) (by simp) o e⟩
 item:=by
  intro X hP hw hK hc i pins s σ H E I hf st hg
  subst hP hw hK
  obtain⟨xs,ys,zs,x,y,z,hq1,hq2,hq3,hx,hy,hz⟩:=hg
  obtain⟨its1,rv1,p1,hz1⟩:=I.list hq1
  obtain⟨its2,rv2,p2,hz2⟩:=I.list hq2
  obtain⟨its3,rv3,p3,hz3⟩:=I.list hq3
  obtain⟨u1,hu1,ru1⟩:=rv1.get hx
  obtain⟨u2,hu2,ru2⟩:=rv2.get hy
  obtain⟨u3,hu3,ru3⟩:=rv3.get hz
  obtain⟨s1,s2,⟨_,_,_,s3⟩,s4,s5,s6⟩:=st
  refine item3 D s1 s2 s3 s4 s5 s6 p1.isList p2.isList p3.isList (by simpa using hu1) (by simpa using hu2) (by simpa using hu3) fun h' z1 t1 i1 i2 i3 tT kk=>?_
  have hlt:n+5 < s.heap.objs.size:=Heap.lt_size s1
  have ne:∀ q,q≤n+5→q≠s.heap.objs.size:=fun q hq=>Nat.ne_of_lt (Nat.lt_of_le_of_lt hq hlt)
  refine⟨.ref s.heap.objs.size,rfl,wpAny_letOwnedTupleGo_zip z1 fun h2 z2 k2=>?_⟩
  have d0:n≠n+5:=dif (.inl (by omega))
  have d1:n+1≠n+5:=dif (.inl (by omega))
  have d2:n+2≠n+5:=dif (.inl (by omega))
  have d3:n+3≠n+5:=dif (.inl (by omega))
  have d4:n+4≠n+5:=dif (.inl (by omega))
  have e4:n+3≠n+4:=dif (.inl (by omega))
  have e0:n+3≠n:=dif (.inr (by omega))
  have e1:n+3≠n+1:=dif (.inr (by omega))
  have e2:n+3≠n+2:=dif (.inr (by omega))
  have kept:∀ q o,q∉[n+5,n+4,n,n+1,n+2]→s.heap.get? q=some o→h2.get? q=some o:=fun q o hc e=>by
   simp only[List.mem_cons,List.not_mem_nil,or_false,not_or] at hc
   obtain⟨c5,c4,c0,c1,c2⟩:=hc
   exact k2.extBut _ _ c5 (kk q o c5 c4 c0 c1 c2 e)
  have sub:∀ q∈[n+5,n+4,n,n+1,n+2],q∈[n+5,n+3,n+4,n,n+1,n+2]:=fun q hc=>by
   simp only[List.mem_cons,List.not_mem_nil,or_false] at hc ⊢
   rcases hc with rfl | rfl | rfl | rfl | rfl<;>simp
  refine⟨.ref s.heap.objs.size,upd H s.heap.objs.size (.tup [x,y,z]),I.laidL (t':=s.toks) kept (fun q hc=>hf q (sub q hc)) (Nat.le_refl _) ⟨by show 3≤sizeLine;decide,[u1,u2,u3],.cons ru1 (.cons ru2 (.cons ru3 .nil)),?_⟩,rfl,
   ⟨s.heap.objs.size,x,y,z,I.hok.fresh (Nat.le_refl _),fun zs hzs=>by rw[I.list_inj hzs hq1];exact hx,fun zs hzs=>by rw[I.list_inj hzs hq2];exact hy,fun zs hzs=>by rw[I.list_inj hzs hq3];exact hz,rfl,rfl⟩,⟨z2,?_,⟨_,_,_,k2.extBut _ _ d4 t1⟩,i1.extBut k2.extBut d0,i2.extBut k2.extBut d1,i3.extBut k2.extBut d2⟩,fun q hc=>?_⟩
  ·exact⟨_,k2.extBut _ _ (Nat.ne_of_gt hlt) tT,rfl,_,rfl⟩
  ·exact k2.extBut _ _ d3 (kk _ _ d3 e4 e0 e1 e2 s2)
  ·have hcn:=(hf q hc).1
   have hcl:q≤n+5:=by
    simp only[List.mem_cons,List.not_mem_nil,or_false] at hc
    rcases hc with rfl | rfl | rfl | rfl | rfl | rfl<;>first | exact Nat.le_refl _ | (show (_:Nat)≤_;omega)
   rw[upd_ne (ne q hcl)]
   exact hcn
 done:=by
  intro X hP hw hK hc i pins s σ H E I hf st hg
  subst hP hw hK
  obtain⟨xs,hq1,hx⟩:=hg
  obtain⟨its1,rv1,p1,hz1⟩:=I.list hq1
  obtain⟨s1,s2,⟨_,_,_,s3⟩,s4,s5,s6⟩:=st
  have sub:∀ q∈[n+5,n],q∈[n+5,n+3,n+4,n,n+1,n+2]:=fun q hc=>by
   simp only[List.mem_cons,List.not_mem_nil,or_false] at hc ⊢
   rcases hc with rfl | rfl<;>simp
  refine end3 (I.ok.hd hc) D s1 s2 s3 s4 p1.isList (by rw[hx,rv1.length];simp) fun h' kk=>⟨rfl,I.turnedL (wr:=[n+5,n]) (t':=s.toks) (fun q o hq e=>?_) fun q hc=>hf q (sub q hc)⟩
  simp only[List.mem_cons,List.not_mem_nil,or_false,not_or] at hq
  exact kk q o hq.1 hq.2 e
 self:=fun _ _ _ _ _ st h=>wpAny_pyIter_zip st.1 h
def iZip3(K:PySem.W.Frag)(ta:TA):TI:=fun σ H R=>ta σ H fun vs H1=>∃ a b c,vs=[.ref a,.ref b,.ref c]∧(∃ xs,SqL K H1 a xs)∧(∃ ys,SqL K H1 b ys)∧(∃ zs,SqL K H1 c zs)∧R (Itz3 K a b c) H1
theorem pi_zip3{a b c:Expr}{ta:TA}{p pos tp:Pos}{elts:List Expr}{k:Nat}(hg:Gl X "zip")(hm:X.mg "zip" = none)(ha:PA X [a,b,c] ta)
  (hs:starEach [a,b,c] X.env=[(false,eval a X.env),(false,eval b X.env),(false,eval c X.env)]:=by rfl) (hs2:starEach [b,c] X.env=[(false,eval b X.env),(false,eval c X.env)]:=by rfl) :
  PI X (.Tuple elts k tp) (.Call (.Name "zip" p) [a,b,c] [] pos) (iZip3 X.K ta):=by
 intro pins s σ H R I h
 refine Call_ (ld_blt I hg hm boot_zip (PyProof.Rows.callWith_type1 (thn (ha pos pins s σ H _ I h) fun us s1 ⟨vs,H1,I1,r1,q1⟩=>?_) (by rw[hs,hs2]) (by rw[hs2];rfl)))
 obtain⟨a',b',c',e,⟨xs,hq1⟩,⟨ys,hq2⟩,⟨zs,hq3⟩,q⟩:=q1
 subst e
 cases r1 with
 | cons r rr =>
  cases rr with
  | cons r' rr =>
   cases rr with
   | cons r'' rr =>
    cases rr
    cases r
    cases r'
    cases r''
    obtain⟨its1,rv1,p1,hz1⟩:=I1.list hq1
    obtain⟨its2,rv2,p2,hz2⟩:=I1.list hq2
    obtain⟨its3,rv3,p3,hz3⟩:=I1.list hq3
    have lt1:a' < s1.heap.objs.size:=by obtain⟨_,e,_⟩:=p1.isList;exact Heap.lt_size e
    have lt2:b' < s1.heap.objs.size:=by obtain⟨_,e,_⟩:=p2.isList;exact Heap.lt_size e
    have lt3:c' < s1.heap.objs.size:=by obtain⟨_,e,_⟩:=p3.isList;exact Heap.lt_size e
    refine call3 p1.isList p2.isList p3.isList fun h' n hn hz hTI hTO hi1 hi2 hi3 hk=>?_
    subst hn
    refine wpAny_pyIter_zip hz ?_
    refine⟨_,[_,_,_,_,_,_],_,_,H1,rfl,I1.kept (t':=s1.toks) hk,turn_zip3 _ a' b' c' ⟨lt1,lt2,lt3⟩,⟨hz,hTI,⟨_,_,_,hTO⟩,hi1,hi2,hi3⟩,fun q hc=>?_,by assumption⟩
    have hle:s1.heap.objs.size≤q:=by
     simp only[List.mem_cons,List.not_mem_nil,or_false] at hc
     rcases hc with rfl | rfl | rfl | rfl | rfl | rfl<;>first | exact Nat.le_refl _ | exact Nat.le_add_right _ _
    exact I1.fpOk hle (I1.hok.fresh hle)
end
end L2
namespace L2
open PySem PySem.Spec PyProof.Rows
theorem qi_zip3K{X:Cx}{K:PySem.W.Frag}(hK:X.K=K){a b c:Expr}{t:TA}{elts:List Expr}{k:Nat}{tp p pos:Pos}(hg:Gl X "zip")(hm:X.mg "zip" = none)(ha:QA X [a,b,c] t)
  (hs:starEach [a,b,c] X.env=[(false,eval a X.env),(false,eval b X.env),(false,eval c X.env)]:=by rfl) (hs2:starEach [b,c] X.env=[(false,eval b X.env),(false,eval c X.env)]:=by rfl) :
  QI X (.Tuple elts k tp) (.Call (.Name "zip" p) [a,b,c] [] pos) (iZip3 K t):=hK▸⟨pi_zip3 hg hm ha.p hs hs2⟩
theorem for_zip3N{K:PySem.W.Frag}{a b c:Addr}{xs ys zs:List V}{g:TG}{tb:L2.TS}{D:Ends}{σ:St}{H:Hp}(Pv:Nat→St→Hp→Prop)(h0:Pv 0 σ H)(e2:ys.length=xs.length)(e3:zs.length=xs.length)
  (hl:∀ i σ H,i≤xs.length→Pv i σ H→SqL K H a xs∧SqL K H b ys∧SqL K H c zs)
  (hs:∀(i:Nat)(x y z:V)(p:Addr)(σ:St)(H H':Hp)(N B:St→Hp→Prop),xs[i]?=some x→ys[i]?=some y→zs[i]?=some z→H p=none→Same H H'→H' p=some (.tup [x,y,z])→Pv i σ H→(∀ σ' H',Pv (i+1) σ' H'→N σ' H')→(∀ σ' H',D.nx σ' H'→B σ' H')→g (.ref p) σ H' fun σ2 H2=>tb { nx:=N,rt:=D.rt,bk:=B,ct:=N } σ2 H2) (hd:∀ σ H,Pv xs.length σ H→D.nx σ H) :
  ∃ W:Nat→Nat→St→Hp→Prop,(∃ m,W 0 m σ H)∧∀ i m σ H,W i m σ H →
   ((Itz3 K a b c).stop i H∧D.nx σ H)∨((Itz3 K a b c).go i H∧∃ N:St→Hp→Prop,(∀ σ' H',N σ' H'→∃ m',m' < m∧W (i+1) m' σ' H')∧∀ x H',(Itz3 K a b c).yld i H x H'→g x σ H' fun σ2 H2=>tb { D with nx:=N,ct:=N,bk:=D.nx } σ2 H2):=by
 refine⟨fun i m σ H=>m=xs.length - i∧i≤xs.length∧Pv i σ H,⟨xs.length,by simp,Nat.zero_le _,h0⟩,?_⟩
 rintro i m σ H ⟨rfl,hi,p⟩
 obtain⟨q1,q2,q3⟩:=hl i σ H hi p
 by_cases hlt:i < xs.length
 ·have l2:i < ys.length:=by omega
  have l3:i < zs.length:=by omega
  refine .inr ⟨⟨xs,ys,zs,xs[i],ys[i],zs[i],q1,q2,q3,by simp[hlt],by simp[l2],by simp[l3]⟩,Pv (i+1),fun σ' H' p'=>⟨xs.length - (i+1),by omega,rfl,hlt,p'⟩,fun v H' y=>?_⟩
  obtain⟨pp,x,y,z,hn,y1,y2,y3,rfl,rfl⟩:=y
  exact hs i x y z pp σ H _ (Pv (i+1)) D.nx (y1 xs q1) (y2 ys q2) (y3 zs q3) hn (Same.new hn) upd_same p (fun _ _ h=>h) fun _ _ h=>h
 ·have e:i=xs.length:=by omega
  subst e
  exact .inl ⟨⟨xs,q1,rfl⟩,hd σ H p⟩
end L2
namespace ZT
open PySem PySem.Spec PyProof.Rows
abbrev IsPr(h:Heap)(T:Addr)(a b:Value):Prop:=h.get? T=some { cls:=.type "tuple", data:=.seq #[a,b] }
theorem tc(a b:Value):checkTypeCall "zip" ⟨[a,b],[]⟩=pure ():=by kernel_rfl
theorem nc(a b:Value):checkBuiltinCall "zip.__new__" ⟨[.type "zip", a,b],[]⟩=pure ():=by kernel_rfl
theorem ac(a b d:Value):argsOk "object.__init__" ⟨[a,b,d],[]⟩:=by
 unfold argsOk
 rw[signature?_of (id := "object.__init__")
  (n:=['_','_','t','i','n','i','_','_'])
  (o:=['t','c','e','j','b','o'])
  (by kernel_rfl) PySem.F.owner_object]
 kernel_rfl
structure Ap(n l1 l2:Nat):Prop where
 a1:l1 < n
 a2:l2 < n
section
variable {prog:Program}{w:World}{A:Around}{E:Value→Shared→Prop}{s:Shared}
theorem nxT{it l:Addr}{i:Nat}{items:Array Value}{x:Value}{Q:Value→Shared→Prop}(hit:s.heap.IsTupleIter it l i)
  (hl:s.heap.IsTuple l items) (hx:items[i]?=some x)
  (hQ:∀ h',h'.IsTupleIter it l (i+1)→Heap.SameBut it s.heap h'→Q x { s with heap:=h' }) :
  wpAny (model prog w) A (Builtin.SmallTypes.nextOf (.ref it)) Q E s:=by
 obtain⟨o,ho,hc,hd⟩:=id hit
 obtain⟨ol,hol,_,nl,hdl⟩:=hl
 unfold Builtin.SmallTypes.nextOf
 refine wpAny_bind (wpAny_callSpecial?_slot (name:=Str.ofString "__next__") hit.typeIs F.slot_tuple_iterator_next
  (wpAny_call_entry F.slot_tuple_iterator_next hit.typeIs F.entry_tuple_iterator_next ?_ (F.args_tuple_iterator_next_1 _)))
 show wpAny _ _ (field (.ref it) 0 >>= _) _ _ s
 refine wpAny_bind (wpAny_field ho hd (x:=.ref l) rfl ?_)
 show wpAny _ _ (if (Value.ref l == Value.none)=true then _ else _) _ _ s
 rw[if_neg (show ¬ ((Value.ref l == Value.none)=true) from Bool.false_ne_true)]
 show wpAny _ _ (field (.ref it) 1 >>= _) _ _ s
 refine wpAny_bind (wpAny_field ho hd (x:=.int i 0) rfl ?_)
 show wpAny _ _ (seqItems? (.ref l) >>= _) _ _ s
 refine wpAny_bind (wpAny_seqItems hol hdl ?_)
 simp only[Int.toNat_natCast,hx]
 refine wpAny_bind (wpAny_setField ho hd (by simp) (wpAny_pure ⟨x,rfl,wpAny_pure (hQ _ ?_ (Heap.SameBut.update ..))⟩))
 exact⟨_,Heap.get?_update_self _ ho (Obj.isFreed_of_fields (Obj.data_mapFields hd _)),(Obj.cls_mapFields ..).trans hc,by
  rw[Obj.data_mapFields hd];simp[rawInt]⟩
theorem nxE{it l:Addr}{i:Nat}{items:Array Value}{Q:Value→Shared→Prop}(hh:A.handled=none)
  (hit:s.heap.IsTupleIter it l i) (hl:s.heap.IsTuple l items) (hx:items[i]?=none)
  (hE:∀ h' e,Heap.ExtBut it s.heap h'→(∃ o,h'.get? e=some o∧o.cls=.type "StopIteration")→E (.ref e) { s with heap:=h' }) :
  wpAny (model prog w) A (Builtin.SmallTypes.nextOf (.ref it)) Q E s:=by
 obtain⟨o,ho,hc,hd⟩:=id hit
 obtain⟨ol,hol,_,nl,hdl⟩:=hl
 unfold Builtin.SmallTypes.nextOf
 refine wpAny_bind (wpAny_callSpecial?_slot (name:=Str.ofString "__next__") hit.typeIs F.slot_tuple_iterator_next
  (wpAny_call_entry F.slot_tuple_iterator_next hit.typeIs F.entry_tuple_iterator_next ?_ (F.args_tuple_iterator_next_1 _)))
 show wpAny _ _ (field (.ref it) 0 >>= _) _ _ s
 refine wpAny_bind (wpAny_field ho hd (x:=.ref l) rfl ?_)
 show wpAny _ _ (if (Value.ref l == Value.none)=true then _ else _) _ _ s
 rw[if_neg (show ¬ ((Value.ref l == Value.none)=true) from Bool.false_ne_true)]
 show wpAny _ _ (field (.ref it) 1 >>= _) _ _ s
 refine wpAny_bind (wpAny_field ho hd (x:=.int i 0) rfl ?_)
 show wpAny _ _ (seqItems? (.ref l) >>= _) _ _ s
 refine wpAny_bind (wpAny_seqItems hol hdl ?_)
 simp only[Int.toNat_natCast,hx]
 refine wpAny_bind (wpAny_rule (wpAny_bind (wpAny_setField ho hd (by simp) ?_)))
 show wpAny _ _ (newExc (.type "StopIteration") [] >>= _) _ _ _
 refine wpAny_bind ?_
 simp only[newExc,newTuple]
 refine wpAny_bind (wpAny_newObj_type ?_ (by size_fits))
 refine wpAny_bind (m:=firstArgMember _ _) (wpAny_of_eq (a:=Value.none) (by first | rfl | (simp only[firstArgMember];rfl)) ?_)
 refine wpAny_newObj_type ?_ (by size_fits)
 simp only[raiseNew]
 refine wpAny_bind (wpAny_handled ?_)
 first | rw[show A.in1.handled=none from hh] | rw[hh]
 refine wpAny_bind (wpAny_pure (wpAny_throw ?_))
 exact hE _ _ (((Heap.SameBut.update ..).extBut.push _).push _) ⟨_,Heap.get?_push_size _ rfl,rfl⟩
theorem up2{T:Addr}{a b x:Value}{k:Nat}{Q:Unit→Shared→Prop}(hT:IsPr s.heap T a b)
  (h:∀ h',h'.get? T=some { cls:=.type "tuple", data:=.seq ((#[a,b]:Array Value).setIfInBounds k x) }→Heap.SameBut T s.heap h'→Q () { s with heap:=h' }) :
  wpAny (model prog w) A (updateSeq T (·.setIfInBounds k x)) Q E s:=by
 refine wpAny_updateSeq hT rfl (h _ ?_ (Heap.SameBut.update ..))
 rw[Heap.get?_update_self _ hT rfl]
 simp[Obj.mapSeq]
abbrev hp1(h:Heap)(l1:Addr):Heap:=h.push { cls:=.type "tuple_iterator", data:=.fields #[.ref l1,.int 0 0] }
abbrev hp2(h:Heap)(l1 l2:Addr):Heap:=hp1 (hp1 h l1) l2
abbrev hp4(h:Heap)(l1 l2:Addr):Heap:=(hp2 h l1 l2).push { cls:=.type "tuple", data:=.seq #[.ref h.objs.size,.ref (hp1 h l1).objs.size] }
abbrev hp5(h:Heap)(l1 l2:Addr):Heap:=(hp4 h l1 l2).push { cls:=.type "tuple", data:=.seq #[.none,.none] }
abbrev hp6(h:Heap)(l1 l2:Addr):Heap:=(hp5 h l1 l2).push { cls:=.type "zip", data:=.fields #[.none,.bool false,.bool false,.ref (hp2 h l1 l2).objs.size,.ref (hp4 h l1 l2).objs.size] }
theorem new2(l1 l2:Addr)(xs ys:Array Value) :
  Meets (Builtin.«zip.__new__» ⟨[.type "zip", .ref l1,.ref l2],[]⟩) (fun _ R s=>s.heap.IsTuple l1 xs∧s.heap.IsTuple l2 ys ∧
   R (.ok (.ret (.ref (hp5 s.heap l1 l2).objs.size))) { s with heap:=hp6 s.heap l1 l2 }) :=
 .of_wp fun prog w A R s h=>by
  obtain⟨hp,g,d,tk,os⟩:=s
  obtain⟨hl1,hl2,h⟩:=h
  have hsub:=sub_zip
  have hL1:Heap.IsTuple (Shared.heap ⟨hp,g,d,tk,os⟩) l1 xs:=hl1
  have hL2:Heap.IsTuple (Shared.heap ⟨hp1 hp l1,g,d,tk,os⟩) l2 ys:=by
   obtain⟨o,e,r⟩:=hl2
   exact⟨o,Heap.get?_push_of_some _ e,r⟩
  wp_walk using wpAny_pyIter_tuple hL1,wpAny_pyIter_tuple hL2
  exact⟨_,rfl,h⟩
theorem call2{l1 l2:Addr}{xs ys:Array Value}{Q:Value→Shared→Prop}(hl1:s.heap.IsTuple l1 xs)(hl2:s.heap.IsTuple l2 ys)
  (h:∀ h' n,n=s.heap.objs.size→IsZip h' (n+4) (n+2) (n+3) .none→IsPr h' (n+2) (.ref n) (.ref (n+1)) →
   IsPr h' (n+3) .none .none→h'.IsTupleIter n l1 0→h'.IsTupleIter (n+1) l2 0 →
   (∀ c o,s.heap.get? c=some o→h'.get? c=some o)→Q (.ref (n+4)) { s with heap:=h' }) :
  wpAny (model prog w) A (call (.type "zip") [.ref l1,.ref l2]) Q E s:=by
 refine callType_new F.called_zip (by decide) (tc _ _) (nc _ _) (fun obj=>ac obj _ _) F.entry_zip_new
  (new2 l1 l2 xs ys) ⟨hl1,hl2,?_⟩
 have z1:(hp1 s.heap l1).objs.size=s.heap.objs.size+1:=Heap.size_push ..
 have z2:(hp2 s.heap l1 l2).objs.size=s.heap.objs.size+2:=by rw[Heap.size_push,z1]
 have z4:(hp4 s.heap l1 l2).objs.size=s.heap.objs.size+3:=by rw[Heap.size_push,z2]
 have z5:(hp5 s.heap l1 l2).objs.size=s.heap.objs.size+4:=by rw[Heap.size_push,z4]
 have up {h:Heap} {o:Obj} {c:Addr} {u:Obj} (e:h.get? c=some u):(h.push o).get? c=some u:=Heap.get?_push_of_some _ e
 have g6:(hp6 s.heap l1 l2).get? (hp5 s.heap l1 l2).objs.size=some _:=Heap.get?_push_size _ rfl
 have g5:(hp6 s.heap l1 l2).get? (hp4 s.heap l1 l2).objs.size=some _:=up (Heap.get?_push_size _ rfl)
 have g4:(hp6 s.heap l1 l2).get? (hp2 s.heap l1 l2).objs.size=some _:=up (up (Heap.get?_push_size _ rfl))
 have g2:(hp6 s.heap l1 l2).get? (hp1 s.heap l1).objs.size=some _:=up (up (up (Heap.get?_push_size _ rfl)))
 have g1:(hp6 s.heap l1 l2).get? s.heap.objs.size=some _:=up (up (up (up (Heap.get?_push_size _ rfl))))
 show _∧_
 rw[z2,z4,z5] at g6
 rw[z4] at g5
 rw[z1,z2] at g4
 rw[z1] at g2
 rw[z5]
 exact⟨⟨_,g6,rfl⟩,h _ _ rfl g6 g4 g5 ⟨_,g1,rfl,rfl⟩ ⟨_,g2,rfl,rfl⟩ fun c o x=>up (up (up (up (up x))))⟩
theorem item2{n l1 l2:Addr}{k:Nat}{xs ys:Array Value}{x y a b:Value}{Q:Option Value→Shared→Prop}(D:Ap n l1 l2)
  (hz:IsZip s.heap (n+4) (n+2) (n+3) .none) (hTI:IsPr s.heap (n+2) (.ref n) (.ref (n+1))) (hTO:IsPr s.heap (n+3) a b)
  (h1:s.heap.IsTupleIter n l1 k) (h2:s.heap.IsTupleIter (n+1) l2 k) (hl1:s.heap.IsTuple l1 xs) (hl2:s.heap.IsTuple l2 ys) (hx:xs[k]?=some x) (hy:ys[k]?=some y)
  (hQ:∀ h',IsZip h' (n+4) (n+2) (n+3) (rawInt s.heap.objs.size)→IsPr h' (n+3) x y→h'.IsTupleIter n l1 (k+1)→h'.IsTupleIter (n+1) l2 (k+1)→IsPr h' s.heap.objs.size x y →
   (∀ q o,q≠n+4→q≠n+3→q≠n→q≠n+1→s.heap.get? q=some o→h'.get? q=some o)→Q (some (.ref s.heap.objs.size)) { s with heap:=h' }) :
  wpAny (model prog w) A (pyNext (.ref (n+4))) Q E s:=by
 obtain⟨d1,d2⟩:=D
 have q0:n≠n+3:=Z3.dif (.inl (by omega))
 have q1:n+1≠n+3:=Z3.dif (.inl (by omega))
 have q3:n≠n+1:=Z3.dif (.inl (by omega))
 have z0:n≠n+4:=Z3.dif (.inl (by omega))
 have z1:n+1≠n+4:=Z3.dif (.inl (by omega))
 have z4:n+3≠n+4:=Z3.dif (.inl (by omega))
 have L1:∀ j,l1≠n+j:=fun j=>Z3.dif (.inl (by omega))
 have L2:∀ j,l2≠n+j:=fun j=>Z3.dif (.inl (by omega))
 have hT:s.TypeIs (.ref (n+4)) "zip" := ⟨_,hz,rfl⟩
 unfold pyNext
 refine wpAny_bind (wpAny_attempt (wpAny_callSpecial?_slot (name:=Str.ofString "__next__") hT F.slot_zip_next
  (wpAny_call_entry F.slot_zip_next hT F.entry_zip_next ?_ (F.args_zip_next_1 _))))
 show wpAny _ _ (field (.ref (n+4)) 2 >>= _) _ _ _
 refine wpAny_bind (wpAny_field hz rfl (x:=.bool false) rfl ?_)
 show wpAny _ _ (field (.ref (n+4)) 3 >>= _) _ _ _
 refine wpAny_bind (wpAny_field hz rfl (x:=.ref (n+2)) rfl ?_)
 refine wpAny_bind (wpAny_seqItems hTI rfl ?_)
 show wpAny _ _ (Builtin.SmallTypes.ownedTupleIsFree (.ref (n+4)) >>= _) _ _ _
 refine wpAny_bind ?_
 unfold Builtin.SmallTypes.ownedTupleIsFree
 refine wpAny_bind (wpAny_field hz rfl (x:=.none) rfl (wpAny_pure ?_))
 simp only[if_true]
 refine wpAny_bind (wpAny_rule ?_)
 refine wpAny_bind (wpAny_field hz rfl (x:=.ref (n+3)) rfl ?_)
 refine wpAny_bind (wpAny_setField_rec hz (by simp) fun g1 hz1 s1=>?_)
 replace hz1:IsZip g1 (n+4) (n+2) (n+3) .ellipsis:=hz1
 refine wpAny_bind ?_
 simp only[List.zipIdx_cons,List.zipIdx_nil,List.forIn_cons,List.forIn_nil]
 refine wpAny_bind (wpAny_bind (wpAny_onRaise ?_))
 show wpAny _ _ (Builtin.SmallTypes.nextOf (.ref n) >>= _) _ _ _
 refine wpAny_bind (nxT (h1.extBut s1.extBut z0) (hl1.extBut s1.extBut (L1 4)) hx fun g2 i1 s2=>wpAny_pure ?_)
 have t2:IsPr g2 (n+3) a b:=s2.extBut _ _ q0.symm (s1.extBut _ _ z4 hTO)
 refine wpAny_bind (wpAny_seqItems t2 rfl ?_)
 refine wpAny_bind (up2 t2 fun g3 t3 s3=>?_)
 replace t3:IsPr g3 (n+3) x b:=t3
 refine wpAny_bind (wpAny_letGo (wpAny_pure ?_))
 refine wpAny_bind (wpAny_bind (wpAny_onRaise ?_))
 show wpAny _ _ (Builtin.SmallTypes.nextOf (.ref (n+1)) >>= _) _ _ _
 refine wpAny_bind (nxT (((h2.extBut s1.extBut z1).extBut s2.extBut q3.symm).extBut s3.extBut q1)
  (((hl2.extBut s1.extBut (L2 4)).extBut s2.extBut (L2 0)).extBut s3.extBut (L2 3)) hy fun g4 i2 s4=>wpAny_pure ?_)
 have t4:IsPr g4 (n+3) x b:=s4.extBut _ _ q1.symm t3
 refine wpAny_bind (wpAny_seqItems t4 rfl ?_)
 refine wpAny_bind (up2 t4 fun g5 t5 s5=>?_)
 replace t5:IsPr g5 (n+3) x y:=t5
 refine wpAny_bind (wpAny_letGo (wpAny_pure (wpAny_pure ?_)))
 refine wpAny_bind (wpAny_seqItems t5 rfl ?_)
 refine wpAny_bind (wpAny_newTuple ?_)
 have hsz:g5.objs.size=s.heap.objs.size:=by rw[s5.1,s4.1,s3.1,s2.1,s1.1]
 have hz7:IsZip g5 (n+4) (n+2) (n+3) .ellipsis:=s5.extBut _ _ z4.symm (s4.extBut _ _ z1.symm (s3.extBut _ _ z4.symm (s2.extBut _ _ z0.symm hz1)))
 have kk:∀ q o,q≠n+4→q≠n+3→q≠n→q≠n+1→s.heap.get? q=some o→g5.get? q=some o:=fun q o c5 c4 c0 c1 e =>
  s5.extBut _ _ c4 (s4.extBut _ _ c1 (s3.extBut _ _ c4 (s2.extBut _ _ c0 (s1.extBut _ _ c5 e))))
 have j1:g5.IsTupleIter n l1 (k+1):=((i1.extBut s3.extBut q0).extBut s4.extBut q3).extBut s5.extBut q0
 have j2:g5.IsTupleIter (n+1) l2 (k+1):=i2.extBut s5.extBut q1
 have zlt:n+4 < g5.objs.size:=Heap.lt_size hz7
 show wpAny _ _ (Builtin.SmallTypes.ownedTupleHandOut (.ref (n+4)) (.ref g5.objs.size) >>= _) _ _ _
 refine wpAny_bind ?_
 unfold Builtin.SmallTypes.ownedTupleHandOut
 have hz8:IsZip (g5.push { cls:=.type "tuple", data:=.seq #[x,y] }) (n+4) (n+2) (n+3) .ellipsis:=Heap.get?_push_of_some _ hz7
 refine wpAny_bind (wpAny_setField_rec hz8 (by simp) fun g9 hz9 s9=>?_)
 replace hz9:IsZip g9 (n+4) (n+2) (n+3) (rawInt g5.objs.size):=hz9
 refine wpAny_setField_rec hz9 (by simp) fun g10 hz10 s10=>?_
 replace hz10:IsZip g10 (n+4) (n+2) (n+3) (rawInt g5.objs.size):=hz10
 have up:∀ q o,q≠n+4→g5.get? q=some o→g10.get? q=some o:=fun q o c1 e=>s10.extBut _ _ c1 (s9.extBut _ _ c1 (Heap.get?_push_of_some _ e))
 have tt:IsPr g10 g5.objs.size x y:=s10.extBut _ _ (Nat.ne_of_gt zlt) (s9.extBut _ _ (Nat.ne_of_gt zlt) (Heap.get?_push_size _ rfl))
 rw[hsz] at hz10 tt
 refine wpAny_pure ⟨_,rfl,wpAny_pure ?_⟩
 show Q (some (.ref g5.objs.size)) _
 rw[hsz]
 exact hQ g10 hz10 (up _ _ z4 t5) (j1.at fun o e=>up _ o z0 e) (j2.at fun o e=>up _ o z1 e) tt fun q o c5 c4 c0 c1 e=>up q o c5 (kk q o c5 c4 c0 c1 e)
theorem end2{n l1 l2:Addr}{k:Nat}{xs ys:Array Value}{x a b:Value}{Q:Option Value→Shared→Prop}(hh:A.handled=none)(D:Ap n l1 l2)
  (hz:IsZip s.heap (n+4) (n+2) (n+3) .none) (hTI:IsPr s.heap (n+2) (.ref n) (.ref (n+1))) (hTO:IsPr s.heap (n+3) a b)
  (h1:s.heap.IsTupleIter n l1 k) (h2:s.heap.IsTupleIter (n+1) l2 k) (hl1:s.heap.IsTuple l1 xs) (hl2:s.heap.IsTuple l2 ys) (hx:xs[k]?=some x) (hy:ys[k]?=none)
  (hQ:∀ h',(∀ q o,q≠n+4→q≠n+3→q≠n→q≠n+1→s.heap.get? q=some o→h'.get? q=some o)→Q none { s with heap:=h' }) :
  wpAny (model prog w) A (pyNext (.ref (n+4))) Q E s:=by
 obtain⟨d1,d2⟩:=D
 have q0:n≠n+3:=Z3.dif (.inl (by omega))
 have q1:n+1≠n+3:=Z3.dif (.inl (by omega))
 have q3:n≠n+1:=Z3.dif (.inl (by omega))
 have z0:n≠n+4:=Z3.dif (.inl (by omega))
 have z1:n+1≠n+4:=Z3.dif (.inl (by omega))
 have z4:n+3≠n+4:=Z3.dif (.inl (by omega))
 have L1:∀ j,l1≠n+j:=fun j=>Z3.dif (.inl (by omega))
 have L2:∀ j,l2≠n+j:=fun j=>Z3.dif (.inl (by omega))
 have hT:s.TypeIs (.ref (n+4)) "zip" := ⟨_,hz,rfl⟩
 unfold pyNext
 refine wpAny_bind (wpAny_attempt (wpAny_callSpecial?_slot (name:=Str.ofString "__next__") hT F.slot_zip_next
  (wpAny_call_entry F.slot_zip_next hT F.entry_zip_next ?_ (F.args_zip_next_1 _))))
 show wpAny _ _ (field (.ref (n+4)) 2 >>= _) _ _ _
 refine wpAny_bind (wpAny_field hz rfl (x:=.bool false) rfl ?_)
 show wpAny _ _ (field (.ref (n+4)) 3 >>= _) _ _ _
 refine wpAny_bind (wpAny_field hz rfl (x:=.ref (n+2)) rfl ?_)
 refine wpAny_bind (wpAny_seqItems hTI rfl ?_)
 show wpAny _ _ (Builtin.SmallTypes.ownedTupleIsFree (.ref (n+4)) >>= _) _ _ _
 refine wpAny_bind ?_
 unfold Builtin.SmallTypes.ownedTupleIsFree
 refine wpAny_bind (wpAny_field hz rfl (x:=.none) rfl (wpAny_pure ?_))
 simp only[if_true]
 refine wpAny_bind (wpAny_rule ?_)
 refine wpAny_bind (wpAny_field hz rfl (x:=.ref (n+3)) rfl ?_)
 refine wpAny_bind (wpAny_setField_rec hz (by simp) fun g1 hz1 s1=>?_)
 replace hz1:IsZip g1 (n+4) (n+2) (n+3) .ellipsis:=hz1
 refine wpAny_bind ?_
 simp only[List.zipIdx_cons,List.zipIdx_nil,List.forIn_cons,List.forIn_nil]
 refine wpAny_bind (wpAny_bind (wpAny_onRaise ?_))
 show wpAny _ _ (Builtin.SmallTypes.nextOf (.ref n) >>= _) _ _ _
 refine wpAny_bind (nxT (h1.extBut s1.extBut z0) (hl1.extBut s1.extBut (L1 4)) hx fun g2 i1 s2=>wpAny_pure ?_)
 have t2:IsPr g2 (n+3) a b:=s2.extBut _ _ q0.symm (s1.extBut _ _ z4 hTO)
 refine wpAny_bind (wpAny_seqItems t2 rfl ?_)
 refine wpAny_bind (up2 t2 fun g3 t3 s3=>?_)
 replace t3:IsPr g3 (n+3) x b:=t3
 refine wpAny_bind (wpAny_letGo (wpAny_pure ?_))
 refine wpAny_bind (wpAny_bind (wpAny_onRaise ?_))
 show wpAny _ _ (Builtin.SmallTypes.nextOf (.ref (n+1)) >>= _) _ _ _
 refine wpAny_bind (nxE hh (((h2.extBut s1.extBut z1).extBut s2.extBut q3.symm).extBut s3.extBut q1)
  (((hl2.extBut s1.extBut (L2 4)).extBut s2.extBut (L2 0)).extBut s3.extBut (L2 3)) hy fun g4 e s4 he=>?_)
 obtain⟨oe,hoe,hce⟩:=he
 have hz2:IsZip g4 (n+4) (n+2) (n+3) .ellipsis:=s4 _ _ z1.symm (s3.extBut _ _ z4.symm (s2.extBut _ _ z0.symm hz1))
 have hez:e≠n+4:=fun x=>by
  rw[x,hz2] at hoe
  cases hoe
  simp at hce
 refine wpAny_setField_rec hz2 (by simp) fun g5 _ s5=>?_
 refine wpAny_bind (wpAny_isInstance (T := "StopIteration") (b:=true) ⟨oe,s5.extBut _ _ hez hoe,hce⟩ isSubtype_stop ?_)
 exact wpAny_pure (hQ g5 fun q o c5 c4 c0 c1 x=>s5.extBut _ _ c5 (s4 _ _ c1 (s3.extBut _ _ c4 (s2.extBut _ _ c0 (s1.extBut _ _ c5 x)))))
end
end ZT
namespace L2
open PySem PySem.Spec PyProof.Rows ZT
section
variable {X:Cx}
def ItzT(K:PySem.W.Frag)(a b:Addr):It :=
 ⟨fun i H=>∃ xs ys x y,SqT K H a xs∧SqT K H b ys∧xs[i]?=some x∧ys[i]?=some y,
   fun i H v H'=>∃ p x y,H p=none∧(∀ xs,SqT K H a xs→xs[i]?=some x)∧(∀ ys,SqT K H b ys→ys[i]?=some y)∧v=.ref p∧H'=upd H p (.tup [x,y]),
   fun i H=>∃ xs ys x,SqT K H a xs∧SqT K H b ys∧xs[i]?=some x∧i=ys.length⟩
theorem turn_zipT{P:Program}{w:World}{K:PySem.W.Frag}{elts:List Expr}{k:Nat}{tp:Pos}(n a b:Addr)(D:Ap n a b) :
  Turn P w K (.Tuple elts k tp) (ItzT K a b) [n+4,n+2,n+3,n,n+1] (n+4) (fun i h=>IsZip h (n+4) (n+2) (n+3) .none∧IsPr h (n+2) (.ref n) (.ref (n+1))∧(∃ a b,IsPr h (n+3) a b)∧h.IsTupleIter n a i∧h.IsTupleIter (n+1) b i) where
 mem:=by simp
 obj:=fun i h st q hb=>by
  obtain⟨s1,s2,⟨_,_,s3⟩,⟨o4,e4,_,d4⟩,⟨o5,e5,_,d5⟩⟩:=st
  simp only[List.mem_cons,List.not_mem_nil,or_false] at hb
  rcases hb with rfl | rfl | rfl | rfl | rfl
  ·exact⟨_,s1,fun v z=>by cases (show Data.fields _=Data.cell v from z)⟩
  ·exact⟨_,s2,fun v z=>by cases (show Data.seq _ _=Data.cell v from z)⟩
  ·exact⟨_,s3,fun v z=>by cases (show Data.seq _ _=Data.cell v from z)⟩
  ·exact⟨_,e4,fun v z=>by rw[d4] at z;cases z⟩
  ·exact⟨_,e5,fun v z=>by rw[d5] at z;cases z⟩
 keep:=fun i h h' st hk=>by
  obtain⟨s1,s2,⟨_,_,s3⟩,s4,s5⟩:=st
  exact⟨hk _ (by simp) _ s1,hk _ (by simp) _ s2,⟨_,_,hk _ (by simp) _ s3⟩,s4.at fun o e=>hk n (by simp) o e,s5.at fun o e=>hk (n+1) (by simp) o e⟩
 item:=by
  intro X hP hw hK hc i pins s σ H E I hf st hg
  subst hP hw hK
  obtain⟨xs,ys,x,y,hq1,hq2,hx,hy⟩:=hg
  obtain⟨its1,rv1,p1,hz1⟩:=I.tuple hq1
  obtain⟨its2,rv2,p2,hz2⟩:=I.tuple hq2
  obtain⟨u1,hu1,ru1⟩:=rv1.get hx
  obtain⟨u2,hu2,ru2⟩:=rv2.get hy
  obtain⟨s1,s2,⟨_,_,s3⟩,s4,s5⟩:=st
  refine item2 D s1 s2 s3 s4 s5 (show s.heap.IsTuple a its1.toArray from p1) (show s.heap.IsTuple b its2.toArray from p2) (by simpa using hu1) (by simpa using hu2) fun h' z1 t1 i1 i2 tT kk=>?_
  have hlt:n+4 < s.heap.objs.size:=Heap.lt_size s1
  have ne:∀ q,q≤n+4→q≠s.heap.objs.size:=fun q hq=>Nat.ne_of_lt (Nat.lt_of_le_of_lt hq hlt)
  refine⟨.ref s.heap.objs.size,rfl,wpAny_letOwnedTupleGo_zip z1 fun h2 z2 k2=>?_⟩
  have d0:n≠n+4:=Z3.dif (.inl (by omega))
  have d1:n+1≠n+4:=Z3.dif (.inl (by omega))
  have d3:n+2≠n+4:=Z3.dif (.inl (by omega))
  have d4:n+3≠n+4:=Z3.dif (.inl (by omega))
  have e4:n+2≠n+3:=Z3.dif (.inl (by omega))
  have e0:n+2≠n:=Z3.dif (.inr (by omega))
  have e1:n+2≠n+1:=Z3.dif (.inr (by omega))
  have kept:∀ q o,q∉[n+4,n+3,n,n+1]→s.heap.get? q=some o→h2.get? q=some o:=fun q o hc e=>by
   simp only[List.mem_cons,List.not_mem_nil,or_false,not_or] at hc
   obtain⟨c5,c4,c0,c1⟩:=hc
   exact k2.extBut _ _ c5 (kk q o c5 c4 c0 c1 e)
  have sub:∀ q∈[n+4,n+3,n,n+1],q∈[n+4,n+2,n+3,n,n+1]:=fun q hc=>by
   simp only[List.mem_cons,List.not_mem_nil,or_false] at hc ⊢
   rcases hc with rfl | rfl | rfl | rfl<;>simp
  refine⟨.ref s.heap.objs.size,upd H s.heap.objs.size (.tup [x,y]),I.laidL (t':=s.toks) kept (fun q hc=>hf q (sub q hc)) (Nat.le_refl _) ⟨by show 2≤sizeLine;decide,[u1,u2],.cons ru1 (.cons ru2 .nil),?_⟩,rfl,
   ⟨s.heap.objs.size,x,y,I.hok.fresh (Nat.le_refl _),fun zs hzs=>by rw[I.tuple_inj hzs hq1];exact hx,fun zs hzs=>by rw[I.tuple_inj hzs hq2];exact hy,rfl,rfl⟩,⟨z2,?_,⟨_,_,k2.extBut _ _ d4 t1⟩,i1.extBut k2.extBut d0,i2.extBut k2.extBut d1⟩,fun q hc=>?_⟩
  ·exact⟨_,k2.extBut _ _ (Nat.ne_of_gt hlt) tT,rfl,_,rfl⟩
  ·exact k2.extBut _ _ d3 (kk _ _ d3 e4 e0 e1 s2)
  ·have hcn:=(hf q hc).1
   have hcl:q≤n+4:=by
    simp only[List.mem_cons,List.not_mem_nil,or_false] at hc
    rcases hc with rfl | rfl | rfl | rfl | rfl<;>first | exact Nat.le_refl _ | (show (_:Nat)≤_;omega)
   rw[upd_ne (ne q hcl)]
   exact hcn
 done:=by
  intro X hP hw hK hc i pins s σ H E I hf st hg
  subst hP hw hK
  obtain⟨xs,ys,x,hq1,hq2,hx,hy⟩:=hg
  obtain⟨its1,rv1,p1,hz1⟩:=I.tuple hq1
  obtain⟨its2,rv2,p2,hz2⟩:=I.tuple hq2
  obtain⟨u1,hu1,ru1⟩:=rv1.get hx
  obtain⟨s1,s2,⟨_,_,s3⟩,s4,s5⟩:=st
  have sub:∀ q∈[n+4,n+3,n,n+1],q∈[n+4,n+2,n+3,n,n+1]:=fun q hc=>by
   simp only[List.mem_cons,List.not_mem_nil,or_false] at hc ⊢
   rcases hc with rfl | rfl | rfl | rfl<;>simp
  refine end2 (I.ok.hd hc) D s1 s2 s3 s4 s5 (show s.heap.IsTuple a its1.toArray from p1) (show s.heap.IsTuple b its2.toArray from p2) (by simpa using hu1) (by rw[hy,rv2.length];simp) fun h' kk=>⟨rfl,I.turnedL (wr:=[n+4,n+3,n,n+1]) (t':=s.toks) (fun q o hq e=>?_) fun q hc=>hf q (sub q hc)⟩
  simp only[List.mem_cons,List.not_mem_nil,or_false,not_or] at hq
  exact kk q o hq.1 hq.2.1 hq.2.2.1 hq.2.2.2 e
 self:=fun _ _ _ _ _ st h=>wpAny_pyIter_zip st.1 h
def iZipT(K:PySem.W.Frag)(ta:TA):TI:=fun σ H R=>ta σ H fun vs H1=>∃ a b,vs=[.ref a,.ref b]∧(∃ xs,SqT K H1 a xs)∧(∃ ys,SqT K H1 b ys)∧R (ItzT K a b) H1
theorem pi_zipT{a b:Expr}{ta:TA}{p pos tp:Pos}{elts:List Expr}{k:Nat}(hg:Gl X "zip")(hm:X.mg "zip" = none)(ha:PA X [a,b] ta)
  (hs:starEach [a,b] X.env=[(false,eval a X.env),(false,eval b X.env)]:=by rfl) (hs2:starEach [b] X.env=[(false,eval b X.env)]:=by rfl) :
  PI X (.Tuple elts k tp) (.Call (.Name "zip" p) [a,b] [] pos) (iZipT X.K ta):=by
 intro pins s σ H R I h
 refine Call_ (ld_blt I hg hm boot_zip (PyProof.Rows.callWith_type1 (thn (ha pos pins s σ H _ I h) fun us s1 ⟨vs,H1,I1,r1,q1⟩=>?_) (by rw[hs,hs2]) (by rw[hs2];rfl)))
 obtain⟨a',b',e,⟨xs,hq1⟩,⟨ys,hq2⟩,q⟩:=q1
 subst e
 cases r1 with
 | cons r rr =>
  cases rr with
  | cons r' rr =>
   cases rr
   cases r
   cases r'
   obtain⟨its1,rv1,p1,hz1⟩:=I1.tuple hq1
   obtain⟨its2,rv2,p2,hz2⟩:=I1.tuple hq2
   have p1:s1.heap.IsTuple a' its1.toArray:=p1
   have p2:s1.heap.IsTuple b' its2.toArray:=p2
   have lt1:a' < s1.heap.objs.size:=by obtain⟨_,e,_⟩:=p1;exact Heap.lt_size e
   have lt2:b' < s1.heap.objs.size:=by obtain⟨_,e,_⟩:=p2;exact Heap.lt_size e
   refine call2 p1 p2 fun h' n hn hz hTI hTO hi1 hi2 hk=>?_
   subst hn
   refine wpAny_pyIter_zip hz ?_
   refine⟨_,[_,_,_,_,_],_,_,H1,rfl,I1.kept (t':=s1.toks) hk,turn_zipT _ a' b' ⟨lt1,lt2⟩,⟨hz,hTI,⟨_,_,hTO⟩,hi1,hi2⟩,fun q hc=>?_,by assumption⟩
   have hle:s1.heap.objs.size≤q:=by
    simp only[List.mem_cons,List.not_mem_nil,or_false] at hc
    rcases hc with rfl | rfl | rfl | rfl | rfl<;>first | exact Nat.le_refl _ | exact Nat.le_add_right _ _
   exact I1.fpOk hle (I1.hok.fresh hle)
end
end L2
namespace L2
open PySem PySem.Spec PyProof.Rows
theorem qi_zipTK{X:Cx}{K:PySem.W.Frag}(hK:X.K=K){a b:Expr}{t:TA}{elts:List Expr}{k:Nat}{tp p pos:Pos}(hg:Gl X "zip")(hm:X.mg "zip" = none)(ha:QA X [a,b] t)
  (hs:starEach [a,b] X.env=[(false,eval a X.env),(false,eval b X.env)]:=by rfl) (hs2:starEach [b] X.env=[(false,eval b X.env)]:=by rfl) :
  QI X (.Tuple elts k tp) (.Call (.Name "zip" p) [a,b] [] pos) (iZipT K t):=hK▸⟨pi_zipT hg hm ha.p hs hs2⟩
theorem for_zipTN{K:PySem.W.Frag}{a b:Addr}{xs ys:List V}{g:TG}{tb:L2.TS}{D:Ends}{σ:St}{H:Hp}(Pv:Nat→St→Hp→Prop)(h0:Pv 0 σ H)(e2:ys.length < xs.length)
  (hl:∀ i σ H,i≤ys.length→Pv i σ H→SqT K H a xs∧SqT K H b ys)
  (hs:∀(i:Nat)(x y:V)(p:Addr)(σ:St)(H H':Hp)(N B:St→Hp→Prop),xs[i]?=some x→ys[i]?=some y→H p=none→Same H H'→H' p=some (.tup [x,y])→Pv i σ H→(∀ σ' H',Pv (i+1) σ' H'→N σ' H')→(∀ σ' H',D.nx σ' H'→B σ' H')→g (.ref p) σ H' fun σ2 H2=>tb { nx:=N,rt:=D.rt,bk:=B,ct:=N } σ2 H2) (hd:∀ σ H,Pv ys.length σ H→D.nx σ H) :
  ∃ W:Nat→Nat→St→Hp→Prop,(∃ m,W 0 m σ H)∧∀ i m σ H,W i m σ H →
   ((ItzT K a b).stop i H∧D.nx σ H)∨((ItzT K a b).go i H∧∃ N:St→Hp→Prop,(∀ σ' H',N σ' H'→∃ m',m' < m∧W (i+1) m' σ' H')∧∀ x H',(ItzT K a b).yld i H x H'→g x σ H' fun σ2 H2=>tb { D with nx:=N,ct:=N,bk:=D.nx } σ2 H2):=by
 refine⟨fun i m σ H=>m=ys.length - i∧i≤ys.length∧Pv i σ H,⟨ys.length,by simp,Nat.zero_le _,h0⟩,?_⟩
 rintro i m σ H ⟨rfl,hi,p⟩
 obtain⟨q1,q2⟩:=hl i σ H hi p
 have l1:i < xs.length:=by omega
 by_cases hlt:i < ys.length
 ·refine .inr ⟨⟨xs,ys,xs[i],ys[i],q1,q2,by simp[l1],by simp[hlt]⟩,Pv (i+1),fun σ' H' p'=>⟨ys.length - (i+1),by omega,rfl,hlt,p'⟩,fun v H' y=>?_⟩
  obtain⟨pp,x,y,hn,y1,y2,rfl,rfl⟩:=y
  exact hs i x y pp σ H _ (Pv (i+1)) D.nx (y1 xs q1) (y2 ys q2) hn (Same.new hn) upd_same p (fun _ _ h=>h) fun _ _ h=>h
 ·have e:i=ys.length:=by omega
  subst e
  exact .inl ⟨⟨xs,ys,_,q1,q2,List.getElem?_eq_getElem l1,rfl⟩,hd σ H p⟩
end L2
namespace L2
open PySem PySem.Spec PyProof.Rows
def tNo:L2.TS:=fun _ _ _=>False
theorem ps_no{X:Cx}{st:Stmt}:PS X st tNo:=fun _ _ _ _ _ _ h=>h.elim
theorem qs_no{X:Cx}{st:Stmt}:QS X st tNo:=⟨ps_no⟩
theorem qs_aug{X:Cx}{i:Nat}{x:Str}{e:Expr}{te:TE}{op:Operator}{ti:TIp}{pos pos':Pos}(hN:X.N.Nodup)(hi:X.N[i]?=some x)(hx:Loc X.env.scope x)(he:QE X e te)(ho:PIp X op ti)(hf:X.fn x=true∨X.env.scope.names.lookup x=some .local:=by first | exact .inl rfl | exact .inr rfl | assumption) :
  QS X (.AugAssign (.Name x pos') op e pos) (tAug i te ti):=⟨ps_aug hN hi hx he.p ho hf⟩
end L2
namespace L2
open PySem PySem.Spec PyProof.Rows
theorem qe_iS{X:Cx}{a b:Expr}{ta tb:TE}{pos:Pos}(ha:QE X a ta)(hb:QE X b tb)(hs:PlainIx b:=by exact fun _ _=>rfl):QE X (.Subscript a b pos) (tOp rIxF ta tb):=qe_ix ix_seqA ha hb hs
section
variable {X:Cx}{elt iter tg:Expr}{ifs:List Expr}{scope:Scope}{pos spos py:Pos}{wi:TI}{g:TG}{tt:TT}{te:TE}
theorem qe_cp(own:List Str)(fr:List (Str×Nat))(hi:QI X tg iter wi)
  (hgx:GExt g own.length) (hB:∀ cl C fp s2 H2,QG (X.comp (own++fr.map (·.1)) scope cl C fp s2 H2) tg g∧QF (X.comp (own++fr.map (·.1)) scope cl C fp s2 H2) ifs tt∧QE (X.comp (own++fr.map (·.1)) scope cl C fp s2 H2) elt te) (hc:X.calm=true:=by rfl)
  (hkind:scope.kind=.function:=by rfl) (hcell:∀ y∈scope.names,y.2≠.cell:=by decide +kernel) (hnames:∀ y∈scope.names,y.2=.local→scope.names.lookup y.1=some .local:=by decide +kernel)
  (hfree:∀ y∈scope.names,y.2=.free→X.env.kindOf y.1=some .cell∨X.env.kindOf y.1=some .free:=by exact free_of (by rfl))
  (hfr:∀ p∈fr,X.N[p.2]?=some p.1∧(X.env.kindOf p.1=some .cell∨X.env.kindOf p.1=some .free)∧(p.1,NameKind.free)∈scope.names∧((relabel scope X.env).names.lookup p.1=some .cell∨(relabel scope X.env).names.lookup p.1=some .free):=by exact fr_of (by rfl))
  (hs:∀ x,foldedSetIterable iter X.env x=pure x:=by intro _;rfl):QE X (.ListComp elt [⟨tg,iter,ifs,0⟩] scope pos) (tComp own.length (fr.map (·.2)) wi g tt te):=qe_comp own fr hc hi hgx hB hkind hcell hnames hfree hfr hs
theorem qs_setP{k:Nat}{y:Str}(own:List Str)(fr:List (Str×Nat))(hNd:X.N.Nodup)(hi:QI X tg iter wi)
  (hgx:GExt g own.length) (hB:∀ cl C fp s2 H2,QG (X.comp (own++fr.map (·.1)) scope cl C fp s2 H2) tg g∧QF (X.comp (own++fr.map (·.1)) scope cl C fp s2 H2) ifs tt∧QE (X.comp (own++fr.map (·.1)) scope cl C fp s2 H2) elt te) (hk:X.N[k]?=some y:=by rfl) (hy:X.env.scope.names.lookup y=some .local:=by rfl) (hc:X.calm=true:=by rfl)
  (hkind:scope.kind=.function:=by rfl) (hcell:∀ y∈scope.names,y.2≠.cell:=by decide +kernel) (hnames:∀ y∈scope.names,y.2=.local→scope.names.lookup y.1=some .local:=by decide +kernel)
  (hfree:∀ y∈scope.names,y.2=.free→X.env.kindOf y.1=some .cell∨X.env.kindOf y.1=some .free:=by exact free_of (by rfl))
  (hfr:∀ p∈fr,X.N[p.2]?=some p.1∧(X.env.kindOf p.1=some .cell∨X.env.kindOf p.1=some .free)∧(p.1,NameKind.free)∈scope.names∧((relabel scope X.env).names.lookup p.1=some .cell∨(relabel scope X.env).names.lookup p.1=some .free):=by exact fr_of (by rfl))
  (hsw:swapsWith (.ListComp elt [⟨tg,iter,ifs,0⟩] scope pos) (some (.Name y py)) spos.line X.env=pure true:=by rfl)
  (hs:∀ x,foldedSetIterable iter X.env x=pure x:=by intro _;rfl):QS X (.Assign [.Name y py] (.ListComp elt [⟨tg,iter,ifs,0⟩] scope pos) spos) (tAsg (tComp own.length (fr.map (·.2)) wi g tt te) (gName k)):=qs_setC own fr hNd hk hy hc hi hgx hB hkind hcell hnames hfree hfr hsw hs
end
section
variable {X:Cx}{e:Expr}{es:List Expr}{te:TE}{t:TA}{pos p:Pos}{x:Str}
theorem qs_sL(i:Nat){pos':Pos}(hN:X.N.Nodup)(he:QE X e te)(hi:X.N[i]?=some x:=by rfl)(hx:Loc X.env.scope x:=by exact Or.inl rfl)(hs:swapsWith e (some (.Name x pos')) pos.line X.env=pure false:=by rfl)(hf:X.fn x=true∨X.env.scope.names.lookup x=some .local:=by first | exact .inl rfl | exact .inr rfl | assumption) :
  QS X (.Assign [.Name x pos'] e pos) (tAsg te (gName i)):=qs_set hN hi hx he hs hf
theorem qe_f{CX:CXT}{k:Nat}{ps:List Str}{sp:Sp}{E:XK}(d:DefOk X.prog X.w X.K X.mg X.base CX k x ps sp)(hr:Room k X.A)(hx:Passes CX X E)(ha:QA X (e::es) t)(hg:Gl X x:=by rfl)
  (hdb:(x == ("__debug__" : Str))=false:=by decide) (he:starEach (e::es) X.env=(false,eval e X.env)::starEach es X.env:=by rfl) (hpl:(backTo pos (starEach es X.env)).any (·.1)=false:=by rfl) :
  QE X (.Call (.Name x p) (e::es) [] pos) (tD sp E t):=qe_d d hr hx hg ha hdb he hpl
theorem qe_g{k:Nat}{ps:List Str}{sp:Sp}(d:DefOk X.prog X.w X.K X.mg X.base CX0 k x ps sp)(ha:QA X (e::es) t)(hr:Room k X.A:=by exact Room.le (by assumption))(hg:Gl X x:=by rfl)
  (hdb:(x == ("__debug__" : Str))=false:=by decide) (he:starEach (e::es) X.env=(false,eval e X.env)::starEach es X.env:=by rfl) (hpl:(backTo pos (starEach es X.env)).any (·.1)=false:=by rfl) :
  QE X (.Call (.Name x p) (e::es) [] pos) (tD sp E0 t):=qe_d d hr pass0 hg ha hdb he hpl
end
section
variable {X:Cx}{a b c:Expr}{ta tb tc:TE}
theorem qa_1(ha:QE X a ta)(h1:starEach [a] X.env=(false,eval a X.env)::starEach [] X.env:=by rfl):QA X [a] (tCons ta tNil):=qa_cons ha qa_nil h1
theorem qa_2(ha:QE X a ta)(hb:QE X b tb)(h1:starEach [a,b] X.env=(false,eval a X.env)::starEach [b] X.env:=by rfl)(h2:starEach [b] X.env=(false,eval b X.env)::starEach [] X.env:=by rfl):QA X [a,b] (tCons ta (tCons tb tNil)):=qa_cons ha (qa_1 hb h2) h1
theorem qa_3(ha:QE X a ta)(hb:QE X b tb)(hc:QE X c tc)(h1:starEach [a,b,c] X.env=(false,eval a X.env)::starEach [b,c] X.env:=by rfl)(h2:starEach [b,c] X.env=(false,eval b X.env)::starEach [c] X.env:=by rfl)(h3:starEach [c] X.env=(false,eval c X.env)::starEach [] X.env:=by rfl):QA X [a,b,c] (tCons ta (tCons tb (tCons tc tNil))):=qa_cons ha (qa_2 hb hc h2 h3) h1
end
end L2
namespace L2
open PySem PySem.Spec PyProof.Rows
section
variable {κ:Type}[DecidableEq κ]
def valV(kvs:List (κ×V))(k:κ):Option V:=(kvs.find? fun kv=>decide (kv.1=k)).map (·.2)
def putK(kvs:List (κ×V))(k:κ)(v:V):List (κ×V) :=
 if (kvs.any fun kv=>decide (kv.1=k))=true then kvs.map (fun kv=>if kv.1=k then (kv.1,v) else kv) else kvs++[(k,v)]
def dropK(kvs:List (κ×V))(k:κ):List (κ×V):=kvs.filter fun kv=>decide (kv.1≠k)
end
abbrev KT(H:Hp):List (List Key×V)→List (List Key×Addr×Value)→Prop:=Paired fun p q=>p.1=q.1∧H q.2.1=some (.tup (p.1.map kV))∧RelV p.2 q.2.2
section
variable {P:Program}{w:World}{H:Hp}{h:Heap}{a:Addr}
end
section
variable {X:Cx}{pins:List (Addr×Obj)}{σ:St}{H:Hp}{s:Shared}{a:Addr}{y v:V}{u r:Value}{o:Option V}{A:Around}{E:Value→Shared→Prop}
end
section
variable {X:Cx}{pins:List (Addr×Obj)}{σ:St}{H:Hp}{s:Shared}{a:Addr}{kvs:List (Key×V)}{k:Key}{u:Value}{A:Around}{E:Value→Shared→Prop}
end
section
variable {X:Cx}{o i e value:Expr}{pos pos' tpos:Pos}{td ty tv:TE}
end
section
variable {X:Cx}{pos:Pos}
end
structure M1(X:Cx)(o:Expr)(m:Str)(apos:Pos)(e:Expr)(cpos:Pos):Prop where
 base:attributeBase o m X.env (eval o X.env)=eval o X.env
 few:((backTo cpos (starEach [e] X.env)).all (fun x=>!x.1) && (backToKw cpos (keywordEach [] X.env)).all (fun x=>x.1.isSome)
  && decide (([e]:List Expr).length+([]:List Keyword).length+(if ([]:List Keyword).isEmpty then 0 else 1) < 30))=true
 line:(apos.endLine == cpos.line)=true
 trees:backTo cpos (starEach [e] X.env)=[(false,eval e X.env)]
structure M2(X:Cx)(o:Expr)(m:Str)(apos:Pos)(e f:Expr)(cpos:Pos):Prop where
 base:attributeBase o m X.env (eval o X.env)=eval o X.env
 few:((backTo cpos (starEach [e,f] X.env)).all (fun x=>!x.1) && (backToKw cpos (keywordEach [] X.env)).all (fun x=>x.1.isSome)
  && decide (([e,f]:List Expr).length+([]:List Keyword).length+(if ([]:List Keyword).isEmpty then 0 else 1) < 30))=true
 line:(apos.endLine == cpos.line)=true
 trees:backTo cpos (starEach [e,f] X.env)=[(false,eval e X.env),(false,eval f X.env)]
section
variable {X:Cx}{pins:List (Addr×Obj)}{σ:St}{H:Hp}{s:Shared}{a:Addr}{y d:V}{u r:Value}{o:Option V}{A:Around}{E:Value→Shared→Prop}
end
section
variable {X:Cx}{o e f:Expr}{apos cpos:Pos}{td ty tx:TE}
end
section
variable {X:Cx}{pins:List (Addr×Obj)}{σ:St}{H:Hp}{s:Shared}{a:Addr}{kvs:List (Key×V)}{A:Around}{E:Value→Shared→Prop}
end
section
variable {X:Cx}{pins:List (Addr×Obj)}{σ:St}{H:Hp}{s:Shared}{a:Addr}{y:V}{u:Value}{A:Around}{E:Value→Shared→Prop}
end
end L2
namespace L2
open PySem PySem.Spec PyProof.Rows
section
variable {X:Cx}
end
end L2
namespace L2
open PySem PySem.Spec PyProof.Rows
section
variable {X:Cx}
end
end L2
namespace ZL
open PySem PySem.Spec PyProof.Rows ZT
section
variable {prog:Program}{w:World}{A:Around}{E:Value→Shared→Prop}{s:Shared}
abbrev hp1(h:Heap)(l1:Addr):Heap:=h.push { cls:=.type "tuple_iterator", data:=.fields #[.ref l1,.int 0 0] }
abbrev hp2(h:Heap)(l1 l2:Addr):Heap:=(hp1 h l1).push { cls:=.type "list_iterator", data:=.fields #[.ref l2,.int 0 0] }
abbrev hp4(h:Heap)(l1 l2:Addr):Heap:=(hp2 h l1 l2).push { cls:=.type "tuple", data:=.seq #[.ref h.objs.size,.ref (hp1 h l1).objs.size] }
abbrev hp5(h:Heap)(l1 l2:Addr):Heap:=(hp4 h l1 l2).push { cls:=.type "tuple", data:=.seq #[.none,.none] }
abbrev hp6(h:Heap)(l1 l2:Addr):Heap:=(hp5 h l1 l2).push { cls:=.type "zip", data:=.fields #[.none,.bool false,.bool false,.ref (hp2 h l1 l2).objs.size,.ref (hp4 h l1 l2).objs.size] }
theorem new2(l1 l2:Addr)(xs ys:Array Value) :
  Meets (Builtin.«zip.__new__» ⟨[.type "zip", .ref l1,.ref l2],[]⟩) (fun _ R s=>s.heap.IsTuple l1 xs∧s.heap.IsList l2 ys ∧
   R (.ok (.ret (.ref (hp5 s.heap l1 l2).objs.size))) { s with heap:=hp6 s.heap l1 l2 }) :=
 .of_wp fun prog w A R s h=>by
  obtain⟨hp,g,d,tk,os⟩:=s
  obtain⟨hl1,hl2,h⟩:=h
  have hsub:=sub_zip
  have hL1:Heap.IsTuple (Shared.heap ⟨hp,g,d,tk,os⟩) l1 xs:=hl1
  have hL2:Heap.IsList (Shared.heap ⟨hp1 hp l1,g,d,tk,os⟩) l2 ys:=by
   obtain⟨o,e,r⟩:=hl2
   exact⟨o,Heap.get?_push_of_some _ e,r⟩
  wp_walk using wpAny_pyIter_tuple hL1,wpAny_pyIter_list hL2
  exact⟨_,rfl,h⟩
theorem call2{l1 l2:Addr}{xs ys:Array Value}{Q:Value→Shared→Prop}(hl1:s.heap.IsTuple l1 xs)(hl2:s.heap.IsList l2 ys)
  (h:∀ h' n,n=s.heap.objs.size→IsZip h' (n+4) (n+2) (n+3) .none→IsPr h' (n+2) (.ref n) (.ref (n+1)) →
   IsPr h' (n+3) .none .none→h'.IsTupleIter n l1 0→h'.IsListIter (n+1) l2 0 →
   (∀ c o,s.heap.get? c=some o→h'.get? c=some o)→Q (.ref (n+4)) { s with heap:=h' }) :
  wpAny (model prog w) A (call (.type "zip") [.ref l1,.ref l2]) Q E s:=by
 refine callType_new F.called_zip (by decide) (tc _ _) (nc _ _) (fun obj=>ac obj _ _) F.entry_zip_new
  (new2 l1 l2 xs ys) ⟨hl1,hl2,?_⟩
 have z1:(hp1 s.heap l1).objs.size=s.heap.objs.size+1:=Heap.size_push ..
 have z2:(hp2 s.heap l1 l2).objs.size=s.heap.objs.size+2:=by rw[Heap.size_push,z1]
 have z4:(hp4 s.heap l1 l2).objs.size=s.heap.objs.size+3:=by rw[Heap.size_push,z2]
 have z5:(hp5 s.heap l1 l2).objs.size=s.heap.objs.size+4:=by rw[Heap.size_push,z4]
 have up {h:Heap} {o:Obj} {c:Addr} {u:Obj} (e:h.get? c=some u):(h.push o).get? c=some u:=Heap.get?_push_of_some _ e
 have g6:(hp6 s.heap l1 l2).get? (hp5 s.heap l1 l2).objs.size=some _:=Heap.get?_push_size _ rfl
 have g5:(hp6 s.heap l1 l2).get? (hp4 s.heap l1 l2).objs.size=some _:=up (Heap.get?_push_size _ rfl)
 have g4:(hp6 s.heap l1 l2).get? (hp2 s.heap l1 l2).objs.size=some _:=up (up (Heap.get?_push_size _ rfl))
 have g2:(hp6 s.heap l1 l2).get? (hp1 s.heap l1).objs.size=some _:=up (up (up (Heap.get?_push_size _ rfl)))
 have g1:(hp6 s.heap l1 l2).get? s.heap.objs.size=some _:=up (up (up (up (Heap.get?_push_size _ rfl))))
 show _∧_
 rw[z2,z4,z5] at g6
 rw[z4] at g5
 rw[z1,z2] at g4
 rw[z1] at g2
 rw[z5]
 exact⟨⟨_,g6,rfl⟩,h _ _ rfl g6 g4 g5 ⟨_,g1,rfl,rfl⟩ ⟨_,g2,rfl,rfl⟩ fun c o x=>up (up (up (up (up x))))⟩
theorem item2{n l1 l2:Addr}{k:Nat}{xs ys:Array Value}{x y a b:Value}{Q:Option Value→Shared→Prop}(D:Ap n l1 l2)
  (hz:IsZip s.heap (n+4) (n+2) (n+3) .none) (hTI:IsPr s.heap (n+2) (.ref n) (.ref (n+1))) (hTO:IsPr s.heap (n+3) a b)
  (h1:s.heap.IsTupleIter n l1 k) (h2:s.heap.IsListIter (n+1) l2 k) (hl1:s.heap.IsTuple l1 xs) (hl2:s.heap.IsList l2 ys) (hx:xs[k]?=some x) (hy:ys[k]?=some y)
  (hQ:∀ h',IsZip h' (n+4) (n+2) (n+3) (rawInt s.heap.objs.size)→IsPr h' (n+3) x y→h'.IsTupleIter n l1 (k+1)→h'.IsListIter (n+1) l2 (k+1)→IsPr h' s.heap.objs.size x y →
   (∀ q o,q≠n+4→q≠n+3→q≠n→q≠n+1→s.heap.get? q=some o→h'.get? q=some o)→Q (some (.ref s.heap.objs.size)) { s with heap:=h' }) :
  wpAny (model prog w) A (pyNext (.ref (n+4))) Q E s:=by
 obtain⟨d1,d2⟩:=D
 have q0:n≠n+3:=Z3.dif (.inl (by omega))
 have q1:n+1≠n+3:=Z3.dif (.inl (by omega))
 have q3:n≠n+1:=Z3.dif (.inl (by omega))
 have z0:n≠n+4:=Z3.dif (.inl (by omega))
 have z1:n+1≠n+4:=Z3.dif (.inl (by omega))
 have z4:n+3≠n+4:=Z3.dif (.inl (by omega))
 have L1:∀ j,l1≠n+j:=fun j=>Z3.dif (.inl (by omega))
 have L2:∀ j,l2≠n+j:=fun j=>Z3.dif (.inl (by omega))
 have hT:s.TypeIs (.ref (n+4)) "zip" := ⟨_,hz,rfl⟩
 unfold pyNext
 refine wpAny_bind (wpAny_attempt (wpAny_callSpecial?_slot (name:=Str.ofString "__next__") hT F.slot_zip_next
  (wpAny_call_entry F.slot_zip_next hT F.entry_zip_next ?_ (F.args_zip_next_1 _))))
 show wpAny _ _ (field (.ref (n+4)) 2 >>= _) _ _ _
 refine wpAny_bind (wpAny_field hz rfl (x:=.bool false) rfl ?_)
 show wpAny _ _ (field (.ref (n+4)) 3 >>= _) _ _ _
 refine wpAny_bind (wpAny_field hz rfl (x:=.ref (n+2)) rfl ?_)
 refine wpAny_bind (wpAny_seqItems hTI rfl ?_)
 show wpAny _ _ (Builtin.SmallTypes.ownedTupleIsFree (.ref (n+4)) >>= _) _ _ _
 refine wpAny_bind ?_
 unfold Builtin.SmallTypes.ownedTupleIsFree
 refine wpAny_bind (wpAny_field hz rfl (x:=.none) rfl (wpAny_pure ?_))
 simp only[if_true]
 refine wpAny_bind (wpAny_rule ?_)
 refine wpAny_bind (wpAny_field hz rfl (x:=.ref (n+3)) rfl ?_)
 refine wpAny_bind (wpAny_setField_rec hz (by simp) fun g1 hz1 s1=>?_)
 replace hz1:IsZip g1 (n+4) (n+2) (n+3) .ellipsis:=hz1
 refine wpAny_bind ?_
 simp only[List.zipIdx_cons,List.zipIdx_nil,List.forIn_cons,List.forIn_nil]
 refine wpAny_bind (wpAny_bind (wpAny_onRaise ?_))
 show wpAny _ _ (Builtin.SmallTypes.nextOf (.ref n) >>= _) _ _ _
 refine wpAny_bind (nxT (h1.extBut s1.extBut z0) (hl1.extBut s1.extBut (L1 4)) hx fun g2 i1 s2=>wpAny_pure ?_)
 have t2:IsPr g2 (n+3) a b:=s2.extBut _ _ q0.symm (s1.extBut _ _ z4 hTO)
 refine wpAny_bind (wpAny_seqItems t2 rfl ?_)
 refine wpAny_bind (up2 t2 fun g3 t3 s3=>?_)
 replace t3:IsPr g3 (n+3) x b:=t3
 refine wpAny_bind (wpAny_letGo (wpAny_pure ?_))
 refine wpAny_bind (wpAny_bind (wpAny_onRaise ?_))
 show wpAny _ _ (Builtin.SmallTypes.nextOf (.ref (n+1)) >>= _) _ _ _
 refine wpAny_bind (wpAny_nextOf_list_item (((h2.extBut s1.extBut z1).extBut s2.extBut q3.symm).extBut s3.extBut q1)
  (((hl2.extBut s1.extBut (L2 4)).extBut s2.extBut (L2 0)).extBut s3.extBut (L2 3)) hy fun g4 i2 s4=>wpAny_pure ?_)
 have t4:IsPr g4 (n+3) x b:=s4.extBut _ _ q1.symm t3
 refine wpAny_bind (wpAny_seqItems t4 rfl ?_)
 refine wpAny_bind (up2 t4 fun g5 t5 s5=>?_)
 replace t5:IsPr g5 (n+3) x y:=t5
 refine wpAny_bind (wpAny_letGo (wpAny_pure (wpAny_pure ?_)))
 refine wpAny_bind (wpAny_seqItems t5 rfl ?_)
 refine wpAny_bind (wpAny_newTuple ?_)
 have hsz:g5.objs.size=s.heap.objs.size:=by rw[s5.1,s4.1,s3.1,s2.1,s1.1]
 have hz7:IsZip g5 (n+4) (n+2) (n+3) .ellipsis:=s5.extBut _ _ z4.symm (s4.extBut _ _ z1.symm (s3.extBut _ _ z4.symm (s2.extBut _ _ z0.symm hz1)))
 have kk:∀ q o,q≠n+4→q≠n+3→q≠n→q≠n+1→s.heap.get? q=some o→g5.get? q=some o:=fun q o c5 c4 c0 c1 e =>
  s5.extBut _ _ c4 (s4.extBut _ _ c1 (s3.extBut _ _ c4 (s2.extBut _ _ c0 (s1.extBut _ _ c5 e))))
 have j1:g5.IsTupleIter n l1 (k+1):=((i1.extBut s3.extBut q0).extBut s4.extBut q3).extBut s5.extBut q0
 have j2:g5.IsListIter (n+1) l2 (k+1):=i2.extBut s5.extBut q1
 have zlt:n+4 < g5.objs.size:=Heap.lt_size hz7
 show wpAny _ _ (Builtin.SmallTypes.ownedTupleHandOut (.ref (n+4)) (.ref g5.objs.size) >>= _) _ _ _
 refine wpAny_bind ?_
 unfold Builtin.SmallTypes.ownedTupleHandOut
 have hz8:IsZip (g5.push { cls:=.type "tuple", data:=.seq #[x,y] }) (n+4) (n+2) (n+3) .ellipsis:=Heap.get?_push_of_some _ hz7
 refine wpAny_bind (wpAny_setField_rec hz8 (by simp) fun g9 hz9 s9=>?_)
 replace hz9:IsZip g9 (n+4) (n+2) (n+3) (rawInt g5.objs.size):=hz9
 refine wpAny_setField_rec hz9 (by simp) fun g10 hz10 s10=>?_
 replace hz10:IsZip g10 (n+4) (n+2) (n+3) (rawInt g5.objs.size):=hz10
 have up:∀ q o,q≠n+4→g5.get? q=some o→g10.get? q=some o:=fun q o c1 e=>s10.extBut _ _ c1 (s9.extBut _ _ c1 (Heap.get?_push_of_some _ e))
 have tt:IsPr g10 g5.objs.size x y:=s10.extBut _ _ (Nat.ne_of_gt zlt) (s9.extBut _ _ (Nat.ne_of_gt zlt) (Heap.get?_push_size _ rfl))
 rw[hsz] at hz10 tt
 refine wpAny_pure ⟨_,rfl,wpAny_pure ?_⟩
 show Q (some (.ref g5.objs.size)) _
 rw[hsz]
 exact hQ g10 hz10 (up _ _ z4 t5) (j1.at fun o e=>up _ o z0 e) (j2.at fun o e=>up _ o z1 e) tt fun q o c5 c4 c0 c1 e=>up q o c5 (kk q o c5 c4 c0 c1 e)
theorem end2{n l1 l2:Addr}{k:Nat}{xs ys:Array Value}{a b:Value}{Q:Option Value→Shared→Prop}(hh:A.handled=none)(D:Ap n l1 l2)
  (hz:IsZip s.heap (n+4) (n+2) (n+3) .none) (hTI:IsPr s.heap (n+2) (.ref n) (.ref (n+1))) (hTO:IsPr s.heap (n+3) a b)
  (h1:s.heap.IsTupleIter n l1 k) (h2:s.heap.IsListIter (n+1) l2 k) (hl1:s.heap.IsTuple l1 xs) (hl2:s.heap.IsList l2 ys) (hx:xs[k]?=none)
  (hQ:∀ h',(∀ q o,q≠n+4→q≠n+3→q≠n→q≠n+1→s.heap.get? q=some o→h'.get? q=some o)→Q none { s with heap:=h' }) :
  wpAny (model prog w) A (pyNext (.ref (n+4))) Q E s:=by
 obtain⟨d1,d2⟩:=D
 have q0:n≠n+3:=Z3.dif (.inl (by omega))
 have q1:n+1≠n+3:=Z3.dif (.inl (by omega))
 have q3:n≠n+1:=Z3.dif (.inl (by omega))
 have z0:n≠n+4:=Z3.dif (.inl (by omega))
 have z1:n+1≠n+4:=Z3.dif (.inl (by omega))
 have z4:n+3≠n+4:=Z3.dif (.inl (by omega))
 have L1:∀ j,l1≠n+j:=fun j=>Z3.dif (.inl (by omega))
 have L2:∀ j,l2≠n+j:=fun j=>Z3.dif (.inl (by omega))
 have hT:s.TypeIs (.ref (n+4)) "zip" := ⟨_,hz,rfl⟩
 unfold pyNext
 refine wpAny_bind (wpAny_attempt (wpAny_callSpecial?_slot (name:=Str.ofString "__next__") hT F.slot_zip_next
  (wpAny_call_entry F.slot_zip_next hT F.entry_zip_next ?_ (F.args_zip_next_1 _))))
 show wpAny _ _ (field (.ref (n+4)) 2 >>= _) _ _ _
 refine wpAny_bind (wpAny_field hz rfl (x:=.bool false) rfl ?_)
 show wpAny _ _ (field (.ref (n+4)) 3 >>= _) _ _ _
 refine wpAny_bind (wpAny_field hz rfl (x:=.ref (n+2)) rfl ?_)
 refine wpAny_bind (wpAny_seqItems hTI rfl ?_)
 show wpAny _ _ (Builtin.SmallTypes.ownedTupleIsFree (.ref (n+4)) >>= _) _ _ _
 refine wpAny_bind ?_
 unfold Builtin.SmallTypes.ownedTupleIsFree
 refine wpAny_bind (wpAny_field hz rfl (x:=.none) rfl (wpAny_pure ?_))
 simp only[if_true]
 refine wpAny_bind (wpAny_rule ?_)
 refine wpAny_bind (wpAny_field hz rfl (x:=.ref (n+3)) rfl ?_)
 refine wpAny_bind (wpAny_setField_rec hz (by simp) fun g1 hz1 s1=>?_)
 replace hz1:IsZip g1 (n+4) (n+2) (n+3) .ellipsis:=hz1
 refine wpAny_bind ?_
 simp only[List.zipIdx_cons,List.zipIdx_nil,List.forIn_cons,List.forIn_nil]
 refine wpAny_bind (wpAny_bind (wpAny_onRaise ?_))
 show wpAny _ _ (Builtin.SmallTypes.nextOf (.ref n) >>= _) _ _ _
 refine wpAny_bind (nxE hh (h1.extBut s1.extBut z0) (hl1.extBut s1.extBut (L1 4)) hx fun g4 e s4 he=>?_)
 obtain⟨oe,hoe,hce⟩:=he
 have hz2:IsZip g4 (n+4) (n+2) (n+3) .ellipsis:=s4 _ _ z0.symm hz1
 have hez:e≠n+4:=fun x=>by
  rw[x,hz2] at hoe
  cases hoe
  simp at hce
 refine wpAny_setField_rec hz2 (by simp) fun g5 _ s5=>?_
 refine wpAny_bind (wpAny_isInstance (T := "StopIteration") (b:=true) ⟨oe,s5.extBut _ _ hez hoe,hce⟩ isSubtype_stop ?_)
 exact wpAny_pure (hQ g5 fun q o c5 c4 c0 c1 x=>s5.extBut _ _ c5 (s4 _ _ c0 (s1.extBut _ _ c5 x)))
end
end ZL
namespace L2
open PySem PySem.Spec PyProof.Rows ZT ZL
section
variable {X:Cx}
end
end L2
namespace L2
open PySem PySem.Spec PyProof.Rows
end L2
namespace L2
open PySem PySem.Spec PyProof.Rows
abbrev kvS(p:Str×V):Key×V:=(Sum.inr p.1,p.2)
structure KDict(P:Params)(K:PySem.W.Frag)(d:Addr)(D:List (Str×V)):Prop where
 lo:(d == sysModules)=false
 nd:(D.map (·.1)).Nodup
 few:D.length≤1000
 at':∃(o:Obj)(es:Array DictEntry)(ep:Nat),K.lookup d=some o∧o.ExactDict∧o.data=.dict es ep∧Paired (fun (p:Str×V) (e:DictEntry)=>e.hash=PyData.keyHash P p.1∧(∃ t,e.key=.str p.1 t)∧RelV p.2 e.val) D es.toList
section
variable {X:Cx}
end
section
variable {H:Hp}{Q:VK}{σ:St}
end
end L2
namespace PySem
open Sem (wp)
def Fld(o:Obj)(i:Nat)(x:Value):Prop:=∃ vs,o.data=.fields vs∧vs[i]?=some x
def putF(i:Nat)(x:Value):Obj→Obj:=Obj.mapFields (·.setIfInBounds i x)
theorem putF_dict(i:Nat)(x:Value)(o:Obj):(putF i x o).dict=o.dict:=by
 cases o with
 | mk c d t k=>cases t<;>rfl
theorem Fld.put{o:Obj}{i:Nat}{y:Value}(f:Fld o i y)(x:Value):Fld (putF i x o) i x:=by
 obtain⟨vs,e,g⟩:=f
 have lt:=(Array.getElem?_eq_some_iff.mp g).1
 exact⟨_,Obj.data_mapFields e _,by rw[Array.getElem?_setIfInBounds_self,if_pos lt]⟩
theorem Fld.live{o:Obj}{i:Nat}{x:Value}(f:Fld o i x):o.isFreed=false:=Obj.isFreed_of_fields f.choose_spec.1
def Set1(a:Addr)(f:Obj→Obj)(h h':Heap):Prop:=(∀ o,h.get? a=some o→h'.get? a=some (f o))∧∀ b,b≠a→h'.get? b=h.get? b
structure Soft(base h h':Heap):Prop where
 low:base.StaysIn h→base.StaysIn h'
 up:h.UpToSlots h'
theorem Soft.trans{base h g k:Heap}(x:Soft base h g)(y:Soft base g k):Soft base h k:=⟨fun z=>y.low (x.low z),x.up.trans y.up⟩
theorem Soft.frames{base h h':Heap}(x:Soft base h h'){l:List Env}(f:h.FunFrames base l):h'.FunFrames base l :=
 f.of_keeps fun b o e n=>by
  obtain⟨k,q⟩:=x.up b o e n
  exact⟨_,q,rfl⟩
theorem Set1.soft{base h h':Heap}{a:Addr}{g:Obj→Obj}{o:Obj}{i:Nat}{x:Value}(s:Set1 a g h h')(ho:h.get? a=some o)(f:Fld o i x)(nb:base.get? a=none):Soft base h h':=by
 constructor
 ·intro st b u hb
  rw[s.2 b fun z=>by rw[z,nb] at hb;exact nomatch hb]
  exact st b u hb
 ·intro b u hb nf
  refine⟨u.slots,?_⟩
  rw[s.2 b fun z=>?_]
  ·exact hb
  ·obtain⟨vs,e,_⟩:=f
   rw[z,ho] at hb
   cases hb
   exact nf vs e
section
variable {M:Model}{A:Around}{E:Value→Shared→Prop}{s:Shared}{base:Heap}{env:Env}{outer l:List Env}{L e:Addr}{cls m:Value}{od:Option Addr}
theorem fld_get{a:Addr}{o:Obj}{i:Nat}{x:Value}{Q:Value→Shared→Prop}(ho:s.heap.get? a=some o)(f:Fld o i x)(q:Q x s):wpAny M A (field (.ref a) i) Q E s:=by
 obtain⟨vs,d,g⟩:=f
 exact wpAny_field ho d g q
theorem fld_set{a:Addr}{o:Obj}{i:Nat}{x y:Value}{Q:Unit→Shared→Prop}(ho:s.heap.get? a=some o)(f:Fld o i x)(q:∀ h',Set1 a (putF i y) s.heap h'→Q () { s with heap:=h' }):wpAny M A (setField (.ref a) i y) Q E s:=by
 have lv:=(f.put y).live
 obtain⟨vs,d,g⟩:=f
 refine wpAny_setField ho d (Array.getElem?_eq_some_iff.mp g).1 (q _ ⟨fun u hu=>?_,fun b nb=>Heap.get?_update_other _ _ (Ne.symm nb)⟩)
 rw[ho] at hu
 cases hu
 exact Heap.get?_update_self _ ho lv
def XOn(base:Heap)(e:Addr)(cls:Value)(od:Option Addr)(m:Value)(h:Heap):Prop :=
 ∃ r T q,(h.get? e=some r∧r.cls=cls∧r.dict=od)∧Fld r 1 (.ref T)∧(T≠e∧base.get? T=none)∧h.get? T=some q∧Fld q 3 m
def Heap.AtD(base:Heap)(l:List Env)(e:Addr)(cls:Value)(od:Option Addr)(m:Value)(h:Heap):Prop :=
 base.StaysIn h∧base.get? e=none∧h.FunFrames base l∧XOn base e cls od m h
def Heap.FlyingD(base:Heap)(l:List Env)(e:Addr)(cls:Value)(od:Option Addr)(h:Heap):Prop:=Heap.AtD base l e cls od .none h
theorem Heap.AtD.there{h:Heap}(x:Heap.AtD base l e cls od m h):∃ ob,h.get? e=some ob∧ob.cls=cls :=
 let ⟨_,_,_,r,_,_,g,_⟩:=x
 ⟨r,g.1,g.2.1⟩
theorem Heap.AtD.tail{h:Heap}(x:Heap.AtD base (env::outer) e cls od m h):Heap.AtD base outer e cls od m h:=⟨x.1,x.2.1,x.2.2.1.2.2,x.2.2.2⟩
def tbO(hd:Value)(L:Addr)(pl:List Value):Obj:={ cls:=.type "traceback", dict:=none,data:=.fields ([hd,.ref L,.none,rawInt L,.none]++(if pl.isEmpty then List.replicate 6 Value.none else pl)).toArray }
theorem tbO_mark(hd:Value)(L:Addr)(pl:List Value):Fld (tbO hd L pl) 3 (rawInt L):=⟨_,rfl,by rw[List.getElem?_toArray];rfl⟩
theorem entry_laid{r:Obj}{y hd:Value}{nx:Bool}{Q:Unit→Shared→Prop}(fs:A.frames=some (env::outer))(hf:env.frame=some L)(st:base.StaysIn s.heap)(ne:base.get? e=none)
  (fr:s.heap.FunFrames base (env::outer)) (he:s.heap.get? e=some r) (f1:Fld r 1 y) (hc:r.cls=cls) (hx:r.dict=od)
  (q:∀ h',Soft base s.heap h'→XOn base e cls od (rawInt L) h'→Q () { s with heap:=h' }) :
  wpAny M A (do let a ← frameOf env;let pl ← entryPlaceOf L nx;let b ← EntryCells.newEntry hd a .none (rawInt L) .none pl;setField (.ref e) 1 b) Q E s:=by
 have out:e∉(env::outer).filterMap (·.frame):=fun z=>by
  obtain⟨_,o,ho,nf⟩:=fr.mem z
  rw[he] at ho
  cases ho
  obtain⟨vs,d,_⟩:=f1
  exact nf vs d
 refine wpAny_bind (wpAny_frameOf_fun fs fr hf fun g sl=>wpAny_bind (wpAny_entryPlaceOf fun pl isp=>?_))
 unfold EntryCells.newEntry newFields
 have sf1:Soft base s.heap g:=⟨fun z b o hb=>by
  rw[sl.2.1 b fun i=>by rw[(fr.mem i).1] at hb;exact nomatch hb]
  exact z b o hb,fun b o hb _=>sl.2.2 b o hb⟩
 have eg:g.get? e=some r:=by rw[sl.2.1 e out];exact he
 refine wpAny_bind (wpAny_newObj_type ?_ (isp.sizeOk5 _ _ _ _ _))
 have ep:(g.push (tbO hd L pl)).get? e=some r:=Heap.get?_push_of_some _ eg
 refine fld_set ep f1 fun h' s1=>q h' ?_ ?_
 ·have sf2:Soft base g (g.push (tbO hd L pl)) :=
   ⟨fun z b o hb=>Heap.get?_push_of_some _ (z b o hb),fun b o hb _=>⟨o.slots,Heap.get?_push_of_some _ hb⟩⟩
  exact sf1.trans (sf2.trans (s1.soft ep f1 ne))
 ·have nT:g.objs.size≠e:=fun z=>Nat.lt_irrefl _ (z▸Heap.lt_size eg)
  refine⟨putF 1 (.ref g.objs.size) r,g.objs.size,tbO hd L pl,⟨s1.1 _ ep,(Obj.cls_mapFields _ _).trans hc,(putF_dict _ _ _).trans hx⟩,f1.put _,⟨nT,(sf1.low st).fresh⟩,?_,tbO_mark _ _ _⟩
  rw[s1.2 _ nT]
  exact Heap.get?_push_size g rfl
theorem note_first{r:Obj}{Q:Unit→Shared→Prop}(fs:A.frames=some (env::outer))(hf:env.frame=some L)(st:base.StaysIn s.heap)(ne:base.get? e=none)
  (fr:s.heap.FunFrames base (env::outer)) (he:s.heap.get? e=some r) (f1:Fld r 1 .none) (hc:r.cls=cls) (hx:r.dict=od)
  (q:∀ h',Soft base s.heap h'→XOn base e cls od (rawInt L) h'→Q () { s with heap:=h' }):wpAny M A (noteFrame (.ref e) env) Q E s:=by
 unfold noteFrame
 simp only[hf]
 refine wpAny_bind (fld_get he f1 ?_)
 rw[if_neg (by decide)]
 exact entry_laid fs hf st ne fr he f1 hc hx q
theorem note_any{Q:Unit→Shared→Prop}(fs:A.frames=some (env::outer))(hf:env.frame=some L)(R:Heap.AtD base (env::outer) e cls od m s.heap)
  (q:∀ h',Heap.AtD base (env::outer) e cls od (rawInt L) h'→s.heap.UpToSlots h'→Q () { s with heap:=h' }):wpAny M A (noteFrame (.ref e) env) Q E s:=by
 have R0:=R
 obtain⟨st,ne,fr,r,T,u,⟨he,hc,hx⟩,f1,⟨nT,bT⟩,hT,f3⟩:=R
 unfold noteFrame
 simp only[hf]
 refine wpAny_bind (fld_get he f1 ?_)
 rw[if_pos (by simp:(Value.ref T != Value.none)=true)]
 refine wpAny_bind (fld_get hT f3 ?_)
 by_cases z:(m == rawInt L)=true
 ·rw[if_pos z]
  have zz:m=rawInt L:=eq_of_beq z
  rw[zz] at R0
  exact wpAny_pure (q s.heap R0 (Heap.UpToSlots.refl _))
 ·rw[if_neg z]
  refine wpAny_bind (fld_set hT f3 fun g s1=>?_)
  have sf:=s1.soft hT f3 bT
  refine entry_laid (s:={ s with heap:=g }) fs hf (sf.low st) ne (sf.frames fr) ((s1.2 e (Ne.symm nT)).trans he) f1 hc hx fun h' sf2 x=>?_
  have sf3:=sf.trans sf2
  exact q h' ⟨sf3.low st,ne,sf3.frames fr,x⟩ sf3.up
theorem mark_any{o?:Option Addr}{Q:Unit→Shared→Prop}(R:Heap.AtD base l e cls od m s.heap)
  (q:∀ h',Heap.AtD base l e cls od (o?.elim Value.none fun f=>rawInt f) h'→s.heap.UpToSlots h'→Q () { s with heap:=h' }):wpAny M A (setFlight (.ref e) o?) Q E s:=by
 obtain⟨st,ne,fr,r,T,u,⟨he,hc,hx⟩,f1,⟨nT,bT⟩,hT,f3⟩:=R
 unfold setFlight
 refine wpAny_bind (fld_get he f1 ?_)
 rw[if_pos (by simp:(Value.ref T != Value.none)=true)]
 refine fld_set hT f3 fun g s1=>?_
 have sf:=s1.soft hT f3 bT
 exact q g ⟨sf.low st,ne,sf.frames fr,r,T,_,⟨(s1.2 e (Ne.symm nT)).trans he,hc,hx⟩,f1,⟨nT,bT⟩,s1.1 _ hT,f3.put _⟩ sf.up
theorem leaves_any{Q:Unit→Shared→Prop}(fs:A.frames=some (env::outer))(hf:env.frame=some L)(R:Heap.AtD base (env::outer) e cls od m s.heap)
  (q:∀ h',Heap.FlyingD base outer e cls od h'→s.heap.UpToSlots h'→Q () { s with heap:=h' }):wpAny M A (leaving env (.ref e)) Q E s:=by
 unfold leaving
 refine wpAny_bind (note_any fs hf R fun h1 R1 u1=>?_)
 exact mark_any (s:={ s with heap:=h1 }) (o?:=none) R1 fun h2 R2 u2=>q h2 R2.tail (u1.trans u2)
theorem leaves_first{r:Obj}{Q:Unit→Shared→Prop}(fs:A.frames=some (env::outer))(hf:env.frame=some L)(st:base.StaysIn s.heap)(ne:base.get? e=none)
  (fr:s.heap.FunFrames base (env::outer)) (he:s.heap.get? e=some r) (f1:Fld r 1 .none) (hc:r.cls=cls) (hx:r.dict=od)
  (q:∀ h',Heap.FlyingD base outer e cls od h'→s.heap.UpToSlots h'→Q () { s with heap:=h' }):wpAny M A (leaving env (.ref e)) Q E s:=by
 unfold leaving
 refine wpAny_bind (note_first fs hf st ne fr he f1 hc hx fun h1 sf x=>?_)
 exact mark_any (s:={ s with heap:=h1 }) (o?:=none) ⟨sf.low st,ne,sf.frames fr,x⟩ fun h2 R2 u2=>q h2 R2.tail (sf.up.trans u2)
end
end PySem
namespace L2
open PySem PySem.Spec PyProof.Rows
section
variable {prog:Program}{w:World}{A:Around}{E:Value→Shared→Prop}{K:PySem.W.Frag}{C x:Addr}{s:Shared}{name:Str}{v:Value}
def xOver:List Value→Bool
 | []=>false
 | a::r=>match a with
  | .ref _=>xOver r
  | _=>(a::r) == veTail
theorem refuse_x(self:Value):∀{l:List Value},xOver l=true→refuseLoop self "__setattr__" l=pure ()
 | [],e=>by cases e
 | a::r,e=>by
  cases a with
  | ref c=>rw[refuseLoop_ref];exact refuse_x self (l:=r) e
  | _=>rw[show _=veTail from beq_iff_eq.mp e];exact PySem.F.store_ValueError.passes self
theorem xOver_has:∀{l:List Value},xOver l=true→l.contains (.type "object")=true
 | [],e=>by cases e
 | a::r,e=>by
  cases a with
  | ref c=>rw[List.contains_cons,xOver_has (l:=r) e,Bool.or_true]
  | _=>rw[show _=veTail from beq_iff_eq.mp e];decide
theorem xOver_exc:∀{l:List Value},xOver l=true→l.contains (.type "BaseException")=true
 | [],e=>by cases e
 | a::r,e=>by
  cases a with
  | ref c=>rw[List.contains_cons,xOver_exc (l:=r) e,Bool.or_true]
  | _=>rw[show _=veTail from beq_iff_eq.mp e];decide
theorem xset{cd:ClassData}{vs:Array Value}{sl:Array (Option Value)}{Q:Unit→Shared→Prop}(X:K.In s.heap)(hx:s.heap.get? x=some ⟨.ref C,none,.fields vs,sl⟩)
  (hs:PySem.W.findIn K (.ref C) "__setattr__" = some (some (.builtin "object.__setattr__"))) (hn:PySem.W.findIn K (.ref C) name=some none)
  (hc:PySem.W.clsIn K C=some cd) (ho:xOver cd.mro=true) (hd:cd.hasDict=true)
  (h:∀ h',h'.get? x=some ⟨.ref C,some s.heap.objs.size,.fields vs,sl⟩→h'.Ns1 s.heap.objs.size (fun y=>if y=name then some v else none)→(∀ b o,b≠x→s.heap.get? b=some o→h'.get? b=some o)→Q () { s with heap:=h',toks:=s.toks+2 }) :
  wpAny (model prog w) A (setAttr (.ref x) name v) Q E s:=by
 have I:PySem.W.InstAt s.heap x ⟨.ref C,none,.fields vs,sl⟩ C none:=⟨hx,rfl,rfl,trivial⟩
 have SF:=PySem.F.store_object
 refine PySem.W.set_plain X I hs ?_
 have ne:cd.mro.isEmpty=false:=by cases q:cd.mro with | nil=>rw[q] at ho;cases ho | cons _ _=>rfl
 have sub:PySem.W.Looks (model prog w) s.heap (isInstance (.ref x) (.type "object")) true:=I.type.andThen (PySem.W.looks_mroIn X (by unfold PySem.W.mroIn;rw[hc,Option.bind_some,if_neg (by rw[ne];decide),xOver_has ho]))
 have hm:PySem.W.Looks (model prog w) s.heap (mroOf (.ref C)) cd.mro:=(PySem.W.looks_clsIn X hc).andThen .now
 refine codeAny_call_builtin SF.slot.plain SF.entry (@PySem.W.check_slot (model prog w) _ _ { s with toks:=s.toks+1 } "object.__setattr__" "object" "__setattr__" (.ref x) [.str name s.toks,v] [] _ SF.kind SF.split sub (SF.args (.ref x) (.str name s.toks) v) ?_)
 rw[PySem.W.osa_eq,refuse_eq]
 refine wpAny_bind (wpAny_bind (PySem.W.Looks.here (s:={ s with toks:=s.toks+1 }) I.type (wpAny_bind (PySem.W.Looks.here (s:={ s with toks:=s.toks+1 }) hm ?_))))
 rw[refuse_x _ ho]
 refine wpAny_pure (wpAny_bind (PySem.W.Looks.here (s:={ s with toks:=s.toks+1 }) I.type (wpAny_bind (PySem.W.Looks.here (s:={ s with toks:=s.toks+1 }) (PySem.W.looks_findIn X hn) (wpAny_bind (wpAny_pure ?_))))))
 refine wpAny_bind (wpAny_pure (wpAny_bind (wpAny_bind (wpAny_loadPart hx (wpAny_bind (PySem.W.Looks.here (s:={ s with toks:=s.toks+1 }) (PySem.W.looks_clsIn X hc) ?_))))))
 rw[hd,if_neg (by decide)]
 dsimp only
 rw[if_neg (by simp[typeHasDict])]
 have hx₁:(s.heap.push { cls:=.type "dict", data:=.dict #[] }).get? x=some ⟨.ref C,none,.fields vs,sl⟩:=Heap.get?_push_of_some _ hx
 have hxs:x≠s.heap.objs.size:=Nat.ne_of_lt (Heap.lt_size hx)
 refine wpAny_bind (wpAny_alloc' ?_)
 refine wpAny_bind (wpAny_update' hx₁ ?_)
 refine wpAny_pure ?_
 have hgd:((s.heap.push { cls:=.type "dict", data:=.dict #[] }).update x fun o=>{ cls:=o.cls,dict:=some s.heap.objs.size,data:=o.data,slots:=o.slots }).get? s.heap.objs.size
   = some { cls:=.type "dict", data:=.dict #[] } :=
  (Heap.get?_update_ne _ _ _ _ hxs.symm).trans (Heap.get?_push_at rfl rfl)
 have hnd:((s.heap.push { cls:=.type "dict", data:=.dict #[] }).update x fun o=>{ cls:=o.cls,dict:=some s.heap.objs.size,data:=o.data,slots:=o.slots }).Ns s.heap.objs.size (fun _=>none) :=
  ⟨_,#[],_,hgd,rfl,fun e he=>absurd he (by simp),fun _=>rfl⟩
 refine wpAny_bind (wpAny_pure (wpAny_bind (wpAny_nsSet1 (Heap.Ns1.of_empty hnd) fun h' hn' hs2=>?_)))
 obtain⟨oD,esD,epD,hoD,hdD,hcD⟩:=hn'.count (PySem.Within.cons name v PySem.Within.nil)
 refine wpAny_bind (wpAny_lookBehind hoD (by rw[hdD];exact pastItsLine_dict (Nat.le_trans hcD (by rw[List.length_cons,List.length_nil,sizeLine_eq];omega))) ?_)
 refine wpAny_pure (h h' ?_ hn' fun b o hb e=>?_)
 ·exact (hs2.2 x hxs).trans (Heap.get?_update_self _ hx₁ rfl)
 ·exact (hs2.2 b (Nat.ne_of_lt (Heap.lt_size e))).trans ((Heap.get?_update_ne _ _ _ _ hb).trans (Heap.get?_push_of_some _ e))
theorem xget{ox:Obj}{od:Option Obj}{expr:Bool}{cd:ClassData}{Q:Value→Shared→Prop}(X:K.In s.heap)(I:PySem.W.InstAt s.heap x ox C od)
  (hga:PySem.W.findIn K (.ref C) "__getattribute__" = some (some (.builtin "BaseException.__getattribute__"))) (hk:PySem.W.findIn K (.ref C) "__getattr__" = some none)
  (hc:PySem.W.clsIn K C=some cd) (ho:xOver cd.mro=true) (hf:PySem.W.findObj K C od name=some (.value v)) (hh:PySem.W.handedIn v=true) (h:Q v { s with toks:=s.toks+1 }) :
  wpAny (model prog w) A (getAttr (.ref x) name expr) Q E s:=by
 have ne:cd.mro.isEmpty=false:=by cases q:cd.mro with | nil=>rw[q] at ho;cases ho | cons _ _=>rfl
 have sub:PySem.W.Looks (model prog w) s.heap (isInstance (.ref x) (.type "BaseException")) true:=I.type.andThen (PySem.W.looks_mroIn X (by unfold PySem.W.mroIn;rw[hc,Option.bind_some,if_neg (by rw[ne];decide),xOver_exc ho]))
 have L0:=I.type (M:=model prog w)
 have L1:=PySem.W.looks_find (M:=model prog w) X I hf
 refine wpAny_bind (wpAny_mkText (wpAny_holding (wpAny_bind (I.type _ _ _ _ (fun _ _ e=>e) (wpAny_bind (PySem.W.looks_findIn X hga _ _ _ _ (fun _ _ e=>e) ?_))))))
 dsimp only
 rw[show (onTheHeap (.ref C) && Value.builtin "BaseException.__getattribute__" == Value.builtin "object.__getattribute__")=false from by rw[show (Value.builtin "BaseException.__getattribute__" == Value.builtin "object.__getattribute__")=false from by decide +kernel,Bool.and_false],if_neg (by decide)]
 refine wpAny_bind (PySem.W.looks_findIn X hk _ _ _ _ (fun _ _ e=>e) (wpAny_bind (wpAny_attempt (wpAny_holding ?_))))
 unfold callGetattribute
 rw[show (expr && onTheHeap (Value.builtin "BaseException.__getattribute__"))=false from Bool.and_false _,if_neg (by decide)]
 unfold boundAndCalled
 rw[PySem.F.excAttr_ValueError.ga.bind]
 refine wpAny_bind (wpAny_pure ?_)
 show wpAny _ _ (call (.builtin "BaseException.__getattribute__") [.ref x,.str name s.toks]) _ _ _
 refine wpAny_call (codeAny_call_builtin PySem.F.excAttr_ValueError.ga.plain PySem.F.entry_bexc_ga ?_)
 refine @PySem.W.check_slot (model prog w) _ _ { s with toks:=s.toks+1 } "BaseException.__getattribute__" "BaseException" "__getattribute__" (.ref x) [.str name s.toks] [] _ (by decide +kernel) (by decide +kernel) sub (PySem.F.args_bexc_ga (.ref x) (.str name s.toks)) ?_
 refine wpAny_bind (wpAny_pure (wpAny_bind (wpAny_pure (wpAny_bind (PySem.W.Looks.here (s:={ s with toks:=s.toks+1 }) L0 (wpAny_bind (PySem.W.Looks.here (s:={ s with toks:=s.toks+1 }) L1 ?_)))))))
 refine wpAny_pure ?_
 show wpAny _ _ (handedOut v) _ _ _
 rw[PySem.W.handedOut_of hh];exact wpAny_pure h
end
section
variable {prog:Program}{w:World}{A:Around}{E:Value→Shared→Prop}{h:Heap}{g:Array GenState}{d:Drawn}{t:Nat}{os:OsState}
variable {nm q:Str}{C N:Addr}{bs bm bmB:List Value}{hdct:Bool}{sn:List Str}{sub:List Value}{ab:Bool}{col:Option Bool}{dd:Option Addr}{k0 k1 k2 k3 k5:Option Value}{B newId initId:String}
theorem type_call_xinit(F:ExcBaseFacts B newId initId bmB)(T:OwnTail h bmB bm){mN:Str→Option Value}{rest:List Value}{fI:Addr}{oI:Obj}{Q:Fin→Shared→Prop}
  (hC:h.get? C=some (excClassObj nm q C N bs bm hdct sn sub ab col dd k0 k1 k2 k3 k5 newId)) (hn:h.Ns N mN) (hi:mN "__init__" = some (.ref fI))
  (hfI:h.get? fI=some oI) (hfc:oI.cls=.type "function")
  (hq:∀ h' e,h.objs.size < e→Heap.MadeExcOf h h' e (.ref C) rest →
   wpAny (model prog w) A (call (.ref fI) (.ref e::rest)) (fun r s'=>r=.none∧Q (.done (.ret (.ref e))) s') E ⟨h',g,d,t,os⟩) (hrest:rest.length≤sizeLine) :
  wpAny (model prog w) A (Builtin.«type.__call__» ⟨.ref C::rest,[]⟩) Q E ⟨h,g,d,t,os⟩:=by
 repeat (first | with_reducible refine wpAny_loadPart_at hC ?_ | with_reducible refine wpAny_madeBy_exc hC ?_ | wp_step)
 refine codeAny_call_builtin_code (Code.quiet_builtin _ F.quiet) (wpAny_check_new_subT F T hC ?_)
 refine codeAny_exc_new_subT F T hC ?_ hrest
 show wpAny _ _ _ _ _ _
 have hC₁:=Heap.get?_push_of_some { cls:=.ref C,data:=.fields #[.ref h.objs.size,.none,.none,.none,.bool false,.none] }
  (Heap.get?_push_of_some { cls:=.type "tuple", data:=.seq rest.toArray } hC)
 have hfI₁:=Heap.get?_push_of_some { cls:=.ref C,data:=.fields #[.ref h.objs.size,.none,.none,.none,.bool false,.none] }
  (Heap.get?_push_of_some { cls:=.type "tuple", data:=.seq rest.toArray } hfI)
 have hn₁:((h.push { cls:=.type "tuple", data:=.seq rest.toArray }).push { cls:=.ref C,data:=.fields #[.ref h.objs.size,.none,.none,.none,.bool false,.none] }).Ns N mN :=
  let ⟨o,es,ep,e,r⟩:=hn;⟨o,es,ep,Heap.get?_push_of_some _ (Heap.get?_push_of_some _ e),r⟩
 have hget:((h.push { cls:=.type "tuple", data:=.seq rest.toArray }).push
   { cls:=.ref C,data:=.fields #[.ref h.objs.size,.none,.none,.none,.bool false,.none] }).get? (h.objs.size+1)=some
   { cls:=.ref C,data:=.fields #[.ref h.objs.size,.none,.none,.none,.bool false,.none] }:=by heap_get
 have hcC:(Value.ref C::bm).contains (.ref C)=true:=by simp
 have T₁:=T.keeps (h':=(h.push { cls:=.type "tuple", data:=.seq rest.toArray }).push { cls:=.ref C,data:=.fields #[.ref h.objs.size,.none,.none,.none,.bool false,.none] })
  fun b o e=>Heap.get?_push_of_some _ (Heap.get?_push_of_some _ e)
 unfold isInstance
 repeat (first | with_reducible refine wpAny_loadPart_at hget ?_ | (with_reducible refine wpAny_isSubtype_exc hC₁ ?_;rw[hcC]) | wp_step)
 show wpAny _ _ (typeLookup (.ref C) _) _ _ _
 refine wpAny_typeLookup_tail hC₁ hn₁ T₁ F.mroIs F.init.lookup ?_
 rw[hi]
 refine wpAny_holding (wpAny_bind ?_)
 unfold bindSpecial
 refine wpAny_bind (wpAny_typeOf (T := "function") ⟨_,hfI₁,hfc⟩ ?_)
 rw[if_pos (by decide)]
 refine wpAny_pure (wpAny_bind (wpAny_mono (hq _ (h.objs.size+1) (Nat.lt_succ_self _) ⟨fun b o hb=>Heap.get?_push_of_some _ (Heap.get?_push_of_some _ hb),Heap.get?_none_of_le (Nat.le_succ _),h.objs.size,hget,Heap.get?_none_of_le (Nat.le_refl _),?_⟩) (fun r s' hr=>?_) fun _ _ x=>x))
 ·exact Heap.get?_push_of_some _ (Heap.get?_push_at rfl rfl)
 ·obtain⟨rfl,hQ⟩:=hr
  wp_walk
  exact hQ
theorem call_xinit(F:ExcBaseFacts B newId initId bmB)(T:OwnTail h bmB bm){mN:Str→Option Value}{rest:List Value}{fI:Addr}{oI:Obj}{Q:Value→Shared→Prop}
  (hC:h.get? C=some (excClassObj nm q C N bs bm hdct sn sub ab col dd k0 k1 k2 k3 k5 newId)) (hn:h.Ns N mN) (hi:mN "__init__" = some (.ref fI))
  (hfI:h.get? fI=some oI) (hfc:oI.cls=.type "function")
  (hq:∀ h' e,h.objs.size < e→Heap.MadeExcOf h h' e (.ref C) rest →
   wpAny (model prog w) (A.under (.builtin "type.__call__" ⟨.ref C::rest,[]⟩)) (call (.ref fI) (.ref e::rest)) (fun r s'=>r=.none∧Q (.ref e) s') E ⟨h',g,d,t,os⟩) (hrest:rest.length≤sizeLine) :
  wpAny (model prog w) A (call (.ref C) rest) Q E ⟨h,g,d,t,os⟩:=by
 have f1:=tc_lookup
 have f2:=tc_bind (.ref C)
 have hT:(⟨h,g,d,t,os⟩:Shared).TypeIs (.ref C) "type" := ⟨_,hC,rfl⟩
 refine wpAny_call (codeAny_of_tree ?_)
 show wpAny _ _ (callAny (.ref C) _) _ _ _
 repeat (any_goals (first | assumption | with_reducible refine wpAny_loadPart_at hC ?_ | wp_step))
 refine⟨rfl,?_⟩
 refine codeAny_call_builtin_at (Code.quiet_builtin _ (by decide +kernel)) entry_typeCall (wpAny_check_type_call_sub hC (type_call_xinit F T hC hn hi hfI hfc (fun h' e hz hm=>hq h' e hz hm) hrest))
end
section
variable {prog:Program}{w:World}{A:Around}{E:Value→Shared→Prop}{s:Shared}{env:Env}
variable {nm q:Str}{C N:Addr}{bs bm bmB:List Value}{hdct:Bool}{sn:List Str}{sub:List Value}{ab:Bool}{col:Option Bool}{dd:Option Addr}{k0 k1 k2 k3 k5:Option Value}{B newId initId:String}
abbrev xObj(C:Addr)(od:Option Addr)(t:Addr):Obj:=⟨.ref C,od,.fields #[.ref t,.none,.none,.none,.bool false,.none],#[]⟩
theorem raiseStmt_x{x:Sem Value}{Q:Flow→Shared→Prop}(hbase:bm.contains (.type "BaseException")=true)(hh:A.handled=none)
  (h:wpAny (model prog w) A x (fun v s₁=>∃ e od t,v=.ref e∧s₁.heap.get? C=some (excClassObj nm q C N bs bm hdct sn sub ab col dd k0 k1 k2 k3 k5 newId) ∧
   s₁.heap.get? e=some (xObj C od t)∧E (.ref e) s₁) E s) :
  wpAny (model prog w) A (raiseStmt env (some x) none) Q E s:=by
 have hcB:(Value.ref C::bm).contains (.type "BaseException")=true:=by rw[List.contains_cons,hbase,Bool.or_true]
 unfold raiseStmt
 refine wpAny_bind (wpAny_mono h (fun v s₁ h₁=>?_) fun _ _ x=>x)
 obtain⟨e,od,t,rfl,hC,he,hE⟩:=h₁
 unfold xObj at he
 obtain⟨hp,g,d,tk,os⟩:=s₁
 repeat (first | with_reducible refine wpAny_loadPart_at he ?_ | with_reducible refine wpAny_loadPart_at hC ?_ | (with_reducible refine wpAny_isSubtype_exc hC ?_;rw[hcB]) | wp_step)
 exact wpAny_raiseNew_none hh hE
theorem Raise_xinit(F:ExcBaseFacts B newId initId bmB){mN:Str→Option Value}{x:Str}{np cpos pos:Pos}{args:List Expr}{Q:Flow→Shared→Prop}{fI:Addr}{oI:Obj}
  (hbase:bm.contains (.type "BaseException")=true) (hh:A.handled=none) (hplain:(backTo cpos (starEach args env)).any (·.1)=false) (hi:mN "__init__" = some (.ref fI)) (hfc:oI.cls=.type "function")
  (h:wpAny (model prog w) A (eval (.Name x np) env) (fun f s₁=>f=.ref C∧wpAny (model prog w) A (evalArgs (.ref C) true (backTo cpos (starEach args env)) [])
   (fun a s₂=>a.kw=[]∧a.pos.length≤sizeLine∧s₂.heap.get? C=some (excClassObj nm q C N bs bm hdct sn sub ab col dd k0 k1 k2 k3 k5 newId)∧s₂.heap.Ns N mN∧OwnTail s₂.heap bmB bm∧s₂.heap.get? fI=some oI ∧
    ∀ h' e,s₂.heap.objs.size < e→Heap.MadeExcOf s₂.heap h' e (.ref C) a.pos→wpAny (model prog w) (A.under (.builtin "type.__call__" ⟨.ref C::a.pos,[]⟩)) (call (.ref fI) (.ref e::a.pos)) (fun r s'=>r=.none ∧
     ∃ od t,s'.heap.get? C=some (excClassObj nm q C N bs bm hdct sn sub ab col dd k0 k1 k2 k3 k5 newId)∧s'.heap.get? e=some (xObj C od t)∧E (.ref e) s') E { s₂ with heap:=h' }) E s₁) E s) :
  wpAny (model prog w) A (exec (.Raise (some (.Call (.Name x np) args [] cpos)) none pos) env) Q E s:=by
 rw[arm_exec_Raise]
 refine wpAny_bind (wpAny_standAt (raiseStmt_x (C:=C) (nm:=nm) (q:=q) (N:=N) (bs:=bs) (bm:=bm) (hdct:=hdct) (sn:=sn) (sub:=sub) (ab:=ab) (col:=col) (dd:=dd) (k0:=k0) (k1:=k1) (k2:=k2) (k3:=k3) (k5:=k5) (newId:=newId) hbase hh (wpAny_bind (wpAny_mono (wpAny_Call_ofName (wpAny_mono h (fun f s₁ h₁=>?_) fun _ _ x=>x)) (fun v s₃ h₃=>wpAny_bind (wpAny_standAt (wpAny_pure h₃))) fun _ _ x=>x))))
 obtain⟨rfl,h₁⟩:=h₁
 unfold callWith
 refine wpAny_bind (wpAny_holding (wpAny_mono h₁ (fun a s₂ h₂=>wpAny_bind (wpAny_standAt ?_)) fun _ _ x=>x))
 obtain⟨apos,akw⟩:=a
 obtain⟨hkw,hlen,hC,hn,T,hfI,h₂⟩:=h₂
 obtain rfl:akw=[]:=hkw
 obtain⟨hp,g,d,tk,os⟩:=s₂
 simp only[hplain]
 refine wpAny_bind (wpAny_keeperOf_exc hC ?_)
 refine wpAny_bind (call_xinit (Q:=fun v s'=>_) F T hC hn hi hfI hfc (fun h' e hz hm=>wpAny_mono (h₂ h' e hz hm) (fun r s' z=>⟨z.1,wpAny_bind (wpAny_holding (wpAny_point (wpAny_pure ?_)))⟩) fun _ _ x=>x) hlen)
 obtain⟨od,t,z1,z2,z4⟩:=z.2
 exact⟨e,od,t,rfl,z1,z2,z4⟩
end
section
variable {K:PySem.W.Frag}{C fI:Addr}{f:Str}{h:Heap}
def xIn(K:PySem.W.Frag)(C fI:Addr):Bool:=match K.lookup C with
 | some ⟨.type "type", _,.cls cd,sl⟩=>(match cd.mro,sl.toList with
  | .ref C'::bm,[_,_,_,_,some (.builtin n),_]=>C' == C && n == "ValueError.__new__" && !cd.hasDel && PySem.W.tailIn K veTail bm && PySem.W.nsOkIn K cd.ns && PySem.W.nsIn K cd.ns "__init__" == some (some (.ref fI))
  | _,_=>false)
 | _=>false
structure XCls(K:PySem.W.Frag)(C fI:Addr)(f:Str):Prop where
 isIn:xIn K C fI=true
 sa:PySem.W.findIn K (.ref C) "__setattr__" = some (some (.builtin "object.__setattr__"))
 at_:PySem.W.findIn K (.ref C) f=some none
 ga:PySem.W.findIn K (.ref C) "__getattribute__" = some (some (.builtin "BaseException.__getattribute__"))
 gr:PySem.W.findIn K (.ref C) "__getattr__" = some none
 mro:(PySem.W.clsIn K C).any (fun cd=>xOver cd.mro && cd.hasDict)=true
 fn:PySem.W.isFn K (.ref fI)=true
structure XBase(K:PySem.W.Frag)(B:Addr):Prop where
 ga:PySem.W.specialIn K (.ref B) "__getattribute__" = some (some (.builtin "type.__getattribute__"))
 rd:PySem.W.readsIn K B (.type "type")=true
 fc:PySem.W.findCls K (.ref B) (.type "type") "__init__" = some (.val (.builtin "ValueError.__init__"))
theorem ns_some{N:Addr}{mg:Str→Option Value}{n:Str}{v:Value}(X:K.In h)(G:h.Ns N mg)(e:PySem.W.nsIn K N n=some (some v)):mg n=some v:=by
 obtain⟨o,es,ep,ho,hd,_,hf⟩:=G
 unfold PySem.W.nsIn at e
 split at e
 ·rename_i c d es' n' sl q
  have:=X _ _ q
  rw[ho] at this
  cases this
  cases hd
  split at e
  ·rename_i en he
   cases e
   rw[← hf]
   unfold nsFind findBy
   rw[← Array.find?_toList,he]
   rfl
  ·split at e<;>cases e
 ·cases e
theorem XCls.obj(O:XCls K C fI f)(X:K.In h) :
  ∃ bm N nm q bs hdct sn sub ab col dd k0 k1 k2 k3 k5 mN,h.get? C=some (excClassObj nm q C N bs bm hdct sn sub ab col dd k0 k1 k2 k3 k5 "ValueError.__new__")∧h.Ns N mN∧mN "__init__" = some (.ref fI)∧OwnTail h veTail bm:=by
 have q:=O.isIn
 unfold xIn at q
 split at q
 case h_2=>cases q
 rename_i dd cd sl ho
 split at q
 case h_2=>cases q
 rename_i C' bm k0 k1 k2 k3 n k5 hm hs
 simp only[Bool.and_eq_true,beq_iff_eq,Bool.not_eq_true'] at q
 obtain⟨⟨⟨⟨⟨e1,e2⟩,hdel⟩,ht⟩,hok⟩,hni⟩:=q
 subst e1;subst e2
 cases cd with
 | mk nm bs mro ns qn hd sn sub ab col del =>
  dsimp only at hm hdel hok hni
  subst hm;subst hdel
  obtain rfl:sl=#[k0,k1,k2,k3,some (.builtin "ValueError.__new__"),k5]:=by
   cases sl with
   | mk l=>exact congrArg Array.mk hs
  have G:h.Ns ns _:=.of_isNs (PySem.W.isNs_of_in X hok)
  exact⟨bm,ns,nm,qn,bs,hd,sn,sub,ab,col,dd,k0,k1,k2,k3,k5,_,X _ _ ho,G,ns_some X G hni,PySem.W.tail_of_in X ht⟩
theorem XCls.cls(O:XCls K C fI f):∃ cd,PySem.W.clsIn K C=some cd∧xOver cd.mro=true∧cd.hasDict=true:=by
 obtain⟨cd,hc,q⟩:=PySem.W.any_some O.mro
 simp only[Bool.and_eq_true] at q
 exact⟨cd,hc,q.1,q.2⟩
theorem XCls.fnObj(O:XCls K C fI f)(X:K.In h):∃ oI,h.get? fI=some oI∧oI.cls=.type "function" := by
 have q:PySem.W.typeIn K (.ref fI)=some (.type "function"):=beq_iff_eq.mp O.fn
 unfold PySem.W.typeIn at q
 obtain⟨o,ho,hc⟩:=Option.map_eq_some_iff.mp q
 exact⟨o,X _ _ ho,hc⟩
end
def exO(a C:Addr)(od:Option Addr):HO:=.ext fun h=>∃ t,h.get? a=some (xObj C od t)
theorem exO_ok{P:Program}{w:World}{H:Hp}{h:Heap}{a C:Addr}{od:Option Addr}(e:∃ t,h.get? a=some (xObj C od t)):ObjOk P w H h a (exO a C od) :=
 ⟨e,let ⟨_,q⟩:=e;⟨_,q⟩,fun _ _ ⟨t,q⟩ k=>⟨t,k _ q⟩⟩
theorem exO_at{P:Program}{w:World}{H:Hp}{h:Heap}{a C:Addr}{od:Option Addr}(x:HOk P w H h)(e:H a=some (exO a C od)):∃ t,h.get? a=some (xObj C od t):=(x a _ e).1
section
variable {X:Cx}{pins:List (Addr×Obj)}{σ:St}{H:Hp}{s:Shared}{a C fI:Addr}{f:Str}{A:Around}{E:Value→Shared→Prop}
theorem xinit_ok{us:List Value}{Q:Value→Shared→Prop}(I:Inv X pins σ H s)(O:XCls X.K C fI f)(e:H a=some (exO a C none))(hl:us.length≤sizeLine)(h:∀ s',Inv X pins σ H s'→Q .none s') :
  wpAny (model X.prog X.w) A (call (.builtin "ValueError.__init__") (.ref a::us)) Q E s:=by
 obtain⟨t0,he⟩:=exO_at I.hok e
 obtain⟨tl,Nn,nm,q,bs,hdct,sn,sub,ab,col,dd,k0,k1,k2,k3,k5,mN,hC,hN,hni,T⟩:=O.obj I.kIn
 obtain⟨hh,g,d,tk,os⟩:=s
 refine wpAny_call (codeAny_call_builtin PySem.F.excBase_ValueError.init.plain PySem.F.excBase_ValueError.initEntry (wpAny_check_init_subT PySem.F.excBase_ValueError T hC he rfl ?_))
 have he':hh.get? a=some { cls:=.ref C,data:=.fields #[.ref t0,.none,.none,.none,.bool false,.none] }:=he
 wp_walk
 have na:a≠hh.objs.size:=Nat.ne_of_lt (Heap.lt_size he')
 have hp:(hh.push { cls:=.type "tuple", data:=.seq us.toArray }).get? a=some { cls:=.ref C,data:=.fields #[.ref t0,.none,.none,.none,.bool false,.none] }:=Heap.get?_push_of_some _ he'
 have hu:=Heap.get?_update_self (Obj.mapFields fun x=>x.setIfInBounds 0 (Value.ref hh.objs.size)) hp rfl
 have hw:=Inv.write (x:=a) (e:=a) (o:=exO a C none) (t':=tk) (h':=(hh.push { cls:=.type "tuple", data:=.seq us.toArray }).update a (Obj.mapFields fun x=>x.setIfInBounds 0 (Value.ref hh.objs.size))) I (by rw[e];exact True.intro) (.inl rfl)
  (fun b u hb q=>(Heap.get?_update_ne _ _ _ _ hb).trans (Heap.get?_push_of_some _ q)) ⟨_,hu⟩ (exO_ok ⟨hh.objs.size,hu⟩)
 have hH:upd H a (exO a C none)=H:=funext fun b=>by
  by_cases q:b=a
  ·rw[q,upd_same,e]
  ·rw[upd_ne q]
 rw[hH] at hw
 exact h _ hw
theorem xset_ok{y:V}{u:Value}{Q:Unit→Shared→Prop}(I:Inv X pins σ H s)(O:XCls X.K C fI f)(e:H a=some (exO a C none))(ry:RelV y u)
  (h:∀ dx s',H dx=none→Inv X pins σ (upd (upd H dx (.xd [(f,y)])) a (exO a C (some dx))) s'→Q () s'):wpAny (model X.prog X.w) A (setAttr (.ref a) f u) Q E s:=by
 obtain⟨t0,he⟩:=exO_at I.hok e
 obtain⟨cd,hc,ho,hd⟩:=O.cls
 refine xset I.kIn he O.sa O.at_ hc ho hd fun h' q1 q2 q3=>h s.heap.objs.size _ (I.hok.fresh (Nat.le_refl _)) ?_
 obtain⟨oD,es,ep,g1,g2⟩:=id q2
 have na:a≠s.heap.objs.size:=Nat.ne_of_lt (Heap.lt_size he)
 have g3:(s.heap.push oD).get? s.heap.objs.size=some oD:=Heap.get?_push_size _ (Heap.get?_some_iff.mp g1).2
 have I1:=I.laid (a:=s.heap.objs.size) (o:=.xd [(f,y)]) (h':=s.heap.push oD) (t':=s.toks) (fun b v q=>Heap.get?_push_of_some _ q) (Nat.le_refl _)
  ⟨_,⟨oD,es,ep,g3,g2⟩,fun g=>by
   show RelO (List.lookup g [(f,y)]) (if g=f then some u else none)
   by_cases q:g=f
   ·rw[if_pos q,q];simp only[List.lookup,beq_self_eq_true];exact ry
   ·rw[if_neg q];simp only[List.lookup,beq_eq_false_iff_ne.mpr q];exact True.intro⟩
 refine Inv.write (s:={ s with heap:=s.heap.push oD }) (x:=a) (e:=a) (t':=s.toks+2) I1 (by rw[upd_ne na,e];exact True.intro) (.inl rfl) (fun b v hb q=>?_) ⟨_,q1⟩ (exO_ok ⟨t0,q1⟩)
 by_cases z:b=s.heap.objs.size
 ·rw[z] at q ⊢
  exact g1.trans (g3.symm.trans q)
 ·refine q3 b v hb ?_
  exact (Heap.get?_push_ne _ _ _ z).symm.trans q
end
section
variable {X:Cx}{o value e:Expr}{es:List Expr}{ta tv:TE}{t:TA}{f x:Str}{pos pos' apos p:Pos}
def sXFld(K:PySem.W.Frag)(ta tv:TE)(f:Str):TS:=fun D σ H=>tv σ H fun y H1=>ta σ H1 fun x H2=>∃ a C fI,x=.ref a∧XCls K C fI f∧H2 a=some (exO a C none) ∧
 ∀ dx,H2 dx=none→D.nx σ (upd (upd H2 dx (.xd [(f,y)])) a (exO a C (some dx)))
theorem ps_xfld(ha:PE X o ta)(hv:PE X value tv)(hs:swapsWith value (some (.Attribute o f pos')) pos.line X.env=pure false:=by rfl):PS X (.Assign [.Attribute o f pos'] value pos) (sXFld X.K ta tv f):=by
 intro pins s σ H D I h
 refine plainObj_wpAny_Assign_Attribute (thn (hv pins s σ H _ I h) fun u s1 ⟨y,H1,I1,ry,q⟩=>thn (ha pins s1 σ H1 _ I1 q) fun ov s2 ⟨x,H2,I2,rx,a,C,fI,ex,O,ea,q2⟩=>?_) hs
 subst ex
 obtain rfl:ov=Value.ref a:=rx
 exact xset_ok I2 O ea ry fun dx s3 hdx I3=>⟨σ,_,I3,q2 dx hdx⟩
def tXInit(K:PySem.W.Frag)(t:TA):TE:=fun σ H Q=>t σ H fun vs H1=>∃ a C fI f v,vs=.ref a::v∧v.length≤1000∧XCls K C fI f∧H1 a=some (exO a C none)∧Q .non H1
theorem pe_xinit{B:Addr}{pl:Sem Bool}(W:XBase X.K B)(hg:Gl X x)(hm:X.mg x=some (.ref B))(ha:PA X (e::es) t)(hdb:(x == ("__debug__" : Str))=false:=by decide)
  (hst:starEach (e::es) X.env=(false,eval e X.env)::starEach es X.env:=by rfl) (hpl:(backTo pos (starEach es X.env)).any (·.1)=false:=by rfl)
  (ht:eval (.Call (.Attribute (.Name x p) "__init__" apos) (e::es) [] pos) X.env=(do
   let ov ← eval (.Name x p) X.env
   standAt apos.atName
   let (f,first) ← holding [ov] (getMethod ov "__init__" pl)
   callWith pos f first (backTo pos (starEach (e::es) X.env)) (backToKw pos (keywordEach [] X.env))):=by rfl) :
  PE X (.Call (.Attribute (.Name x p) "__init__" apos) (e::es) [] pos) (tXInit X.K t):=by
 intro pins s σ H Q I h
 refine PySem.W.methodCall_KW (pl:=pl) (ld_glob I hg hm ?_ hdb) ht
 refine PySem.W.method_cls I.kIn W.ga (PySem.W.cls_value I.kIn W.rd W.fc rfl ?_)
 refine PyProof.Rows.callWith_builtin1 (thn (ha pos pins _ σ H _ (I.tok _) h) fun us s1 ⟨vs,H1,I1,r,a,C,fI,f,v,ev,hl,O,e,q⟩=>?_) hst hpl
 subst ev
 cases r with
 | cons r1 r2 =>
  obtain rfl:=(show _=Value.ref a from r1)
  exact xinit_ok I1 O e (by rw[← r2.length,sizeLine_eq];omega) fun s' I'=>⟨.non,H1,I',rfl,q⟩
end
def del(H:Hp)(a:Addr):Hp:=fun b=>if b=a then none else H b
theorem del_same{H:Hp}{a:Addr}:del H a a=none:=if_pos rfl
theorem del_ne{H:Hp}{a b:Addr}(h:b≠a):del H a b=H b:=if_neg h
theorem HOk.del{P:Program}{w:World}{H:Hp}{h:Heap}{a:Addr}{φ:Heap→Prop}(x:HOk P w H h)(e:H a=some (.ext φ)):HOk P w (del H a) h:=fun b o q=>by
 have hb:b≠a:=fun z=>by rw[z,del_same] at q;cases q
 rw[del_ne hb] at q
 refine (x b o q).stay (fun _ _ _ z=>z) (fun c hc=>?_) fun c xs hc=>?_
 ·rw[del_ne fun z=>by rw[z,e] at hc;cases hc];exact hc
 ·rw[del_ne fun z=>by rw[z,e] at hc;cases hc];exact hc
theorem Un.del{fs ex:List Addr}{H H1:Hp}{h h1:Heap}{a:Addr}{φ:Heap→Prop}(u:Un fs ex H H1 h h1)(e:H1 a=some (.ext φ)):Un fs ex H (del H1 a) h h1 where
 keep:=u.keep
 slot:=u.slot
 free:=fun b o q n hx=>by
  by_cases z:b=a
  ·rw[z,del_same]
  ·rw[del_ne z];exact u.free b o q n hx
 there:=u.there
 tups:=fun b xs q=>by have:=u.tups b xs q;rw[del_ne fun z=>by rw[z,e] at this;cases this];exact this
 frzs:=fun b o v q=>by have:=u.frzs b o v q;rw[del_ne fun z=>by rw[z,e] at this;cases this];exact this
 tbls:=fun b ps q=>by obtain⟨m,this⟩:=u.tbls b ps q;exact⟨m,by rw[del_ne fun z=>by rw[z,e] at this;cases this];exact this⟩
def FlyD(outer:List Env)(H':Hp)(h₀ h':Heap)(e:Addr)(cls:Value)(od:Option Addr):Prop :=
 ∃ B,Heap.FlyingD B outer e cls od h'∧∀ b o,h'.get? b=some o→(H' b≠none∨∃ o₀,h₀.get? b=some o₀)→b∉frs outer→B.get? b=some o
def CXD(P:Program)(w:World):CXT:=fun outer H s E e s'=>∃ ea cls od H',e=.ref ea∧s'.os=s.os∧AllBare s'.gens∧Un (frs outer) [] H H' s.heap s'.heap∧HOk P w H' s'.heap∧FlyD outer H' s.heap s'.heap ea cls od∧E cls od H'
section
variable {M:Model}{A:Around}{E:Value→Shared→Prop}{s:Shared}
theorem leaves_x{base:Heap}{env:Env}{outer:List Env}{L e C t:Addr}{od:Option Addr}{Q:Unit→Shared→Prop}(hfr:A.frames=some (env::outer))(hl:s.heap.FunFrames base (env::outer))(hf:env.frame=some L)
  (he:s.heap.get? e=some (xObj C od t)) (hkb:base.StaysIn s.heap) (hen:base.get? e=none)
  (hQ:∀ h',Heap.FlyingD base outer e (.ref C) od h'→s.heap.UpToSlots h'→Q () { s with heap:=h' }):wpAny M A (leaving env (.ref e)) Q E s:=by
 exact leaves_first hfr hf hkb hen hl he ⟨_,rfl,rfl⟩ rfl rfl hQ
end
section
variable {P:Program}{w:World}{K:PySem.W.Frag}{mg:Str→Option Value}{base:Heap}{N:List Str}{qual:Str}{scope:Scope}{f:Addr}{cd:Value}{A:Around}{outer:List Env}{s:Shared}{H:Hp}{E:XK}
abbrev cxD(P:Program)(w:World)(K:PySem.W.Frag)(mg:Str→Option Value)(base:Heap)(N:List Str)(qual:Str)(scope:Scope)(f:Addr)(cd:Value)(A:Around)(outer:List Env)(s:Shared)(H:Hp)(E:XK):Cx :=
 cxOf (CXD P w) P w K mg base N qual scope f cd A outer s H E
theorem raised_xd{pins:List (Addr×Obj)}{σ:St}{H1:Hp}{s1:Shared}{e C:Addr}{od:Option Addr}
  (I:Inv (cxD P w K mg base N qual scope f cd A outer s H E) pins σ H1 s1) (hne:s.heap.get? e=none) (he:H1 e=some (exO e C od)) (hE:E (.ref C) od (del H1 e)) :
  (cxD P w K mg base N qual scope f cd A outer s H E).xe (.ref e) s1:=by
 obtain⟨t,hx⟩:=exO_at I.hok he
 have hF:=I.stack
 have hin:∀ env∈(envOfC qual scope s.heap.objs.size f cd::outer),∀ b,env.frame=some b→b∈e::(envOfC qual scope s.heap.objs.size f cd::outer).filterMap (·.frame):=fun env he b hb=>List.mem_cons_of_mem _ (List.mem_filterMap.mpr ⟨env,he,hb⟩)
 have hfr:(envOfC qual scope s.heap.objs.size f cd).frame=some s.heap.objs.size:=rfl
 refine leaves_x (base:=PySem.W.hideAll s1.heap (e::(envOfC qual scope s.heap.objs.size f cd::outer).filterMap (·.frame))) I.ok.frames (PySem.W.funFrames_hide hF hin) hfr hx (fun b o q=>PySem.W.of_hideAll _ q) (PySem.W.hideAll_none _ (List.mem_cons_self ..)) fun h' x1 x4=>?_
 have k1:∀ b o,s1.heap.get? b=some o→b≠e→b∉frs (envOfC qual scope s.heap.objs.size f cd::outer)→h'.get? b=some o:=fun b o q z n=>x1.1 b o (PySem.W.hideAll_get _ q fun y=>by
  rcases List.mem_cons.mp y with y | y
  ·exact z y
  ·exact n y)
 have k2:∀ b o,s1.heap.get? b=some o→b∈frs (envOfC qual scope s.heap.objs.size f cd::outer)→∃ sl,h'.get? b=some { o with slots:=sl }:=fun b o q n=>frame_slots hF x4 n q
 have old:∀ b o,s.heap.get? b=some o→b∈frs (envOfC qual scope s.heap.objs.size f cd::outer)→b∈frs outer:=fun b o q z=>by
  rcases (frs_cons hfr).mp z with z | z
  ·rw[z] at q
   exact absurd (Heap.lt_size q) (Nat.lt_irrefl _)
  ·exact z
 have ne:∀ b,(∃ o₀,s.heap.get? b=some o₀)→b≠e:=fun b ⟨o₀,q⟩ z=>by rw[z,hne] at q;cases q
 have un:Un (frs outer) [] H (del H1 e) s.heap h':=Un.onSlots (Un.del (show Un (frs outer) [] H H1 s.heap s1.heap from I.base) he) old (fun b o z q=>k1 b o q (ne b z)) k2
 have hok:=I.hok.del he
 refine⟨e,.ref C,od,del H1 e,rfl,I.os,I.bare,un,hok.stays fun b u n q=>?_,⟨_,x1,fun b o q hb hn=>?_⟩,hE⟩
 ·have z:b≠e:=fun z=>n (by rw[z,del_same])
  rw[del_ne z] at n
  exact k1 b u q z fun y=>n (I.stkFree b y)
 ·have z:b≠e:=by
   rcases hb with hb | hb
   ·exact fun z=>hb (by rw[z,del_same])
   ·exact ne b hb
  rw[del_ne z] at hb
  have hs:b∉frs (envOfC qual scope s.heap.objs.size f cd::outer):=fun y=>by
   rcases hb with hb | ⟨o₀,hb⟩
   ·exact hb (I.stkFree b y)
   ·exact hn (old b o₀ hb y)
  have h1:∃ o1,s1.heap.get? b=some o1:=by
   rcases hb with hb | ⟨o₀,hb⟩
   ·cases q':H1 b with
    | none=>exact absurd q' hb
    | some u=>exact (I.hok b u q').there
   ·exact I.base.there b o₀ hb (by intro z;exact absurd (show b∈([]:List Addr) from z) (by simp))
  obtain⟨o1,h1⟩:=h1
  have:=k1 b o1 h1 z hs
  rw[q] at this
  cases this
  exact PySem.W.hideAll_get _ h1 fun y=>by
   rcases List.mem_cons.mp y with y | y
   ·exact z y
   ·exact hs y
end
section
variable {X:Cx}{pins:List (Addr×Obj)}{σ:St}{H:Hp}{s:Shared}
theorem unname_ok{M:Model}{A:Around}{E:Value→Shared→Prop}{i:Nat}{x:Str}{pos:Pos}{Q:Unit→Shared→Prop}(I:Inv X pins σ H s)(hN:X.N.Nodup)(hi:X.N[i]?=some x)(hk:X.env.scope.names.lookup x=some .local)
  (h:∀ s',Inv X pins (σ.set i none) H s'→Q () s'):wpAny M A (do bindName X.env x .none;unbindBehindTheSuite X.env x pos) Q E s:=by
 obtain⟨m,hn,hl⟩:=id I.loc
 have hcls:(X.env.scope.kind == .class || (X.env.scope.kind == .module && X.env.locals != X.env.globals))=false:=by rw[I.ok.kind];rfl
 have hiσ:i < σ.length:=by rw[I.len];exact (List.getElem?_eq_some_iff.mp hi).1
 have cne:=I.cne
 refine wpAny_nameGoes_keeps hk hn hcls fun h' v hn' hs=>?_
 obtain⟨oL,_,_,hoL,_⟩:=id hn
 have hok:HOk X.prog X.w H h':=fun b ob e=>by
  refine (I.hok b ob e).stay (fun c w' hc q=>(hs.2 c ?_).trans q) (fun _ q=>q) fun _ _ q=>q
  rintro rfl
  rcases hc with z | hc
  ·rw[← z,I.free] at e;cases e
  ·rw[I.free] at hc;cases hc
 refine h _ ⟨I.ok,I.os,I.bare,⟨fun b o e n hb hx=>?_,fun b o e n hb hx=>?_,I.base.free,fun b o e hx=>?_,I.base.tups,I.base.frzs,I.base.tbls⟩,⟨_,hn',fun j y v' e1 e2 e3=>?_⟩,fun y c e=>?_,I.free,I.freeC,fun p hp=>?_,hok,by simpa using I.len⟩
 ·exact (hs.2 b (Nat.ne_of_lt (Nat.lt_of_lt_of_le (Heap.lt_size e) I.ok.above))).trans (I.base.keep b o e n hb hx)
 ·obtain⟨sl,e1⟩:=I.base.slot b o e n hb hx
  exact⟨sl,(hs.2 b (Nat.ne_of_lt (Nat.lt_of_lt_of_le (Heap.lt_size e) I.ok.above))).trans e1⟩
 ·obtain⟨o',e1⟩:=I.base.there b o e hx
  exact⟨o',(hs.2 b (Nat.ne_of_lt (Nat.lt_of_lt_of_le (Heap.lt_size e) I.ok.above))).trans e1⟩
 ·by_cases hj:j=i
  ·subst hj
   rw[List.getElem?_set_self hiσ] at e2
   cases e2
  ·rw[List.getElem?_set_ne (Ne.symm hj)] at e2
   obtain⟨u',r',q⟩:=hl j y v' e1 e2 e3
   refine⟨u',r',?_⟩
   rcases q with ⟨k,e⟩ | ⟨k,c,e,z⟩
   ·refine .inl ⟨k,?_⟩
    have:y≠x:=fun e=>hj (nodup_ix hN e1 (e▸hi))
    simp[this,e]
   ·exact .inr ⟨k,c,e,z.sameBut hs (cne y c e)⟩
 ·obtain⟨v,z⟩:=I.cell y c e
  exact⟨v,z.sameBut hs (cne y c e)⟩
 ·obtain⟨p1,p2,p3,p4⟩:=I.pin p hp
  exact⟨(hs.2 _ p3).trans p1,p2,p3,p4⟩
end
end L2
namespace L2
open PySem PySem.Spec PyProof.Rows
section
variable {P:Program}{w:World}{K:PySem.W.Frag}{mg:Str→Option Value}{base:Heap}{N:List Str}{qual:Str}{scope:Scope}{f:Addr}{cd:Value}{A:Around}{outer:List Env}{s:Shared}{H:Hp}{E:XK}
theorem fly_onD{X:Cx}{pins:List (Addr×Obj)}{σ:St}{H1 H2:Hp}{s1:Shared}{h2 h3 B:Heap}{e:Addr}{cls:Value}{od:Option Addr}(I:Inv X pins σ H1 s1)(u:Un (frs X.stack) [] H1 H2 s1.heap h2)(hok:HOk X.prog X.w H2 h2)
  (fl:Heap.FlyingD B X.stack e cls od h2) (hB:∀ b o,h2.get? b=some o→(H2 b≠none∨∃ o₀,s1.heap.get? b=some o₀)→b∉frs X.stack→B.get? b=some o) (st:B.StaysIn h3) (sm:h2.UpToSlots h3) :
  Un (frs X.stack) [] H1 H2 s1.heap h3∧HOk X.prog X.w H2 h3:=by
 have fr2:∀ b∈frs X.stack,H2 b=none:=fun b hb=>by
  obtain⟨_,o,q,_⟩:=I.stack.mem hb
  exact u.free b o q (I.stkFree b hb) (by simp)
 refine⟨Un.onSlots u (fun _ _ _ z=>z) (fun b o h0 q n=>st b o (hB b o q (.inr h0) n)) fun b o q n=>frame_slots fl.2.2.1 sm n q,hok.stays fun b v n q=>st b v (hB b v q (.inl n) fun z=>n (fr2 b z))⟩
theorem passD:Passes (CXD P w) (cxD P w K mg base N qual scope f cd A outer s H E) E:=by
 intro pins σ H1 s1 e s2 I hc
 obtain⟨ea,cls,od,H2,rfl,os,bare,u,hok,⟨B,fl,hB⟩,hE⟩:=hc
 have hfr:(envOfC qual scope s.heap.objs.size f cd).frame=some s.heap.objs.size:=rfl
 refine leaves_any I.ok.frames hfr fl fun h' x1 x2=>?_
 obtain⟨u',hok'⟩:=fly_onD I u hok fl hB x1.1 x2
 have old:∀ b o,s.heap.get? b=some o→b∈frs (envOfC qual scope s.heap.objs.size f cd::outer)→b∈frs outer:=fun b o q z=>by
  rcases (frs_cons hfr).mp z with z | z
  ·rw[z] at q
   exact absurd (Heap.lt_size q) (Nat.lt_irrefl _)
  ·exact z
 have ib:Un (frs outer) [] H H1 s.heap s1.heap:=I.base
 have hs2:∀ b,(∃ o₀,s.heap.get? b=some o₀)→∃ o1,s1.heap.get? b=some o1:=fun b ⟨o₀,q⟩=>ib.there b o₀ q (by simp)
 have un:Un (frs outer) [] H H2 s.heap h' :=
  {keep:=fun b o q n hb hx=>u'.keep b o (ib.keep b o q n hb hx) (ib.free b o q n hx) (fun z=>hb (old b o q z)) hx
   slot:=fun b o q n hb hx=>by
    obtain⟨s3,e3⟩:=ib.slot b o q n hb hx
    obtain⟨s4,e4⟩:=u'.slot b _ e3 (ib.free b o q n hx) ((frs_cons hfr).mpr (.inr hb)) hx
    exact⟨s4,e4⟩
   free:=fun b o q n hx=>by
    obtain⟨o1,e1⟩:=ib.there b o q hx
    exact u'.free b o1 e1 (ib.free b o q n hx) hx
   there:=fun b o q hx=>by
    obtain⟨o1,e1⟩:=ib.there b o q hx
    exact u'.there b o1 e1 hx
   tups:=fun b xs q=>u'.tups b xs (ib.tups b xs q)
   frzs:=fun b o v q=>u'.frzs b o v (ib.frzs b o v q)
   tbls:=fun b ps q=>by
    obtain⟨m1,q1⟩:=ib.tbls b ps q
    obtain⟨m2,q2⟩:=u'.tbls b _ q1
    exact⟨m1++m2,by rw[q2,Array.append_assoc]⟩ }
 refine⟨ea,cls,od,H2,rfl,os.trans I.os,bare,un,hok',⟨B,x1,fun b o q hb hn=>?_⟩,hE⟩
 have fr2:∀ b∈frs (envOfC qual scope s.heap.objs.size f cd::outer),H2 b=none:=fun b hb=>by
  obtain⟨_,o,q,_⟩:=I.stack.mem hb
  exact u.free b o q (I.stkFree b hb) (by simp)
 have hs:b∉frs (envOfC qual scope s.heap.objs.size f cd::outer):=fun z=>by
  rcases hb with hb | ⟨o₀,hb⟩
  ·exact hb (fr2 b z)
  ·exact hn (old b o₀ hb z)
 have h1:∃ o2,s2.heap.get? b=some o2:=by
  rcases hb with hb | hb
  ·cases q':H2 b with
   | none=>exact absurd q' hb
   | some v=>exact (hok b v q').there
  ·obtain⟨o1,e1⟩:=hs2 b hb
   exact u.there b o1 e1 (by simp)
 obtain⟨o2,e2⟩:=h1
 have hBb:=hB b o2 e2 (hb.imp id (hs2 b)) hs
 have:=x1.1 b o2 hBb
 rw[q] at this
 cases this
 exact hBb
end
def RaisesX(X:Cx)(E:XK):Prop:=∀ (pins:List (Addr×Obj)) (σ:St) (H:Hp) (s:Shared) (e C:Addr) (od:Option Addr),Inv X pins σ H s→X.s₀.heap.get? e=none→H e=some (exO e C od)→E (.ref C) od (del H e)→X.xe (.ref e) s
theorem raisesD{P:Program}{w:World}{K:PySem.W.Frag}{mg:Str→Option Value}{base:Heap}{N:List Str}{qual:Str}{scope:Scope}{f:Addr}{cd:Value}{A:Around}{outer:List Env}{s:Shared}{H:Hp}{E:XK} :
  RaisesX (cxD P w K mg base N qual scope f cd A outer s H E) E:=fun _ _ _ _ _ _ _ I hn he hE=>raised_xd I hn he hE
def tRaiseX(C:Addr)(sp:Sp)(E:XK)(t:TA):TS:=fun _ σ H=>t σ H fun vs H1=>vs.length≤sizeLine∧∀ e,H1 e=none →
 sp (.ref e::vs) (upd H1 e (exO e C none)) (fun v H2=>v=.non∧∃ od,H2 e=some (exO e C od)∧E (.ref C) od (del H2 e)) E0
theorem ps_raiseX{X:Cx}{E:XK}{x g:Str}{C fI:Addr}{np cpos pos:Pos}{e:Expr}{es:List Expr}{t:TA}{k:Nat}{fd:FuncData}{ps:List Str}{sp:Sp}(hR:RaisesX X E)(O:XCls X.K C fI g)(hm:X.mg x=some (.ref C))
  (F:FnOk X.prog X.w X.K X.mg X.base CX0 k fI fd ps sp) (hr:Room (k+1) X.A) (hb:Binds X.K fd ps []) (hc:X.calm=true) (hg:Gl X x) (ha:PA X (e::es) t)
  (hdb:(x == ("__debug__" : Str))=false:=by decide) (he:starEach (e::es) X.env=(false,eval e X.env)::starEach es X.env:=by rfl) (hpl:(backTo cpos (starEach es X.env)).any (·.1)=false:=by rfl) :
  PS X (.Raise (some (.Call (.Name x np) (e::es) [] cpos)) none pos) (tRaiseX C sp E t):=by
 intro pins s σ H D I h
 obtain⟨tl,Nn,nm,q,bs,hdct,sn,sub,ab,col,dd,k0,k1,k2,k3,k5,mN,hC,hN,hi,T⟩:=O.obj I.ok.mod.kin
 obtain⟨oI,hfI,hfc⟩:=O.fnObj I.ok.mod.kin
 refine Raise_xinit (C:=C) (nm:=nm) (q:=q) (N:=Nn) (bs:=bs) (bm:=tl) (hdct:=hdct) (sn:=sn) (sub:=sub) (ab:=ab) (col:=col) (dd:=dd) (k0:=k0) (k1:=k1) (k2:=k2) (k3:=k3) (k5:=k5) (fI:=fI) (oI:=oI)
  PySem.F.excBase_ValueError (mN:=mN) (T.hasType PySem.F.excBase_ValueError.hasBase) (I.ok.hd hc) (by rw[he];show (false || (backTo cpos (starEach es X.env)).any (·.1))=false;rw[hpl];rfl) hi hfc (ld_glob I hg hm ⟨rfl,?_⟩ hdb)
 have hp:=ha cpos pins s σ H _ I h
 rw[he] at hp ⊢
 refine Calls.evalArgs_plain (thn hp fun us s2 ⟨vs,H1,I1,r,hl,hE⟩=>⟨rfl,?_,I1.bk _ _ hC,hN.keeps I1.bk,T.keeps I1.bk,I1.bk _ _ hfI,fun h' e' hz hm'=>?_⟩)
 ·show us.length≤sizeLine
  rw[← r.length]
  exact hl
 obtain⟨t0,ht0,_⟩:=hm'.there
 have I2:=I1.laid (a:=e') (o:=exO e' C none) (h':=h') (t':=s2.toks) hm'.keeps (Nat.le_of_lt hz) (exO_ok ⟨t0,ht0⟩)
 have hsp:=hE e' (I1.hok.fresh (Nat.le_of_lt hz))
 have r2:Vals (V.ref e'::vs) (Value.ref e'::us):=.cons rfl r
 have hll:((Value.ref e'::us)++([]:List Value)).length=ps.length:=by rw[List.append_nil,← r2.length];exact F.len _ _ _ _ hsp
 have bd:=hb { s2 with heap:=h' } (.ref e'::us) I2.kIn hll
 rw[List.append_nil] at bd
 have hne:X.s₀.heap.get? e'=none:=Heap.get?_none_of_le (Nat.le_trans I1.sz (Nat.le_of_lt hz))
 refine wpAny_call (codeAny_mono (F.run _ X.stack { s2 with heap:=h' } _ ⟨.ref e'::us,[]⟩ (.ref e'::us) (.ref e'::vs) _ E0 (hr.make C us []) (I2.env0.make C us []) bd r2 hsp) fun rr s' hq=>?_)
 cases rr with
 | error e=>exact False.elim hq
 | ok fl =>
  cases fl with
  | ret u =>
   obtain⟨v,H',I3,rv,ev,od,hod,q3⟩:=I2.after hq
   subst ev
   obtain rfl:u=Value.none:=rv
   obtain⟨t,ht⟩:=exO_at I3.hok hod
   exact⟨rfl,od,t,I3.bk _ _ hC,ht,hR pins σ H' s' e' C od I3 hne hod q3⟩
  | next=>exact False.elim hq
  | brk=>exact False.elim hq
  | cont=>exact False.elim hq
theorem Fun.okD{P:Program}{w:World}{K:PySem.W.Frag}{mg:Str→Option Value}{base:Heap}{x qual:Str}{st:Stmt}{f:Addr}{fd:FuncData}{N ps:List Str}{k:Nat}{sp:Sp}(F:Fun K x qual st f fd)(S:FnScope N ps (defScope st))(len:∀ vs H Q E,sp vs H Q E→vs.length=ps.length)
  (hbody:∀(cdv:Value)(A:Around)(outer:List Env)(s:Shared)(H:Hp)(vs:List V)(Q:VK)(E:XK),Room k (A.deeper (envOfC qual (defScope st) s.heap.objs.size f cdv))→sp vs H Q E →
   ∃ t,PSs (cxD P w K mg base N qual (defScope st) f cdv A outer s H E) (defBody st) t∧t { nx:=fun _ H'=>Q .non H',rt:=Q } (start N vs) H):FnOk P w K mg base (CXD P w) (k+1) f fd ps sp:=by
 obtain⟨oc,od,kV,doc,pm,an,cdv,ct,osl,rfl,lk,hcd⟩:=F.ex
 exact fn_of lk hcd S len fun A outer s H vs Q E hr hsp=>hbody cdv A outer s H vs Q E hr hsp
abbrev XExD:=Value→Option Addr→St→Hp→Prop
def XED(X:Cx)(EX:XExD):Value→Shared→Prop:=fun e s'=>∃ pins σ H1 s1,Inv X pins σ H1 s1∧CXD X.prog X.w X.stack H1 s1 (fun cls od H2=>EX cls od σ H2) e s'
abbrev Cx.trD(X:Cx)(pn:List (Addr×Obj))(EX:XExD):Cx:=(X.pinned pn).wish (XED (X.pinned pn) EX)
def tCallXD(sp:Sp)(EX:XExD)(t:TA):TE:=fun σ H Q=>t σ H fun vs H1=>sp vs H1 Q fun cls od H2=>EX cls od σ H2
def PassXD(X:Cx)(EX:XExD):Prop:=∀ (pins:List (Addr×Obj)) (σ:St) (H:Hp) (s:Shared) (e:Value) (s':Shared),Inv X pins σ H s→CXD X.prog X.w X.stack H s (fun cls od H2=>EX cls od σ H2) e s'→X.xe e s'
theorem passXD{X:Cx}{pn:List (Addr×Obj)}{EX:XExD}:PassXD (X.trD pn EX) EX:=fun pins σ H s _ _ I h=>⟨pins,σ,H,s,I.unwish,h⟩
theorem pe_callXD{X:Cx}{k:Nat}{f:Addr}{fd:FuncData}{ps:List Str}{sp:Sp}{EX:XExD}{x:Str}{p pos:Pos}{e:Expr}{es:List Expr}{t:TA}
  (F:FnOk X.prog X.w X.K X.mg X.base (CXD X.prog X.w) k f fd ps sp) (hr:Room k X.A) (hg:Gl X x) (hm:X.mg x=some (.ref f)) (hk:PySem.W.keepIn X.K (.ref f)=true) (hb:Binds X.K fd ps []) (hx:PassXD X EX)
  (ha:PA X (e::es) t) (hdb:(x == ("__debug__" : Str))=false:=by decide) (he:starEach (e::es) X.env=(false,eval e X.env)::starEach es X.env:=by rfl) (hpl:(backTo pos (starEach es X.env)).any (·.1)=false:=by rfl) :
  PE X (.Call (.Name x p) (e::es) [] pos) (tCallXD sp EX t):=by
 intro pins s σ H Q I h
 refine wpAny_Call_Name_kw (ld_glob I hg hm ?_ hdb)
 refine PySem.W.callWith_K (h₀:=X.base) I.ok.mod.kin hk (thn (ha pos pins s σ H _ I h) fun us s1 ⟨vs,H1,I1,r,q⟩=>⟨I1.kIn,?_⟩) he hpl
 have hl:(us++([]:List Value)).length=ps.length:=by rw[List.append_nil,← r.length];exact F.len _ _ _ _ q
 have bd:=hb s1 us I1.kIn hl
 rw[List.append_nil] at bd
 refine wpAny_call (codeAny_mono (F.run X.A X.stack s1 H1 ⟨us,[]⟩ us vs Q _ hr I1.env0 bd r q) fun rr s' hq=>?_)
 cases rr with
 | error e=>exact hx pins σ H1 s1 e s' I1 hq
 | ok fl =>
  cases fl with
  | ret u=>exact I1.after hq
  | next=>exact False.elim hq
  | brk=>exact False.elim hq
  | cont=>exact False.elim hq
structure Held(X:Cx)(ea C dx:Addr):Prop where
 ex:∃ oe vs,(ea,oe)∈X.pn∧oe.cls=.ref C∧oe.dict=some dx∧oe.data=.fields vs
def tXAt(i:Nat)(f:Str)(ea dx:Addr):TE:=fun σ H Q=>σ[i]?=some (some (.ref ea))∧∃ fs v,H dx=some (.xd fs)∧fs.lookup f=some v∧Q v H
theorem pe_xat{X:Cx}{i:Nat}{n f:Str}{p pos:Pos}{C fI ea dx:Addr}(O:XCls X.K C fI f)(hh:Held X ea C dx)(hN:X.N[i]?=some n)(hv:Vis X.env.scope n)(hd:(n == ("__debug__" : Str))=false:=by decide)(hcd:(n == ("__classdict__" : Str))=false:=by decide)
  (hb:attributeBase (.Name n p) f X.env (eval (.Name n p) X.env)=eval (.Name n p) X.env:=by rfl):PE X (.Attribute (.Name n p) f pos) (tXAt i f ea dx):=by
 intro pins s σ H Q I ⟨hσ,fs,v,hdx,hl,q⟩
 refine attr_of hb (thn (pe_var hN hv hd hcd pins s σ H (fun x H1=>x=.ref ea∧H1=H) I ⟨_,hσ,rfl,rfl⟩) fun u s1 ⟨x,H1,I1,rx,ex,eH⟩=>?_)
 subst ex eH
 obtain rfl:u=Value.ref ea:=rx
 obtain⟨oe,vs,hp,c1,c2,c3⟩:=hh.ex
 obtain⟨cd,hc,ho,hd'⟩:=O.cls
 obtain⟨g1,_⟩:=I1.pin _ (List.mem_append_left _ hp)
 obtain⟨mA,hns,hr⟩:=I1.hok dx _ hdx
 obtain⟨od,g2,hlk⟩:=lookIn_ns hns
 obtain⟨u,hu,ru⟩:=RelO.some_of (v:=v) (o:=mA f) (by rw[← hl];exact hr f)
 obtain⟨oc,odi,oda,osl⟩:=oe
 dsimp only at c1 c2 c3
 subst c1 c2 c3
 have J:PySem.W.InstAt s1.heap ea ⟨.ref C,some dx,.fields vs,osl⟩ C (some od):=⟨g1,rfl,rfl,g2⟩
 exact xget I1.kIn J O.ga O.gr hc ho (PySem.W.findObj_own (by unfold PySem.W.hasDictIn;rw[hc];exact hd') O.at_ rfl (by rw[hlk,hu])) (handed_of ru) ⟨v,_,I1.tok _,ru,q⟩
def Ends.un(D:Ends)(i:Nat):Ends:={ nx:=fun σ H=>D.nx (σ.set i none) H,rt:=D.rt,bk:=fun σ H=>D.bk (σ.set i none) H,ct:=fun σ H=>D.ct (σ.set i none) H }
def tTryX(C:Addr)(i:Nat)(tb:XExD→TS)(th:Addr→Addr→TS):TS:=fun D σ H=>tb (fun cls od σ' H'=>cls=.ref C∧∃ dx,od=some dx∧∀ ea,th ea dx (D.un i) (σ'.set i (some (.ref ea))) H') D σ H
theorem lands_againD{M:Model}{A:Around}{E:Value→Shared→Prop}{s:Shared}{base:Heap}{l:List Env}{e:Addr}{cls:Value}{a0:Option Addr}{Q:Unit→Shared→Prop}(hh:Heap.FlyingD base l e cls a0 s.heap)
  (hQ:∀ h',Heap.FlyingD base l e cls a0 h'→s.heap.UpToSlots h'→Q () { s with heap:=h' }):wpAny M A (setFlight (.ref e) none) Q E s:=by
 exact mark_any (o?:=none) hh hQ
theorem ps_tryX{X:Cx}{x n g:Str}{i:Nat}{C fI:Addr}{np hpos pos:Pos}{body suite:List Stmt}{b₀:Stmt}{tb:XExD→TS}{th:Addr→Addr→TS}(O:XCls X.K C fI g)(hm:X.mg x=some (.ref C))(hg:Gl X x)(hs:X.stack=X.env::X.outer)(hf:X.env.frame=some X.env.locals)
  (hN:X.N.Nodup) (hi:X.N[i]?=some n) (hk:X.env.scope.names.lookup n=some .local)
  (hb:∀ pn EX,PSs (X.trD pn EX) body (tb EX)) (hh:∀ ea dx pn,Held ((X.inH ea).pinned pn) ea C dx→PSs ((X.inH ea).pinned pn) (b₀::suite) (th ea dx)) (hdb:(x == ("__debug__" : Str))=false:=by decide) :
  PS X (.Try body [.ExceptHandler (some (.Name x np)) (some n) (b₀::suite) hpos] [] [] pos) (tTryX C i tb th):=by
 intro pins s σ H D I h
 refine wpAny_Try_except (wpAny_mono (hb (X.pn++pins) _ [] s σ H D (I.repin.wish _) h) (fun f s1 q=>?_) fun e s1 q=>?_)
 ·have q':SP X pins D f s1:=SP.imp (fun σ H J=>Inv.unrepin (Inv.unwish J)) q
  cases f with
  | next=>exact wpAny_execs_nil q'
  | brk=>exact q'
  | cont=>exact q'
  | ret u=>exact q'
 ·obtain⟨pins2,σ1,H1,s0,I1,ea,cls,od,H2,rfl,os,bare,u,hok,⟨B,fl,hB⟩,rfl,dx,rfl,hq⟩:=q
  have J:Inv X pins σ1 H1 s0:=I1.unrepin
  have fl':Heap.FlyingD B (X.env::X.outer) ea (.ref C) (some dx) s1.heap:=by rw[← hs];exact fl
  have hfrm:X.A.frames=some (X.env::X.outer):=by rw[← hs];exact I.ok.frames
  have inv:∀ h3,B.StaysIn h3→s1.heap.UpToSlots h3→Inv X pins σ1 H2 { s1 with heap:=h3 }:=fun h3 st sm=>by
   obtain⟨u3,hok3⟩:=fly_onD J u hok fl hB st sm
   exact J.call' (s':={ s1 with heap:=h3 }) (ch:=[]) os u3 hok3 bare fun b z=>absurd z (by simp)
  refine note_any hfrm hf fl' fun h4 held4 sm4=>?_
  refine mark_any (o?:=none) held4 fun h5 fl5 sm5=>?_
  have I5:=inv h5 fl5.1 (sm4.trans sm5)
  refine wpAny_handleBy_cons (codeAny_handlers_test (ld_glob (X:=X.inH ea) (I5.toH ea) hg hm ?_ hdb)) (by intro z;cases z)
  obtain⟨ob,hob,hobc⟩:=fl5.there
  obtain⟨tl,Nn,nm,qn,bs,hdct,sn,sub,ab,col,dd,k0,k1,k2,k3,k5,mN,hC,hNs,hni,T⟩:=O.obj I5.kIn
  refine wpAny_excMatches_sub_self hC hob hobc (T.hasType PySem.F.excBase_ValueError.hasBase) (codeAny_handlers_suite_as ?_)
  refine lands_againD fl5 fun h6 fl6 sm6=>?_
  have I6:=inv h6 fl6.1 ((sm4.trans sm5).trans sm6)
  obtain⟨g1,g2,g3,oe,T',oT,⟨he,c1,c2⟩,⟨vs,c3,_⟩,_⟩:=id fl6
  have nfr:ea∉frs (X.env::X.outer):=fun z=>by
   obtain⟨_,o,q1,q2⟩:=g3.mem z
   rw[he] at q1;cases q1;exact q2 vs c3
  have nH:H2 ea=none:=by
   cases q':H2 ea with
   | none=>rfl
   | some v =>
    obtain⟨o2,e2⟩:=(hok ea v q').there
    have:=hB ea o2 e2 (.inl (by rw[q'];exact Option.some_ne_none _)) (by rw[hs];exact nfr)
    rw[g2] at this;cases this
  have I7:Inv (X.pinned ((X.pn++pins)++[(ea,oe)])) [] σ1 H2 { s1 with heap:=h6 } :=
   ⟨⟨I6.ok.mod,I6.ok.kind,I6.ok.glob,I6.ok.blt,I6.ok.above,I6.ok.inj,I6.ok.has,I6.ok.cab,I6.ok.hd,I6.ok.frames,I6.ok.stk,I6.ok.exf,I6.ok.bs,I6.ok.bsz,I6.ok.noex,I6.ok.exfs,I6.ok.funs,I6.ok.frf⟩,I6.os,I6.bare,I6.base,I6.loc,I6.cell,I6.free,I6.freeC,
    fun p hp=>by
     have hp':p∈((X.pn++pins)++[(ea,oe)])++[]:=hp
     rw[List.append_nil] at hp'
     rcases List.mem_append.mp hp' with z | z
     ·exact I6.pin p z
     ·obtain rfl:p=(ea,oe):=List.mem_singleton.mp z
      exact⟨he,nH,fun z=>nfr ((frs_cons hf).mpr (.inl z)),fun z=>nfr ((frs_cons hf).mpr (.inr z)),fun v z=>by rw[c3] at z;cases z⟩,I6.hok,I6.len⟩
  have held:Held ((X.inH ea).pinned ((X.pn++pins)++[(ea,oe)])) ea C dx:=⟨oe,vs,List.mem_append_right _ (List.mem_singleton.mpr rfl),c1,c2,c3⟩
  have I8:Inv ((X.inH ea).pinned ((X.pn++pins)++[(ea,oe)])) [] σ1 H2 { s1 with heap:=h6 }:=I7.toH ea
  refine store_ok (X:=(X.inH ea).pinned ((X.pn++pins)++[(ea,oe)])) (s:={ s1 with heap:=h6 }) (v:=V.ref ea) I8 hN hi (.inl hk) rfl (fun s9 I9=>?_) (.inr hk)
  refine wpAny_mono (hh ea dx _ held [] _ _ H2 (D.un i) I9 (hq ea)) (fun f s' z=>?_) fun _ _ z=>z.elim
  have back:∀ {σ H s},Inv ((X.inH ea).pinned ((X.pn++pins)++[(ea,oe)])) [] σ H s→Inv X pins σ H s:=fun {σ H s} K=>by
   have K1:Inv (X.pinned ((X.pn++pins)++[(ea,oe)])) [] σ H s:=Inv.ofH I7.ok K
   exact⟨I.ok,K1.os,K1.bare,K1.base,K1.loc,K1.cell,K1.free,K1.freeC,fun p hp=>K1.pin p (List.mem_append_left _ (List.mem_append_left _ hp)),K1.hok,K1.len⟩
  cases f with
  | next=>obtain⟨σ',H',K,q⟩:=z;exact unname_ok (back K) hN hi hk fun s' I'=>⟨_,H',I',q⟩
  | brk=>obtain⟨σ',H',K,q⟩:=z;exact unname_ok (back K) hN hi hk fun s' I'=>⟨_,H',I',q⟩
  | cont=>obtain⟨σ',H',K,q⟩:=z;exact unname_ok (back K) hN hi hk fun s' I'=>⟨_,H',I',q⟩
  | ret u=>obtain⟨v,σ',H',K,r,q⟩:=z;exact unname_ok (back K) hN hi hk fun s' I'=>⟨v,_,H',I',r,q⟩
structure XT(K:PySem.W.Frag)(mg:Str→Option Value)(x bn f q:Str)(st:Stmt)(C:Addr):Prop where
 ex:∃ fI fd B,Fun K "__init__" q st fI fd∧XBase K B∧mg bn=some (.ref B)∧XCls K C fI f∧mg x=some (.ref C)
abbrev sp_xi(C:Addr)(f:Str):Sp:=fun vs H Q _=>∃ a v,vs=[.ref a,v]∧H a=some (exO a C none)∧∀ dx,H dx=none→dx≠a→Q .non (upd (upd H dx (.xd [(f,v)])) a (exO a C (some dx)))
def XOk(P:Program)(w:World)(K:PySem.W.Frag)(mg:Str→Option Value)(base:Heap)(x f:Str)(C:Addr):Prop :=
 ∃ fI fd ps,XCls K C fI f∧mg x=some (.ref C)∧Binds K fd ps []∧FnOk P w K mg base CX0 1 fI fd ps (sp_xi C f)
def tRaiseV(C:Addr)(f:Str)(E:XK)(t:TA):TS:=fun _ σ H=>t σ H fun vs H1=>∃ v,vs=[v]∧∀ dx,H1 dx=none→E (.ref C) (some dx) (upd H1 dx (.xd [(f,v)]))
def tMono(t:TA):TA:=fun σ H Q=>∃ Q0,t σ H Q0∧∀ vs H1,Q0 vs H1→Q vs H1
theorem pa_mono{X:Cx}{es:List Expr}{t:TA}(ha:PA X es t):PA X es (tMono t):=fun pos pins s σ H Q I ⟨Q0,h,m⟩=>thn (ha pos pins s σ H Q0 I h) fun us s1 ⟨vs,H1,I1,r,q⟩=>⟨vs,H1,I1,r,m _ _ q⟩
theorem ps_raiseV{X:Cx}{E:XK}{x g:Str}{C:Addr}{np cpos pos:Pos}{e:Expr}{t:TA}(hR:RaisesX X E)(O:XOk X.prog X.w X.K X.mg X.base x g C)(hr:Room 2 X.A)(hc:X.calm=true)(hg:Gl X x)(ha:PA X [e] t)
  (hdb:(x == ("__debug__" : Str))=false:=by decide) (he:starEach [e] X.env=(false,eval e X.env)::starEach [] X.env:=by rfl) (hpl:(backTo cpos (starEach [] X.env)).any (·.1)=false:=by rfl) :
  PS X (.Raise (some (.Call (.Name x np) [e] [] cpos)) none pos) (tRaiseV C g E t):=by
 obtain⟨fI,fd,ps,O,hm,hb,F⟩:=O
 intro pins s σ H D I h
 refine ps_raiseX hR O hm F hr hb hc hg (pa_mono ha) hdb he hpl pins s σ H D I ⟨_,h,fun vs H1 ⟨v,ev,q⟩=>?_⟩
 subst ev
 refine⟨by show 1≤sizeLine;decide,fun e' he'=>⟨e',v,rfl,upd_same ..,fun dx hdx hne=>⟨rfl,some dx,upd_same ..,?_⟩⟩⟩
 rw[upd_ne hne] at hdx
 have hH:del (upd (upd (upd H1 e' (exO e' C none)) dx (.xd [(g,v)])) e' (exO e' C (some dx))) e'=upd H1 dx (.xd [(g,v)]):=funext fun b=>by
  by_cases z:b=e'
  ·rw[z,del_same,upd_ne (Ne.symm hne),he']
  ·rw[del_ne z,upd_ne z]
   by_cases y:b=dx
   ·rw[y,upd_same,upd_same]
   ·rw[upd_ne y,upd_ne y,upd_ne z]
 rw[hH]
 exact q dx hdx
end L2
namespace L2
open PySem PySem.Spec PyProof.Rows
section
variable {M:Model}{A:Around}{E:Value→Shared→Prop}{s:Shared}{base:Heap}{env:Env}{outer l:List Env}{L e:Addr}{cls fl:Value}{od:Option Addr}
end
section
variable {P:Program}{w:World}{K:PySem.W.Frag}{mg:Str→Option Value}{base:Heap}{N:List Str}{qual:Str}{scope:Scope}{f:Addr}{cd:Value}{A:Around}{outer:List Env}{s:Shared}{H:Hp}{E:XK}
end
section
variable {prog:Program}{w:World}{A:Around}{R:Result→Shared→Prop}{s:Shared}
end
section
variable {X:Cx}
end
end L2
namespace L2
open PySem PySem.Spec PyProof.Rows
section
variable {X:Cx}{x:Str}{p pos:Pos}{e:Expr}{es:List Expr}{t:TA}{sts:List Stmt}
theorem qs_raiseV{E:XK}{g:Str}{C:Addr}{np cpos:Pos}(hR:RaisesX X E)(O:XOk X.prog X.w X.K X.mg X.base x g C)(ha:QA X [e] t)(hr:Room 2 X.A:=by exact Room.le (by assumption))(hc:X.calm=true:=by rfl)(hg:Gl X x:=by rfl)
  (hdb:(x == ("__debug__" : Str))=false:=by decide) (he:starEach [e] X.env=(false,eval e X.env)::starEach [] X.env:=by rfl) (hpl:(backTo cpos (starEach [] X.env)).any (·.1)=false:=by rfl) :
  QS X (.Raise (some (.Call (.Name x np) [e] [] cpos)) none pos) (tRaiseV C g E t):=⟨ps_raiseV hR O hr hc hg ha.p hdb he hpl⟩
theorem qe_dXD{EX:XExD}{k:Nat}{ps:List Str}{sp:Sp}(d:DefOk X.prog X.w X.K X.mg X.base (CXD X.prog X.w) k x ps sp)(hr:Room k X.A)(hx:PassXD X EX)(hg:Gl X x)(ha:QA X (e::es) t)
  (hdb:(x == ("__debug__" : Str))=false:=by decide) (he:starEach (e::es) X.env=(false,eval e X.env)::starEach es X.env:=by rfl) (hpl:(backTo pos (starEach es X.env)).any (·.1)=false:=by rfl) :
  QE X (.Call (.Name x p) (e::es) [] pos) (tCallXD sp EX t):=by
 obtain⟨f,fd,F,hm,hk,hb⟩:=d
 exact⟨pe_callXD F hr hg hm hk hb hx ha.p hdb he hpl⟩
theorem qs_tryX{P:Program}{w:World}{base:Heap}{n g:Str}{C:Addr}{np hpos:Pos}{suite:List Stmt}{b₀:Stmt}{tb:XExD→TS}{th:Addr→Addr→TS}(i:Nat)(O:XOk P w X.K X.mg base x g C)(hN:X.N.Nodup)
  (hb:∀ pn EX,QB (X.trD pn EX) sts (tb EX)) (hh:∀ fI,XCls X.K C fI g→∀ ea dx pn,Held ((X.inH ea).pinned pn) ea C dx→QB ((X.inH ea).pinned pn) (b₀::suite) (th ea dx)) (hg:Gl X x:=by rfl) (hs:X.stack=X.env::X.outer:=by rfl) (hf:X.env.frame=some X.env.locals:=by rfl)
  (hi:X.N[i]?=some n:=by rfl) (hk:X.env.scope.names.lookup n=some .local:=by rfl) (hdb:(x == ("__debug__" : Str))=false:=by decide) :
  QS X (.Try sts [.ExceptHandler (some (.Name x np)) (some n) (b₀::suite) hpos] [] [] pos) (tTryX C i tb th):=by
 obtain⟨fI,fd,ps,O,hm,_⟩:=O
 exact⟨ps_tryX O hm hg hs hf hN hi hk (fun pn EX=>(hb pn EX).p) (fun ea dx pn z=>(hh fI O ea dx pn z).p) hdb⟩
theorem qe_xat{i:Nat}{n f:Str}{C fI ea dx:Addr}(O:XCls X.K C fI f)(hh:Held X ea C dx)(hN:X.N[i]?=some n:=by rfl)(hv:Vis X.env.scope n:=by first | exact Or.inl rfl | exact Or.inr (Or.inl rfl) | exact Or.inr (Or.inr rfl))(hd:(n == ("__debug__" : Str))=false:=by decide)(hcd:(n == ("__classdict__" : Str))=false:=by decide)
  (hb:attributeBase (.Name n p) f X.env (eval (.Name n p) X.env)=eval (.Name n p) X.env:=by rfl):QE X (.Attribute (.Name n p) f pos) (tXAt i f ea dx):=⟨pe_xat O hh hN hv hd hcd hb⟩
end
section
variable {X:Cx}{elt iter tg:Expr}{ifs:List Expr}{scope:Scope}{pos:Pos}{wi:TI}{g:TG}{tt:TT}{te:TE}
end
theorem DefAt.qD{P:Program}{w:World}{K:PySem.W.Frag}{mg:Str→Option Value}{base:Heap}{x:Str}{st:Stmt}{f:Addr}{fd:FuncData}{N ps:List Str}{k:Nat}{sp:Sp}(D:DefAt K mg x st f fd)(S:FnScope N ps (defScope st))(len:∀ vs H Q E,sp vs H Q E→vs.length=ps.length)
  (hbody:∀(cdv:Value)(A:Around)(outer:List Env)(s:Shared)(H:Hp)(vs:List V)(Q:VK)(E:XK),Room k (A.deeper (envOfC x (defScope st) s.heap.objs.size f cdv))→sp vs H Q E →
   ∃ t,QB (cxD P w K mg base N x (defScope st) f cdv A outer s H E) (defBody st) t∧t { nx:=fun _ H'=>Q .non H',rt:=Q } (start N vs) H):FnOk P w K mg base (CXD P w) (k+1) f fd ps sp :=
 D.fn.okD S len fun cdv A outer s H vs Q E hr h=>by
  obtain⟨t,h1,h2⟩:=hbody cdv A outer s H vs Q E hr h
  exact⟨t,h1.p,h2⟩
section
variable {σ:St}{H:Hp}{D:Ends}{C:Addr}{f:Str}{E:XK}{t:TA}
theorem i_raiseV(h:t σ H fun vs H1=>∃ v,vs=[v]∧∀ dx,H1 dx=none→E (.ref C) (some dx) (upd H1 dx (.xd [(f,v)]))):tRaiseV C f E t D σ H:=h
theorem i_tryX{i:Nat}{tb:XExD→TS}{th:Addr→Addr→TS}(h:tb (fun cls od σ' H'=>cls=.ref C∧∃ dx,od=some dx∧∀ ea,th ea dx (D.un i) (σ'.set i (some (.ref ea))) H') D σ H):tTryX C i tb th D σ H:=h
end
def XQ(K:PySem.W.Frag)(x bn f q:Str)(st:Stmt)(C:Addr):Prop :=
 ∃ fI fd B,Fun K "__init__" q st fI fd∧XBase K B∧PySem.W.nsIn K mainGlobals bn=some (some (.ref B))∧XCls K C fI f∧PySem.W.nsIn K mainGlobals x=some (some (.ref C))
theorem XQ.mk{K:PySem.W.Frag}{x bn f q:Str}{st:Stmt}{C fI B:Addr}{oc:Value}{od:Option Addr}{kV dc pm:Value}{an:Option Addr}{cd ct:Value}{sl:Array (Option Value)}
  (a1:PySem.W.nsIn K mainGlobals x=some (some (.ref C))) (a2:PySem.W.nsIn K mainGlobals bn=some (some (.ref B))) (a3:PySem.W.findIn K (.ref C) "__init__" = some (some (.ref fI)))
  (a4:K.lookup fI=some ⟨oc,od,.func (PySem.W.fnOf "__init__" q (defArgs st) (defBody st) (defScope st) .none kV dc pm an cd ct),sl⟩) (a5:PySem.W.codeIn K cd q=true) (a6:PySem.W.keepIn K (.ref fI)=true)
  (a7:xIn K C fI=true) (a8:PySem.W.findIn K (.ref C) "__setattr__" = some (some (.builtin "object.__setattr__"))) (a9:PySem.W.findIn K (.ref C) f=some none)
  (b1:PySem.W.findIn K (.ref C) "__getattribute__" = some (some (.builtin "BaseException.__getattribute__"))) (b2:PySem.W.findIn K (.ref C) "__getattr__" = some none)
  (b3:(PySem.W.clsIn K C).any (fun cd=>xOver cd.mro && cd.hasDict)=true) (b4:PySem.W.isFn K (.ref fI)=true)
  (b5:PySem.W.specialIn K (.ref B) "__getattribute__" = some (some (.builtin "type.__getattribute__"))) (b6:PySem.W.readsIn K B (.type "type")=true)
  (b7:PySem.W.findCls K (.ref B) (.type "type") "__init__" = some (.val (.builtin "ValueError.__init__"))):XQ K x bn f q st C :=
 ⟨fI,_,B,fun_mk (st:=st) a4 a5 a6,⟨b5,b6,b7⟩,a2,⟨a7,a8,a9,b1,b2,b3,b4⟩,a1⟩
theorem XQ.xt{K:PySem.W.Frag}{h:Heap}{mg:Str→Option Value}{x bn f q:Str}{st:Stmt}{C:Addr}(z:XQ K x bn f q st C)(X:K.In h)(G:h.Ns mainGlobals mg):XT K mg x bn f q st C:=by
 obtain⟨fI,fd,B,F,W,hB,O,hm⟩:=z
 exact⟨fI,fd,B,F,W,PySem.W.mg_of X G hB,O,PySem.W.mg_of X G hm⟩
def rNotInT:R2:=fun x y H Q=>∃(a p:Addr)(ts:List Int)(js:List Nat)(f:Nat→Addr)(g:Nat→List Int),x=.ref a∧y=.ref p∧H a=some (.tup (ts.map V.int))∧H p=some (.lst (js.map fun i=>V.ref (f i)))∧(∀ i∈js,H (f i)=some (.tup ((g i).map V.int)))∧Q (.bl (!js.any fun i=>decide (g i=ts))) H
section
variable {X:Cx}
open Classical in
theorem op_notInT(hu:X.A.units+64 < cLine):OpR X (compareOp .NotIn) rNotInT:=by
 intro pins s σ H x y v u Q I rx ry h
 obtain⟨a,p,ts,js,f,g,rfl,rfl,ha,hp,hf,q⟩:=h
 cases rx
 cases ry
 obtain⟨its,r,pl,hz⟩:=I.list (SqL.of hp)
 have e:js.map (fun i=>V.ref (f i))=(js.map f).map V.ref:=by rw[List.map_map];rfl
 rw[e] at r
 have eu:=vals_refs r
 subst eu
 have eb:∀ i∈js,decide (Dt.tup ((g i).map Dt.int)=Dt.tup (ts.map Dt.int))=decide (g i=ts):=fun i _=>by
  rw[decide_eq_decide]
  exact⟨fun z=>(List.map_inj_right fun x y e=>Dt.int.inj e).mp (Dt.tup.inj z),fun z=>by rw[z]⟩
 let G:Value→Bool:=fun u=>match u with
  | .ref b=>decide (H b=some (.tup (ts.map V.int)))
  | _=>false
 have eG:∀ i∈js,G (.ref (f i))=decide (g i=ts):=fun i hi=>by
  show decide (H (f i)=some (.tup (ts.map V.int)))=_
  rw[hf i hi,decide_eq_decide]
  refine⟨fun z=>?_,fun z=>by rw[z]⟩
  exact (List.map_inj_right fun x y e=>V.int.inj e).mp (HO.tup.inj (Option.some.inj z))
 refine SeqAt.notIn_listAt G pl.isList (fun w hw=>?_) ⟨.bl _,H,I,rfl,?_⟩
 ·have hw:w∈(js.map f).map Value.ref:=by simpa using hw
  rw[List.map_map] at hw
  obtain⟨i,hi,rfl⟩:=List.mem_map.mp hw
  show SeqAt.EqAt _ _ (Value.ref (f i)) _ (G (.ref (f i)))
  rw[eG i hi,← eb i hi]
  have hin:X.A.in1.units=X.A.units+1:=rfl
  exact eq_den I 7 _ _ _ _ _ _ _ (Toy.den_tup (hf i hi) (Toy.ints_dens _)) (Toy.den_tup ha (Toy.ints_dens _)) (cmp_tI _ _) (by omega) rfl rfl
 ·have e2:((js.map f).map Value.ref).toArray.any G=js.any fun i=>decide (g i=ts):=by
   rw[List.any_toArray,List.any_map,List.any_map]
   rw[Bool.eq_iff_iff,List.any_eq_true,List.any_eq_true]
   constructor
   ·rintro ⟨i,hi,h⟩
    exact⟨i,hi,by rw[← eG i hi];exact h⟩
   ·rintro ⟨i,hi,h⟩
    exact⟨i,hi,by show G (.ref (f i))=true;rw[eG i hi];exact h⟩
  rw[e2]
  exact q
end
section
variable {X:Cx}
end
end L2
namespace L2
open PySem PySem.Spec PyProof.Rows
def isN:V→Bool
 | .non=>true
 | _=>false
def rInN:R2:=fun x y H Q=>∃ p xs,x=.non∧y=.ref p∧H p=some (.lst xs)∧(∀ v∈xs,v=.non∨(∃ i,v=.int i)∨(∃ z,v=.str z)∨∃(t:Addr)(js:List Int),v=.ref t∧H t=some (.tup (js.map V.int)))∧Q (.bl (xs.any isN)) H
section
variable {X:Cx}
end
end L2
namespace L2
open PySem PySem.Spec PyProof.Rows
section
variable {X:Cx}
end
end L2
namespace L2
open PySem PyProof.Rows PySem.SeqAt
section
variable {X:Cx}
def rSortO:List V→Hp→VK→Prop:=fun xs H Q=>∃(l:Addr)(ns:List Int),xs=[.ref l]∧H l=some (.lst (ns.map V.int))∧ns.length≤60∧∀(p:Addr)(zs:List Int),zs.Perm ns→zs.Pairwise (·≤·)→H p=none→Q (.ref p) (upd H p (.lst (zs.map V.int)))
theorem call_sortO(hu:X.A.units+64 < cLine):CallR X (.builtin "sorted") rSortO:=by
 intro pins s σ H xs us Q I r h
 obtain⟨p,ns,rfl,hp,hm,q⟩:=h
 obtain⟨u,rfl,rx⟩:=vals1 r
 cases rx
 obtain⟨its,rv,pl,hz⟩:=I.list (SqL.of hp)
 have hi:=ints_of_vals rv
 have il:its.length=ns.length:=IntsAre.length hi
 refine sorted_ints pl.isList (by simpa using hi) (by omega) fun out ns' a1 a2 a3=>?_
 obtain⟨e,he⟩:=sortedAll_at s.heap its out
 refine⟨.ref (s.heap.objs.size+1),_,I.laid (t':=s.toks) (fun b o e=>sortedAll_old e) (Nat.le_succ _) (show ObjOk X.prog X.w _ _ _ (.lst (ns'.map V.int)) from ⟨?_,_,e,vals_of_ints a1,he⟩),rfl,q _ ns' a2 a3 (I.hok.fresh (Nat.le_succ _))⟩
 rw[List.length_map,a2.length_eq]
 exact Nat.le_of_lt (small1000 (by omega))
end
end L2
set_option maxHeartbeats 4000000
namespace Toy
open PySem L2
open PySem.Builtin.Int (intBits)
def top(i:Nat):Stmt:=PySem.Challenge.pw_keelbond_k09_whole_table_or_overdrawn.main.body.getD i (.Pass ⟨0,0,0,0⟩)
abbrev s_common_factor:Stmt:=top 6
theorem sc_common_factor:FnScope ["number", "under", "greater", "lesser", "rest"] ["number", "under"] (defScope s_common_factor):=⟨rfl,rfl,rfl,by decide +kernel,rfl,by decide +kernel,by decide +kernel⟩
abbrev s_lowest:Stmt:=top 7
theorem sc_lowest:FnScope ["number", "under", "factor"] ["number", "under"] (defScope s_lowest):=⟨rfl,rfl,rfl,by decide +kernel,rfl,by decide +kernel,by decide +kernel⟩
abbrev s_below:Stmt:=top 8
theorem sc_below:FnScope ["one", "other"] ["one", "other"] (defScope s_below):=⟨rfl,rfl,rfl,by decide +kernel,rfl,by decide +kernel,by decide +kernel⟩
abbrev s_one_under:Stmt:=top 9
theorem sc_one_under:FnScope ["row", "reached", "part"] ["row"] (defScope s_one_under):=⟨rfl,rfl,rfl,by decide +kernel,rfl,by decide +kernel,by decide +kernel⟩
abbrev s_numbers_over:Stmt:=top 10
theorem sc_numbers_over:FnScope ["row", "under"] ["row", "under"] (defScope s_numbers_over):=⟨rfl,rfl,rfl,by decide +kernel,rfl,by decide +kernel,by decide +kernel⟩
abbrev s_total:Stmt:=top 11
theorem sc_total:FnScope ["row", "under"] ["row"] (defScope s_total):=⟨rfl,rfl,rfl,by decide +kernel,rfl,by decide +kernel,by decide +kernel⟩
abbrev s_good_row:Stmt:=top 13
theorem sc_good_row:FnScope ["many", "touched", "part", "row", "fund", "paid"] ["many", "touched", "part", "row"] (defScope s_good_row):=⟨rfl,rfl,rfl,by decide +kernel,rfl,by decide +kernel,by decide +kernel⟩
abbrev s_good_table:Stmt:=top 14
theorem sc_good_table:FnScope ["worths", "claims", "parts", "rows", "claim", "part", "row", "fund", "worth"] ["worths", "claims", "parts", "rows"] (defScope s_good_table):=⟨rfl,rfl,rfl,by decide +kernel,rfl,by decide +kernel,by decide +kernel⟩
abbrev s_moves_from:Stmt:=top 15
theorem sc_moves_from:FnScope ["claims", "rows", "fund", "found", "place", "row"] ["claims", "rows", "fund"] (defScope s_moves_from):=⟨rfl,rfl,rfl,by decide +kernel,rfl,by decide +kernel,by decide +kernel⟩
abbrev s_shortest_chain:Stmt:=top 16
theorem sc_shortest_chain:FnScope ["claims", "rows", "left", "place", "chains", "reached", "at", "fund", "step"] ["claims", "rows", "left", "place"] (defScope s_shortest_chain):=⟨rfl,rfl,rfl,by decide +kernel,rfl,by decide +kernel,by decide +kernel⟩
abbrev s_most_along:Stmt:=top 17
theorem sc_most_along:FnScope ["rows", "left", "chain", "most", "ahead", "step"] ["rows", "left", "chain"] (defScope s_most_along):=⟨rfl,rfl,rfl,by decide +kernel,rfl,by decide +kernel,by decide +kernel⟩
abbrev s_move_along:Stmt:=top 18
theorem sc_move_along:FnScope ["rows", "left", "chain", "amount", "ahead", "step"] ["rows", "left", "chain", "amount"] (defScope s_move_along):=⟨rfl,rfl,rfl,by decide +kernel,rfl,by decide +kernel,by decide +kernel⟩
abbrev s_pay:Stmt:=top 19
theorem sc_pay:FnScope ["claims", "rows", "left", "place", "number", "lacking", "chain", "amount"] ["claims", "rows", "left", "place", "number"] (defScope s_pay):=⟨rfl,rfl,rfl,by decide +kernel,rfl,by decide +kernel,by decide +kernel⟩
abbrev s_as_parts:Stmt:=top 20
theorem sc_as_parts:FnScope ["numbers", "under"] ["numbers", "under"] (defScope s_as_parts):=⟨rfl,rfl,rfl,by decide +kernel,rfl,by decide +kernel,by decide +kernel⟩
abbrev s_table:Stmt:=top 21
theorem sc_table:FnScope ["worths", "claims", "parts", "under", "left", "rows", "place", "number"] ["worths", "claims", "parts"] (defScope s_table):=⟨rfl,rfl,rfl,by decide +kernel,rfl,by decide +kernel,by decide +kernel⟩
abbrev s__law_bag:Stmt:=top 23
theorem sc__law_bag:FnScope ["_law_script", "_law_salt", "_law_one"] ["_law_script"] (defScope s__law_bag):=⟨rfl,rfl,rfl,by decide +kernel,rfl,by decide +kernel,by decide +kernel⟩
abbrev s__law_pull:Stmt:=top 24
theorem sc__law_pull:FnScope ["_law_bag_here", "_law_many_here", "_law_seed", "_law_mixed", "_law_drawn"] ["_law_bag_here", "_law_many_here"] (defScope s__law_pull):=⟨rfl,rfl,rfl,by decide +kernel,rfl,by decide +kernel,by decide +kernel⟩
abbrev s__law_gcd:Stmt:=top 25
theorem sc__law_gcd:FnScope ["_law_one", "_law_other"] ["_law_one", "_law_other"] (defScope s__law_gcd):=⟨rfl,rfl,rfl,by decide +kernel,rfl,by decide +kernel,by decide +kernel⟩
abbrev s__law_low:Stmt:=top 26
theorem sc__law_low:FnScope ["_law_number", "_law_under", "_law_by"] ["_law_number", "_law_under"] (defScope s__law_low):=⟨rfl,rfl,rfl,by decide +kernel,rfl,by decide +kernel,by decide +kernel⟩
abbrev s__law_plus:Stmt:=top 27
theorem sc__law_plus:FnScope ["_law_one", "_law_other"] ["_law_one", "_law_other"] (defScope s__law_plus):=⟨rfl,rfl,rfl,by decide +kernel,rfl,by decide +kernel,by decide +kernel⟩
abbrev s__law_times:Stmt:=top 28
theorem sc__law_times:FnScope ["_law_one", "_law_other"] ["_law_one", "_law_other"] (defScope s__law_times):=⟨rfl,rfl,rfl,by decide +kernel,rfl,by decide +kernel,by decide +kernel⟩
abbrev s__law_below:Stmt:=top 29
theorem sc__law_below:FnScope ["_law_one", "_law_other"] ["_law_one", "_law_other"] (defScope s__law_below):=⟨rfl,rfl,rfl,by decide +kernel,rfl,by decide +kernel,by decide +kernel⟩
abbrev s__law_sum:Stmt:=top 30
theorem sc__law_sum:FnScope ["_law_row_here", "_law_found", "_law_one"] ["_law_row_here"] (defScope s__law_sum):=⟨rfl,rfl,rfl,by decide +kernel,rfl,by decide +kernel,by decide +kernel⟩
abbrev s__law_whole:Stmt:=top 31
theorem sc__law_whole:FnScope ["_law_found"] ["_law_found"] (defScope s__law_whole):=⟨rfl,rfl,rfl,by decide +kernel,rfl,by decide +kernel,by decide +kernel⟩
abbrev s__law_pair:Stmt:=top 32
theorem sc__law_pair:FnScope ["_law_found"] ["_law_found"] (defScope s__law_pair):=⟨rfl,rfl,rfl,by decide +kernel,rfl,by decide +kernel,by decide +kernel⟩
abbrev s__law_pairs:Stmt:=top 33
theorem sc__law_pairs:FnScope ["_law_found", "_law_many_here"] ["_law_found", "_law_many_here"] (defScope s__law_pairs):=⟨rfl,rfl,rfl,by decide +kernel,rfl,by decide +kernel,by decide +kernel⟩
abbrev s__law_truth:Stmt:=top 34
theorem sc__law_truth:FnScope ["_law_found", "_law_due_here"] ["_law_found", "_law_due_here"] (defScope s__law_truth):=⟨rfl,rfl,rfl,by decide +kernel,rfl,by decide +kernel,by decide +kernel⟩
abbrev s__law_heaps:Stmt:=top 35
theorem sc__law_heaps:FnScope ["_law_many_here", "_law_found", "_law_place"] ["_law_many_here"] (defScope s__law_heaps):=⟨rfl,rfl,rfl,by decide +kernel,rfl,by decide +kernel,by decide +kernel⟩
abbrev s__law_lies:Stmt:=top 36
theorem sc__law_lies:FnScope ["_law_touched", "_law_heap_here"] ["_law_touched", "_law_heap_here"] (defScope s__law_lies):=⟨rfl,rfl,rfl,by decide +kernel,rfl,by decide +kernel,by decide +kernel⟩
abbrev s__law_worth:Stmt:=top 37
theorem sc__law_worth:FnScope ["_law_worths_here", "_law_heap_here"] ["_law_worths_here", "_law_heap_here"] (defScope s__law_worth):=⟨rfl,rfl,rfl,by decide +kernel,rfl,by decide +kernel,by decide +kernel⟩
abbrev s__law_load:Stmt:=top 38
theorem sc__law_load:FnScope ["_law_claims_here", "_law_parts", "_law_heap_here"] ["_law_claims_here", "_law_parts", "_law_heap_here"] (defScope s__law_load):=⟨rfl,rfl,rfl,by decide +kernel,rfl,by decide +kernel,by decide +kernel⟩
abbrev s__law_many:Stmt:=top 39
theorem sc__law_many:FnScope ["_law_bag_here"] ["_law_bag_here"] (defScope s__law_many):=⟨rfl,rfl,rfl,by decide +kernel,rfl,by decide +kernel,by decide +kernel⟩
abbrev s__law_heap:Stmt:=top 40
theorem sc__law_heap:FnScope ["_law_bag_here", "_law_many_here", "_law_mask"] ["_law_bag_here", "_law_many_here"] (defScope s__law_heap):=⟨rfl,rfl,rfl,by decide +kernel,rfl,by decide +kernel,by decide +kernel⟩
abbrev s__law_worths:Stmt:=top 41
theorem sc__law_worths:FnScope ["_law_bag_here", "_law_many_here", "_law_scale"] ["_law_bag_here", "_law_many_here"] (defScope s__law_worths):=⟨rfl,rfl,rfl,by decide +kernel,rfl,by decide +kernel,by decide +kernel⟩
abbrev s__law_due:Stmt:=top 42
theorem sc__law_due:FnScope ["_law_bag_here", "_law_scale"] ["_law_bag_here", "_law_scale"] (defScope s__law_due):=⟨rfl,rfl,rfl,by decide +kernel,rfl,by decide +kernel,by decide +kernel⟩
abbrev s__law_claims:Stmt:=top 43
theorem sc__law_claims:FnScope ["_law_bag_here", "_law_many_here", "_law_scale", "_law_ranks", "_law_found", "_law_k"] ["_law_bag_here", "_law_many_here"] (defScope s__law_claims):=⟨rfl,rfl,rfl,by decide +kernel,rfl,by decide +kernel,by decide +kernel⟩
abbrev s__law_row:Stmt:=top 44
theorem sc__law_row:FnScope ["_law_bag_here", "_law_claims_here", "_law_base"] ["_law_bag_here", "_law_claims_here"] (defScope s__law_row):=⟨rfl,rfl,rfl,by decide +kernel,rfl,by decide +kernel,by decide +kernel⟩
abbrev s__law_over_its_worth:Stmt:=top 45
theorem sc__law_over_its_worth:FnScope ["_law_worths_here", "_law_claims_here", "_law_parts", "_law_heap_here"] ["_law_worths_here", "_law_claims_here", "_law_parts", "_law_heap_here"] (defScope s__law_over_its_worth):=⟨rfl,rfl,rfl,by decide +kernel,rfl,by decide +kernel,by decide +kernel⟩
abbrev s__law_ceil:Stmt:=top 46
theorem sc__law_ceil:FnScope ["_law_one"] ["_law_one"] (defScope s__law_ceil):=⟨rfl,rfl,rfl,by decide +kernel,rfl,by decide +kernel,by decide +kernel⟩
abbrev s__law_tabled:Stmt:=top 47
theorem sc__law_tabled:FnScope ["_law_bag_here", "_law_many_here", "_law_scale", "_law_under", "_law_claims_here", "_law_rows", "_law_claim", "_law_row_here", "_law_place", "_law_more", "_law_worths_here"] ["_law_bag_here"] (defScope s__law_tabled):=⟨rfl,rfl,rfl,by decide +kernel,rfl,by decide +kernel,by decide +kernel⟩
abbrev s__law_good_row:Stmt:=top 48
theorem sc__law_good_row:FnScope ["_law_claim", "_law_part", "_law_row_here"] ["_law_claim", "_law_part", "_law_row_here"] (defScope s__law_good_row):=⟨rfl,rfl,rfl,by decide +kernel,rfl,by decide +kernel,by decide +kernel⟩
abbrev s__law_good_table:Stmt:=top 49
theorem sc__law_good_table:FnScope ["_law_worths_here", "_law_claims_here", "_law_parts", "_law_rows", "_law_place"] ["_law_worths_here", "_law_claims_here", "_law_parts", "_law_rows"] (defScope s__law_good_table):=⟨rfl,rfl,rfl,by decide +kernel,rfl,by decide +kernel,by decide +kernel⟩
abbrev s__law_overdrawn:Stmt:=top 50
theorem sc__law_overdrawn:FnScope ["_law_worths_here", "_law_claims_here", "_law_parts", "_law_heap_here"] ["_law_worths_here", "_law_claims_here", "_law_parts"] (defScope s__law_overdrawn):=⟨rfl,rfl,rfl,by decide +kernel,rfl,by decide +kernel,by decide +kernel⟩
abbrev s__law_is_overdrawn:Stmt:=top 51
theorem sc__law_is_overdrawn:FnScope ["_law_worths_here", "_law_claims_here", "_law_parts", "_law_heap_here"] ["_law_worths_here", "_law_claims_here", "_law_parts", "_law_heap_here"] (defScope s__law_is_overdrawn):=⟨rfl,rfl,rfl,by decide +kernel,rfl,by decide +kernel,by decide +kernel⟩
abbrev s__law_told:Stmt:=top 52
theorem sc__law_told:FnScope ["_law_worths_here", "_law_claims_here", "_law_parts", "_law_found", "_law_heap_here", "e"] ["_law_worths_here", "_law_claims_here", "_law_parts"] (defScope s__law_told):=⟨rfl,rfl,rfl,by decide +kernel,rfl,by decide +kernel,by decide +kernel⟩
abbrev s__law_asked:Stmt:=top 53
theorem sc__law_asked:FnScope ["_law_worths_here", "_law_claims_here", "_law_parts", "_law_given", "_law_found", "_law_heap_here", "_law_row_here"] ["_law_worths_here", "_law_claims_here", "_law_parts"] (defScope s__law_asked):=⟨rfl,rfl,rfl,by decide +kernel,rfl,by decide +kernel,by decide +kernel⟩
abbrev s_law:Stmt:=top 54
theorem sc_law:FnScope ["_law_script", "_law_bag_here", "_law_worths_here", "_law_claims_here", "_law_parts", "_law_rows", "_law_place", "_law_many_here"] ["_law_script"] (defScope s_law):=⟨rfl,rfl,rfl,by decide +kernel,rfl,by decide +kernel,by decide +kernel⟩
abbrev i_Overdrawn:Stmt:=inClass (top 4) 0
theorem si_Overdrawn:FnScope ["self", "heap"] ["self", "heap"] (defScope i_Overdrawn):=⟨rfl,rfl,rfl,by decide +kernel,rfl,by decide +kernel,by decide +kernel⟩
theorem ox_Overdrawn{P:Program}{w:World}{K:PySem.W.Frag}{mg:Str→Option Value}{base:Heap}{C:Addr}(T:XT K mg "Overdrawn" "KeelError" "heap" "Overdrawn.__init__" i_Overdrawn C):XOk P w K mg base "Overdrawn" "heap" C:=by
 obtain⟨fI,fd,B,F,W,hB,O,hm⟩:=T.ex
 refine⟨fI,fd,["self", "heap"],O,hm,F.binds fun _ _ _ _ _ _ us hl=>match us,hl with | [_,_],_=>rfl,F.ok si_Overdrawn (fun vs H Q E h=>?_) fun cdv A outer s H vs Q E hr h=>?_⟩
 ·obtain⟨_,_,rfl,_⟩:=h;rfl
 ·obtain⟨a,v,rfl,e,q⟩:=h
  refine⟨_,pss_cons (ps_expr (pe_xinit (pl:=_) W (by rfl) hB (pa_cons (pv 0) (pa_cons pe_str pa_nil)))) (pss_one (ps_xfld (pv 0) (pv 1))),?_⟩
  exact⟨_,rfl,a,C,fI, "heap", _,rfl,by show 1≤1000;decide,O,e,_,rfl,_,rfl,a,C,fI,rfl,O,e,fun dx hdx=>q dx hdx fun z=>by rw[z,e] at hdx;cases hdx⟩
structure Txt(K:PySem.W.Frag)(mg:Str→Option Value)(cx:Str→Addr):Prop where
 n_sum:mg "sum" = none
 n_enumerate:mg "enumerate" = none
 n_len:mg "len" = none
 n_zip:mg "zip" = none
 n_tuple:mg "tuple" = none
 n_sorted:mg "sorted" = none
 n_list:mg "list" = none
 n_min:mg "min" = none
 n_abs:mg "abs" = none
 n_isinstance:mg "isinstance" = none
 n_bool:mg "bool" = none
 n_int:mg "int" = none
 n_all:mg "all" = none
 n_range:mg "range" = none
 n_max:mg "max" = none
 x_Overdrawn:XT K mg "Overdrawn" "KeelError" "heap" "Overdrawn.__init__" i_Overdrawn (cx "Overdrawn")
def GoodU2(U:Int)(k:Nat)(m:Int)(c:Cl):Prop:=Du U k c.n c.u∧c.hp.length≤6∧(∀ x∈c.hp,0≤x∧x < m)∧Sz 10 c.rk∧c.hp.Nodup
def FndAt(H:Hp)(xs:List V)(fs:List (Nat×Int×Int)):Prop:=xs.length=fs.length∧∀(i:Nat) f,fs[i]?=some f→∃ r t,xs[i]?=some (.ref r)∧H r=some (.tup [.ref t,.int f.2.1,.int f.2.2])∧H t=some (.tup ((Srt.sub f.1).map V.int))
structure LvIn(U:Int)(k:Nat)(w c p pl:Addr)(ws:List Int)(xs:List V)(cs:List Cl)(ys:List V)(ps:List (Int×Int))(q:Nat→Bool)(H:Hp):Prop where
 hU:UOk U
 hk:k≤4700
 w:H w=some (.lst (ws.map V.int))
 c:H c=some (.lst xs)
 hC:ClsAt H xs cs
 p:H p=some (.lst ys)
 hR:RowU U k H ys ps
 pl:H pl=some (.lst (plV cs.length q))
 len:cs.length=ps.length
 c16:cs.length≤16
 due:∀ c∈cs,PtOk U k (c.n,c.u)∧c.hp.length≤6
 w6:ws.length≤6
 wz:∀ x∈ws,Sz 200 x
def undB(cs:List Cl)(ps:List (Int×Int))(q:Nat→Bool):Int:=undP (rowL cs ps q cs.length)
abbrev RB(ws:List Int)(cs:List Cl)(ps:List (Int×Int))(q:Nat→Bool)(i:Nat):Int:=roomN (undB cs ps q) ws cs ps q (Srt.sub i)
abbrev DB(cs:List Cl)(ps:List (Int×Int))(q:Nat→Bool)(i:Nat):Int:=dueN (undB cs ps q) cs q (Srt.sub i)
def haltQ(R D:Nat→Int)(n:Nat)(lv:Int×Int)(cs:List Cl)(q:Nat→Bool)(i:Nat):Bool:=q i && (decide (lv=(1,1)) || ((List.range n).filter (tightB R D lv)).any fun j=>inn cs (Srt.sub j) i)
theorem subs_fn{H:Hp}{xs:List V}{n:Nat}(h:SubsAt H xs n):∃ ts:Nat→Addr,xs=(List.range n).map (fun i=>V.ref (ts i))∧∀ i,i < n→H (ts i)=some (.tup ((Srt.sub i).map V.int)):=by
 refine⟨fun i=>match xs[i]? with | some (.ref t)=>t | _=>0,?_,fun i hi=>?_⟩
 ·apply List.ext_getElem?
  intro i
  rw[List.getElem?_map]
  by_cases hi:i < n
  ·obtain⟨t,e,_⟩:=h.2 i hi
   rw[List.getElem?_range hi,e]
   show some (V.ref t)=some (V.ref (match xs[i]? with | some (.ref t)=>t | _=>0))
   rw[e]
  ·rw[List.getElem?_eq_none (by rw[h.1];omega),List.getElem?_eq_none (by rw[List.length_range];omega)]
   rfl
 ·obtain⟨t,e,h1⟩:=h.2 i hi
  show H (match xs[i]? with | some (.ref t)=>t | _=>0)=_
  rw[e]
  exact h1
def Nt1(hs:List Int)(r:List (Int×Int)):Prop:=∀ p:Nat,(p:Int)∉hs→r.getD p (0,1)=(0,1)
def NtOk(cs:List Cl)(rss:List (List (Int×Int))):Prop:=∀(i:Nat) c r,cs[i]?=some c→rss[i]?=some r→Nt1 c.hp r
def colN(rss:List (List (Int×Int)))(p:Nat):Int:=(rss.map fun r=>num UM (r.getD p (0,1))).sum
def ColOk(rss:List (List (Int×Int)))(ws:List Int):Prop:=∀ p,p < ws.length→colN rss p≤ws.getD p 0*UM
theorem Nt1.rep{hs:List Int}{m:Nat}:Nt1 hs (List.replicate m (0,1)):=fun p _=>by
 rw[List.getD_eq_getElem?_getD,List.getElem?_replicate]
 split<;>rfl
theorem Nt1.put{hs:List Int}{r:List (Int×Int)}{x:Int}{v:Int×Int}(h:Nt1 hs r)(hx:x∈hs)(h0:0≤x):Nt1 hs (r.set x.toNat v):=fun p hp=>by
 have ne:x.toNat≠p:=fun z=>hp (by rw[← z,Int.toNat_of_nonneg h0];exact hx)
 have:=h p hp
 rw[List.getD_eq_getElem?_getD] at this ⊢
 rw[List.getElem?_set_ne ne]
 exact this
theorem NtOk.nil:NtOk [] []:=fun i c r h=>by simp at h
theorem NtOk.snoc{cs:List Cl}{rss:List (List (Int×Int))}{c:Cl}{r:List (Int×Int)}(h:NtOk cs rss)(e:rss.length=cs.length)(hr:Nt1 c.hp r):NtOk (cs++[c]) (rss++[r]):=fun i c' r' hc h'=>by
 by_cases hi:i < cs.length
 ·rw[List.getElem?_append_left hi] at hc
  rw[List.getElem?_append_left (by omega)] at h'
  exact h i c' r' hc h'
 ·have hl:=(List.getElem?_eq_some_iff.mp hc).1
  rw[List.length_append] at hl
  have e2:i=cs.length:=by
   have:([c]:List Cl).length=1:=rfl
   omega
  subst e2
  rw[List.getElem?_append_right (Nat.le_refl _),Nat.sub_self] at hc
  rw[List.getElem?_append_right (by omega),e,Nat.sub_self] at h'
  cases hc
  cases h'
  exact hr
theorem ColOk.snoc{rss:List (List (Int×Int))}{ws:List Int}{x:Int}{j:Nat}(h:ColOk rss ws)(e:ws.length=j)(hx:colN rss j≤x*UM):ColOk rss (ws++[x]):=fun p hp=>by
 rw[List.getD_eq_getElem?_getD]
 by_cases hl:p < ws.length
 ·have:=h p hl
  rw[List.getD_eq_getElem?_getD] at this
  rw[List.getElem?_append_left hl]
  exact this
 ·rw[List.length_append] at hp
  have e2:p=ws.length:=by
   have:([x]:List Int).length=1:=rfl
   omega
  rw[e2,List.getElem?_append_right (Nat.le_refl _),Nat.sub_self,e]
  exact hx
theorem ceil_le{S:Int×Int}(o:Ok UM S):num UM S≤-(-S.1 / S.2)*UM:=by
 have hp:=o.pos
 have h1:=Int.ediv_mul_le (-S.1) (by omega:S.2≠0)
 have h2:=num_mul o
 have h3:S.1≤-(-S.1 / S.2)*S.2:=by rw[Int.neg_mul];omega
 have h4:=Int.mul_le_mul_of_nonneg_right h3 (Int.le_of_lt um_ok.pos)
 generalize -(-S.1 / S.2)=c at h4 ⊢
 refine Int.le_of_mul_le_mul_right (a:=S.2) ?_ hp
 rw[h2]
 have e:c*UM*S.2=c*S.2*UM:=by rw[Int.mul_assoc,Int.mul_comm UM,← Int.mul_assoc]
 rw[e]
 exact h4
structure Tb(H0:Hp)(B L F C Z:Addr)(xs0:List V)(cs0:List Cl)(xs:List V)(cs:List Cl)(zs:List V)(rss:List (List (Int×Int)))(H:Hp):Prop where
 b:BagAt H B L
 fr:Fr1 B H0 H
 f:H F=some (.lst xs0)
 hF:ClsAt H xs0 cs0
 c:H C=some (.lst xs)
 hC:ClsAt H xs cs
 z:H Z=some (.lst zs)
 hZ:RowsAt [B,L,F,C,Z] UM 115 H zs rss
 hz0:∀ l,V.ref l∈zs→H0 l=none
structure Tn(H0:Hp)(B L F C Z:Addr):Prop where
 fB:F≠B
 fL:F≠L
 cB:C≠B
 cL:C≠L
 zB:Z≠B
 zL:Z≠L
 fC:F≠C
 fZ:F≠Z
 cZ:C≠Z
 f0:H0 F=none
 c0:H0 C=none
 z0:H0 Z=none
theorem Tb.pull{H0:Hp}{B L F C Z:Addr}{xs0:List V}{cs0:List Cl}{xs:List V}{cs:List Cl}{zs:List V}{rss:List (List (Int×Int))}{H:Hp}{H':Hp}(t:Tb H0 B L F C Z xs0 cs0 xs cs zs rss H)(n:Tn H0 B L F C Z)(f:Fr1 B H H')(b:BagAt H' B L):Tb H0 B L F C Z xs0 cs0 xs cs zs rss H':=by
 have s:=TS.fr t.b f
 exact⟨b,t.fr.trans f,f _ _ n.fB t.f,t.hF.ts s,f _ _ n.cB t.c,t.hC.ts s,f _ _ n.zB t.z,t.hZ.step (fun l xs _ hx h=>f l _ (fun e=>hx (by rw[e];exact List.mem_cons_self)) h) s,t.hz0⟩
theorem Tb.same{H0:Hp}{B L F C Z:Addr}{xs0:List V}{cs0:List Cl}{xs:List V}{cs:List Cl}{zs:List V}{rss:List (List (Int×Int))}{H:Hp}{H':Hp}(t:Tb H0 B L F C Z xs0 cs0 xs cs zs rss H)(s:Same H H'):Tb H0 B L F C Z xs0 cs0 xs cs zs rss H' :=
 ⟨t.b.keep s,t.fr.trans (Fr1.of s),s _ _ t.f,t.hF.ts (TS.of s),s _ _ t.c,t.hC.ts (TS.of s),s _ _ t.z,t.hZ.step (fun l xs _ _ h=>s _ _ h) (TS.of s),t.hz0⟩
theorem Tb.row{H0:Hp}{B L F C Z:Addr}{xs0:List V}{cs0:List Cl}{xs:List V}{cs:List Cl}{zs:List V}{rss:List (List (Int×Int))}{H:Hp}{a:Addr}{ys ys':List V}(t:Tb H0 B L F C Z xs0 cs0 xs cs zs rss H)(ha:H a=some (.lst ys))(nB:a≠B)(nL:a≠L)(nF:a≠F)(nC:a≠C)(nZ:a≠Z)(nz:V.ref a∉zs)(h0:H0 a=none):Tb H0 B L F C Z xs0 cs0 xs cs zs rss (upd H a (.lst ys')):=by
 have s:TS H (upd H a (.lst ys')):=TS.lst ha
 refine⟨t.b.put nB nL,fun b o hb h=>?_,by rw[upd_ne nF.symm];exact t.f,t.hF.ts s,by rw[upd_ne nC.symm];exact t.c,t.hC.ts s,by rw[upd_ne nZ.symm];exact t.z,t.hZ.step (fun l xs hl _ h=>?_) s,t.hz0⟩
 ·rw[upd_ne (fun e=>by rw[e,h0] at h;cases h)]
  exact t.fr b o hb h
 ·rw[upd_ne (fun e=>nz (by rw[← e];exact hl))]
  exact h
theorem Tb.addRow{H0:Hp}{B L F C Z:Addr}{xs0:List V}{cs0:List Cl}{xs:List V}{cs:List Cl}{zs:List V}{rss:List (List (Int×Int))}{H:Hp}{r:Addr}{ys:List V}{row:List (Int×Int)}(t:Tb H0 B L F C Z xs0 cs0 xs cs zs rss H)(n:Tn H0 B L F C Z)(hr:H r=some (.lst ys))(hR:RowU UM 115 H ys row)(rB:r≠B)(rL:r≠L)(rF:r≠F)(rC:r≠C)(rZ:r≠Z)(rz:V.ref r∉zs)(r0:H0 r=none):Tb H0 B L F C Z xs0 cs0 xs cs (zs++[.ref r]) (rss++[row]) (upd H Z (.lst (zs++[.ref r]))):=by
 have s:TS H (upd H Z (.lst (zs++[.ref r]))):=TS.lst t.z
 refine⟨t.b.put n.zB n.zL,fun b o hb h=>?_,by rw[upd_ne n.fZ];exact t.f,t.hF.ts s,by rw[upd_ne n.cZ];exact t.c,t.hC.ts s,upd_same,?_,fun l hl=>?_⟩
 ·rw[upd_ne (fun e=>by rw[e,n.z0] at h;cases h)]
  exact t.fr b o hb h
 ·refine (t.hZ.step (fun l xs hl hx h=>?_) s).snoc rz (by rw[upd_ne rZ];exact hr) (hR.ts s) ?_
  ·rw[upd_ne (fun e=>hx (by rw[e];simp))]
   exact h
  ·simp[rB,rL,rF,rC,rZ]
 ·rcases List.mem_append.mp hl with hl | hl
  ·exact t.hz0 l hl
  ·have:=List.mem_singleton.mp hl
   cases this
   exact r0
theorem Tb.addClaim{H0:Hp}{B L F C Z:Addr}{xs0:List V}{cs0:List Cl}{xs:List V}{cs:List Cl}{zs:List V}{rss:List (List (Int×Int))}{H:Hp}{v:V}{c:Cl}(t:Tb H0 B L F C Z xs0 cs0 xs cs zs rss H)(n:Tn H0 B L F C Z)(hv:ClAt H v c):Tb H0 B L F C Z xs0 cs0 (xs++[v]) (cs++[c]) zs rss (upd H C (.lst (xs++[v]))):=by
 have s:TS H (upd H C (.lst (xs++[v]))):=TS.lst t.c
 refine⟨t.b.put n.cB n.cL,fun b o hb h=>?_,by rw[upd_ne n.fC];exact t.f,t.hF.ts s,upd_same,(t.hC.ts s).snoc (hv.ts s),by rw[upd_ne n.cZ.symm];exact t.z,t.hZ.step (fun l xs hl hx h=>?_) s,t.hz0⟩
 ·rw[upd_ne (fun e=>by rw[e,n.c0] at h;cases h)]
  exact t.fr b o hb h
 ·rw[upd_ne (fun e=>hx (by rw[e];simp))]
  exact h
theorem add_du{U:Int}(hU:0 < U){k j:Nat}{a b:Int×Int}(ha:PtOk U k a)(hb:PtOk U k b)(na:0≤a.1)(nb:0≤b.1)(hj:k+1≤j):Du U j (addP a b).1 (addP a b).2:=by
 have e:=add_ok hU ha.toOk hb.toOk
 have o:Ok U (addP a b):=by rw[e];exact low_ok hU
 have en:num U (addP a b)=num U a+num U b:=by rw[e,num_low hU]
 refine⟨⟨o,?_⟩,?_⟩
 ·show Sz j (num U (addP a b))
  rw[en]
  exact Sz.mono (Sz.add ha.sz hb.sz) hj
 ·have h1:=(nn_num hU ha.toOk).mp na
  have h2:=(nn_num hU hb.toOk).mp nb
  exact (nn_num hU o).mpr (by rw[en];omega)
def RwOk(m:Nat)(r:List (Int×Int)):Prop:=r.length=m∧∀ p∈r,0≤p.1
structure Tf(H0:Hp)(B L W C P Z:Addr)(ws:List Int)(xs:List V)(cs:List Cl)(ys:List V)(ps:List (Int×Int))(zs:List V)(rss:List (List (Int×Int)))(H:Hp):Prop where
 b:BagAt H B L
 fr:Fr1 B H0 H
 w:H W=some (.lst (ws.map V.int))
 c:H C=some (.lst xs)
 hC:ClsAt H xs cs
 p:H P=some (.lst ys)
 hR:RowU UM 121 H ys ps
 z:H Z=some (.lst zs)
 hZ:RowsAt [B,L,W,C,P,Z] UM 115 H zs rss
 w0:H0 W=none
 c0:H0 C=none
 p0:H0 P=none
 z0:H0 Z=none
 wc:W≠C
 wp:W≠P
 wz:W≠Z
 cp:C≠P
 cz:C≠Z
 pz:P≠Z
 w6:ws.length≤6
 wsz:∀ x∈ws,0≤x∧Sz 140 x
 c16:cs.length≤16
 pl:ps.length=cs.length
 rl:rss.length=cs.length
 hG:∀ c∈cs,GoodU2 UM 122 ws.length c
 hr:∀ r∈rss,RwOk ws.length r
 eP:ps=rss.map sumP
 hn:NtOk cs rss
 col:ColOk rss ws
structure Ap(B L W C P Pl:Addr):Prop where
 wB:W≠B
 wL:W≠L
 cB:C≠B
 cL:C≠L
 pB:P≠B
 pL:P≠L
 plB:Pl≠B
 plL:Pl≠L
 wP:W≠P
 cP:C≠P
 plP:Pl≠P
def newP(lv:Int×Int)(cs:List Cl)(i:Nat):Int×Int:=low (lv.1*(dueP cs i).1) (lv.2*(dueP cs i).2)
def stp(lv:Int×Int)(cs:List Cl)(ps:List (Int×Int))(hq:Nat→Bool):List (Int×Int):=(List.range ps.length).map fun i=>if hq i=true then newP lv cs i else ps.getD i (0,1)
abbrev RU(U:Int)(ws:List Int)(cs:List Cl)(ps:List (Int×Int))(q:Nat→Bool)(i:Nat):Int:=roomN U ws cs ps q (Srt.sub i)
abbrev DU(U:Int)(cs:List Cl)(q:Nat→Bool)(i:Nat):Int:=dueN U cs q (Srt.sub i)
structure FC(U0:Int)(ws:List Int)(cs:List Cl):Prop where
 u0:0 < U0
 uz:Sz 90 U0
 due:∀ c∈cs,PtOk U0 180 (c.n,c.u)∧0≤c.n∧c.hp.length≤6
 c16:cs.length≤16
 w6:ws.length≤6
 wz:∀ x∈ws,Sz 200 x
structure FI(U0:Int)(ws:List Int)(cs:List Cl)(r:Nat)(U:Int)(ps:List (Int×Int))(q:Nat→Bool):Prop where
 up:0 < U
 dvd:U0∣U
 uz:Sz (90+200*r) U
 len:ps.length=cs.length
 ok:∀ i,i < cs.length→PtOk U (300+200*r) (ps.getD i (0,1))
 room:∀ j,j < 2 ^ ws.length→0≤RU U ws cs ps q j
def Hd(U:Int)(ws:List Int)(cs:List Cl)(ps:List (Int×Int))(q:Nat→Bool)(i:Nat):Prop:=ps.getD i (0,1)=dueP cs i∨∃ j,j < 2 ^ ws.length∧inn cs (Srt.sub j) i=true∧(∀ a∈insL cs (Srt.sub j),q a=false)∧RU U ws cs ps q j=0
def Bd(U:Int)(cs:List Cl)(ps:List (Int×Int))(q:Nat→Bool):Prop:=∀ i,i < cs.length→q i=false→0≤num U (ps.getD i (0,1))∧num U (ps.getD i (0,1))≤num U (dueP cs i)
section
variable {U0 U:Int}{ws:List Int}{cs:List Cl}{r:Nat}{ps:List (Int×Int)}{q:Nat→Bool}{lv:Int×Int}
def lvP(ws:List Int)(cs:List Cl)(ps:List (Int×Int))(q:Nat→Bool):Int×Int:=low (lfold (fndL (RB ws cs ps q) (DB cs ps q) (ordL (2 ^ ws.length)))).1 (lfold (fndL (RB ws cs ps q) (DB cs ps q) (ordL (2 ^ ws.length)))).2
def hqP(ws:List Int)(cs:List Cl)(ps:List (Int×Int))(q:Nat→Bool):Nat→Bool:=haltQ (RB ws cs ps q) (DB cs ps q) (2 ^ ws.length) (lvP ws cs ps q) cs q
def fillP(ws:List Int)(cs:List Cl):Nat→List (Int×Int)→(Nat→Bool)→List (Int×Int)
 | 0,ps,_=>ps
 | f+1,ps,q=>if plL cs.length q=[] then ps else fillP ws cs f (stp (lvP ws cs ps q) cs ps (hqP ws cs ps q)) fun i=>q i && !hqP ws cs ps q i
end
def RowV(H:Hp)(xs:List V)(ps:List (Int×Int)):Prop:=xs.length=ps.length∧∀(i:Nat) p,ps[i]?=some p→∃ r,xs[i]?=some (.ref r)∧H r=some (.tup [.int p.1,.int p.2])
theorem RowV.ts{H H':Hp}{xs:List V}{ps:List (Int×Int)}(h:RowV H xs ps)(s:TS H H'):RowV H' xs ps:=⟨h.1,fun i p hp=>by
 obtain⟨r,e,h1⟩:=h.2 i p hp
 exact⟨r,e,s _ _ h1⟩⟩
theorem RowU.toV{U:Int}{k:Nat}{H:Hp}{xs:List V}{ps:List (Int×Int)}(h:RowU U k H xs ps):RowV H xs ps:=⟨h.1,fun i p hp=>by
 obtain⟨r,e,h1,_⟩:=h.2 i p hp
 exact⟨r,e,h1⟩⟩
structure FdIn(w c p pl:Addr)(ws:List Int)(xs:List V)(cs:List Cl)(ys:List V)(ps:List (Int×Int))(q:Nat→Bool)(H:Hp):Prop where
 w:H w=some (.lst (ws.map V.int))
 c:H c=some (.lst xs)
 hC:ClsAt H xs cs
 p:H p=some (.lst ys)
 hR:RowV H ys ps
 pl:H pl=some (.lst (plV cs.length q))
theorem same_fr{H H2 H3:Hp}{l:Addr}(hl:H l=none)(s:Same H H2)(f:Fr1 l H2 H3):Same H H3:=fun b o hb=>f b o (fun z=>by rw[z,hl] at hb;cases hb) (s b o hb)
theorem ixN_nat{n i:Nat}(h:i < n):ixN n (i:Int)=some i:=by
 unfold ixN
 rw[if_pos (by omega),if_pos (by omega),Int.toNat_natCast]
abbrev q0:Nat→Bool:=fun _=>false
abbrev fdD(ws:List Int)(cs:List Cl)(ps:List (Int×Int))(q:Nat→Bool):Dt:=.tup [.lst (ws.map Dt.int),.lst (cs.map cD),.lst (ps.map pD),.lst ((plL cs.length q).map Dt.int)]
theorem RowV.snoc{H:Hp}{xs:List V}{ps:List (Int×Int)}{r:Addr}{p:Int×Int}(h:RowV H xs ps)(hr:H r=some (.tup [.int p.1,.int p.2])):RowV H (xs++[.ref r]) (ps++[p]):=by
 refine⟨by rw[List.length_append,List.length_append,h.1];rfl,fun i q hq=>?_⟩
 by_cases hi:i < ps.length
 ·rw[List.getElem?_append_left hi] at hq
  rw[List.getElem?_append_left (by rw[h.1];exact hi)]
  exact h.2 i q hq
 ·have hl:=(List.getElem?_eq_some_iff.mp hq).1
  rw[List.length_append] at hl
  have e:i=ps.length:=by
   have:([p]:List (Int×Int)).length=1:=rfl
   omega
  subst e
  rw[List.getElem?_append_right (Nat.le_refl _),Nat.sub_self] at hq
  cases hq
  exact⟨r,by rw[List.getElem?_append_right (by rw[h.1];exact Nat.le_refl _),h.1,Nat.sub_self];rfl,hr⟩
def rkP(cs:List Cl)(i:Nat):Int:=match cs[i]? with
 | some c=>c.rk
 | none=>0
def qR(cs:List Cl)(r:Int)(i:Nat):Bool:=decide (rkP cs i=r) && !decide ((dueP cs i).1=0∧(dueP cs i).2=1)
def shareL(ws:List Int)(cs:List Cl):List Int→List (Int×Int)→List (Int×Int)
 | [],ps=>ps
 | r::rs,ps=>shareL ws cs rs (fillP ws cs (plL cs.length (qR cs r)).length ps (qR cs r))
def row0(cs:List Cl):List (Int×Int):=List.replicate cs.length (0,1)
def cntR(cs:List Cl)(zs:List Int):Nat:=((List.range cs.length).filter fun i=>decide (rkP cs i∈zs)).length
section
variable {U0 U:Int}{ws:List Int}{cs:List Cl}{r:Nat}{ps:List (Int×Int)}
end
structure ShIn(w c:Addr)(ws:List Int)(xs:List V)(cs:List Cl)(H:Hp):Prop where
 w:H w=some (.lst (ws.map V.int))
 c:H c=some (.lst xs)
 hC:ClsAt H xs cs
theorem ShIn.same{w c:Addr}{ws:List Int}{xs:List V}{cs:List Cl}{H H':Hp}(x:ShIn w c ws xs cs H)(s:Same H H'):ShIn w c ws xs cs H':=⟨s _ _ x.w,s _ _ x.c,x.hC.ts (TS.of s)⟩
structure RkOk(cs:List Cl)(zs:List Int):Prop where
 lt:zs.Pairwise (· < ·)
 mem:∀ k,k∈zs↔k∈cs.map (·.rk)
abbrev shD(ws:List Int)(cs:List Cl):Dt:=.tup [.lst (ws.map Dt.int),.lst (cs.map cD)]
theorem cmp_sh{ws:List Int}{cs:List Cl}:Cmp 8 (shD ws cs) (shD ws cs):=by
 refine cmp_tup fun d hd=>?_
 simp only[List.mem_cons,List.not_mem_nil,or_false] at hd
 rcases hd with rfl | rfl
 ·exact cmp_lst (cmp_ints ws)
 ·exact cmp_lst fun d hd=>by
   obtain⟨c,_,rfl⟩:=List.mem_map.mp hd
   exact cmp_cD c
structure Cas(H0:Hp)(B L W C:Addr)(ws:List Int)(xs:List V)(cs:List Cl)(H:Hp):Prop where
 b:BagAt H B L
 fr:Fr1 B H0 H
 sh:ShIn W C ws xs cs H
 fc:FC UM ws cs
 w0:∀ x∈ws,0≤x
 wB:W≠B
 cB:C≠B
 gd:∀ c∈cs,PtOk UM 122 (c.n,c.u)∧Sz 10 c.rk∧∀ x∈c.hp,0≤x∧x < (ws.length:Int)
 wz:∀ x∈ws,Sz 140 x
theorem rk_at{rs:List Int}(h:∀ r∈rs,Sz 10 r){j:Nat}(hj:j < rs.length):Sz 10 (rs.getD j 0):=by
 have e:rs.getD j 0=rs[j]:=by simp[List.getD_eq_getElem?_getD,hj]
 rw[e]
 exact h _ (List.getElem_mem hj)
section
variable {ws:List Int}{cs:List Cl}{U:Int}{ps:List (Int×Int)}{q:Nat→Bool}
end
theorem perm_sum:∀{l m:List Int},l.Perm m→l.sum=m.sum
 | _,_,.nil=>rfl
 | _,_,.cons x h=>by rw[List.sum_cons,List.sum_cons,perm_sum h]
 | _,_,.swap x y l=>by rw[List.sum_cons,List.sum_cons,List.sum_cons,List.sum_cons];omega
 | _,_,.trans a b=>(perm_sum a).trans (perm_sum b)
theorem sum_sub{I:List Nat}{n:Nat}{f:Nat→Int}(nd:I.Nodup)(lt:∀ i∈I,i < n)(z:∀ i,i < n→i∉I→f i=0):(I.map f).sum=((List.range n).map f).sum:=by
 have e:((List.range n).filter fun i=>decide (i∈I)).Perm I:=(List.perm_ext_iff_of_nodup (List.nodup_range.sublist List.filter_sublist) nd).mpr fun a=>by
  rw[List.mem_filter,List.mem_range,decide_eq_true_eq]
  exact⟨fun h=>h.2,fun h=>⟨lt a h,h⟩⟩
 rw[← perm_sum (e.map f),sum_if]
 refine congrArg List.sum (List.map_congr_left fun i hi=>?_)
 by_cases h:i∈I
 ·rw[decide_eq_true h,if_pos rfl]
 ·rw[decide_eq_false h,if_neg Bool.false_ne_true,z i (List.mem_range.mp hi) h]
structure Emb(I:List Nat)(cs ks:List Cl):Prop where
 nd:I.Nodup
 lt:∀ i∈I,i < cs.length
 len:ks.length=I.length
 cl:∀ j (h:j < I.length),ks[j]?=cs[I[j]]?
section
variable {I:List Nat}{cs ks:List Cl}{ws:List Int}{U U0:Int}{ps:List (Int×Int)}{q:Nat→Bool}
def atE(I:List Nat)(n j:Nat):Nat:=I.getD j n
def resP(I:List Nat)(ps:List (Int×Int)):List (Int×Int):=I.map fun i=>ps.getD i (0,1)
end
def lowC(r:Int)(cs:List Cl):List Cl:=cs.filter fun c=>decide (c.rk < r)
theorem mem_sub{j:Nat}{x:Int}:x∈Srt.sub j↔0≤x∧x < 6∧j.testBit x.toNat=true:=by
 unfold Srt.sub
 rw[List.mem_map]
 constructor
 ·rintro ⟨b,hb,rfl⟩
  obtain⟨h1,h2⟩:=List.mem_filter.mp hb
  have:=List.mem_range.mp h1
  have e:(Int.ofNat b).toNat=b:=rfl
  exact⟨Int.natCast_nonneg b,by show (b:Int) < 6;omega,by rw[e];exact h2⟩
 ·rintro ⟨h1,h2,h3⟩
  exact⟨x.toNat,List.mem_filter.mpr ⟨List.mem_range.mpr (by omega),h3⟩,by show ((x.toNat:Nat):Int)=x;omega⟩
theorem inn_iff{cs:List Cl}{hs:List Int}{i:Nat}:inn cs hs i=true↔∀ x∈heapP cs i,x∈hs:=by
 unfold inn lies
 rw[List.all_eq_true]
 exact⟨fun h x hx=>of_decide_eq_true (h x hx),fun h x hx=>decide_eq_true (h x hx)⟩
theorem mask(p:Nat→Bool):∀ n,∃ j,j < 2 ^ n∧∀ b,b < n→j.testBit b=p b
 | 0=>⟨0,by decide,fun b h=>by omega⟩
 | n+1=>by
  obtain⟨j,hj,h⟩:=mask p n
  cases e:p n with
  | false =>
   refine⟨j,by rw[Nat.pow_succ];omega,fun b hb=>?_⟩
   by_cases hbn:b < n
   ·exact h b hbn
   ·have:b=n:=by omega
    rw[this,e]
    exact Nat.testBit_lt_two_pow hj
  | true =>
   refine⟨2 ^ n+j,by rw[Nat.pow_succ];omega,fun b hb=>?_⟩
   by_cases hbn:b < n
   ·rw[Nat.testBit_two_pow_add_gt hbn]
    exact h b hbn
   ·have:b=n:=by omega
    rw[this,e,Nat.testBit_two_pow_add_eq,Nat.testBit_lt_two_pow hj]
    rfl
theorem worth_bits{ws:List Int}(w6:ws.length≤6)(j:Nat):worthOf ws (Srt.sub j)=((List.range ws.length).map fun b=>if j.testBit b=true then ws.getD b 0 else 0).sum:=by
 unfold worthOf Srt.sub
 rw[List.map_map]
 show (((List.range 6).filter fun b=>j.testBit b).map fun b=>ws.getD b 0).sum=_
 rw[sum_if]
 refine (sum_sub List.nodup_range (fun i hi=>?_) fun i hi hn=>?_).symm
 ·have:=List.mem_range.mp hi
  omega
 ·have hn:¬ i < ws.length:=fun z=>hn (List.mem_range.mpr z)
  have:ws.getD i 0=0:=by simp[List.getD_eq_getElem?_getD,Nat.le_of_not_lt hn]
  rw[this]
  split<;>rfl
def Dm(ws:List Int)(cs:List Cl)(ws':List Int)(cs':List Cl):Prop:=∀ j,j < 2 ^ ws.length→∃ j',j' < 2 ^ ws'.length∧(∀ i,inn cs (Srt.sub j) i=true→inn cs' (Srt.sub j') i=true)∧worthOf ws' (Srt.sub j')≤worthOf ws (Srt.sub j)
structure Tw(ws:List Int)(cs:List Cl)(ws':List Int)(cs':List Cl):Prop where
 len:cs'.length=cs.length
 due:∀ i,dueP cs' i=dueP cs i
 rk:∀ i,rkP cs' i=rkP cs i
 d1:Dm ws cs ws' cs'
 d2:Dm ws' cs' ws cs
section
variable {U0 U:Int}{ws ws':List Int}{cs cs':List Cl}{r:Nat}{ps:List (Int×Int)}{q:Nat→Bool}{lv:Int×Int}
end
theorem inn_bits{cs:List Cl}{j i m:Nat}(m6:m≤6)(hb:∀ x∈heapP cs i,0≤x∧x < (m:Int)):inn cs (Srt.sub j) i=true↔∀ x∈heapP cs i,j.testBit x.toNat=true:=by
 rw[inn_iff]
 refine⟨fun h x hx=>(mem_sub.mp (h x hx)).2.2,fun h x hx=>mem_sub.mpr ?_⟩
 have:=hb x hx
 exact⟨this.1,by omega,h x hx⟩
def both(a n:Nat)(c:Cl):Cl:=if (a:Int)∈c.hp then ⟨c.n,c.u,c.hp++[(n:Int)],c.rk⟩ else c
section
variable {U V U0:Int}{ws:List Int}{cs:List Cl}{ps ps':List (Int×Int)}{r:Nat}
theorem num_any{p:Int×Int}(h:Ok U p)(h':Ok V p):num U p*V=num V p*U:=by
 have a:=num_mul h
 have b:=num_mul h'
 refine Int.eq_of_mul_eq_mul_right (a:=p.2) (by have:=h.pos;omega) ?_
 have e1:num U p*V*p.2=p.1*U*V:=by rw[← a,Int.mul_assoc,Int.mul_assoc,Int.mul_comm V]
 have e2:num V p*U*p.2=p.1*V*U:=by rw[← b,Int.mul_assoc,Int.mul_assoc,Int.mul_comm U]
 rw[e1,e2,Int.mul_assoc,Int.mul_assoc,Int.mul_comm U]
theorem sum_cross{α:Type}{f g:α→Int}{u v:Int}:∀{l:List α},(∀ x∈l,f x*v=g x*u)→(l.map f).sum*v=(l.map g).sum*u
 | [],_=>by show (0:Int)*v=0*u;rw[Int.zero_mul,Int.zero_mul]
 | x::l,h=>by
  rw[List.map_cons,List.map_cons,List.sum_cons,List.sum_cons,Int.add_mul,Int.add_mul,h x List.mem_cons_self,sum_cross fun y hy=>h y (List.mem_cons_of_mem _ hy)]
def payN(V:Int)(cs:List Cl)(ps:List (Int×Int))(j:Nat):Int:=((List.range cs.length).map fun i=>if inn cs (Srt.sub j) i=true then num V (ps.getD i (0,1)) else 0).sum
structure Fit(V:Int)(ws:List Int)(cs:List Cl)(ps:List (Int×Int)):Prop where
 vp:0 < V
 ok:∀ i,i < cs.length→Ok V (ps.getD i (0,1))
 od:∀ i,i < cs.length→Ok V (dueP cs i)
 nn:∀ i,i < cs.length→0≤num V (ps.getD i (0,1))
 le:∀ i,i < cs.length→num V (ps.getD i (0,1))≤num V (dueP cs i)
 room:∀ j,j < 2 ^ ws.length→payN V cs ps j≤worthOf ws (Srt.sub j)*V
def Spt(V:Int)(ws:List Int)(cs:List Cl)(ps:List (Int×Int))(j:Nat):Prop:=payN V cs ps j=worthOf ws (Srt.sub j)*V
structure Stg(U:Int)(ws:List Int)(cs:List Cl)(zl:List Int)(ps:List (Int×Int)):Prop where
 out:∀ i,i < cs.length→rkP cs i∉zl→ps.getD i (0,1)=(0,1)
 full:∀ i,i < cs.length→rkP cs i∈zl→ps.getD i (0,1)=dueP cs i∨∃ j,j < 2 ^ ws.length∧inn cs (Srt.sub j) i=true∧Spt U ws cs ps j
end
section
variable {U V U0:Int}{ws:List Int}{cs:List Cl}{ps ps':List (Int×Int)}{q:Nat→Bool}{r:Nat}
variable {u:Int×Int}
end
section
variable {U V U0:Int}{ws:List Int}{cs:List Cl}{ps ps' fs os:List (Int×Int)}
theorem pay_filt{hs:List Int}{j:Nat}(e:hs=Srt.sub j):(((List.range cs.length).filter (inn cs hs)).map fun i=>num V (ps.getD i (0,1))).sum=payN V cs ps j:=by
 rw[sum_if,e]
 rfl
theorem pay_any{j:Nat}(ok:∀ i,i < cs.length→Ok U (ps.getD i (0,1)))(ok':∀ i,i < cs.length→Ok V (ps.getD i (0,1))):payN U cs ps j*V=payN V cs ps j*U:=by
 unfold payN
 refine sum_cross fun i hi=>?_
 split
 ·exact num_any (ok i (List.mem_range.mp hi)) (ok' i (List.mem_range.mp hi))
 ·rw[Int.zero_mul,Int.zero_mul]
end
theorem for_enumN{K:PySem.W.Frag}{a:Addr}{xs:List V}{g:TG}{tb:L2.TS}{D:Ends}{σ:St}{H:Hp}(Pv:Nat→St→Hp→Prop)(h0:Pv 0 σ H)(hl:∀ i σ H,i≤xs.length→Pv i σ H→SqL K H a xs)
  (hs:∀(i:Nat)(x:V)(p:Addr)(σ:St)(H H':Hp)(N B:St→Hp→Prop),xs[i]?=some x→H p=none→Same H H'→H' p=some (.tup [.int (i:Int),x])→Pv i σ H→(∀ σ' H',Pv (i+1) σ' H'→N σ' H')→(∀ σ' H',D.nx σ' H'→B σ' H')→g (.ref p) σ H' fun σ2 H2=>tb { nx:=N,rt:=D.rt,bk:=B,ct:=N } σ2 H2) (hd:∀ σ H,Pv xs.length σ H→D.nx σ H) :
  ∃ W:Nat→Nat→St→Hp→Prop,(∃ m,W 0 m σ H)∧∀ i m σ H,W i m σ H →
   ((Itn K a).stop i H∧D.nx σ H)∨((Itn K a).go i H∧∃ N:St→Hp→Prop,(∀ σ' H',N σ' H'→∃ m',m' < m∧W (i+1) m' σ' H')∧∀ x H',(Itn K a).yld i H x H'→g x σ H' fun σ2 H2=>tb { D with nx:=N,ct:=N,bk:=D.nx } σ2 H2):=by
 refine⟨fun i m σ H=>m=xs.length - i∧i≤xs.length∧Pv i σ H,⟨xs.length,by simp,Nat.zero_le _,h0⟩,?_⟩
 rintro i m σ H ⟨rfl,hi,p⟩
 have q:=hl i σ H hi p
 by_cases hlt:i < xs.length
 ·refine .inr ⟨⟨xs,xs[i],q,by simp[hlt]⟩,Pv (i+1),fun σ' H' p'=>⟨xs.length - (i+1),by omega,rfl,hlt,p'⟩,fun v H' y=>?_⟩
  obtain⟨pp,x,hn,y1,rfl,rfl⟩:=y
  exact hs i x pp σ H _ (Pv (i+1)) D.nx (y1 xs q) hn (Same.new hn) upd_same p (fun _ _ h=>h) fun _ _ h=>h
 ·have e:i=xs.length:=by omega
  subst e
  exact .inl ⟨⟨xs,q,rfl⟩,hd σ H p⟩
abbrev rsD(ws:List Int)(cs:List Cl)(ps:List (Int×Int)):Dt:=.tup [.lst (ws.map Dt.int),.lst (cs.map cD),.lst (ps.map pD)]
theorem cmp_rs{ws:List Int}{cs:List Cl}{ps:List (Int×Int)}:Cmp 8 (rsD ws cs ps) (rsD ws cs ps):=by
 have h1:=cmp_sh (ws:=ws) (cs:=cs)
 have h2:Cmp 7 (Dt.lst (ps.map pD)) (Dt.lst (ps.map pD)):=cmp_lst fun d hd=>by
  obtain⟨c,_,rfl⟩:=List.mem_map.mp hd
  exact cmp2 _ _ _ _
 unfold Cmp at h1 ⊢
 intro j d e h3 h4
 match j,h3,h4 with
 | 0,h3,h4=>exact h1 0 d e h3 h4
 | 1,h3,h4=>exact h1 1 d e h3 h4
 | 2,h3,h4 =>
  cases h3
  cases h4
  exact h2
 | j+3,h3,_=>simp at h3
def gdRow(m:Nat)(hs:List Int)(part:Int×Int)(row:List (Int×Int)):Prop:=row.length=m∧sumP row=part∧∀ k,k < row.length→0≤(row.getD k (0,1)).1∧(row.getD k (0,1)=(0,1)∨(k:Int)∈hs)
def colP(rss:List (List (Int×Int)))(f:Nat):List (Int×Int):=rss.map fun r=>r.getD f (0,1)
def gdTab(ws:List Int)(cs:List Cl)(ps:List (Int×Int))(rss:List (List (Int×Int))):Prop :=
 rss.length=cs.length∧(∀ i,i < cs.length→gdRow ws.length (heapP cs i) (ps.getD i (0,1)) (rss.getD i []))∧∀ f,f < ws.length→¬ ws.getD f 0*(sumP (colP rss f)).2 < (sumP (colP rss f)).1*1
def RsV(k:Nat)(H:Hp)(zs:List V)(rss:List (List (Int×Int))):Prop:=zs.length=rss.length∧∀(i:Nat) r,rss[i]?=some r→∃ l xs,zs[i]?=some (.ref l)∧H l=some (.lst xs)∧RowU UM k H xs r∧r.length≤12
structure Tz(B L W C P Z:Addr)(t:Nat)(ws:List Int)(xs:List V)(cs:List Cl)(ys:List V)(ps:List (Int×Int))(zs:List V)(rss:List (List (Int×Int)))(H:Hp):Prop where
 b:BagAt H B L
 w:H W=some (.lst (ws.map V.int))
 c:H C=some (.lst xs)
 hC:ClsAt H xs cs
 p:H P=some (.lst ys)
 hP:RowV H ys ps
 z:H Z=some (.lst zs)
 hZ:RowsAt [B,L,W,C,P,Z] UM (116+4*t) H zs rss
 wB:W≠B∧W≠L
 cB:C≠B∧C≠L
 pB:P≠B∧P≠L
 zB:Z≠B∧Z≠L
 wc:W≠C
 wp:W≠P
 wz:W≠Z
 cp:C≠P
 cz:C≠Z
 pz:P≠Z
 w6:ws.length≤6
 wsz:∀ x∈ws,0≤x∧Sz 150 x
 c16:cs.length≤16
 pl:ps.length=cs.length
 psz:∀ q∈ps,0 < q.2∧Sz (300+4*t) q.1∧Sz (300+4*t) q.2
 rn:rss.length≤16+t
 rlen:∀ r∈rss,r.length≤6+t
section
variable {B L W C P Z:Addr}{t:Nat}{ws ws':List Int}{xs:List V}{cs:List Cl}{ys ys':List V}{ps ps':List (Int×Int)}{zs zs':List V}{rss rss':List (List (Int×Int))}{H H':Hp}
end
def sm:Nat→(Nat→Int)→Int
 | 0,_=>0
 | n+1,g=>sm n g+g n
theorem sm_eq(g:Nat→Int):∀ n,((List.range n).map g).sum=sm n g
 | 0=>rfl
 | n+1=>by
  rw[List.range_succ,List.map_append,List.sum_append,sm_eq g n]
  simp[sm]
theorem sm_congr{f g:Nat→Int}:∀{n:Nat},(∀ i,i < n→f i=g i)→sm n f=sm n g
 | 0,_=>rfl
 | n+1,h=>by
  show sm n f+f n=sm n g+g n
  rw[sm_congr fun i hi=>h i (by omega),h n (by omega)]
theorem sm_le{f g:Nat→Int}:∀{n:Nat},(∀ i,i < n→f i≤g i)→sm n f≤sm n g
 | 0,_=>Int.le_refl _
 | n+1,h=>Int.add_le_add (sm_le fun i hi=>h i (by omega)) (h n (by omega))
theorem sm_zero:∀ n,sm n (fun _=>0)=0
 | 0=>rfl
 | n+1=>by
  show sm n _+0=0
  rw[sm_zero n]
  rfl
theorem sm_add(f g:Nat→Int):∀ n,sm n (fun i=>f i+g i)=sm n f+sm n g
 | 0=>rfl
 | n+1=>by
  show sm n _+(f n+g n)=sm n f+f n+(sm n g+g n)
  rw[sm_add f g n]
  omega
theorem sm_mul(f:Nat→Int)(c:Int):∀ n,sm n (fun i=>f i*c)=sm n f*c
 | 0=>by
  show (0:Int)=0*c
  rw[Int.zero_mul]
 | n+1=>by
  show sm n _+f n*c=(sm n f+f n)*c
  rw[sm_mul f c n,Int.add_mul]
theorem sm_put{f g:Nat→Int}{d:Int}:∀{n k:Nat},k < n→(∀ i,i < n→i≠k→g i=f i)→g k=f k+d→sm n g=sm n f+d
 | n+1,k,hk,h,hd=>by
  show sm n g+g n=sm n f+f n+d
  by_cases e:k=n
  ·subst e
   rw[sm_congr fun i hi=>h i (by omega) (by omega),hd]
   omega
  ·rw[sm_put (n:=n) (k:=k) (by omega) (fun i hi=>h i (by omega)) hd,h n (by omega) (by omega)]
   omega
theorem sm_swap(F:Nat→Nat→Int)(m:Nat):∀ n,sm n (fun p=>sm m fun f=>F p f)=sm m fun f=>sm n fun p=>F p f
 | 0=>(sm_zero m).symm
 | n+1=>by
  show sm n (fun p=>sm m fun f=>F p f)+sm m (fun f=>F n f)=sm m fun f=>sm n (fun p=>F p f)+F n f
  rw[sm_add,sm_swap F m n]
theorem sm_lt{f g:Nat→Int}{n k:Nat}(hk:k < n)(h:∀ i,i < n→f i≤g i)(hs:f k < g k):sm n f < sm n g:=by
 have h1:sm n (fun i=>if i=k then f k+1 else f i)≤sm n g:=sm_le fun i hi=>by
  by_cases e:i=k
  ·rw[if_pos e,e]
   omega
  ·rw[if_neg e]
   exact h i hi
 have h2:=sm_put (f:=f) (g:=fun i=>if i=k then f k+1 else f i) (d:=1) hk (fun i _ hi=>if_neg hi) (if_pos rfl)
 omega
theorem sm_ge{f:Nat→Int}{n k:Nat}(hk:k < n)(h:∀ i,i < n→0≤f i):f k≤sm n f:=by
 have h1:sm n (fun i=>if i=k then f k else 0)≤sm n f:=sm_le fun i hi=>by
  by_cases e:i=k
  ·rw[if_pos e,e]
   exact Int.le_refl _
  ·rw[if_neg e]
   exact h i hi
 have h2:=sm_put (f:=fun _=>0) (g:=fun i=>if i=k then f k else 0) (d:=f k) hk (fun i _ hi=>if_neg hi) (by simp)
 rw[sm_zero] at h2
 omega
def up2(R:Nat→Nat→Int)(p f:Nat)(v:Int):Nat→Nat→Int:=fun p' f'=>if p'=p∧f'=f then v else R p' f'
theorem up2_same{R:Nat→Nat→Int}{p f:Nat}{v:Int}:up2 R p f v p f=v:=if_pos ⟨rfl,rfl⟩
theorem up2_ne{R:Nat→Nat→Int}{p f p' f':Nat}{v:Int}(h:¬ (p'=p∧f'=f)):up2 R p f v p' f'=R p' f':=if_neg h
theorem up2_row{R:Nat→Nat→Int}{p f p' m:Nat}{d:Int}(hf:f < m):sm m (up2 R p f (R p f+d) p')=sm m (R p')+if p'=p then d else 0:=by
 by_cases e:p'=p
 ·subst e
  rw[if_pos rfl]
  exact sm_put hf (fun i _ hi=>up2_ne fun z=>hi z.2) up2_same
 ·rw[if_neg e,Int.add_zero]
  exact sm_congr fun i _=>up2_ne fun z=>e z.1
theorem up2_col{R:Nat→Nat→Int}{p f f' n:Nat}{d:Int}(hp:p < n):(sm n fun p'=>up2 R p f (R p f+d) p' f')=(sm n fun p'=>R p' f')+if f'=f then d else 0:=by
 by_cases e:f'=f
 ·subst e
  rw[if_pos rfl]
  exact sm_put hp (fun i _ hi=>up2_ne fun z=>hi z.1) up2_same
 ·rw[if_neg e,Int.add_zero]
  exact sm_congr fun i _=>up2_ne fun z=>e z.2
structure Flo(n m:Nat)(R:Nat→Nat→Int)(Lf:Nat→Int)(tch:Nat→List Int)(cap:Nat→Int):Prop where
 nn:∀ p f,p < n→f < m→0≤R p f
 ln:∀ f,f < m→0≤Lf f
 out:∀ p f,p < n→f < m→R p f≠0→(f:Int)∈tch p
 col:∀ f,f < m→Lf f+(sm n fun p=>R p f)=cap f
abbrev cP(ch:List (Nat×Nat))(i:Nat):Nat:=(ch.getD i (0,0)).1
abbrev cF(ch:List (Nat×Nat))(i:Nat):Nat:=(ch.getD i (0,0)).2
structure Chn(n m:Nat)(R:Nat→Nat→Int)(tch:Nat→List Int)(place:Nat)(ch:List (Nat×Nat)):Prop where
 ne:0 < ch.length
 hd:cP ch 0=place
 lt:∀ i,i < ch.length→cP ch i < n∧cF ch i < m
 tc:∀ i,i < ch.length→(cF ch i:Int)∈tch (cP ch i)
 st:∀ i,i+1 < ch.length→0 < R (cP ch (i+1)) (cF ch i)
 nd:∀ i j,i < j→j < ch.length→cF ch i≠cF ch j
section
variable {n m place:Nat}{R Ri:Nat→Nat→Int}{Lf:Nat→Int}{tch:Nat→List Int}{cap:Nat→Int}{ch:List (Nat×Nat)}{a:Int}{i:Nat}
theorem getD_snoc{α:Type}{l:List α}{x d:α}{i:Nat}:(l++[x]).getD i d=if i < l.length then l.getD i d else if i=l.length then x else d:=by
 rw[List.getD_eq_getElem?_getD]
 by_cases h:i < l.length
 ·rw[if_pos h,List.getElem?_append_left h,List.getD_eq_getElem?_getD]
 ·rw[if_neg h,List.getElem?_append_right (by omega)]
  by_cases e:i=l.length
  ·rw[if_pos e,e,Nat.sub_self]
   rfl
  ·rw[if_neg e,List.getElem?_eq_none (by simp;omega)]
   rfl
theorem Chn.one{f:Nat}(hp:place < n)(hf:f < m)(ht:(f:Int)∈tch place):Chn n m R tch place [(place,f)]:=by
 refine⟨Nat.one_pos,rfl,fun i hi=>?_,fun i hi=>?_,fun i hi=>?_,fun i j h hj=>?_⟩
 ·have:i=0:=by simpa using hi
  subst this
  exact⟨hp,hf⟩
 ·have:i=0:=by simpa using hi
  subst this
  exact ht
 ·simp at hi
 ·simp at hj
  omega
theorem Chn.snoc{s:Nat×Nat}(c:Chn n m R tch place ch)(h1:s.1 < n)(h2:s.2 < m)(h3:(s.2:Int)∈tch s.1)(h4:0 < R s.1 (cF ch (ch.length - 1)))(h5:∀ i,i < ch.length→cF ch i≠s.2):Chn n m R tch place (ch++[s]):=by
 have ne:=c.ne
 have e1:∀ i,i < ch.length→(ch++[s]).getD i (0,0)=ch.getD i (0,0):=fun i hi=>by rw[getD_snoc,if_pos hi]
 have e2:(ch++[s]).getD ch.length (0,0)=s:=by rw[getD_snoc,if_neg (by omega),if_pos rfl]
 have el:(ch++[s]).length=ch.length+1:=by simp
 refine⟨by omega,?_,fun i hi=>?_,fun i hi=>?_,fun i hi=>?_,fun i j h hj=>?_⟩
 ·show ((ch++[s]).getD 0 (0,0)).1=place
  rw[e1 0 ne]
  exact c.hd
 ·show ((ch++[s]).getD i (0,0)).1 < n∧((ch++[s]).getD i (0,0)).2 < m
  by_cases e:i < ch.length
  ·rw[e1 i e]
   exact c.lt i e
  ·rw[show i=ch.length by omega,e2]
   exact⟨h1,h2⟩
 ·show (((ch++[s]).getD i (0,0)).2:Int)∈tch ((ch++[s]).getD i (0,0)).1
  by_cases e:i < ch.length
  ·rw[e1 i e]
   exact c.tc i e
  ·rw[show i=ch.length by omega,e2]
   exact h3
 ·show 0 < R ((ch++[s]).getD (i+1) (0,0)).1 ((ch++[s]).getD i (0,0)).2
  rw[e1 i (by omega)]
  by_cases e:i+1 < ch.length
  ·rw[e1 _ e]
   exact c.st i e
  ·rw[show i+1=ch.length by omega,e2]
   have:i=ch.length - 1:=by omega
   rw[this]
   exact h4
 ·show ((ch++[s]).getD i (0,0)).2≠((ch++[s]).getD j (0,0)).2
  rw[e1 i (by omega)]
  by_cases e:j < ch.length
  ·rw[e1 j e]
   exact c.nd i j h e
  ·rw[show j=ch.length by omega,e2]
   exact h5 i (by omega)
structure Mv(n m:Nat)(R:Nat→Nat→Int)(tch:Nat→List Int)(place:Nat)(ch:List (Nat×Nat))(a:Int)(i:Nat)(Ri:Nat→Nat→Int):Prop where
 nn:∀ p f,p < n→f < m→0≤Ri p f
 ge:∀ p f,(∀ k,k < i→cF ch k≠f)→R p f≤Ri p f
 out:∀ p f,p < n→f < m→Ri p f≠0→(f:Int)∈tch p
 row:∀ p,p < n→sm m (Ri p)=sm m (R p)+if p=place then a else 0
 col:∀ f,f < m→(sm n fun p=>Ri p f)=(sm n fun p=>R p f)+if f=cF ch i then a else 0
theorem Mv.start(fl:Flo n m R Lf tch cap)(c:Chn n m R tch place ch)(a0:0≤a):Mv n m R tch place ch a 0 (up2 R (cP ch 0) (cF ch 0) (R (cP ch 0) (cF ch 0)+a)):=by
 obtain⟨l1,l2⟩:=c.lt 0 c.ne
 refine⟨fun p f hp hf=>?_,fun p f _=>?_,fun p f hp hf h=>?_,fun p hp=>?_,fun f hf=>?_⟩
 ·by_cases e:p=cP ch 0∧f=cF ch 0
  ·rw[e.1,e.2,up2_same]
   have:=fl.nn _ _ l1 l2
   omega
  ·rw[up2_ne e]
   exact fl.nn p f hp hf
 ·by_cases e:p=cP ch 0∧f=cF ch 0
  ·rw[e.1,e.2,up2_same]
   omega
  ·rw[up2_ne e]
   exact Int.le_refl _
 ·by_cases e:p=cP ch 0∧f=cF ch 0
  ·rw[e.1,e.2]
   exact c.tc 0 c.ne
  ·rw[up2_ne e] at h
   exact fl.out p f hp hf h
 ·rw[up2_row l2,c.hd]
 ·exact up2_col l1
theorem Mv.step(fl:Flo n m R Lf tch cap)(c:Chn n m R tch place ch)(a0:0≤a)(hi:i+1 < ch.length)(ha:a≤R (cP ch (i+1)) (cF ch i))(x:Mv n m R tch place ch a i Ri)(R1:Nat→Nat→Int)(e1:R1=up2 Ri (cP ch (i+1)) (cF ch i) (Ri (cP ch (i+1)) (cF ch i) - a)):Mv n m R tch place ch a (i+1) (up2 R1 (cP ch (i+1)) (cF ch (i+1)) (R1 (cP ch (i+1)) (cF ch (i+1))+a)):=by
 obtain⟨l1,l2⟩:=c.lt (i+1) hi
 obtain⟨l3,l4⟩:=c.lt i (by omega)
 have nd:=c.nd i (i+1) (by omega) hi
 have ge:=x.ge (cP ch (i+1)) (cF ch i) fun k hk=>c.nd k i hk (by omega)
 have r1n:∀ p f,p < n→f < m→0≤R1 p f:=fun p f hp hf=>by
  rw[e1]
  by_cases e:p=cP ch (i+1)∧f=cF ch i
  ·rw[e.1,e.2,up2_same]
   omega
  ·rw[up2_ne e]
   exact x.nn p f hp hf
 refine⟨fun p f hp hf=>?_,fun p f h=>?_,fun p f hp hf h=>?_,fun p hp=>?_,fun f hf=>?_⟩
 ·by_cases e:p=cP ch (i+1)∧f=cF ch (i+1)
  ·rw[e.1,e.2,up2_same]
   have:=r1n _ _ l1 l2
   omega
  ·rw[up2_ne e]
   exact r1n p f hp hf
 ·have h0:f≠cF ch i:=fun z=>h i (by omega) z.symm
  have h1:=x.ge p f fun k hk=>h k (by omega)
  have h2:∀ p,R1 p f=Ri p f:=fun p=>by rw[e1,up2_ne fun z=>h0 z.2]
  by_cases e:p=cP ch (i+1)∧f=cF ch (i+1)
  ·rw[← e.1,← e.2,up2_same,h2]
   omega
  ·rw[up2_ne e,h2]
   exact h1
 ·by_cases e:p=cP ch (i+1)∧f=cF ch (i+1)
  ·rw[e.1,e.2]
   exact c.tc _ hi
  ·rw[up2_ne e] at h
   refine x.out p f hp hf fun z=>h ?_
   rw[e1]
   by_cases e2:p=cP ch (i+1)∧f=cF ch i
   ·exfalso
    have h1:=x.nn p f hp hf
    rw[e1,e2.1,e2.2,up2_same] at h
    rw[← e2.1,← e2.2] at h ge
    have:a≤R p f:=by rw[e2.1,e2.2];exact ha
    omega
   ·rw[up2_ne e2]
    exact z
 ·rw[up2_row l2,e1,Int.sub_eq_add_neg,up2_row l4,x.row p hp]
  by_cases e:p=cP ch (i+1)
  ·rw[if_pos e,if_pos e]
   omega
  ·rw[if_neg e,if_neg e]
   omega
 ·rw[up2_col l1,e1,Int.sub_eq_add_neg,up2_col l1,x.col f hf]
  by_cases e:f=cF ch i
  ·rw[if_pos e,if_pos e,if_neg (by rw[e];exact nd)]
   omega
  ·rw[if_neg e,if_neg e]
   omega
theorem Flo.move(fl:Flo n m R Lf tch cap)(c:Chn n m R tch place ch)(x:Mv n m R tch place ch a (ch.length - 1) Ri)(ha:a≤Lf (cF ch (ch.length - 1))):Flo n m Ri (fun f=>if f=cF ch (ch.length - 1) then Lf (cF ch (ch.length - 1)) - a else Lf f) tch cap:=by
 refine⟨x.nn,fun f hf=>?_,x.out,fun f hf=>?_⟩
 ·by_cases e:f=cF ch (ch.length - 1)
  ·rw[if_pos e]
   omega
  ·rw[if_neg e]
   exact fl.ln f hf
 ·have h:=fl.col f hf
  rw[x.col f hf]
  by_cases e:f=cF ch (ch.length - 1)
  ·rw[if_pos e,if_pos e,← e]
   omega
  ·rw[if_neg e,if_neg e]
   omega
theorem Flo.stuck(fl:Flo n m R Lf tch cap){nm:Nat→Int}(hr:∀ p,p < n→sm m (R p)≤nm p)(hp:place < n)(lk:sm m (R place) < nm place)(S:Nat→Bool)(s0:∀ f,f < m→S f=true→Lf f≤0)(cl:∀ p f,p < n→f < m→S f=true→0 < R p f→∀ x∈tch p,S x.toNat=true)(ht:∀ x∈tch place,S x.toNat=true):(sm m fun f=>if S f=true then cap f else 0) < sm n fun p=>if (tch p).all (fun x=>S x.toNat)=true then nm p else 0:=by
 have e1:(sm m fun f=>if S f=true then cap f else 0)=sm m fun f=>sm n fun p=>if S f=true then R p f else 0:=sm_congr fun f hf=>by
  cases e:S f with
  | true =>
   have h1:=fl.col f hf
   have h2:=fl.ln f hf
   have h3:=s0 f hf e
   rw[if_pos rfl]
   have:(sm n fun p=>if true=true then R p f else 0)=sm n fun p=>R p f:=sm_congr fun p _=>if_pos rfl
   rw[this]
   omega
  | false =>
   rw[if_neg Bool.false_ne_true]
   have:(sm n fun p=>if false=true then R p f else 0)=sm n fun _=>0:=sm_congr fun p _=>if_neg Bool.false_ne_true
   rw[this,sm_zero]
 rw[e1,← sm_swap (fun p f=>if S f=true then R p f else 0) m n]
 have le:∀ p,p < n→(sm m fun f=>if S f=true then R p f else 0)≤sm m (R p):=fun p hp=>sm_le fun f hf=>by
  cases S f with
  | true=>rw[if_pos rfl];exact Int.le_refl _
  | false=>rw[if_neg Bool.false_ne_true];exact fl.nn p f hp hf
 have al:∀ p,(∀ x∈tch p,S x.toNat=true)→(tch p).all (fun x=>S x.toNat)=true:=fun p h=>List.all_eq_true.mpr h
 refine sm_lt hp (fun p hp=>?_) ?_
 ·cases e:(tch p).all fun x=>S x.toNat with
  | true =>
   rw[if_pos rfl]
   exact Int.le_trans (le p hp) (hr p hp)
  | false =>
   rw[if_neg Bool.false_ne_true]
   have:(sm m fun f=>if S f=true then R p f else 0)=sm m fun _=>0:=sm_congr fun f hf=>by
    cases e2:S f with
    | false=>exact if_neg Bool.false_ne_true
    | true =>
     rw[if_pos rfl]
     by_cases z:R p f=0
     ·exact z
     ·have h1:=fl.nn p f hp hf
      have h2:=al p (cl p f hp hf e2 (by omega))
      rw[e] at h2
      cases h2
   rw[this,sm_zero]
   exact Int.le_refl _
 ·rw[if_pos (al place ht)]
  exact Int.lt_of_le_of_lt (le place hp) lk
end
structure Bf(n m:Nat)(R:Nat→Nat→Int)(Lf:Nat→Int)(tch:Nat→List Int)(place:Nat)(chs:List (List (Nat×Nat)))(rs:List Int)(a:Nat):Prop where
 len:chs.length=rs.length
 ok:∀ i,i < chs.length→Chn n m R tch place (chs.getD i [])∧(cF (chs.getD i []) ((chs.getD i []).length - 1):Int)=rs.getD i 0∧(∀ k,k < (chs.getD i []).length→(cF (chs.getD i []) k:Int)∈rs)∧(chs.getD i []).length≤i+1
 bd:∀ x∈rs,0≤x∧x < (m:Int)
 st:∀ x∈tch place,x∈rs
 dn:∀ i,i < a→Lf (rs.getD i 0).toNat≤0∧∀ p,p < n→0 < R p (rs.getD i 0).toNat→∀ x∈tch p,x∈rs
 le:a≤rs.length
 cnt:(rs.length:Int)+sm m (fun f=>if (f:Int)∈rs then 0 else 1)≤12
section
variable {n m place:Nat}{R:Nat→Nat→Int}{Lf:Nat→Int}{tch:Nat→List Int}{chs:List (List (Nat×Nat))}{rs:List Int}{a:Nat}
theorem sm_one:∀ n:Nat,sm n (fun _=>1)=(n:Int)
 | 0=>rfl
 | n+1=>by
  show sm n _+1=_
  rw[sm_one n]
  omega
theorem Bf.start(hp:place < n)(m6:m≤6)(hb:(tch place).length≤6∧∀ x∈tch place,0≤x∧x < (m:Int)):Bf n m R Lf tch place ((tch place).map fun x=>[(place,x.toNat)]) (tch place) 0:=by
 refine⟨List.length_map _,fun i hi=>?_,hb.2,fun x hx=>hx,fun i hi=>by omega,Nat.zero_le _,?_⟩
 ·rw[List.length_map] at hi
  have e:((tch place).map fun x=>[(place,x.toNat)]).getD i []=[(place,(tch place)[i].toNat)]:=by simp[List.getD_eq_getElem?_getD,hi]
  have e2:(tch place).getD i 0=(tch place)[i]:=by simp[List.getD_eq_getElem?_getD,hi]
  have hm:=List.getElem_mem hi
  have b:=hb.2 _ hm
  rw[e,e2]
  generalize (tch place)[i]=x at hm b
  have en:((x.toNat:Nat):Int)=x:=Int.toNat_of_nonneg b.1
  refine⟨Chn.one hp (by omega) (by rw[en];exact hm),en,fun k hk=>?_,by show 1≤i+1;omega⟩
  have:k=0:=by simpa using hk
  subst this
  show ((x.toNat:Nat):Int)∈_
  rw[en]
  exact hm
 ·have h:sm m (fun f=>if (f:Int)∈tch place then 0 else 1)≤sm m fun _=>1:=sm_le fun i _=>by split<;>omega
  rw[sm_one] at h
  have:=hb.1
  omega
theorem Bf.more{s:Nat×Nat}(b:Bf n m R Lf tch place chs rs a)(ha:a < chs.length)(h1:s.1 < n)(h2:s.2 < m)(h3:(s.2:Int)∈tch s.1)(h4:0 < R s.1 (rs.getD a 0).toNat)(h5:(s.2:Int)∉rs):Bf n m R Lf tch place (chs++[chs.getD a []++[s]]) (rs++[(s.2:Int)]) a:=by
 obtain⟨o1,o2,o3,o4⟩:=b.ok a ha
 have len:=b.len
 have e2:∀ i,i < rs.length→(rs++[(s.2:Int)]).getD i 0=rs.getD i 0:=fun i hi=>by rw[getD_snoc,if_pos hi]
 refine⟨by rw[List.length_append,List.length_append,len];rfl,fun i hi=>?_,fun x hx=>?_,fun x hx=>List.mem_append_left _ (b.st x hx),fun i hi=>?_,by rw[List.length_append];have:=b.le;omega,?_⟩
 ·by_cases e:i < chs.length
  ·rw[getD_snoc,if_pos e,e2 i (by omega)]
   obtain⟨k1,k2,k3,k4⟩:=b.ok i e
   exact⟨k1,k2,fun k hk=>List.mem_append_left _ (k3 k hk),k4⟩
  ·have hl:(chs++[chs.getD a []++[s]]).length=chs.length+1:=by rw[List.length_append];rfl
   have e:i=chs.length:=by omega
   subst e
   rw[getD_snoc,if_neg (by omega),if_pos rfl,len,getD_snoc,if_neg (by omega),if_pos rfl]
   generalize chs.getD a []=ch at o1 o2 o3 o4
   have el:(ch++[s]).length - 1=ch.length:=by simp
   refine⟨o1.snoc h1 h2 h3 ?_ fun k hk z=>h5 (by rw[← z];exact o3 k hk),?_,fun k hk=>?_,?_⟩
   ·have:cF ch (ch.length - 1)=(rs.getD a 0).toNat:=by rw[← o2,Int.toNat_natCast]
    rw[this]
    exact h4
   ·show (((ch++[s]).getD _ (0,0)).2:Int)=_
    rw[el,getD_snoc,if_neg (by omega),if_pos rfl]
   ·show (((ch++[s]).getD k (0,0)).2:Int)∈_
    rw[getD_snoc]
    by_cases e:k < ch.length
    ·rw[if_pos e]
     exact List.mem_append_left _ (o3 k e)
    ·have hk2:(ch++[s]).length=ch.length+1:=by simp
     rw[if_neg e,if_pos (by omega)]
     exact List.mem_append_right _ List.mem_cons_self
   ·simp
    omega
 ·rcases List.mem_append.mp hx with hx | hx
  ·exact b.bd x hx
  ·rw[List.mem_singleton.mp hx]
   omega
 ·have:=b.le
  rw[e2 i (by omega)]
  obtain⟨k1,k2⟩:=b.dn i hi
  exact⟨k1,fun p hp h x hx=>List.mem_append_left _ (k2 p hp h x hx)⟩
 ·have h:=sm_put (f:=fun f:Nat=>if (f:Int)∈rs then (0:Int) else 1) (g:=fun f:Nat=>if (f:Int)∈rs++[(s.2:Int)] then (0:Int) else 1) (d:=-1) h2 (fun i _ hi=>by
   have:(i:Int)∈rs++[(s.2:Int)]↔(i:Int)∈rs:=by
    constructor
    ·intro h
     rcases List.mem_append.mp h with h | h
     ·exact h
     ·have:=List.mem_singleton.mp h
      omega
    ·exact List.mem_append_left _
   simp only[this]) (by
   rw[if_neg h5,if_pos (List.mem_append_right _ List.mem_cons_self)]
   decide)
  have:=b.cnt
  rw[List.length_append]
  show ((rs.length+1:Nat):Int)+_≤12
  omega
theorem Bf.next(b:Bf n m R Lf tch place chs rs a)(ha:a < chs.length)(h1:Lf (rs.getD a 0).toNat≤0)(h2:∀ p,p < n→0 < R p (rs.getD a 0).toNat→∀ x∈tch p,x∈rs):Bf n m R Lf tch place chs rs (a+1) :=
 ⟨b.len,b.ok,b.bd,b.st,fun i hi=>by
  by_cases e:i < a
  ·exact b.dn i e
  ·rw[show i=a by omega]
   exact⟨h1,h2⟩,by have:=b.len;omega,b.cnt⟩
theorem Bf.le12(b:Bf n m R Lf tch place chs rs a):chs.length≤12:=by
 have h:sm m (fun _=>0)≤sm m (fun f=>if (f:Int)∈rs then 0 else 1):=sm_le fun i _=>by split<;>omega
 rw[sm_zero] at h
 have:=b.cnt
 have:=b.len
 omega
end
def rowV(m:Nat)(g:Nat→Int):List V:=(List.range m).map fun f=>V.int (g f)
theorem rowV_len{m:Nat}{g:Nat→Int}:(rowV m g).length=m:=by
 unfold rowV
 rw[List.length_map,List.length_range]
theorem rowV_get{m f:Nat}{g:Nat→Int}(h:f < m):(rowV m g)[f]?=some (.int (g f)):=by
 unfold rowV
 rw[List.getElem?_map,List.getElem?_range h]
 rfl
theorem rowV_at{m f:Nat}{g:Nat→Int}(h:f < m):atI (rowV m g) (f:Int)=some (.int (g f)):=atI_nat (rowV_get h)
theorem rowV_congr{m:Nat}{g h:Nat→Int}(e:∀ f,f < m→g f=h f):rowV m g=rowV m h:=List.map_congr_left fun f hf=>by rw[e f (List.mem_range.mp hf)]
theorem rowV_set{m f:Nat}{g:Nat→Int}{v:Int}(hf:f < m):(rowV m g).set f (.int v)=rowV m fun k=>if k=f then v else g k:=by
 apply List.ext_getElem?
 intro i
 rw[List.getElem?_set]
 by_cases hi:i < m
 ·by_cases e:f=i
  ·subst e
   rw[if_pos rfl,rowV_len,if_pos hi,rowV_get hi,if_pos rfl]
  ·rw[if_neg e,rowV_get hi,rowV_get hi,if_neg (Ne.symm e)]
 ·rw[List.getElem?_eq_none (by rw[rowV_len];omega),if_neg (by omega),List.getElem?_eq_none (by rw[rowV_len];omega)]
theorem rowV_up{m p f:Nat}{R:Nat→Nat→Int}{v:Int}(hf:f < m):(rowV m (R p)).set f (.int v)=rowV m (up2 R p f v p):=by
 rw[rowV_set hf]
 refine rowV_congr fun k _=>?_
 by_cases e:k=f
 ·rw[if_pos e,e,up2_same]
 ·rw[if_neg e,up2_ne fun z=>e z.2]
theorem none_back{H H':Hp}{a:Addr}(s:Same H H')(h:H' a=none):H a=none:=by
 cases e:H a with
 | none=>rfl
 | some o=>rw[s _ _ e] at h;cases h
theorem rep_row0:∀ n:Nat,(List.replicate n [V.int 0]).flatten=rowV n fun _=>0
 | 0=>rfl
 | n+1=>by
  rw[List.replicate_succ',List.flatten_append,rep_row0 n]
  unfold rowV
  rw[List.range_succ,List.map_append]
  rfl
def IRw(X:List Addr)(n m:Nat)(H:Hp)(zs:List V)(R:Nat→Nat→Int):Prop:=zs.length=n∧zs.Nodup∧∀ p,p < n→∃ l,zs[p]?=some (.ref l)∧H l=some (.lst (rowV m (R p)))∧l∉X
def FrZ(zs:List V)(lf:Addr)(H H':Hp):Prop:=∀ a o,a≠lf→V.ref a∉zs→H a=some o→H' a=some o
section
variable {zs:List V}{lf c r:Addr}{H H' H'':Hp}{n m:Nat}{R:Nat→Nat→Int}{Lf:Nat→Int}{xs:List V}{cs:List Cl}
theorem FrZ.of(s:Same H H'):FrZ zs lf H H':=fun a o _ _ e=>s a o e
theorem FrZ.trans(f:FrZ zs lf H H')(g:FrZ zs lf H' H''):FrZ zs lf H H'':=fun a o h1 h2 e=>g a o h1 h2 (f a o h1 h2 e)
theorem FrZ.row{l:Addr}(h:V.ref l∈zs)(f:Fr1 l H H'):FrZ zs lf H H':=fun a o _ h2 e=>f a o (fun z=>h2 (by rw[z];exact h)) e
theorem FrZ.left(f:Fr1 lf H H'):FrZ zs lf H H':=fun a o h1 _ e=>f a o h1 e
theorem FrZ.same(g:FrZ zs lf H' H'')(s:Same H H')(n1:H lf=none)(n2:∀ a,V.ref a∈zs→H a=none):Same H H'':=fun a o e=>g a o (fun z=>by rw[z,n1] at e;cases e) (fun z=>by rw[n2 a z] at e;cases e) (s a o e)
structure Tq(ac ar al:Addr)(xs:List V)(cs:List Cl)(zs:List V)(m:Nat)(R:Nat→Nat→Int)(Lf:Nat→Int)(H:Hp):Prop where
 c:H ac=some (.lst xs)
 hC:ClsAt H xs cs
 r:H ar=some (.lst zs)
 hR:IRw [ac,ar,al] cs.length m H zs R
 l:H al=some (.lst (rowV m Lf))
 cr:ac≠ar
 cl:ac≠al
 rl:ar≠al
theorem Tq.same(x:Tq c r lf xs cs zs m R Lf H)(s:Same H H'):Tq c r lf xs cs zs m R Lf H' :=
 {x with c:=s _ _ x.c,hC:=x.hC.ts (TS.of s),r:=s _ _ x.r,l:=s _ _ x.l,hR:=⟨x.hR.1,x.hR.2.1,fun p hp=>by
   obtain⟨l,e,h,n⟩:=x.hR.2.2 p hp
   exact⟨l,e,s _ _ h,n⟩⟩ }
theorem Tq.putL{Lf':Nat→Int}(x:Tq c r lf xs cs zs m R Lf H)(f:Fr1 lf H H')(h:H' lf=some (.lst (rowV m Lf'))):Tq c r lf xs cs zs m R Lf' H' :=
 {x with c:=f _ _ x.cl x.c,hC:=x.hC.ts (TS.frl x.l f),r:=f _ _ x.rl x.r,l:=h,hR:=⟨x.hR.1,x.hR.2.1,fun p hp=>by
   obtain⟨l,e,h,n⟩:=x.hR.2.2 p hp
   exact⟨l,e,f _ _ (fun z=>n (by rw[z];simp)) h,n⟩⟩ }
theorem Tq.putR{p f:Nat}{l:Addr}{v:Int}(x:Tq c r lf xs cs zs m R Lf H)(hp:p < cs.length)(e:zs[p]?=some (.ref l))(hl:H l=some (.lst (rowV m (R p))))(nX:l∉[c,r,lf])(fr:Fr1 l H H')(h:H' l=some (.lst (rowV m (up2 R p f v p)))):Tq c r lf xs cs zs m (up2 R p f v) Lf H':=by
 simp only[List.mem_cons,List.not_mem_nil,or_false,not_or] at nX
 obtain⟨n1,n2,n3⟩:=nX
 refine { x with c:=fr _ _ (Ne.symm n1) x.c,hC:=x.hC.ts (TS.frl hl fr),r:=fr _ _ (Ne.symm n2) x.r,l:=fr _ _ (Ne.symm n3) x.l,hR:=⟨x.hR.1,x.hR.2.1,fun q hq=>?_⟩ }
 by_cases e2:q=p
 ·subst e2
  exact⟨l,e,h,by simp[n1,n2,n3]⟩
 ·obtain⟨l2,k1,k2,k3⟩:=x.hR.2.2 q hq
  have ne:l2≠l:=fun z=>by
   subst z
   have li:q < zs.length:=(List.getElem?_eq_some_iff.mp k1).1
   exact e2 ((List.getElem?_inj li x.hR.2.1).mp (k1.trans e.symm))
  have er:rowV m (up2 R p f v q)=rowV m (R q):=rowV_congr fun k _=>up2_ne fun z=>e2 z.1
  exact⟨l2,k1,by rw[er];exact fr _ _ ne k2,k3⟩
theorem Tq.row(x:Tq c r lf xs cs zs m R Lf H){p:Nat}(hp:p < cs.length):∃ l,atI zs (p:Int)=some (.ref l)∧H l=some (.lst (rowV m (R p)))∧zs[p]?=some (.ref l)∧l∉[c,r,lf]∧V.ref l∈zs:=by
 obtain⟨l,e,h,n⟩:=x.hR.2.2 p hp
 exact⟨l,atI_nat e,h,e,n,List.mem_of_getElem? e⟩
theorem Tq.cl'(x:Tq c r lf xs cs zs m R Lf H){p:Nat}(hp:p < cs.length):∃ rc pc kc,atI xs (p:Int)=some (.ref rc)∧H rc=some (.tup [.ref pc,.ref kc,.int cs[p].rk])∧H kc=some (.tup ((heapP cs p).map V.int)):=by
 obtain⟨v,ev,rc,pc,kc,rfl,e1,e2,e3⟩:=x.hC.2 p cs[p] (List.getElem?_eq_getElem hp)
 exact⟨rc,pc,kc,atI_nat ev,e1,by rw[heapP_at hp];exact e3⟩
end
theorem RowV.app{H:Hp}{vs ws:List V}{ps qs:List (Int×Int)}(h:RowV H vs ps)(g:RowV H ws qs):RowV H (vs++ws) (ps++qs):=by
 refine⟨by rw[List.length_append,List.length_append,h.1,g.1],fun i p hp=>?_⟩
 by_cases hi:i < ps.length
 ·rw[List.getElem?_append_left hi] at hp
  rw[List.getElem?_append_left (by rw[h.1];exact hi)]
  exact h.2 i p hp
 ·rw[List.getElem?_append_right (by omega)] at hp
  rw[List.getElem?_append_right (by rw[h.1];omega),h.1]
  exact g.2 _ p hp
abbrev ic(s:Nat×Nat):Int×Int:=((s.1:Int),(s.2:Int))
theorem ic_at{H:Hp}{ts:List V}{ch:List (Nat×Nat)}{i:Nat}(h:RowV H ts (ch.map ic))(hi:i < ch.length):∃ q,ts[i]?=some (.ref q)∧atI ts (i:Int)=some (.ref q)∧H q=some (.tup [.int (cP ch i:Int),.int (cF ch i:Int)]):=by
 obtain⟨q,e,hq⟩:=h.2 i (ic ch[i]) (by rw[List.getElem?_map,List.getElem?_eq_getElem hi];rfl)
 have e2:ch.getD i (0,0)=ch[i]:=by simp[List.getD_eq_getElem?_getD,hi]
 exact⟨q,e,atI_nat e,by show H q=some (.tup [.int ((ch.getD i (0,0)).1:Int),.int ((ch.getD i (0,0)).2:Int)]);rw[e2];exact hq⟩
def ChsAt(H:Hp)(vs:List V)(chs:List (List (Nat×Nat))):Prop:=vs.length=chs.length∧∀(i:Nat) ch,chs[i]?=some ch→∃ q ts,vs[i]?=some (.ref q)∧H q=some (.tup ts)∧RowV H ts (ch.map ic)
theorem ChsAt.ts{H H':Hp}{vs:List V}{chs:List (List (Nat×Nat))}(h:ChsAt H vs chs)(s:TS H H'):ChsAt H' vs chs:=⟨h.1,fun i ch hc=>by
 obtain⟨q,ts,e,h1,h2⟩:=h.2 i ch hc
 exact⟨q,ts,e,s _ _ h1,h2.ts s⟩⟩
theorem ChsAt.snoc{H:Hp}{vs ts:List V}{chs:List (List (Nat×Nat))}{ch:List (Nat×Nat)}{q:Addr}(h:ChsAt H vs chs)(h1:H q=some (.tup ts))(h2:RowV H ts (ch.map ic)):ChsAt H (vs++[.ref q]) (chs++[ch]):=by
 refine⟨by rw[List.length_append,List.length_append,h.1];rfl,fun i p hp=>?_⟩
 by_cases hi:i < chs.length
 ·rw[List.getElem?_append_left hi] at hp
  rw[List.getElem?_append_left (by rw[h.1];exact hi)]
  exact h.2 i p hp
 ·have hl:=(List.getElem?_eq_some_iff.mp hp).1
  rw[List.length_append] at hl
  have e:i=chs.length:=by
   have:([ch]:List (List (Nat×Nat))).length=1:=rfl
   omega
  subst e
  rw[List.getElem?_append_right (Nat.le_refl _),Nat.sub_self] at hp
  cases hp
  exact⟨q,ts,by rw[List.getElem?_append_right (by rw[h.1];exact Nat.le_refl _),h.1,Nat.sub_self];rfl,h1,h2⟩
theorem at_end{xs:List V}{v:V}(h:0 < xs.length)(e:xs[xs.length - 1]?=some v):atI xs (-1)=some v:=by
 unfold atI ixN
 rw[if_neg (by decide),if_pos (by omega),show ((-1:Int)+(xs.length:Int)).toNat=xs.length - 1 by omega]
 exact e
theorem cut1{xs:List V}(h:0 < xs.length):cutV xs (some 1) none=xs.drop 1:=by
 have e1:HT.sIx xs.length 0 (some 1)=1:=by
  unfold HT.sIx
  simp
  omega
 have e2:HT.sIx xs.length xs.length none=xs.length:=by
  unfold HT.sIx
  simp
 unfold cutV
 rw[e1,e2]
 exact List.take_of_length_le (by rw[List.length_drop];exact Nat.le_refl _)
def tabR(n m:Nat)(V:Int)(R:Nat→Nat→Int):List (List (Int×Int)):=(List.range n).map fun p=>(List.range m).map fun f=>low (R p f) V
theorem mapR_getD{α:Type}{n i:Nat}{g:Nat→α}{d:α}(h:i < n):((List.range n).map g).getD i d=g i:=by
 rw[List.getD_eq_getElem?_getD,List.getElem?_map,List.getElem?_range h]
 rfl
theorem low_zero{V:Int}(hV:0 < V):low 0 V=(0,1):=by
 have h:=low_x (n:=0) hV
 have hc:=low_cop (n:=0) hV
 have hp:=low_pos (n:=0) hV
 have h1:(low 0 V).1=0:=by
  rw[Int.zero_mul] at h
  rcases Int.mul_eq_zero.mp h with z | z
  ·exact z
  ·omega
 rw[h1,Int.gcd_zero_left] at hc
 exact Prod.ext h1 (by show (low 0 V).2=1;omega)
theorem sum_tab{V:Int}(hV:0 < V)(n:Nat)(g:Nat→Int):Ok V (sumP ((List.range n).map fun f=>low (g f) V))∧num V (sumP ((List.range n).map fun f=>low (g f) V))=sm n g:=by
 obtain⟨a,b⟩:=sum_ok hV (l:=(List.range n).map fun f=>low (g f) V) fun p hp=>by
  obtain⟨i,_,rfl⟩:=List.mem_map.mp hp
  exact low_ok hV
 refine⟨a,?_⟩
 rw[b,List.map_map,← sm_eq]
 congr 1
 exact List.map_congr_left fun i _=>num_low hV
theorem tab_good{V:Int}{ws:List Int}{cs:List Cl}{ps:List (Int×Int)}{R:Nat→Nat→Int}{Lf:Nat→Int}(hV:0 < V)(fl:Flo cs.length ws.length R Lf (heapP cs) fun f=>ws.getD f 0*V)(ok:∀ i,i < cs.length→Ok V (ps.getD i (0,1)))(hr:∀ p,p < cs.length→sm ws.length (R p)=num V (ps.getD p (0,1))):gdTab ws cs ps (tabR cs.length ws.length V R):=by
 refine⟨by unfold tabR;rw[List.length_map,List.length_range],fun i hi=>?_,fun f hf=>?_⟩
 ·have e:(tabR cs.length ws.length V R).getD i []=(List.range ws.length).map fun f=>low (R i f) V:=mapR_getD hi
  rw[e]
  obtain⟨s1,s2⟩:=sum_tab hV ws.length (R i)
  refine⟨by rw[List.length_map,List.length_range],num_inj hV s1 (ok i hi) (by rw[s2,hr i hi]),fun k hk=>?_⟩
  rw[List.length_map,List.length_range] at hk
  rw[mapR_getD hk]
  have h0:=fl.nn i k hi hk
  refine⟨low_nn hV h0,?_⟩
  by_cases z:R i k=0
  ·rw[z]
   exact .inl (low_zero hV)
  ·exact .inr (fl.out i k hi hk z)
 ·have e:colP (tabR cs.length ws.length V R) f=(List.range cs.length).map fun p=>low (R p f) V:=by
   unfold colP tabR
   rw[List.map_map]
   exact List.map_congr_left fun p _=>mapR_getD hf
  rw[e]
  obtain⟨s1,s2⟩:=sum_tab hV cs.length fun p=>R p f
  have c:=fl.col f hf
  have l0:=fl.ln f hf
  have e2:=num_mul s1
  rw[s2] at e2
  generalize sumP ((List.range cs.length).map fun p=>low (R p f) V)=S at s1 e2
  generalize (sm cs.length fun p=>R p f)=T at c e2
  have up:=s1.pos
  have h:T*S.2≤ws.getD f 0*V*S.2:=Int.mul_le_mul_of_nonneg_right (by omega) (Int.le_of_lt up)
  rw[Int.mul_one]
  intro z
  have h2:=Int.mul_lt_mul_of_pos_right z hV
  rw[Int.mul_right_comm] at h2
  omega
def RsU(U:Int)(k:Nat)(H:Hp)(zs:List V)(rss:List (List (Int×Int))):Prop:=zs.length=rss.length∧∀(i:Nat) r,rss[i]?=some r→∃ l xs,zs[i]?=some (.ref l)∧H l=some (.lst xs)∧RowU U k H xs r∧r.length≤12
theorem RsU.same{U:Int}{k:Nat}{H H':Hp}{zs:List V}{rss:List (List (Int×Int))}(h:RsU U k H zs rss)(s:Same H H'):RsU U k H' zs rss:=⟨h.1,fun i r hr=>by
 obtain⟨l,xs,e,h1,h2,h3⟩:=h.2 i r hr
 exact⟨l,xs,e,s _ _ h1,h2.ts (TS.of s),h3⟩⟩
theorem RsU.put{U:Int}{k:Nat}{H:Hp}{zs:List V}{rss:List (List (Int×Int))}{l:Addr}{o as:List V}(h:RsU U k H zs rss)(hl:H l=some (.lst as))(n:V.ref l∉zs):RsU U k (upd H l (.lst o)) zs rss:=⟨h.1,fun i r hr=>by
 obtain⟨l2,xs,e,h1,h2,h3⟩:=h.2 i r hr
 exact⟨l2,xs,e,by rw[upd_ne (fun z=>n (by rw[← z];exact List.mem_of_getElem? e))];exact h1,h2.ts (TS.lst hl),h3⟩⟩
theorem RsU.snoc{U:Int}{k:Nat}{H:Hp}{zs:List V}{rss:List (List (Int×Int))}{q:Addr}{as:List V}{r:List (Int×Int)}(h:RsU U k H zs rss)(hq:H q=some (.lst as))(hA:RowU U k H as r)(h12:r.length≤12):RsU U k H (zs++[.ref q]) (rss++[r]):=by
 refine⟨by rw[List.length_append,List.length_append,h.1];rfl,fun i p hp=>?_⟩
 by_cases hi:i < rss.length
 ·rw[List.getElem?_append_left hi] at hp
  rw[List.getElem?_append_left (by rw[h.1];exact hi)]
  exact h.2 i p hp
 ·have hl:=(List.getElem?_eq_some_iff.mp hp).1
  rw[List.length_append] at hl
  have e:i=rss.length:=by
   have:([r]:List (List (Int×Int))).length=1:=rfl
   omega
  subst e
  rw[List.getElem?_append_right (Nat.le_refl _),Nat.sub_self] at hp
  cases hp
  exact⟨q,as,by rw[List.getElem?_append_right (by rw[h.1];exact Nat.le_refl _),h.1,Nat.sub_self];rfl,hq,hA,h12⟩
theorem inc_ext:∀{a b:List Int},a.Pairwise (· < ·)→b.Pairwise (· < ·)→(∀ x,x∈a↔x∈b)→a=b
 | [],[],_,_,_=>rfl
 | [],y::b,_,_,h=>absurd ((h y).mpr List.mem_cons_self) (by simp)
 | x::a,[],_,_,h=>absurd ((h x).mp List.mem_cons_self) (by simp)
 | x::a,y::b,ha,hb,h=>by
  have ha':=List.pairwise_cons.mp ha
  have hb':=List.pairwise_cons.mp hb
  have e:x=y:=by
   rcases List.mem_cons.mp ((h x).mp List.mem_cons_self) with z | z
   ·exact z
   ·rcases List.mem_cons.mp ((h y).mpr List.mem_cons_self) with q | q
    ·exact q.symm
    ·have:=hb'.1 x z
     have:=ha'.1 y q
     omega
  subst e
  rw[inc_ext ha'.2 hb'.2 fun z=>?_]
  have k:=h z
  rw[List.mem_cons,List.mem_cons] at k
  constructor
  ·intro q
   rcases k.mp (.inr q) with r | r
   ·have:=ha'.1 z q
    omega
   ·exact r
  ·intro q
   rcases k.mpr (.inr q) with r | r
   ·have:=hb'.1 z q
    omega
   ·exact r
theorem sub_inc:∀ j,j < 64→(Srt.sub j).Pairwise (· < ·):=by decide +kernel
theorem sort_sub{m:Nat}{rs zs:List Int}(m6:m≤6)(bd:∀ x∈rs,0≤x∧x < (m:Int))(nd:rs.Nodup)(pm:zs.Perm rs)(so:zs.Pairwise (·≤·)):∃ j,j < 2 ^ m∧zs=Srt.sub j∧∀ b,b < m→j.testBit b=decide ((b:Int)∈rs):=by
 obtain⟨j,hj,hb⟩:=mask (fun b=>decide ((b:Int)∈rs)) m
 have j64:j < 64:=Nat.lt_of_lt_of_le hj (Nat.pow_le_pow_right (by decide) m6:2 ^ m≤2 ^ 6)
 refine⟨j,hj,inc_ext ?_ (sub_inc j j64) fun x=>?_,hb⟩
 ·have nz:zs.Nodup:=pm.nodup_iff.mpr nd
  exact (so.and nz).imp fun h=>by omega
 ·rw[pm.mem_iff,mem_sub]
  constructor
  ·intro h
   have b:=bd x h
   refine⟨b.1,by omega,?_⟩
   rw[hb _ (by omega),decide_eq_true_iff,Int.toNat_of_nonneg b.1]
   exact h
  ·rintro ⟨h0,_,h⟩
   have xm:x.toNat < m:=by
    rcases Nat.lt_or_ge x.toNat m with z | z
    ·exact z
    ·rw[Nat.testBit_lt_two_pow (Nat.lt_of_lt_of_le hj (Nat.pow_le_pow_right (by decide) z))] at h
     cases h
   rw[hb _ xm,decide_eq_true_iff,Int.toNat_of_nonneg h0] at h
   exact h
theorem stuck_over{V:Int}{ws:List Int}{cs:List Cl}{ps:List (Int×Int)}(w6:ws.length≤6)(hb:∀ p,p < cs.length→∀ x∈heapP cs p,0≤x∧x < (ws.length:Int))(S:Nat→Bool){j:Nat}(h:∀ b,b < ws.length→j.testBit b=S b)
  (lt:(sm ws.length fun f=>if S f=true then ws.getD f 0*V else 0) < sm cs.length fun p=>if (heapP cs p).all (fun x=>S x.toNat)=true then num V (ps.getD p (0,1)) else 0):worthOf ws (Srt.sub j)*V < payN V cs ps j:=by
 unfold payN
 rw[worth_bits w6,sm_eq,sm_eq,← sm_mul]
 have e1:(sm ws.length fun b=>(if j.testBit b=true then ws.getD b 0 else 0)*V)=sm ws.length fun f=>if S f=true then ws.getD f 0*V else 0:=sm_congr fun i hi=>by
  rw[h i hi]
  cases S i with
  | true=>rw[if_pos rfl,if_pos rfl]
  | false=>rw[if_neg Bool.false_ne_true,if_neg Bool.false_ne_true,Int.zero_mul]
 have e2:(sm cs.length fun i=>if inn cs (Srt.sub j) i=true then num V (ps.getD i (0,1)) else 0)=sm cs.length fun p=>if (heapP cs p).all (fun x=>S x.toNat)=true then num V (ps.getD p (0,1)) else 0:=sm_congr fun i hi=>by
  have:inn cs (Srt.sub j) i=(heapP cs i).all fun x=>S x.toNat:=by
   rw[Bool.eq_iff_iff,inn_bits w6 (hb i hi),List.all_eq_true]
   refine⟨fun k x hx=>?_,fun k x hx=>?_⟩
   ·have b:=hb i hi x hx
    rw[← h _ (by omega)]
    exact k x hx
   ·have b:=hb i hi x hx
    rw[h _ (by omega)]
    exact k x hx
  rw[this]
 rw[e1,e2]
 exact lt
theorem Bf.fin{n m place:Nat}{R:Nat→Nat→Int}{Lf:Nat→Int}{tch:Nat→List Int}{chs:List (List (Nat×Nat))}{rs:List Int}{a:Nat}(b:Bf n m R Lf tch place chs rs a)(ha:a=chs.length)(hb:∀ p,p < n→∀ x∈tch p,0≤x∧x < (m:Int))(hp:place < n) :
  (∀ f,f < m→decide ((f:Int)∈rs)=true→Lf f≤0)∧(∀ p f,p < n→f < m→decide ((f:Int)∈rs)=true→0 < R p f→∀ x∈tch p,decide ((x.toNat:Int)∈rs)=true)∧∀ x∈tch place,decide ((x.toNat:Int)∈rs)=true:=by
 have dn:∀ f:Nat,(f:Int)∈rs→Lf f≤0∧∀ p,p < n→0 < R p f→∀ x∈tch p,x∈rs:=fun f hf=>by
  obtain⟨i,hi,e⟩:=List.getElem_of_mem hf
  have h:=b.dn i (by have:=b.len;omega)
  have e2:rs.getD i 0=rs[i]:=by simp[List.getD_eq_getElem?_getD,hi]
  rw[e2,e,Int.toNat_natCast] at h
  exact h
 refine⟨fun f _ h=>(dn f (of_decide_eq_true h)).1,fun p f h1 h2 h3 h4 x hx=>?_,fun x hx=>?_⟩
 ·have:=(hb p h1 x hx).1
  refine decide_eq_true ?_
  rw[Int.toNat_of_nonneg this]
  exact (dn f (of_decide_eq_true h3)).2 p h1 h4 x hx
 ·have:=(hb place hp x hx).1
  refine decide_eq_true ?_
  rw[Int.toNat_of_nonneg this]
  exact b.st x hx
abbrev OvAt(H':Hp)(j:Nat)(t dx:Addr):Prop:=H' t=some (.tup ((Srt.sub j).map V.int))∧H' dx=some (.xd [(Str.ofString "heap", .ref t)])
def U9:Int:=UM*27720
theorem u9_ok:UOk U9:=⟨by decide,by decide⟩
theorem times_u9{k:Nat}{n u a b c:Int}(h:PtOk UM k (n,u))(hk:k≤116)(hb:0 < b)(hbc:b*c=27720)(ha:a.natAbs < 16):PtOk U9 140 (lowN (n*a) (u*b),lowU (n*a) (u*b)):=by
 have hu:0 < u:=h.pos
 have hub:=Int.mul_pos hu hb
 have hc:0 < c:=by
  by_cases z:0 < c
  ·exact z
  ·have:b*c≤0:=Int.mul_nonpos_of_nonneg_of_nonpos (by omega) (by omega)
   omega
 have d:u*b∣U9:=by
  obtain⟨t,ht⟩:=(h.dvd:u∣UM)
  refine⟨t*c,?_⟩
  unfold U9
  rw[ht,← hbc]
  grind
 have o:Ok U9 (low (n*a) (u*b)):=Ok.low hub d
 refine⟨o,?_⟩
 have e:num U9 (low (n*a) (u*b))=num UM (n,u)*(a*c):=by
  refine num_of o ?_
  have x:=low_x (n:=n*a) hub
  have y:num UM (n,u)*u=n*UM:=num_mul h.toOk
  generalize low (n*a) (u*b)=q at x ⊢
  generalize num UM (n,u)=N at y ⊢
  unfold U9
  refine Int.eq_of_mul_eq_mul_right (a:=u*b) (by omega) ?_
  rw[← hbc]
  grind
 show Sz 140 (num U9 (low (n*a) (u*b)))
 rw[e]
 have zc:Sz 16 c:=Sz.of (by
  have:c≤27720:=by
   have:1*c≤b*c:=Int.mul_le_mul_of_nonneg_right (by omega) (by omega)
   omega
  omega)
 have za:Sz 5 a:=Sz.of (by omega)
 exact Sz.mono (Sz.mul h.sz (Sz.mul za zc)) (by omega)
theorem Flo.room{n m:Nat}{R:Nat→Nat→Int}{Lf:Nat→Int}{tch:Nat→List Int}{cap:Nat→Int}(fl:Flo n m R Lf tch cap){nm:Nat→Int}(hr:∀ p,p < n→sm m (R p)=nm p)(S:Nat→Bool):¬ (sm m fun f=>if S f=true then cap f else 0) < sm n fun p=>if (tch p).all (fun x=>S x.toNat)=true then nm p else 0:=by
 have h1:(sm n fun p=>if (tch p).all (fun x=>S x.toNat)=true then nm p else 0)≤sm n fun p=>sm m fun f=>if S f=true then R p f else 0:=sm_le fun p hp=>by
  cases e:(tch p).all fun x=>S x.toNat with
  | true =>
   rw[if_pos rfl,← hr p hp]
   refine sm_le fun f hf=>?_
   cases e2:S f with
   | true=>rw[if_pos rfl];exact Int.le_refl _
   | false =>
    rw[if_neg Bool.false_ne_true]
    by_cases z:R p f=0
    ·omega
    ·have:=List.all_eq_true.mp e _ (fl.out p f hp hf z)
     rw[Int.toNat_natCast,e2] at this
     cases this
  | false =>
   rw[if_neg Bool.false_ne_true]
   refine Int.le_trans (Int.le_of_eq (sm_zero m).symm) (sm_le fun f hf=>?_)
   cases S f with
   | true=>rw[if_pos rfl];exact fl.nn p f hp hf
   | false=>exact Int.le_refl _
 have h2:(sm m fun f=>sm n fun p=>if S f=true then R p f else 0)≤sm m fun f=>if S f=true then cap f else 0:=sm_le fun f hf=>by
  cases S f with
  | true =>
   have a:=fl.col f hf
   have b:=fl.ln f hf
   have e:(sm n fun p=>if true=true then R p f else 0)=sm n fun p=>R p f:=sm_congr fun p _=>if_pos rfl
   rw[if_pos rfl,e]
   omega
  | false =>
   have e:(sm n fun p=>if false=true then R p f else 0)=sm n fun _=>0:=sm_congr fun p _=>if_neg Bool.false_ne_true
   rw[if_neg Bool.false_ne_true,e,sm_zero]
   exact Int.le_refl _
 rw[sm_swap (fun p f=>if S f=true then R p f else 0) m n] at h1
 omega
theorem room_over{V:Int}{ws:List Int}{cs:List Cl}{ps:List (Int×Int)}(w6:ws.length≤6)(hb:∀ p,p < cs.length→∀ x∈heapP cs p,0≤x∧x < (ws.length:Int))
  (no:∀ S:Nat→Bool,¬ (sm ws.length fun f=>if S f=true then ws.getD f 0*V else 0) < sm cs.length fun p=>if (heapP cs p).all (fun x=>S x.toNat)=true then num V (ps.getD p (0,1)) else 0) (j:Nat):¬ worthOf ws (Srt.sub j)*V < payN V cs ps j:=by
 have:=no fun b=>j.testBit b
 unfold payN
 rw[worth_bits w6,sm_eq,sm_eq,← sm_mul]
 have e1:(sm ws.length fun b=>(if j.testBit b=true then ws.getD b 0 else 0)*V)=sm ws.length fun f=>if j.testBit f=true then ws.getD f 0*V else 0:=sm_congr fun i hi=>by
  cases j.testBit i with
  | true=>rw[if_pos rfl,if_pos rfl]
  | false=>rw[if_neg Bool.false_ne_true,if_neg Bool.false_ne_true,Int.zero_mul]
 have e2:(sm cs.length fun i=>if inn cs (Srt.sub j) i=true then num V (ps.getD i (0,1)) else 0)=sm cs.length fun p=>if (heapP cs p).all (fun x=>j.testBit x.toNat)=true then num V (ps.getD p (0,1)) else 0:=sm_congr fun i hi=>by
  have:inn cs (Srt.sub j) i=(heapP cs i).all fun x=>j.testBit x.toNat:=by rw[Bool.eq_iff_iff,inn_bits w6 (hb i hi),List.all_eq_true]
  rw[this]
 rw[e1,e2]
 exact this
theorem over_any{U V:Int}{ws:List Int}{cs:List Cl}{ps:List (Int×Int)}{j:Nat}(hU:0 < U)(hV:0 < V)(ok:∀ i,i < cs.length→Ok U (ps.getD i (0,1)))(ok':∀ i,i < cs.length→Ok V (ps.getD i (0,1)))(h:worthOf ws (Srt.sub j)*U < payN U cs ps j):worthOf ws (Srt.sub j)*V < payN V cs ps j:=by
 have e:=pay_any (j:=j) ok ok'
 have h:=Int.mul_lt_mul_of_pos_right h hV
 rw[e,Int.mul_right_comm] at h
 exact Int.lt_of_mul_lt_mul_right h (Int.le_of_lt hU)
theorem ty_tup{H:Hp}{t:Addr}{xs:List V}(h:H t=some (.tup xs)):tyNm (.ref t) H=some "tuple" := by
 unfold tyNm
 simp only[h]
abbrev sp_common_factor:Sp:=fun vs H Q _=>∃ n u:Int,vs=[.int n,.int u]∧0 < u∧Q (.int (Int.gcd n u)) H
inductive sp_lowest (vs:List V) (H:Hp) (Q:VK) (E:XK):Prop
 | mk:∀ n u:Int,(vs=[.int n,.int u])→(Sz 9000 u)→((u < 1→False))→((0 < u→∀ p,H p=none→Q (.ref p) (upd H p (.tup [.int (n / (Int.gcd n u:Int)),.int (u / (Int.gcd n u:Int))]))))→sp_lowest vs H Q E
inductive sp_below (vs:List V) (H:Hp) (Q:VK) (E:XK):Prop
 | mk:∀ p q n1 u1 n2 u2,(vs=[.ref p,.ref q])→(H p=some (.tup [.int n1,.int u1]))→(H q=some (.tup [.int n2,.int u2]))→(Sz 20000 n1)→(Sz 20000 u1)→(Sz 20000 n2)→(Sz 20000 u2)→(Q (.bl (decide (n1*u2 < n2*u1))) H)→sp_below vs H Q E
inductive sp_one_under (vs:List V) (H:Hp) (Q:VK) (E:XK):Prop
 | mk:∀ L xs ps U k,(vs=[.ref L])→(H L=some (.lst xs))→(UOk U)→(RowU U k H xs ps)→(k≤8000)→(ps.length≤16)→(Q (.int (undP ps)) H)→sp_one_under vs H Q E
inductive sp_numbers_over (vs:List V) (H:Hp) (Q:VK) (E:XK):Prop
 | mk:∀ L U xs ps V0 k,(vs=[.ref L,.int U])→(H L=some (.lst xs))→(UOk V0)→(RowU V0 k H xs ps)→(k≤8000)→(ps.length≤16)→(Sz 4000 U)→(∀ l,H l=none→Q (.ref l) (upd H l (.lst ((numsP U ps).map V.int))))→sp_numbers_over vs H Q E
inductive sp__law_bag (K:PySem.W.Frag) (cx:Str→Addr) (vs:List V) (H:Hp) (Q:VK) (E:XK):Prop
 | mk:∀ a ns,(vs=[.ref a])→(SqL K H a (List.map V.int ns))→(ns.length≤63)→(∀ B L H',Same H H'→H B=none→BagAt H' B L→Q (.ref B) H')→sp__law_bag K cx vs H Q E
inductive sp__law_pull (vs:List V) (H:Hp) (Q:VK) (E:XK):Prop
 | mk:∀ B m L,(vs=[.ref B,.int m])→(BagAt H B L)→(0 < m)→(Sz 9000 m)→(∀ d H',0≤d→d < m→BagAt H' B L→Fr1 B H H'→Q (.int d) H')→sp__law_pull vs H Q E
abbrev sp__law_gcd:Sp:=fun vs H Q _=>∃ n u:Int,vs=[.int n,.int u]∧Q (.int (Int.gcd n u)) H
inductive sp__law_low (vs:List V) (H:Hp) (Q:VK) (E:XK):Prop
 | mk:∀ n u:Int,(vs=[.int n,.int u])→(0 < u)→(Sz 9000 u)→(∀ p,H p=none→Q (.ref p) (upd H p (.tup [.int (lowN n u),.int (lowU n u)])))→sp__law_low vs H Q E
inductive sp__law_plus (vs:List V) (H:Hp) (Q:VK) (E:XK):Prop
 | mk:∀ p q n1 u1 n2 u2,(vs=[.ref p,.ref q])→(H p=some (.tup [.int n1,.int u1]))→(H q=some (.tup [.int n2,.int u2]))→(0 < u1)→(0 < u2)→(Sz 20000 n1)→(Sz 4400 u1)→(Sz 20000 n2)→(Sz 4400 u2)→(∀ r,H r=none→Q (.ref r) (upd H r (.tup [.int (lowN (n1*u2+n2*u1) (u1*u2)),.int (lowU (n1*u2+n2*u1) (u1*u2))])))→sp__law_plus vs H Q E
inductive sp__law_times (vs:List V) (H:Hp) (Q:VK) (E:XK):Prop
 | mk:∀ p q n1 u1 n2 u2,(vs=[.ref p,.ref q])→(H p=some (.tup [.int n1,.int u1]))→(H q=some (.tup [.int n2,.int u2]))→(0 < u1)→(0 < u2)→(Sz 20000 n1)→(Sz 4400 u1)→(Sz 20000 n2)→(Sz 4400 u2)→(∀ r,H r=none→Q (.ref r) (upd H r (.tup [.int (lowN (n1*n2) (u1*u2)),.int (lowU (n1*n2) (u1*u2))])))→sp__law_times vs H Q E
inductive sp__law_below (vs:List V) (H:Hp) (Q:VK) (E:XK):Prop
 | mk:∀ p q n1 u1 n2 u2,(vs=[.ref p,.ref q])→(H p=some (.tup [.int n1,.int u1]))→(H q=some (.tup [.int n2,.int u2]))→(Sz 20000 n1)→(Sz 20000 u1)→(Sz 20000 n2)→(Sz 20000 u2)→(Q (.bl (decide (n1*u2 < n2*u1))) H)→sp__law_below vs H Q E
inductive sp__law_sum (vs:List V) (H:Hp) (Q:VK) (E:XK):Prop
 | mk:∀ L xs ps U k,(vs=[.ref L])→(H L=some (.lst xs))→(UOk U)→(RowU U k H xs ps)→(k≤8000)→(ps.length≤16)→(∀ r H',Same H H'→H' r=some (.tup [.int (sumP ps).1,.int (sumP ps).2])→Q (.ref r) H')→sp__law_sum vs H Q E
abbrev sp__law_whole:Sp:=fun vs H Q _=>∃ n:Int,vs=[.int n]∧Q (.bl true) H
inductive sp__law_many (vs:List V) (H:Hp) (Q:VK) (E:XK):Prop
 | mk:∀ B L,(vs=[.ref B])→(BagAt H B L)→(∀ m H',0≤m→m≤6→BagAt H' B L→Fr1 B H H'→Q (.int m) H')→sp__law_many vs H Q E
inductive sp__law_heap (vs:List V) (H:Hp) (Q:VK) (E:XK):Prop
 | mk:∀ B m L,(vs=[.ref B,.int m])→(BagAt H B L)→(0≤m)→(m≤6)→(∀(t:Addr)(hs:List Int)(H':Hp),H t=none→BagAt H' B L→Fr1 B H H'→H' t=some (.tup (hs.map V.int))→hs.length≤6→(∀ x∈hs,0≤x∧x < m)→hs.Nodup→Q (.ref t) H')→sp__law_heap vs H Q E
inductive sp__law_due (vs:List V) (H:Hp) (Q:VK) (E:XK):Prop
 | mk:∀ B s L,(vs=[.ref B,.int s])→(BagAt H B L)→(0≤s)→(s≤1000000000)→(∀ p n u H',H p=none→BagAt H' B L→Fr1 B H H'→H' p=some (.tup [.int n,.int u])→Du UM 115 n u→Q (.ref p) H')→sp__law_due vs H Q E
abbrev sp__law_ceil:Sp:=fun vs H Q _=>∃ p n u,vs=[.ref p]∧H p=some (.tup [.int n,.int u])∧0 < u∧Sz 9000 u∧Q (.int (-(-n / u))) H
inductive sp__law_heaps (vs:List V) (H:Hp) (Q:VK) (E:XK):Prop
 | mk:∀ m:Nat,(vs=[.int (m:Int)])→(m≤6)→(∀ F xs H',Same H H'→H F=none→H' F=some (.lst xs)→SubsAt H' xs (2 ^ m)→Q (.ref F) H')→sp__law_heaps vs H Q E
inductive sp__law_lies (vs:List V) (H:Hp) (Q:VK) (E:XK):Prop
 | mk:∀ t h ts hs,(vs=[.ref t,.ref h])→(H t=some (.tup (ts.map V.int)))→(H h=some (.tup (hs.map V.int)))→(ts.length≤6)→(∀ H',Same H H'→Q (.bl (lies ts hs)) H')→sp__law_lies vs H Q E
inductive sp__law_worth (vs:List V) (H:Hp) (Q:VK) (E:XK):Prop
 | mk:∀ w h ws hs,(vs=[.ref w,.ref h])→(H w=some (.lst (ws.map V.int)))→(H h=some (.tup (hs.map V.int)))→(hs.length≤6)→((∀ x∈hs,0≤x∧x < ws.length))→(∀ H',Same H H'→Q (.int (worthOf ws hs)) H')→sp__law_worth vs H Q E
inductive sp_total (vs:List V) (H:Hp) (Q:VK) (E:XK):Prop
 | mk:∀ L xs ps U k,(vs=[.ref L])→(H L=some (.lst xs))→(UOk U)→(RowU U k H xs ps)→(k≤8000)→(ps.length≤16)→(∀ r H',Same H H'→H' r=some (.tup [.int (sumP ps).1,.int (sumP ps).2])→Q (.ref r) H')→sp_total vs H Q E
inductive sp__law_truth (vs:List V) (H:Hp) (Q:VK) (E:XK):Prop
 | mk:∀ b c,(vs=[.bl b,.bl c])→(Q (.bl (decide (b=c))) H)→sp__law_truth vs H Q E
inductive sp__law_pair (vs:List V) (H:Hp) (Q:VK) (E:XK):Prop
 | mk:∀ p n u,(vs=[.ref p])→(H p=some (.tup [.int n,.int u]))→(0 < u)→(Int.gcd n u=1)→(Sz 9000 u)→(Q (.bl true) H)→sp__law_pair vs H Q E
inductive sp__law_pairs (vs:List V) (H:Hp) (Q:VK) (E:XK):Prop
 | mk:∀ F ys,∀ ps:List (Int×Int),∀ m:Nat,(vs=[.ref F,.int (m:Int)])→(H F=some (.lst ys))→(RowV H ys ps)→(ps.length≤16)→((∀ i,i < ps.length→0 < (ps.getD i (0,1)).2∧Int.gcd (ps.getD i (0,1)).1 (ps.getD i (0,1)).2=1∧Sz 9000 (ps.getD i (0,1)).2))→(∀ H',Same H H'→Q (.bl (decide (ps.length=m))) H')→sp__law_pairs vs H Q E
inductive sp__law_worths (vs:List V) (H:Hp) (Q:VK) (E:XK):Prop
 | mk:∀ B m L,(vs=[.ref B,.int m])→(BagAt H B L)→(0≤m)→(m≤6)→(∀(w:Addr)(ws:List Int)(H':Hp),H w=none→BagAt H' B L→Fr1 B H H'→H' w=some (.lst (ws.map V.int))→(ws.length:Int)=m→(∀ x∈ws,0≤x∧Sz 50 x)→Q (.ref w) H')→sp__law_worths vs H Q E
inductive sp__law_tabled (vs:List V) (H:Hp) (Q:VK) (E:XK):Prop
 | mk:∀ B L,(vs=[.ref B])→(BagAt H B L)→(∀ T W C P Z ws xs cs ys ps zs rss H',Tf H B L W C P Z ws xs cs ys ps zs rss H'→H' T=some (.tup [.ref W,.ref C,.ref P,.ref Z])→Q (.ref T) H')→sp__law_tabled vs H Q E
inductive sp__law_claims (vs:List V) (H:Hp) (Q:VK) (E:XK):Prop
 | mk:∀ B m L,(vs=[.ref B,.int m])→(BagAt H B L)→(0≤m)→(m≤6)→(∀ F xs cs H',H F=none→BagAt H' B L→Fr1 B H H'→H' F=some (.lst xs)→ClsAt H' xs cs→cs.length≤16→(∀ c∈cs,GoodU2 UM 115 m c)→Q (.ref F) H')→sp__law_claims vs H Q E
inductive sp_moves_from (vs:List V) (H:Hp) (Q:VK) (E:XK):Prop
 | mk:∀(ac ar al:Addr)(xs:List V)(cs:List Cl)(zs:List V)(m:Nat)(R:Nat→Nat→Int)(Lf:Nat→Int)(f:Nat),(vs=[.ref ac,.ref ar,.int (f:Int)])→(Tq ac ar al xs cs zs m R Lf H)→(f < m)→(cs.length≤16)→((∀ p,p < cs.length→(heapP cs p).length≤6∧∀ x∈heapP cs p,0≤x∧x < (m:Int)))→(∀ F vs (ms:List (Nat×Nat)) H',Same H H'→H F=none→H' F=some (.lst vs)→RowV H' vs (ms.map ic)→(∀ s∈ms,s.1 < cs.length∧0 < R s.1 f∧(s.2:Int)∈heapP cs s.1)→(∀ p,p < cs.length→0 < R p f→∀ x∈heapP cs p,(p,x.toNat)∈ms)→Q (.ref F) H')→sp_moves_from vs H Q E
inductive sp_most_along (vs:List V) (H:Hp) (Q:VK) (E:XK):Prop
 | mk:∀(ac ar al:Addr)(xs:List V)(cs:List Cl)(zs:List V)(m:Nat)(R:Nat→Nat→Int)(Lf:Nat→Int)(place:Nat)(q:Addr)(ts:List V) (ch:List (Nat×Nat)),(vs=[.ref ar,.ref al,.ref q])→(Tq ac ar al xs cs zs m R Lf H)→(H q=some (.tup ts))→(RowV H ts (ch.map ic))→(Chn cs.length m R (heapP cs) place ch)→(∀ a H',Same H H'→a≤Lf (cF ch (ch.length - 1))→(∀ i,i+1 < ch.length→a≤R (cP ch (i+1)) (cF ch i))→(0 < Lf (cF ch (ch.length - 1))→0 < a)→Q (.int a) H')→sp_most_along vs H Q E
inductive sp_move_along (vs:List V) (H:Hp) (Q:VK) (E:XK):Prop
 | mk:∀(ac ar al:Addr)(xs:List V)(cs:List Cl)(zs:List V)(m:Nat)(R:Nat→Nat→Int)(Lf:Nat→Int)(place:Nat)(q:Addr)(ts:List V) (ch:List (Nat×Nat)) (a:Int) (cap:Nat→Int),(vs=[.ref ar,.ref al,.ref q,.int a])→(Tq ac ar al xs cs zs m R Lf H)→(H q=some (.tup ts))→(RowV H ts (ch.map ic))→(Chn cs.length m R (heapP cs) place ch)→(Flo cs.length m R Lf (heapP cs) cap)→(0≤a)→(a≤Lf (cF ch (ch.length - 1)))→((∀ i,i+1 < ch.length→a≤R (cP ch (i+1)) (cF ch i)))→(∀ R' Lf' H',Tq ac ar al xs cs zs m R' Lf' H'→Flo cs.length m R' Lf' (heapP cs) cap→(∀ p,p < cs.length→sm m (R' p)=sm m (R p)+if p=place then a else 0)→FrZ zs al H H'→Q .non H')→sp_move_along vs H Q E
inductive sp_as_parts (vs:List V) (H:Hp) (Q:VK) (E:XK):Prop
 | mk:∀(l:Addr)(m:Nat)(g:Nat→Int)(V:Int),(vs=[.ref l,.int V])→(H l=some (.lst (rowV m g)))→(m≤6)→(UOk V)→((∀ f,f < m→Sz 4300 (g f)))→(∀ F as H',Same H H'→H F=none→H' F=some (.lst as)→RowU V 4300 H' as ((List.range m).map fun f=>low (g f) V)→Q (.ref F) H')→sp_as_parts vs H Q E
inductive sp__law_good_row (vs:List V) (H:Hp) (Q:VK) (E:XK):Prop
 | mk:∀(c t p r pd:Addr)(rk:Int)(ts:List Int)(part:Int×Int)(xs:List V) (row:List (Int×Int)) (k:Nat) (U:Int),(vs=[.ref c,.ref p,.ref r])→(H c=some (.tup [.ref pd,.ref t,.int rk]))→(H t=some (.tup (ts.map V.int)))→(H p=some (.tup [.int part.1,.int part.2]))→(H r=some (.lst xs))→(RowU U k H xs row)→(UOk U)→(k≤8000)→(row.length≤12)→(∀ b H',Same H H'→(b=true↔gdRow row.length ts part row)→Q (.bl b) H')→sp__law_good_row vs H Q E
inductive sp__law_good_table (vs:List V) (H:Hp) (Q:VK) (E:XK):Prop
 | mk:∀ w c p z ws xs cs ys ps zs rss,∀ k:Nat,∀ U:Int,(vs=[.ref w,.ref c,.ref p,.ref z])→(ShIn w c ws xs cs H)→(H p=some (.lst ys))→(RowV H ys ps)→(ps.length=cs.length)→(H z=some (.lst zs))→(RsU U k H zs rss)→(UOk U)→(k≤8000)→(cs.length≤16)→(ws.length≤6)→((∀ x∈ws,Sz 900 x))→(∀ b H',Same H H'→(b=true↔gdTab ws cs ps rss)→Q (.bl b) H')→sp__law_good_table vs H Q E
inductive sp_shortest_chain (K:PySem.W.Frag) (cx:Str→Addr) (vs:List V) (H:Hp) (Q:VK) (E:XK):Prop
 | mk:∀(ac ar al:Addr)(xs:List V)(cs:List Cl)(zs:List V)(m:Nat)(R:Nat→Nat→Int)(Lf:Nat→Int)(place:Nat),(vs=[.ref ac,.ref ar,.ref al,.int (place:Int)])→(Tq ac ar al xs cs zs m R Lf H)→(place < cs.length)→(cs.length≤16)→(m≤6)→((∀ p,p < cs.length→(heapP cs p).length≤6∧∀ x∈heapP cs p,0≤x∧x < (m:Int)))→((∀ S:Nat→Bool,(∀ f,f < m→S f=true→Lf f≤0)→(∀ p f,p < cs.length→f < m→S f=true→0 < R p f→∀ x∈heapP cs p,S x.toNat=true)→(∀ x∈heapP cs place,S x.toNat=true)→∀ j,j < 2 ^ m→(∀ b,b < m→j.testBit b=S b)→∀ t dx H',Same H H'→OvAt H' j t dx→E (.ref (cx "Overdrawn")) (some dx) H'))→((heapP cs place).Nodup)→(∀ q ts ch H',Same H H'→H' q=some (.tup ts)→RowV H' ts (ch.map ic)→Chn cs.length m R (heapP cs) place ch→0 < Lf (cF ch (ch.length - 1))→Q (.ref q) H')→sp_shortest_chain K cx vs H Q E
inductive sp_pay (K:PySem.W.Frag) (cx:Str→Addr) (vs:List V) (H:Hp) (Q:VK) (E:XK):Prop
 | mk:∀(ac ar al:Addr)(xs:List V)(cs:List Cl)(zs:List V)(m:Nat)(R:Nat→Nat→Int)(Lf:Nat→Int)(place:Nat)(number:Int)(cap nm:Nat→Int),(vs=[.ref ac,.ref ar,.ref al,.int (place:Int),.int number])→(Tq ac ar al xs cs zs m R Lf H)→(Flo cs.length m R Lf (heapP cs) cap)→(place < cs.length)→(cs.length≤16)→(m≤6)→((∀ p,p < cs.length→(heapP cs p).length≤6∧∀ x∈heapP cs p,0≤x∧x < (m:Int)))→(0≤number)→((∀ p,p < cs.length→sm m (R p)+(if p=place then number else 0)≤nm p))→((∀ S:Nat→Bool,((sm m fun f=>if S f=true then cap f else 0) < sm cs.length fun p=>if (heapP cs p).all (fun x=>S x.toNat)=true then nm p else 0)→∀ j,j < 2 ^ m→(∀ b,b < m→j.testBit b=S b)→∀ t dx H',FrZ zs al H H'→OvAt H' j t dx→E (.ref (cx "Overdrawn")) (some dx) H'))→((∀ p,p < cs.length→(heapP cs p).Nodup))→(∀ R' Lf' H',Tq ac ar al xs cs zs m R' Lf' H'→Flo cs.length m R' Lf' (heapP cs) cap→(∀ p,p < cs.length→sm m (R' p)=sm m (R p)+if p=place then number else 0)→FrZ zs al H H'→Q .non H')→sp_pay K cx vs H Q E
inductive sp_table (K:PySem.W.Frag) (cx:Str→Addr) (vs:List V) (H:Hp) (Q:VK) (E:XK):Prop
 | mk:∀(w c p:Addr)(ws:List Int)(xs:List V)(cs:List Cl)(ys:List V) (ps:List (Int×Int)) (U:Int) (k:Nat),(vs=[.ref w,.ref c,.ref p])→(ShIn w c ws xs cs H)→(H p=some (.lst ys))→(UOk U)→(RowU U k H ys ps)→(k≤8000)→(ps.length=cs.length)→(cs.length≤16)→(ws.length≤6)→((∀ x∈ws,0≤x∧Sz 200 x))→((∀ p,p < cs.length→(heapP cs p).length≤6∧∀ x∈heapP cs p,0≤x∧x < (ws.length:Int)))→((∀ i,i < cs.length→0≤(ps.getD i (0,1)).1))→((∀ V,0 < V→(∀ i,i < cs.length→Ok V (ps.getD i (0,1)))→∀ j,j < 2 ^ ws.length→worthOf ws (Srt.sub j)*V < payN V cs ps j→∀ t dx H',Same H H'→OvAt H' j t dx→E (.ref (cx "Overdrawn")) (some dx) H'))→((∀ p,p < cs.length→(heapP cs p).Nodup))→(∀ Z zs rss V H',Same H H'→H Z=none→H' Z=some (.lst zs)→RsU V 4300 H' zs rss→UOk V→gdTab ws cs ps rss→(∀ l,(.ref l:L2.V)∈zs→H l=none)→(∀ j,¬ worthOf ws (Srt.sub j)*V < payN V cs ps j)→(∀ i,i < cs.length→Ok V (ps.getD i (0,1)))→Q (.ref Z) H')→sp_table K cx vs H Q E
inductive sp_good_row (vs:List V) (H:Hp) (Q:VK) (E:XK):Prop
 | mk:∀(m:Nat)(t p r:Addr)(ts:List Int)(part:Int×Int)(xs:List V) (row:List (Int×Int)) (k:Nat) (U:Int),(vs=[.int (m:Int),.ref t,.ref p,.ref r])→(H t=some (.tup (ts.map V.int)))→(H p=some (.tup [.int part.1,.int part.2]))→(H r=some (.lst xs))→(RowU U k H xs row)→(UOk U)→(k≤8000)→(row.length≤12)→(∀ b H',Same H H'→(b=true↔gdRow m ts part row)→Q (.bl b) H')→sp_good_row vs H Q E
inductive sp_good_table (vs:List V) (H:Hp) (Q:VK) (E:XK):Prop
 | mk:∀ w c p z ws xs cs ys ps zs rss,∀ k:Nat,∀ U:Int,(vs=[.ref w,.ref c,.ref p,.ref z])→(ShIn w c ws xs cs H)→(H p=some (.lst ys))→(RowV H ys ps)→(ps.length=cs.length)→(H z=some (.lst zs))→(RsU U k H zs rss)→(UOk U)→(k≤8000)→(cs.length≤16)→(ws.length≤6)→((∀ x∈ws,Sz 900 x))→(∀ b H',Same H H'→(b=true↔gdTab ws cs ps rss)→Q (.bl b) H')→sp_good_table vs H Q E
inductive sp__law_load (vs:List V) (H:Hp) (Q:VK) (E:XK):Prop
 | mk:∀ c p h U k xs cs ys ps hs,(vs=[.ref c,.ref p,.ref h])→(H c=some (.lst xs))→(ClsAt H xs cs)→((∀ c∈cs,c.hp.length≤6))→(cs.length≤16)→(H p=some (.lst ys))→(UOk U)→(k≤8000)→(RowU U k H ys ps)→(ps.length=cs.length)→(H h=some (.tup (hs.map V.int)))→(∀ r d H',Same H H'→H' r=some (.tup [.int (d:Int×Int).1,.int d.2])→PtOk U (k+16) d→num U d=(((List.range cs.length).filter (inn cs hs)).map fun i=>num U (ps.getD i (0,1))).sum→Q (.ref r) H')→sp__law_load vs H Q E
inductive sp__law_over_its_worth (vs:List V) (H:Hp) (Q:VK) (E:XK):Prop
 | mk:∀ w c p h M ws xs cs ys ps,∀ j:Nat,(vs=[.ref w,.ref c,.ref p,.ref h])→(ShIn w c ws xs cs H)→(FC UM ws cs)→(H p=some (.lst ys))→(RowU M 3700 H ys ps)→(UOk M)→(ps.length=cs.length)→(j < 2 ^ ws.length)→(H h=some (.tup ((Srt.sub j).map V.int)))→(∀ H',Same H H'→Q (.bl (decide (worthOf ws (Srt.sub j)*M < payN M cs ps j))) H')→sp__law_over_its_worth vs H Q E
inductive sp__law_overdrawn (vs:List V) (H:Hp) (Q:VK) (E:XK):Prop
 | mk:∀ w c p M ws xs cs ys ps,(vs=[.ref w,.ref c,.ref p])→(ShIn w c ws xs cs H)→(FC UM ws cs)→(H p=some (.lst ys))→(RowU M 3700 H ys ps)→(UOk M)→(ps.length=cs.length)→(∀ b H',Same H H'→(b=true↔∃ j,j < 2 ^ ws.length∧worthOf ws (Srt.sub j)*M < payN M cs ps j)→Q (.bl b) H')→sp__law_overdrawn vs H Q E
inductive sp__law_is_overdrawn (vs:List V) (H:Hp) (Q:VK) (E:XK):Prop
 | mk:∀ w c p h M ws xs cs ys ps,∀ j:Nat,(vs=[.ref w,.ref c,.ref p,.ref h])→(ShIn w c ws xs cs H)→(FC UM ws cs)→(H p=some (.lst ys))→(RowU M 3700 H ys ps)→(UOk M)→(ps.length=cs.length)→(j < 2 ^ ws.length)→(H h=some (.tup ((Srt.sub j).map V.int)))→(worthOf ws (Srt.sub j)*M < payN M cs ps j)→(∀ H',Same H H'→Q (.bl true) H')→sp__law_is_overdrawn vs H Q E
inductive sp__law_told (vs:List V) (H:Hp) (Q:VK) (E:XK):Prop
 | mk:∀ w c p M ws xs cs ys ps,(vs=[.ref w,.ref c,.ref p])→(ShIn w c ws xs cs H)→(FC UM ws cs)→(H p=some (.lst ys))→(RowU M 3700 H ys ps)→(UOk M)→(ps.length=cs.length)→((∀ x∈ws,0≤x))→((∀ i,i < cs.length→0≤(ps.getD i (0,1)).1))→((∀ i,i < cs.length→(heapP cs i).Nodup∧∀ x∈heapP cs i,0≤x∧x < (ws.length:Int)))→((∀ T Z zs rss V H',Same H H'→H Z=none→H' Z=some (.lst zs)→RsU V 4300 H' zs rss→UOk V→gdTab ws cs ps rss→(∀ l,(.ref l:L2.V)∈zs→H l=none)→(∀ j,¬ worthOf ws (Srt.sub j)*M < payN M cs ps j)→H' T=some (.tup [.ref Z,.non])→Q (.ref T) H'))→(∀ T t j H',Same H H'→j < 2 ^ ws.length→worthOf ws (Srt.sub j)*M < payN M cs ps j→H' t=some (.tup ((Srt.sub j).map V.int))→H' T=some (.tup [.non,.ref t])→Q (.ref T) H')→sp__law_told vs H Q E
inductive sp__law_row (vs:List V) (H:Hp) (Q:VK) (E:XK):Prop
 | mk:∀ B L C xs cs,(vs=[.ref B,.ref C])→(BagAt H B L)→(C≠B)→(H C=some (.lst xs))→(ClsAt H xs cs)→(cs.length≤16)→((∀ c∈cs,Du UM 115 c.n c.u))→(∀ F ys ps H',H F=none→BagAt H' B L→Fr1 B H H'→H' F=some (.lst ys)→RowU U9 140 H' ys ps→ps.length=cs.length→(∀ p∈ps,0≤p.1)→Q (.ref F) H')→sp__law_row vs H Q E
inductive sp__law_asked (vs:List V) (H:Hp) (Q:VK) (E:XK):Prop
 | mk:∀ w c p M ws xs cs ys ps,(vs=[.ref w,.ref c,.ref p])→(ShIn w c ws xs cs H)→(FC UM ws cs)→(H p=some (.lst ys))→(RowU M 3700 H ys ps)→(UOk M)→(ps.length=cs.length)→((∀ x∈ws,0≤x))→((∀ i,i < cs.length→0≤(ps.getD i (0,1)).1))→((∀ i,i < cs.length→(heapP cs i).Nodup∧∀ x∈heapP cs i,0≤x∧x < (ws.length:Int)))→(∀ H',Same H H'→Q (.bl true) H')→sp__law_asked vs H Q E
abbrev sp_law(K:PySem.W.Frag)(cx:Str→Addr):Sp:=fun vs H Q _=>∃ a ns,vs=[.ref a]∧SqL K H a (List.map V.int ns)∧ns.length≤63∧∀ H',Q (.bl true) H'
local macro_rules | `(tactic| k_extra "rd")=>`(tactic| simp only[tSeq_ap,tIfS_ap,tNext_ap,tDrop_ap,tRet_ap,tRetN_ap,tVar_ap,tC_ap,tB_ap,tTest_ap,tOp_ap,tUn_ap,tCB_ap,tNil_ap,tCons_ap,tTup_ap,tLst_ap,tAsg_ap,gName_ap,gSub_ap,tPar_ap,tAugS_ap,rI_ap,rI0_ap,rU_ap,rEq_ap,rNe_ap,rEqP_ap,rNeP_ap,scal_ii,scal_bb,scal_ss,scal_nn,tAnd_ap,tOr_ap,tNot_ap,tAndV_ap,tOrV_ap,tNotV_ap,tIf_ap,tChain_ap,tD_ap,Hold_ap,Brk_t,Brk_f,tIsN_ap,tNotN_ap,ipI_ap,
 rIxF_ap,rLenF_ap,rGetF_ap,rSetL_ap,rIsi_ap,tyNm,isiN_int,isiN_bool,isiN_list,isiN_tuple,isiN_str,isi_ii,isi_ib,isi_bb,isi_bi,isi_tt,isi_ll,isi_nt,isi_ni,rListF_ap,rTupF_ap,rSumF_ap,rAllF_ap,rAnyF_ap,tBM_ap,rAppend_ap,compSt_ap,join_somz,tRev_ap,rInsert_ap,tPart_ap,tNoPart_ap,Int.reduceEq,  sizeLine_0,sizeLine_8,sizeLine_10,L2.start,CMulB,CDivB,CPow,tCallX_ap,tTry_ap,tRaise_ap,sp_common_factor,sp__law_gcd,sp__law_whole,sp__law_ceil,
 List.getElem?_cons_zero,List.getElem?_cons_succ,List.set_cons_zero,List.set_cons_succ,List.map_cons,List.map_nil,List.cons_append,List.nil_append,List.length_cons,List.length_nil,List.length_map,Nat.reduceAdd,Nat.reduceSub,Nat.zero_add,Nat.sub_self,List.replicate_succ,List.replicate_zero,
 Option.some.injEq,V.int.injEq,V.bl.injEq,V.ref.injEq,V.ty.injEq,V.str.injEq,HO.lst.injEq,HO.tup.injEq,List.cons.injEq,reduceCtorEq,exists_eq_left',exists_eq_left,exists_eq_right',exists_eq_right,exists_and_left,and_assoc,and_true,true_and,and_self,eq_self,decide_true,decide_false,decide_eq_true_eq,Bool.not_eq_true',decide_eq_false_iff_not,Bool.true_eq_false,Bool.false_eq_true,if_true,if_false,Bool.not_false,Bool.not_true,Bool.true_and,Bool.false_and,Bool.and_true,Bool.and_false,Bool.true_or,Bool.false_or,not_true_eq_false,ne_eq,not_false_eq_true,atI_0,atI_1,atI_2,atI_3,ixN_4_0,ixN_4_1,ixN_4_2,ixN_4_3,seqAt,upd_same,upd_ne,sizeLine_1,sizeLine_2,sizeLine_3,sizeLine_4,sizeLine_5,sizeLine_6,sizeLine_7,int_01,int_c2,pow_ok,Int.reduceLE,Int.reduceLT,Int.reduceAdd,Int.reduceSub,Int.reduceMul,Int.reduceNeg,Int.reducePow,Int.reduceToNat, *])
local macro_rules | `(tactic| k_extra "rx")=>`(tactic| repeat (first
 | (with_reducible refine i_tSeq ?_) | (with_reducible refine i_tAsg ?_) | (with_reducible refine i_gName ?_) | ((with_reducible apply i_tVar);(exact rfl)) | (with_reducible refine i_tC ?_) | (with_reducible refine i_tOp ?_) | (with_reducible refine i_tIfS ?_) | (with_reducible refine i_tTest ?_) | (with_reducible refine i_tB ?_) | (with_reducible refine i_exB ?_)
 | (with_reducible refine i_rI0 ?_) | (with_reducible refine i_tUn ?_) | (with_reducible refine i_rU ?_) | (with_reducible refine i_tCons ?_) | (with_reducible refine i_tNil ?_) | (with_reducible refine i_tD ?_) | (with_reducible refine i_tCB ?_) | (with_reducible refine i_tRet ?_) | (with_reducible refine i_tNext ?_) | (with_reducible refine i_tDrop ?_) | (with_reducible refine i_gSub ?_) | (with_reducible refine i_tAugS ?_) | (with_reducible refine i_tNot ?_) | (with_reducible refine i_tAnd ?_) | (with_reducible refine i_tOr ?_) | (with_reducible refine i_ipI ?_) | (with_reducible refine i_brkT ?_) | (with_reducible refine i_brkF ?_) | (with_reducible refine i_tTup ?_) | (with_reducible refine i_tLst ?_)
 | ((with_reducible refine i_rI ?_ ?_);(first | (exact Sz.ok (by assumption) (by assumption) (by decide)) | (exact⟨by assumption,by assumption⟩) | (exact⟨by decide,by decide⟩) | (show (0:Int) < _;first | decide | assumption) | (exact mul_mod_ok) | (exact Sz.okR (k:=31) (by decide) (by decide)) | (exact (⟨by decide,by decide,by decide⟩:CPow _ _))))
 | refine i_ixL (by assumption) rfl ?_ | refine i_ixT (by assumption) rfl ?_ | refine i_ixL (by assumption) (by assumption) ?_ | refine i_lenL (by assumption) ?_ | refine i_getL (by assumption) (by decide) rfl ?_))
section
variable {P:Program}{w:World}{K:PySem.W.Frag}{mg:Str→Option Value}{base:Heap}{cx:Str→Addr}{f:Addr}{fd:FuncData}
theorem ok_common_factor(D:DefAt K mg "common_factor" s_common_factor f fd)(T:Txt K mg cx):DefOk P w K mg base CX0 1 "common_factor" ["number","under"] sp_common_factor:=by
 refine D.ok (D.q sc_common_factor (fun vs H Q E h=>?_) (fun cdv A outer s H vs Q E hr h=>?_)) (D.fn.binds fun _ _ _ _ _ _ us hl=>match us,hl with | [_,_],_=>rfl)
 ·obtain⟨_,_,rfl,_⟩:=h
  rfl
 obtain⟨n,u,rfl,hu,hQ⟩:=h
 refine⟨_,(qss_cons (qs_sL 2 sc_common_factor.nd (qv 0))
   (qss_cons (qs_sL 3 sc_common_factor.nd (qv 1))
   (qss_cons (qs_while PassesOwn.never (qt_cmpR op_ne (qv 3) qe_int (nomark _)) (qss_cons (qs_sL 4 sc_common_factor.nd (qe_op op_mod (qv 2) (qv 3)))
   (qss_cons (qs_sL 2 sc_common_factor.nd (qv 3))
   (qss_one (qs_sL 3 sc_common_factor.nd (qv 4))))))
   (qss_one (qs_ret (qv 2)))))),?_⟩
 k_extra "rd"
 refine⟨fun m σ H'=>H'=H∧∃(g l:Int)(r:Option V),σ=[some (.int n),some (.int u),some (.int g),some (.int l),r]∧m=l.toNat∧0≤l∧Int.gcd g l=Int.gcd n u∧(l=0→0 < g),⟨_,rfl,n,u,none,rfl,rfl,by omega,rfl,by omega⟩,?_⟩
 rintro m σ H' ⟨rfl,g,l,r,rfl,rfl,h0,hg,hp⟩
 k_extra "rd"
 refine ite2 (fun hl=>?_) (fun hl=>?_)
 ·refine⟨fun σ' H''=>H''=H'∧∃(g' l':Int)(r':Option V),σ'=[some (.int n),some (.int u),some (.int g'),some (.int l'),r']∧l'.toNat < l.toNat∧0≤l'∧Int.gcd g' l'=Int.gcd n u∧(l'=0→0 < g'),fun σ' H'' ⟨e,g',l',r',e2,a1,a2,a3,a4⟩=>⟨l'.toNat,a1,e,g',l',r',e2,rfl,a2,a3,a4⟩,?_⟩
  have hl':0 < l:=by omega
  k_extra "rd"
  have:=Int.emod_lt_of_pos g hl'
  have:=Int.emod_nonneg g (by omega:l≠0)
  exact⟨by omega,by omega,by rw[gcd_step hl'];exact hg,fun _=>trivial⟩
 ·have e:l=0:=by omega
  subst e
  have e2:((Int.gcd n u:Nat):Int)=g:=by
   rw[← hg,Int.gcd_zero_right]
   have:=hp rfl
   omega
  rw[e2] at hQ
  exact hQ
theorem ok_lowest(D:DefAt K mg "lowest" s_lowest f fd)(T:Txt K mg cx)(d_common_factor:DefOk P w K mg base CX0 1 "common_factor" ["number","under"] sp_common_factor):DefOk P w K mg base CX0 2 "lowest" ["number","under"] sp_lowest:=by
 refine D.ok (D.q sc_lowest (fun vs H Q E h=>?_) (fun cdv A outer s H vs Q E hr h=>?_)) (D.fn.binds fun _ _ _ _ _ _ us hl=>match us,hl with | [_,_],_=>rfl)
 ·obtain⟨_,_,rfl,_⟩:=h
  rfl
 obtain⟨n,u,rfl,hz,hE,hQ⟩:=h
 refine⟨_,(qss_cons (qs_if (qt_cmpR op_lt (qv 1) qe_int (nomark _)) (qss_one qs_no) qss_nil)
   (qss_cons (qs_sL 2 sc_lowest.nd (qe_g d_common_factor (qa_2 (qv 0) (qv 1))))
   (qss_one (qs_ret (qe_tup (qa_2 (qe_op op_fdivB (qv 0) (qv 2)) (qe_op op_fdivB (qv 1) (qv 2)))))))),?_⟩
 k_extra "rd"
 refine brkD (fun h1=>?_) (fun h1=>?_)
 ·exact (hE h1).elim
 k_extra "rd"
 have h2:0 < u:=by omega
 have hg:=gcd_pos (n:=n) h2
 have hgz:Sz 9000 (Int.gcd n u:Int):=hz.le (by have:=Int.gcd_le_natAbs_right n (b:=u) (by omega);omega)
 exact⟨h2,hg,hgz,hg,hgz,fun p hp=>hQ h2 p hp⟩
theorem ok_below(D:DefAt K mg "below" s_below f fd)(T:Txt K mg cx):DefOk P w K mg base CX0 1 "below" ["one","other"] sp_below:=by
 refine D.ok (D.q sc_below (fun vs H Q E h=>?_) (fun cdv A outer s H vs Q E hr h=>?_)) (D.fn.binds fun _ _ _ _ _ _ us hl=>match us,hl with | [_,_],_=>rfl)
 ·obtain⟨_,_,_,_,_,_,rfl,_⟩:=h
  rfl
 obtain⟨p,q,n1,u1,n2,u2,rfl,hp,hq,z1,z2,z3,z4,hQ⟩:=h
 refine⟨_,(qss_one (qs_ret (qe_cmpR op_lt (qe_op op_mulB (qe_iS (qv 0) qe_int) (qe_iS (qv 1) qe_int)) (qe_op op_mulB (qe_iS (qv 1) qe_int) (qe_iS (qv 0) qe_int)) (nomark _)))),?_⟩
 k_extra "rx"
 exact hQ
theorem ok_one_under(D:DefAt K mg "one_under" s_one_under f fd)(T:Txt K mg cx)(d_common_factor:DefOk P w K mg base CX0 1 "common_factor" ["number","under"] sp_common_factor):DefOk P w K mg base CX0 2 "one_under" ["row"] sp_one_under:=by
 refine D.ok (D.q sc_one_under (fun vs H Q E h=>?_) (fun cdv A outer s H vs Q E hr h=>?_)) (D.fn.binds fun _ _ _ _ _ _ us hl=>match us,hl with | [_],_=>rfl)
 ·obtain⟨_,_,_,_,_,rfl,_⟩:=h
  rfl
 obtain⟨L,xs,ps,U,k,rfl,hL,hU,hR,hk,hlen,hQ⟩:=h
 refine⟨_,(qss_cons (qs_sL 1 sc_one_under.nd qe_int)
   (qss_cons (qs_for PassesOwn.never rfl (qi_listK (K:=K) rfl (qv 0)) (qg_name (i:=2) sc_one_under.nd rfl (Or.inl rfl)) (qss_one (qs_sL 1 sc_one_under.nd (qe_op op_mulB (qe_op op_fdivB (qv 1) (qe_g d_common_factor (qa_2 (qv 1) (qe_iS (qv 2) qe_int)))) (qe_iS (qv 2) qe_int)))))
   (qss_one (qs_ret (qv 1))))),?_⟩
 have go:∀ i,0 < undP (ps.take i)∧Sz 4000 (undP (ps.take i)):=fun i=>by
  obtain⟨a,b,_⟩:=undP_ok (U:=U) (l:=ps.take i) fun p hp=>(hR.mem p (List.mem_of_mem_take hp)).toOk
  exact⟨a,hU.sz.le (le_of_dvd' b hU.pos)⟩
 refine⟨_,rfl,L,rfl,⟨_,SqL.of hL⟩,for_list (K:=K) (a:=L) (xs:=xs) (fun i σ H2=>∃ v,σ=[some (.ref L),some (.int (undP (ps.take i))),v]∧H2=H)
  ⟨none,rfl,rfl⟩ (fun i σ H2 _ ⟨_,_,e⟩=>by rw[e];exact SqL.of hL) ?_ ?_⟩
 ·rintro i y σ H2 hy ⟨v,rfl,rfl⟩
  have hi:i < xs.length:=(List.getElem?_eq_some_iff.mp hy).1
  have hi2:i < ps.length:=by rw[← hR.1];exact hi
  obtain⟨q,eq,hq,po⟩:=hR.2 i ps[i] (List.getElem?_eq_getElem hi2)
  rw[eq] at hy
  cases hy
  have e:undP (ps.take (i+1))=und1 (undP (ps.take i)) ps[i]:=undP_succ hi2
  obtain⟨h0,z⟩:=go i
  rw[e]
  clear e go hR
  have hu:=po.pos
  have zu:=po.toOk.usz hU
  generalize undP (ps.take i)=R at h0 z ⊢
  generalize ps[i]=P at hq hu zu ⊢
  have hg:=gcd_pos (n:=R) hu
  have zg:Sz 9000 (Int.gcd R P.2:Int):=Sz.mono (Sz.le zu (by have:=Nat.le_of_dvd (by omega) (Int.gcd_dvd_natAbs_right R P.2);omega)) (by decide)
  have zd:Sz 4000 (R / (Int.gcd R P.2:Int)):=Sz.le z (natAbs_div_le _ _)
  have om:IntMulOk (R / (Int.gcd R P.2:Int)) P.2:=zd.ok zu (by decide)
  k_extra "rd"
  rfl
 ·rintro σ H2 ⟨v,rfl,rfl⟩
  have e:ps.take xs.length=ps:=by rw[hR.1,List.take_length]
  rw[e]
  exact⟨_,rfl,hQ⟩
theorem ok_numbers_over(D:DefAt K mg "numbers_over" s_numbers_over f fd)(T:Txt K mg cx):DefOk P w K mg base CX0 1 "numbers_over" ["row","under"] sp_numbers_over:=by
 refine D.ok (D.q sc_numbers_over (fun vs H Q E h=>?_) (fun cdv A outer s H vs Q E hr h=>?_)) (D.fn.binds fun _ _ _ _ _ _ us hl=>match us,hl with | [_,_],_=>rfl)
 ·obtain⟨_,_,_,_,_,_,rfl,_⟩:=h
  rfl
 obtain⟨L,U,xs,ps,V0,k0,rfl,hL,hV,hR,hk,hlen,zU,hQ⟩:=h
 refine⟨_,(qss_one (qs_ret (qe_cp ["part"] [("under", 1)] (qi_listK (K:=K) rfl (qv 0)) (gext_name (by decide)) (fun _ _ _ _ _=>⟨(qg_name (i:=0) (show (["part","under"]:List Str).Nodup by decide +kernel) rfl (Or.inl rfl)),qf_nil,(qe_op op_mulB (qe_iS (qv 0) qe_int) (qe_op op_fdivB (qv 1) (qe_iS (qv 0) qe_int)))⟩)))),?_⟩
 refine⟨_,rfl,L,rfl,⟨_,SqL.of hL⟩,fun l hl=>comp_list (K:=K) (a:=L) (xs:=xs) (fun i acc H2=>acc=(numsP U (ps.take i)).map V.int∧H2=upd H l (.lst acc)) ⟨rfl,rfl⟩ (fun i acc H2 _ ⟨_,e⟩=>by rw[e];exact SqL.of ((Same.new hl) _ _ hL)) ?_ ?_⟩
 ·rintro i y acc H2 hy ⟨rfl,rfl⟩
  have hi:i < xs.length:=(List.getElem?_eq_some_iff.mp hy).1
  have hi2:i < ps.length:=by rw[← hR.1];exact hi
  obtain⟨q,eq,hq,po⟩:=hR.2 i ps[i] (List.getElem?_eq_getElem hi2)
  have hu:=po.pos
  have zu:=po.toOk.usz hV
  have zn:=(po.nsz hV.pos).mono hk
  clear po
  rw[eq] at hy
  cases hy
  have hq2:=(Same.new (o:=.lst ((numsP U (ps.take i)).map V.int)) hl) _ _ hq
  have e:numsP U (ps.take (i+1))=numsP U (ps.take i)++[ps[i].1*(U / ps[i].2)]:=by
   unfold numsP
   rw[List.take_succ_eq_append_getElem hi2,List.map_append]
   rfl
  have len:(numsP U (ps.take i)).length≤16:=by unfold numsP;rw[List.length_map,List.length_take];omega
  have k1:upd H l (.lst ((numsP U (ps.take i)).map V.int)) l=_:=upd_same
  have k2:∀ o,upd (upd H l (.lst ((numsP U (ps.take i)).map V.int))) l o=upd H l o:=fun o=>upd_upd
  rw[e]
  generalize numsP U (ps.take i)=A at hq2 len k1 k2 ⊢
  generalize ps[i]=P at hq hu zn zu hq2 ⊢
  generalize upd H l (.lst (A.map V.int))=H3 at hq2 k1 k2 ⊢
  have om:IntMulOk P.1 (U / P.2):=zn.ok (Sz.le zU (natAbs_div_le _ _)) (by decide)
  have zu9:Sz 9000 P.2:=zu.mono (by decide)
  simp only[gName_ap,tYes,if_true]
  clear hR hL hQ
  k_extra "rd"
  exact⟨small1000 (by omega),by rw[List.map_append];rfl⟩
 ·rintro acc H2 ⟨rfl,rfl⟩
  have e:ps.take xs.length=ps:=by rw[hR.1,List.take_length]
  rw[e]
  exact hQ l hl
theorem ok__law_bag(D:DefAt K mg "_law_bag" s__law_bag f fd)(T:Txt K mg cx):DefOk P w K mg base CX0 1 "_law_bag" ["_law_script"] (sp__law_bag K cx):=by
 refine D.ok (D.q sc__law_bag (fun vs H Q E h=>?_) (fun cdv A outer s H vs Q E hr h=>?_)) (D.fn.binds fun _ _ _ _ _ _ us hl=>match us,hl with | [_],_=>rfl)
 ·obtain⟨_,_,rfl,_⟩:=h
  rfl
 obtain⟨a,ns,rfl,hS,hl,hQ⟩:=h
 have hc:cutV (List.map V.int ns) none (some (63:Int))=List.map V.int ns:=cutV_all (k:=63) (by rw[List.length_map];exact hl)
 refine⟨_,(qss_cons (qs_sL 1 sc__law_bag.nd (qe_callB call_lenF (by rfl) T.n_len bt_len (qa_1 (qe_slice sl_list (qv 0) qo_none (qo_some qe_int)))))
   (qss_cons (qs_for PassesOwn.never rfl (qi_listK (K:=K) rfl (qe_slice sl_list (qv 0) qo_none (qo_some qe_int))) (qg_name (i:=2) sc__law_bag.nd rfl (Or.inl rfl)) (qss_one (qs_sL 1 sc__law_bag.nd (qe_op op_mod (qe_op op_add (qe_op op_mulB (qv 1) qe_int) (qv 2)) qe_int))))
   (qss_one (qs_ret (qe_lst (qa_cons (qe_callTy call_listF (by rfl) T.n_list bt_list (qa_1 (qe_slice sl_list (qv 0) qo_none (qo_some qe_int)))) (qa_cons qe_int (qa_cons qe_int (qa_cons (qv 1) qa_nil))))))))),?_⟩
 refine⟨_,rfl,_,rfl,a,_,rfl,hS,fun p hp=>?_⟩
 rw[hc]
 refine⟨p,_,rfl,by unfold seqAt;rw[upd_same],?_⟩
 have s1:Same H (upd H p (.lst (List.map V.int ns))):=Same.new hp
 refine⟨_,rfl,_,rfl,a,_,rfl,s1.seq hS,fun p2 hp2=>?_⟩
 rw[hc]
 have s2:Same H (upd (upd H p (.lst (List.map V.int ns))) p2 (.lst (List.map V.int ns))):=s1.trans (Same.new hp2)
 refine⟨p2,rfl,⟨_,SqL.of upd_same⟩,for_list (K:=K) (a:=p2) (xs:=List.map V.int ns) (fun i σ H2=>∃(z:Int)(v:Option V),σ=[some (.ref a),some (.int z),v]∧Same H H2∧SqL K H2 p2 (List.map V.int ns)) ⟨_,_,rfl,s2,SqL.of upd_same⟩ (fun i σ H2 _ ⟨_,_,_,_,q⟩=>q) ?_ ?_⟩
 ·rintro i y σ H2 hy ⟨z,v,rfl,s3,hp3⟩
  obtain⟨k,rfl⟩:∃ k,y=V.int k:=by
   rw[List.getElem?_map] at hy
   cases e:ns[i]? with
   | none=>rw[e] at hy;cases hy
   | some k=>rw[e] at hy;exact⟨k,(Option.some.inj hy).symm⟩
  k_extra "rd"
  exact⟨Sz.okR (k:=10) (by decide) (by decide),_,rfl⟩
 ·rintro σ H2 ⟨z,v,rfl,s3,hp3⟩
  refine⟨_,rfl,_,rfl,a,_,rfl,s3.seq hS,fun p4 hp4=>?_⟩
  rw[hc]
  refine⟨p4,_,rfl,by unfold seqAt;rw[upd_same],fun L hL=>?_⟩
  k_extra "rd"
  intro B hB
  have s5:=(s3.trans (Same.new (o:=.lst (List.map V.int ns)) hp4)).trans (Same.new (o:=.lst (List.map V.int ns)) hL)
  have nBL:L≠B:=fun e=>by rw[← e,upd_same] at hB;cases hB
  refine hQ B L _ (s5.trans (Same.new hB)) (s5.free hB) ⟨ns,0,0,z,upd_same,?_,by omega⟩
  rw[upd_ne nBL,upd_same]
theorem ok__law_pull(D:DefAt K mg "_law_pull" s__law_pull f fd)(T:Txt K mg cx):DefOk P w K mg base CX0 1 "_law_pull" ["_law_bag_here","_law_many_here"] sp__law_pull:=by
 refine D.ok (D.q sc__law_pull (fun vs H Q E h=>?_) (fun cdv A outer s H vs Q E hr h=>?_)) (D.fn.binds fun _ _ _ _ _ _ us hl=>match us,hl with | [_,_],_=>rfl)
 ·obtain⟨_,_,_,rfl,_⟩:=h
  rfl
 obtain⟨B,m,L,rfl,⟨ns,i,r,salt,hB,hL,hi⟩,hm,hz,hQ⟩:=h
 have nLB:L≠B:=ne_of hL hB (by intro e;cases ns<;>cases e)
 refine⟨_,(qss_cons (qs_if (qt_cmpR op_le (qe_iS (qv 0) qe_int) qe_int (nomark _)) (qss_cons (qs_augS (qv 0) qe_int get_list qe_int ip_add set_list)
   (qss_cons (qs_sL 2 sc__law_pull.nd (qe_iS (qv 0) qe_int))
   (qss_cons (qs_if (qt_cmpR op_le (qe_iS (qv 0) qe_int) (qe_callB call_lenF (by rfl) T.n_len bt_len (qa_1 (qe_iS (qv 0) qe_int))) (nomark _)) (qss_one (qs_sL 2 sc__law_pull.nd (qe_iS (qe_iS (qv 0) qe_int) (qe_op op_sub (qe_iS (qv 0) qe_int) qe_int)))) qss_nil)
   (qss_cons (qs_if (qw_or (qt_cmpR op_gt (qe_iS (qv 0) qe_int) (qe_callB call_lenF (by rfl) T.n_len bt_len (qa_1 (qe_iS (qv 0) qe_int))) (nomark _)) (qw_or1 (qt_cmpR op_lt (qv 2) (qe_op op_pow qe_int qe_int) (nomark _)))).pt (qss_cons (qs_sL 3 sc__law_pull.nd (qe_op op_mod (qe_op op_add (qe_op op_add (qe_op op_mulB (qv 2) qe_int) (qe_op op_mulB (qe_iS (qv 0) qe_int) qe_int)) qe_int) qe_int))
   (qss_cons (qs_sL 3 sc__law_pull.nd (qe_op op_mod (qe_op op_mulB (qv 3) (qv 3)) qe_int))
   (qss_one (qs_ret (qe_op op_mod (qe_op op_fdivB (qe_op op_mod (qe_op op_mulB (qe_op op_add (qv 3) (qe_iS (qv 0) qe_int)) qe_int) qe_int) qe_int) (qv 1)))))) qss_nil)
   (qss_one (qs_asg (qv 2) (qg_sub (qv 0) qe_int set_list))))))) qss_nil)
   (qss_cons (qs_sL 4 sc__law_pull.nd (qe_op op_mod (qe_iS (qv 0) qe_int) (qv 1)))
   (qss_cons (qs_asg (qe_op op_fdivB (qe_iS (qv 0) qe_int) (qv 1)) (qg_sub (qv 0) qe_int set_list))
   (qss_one (qs_ret (qv 4)))))),?_⟩
 refine seq_cut (fun σ' H'=>∃ i' r' v2 v3,σ'=[some (.ref B),some (.int m),v2,v3,none]∧H' B=some (.lst [.ref L,.int i',.int r',.int salt])∧0≤i'∧Fr1 B H H') ?_ fun tb' key=>?_
 ·rintro σ H1 ⟨i',r',v2,v3,rfl,hB1,hi1,f1⟩
  clear hB
  k_extra "rx"
  refine i_setN hB1 rfl rfl fun H2 hB2 f2=>?_
  k_extra "rx"
  exact hQ _ _ (Int.emod_nonneg _ (Int.ne_of_gt hm)) (Int.emod_lt_of_pos _ hm) ⟨ns,i',_,salt,hB2,f2 _ _ nLB (f1 _ _ nLB hL),hi1⟩ (f1.trans f2)
 k_extra "rx"
 refine brkD (fun h1=>?_) (fun h1=>?_)
 ·k_extra "rx"
  refine i_setN hB rfl rfl fun H1 s1 f1=>?_
  have hL1:=f1 _ _ nLB hL
  have i1:0≤i+1:=Int.le_add_one hi
  clear hB
  k_extra "rx"
  refine brkD (fun h2=>?_) (fun h2=>?_)
  ·obtain⟨v,e,hv⟩:=atI_lt (xs:=List.map V.int ns) (i:=i+1 - 1) (by omega) (by omega)
   obtain⟨z,_,rfl⟩:=List.mem_map.mp hv
   k_extra "rx"
   refine i_brkN (by omega) ?_
   k_extra "rx"
   refine brkD (fun h4=>?_) (fun h4=>?_)
   ·k_extra "rx"
    exact hQ _ _ (Int.emod_nonneg _ (Int.ne_of_gt hm)) (Int.emod_lt_of_pos _ hm) ⟨ns,_,_,salt,s1,hL1,i1⟩ f1
   ·k_extra "rx"
    refine i_setN s1 rfl rfl fun H2 s2 f2=>?_
    exact key _ _ ⟨_,_,_,_,rfl,s2,i1,f1.trans f2⟩
  ·k_extra "rx"
   refine i_brkP (by omega) ?_
   k_extra "rx"
   exact hQ _ _ (Int.emod_nonneg _ (Int.ne_of_gt hm)) (Int.emod_lt_of_pos _ hm) ⟨ns,_,_,salt,s1,hL1,i1⟩ f1
 ·k_extra "rx"
  exact key _ _ ⟨_,_,_,_,rfl,hB,hi,Fr1.refl⟩
theorem ok__law_gcd(D:DefAt K mg "_law_gcd" s__law_gcd f fd)(T:Txt K mg cx):DefOk P w K mg base CX0 1 "_law_gcd" ["_law_one","_law_other"] sp__law_gcd:=by
 refine D.ok (D.q sc__law_gcd (fun vs H Q E h=>?_) (fun cdv A outer s H vs Q E hr h=>?_)) (D.fn.binds fun _ _ _ _ _ _ us hl=>match us,hl with | [_,_],_=>rfl)
 ·obtain⟨_,_,rfl,_⟩:=h
  rfl
 obtain⟨n,u,rfl,hQ⟩:=h
 refine⟨_,(qss_cons (qs_sL 0 sc__law_gcd.nd (qe_callB call_abs (by rfl) T.n_abs bt_abs (qa_1 (qv 0))))
   (qss_cons (qs_sL 1 sc__law_gcd.nd (qe_callB call_abs (by rfl) T.n_abs bt_abs (qa_1 (qv 1))))
   (qss_cons (qs_while PassesOwn.never (qt_cmpR op_ne (qv 1) qe_int (nomark _)) (qss_one (qs_par (i:=0) (j:=1) rfl sc__law_gcd.nd rfl rfl (by decide) rfl rfl (qa_2 (qv 1) (qe_op op_mod (qv 0) (qv 1))) rfl)))
   (qss_one (qs_ret (qv 0)))))),?_⟩
 k_extra "rd"
 have en:(if n < 0 then -n else n)=(n.natAbs:Int):=by split<;>omega
 have eu:(if u < 0 then -u else u)=(u.natAbs:Int):=by split<;>omega
 rw[en,eu]
 refine⟨fun m σ H'=>H'=H∧∃(g l:Int),σ=[some (.int g),some (.int l)]∧m=l.toNat∧0≤l∧0≤g∧Int.gcd g l=Int.gcd n u,⟨_,rfl,_,_,rfl,rfl,by omega,by omega,by rw[Int.gcd_eq_natAbs_gcd_natAbs n u];rfl⟩,?_⟩
 rintro m σ H' ⟨rfl,g,l,rfl,rfl,h0,hg0,hg⟩
 k_extra "rd"
 refine ite2 (fun hl=>?_) (fun hl=>?_)
 ·have hl':0 < l:=by omega
  refine⟨fun σ' H''=>H''=H'∧∃(g' l':Int),σ'=[some (.int g'),some (.int l')]∧l'.toNat < l.toNat∧0≤l'∧0≤g'∧Int.gcd g' l'=Int.gcd n u,fun σ' H'' ⟨e,g',l',e2,a1,a2,a3,a4⟩=>⟨l'.toNat,a1,e,g',l',e2,rfl,a2,a3,a4⟩,?_⟩
  k_extra "rd"
  have:=Int.emod_lt_of_pos g hl'
  have:=Int.emod_nonneg g (by omega:l≠0)
  exact⟨by omega,by omega,by rw[gcd_step hl'];exact hg⟩
 ·have e:l=0:=by omega
  subst e
  have e2:((Int.gcd n u:Nat):Int)=g:=by
   rw[← hg,Int.gcd_zero_right]
   omega
  rw[e2] at hQ
  exact hQ
theorem ok__law_low(D:DefAt K mg "_law_low" s__law_low f fd)(T:Txt K mg cx)(d__law_gcd:DefOk P w K mg base CX0 1 "_law_gcd" ["_law_one","_law_other"] sp__law_gcd):DefOk P w K mg base CX0 2 "_law_low" ["_law_number","_law_under"] sp__law_low:=by
 refine D.ok (D.q sc__law_low (fun vs H Q E h=>?_) (fun cdv A outer s H vs Q E hr h=>?_)) (D.fn.binds fun _ _ _ _ _ _ us hl=>match us,hl with | [_,_],_=>rfl)
 ·obtain⟨_,_,rfl,_⟩:=h
  rfl
 obtain⟨n,u,rfl,hu,hz,hQ⟩:=h
 refine⟨_,(qss_cons (qs_sL 2 sc__law_low.nd (qe_g d__law_gcd (qa_2 (qv 0) (qv 1))))
   (qss_one (qs_ret (qe_tup (qa_2 (qe_op op_fdivB (qv 0) (qv 2)) (qe_op op_fdivB (qv 1) (qv 2))))))),?_⟩
 have hg:=gcd_pos (n:=n) hu
 have hgz:=gcdZ n hu hz
 k_extra "rd"
 exact fun p hp=>hQ p hp
theorem ok__law_plus(D:DefAt K mg "_law_plus" s__law_plus f fd)(T:Txt K mg cx)(d__law_low:DefOk P w K mg base CX0 2 "_law_low" ["_law_number","_law_under"] sp__law_low):DefOk P w K mg base CX0 3 "_law_plus" ["_law_one","_law_other"] sp__law_plus:=by
 refine D.ok (D.q sc__law_plus (fun vs H Q E h=>?_) (fun cdv A outer s H vs Q E hr h=>?_)) (D.fn.binds fun _ _ _ _ _ _ us hl=>match us,hl with | [_,_],_=>rfl)
 ·obtain⟨_,_,_,_,_,_,rfl,_⟩:=h
  rfl
 obtain⟨p,q,n1,u1,n2,u2,rfl,hp,hq,h1,h2,z1,z2,z3,z4,hQ⟩:=h
 refine⟨_,(qss_one (qs_ret (qe_g d__law_low (qa_2 (qe_op op_add (qe_op op_mulB (qe_iS (qv 0) qe_int) (qe_iS (qv 1) qe_int)) (qe_op op_mulB (qe_iS (qv 1) qe_int) (qe_iS (qv 0) qe_int))) (qe_op op_mulB (qe_iS (qv 0) qe_int) (qe_iS (qv 1) qe_int)))))),?_⟩
 k_extra "rx"
 exact⟨_,_,rfl,mul_pos' h1 h2,(z2.mul z4).mono (by decide),fun r hr=>hQ r hr⟩
theorem ok__law_times(D:DefAt K mg "_law_times" s__law_times f fd)(T:Txt K mg cx)(d__law_low:DefOk P w K mg base CX0 2 "_law_low" ["_law_number","_law_under"] sp__law_low):DefOk P w K mg base CX0 3 "_law_times" ["_law_one","_law_other"] sp__law_times:=by
 refine D.ok (D.q sc__law_times (fun vs H Q E h=>?_) (fun cdv A outer s H vs Q E hr h=>?_)) (D.fn.binds fun _ _ _ _ _ _ us hl=>match us,hl with | [_,_],_=>rfl)
 ·obtain⟨_,_,_,_,_,_,rfl,_⟩:=h
  rfl
 obtain⟨p,q,n1,u1,n2,u2,rfl,hp,hq,h1,h2,z1,z2,z3,z4,hQ⟩:=h
 refine⟨_,(qss_one (qs_ret (qe_g d__law_low (qa_2 (qe_op op_mulB (qe_iS (qv 0) qe_int) (qe_iS (qv 1) qe_int)) (qe_op op_mulB (qe_iS (qv 0) qe_int) (qe_iS (qv 1) qe_int)))))),?_⟩
 k_extra "rx"
 exact⟨_,_,rfl,mul_pos' h1 h2,(z2.mul z4).mono (by decide),fun r hr=>hQ r hr⟩
theorem ok__law_below(D:DefAt K mg "_law_below" s__law_below f fd)(T:Txt K mg cx):DefOk P w K mg base CX0 1 "_law_below" ["_law_one","_law_other"] sp__law_below:=by
 refine D.ok (D.q sc__law_below (fun vs H Q E h=>?_) (fun cdv A outer s H vs Q E hr h=>?_)) (D.fn.binds fun _ _ _ _ _ _ us hl=>match us,hl with | [_,_],_=>rfl)
 ·obtain⟨_,_,_,_,_,_,rfl,_⟩:=h
  rfl
 obtain⟨p,q,n1,u1,n2,u2,rfl,hp,hq,z1,z2,z3,z4,hQ⟩:=h
 refine⟨_,(qss_one (qs_ret (qe_cmpR op_lt (qe_op op_mulB (qe_iS (qv 0) qe_int) (qe_iS (qv 1) qe_int)) (qe_op op_mulB (qe_iS (qv 1) qe_int) (qe_iS (qv 0) qe_int)) (nomark _)))),?_⟩
 k_extra "rx"
 exact hQ
theorem ok__law_sum(D:DefAt K mg "_law_sum" s__law_sum f fd)(T:Txt K mg cx)(d__law_plus:DefOk P w K mg base CX0 3 "_law_plus" ["_law_one","_law_other"] sp__law_plus):DefOk P w K mg base CX0 4 "_law_sum" ["_law_row_here"] sp__law_sum:=by
 refine D.ok (D.q sc__law_sum (fun vs H Q E h=>?_) (fun cdv A outer s H vs Q E hr h=>?_)) (D.fn.binds fun _ _ _ _ _ _ us hl=>match us,hl with | [_],_=>rfl)
 ·obtain⟨_,_,_,_,_,rfl,_⟩:=h
  rfl
 obtain⟨L,xs,ps,U,k,rfl,hL,hU,hR,hk,hlen,hQ⟩:=h
 refine⟨_,(qss_cons (qs_sL 1 sc__law_sum.nd (qe_tup (qa_2 qe_int qe_int)))
   (qss_cons (qs_for PassesOwn.never rfl (qi_listK (K:=K) rfl (qv 0)) (qg_name (i:=2) sc__law_sum.nd rfl (Or.inl rfl)) (qss_one (qs_sL 1 sc__law_sum.nd (qe_g d__law_plus (qa_2 (qv 1) (qv 2))))))
   (qss_one (qs_ret (qv 1))))),?_⟩
 have go:∀ i,i≤16→0 < (sumP (ps.take i)).2∧Sz 20000 (sumP (ps.take i)).1∧Sz 4400 (sumP (ps.take i)).2:=fun i hi=>by
  have a:=sum_pt hU.pos (k:=k) (l:=ps.take i) fun p hp=>hR.mem p (List.mem_of_mem_take hp)
  have hl:(ps.take i).length≤16:=by rw[List.length_take];omega
  exact⟨a.pos,(a.nsz hU.pos).mono (by omega),(a.toOk.usz hU).mono (by decide)⟩
 refine⟨by decide,fun r0 hr0=>?_⟩
 have s0:=Same.new (o:=.tup [.int 0,.int 1]) hr0
 refine⟨_,rfl,L,rfl,⟨_,SqL.of (s0 _ _ hL)⟩,for_list (K:=K) (a:=L) (xs:=xs) (fun i σ H2=>∃ r v,σ=[some (.ref L),some (.ref r),v]∧Same H H2∧H2 r=some (.tup [.int (sumP (ps.take i)).1,.int (sumP (ps.take i)).2]))
  ⟨r0,none,rfl,s0,upd_same⟩ (fun i σ H2 _ ⟨_,_,_,s2,_⟩=>SqL.of (s2 _ _ hL)) ?_ ?_⟩
 ·rintro i y σ H2 hy ⟨r,v,rfl,s2,hr⟩
  have hi:i < xs.length:=(List.getElem?_eq_some_iff.mp hy).1
  have hi2:i < ps.length:=by rw[← hR.1];exact hi
  obtain⟨q,eq,hq,po⟩:=hR.2 i ps[i] (List.getElem?_eq_getElem hi2)
  rw[eq] at hy
  cases hy
  have hq2:=s2 _ _ hq
  have e:sumP (ps.take (i+1))=addP (sumP (ps.take i)) ps[i]:=sumP_succ hi2
  obtain⟨h0,z1,z2⟩:=go i (by omega)
  have hu:=po.pos
  have zu:=(po.toOk.usz hU).mono (by decide:4000≤4400)
  have zn:=(po.nsz hU.pos).mono (by omega:k≤20000)
  rw[e]
  clear e go po hR
  generalize sumP (ps.take i)=S at hr h0 z1 z2 ⊢
  generalize ps[i]=P at hq hu zn zu hq2 ⊢
  k_extra "rd"
  refine⟨r,q,_,_,_,_,rfl,hr,hq2,h0,hu,z1,z2,zn,zu,fun w hw=>?_⟩
  k_extra "rd"
  exact⟨s2.trans (Same.new hw),rfl,rfl⟩
 ·rintro σ H2 ⟨r,v,rfl,s2,hr⟩
  have e:ps.take xs.length=ps:=by rw[hR.1,List.take_length]
  rw[e] at hr
  exact⟨_,rfl,hQ r H2 s2 hr⟩
theorem ok__law_whole(D:DefAt K mg "_law_whole" s__law_whole f fd)(T:Txt K mg cx):DefOk P w K mg base CX0 1 "_law_whole" ["_law_found"] sp__law_whole:=by
 refine D.ok (D.q sc__law_whole (fun vs H Q E h=>?_) (fun cdv A outer s H vs Q E hr h=>?_)) (D.fn.binds fun _ _ _ _ _ _ us hl=>match us,hl with | [_],_=>rfl)
 ·obtain⟨_,rfl,_⟩:=h
  rfl
 obtain⟨n,rfl,hQ⟩:=h
 refine⟨_,(qss_one (qs_ret (qe_and (qe_callB call_isi (by rfl) T.n_isinstance bt_isinstance (qa_2 (qv 0) (qe_bltn (v:=.ty "int") (by rfl) T.n_int bt_int rfl))) (qe_one (qe_not (qe_callB call_isi (by rfl) T.n_isinstance bt_isinstance (qa_2 (qv 0) (qe_bltn (v:=.ty "bool") (by rfl) T.n_bool bt_bool rfl)))))))),?_⟩
 k_extra "rd"
theorem ok__law_many(D:DefAt K mg "_law_many" s__law_many f fd)(T:Txt K mg cx)(d__law_pull:DefOk P w K mg base CX0 1 "_law_pull" ["_law_bag_here","_law_many_here"] sp__law_pull):DefOk P w K mg base CX0 2 "_law_many" ["_law_bag_here"] sp__law_many:=by
 refine D.ok (D.q sc__law_many (fun vs H Q E h=>?_) (fun cdv A outer s H vs Q E hr h=>?_)) (D.fn.binds fun _ _ _ _ _ _ us hl=>match us,hl with | [_],_=>rfl)
 ·obtain⟨_,_,rfl,_⟩:=h
  rfl
 obtain⟨B,L,rfl,hB,hQ⟩:=h
 refine⟨_,(qss_one (qs_ret (qe_iS (qe_lst (qa_cons qe_int (qa_cons qe_int (qa_cons qe_int (qa_cons qe_int (qa_cons qe_int (qa_cons qe_int (qa_cons qe_int qa_nil)))))))) (qe_g d__law_pull (qa_2 (qv 0) qe_int))))),?_⟩
 k_extra "rd"
 intro p hp
 have npB:p≠B:=hB.ne hp
 refine⟨B,7,L,rfl,hB.new hp,by decide,by decide,fun d H2 d0 d1 b2 f2=>?_⟩
 have hp2:=f2 p _ npB upd_same
 obtain⟨x,ex,hx1,hx2⟩:=pick (P:=fun x=>0≤x∧x≤6) [3,2,4,1,5,6,0] d0 d1 (by decide)
 have ex':atI [V.int 3,V.int 2,V.int 4,V.int 1,V.int 5,V.int 6,V.int 0] d=some (.int x):=ex
 k_extra "rd"
 exact hQ x H2 hx1 hx2 b2 ((Fr1.new hp).trans f2)
theorem ok__law_heap(D:DefAt K mg "_law_heap" s__law_heap f fd)(T:Txt K mg cx)(d__law_pull:DefOk P w K mg base CX0 1 "_law_pull" ["_law_bag_here","_law_many_here"] sp__law_pull):DefOk P w K mg base CX0 2 "_law_heap" ["_law_bag_here","_law_many_here"] sp__law_heap:=by
 refine D.ok (D.q sc__law_heap (fun vs H Q E h=>?_) (fun cdv A outer s H vs Q E hr h=>?_)) (D.fn.binds fun _ _ _ _ _ _ us hl=>match us,hl with | [_,_],_=>rfl)
 ·obtain⟨_,_,_,rfl,_⟩:=h
  rfl
 obtain⟨B,m,L,rfl,hB,m0,m6,hQ⟩:=h
 refine⟨_,(qss_cons (qs_if (qw_and (qt_cmpR op_gt (qv 1) qe_int (nomark _)) (qw_and1 (qt_cmpR op_eq (qe_g d__law_pull (qa_2 (qv 0) qe_int)) qe_int (nomark _)))).pt (qss_one (qs_ret (qe_tup (qa_1 (qe_g d__law_pull (qa_2 (qv 0) (qv 1))))))) qss_nil)
   (qss_cons (qs_set (i:=2) sc__law_heap.nd rfl (Or.inr rfl) (qe_g d__law_pull (qa_2 (qv 0) (qe_iS (qe_lst (qa_cons qe_int (qa_cons qe_int (qa_cons qe_int (qa_cons qe_int (qa_cons qe_int (qa_cons qe_int (qa_cons qe_int qa_nil)))))))) (qv 1)))))
   (qss_one (qs_ret (qe_callTy call_tupF (by rfl) T.n_tuple bt_tuple (qa_1 (qe_cp ["_law_place"] [("_law_mask", 2)] (qi_range1 (by rfl) T.n_range (qa_1 (qv 1))) (gext_name (by decide)) (fun _ _ _ _ _=>⟨(qg_name (i:=0) (show (["_law_place","_law_mask"]:List Str).Nodup by decide +kernel) rfl (Or.inl rfl)),(qf_one (qt_cmpR op_eq (qe_op op_mod (qe_op op_fdivB (qv 1) (qe_iS (qe_lst (qa_cons qe_int (qa_cons qe_int (qa_cons qe_int (qa_cons qe_int (qa_cons qe_int (qa_cons qe_int qa_nil))))))) (qv 0))) qe_int) qe_int (nomark _))),(qv 0)⟩)))))))),?_⟩
 refine seq_cut (fun σ' H'=>∃ v2,σ'=[some (.ref B),some (.int m),v2]∧BagAt H' B L∧Fr1 B H H') ?_ fun tb' key=>?_
 ·rintro σ H1 ⟨v2,rfl,hB,fH⟩
  k_extra "rd"
  intro p hp
  have npB:p≠B:=hB.ne hp
  have b9:=hB.new (o:=.lst [.int 1,.int 2,.int 4,.int 8,.int 16,.int 32,.int 64]) hp
  have h9:upd H1 p (.lst [.int 1,.int 2,.int 4,.int 8,.int 16,.int 32,.int 64]) p=_:=upd_same
  have f9:=fH.trans (Fr1.new (B:=B) (o:=.lst [.int 1,.int 2,.int 4,.int 8,.int 16,.int 32,.int 64]) hp)
  generalize upd H1 p (.lst [.int 1,.int 2,.int 4,.int 8,.int 16,.int 32,.int 64])=H9 at b9 h9 f9 ⊢
  obtain⟨x,ex,hx1,hx2⟩:=pick (P:=fun x=>0 < x∧x≤64) [1,2,4,8,16,32,64] m0 (by show m < 7;omega) (by decide)
  have ex':atI [V.int 1,V.int 2,V.int 4,V.int 8,V.int 16,V.int 32,V.int 64] m=some (.int x):=ex
  k_extra "rd"
  refine⟨B,x,L,rfl,b9,hx1,Sz.mono (j:=7) (Sz.of (by omega)) (by decide),fun k H2 e0 e1 b2 f2=>?_⟩
  have f12:=f9.trans f2
  clear ex ex' h9 npB b9 f2 f9
  refine⟨_,rfl,m,rfl,by omega,by omega,fun l hl=>?_⟩
  refine comp_rangeR (k:=m.toNat) (fun i acc H3=>∃ hs:List Int,acc=hs.map V.int∧hs.length≤i∧((∀ x∈hs,0≤x∧x < m)∧(∀ x∈hs,x < i)∧hs.Nodup)∧Fr1 l H2 H3∧H3 l=some (.lst acc)) ⟨[],rfl,Nat.le_refl _,⟨(fun x hx=>by cases hx),(fun x hx=>by cases hx),.nil⟩,Fr1.upd,upd_same⟩ ?_ ?_
  ·rintro i acc H3 hi ⟨hs,rfl,hlen,hb,f3,hl3⟩
   simp only[gName_ap]
   k_extra "rd"
   intro p4 hp4
   have n4:p4≠l:=fun z=>by rw[z,hl3] at hp4;cases hp4
   have h4:upd H3 p4 (.lst [.int 1,.int 2,.int 4,.int 8,.int 16,.int 32]) p4=_:=upd_same
   have l4:=(Same.new (o:=.lst [.int 1,.int 2,.int 4,.int 8,.int 16,.int 32]) hp4) _ _ hl3
   have f4:=f3.trans (Fr1.new (B:=l) (o:=.lst [.int 1,.int 2,.int 4,.int 8,.int 16,.int 32]) hp4)
   generalize upd H3 p4 (.lst [.int 1,.int 2,.int 4,.int 8,.int 16,.int 32])=H4 at h4 l4 f4 ⊢
   obtain⟨y,ey,hy1,hy2⟩:=pick (P:=fun x=>0 < x∧x≤64) [1,2,4,8,16,32] (d:=0+(i:Int)) (by omega) (by show 0+(i:Int) < 6;omega) (by decide)
   have ey':atI [V.int 1,V.int 2,V.int 4,V.int 8,V.int 16,V.int 32] (0+(i:Int))=some (.int y):=ey
   have zy:Sz 9000 y:=Sz.mono (j:=7) (Sz.of (by omega)) (by decide)
   clear ey
   k_extra "rd"
   refine ite2 (fun hc=>?_) (fun hc=>?_)
   ·refine⟨small1000 (by omega),hs++[0+(i:Int)],by rw[List.map_append];rfl,by rw[List.length_append];exact Nat.succ_le_succ hlen,fun z hz=>?_,fun z hz=>?_,?_,f4.trans Fr1.upd⟩
    ·rcases List.mem_append.mp hz with hz | hz
     ·exact hb.1 z hz
     ·rw[List.mem_singleton.mp hz];omega
    ·rcases List.mem_append.mp hz with hz | hz
     ·have:=hb.2.1 z hz;omega
     ·rw[List.mem_singleton.mp hz];omega
    ·refine (List.perm_append_comm (l₁:=hs) (l₂:=[0+(i:Int)])).nodup_iff.mpr (List.nodup_cons.mpr ⟨fun z=>?_,hb.2.2⟩)
     have:=hb.2.1 _ z
     omega
   ·exact⟨hs,rfl,Nat.le_succ_of_le hlen,hb.1,(fun x hx=>by have:=hb.2.1 x hx;omega),hb.2.2⟩
  ·rintro acc H3 ⟨hs,rfl,hlen,hb,f3,hl3⟩
   have nlB:=b2.ne hl
   have nlL:=b2.neL hl
   have same:Same H2 H3:=fun b o hb'=>f3 b o (fun z=>by rw[z,hl] at hb';cases hb') hb'
   refine⟨l,rfl,_,hl3,fun t ht=>?_⟩
   have s4:=same.trans (Same.new (o:=.tup (hs.map V.int)) ht)
   have nt:H t=none:=by
    cases e:H t with
    | none=>rfl
    | some o =>
     have ntB:t≠B:=(b2.keep same).ne ht
     have:=same _ _ (f12 t o ntB e)
     rw[this] at ht
     cases ht
   exact hQ t hs _ nt (b2.keep s4) (f12.trans (Fr1.of s4)) upd_same (by omega) hb.1 hb.2.2
 have fH:Fr1 B H H:=Fr1.refl
 k_extra "rd"
 refine brkD (fun h1=>?_) (fun h1=>?_)
 ·k_extra "rd"
  refine⟨B,3,L,rfl,hB,by decide,by decide,fun d H1 d0 d1 b1 f1=>?_⟩
  k_extra "rd"
  refine brkD (fun h2=>?_) (fun h2=>?_)
  ·k_extra "rd"
   refine⟨B,m,L,rfl,b1,h1,Sz.mono (j:=3) (Sz.of (by omega)) (by decide),fun d2 H2 e0 e1 b2 f2=>?_⟩
   k_extra "rd"
   intro t ht
   have f12:=f1.trans f2
   have nt:H t=none:=by
    cases e:H t with
    | none=>rfl
    | some o =>
     rw[f12 t o (b2.ne ht) e] at ht
     cases ht
   exact hQ t [d2] _ nt (b2.new ht) (f12.trans (Fr1.new ht)) upd_same (by show 1≤6;decide) (fun x hx=>by rw[List.mem_singleton.mp hx];exact⟨e0,e1⟩) (by simp)
  ·k_extra "rd"
   exact key _ _ ⟨_,rfl,b1,f1⟩
 ·k_extra "rd"
  exact key _ _ ⟨_,rfl,hB,fH⟩
theorem ok__law_due(D:DefAt K mg "_law_due" s__law_due f fd)(T:Txt K mg cx)(d__law_low:DefOk P w K mg base CX0 2 "_law_low" ["_law_number","_law_under"] sp__law_low)(d__law_pull:DefOk P w K mg base CX0 1 "_law_pull" ["_law_bag_here","_law_many_here"] sp__law_pull):DefOk P w K mg base CX0 3 "_law_due" ["_law_bag_here","_law_scale"] sp__law_due:=by
 refine D.ok (D.q sc__law_due (fun vs H Q E h=>?_) (fun cdv A outer s H vs Q E hr h=>?_)) (D.fn.binds fun _ _ _ _ _ _ us hl=>match us,hl with | [_,_],_=>rfl)
 ·obtain⟨_,_,_,rfl,_⟩:=h
  rfl
 obtain⟨B,s',L,rfl,hB,s0,s9,hQ⟩:=h
 refine⟨_,(qss_one (qs_ret (qe_g d__law_low (qa_2 (qe_g d__law_pull (qa_2 (qv 0) (qe_op op_add (qv 1) qe_int))) (qe_op op_add qe_int (qe_g d__law_pull (qa_2 (qv 0) (qe_iS (qe_lst (qa_cons qe_int (qa_cons qe_int (qa_cons qe_int (qa_cons qe_int qa_nil))))) (qe_g d__law_pull (qa_2 (qv 0) qe_int)))))))))),?_⟩
 k_extra "rd"
 refine⟨B,s'+1,L,rfl,hB,by omega,Sz.mono (j:=31) (Sz.of (by omega)) (by decide),fun d H1 d0 d1 b1 f1=>?_⟩
 k_extra "rd"
 intro p hp
 have npB:p≠B:=b1.ne hp
 refine⟨B,4,L,rfl,b1.new hp,by decide,by decide,fun e H2 e0 e1 b2 f2=>?_⟩
 have hp2:=f2 p _ npB upd_same
 obtain⟨x,ex,hx1,hx2⟩:=pick (P:=fun x=>0 < x∧x≤60) [1,1,3,60] e0 e1 (by decide)
 have ex':atI [V.int 1,V.int 1,V.int 3,V.int 60] e=some (.int x):=ex
 clear ex
 k_extra "rd"
 refine⟨B,x,L,rfl,b2,hx1,Sz.mono (j:=6) (Sz.of (by omega)) (by decide),fun k H3 k0 k1 b3 f3=>?_⟩
 have hu:0 < 1+k:=by omega
 have zu:Sz 7 (1+k):=Sz.of (by omega)
 have zd:Sz 31 d:=Sz.of (by omega)
 clear ex' hp2
 k_extra "rd"
 refine⟨d,1+k,rfl,hu,zu.mono (by decide),fun q hq=>?_⟩
 obtain⟨r1,r2,r3,r4⟩:=low_red d hu
 have fr:Fr1 B H H3:=f1.trans ((Fr1.new hp).trans (f2.trans f3))
 refine hQ q _ _ _ ?_ (b3.new hq) (fr.trans (Fr1.new hq)) upd_same (du_of d0 (by omega) hu (by omega))
 cases e:H q with
 | none=>rfl
 | some o=>rw[fr q o (b3.ne hq) e] at hq;cases hq
theorem ok__law_ceil(D:DefAt K mg "_law_ceil" s__law_ceil f fd)(T:Txt K mg cx):DefOk P w K mg base CX0 1 "_law_ceil" ["_law_one"] sp__law_ceil:=by
 refine D.ok (D.q sc__law_ceil (fun vs H Q E h=>?_) (fun cdv A outer s H vs Q E hr h=>?_)) (D.fn.binds fun _ _ _ _ _ _ us hl=>match us,hl with | [_],_=>rfl)
 ·obtain⟨_,_,_,rfl,_⟩:=h
  rfl
 obtain⟨p,n,u,rfl,hp,h1,z1,hQ⟩:=h
 refine⟨_,(qss_one (qs_ret (qe_un un_neg (qe_op op_fdivB (qe_un un_neg (qe_iS (qv 0) qe_int)) (qe_iS (qv 0) qe_int))))),?_⟩
 k_extra "rd"
theorem ok__law_heaps(D:DefAt K mg "_law_heaps" s__law_heaps f fd)(T:Txt K mg cx):DefOk P w K mg base CX0 1 "_law_heaps" ["_law_many_here"] sp__law_heaps:=by
 refine D.ok (D.q sc__law_heaps (fun vs H Q E h=>?_) (fun cdv A outer s H vs Q E hr h=>?_)) (D.fn.binds fun _ _ _ _ _ _ us hl=>match us,hl with | [_],_=>rfl)
 ·obtain⟨_,rfl,_⟩:=h
  rfl
 obtain⟨m,rfl,m6,hQ⟩:=h
 refine⟨_,(qss_cons (qs_sL 1 sc__law_heaps.nd (qe_lst (qa_1 (qe_tup qa_nil))))
   (qss_cons (qs_for PassesOwn.never rfl (qi_range1 (by rfl) T.n_range (qa_1 (qv 0))) (qg_name (i:=2) sc__law_heaps.nd rfl (Or.inr rfl)) (qss_one (qs_sL 1 sc__law_heaps.nd (qe_op op_cat (qv 1) (qe_cp ["_law_heap_here"] [("_law_place", 2)] (qi_listK (K:=K) rfl (qv 1)) (gext_name (by decide)) (fun _ _ _ _ _=>⟨(qg_name (i:=0) (show (["_law_heap_here","_law_place"]:List Str).Nodup by decide +kernel) rfl (Or.inl rfl)),qf_nil,(qe_op op_catA (qv 0) (qe_tup (qa_1 (qv 1))))⟩))))))
   (qss_one (qs_ret (qv 1))))),?_⟩
 refine⟨by show 0≤sizeLine;decide,fun t0 ht0=>⟨by show 1≤sizeLine;decide,fun F0 hF0=>?_⟩⟩
 have s0:=(Same.new (o:=.tup []) ht0).trans (Same.new (o:=.lst [.ref t0]) hF0)
 have k0:=(Same.new (o:=.lst [.ref t0]) hF0) t0 _ upd_same
 have n0:H F0=none:=(Same.new (o:=.tup []) ht0).free hF0
 have j0:upd (upd H t0 (.tup [])) F0 (.lst [.ref t0]) F0=_:=upd_same
 generalize upd (upd H t0 (.tup [])) F0 (.lst [.ref t0])=H0 at s0 k0 j0 ⊢
 refine⟨_,rfl,(m:Int),rfl,by omega,by omega,for_range (lo:=0) (n:=((m:Nat):Int).toNat) (fun i σ H2=>∃ F xs v,σ=[some (.int (m:Int)),some (.ref F),v]∧Same H H2∧H F=none∧H2 F=some (.lst xs)∧SubsAt H2 xs (2 ^ i)) ⟨F0,[.ref t0],none,rfl,s0,n0,j0,?_⟩ ?_ ?_⟩
 ·refine⟨rfl,fun i hi=>?_⟩
  have:i=0:=by have:i < 1:=hi;omega
  subst this
  exact⟨t0,rfl,k0⟩
 ·rintro i σ H2 hi ⟨F,xs,v,rfl,s2,nF,hF,hS⟩
  have hi6:i < 6:=by omega
  have hl:=hS.1
  have l64:2 ^ i≤32:=by
   have:i=0∨i=1∨i=2∨i=3∨i=4∨i=5:=by omega
   rcases this with rfl | rfl | rfl | rfl | rfl | rfl<;>decide
  simp only[gName_ap]
  refine⟨_,rfl,_,rfl,F,rfl,⟨_,SqL.of hF⟩,fun l hl'=>?_⟩
  refine comp_listR (K:=K) (a:=F) (xs:=xs) (fun j acc H3=>Same H2 H3∧H3 l=some (.lst acc)∧acc.length=j∧∀ q,q < j→∃ t,acc[q]?=some (.ref t)∧H3 t=some (.tup ((Srt.sub (2 ^ i+q)).map V.int))) ⟨Same.new hl',upd_same,rfl,fun q hq=>by omega⟩ (fun j acc H3 _ ⟨s3,_⟩=>SqL.of (s3 _ _ hF)) ?_ ?_
  ·rintro j y acc H3 hy ⟨s3,hl3,hj,hA⟩
   have hjl:=(List.getElem?_eq_some_iff.mp hy).1
   have hj2:j < 2 ^ i:=by omega
   obtain⟨t,et,ht⟩:=hS.2 j hj2
   rw[et] at hy
   cases hy
   simp only[gName_ap,tYes,if_true]
   refine⟨_,rfl,_,rfl,by show 1≤sizeLine;decide,fun q hq=>?_⟩
   have s4:=Same.new (o:=.tup [.int (0+(i:Int))]) hq
   refine⟨t,q,(Srt.sub j).map V.int,[.int (0+(i:Int))],rfl,rfl,s4 _ _ (s3 _ _ ht),upd_same,by simp,?_,fun r H5 s5 hr=>?_⟩
   ·show ((Srt.sub j).map V.int).length+1≤sizeLine
    rw[List.length_map]
    have:(Srt.sub j).length≤6:=by
     unfold Srt.sub
     rw[List.length_map]
     exact Nat.le_trans (List.length_filter_le _ _) (by rw[List.length_range];exact Nat.le_refl _)
    exact Nat.le_of_lt (small1000 (by omega))
   ·have s35:=s4.trans s5
    have hl5:=s35 _ _ hl3
    have nrl:r≠l:=fun z=>by rw[z,hl5] at hr;cases hr
    refine⟨hl5,small1000 (by omega),fun b o hb=>?_,upd_same,by rw[List.length_append,hj];rfl,fun q hq=>?_⟩
    ·have nb:b≠l:=fun z=>by rw[z,hl'] at hb;cases hb
     rw[upd_ne nb]
     exact s35 _ _ (s3 _ _ hb)
    ·by_cases hqj:q < j
     ·obtain⟨t',e',h'⟩:=hA q hqj
      have h5:=s35 _ _ h'
      have ntl:t'≠l:=fun z=>by rw[z,hl5] at h5;cases h5
      exact⟨t',by rw[List.getElem?_append_left (by omega)];exact e',by rw[upd_ne ntl];exact h5⟩
     ·have e:q=acc.length:=by omega
      subst e
      refine⟨r,by rw[List.getElem?_append_right (Nat.le_refl _),Nat.sub_self];rfl,?_⟩
      rw[upd_ne nrl,hr,hj,sub_add i hi6 j hj2,List.map_append,Int.zero_add]
      rfl
  ·rintro acc H3 ⟨s3,hl3,hj,hA⟩
   have hF3:=s3 _ _ hF
   refine⟨F,l,xs,acc,rfl,rfl,hF3,hl3,?_,fun G hG=>?_⟩
   ·exact Nat.le_of_lt (small1000 (by omega))
   ·have s4:=Same.new (o:=.lst (xs++acc)) hG
    refine⟨G,xs++acc,_,rfl,s2.trans (s3.trans s4),(s2.trans s3).free hG,upd_same,?_,fun q hq=>?_⟩
    ·rw[List.length_append,hj,hl,Nat.pow_succ]
     omega
    ·rw[Nat.pow_succ] at hq
     by_cases hq1:q < 2 ^ i
     ·obtain⟨t',e',h'⟩:=hS.2 q hq1
      exact⟨t',by rw[List.getElem?_append_left (by omega)];exact e',s4 _ _ (s3 _ _ h')⟩
     ·obtain⟨t',e',h'⟩:=hA (q - 2 ^ i) (by omega)
      have eq:2 ^ i+(q - 2 ^ i)=q:=by omega
      rw[eq] at h'
      exact⟨t',by rw[List.getElem?_append_right (by omega),hl];exact e',s4 _ _ h'⟩
 ·rintro σ H2 ⟨F,xs,v,rfl,s2,nF,hF,hS⟩
  have em:((m:Nat):Int).toNat=m:=Int.toNat_natCast m
  rw[em] at hS
  exact⟨_,rfl,hQ F xs H2 s2 nF hF hS⟩
theorem ok__law_lies(D:DefAt K mg "_law_lies" s__law_lies f fd)(T:Txt K mg cx):DefOk P w K mg base CX0 1 "_law_lies" ["_law_touched","_law_heap_here"] sp__law_lies:=by
 refine D.ok (D.q sc__law_lies (fun vs H Q E h=>?_) (fun cdv A outer s H vs Q E hr h=>?_)) (D.fn.binds fun _ _ _ _ _ _ us hl=>match us,hl with | [_,_],_=>rfl)
 ·obtain⟨_,_,_,_,rfl,_⟩:=h
  rfl
 obtain⟨t,h,ts,hs,rfl,ht,hh,hl,hQ⟩:=h
 refine⟨_,(qss_one (qs_ret (qe_callB (call_allF rfl) (by rfl) T.n_all bt_all (qa_1 (qe_cp ["_law_place"] [("_law_heap_here", 1)] (qi_tupK (K:=K) rfl (qv 0)) (gext_name (by decide)) (fun _ _ _ _ _=>⟨(qg_name (i:=0) (show (["_law_place","_law_heap_here"]:List Str).Nodup by decide +kernel) rfl (Or.inl rfl)),qf_nil,(qe_cmpR (op_inK (K:=K) rfl) (qv 0) (qv 1) (by rfl))⟩)))))),?_⟩
 refine⟨_,rfl,t,rfl,⟨_,SqT.of ht⟩,fun l hl'=>comp_tupR (K:=K) (a:=t) (xs:=ts.map V.int) (fun i acc H2=>acc=((ts.take i).map fun x=>decide (x∈hs)).map V.bl∧H2=upd H l (.lst acc)) ⟨rfl,rfl⟩ (fun i acc H2 _ ⟨_,e⟩=>by rw[e];exact SqT.of ((Same.new hl') _ _ ht)) ?_ ?_⟩
 ·rintro i y acc H2 hy ⟨rfl,rfl⟩
  obtain⟨hi,rfl⟩:=int_at hy
  simp only[gName_ap,tYes,if_true]
  refine⟨_,rfl,_,rfl,h,hs.map V.int,rfl,.inr (SqT.of ((Same.new hl') _ _ hh)),rfl,flat_ints hs,upd_same,small1000 (by simp only[List.length_map,List.length_take];omega),?_,upd_upd⟩
  rw[take_map_succ _ hi,List.map_append,inV_int]
  rfl
 ·rintro acc H2 ⟨rfl,rfl⟩
  have e:ts.take (ts.map V.int).length=ts:=by rw[List.length_map,List.take_length]
  rw[e]
  refine⟨l,ts.map fun x=>decide (x∈hs),rfl,upd_same,?_⟩
  have e2:(ts.map fun x=>decide (x∈hs)).all id=lies ts hs:=by unfold lies;rw[List.all_map];rfl
  rw[e2]
  exact hQ _ (Same.new hl')
theorem ok__law_worth(D:DefAt K mg "_law_worth" s__law_worth f fd)(T:Txt K mg cx):DefOk P w K mg base CX0 1 "_law_worth" ["_law_worths_here","_law_heap_here"] sp__law_worth:=by
 refine D.ok (D.q sc__law_worth (fun vs H Q E h=>?_) (fun cdv A outer s H vs Q E hr h=>?_)) (D.fn.binds fun _ _ _ _ _ _ us hl=>match us,hl with | [_,_],_=>rfl)
 ·obtain⟨_,_,_,_,rfl,_⟩:=h
  rfl
 obtain⟨w,h,ws,hs,rfl,hw,hh,hl,hb,hQ⟩:=h
 refine⟨_,(qss_one (qs_ret (qe_callB (call_sumF rfl) (by rfl) T.n_sum bt_sum (qa_1 (qe_cp ["_law_place"] [("_law_worths_here", 0)] (qi_tupK (K:=K) rfl (qv 1)) (gext_name (by decide)) (fun _ _ _ _ _=>⟨(qg_name (i:=0) (show (["_law_place","_law_worths_here"]:List Str).Nodup by decide +kernel) rfl (Or.inl rfl)),qf_nil,(qe_iS (qv 1) (qv 0))⟩)))))),?_⟩
 refine⟨_,rfl,h,rfl,⟨_,SqT.of hh⟩,fun l hl'=>comp_tupR (K:=K) (a:=h) (xs:=hs.map V.int) (fun i acc H2=>acc=((hs.take i).map fun x=>ws.getD x.toNat 0).map V.int∧H2=upd H l (.lst acc)) ⟨rfl,rfl⟩ (fun i acc H2 _ ⟨_,e⟩=>by rw[e];exact SqT.of ((Same.new hl') _ _ hh)) ?_ ?_⟩
 ·rintro i y acc H2 hy ⟨rfl,rfl⟩
  obtain⟨hi,rfl⟩:=int_at hy
  simp only[gName_ap,tYes,if_true]
  obtain⟨x0,x1⟩:=hb hs[i] (List.getElem_mem hi)
  refine⟨_,rfl,_,rfl,w,ws.map V.int,_,_,rfl,rfl,seqAt_lst ((Same.new hl') _ _ hw),atI_ints x0 x1,upd_same,small1000 (by simp only[List.length_map,List.length_take];omega),?_,upd_upd⟩
  rw[take_map_succ _ hi,List.map_append]
  rfl
 ·rintro acc H2 ⟨rfl,rfl⟩
  have e:hs.take (hs.map V.int).length=hs:=by rw[List.length_map,List.take_length]
  rw[e]
  refine⟨l,hs.map fun x:Int=>ws.getD x.toNat 0,rfl,upd_same,?_⟩
  exact hQ _ (Same.new hl')
theorem ok_total(D:DefAt K mg "total" s_total f fd)(T:Txt K mg cx)(d_one_under:DefOk P w K mg base CX0 2 "one_under" ["row"] sp_one_under)(d_lowest:DefOk P w K mg base CX0 2 "lowest" ["number","under"] sp_lowest)(d_numbers_over:DefOk P w K mg base CX0 1 "numbers_over" ["row","under"] sp_numbers_over):DefOk P w K mg base CX0 3 "total" ["row"] sp_total:=by
 refine D.ok (D.q sc_total (fun vs H Q E h=>?_) (fun cdv A outer s H vs Q E hr h=>?_)) (D.fn.binds fun _ _ _ _ _ _ us hl=>match us,hl with | [_],_=>rfl)
 ·obtain⟨_,_,_,_,_,rfl,_⟩:=h
  rfl
 obtain⟨L,xs,ps,V0,k,rfl,hL,hV,hR,hk,hlen,hQ⟩:=h
 have hpos:∀ p∈ps,0 < p.2:=fun p hp=>(hR.mem p hp).pos
 obtain⟨U0,dU,_⟩:=undP_ok (U:=V0) (l:=ps) fun p hp=>(hR.mem p hp).toOk
 have zU:=hV.sz.le (le_of_dvd' dU hV.pos)
 obtain⟨t1,t2⟩:=total_eq hpos
 refine⟨_,(qss_cons (qs_sL 1 sc_total.nd (qe_g d_one_under (qa_1 (qv 0))))
   (qss_one (qs_ret (qe_g d_lowest (qa_2 (qe_callB (call_sumF rfl) (by rfl) T.n_sum bt_sum (qa_1 (qe_g d_numbers_over (qa_2 (qv 0) (qv 1))))) (qv 1)))))),?_⟩
 refine⟨_,rfl,L,xs,ps,V0,k,rfl,hL,hV,hR,hk,hlen,?_⟩
 generalize undP ps=U at U0 zU t1 t2 dU ⊢
 k_extra "rd"
 refine⟨L,U,xs,ps,V0,k,rfl,hL,hV,hR,hk,hlen,zU,fun l hl=>?_⟩
 k_extra "rd"
 refine⟨_,rfl,_,_,rfl,zU.mono (by decide),fun h=>absurd h (by omega),fun _ p hp=>hQ p _ ((Same.new hl).trans (Same.new hp)) ?_⟩
 rw[upd_same,← t1,← t2]
theorem ok__law_truth(D:DefAt K mg "_law_truth" s__law_truth f fd)(T:Txt K mg cx):DefOk P w K mg base CX0 1 "_law_truth" ["_law_found","_law_due_here"] sp__law_truth:=by
 refine D.ok (D.q sc__law_truth (fun vs H Q E h=>?_) (fun cdv A outer s H vs Q E hr h=>?_)) (D.fn.binds fun _ _ _ _ _ _ us hl=>match us,hl with | [_,_],_=>rfl)
 ·obtain⟨_,_,rfl,_⟩:=h
  rfl
 obtain⟨b,c,rfl,hQ⟩:=h
 refine⟨_,(qss_one (qs_ret (qe_and (qe_callB call_isi (by rfl) T.n_isinstance bt_isinstance (qa_2 (qv 0) (qe_bltn (v:=.ty "bool") (by rfl) T.n_bool bt_bool rfl))) (qe_one (qe_cmpR op_eq (qv 0) (qv 1) (nomark _)))))),?_⟩
 k_extra "rd"
theorem ok__law_pair(D:DefAt K mg "_law_pair" s__law_pair f fd)(T:Txt K mg cx)(d__law_gcd:DefOk P w K mg base CX0 1 "_law_gcd" ["_law_one","_law_other"] sp__law_gcd)(d__law_whole:DefOk P w K mg base CX0 1 "_law_whole" ["_law_found"] sp__law_whole):DefOk P w K mg base CX0 2 "_law_pair" ["_law_found"] sp__law_pair:=by
 refine D.ok (D.q sc__law_pair (fun vs H Q E h=>?_) (fun cdv A outer s H vs Q E hr h=>?_)) (D.fn.binds fun _ _ _ _ _ _ us hl=>match us,hl with | [_],_=>rfl)
 ·obtain⟨_,_,_,rfl,_⟩:=h
  rfl
 obtain⟨p,n,u,rfl,hp,hu,hg,hz,hQ⟩:=h
 refine⟨_,(qss_cons (qs_if (qw_or (qt_not (qt_val (qe_callB call_isi (by rfl) T.n_isinstance bt_isinstance (qa_2 (qv 0) (qe_bltn (v:=.ty "tuple") (by rfl) T.n_tuple bt_tuple rfl))))) (qw_or1 (qt_cmpR op_ne (qe_callB call_lenF (by rfl) T.n_len bt_len (qa_1 (qv 0))) qe_int (nomark _)))).pt (qss_one (qs_ret qe_bl)) qss_nil)
   (qss_cons (qs_if (qw_or (qt_not (qt_val (qe_g d__law_whole (qa_1 (qe_iS (qv 0) qe_int))))) (qw_or (qt_not (qt_val (qe_g d__law_whole (qa_1 (qe_iS (qv 0) qe_int))))) (qw_or1 (qt_cmpR op_lt (qe_iS (qv 0) qe_int) qe_int (nomark _))))).pt (qss_one (qs_ret qe_bl)) qss_nil)
   (qss_one (qs_ret (qe_cmpR op_eq (qe_g d__law_gcd (qa_2 (qe_iS (qv 0) qe_int) (qe_iS (qv 0) qe_int))) qe_int (nomark _)))))),?_⟩
 k_extra "rd"
 refine brkD (fun h1=>by omega) (fun h1=>?_)
 k_extra "rd"
 exact hQ
theorem ok__law_pairs(D:DefAt K mg "_law_pairs" s__law_pairs f fd)(T:Txt K mg cx)(d__law_pair:DefOk P w K mg base CX0 2 "_law_pair" ["_law_found"] sp__law_pair):DefOk P w K mg base CX0 3 "_law_pairs" ["_law_found","_law_many_here"] sp__law_pairs:=by
 refine D.ok (D.q sc__law_pairs (fun vs H Q E h=>?_) (fun cdv A outer s H vs Q E hr h=>?_)) (D.fn.binds fun _ _ _ _ _ _ us hl=>match us,hl with | [_,_],_=>rfl)
 ·obtain⟨_,_,_,_,rfl,_⟩:=h
  rfl
 obtain⟨F,ys,ps,m,rfl,hF,hR,h16,hp,hQ⟩:=h
 refine⟨_,(qss_one (qs_ret (qe_and (qe_callB call_isi (by rfl) T.n_isinstance bt_isinstance (qa_2 (qv 0) (qe_bltn (v:=.ty "list") (by rfl) T.n_list bt_list rfl))) (qe_and (qe_cmpR op_eq (qe_callB call_lenF (by rfl) T.n_len bt_len (qa_1 (qv 0))) (qv 1) (nomark _)) (qe_one (qe_callB (call_allF rfl) (by rfl) T.n_all bt_all (qa_1 (qe_cp ["_law_one"] [] (qi_listK (K:=K) rfl (qv 0)) (gext_name (by decide)) (fun _ _ _ _ _=>⟨(qg_name (i:=0) (show (["_law_one"]:List Str).Nodup by decide +kernel) rfl (Or.inl rfl)),qf_nil,(qe_g d__law_pair (qa_1 (qv 0)))⟩))))))))),?_⟩
 have tyF:tyNm (.ref F) H=some "list" := by simp only[tyNm,hF]
 have hyl:=hR.1
 k_extra "rx"
 refine i_tAndV ?_
 k_extra "rx"
 refine⟨_,_,_,rfl,by decide,tyF,?_⟩
 refine⟨_,rfl,brk (fun _=>?_) (fun z=>absurd z (by decide))⟩
 refine i_tAndV ?_
 k_extra "rx"
 refine⟨rfl,?_⟩
 refine⟨_,rfl,brkD (fun h1=>?_) (fun h1=>?_)⟩
 ·have h1:(ys.length:Int)=(m:Int):=V.int.inj h1
  have hm:decide (ps.length=m)=true:=decide_eq_true (by omega)
  rw[hm] at hQ
  k_extra "rx"
  refine⟨_,rfl,F,rfl,⟨_,SqL.of hF⟩,fun l hl=>?_⟩
  refine comp_listR (K:=K) (a:=F) (xs:=ys) (fun i acc H2=>Same H H2∧H2 l=some (.lst acc)∧acc=(List.replicate i true).map V.bl) ⟨Same.new hl,upd_same,rfl⟩ (fun i acc H2 _ ⟨s2,_,_⟩=>SqL.of (s2 _ _ hF)) ?_ ?_
  ·rintro i y acc H2 hy ⟨s2,hl2,rfl⟩
   have hi:i < ps.length:=by rw[← hyl];exact (List.getElem?_eq_some_iff.mp hy).1
   obtain⟨r,er,hr'⟩:=hR.2 i ps[i] (List.getElem?_eq_getElem hi)
   rw[er] at hy
   cases hy
   have e:ps.getD i (0,1)=ps[i]:=by simp[List.getD_eq_getElem?_getD,hi]
   obtain⟨p1,p2,p3⟩:=hp i hi
   rw[e] at p1 p2 p3
   have len:((List.replicate i true).map V.bl).length≤16:=by rw[List.length_map,List.length_replicate];omega
   rw[List.replicate_succ',List.map_append]
   generalize (List.replicate i true).map V.bl=A' at hl2 len ⊢
   simp only[gName_ap,tYes,if_true]
   k_extra "rx"
   refine⟨r,_,_,rfl,s2 _ _ hr',p1,p2,p3,hl2,small1000 (by omega),same_put hl s2,upd_same,rfl⟩
  ·rintro acc H2 ⟨s2,hl2,rfl⟩
   refine⟨l,_,rfl,hl2,?_⟩
   have ea:(List.replicate ys.length true).all id=true:=by simp
   rw[ea]
   exact hQ H2 s2
 ·have hm:decide (ps.length=m)=false:=decide_eq_false fun z=>h1 (by rw[hyl,z])
  rw[hm] at hQ
  exact hQ H fun _ _ h=>h
theorem ok__law_worths(D:DefAt K mg "_law_worths" s__law_worths f fd)(T:Txt K mg cx)(d__law_pull:DefOk P w K mg base CX0 1 "_law_pull" ["_law_bag_here","_law_many_here"] sp__law_pull):DefOk P w K mg base CX0 2 "_law_worths" ["_law_bag_here","_law_many_here"] sp__law_worths:=by
 refine D.ok (D.q sc__law_worths (fun vs H Q E h=>?_) (fun cdv A outer s H vs Q E hr h=>?_)) (D.fn.binds fun _ _ _ _ _ _ us hl=>match us,hl with | [_,_],_=>rfl)
 ·obtain⟨_,_,_,rfl,_⟩:=h
  rfl
 obtain⟨B,m,L,rfl,hB,m0,m6,hQ⟩:=h
 refine⟨_,(qss_cons (qs_set (i:=2) sc__law_worths.nd rfl (Or.inr rfl) (qe_iS (qe_lst (qa_cons qe_int (qa_cons qe_int (qa_cons qe_int (qa_cons (qe_op op_pow qe_int qe_int) (qa_cons (qe_op op_pow qe_int qe_int) qa_nil)))))) (qe_g d__law_pull (qa_2 (qv 0) qe_int))))
   (qss_one (qs_ret (qe_cp ["_law_fund"] [("_law_bag_here", 0),("_law_scale", 2)] (qi_range1 (by rfl) T.n_range (qa_1 (qv 1))) (gext_name (by decide)) (fun _ _ _ _ _=>⟨(qg_name (i:=0) (show (["_law_fund","_law_bag_here","_law_scale"]:List Str).Nodup by decide +kernel) rfl (Or.inl rfl)),qf_nil,(qe_op op_mulB (qe_g d__law_pull (qa_2 (qv 1) (qe_op op_add (qv 2) qe_int))) (qe_callB (call_min2 rfl) (by rfl) T.n_min bt_min (qa_2 qe_int (qe_g d__law_pull (qa_2 (qv 1) qe_int)))))⟩))))),?_⟩
 k_extra "rd"
 intro p hp
 have npB:p≠B:=hB.ne hp
 refine⟨B,5,L,rfl,hB.new hp,by decide,by decide,fun d H2 d0 d1 b2 f2=>?_⟩
 have hp2:=f2 p _ npB upd_same
 obtain⟨x,ex,hx1,hx2⟩:=pick (P:=fun x=>0 < x∧x≤1000000000000) [12,3,100,10 ^ 9,10 ^ 12] d0 d1 (by decide)
 have ex':atI [V.int 12,V.int 3,V.int 100,V.int 1000000000,V.int 1000000000000] d=some (.int x):=ex
 have f12:Fr1 B H H2:=(Fr1.new hp).trans f2
 clear ex
 k_extra "rd"
 clear ex' hp2 f2 npB hp
 refine⟨_,rfl,m,rfl,by omega,by omega,fun l hl=>?_⟩
 have nlB:=b2.ne hl
 have nlL:=b2.neL hl
 refine comp_rangeR (k:=m.toNat) (fun i acc H3=>∃ ws:List Int,acc=ws.map V.int∧ws.length=i∧(∀ x∈ws,0≤x∧Sz 50 x)∧BagAt H3 B L∧(∀ b o,b≠B→b≠l→H2 b=some o→H3 b=some o)∧H3 l=some (.lst acc)) ⟨[],rfl,rfl,(fun x hx=>by cases hx),b2.new hl,(fun b o _ hbl h=>by rw[upd_ne hbl];exact h),upd_same⟩ ?_ ?_
 ·rintro i acc H3 hi ⟨ws,rfl,hlen,hz,b3,k3,hl3⟩
  simp only[gName_ap,tYes,if_true]
  k_extra "rd"
  refine⟨B,x+1,L,rfl,b3,by omega,Sz.mono (j:=41) (Sz.of (by omega)) (by decide),fun d4 H4 e0 e1 b4 f4=>?_⟩
  have hl4:=f4 _ _ nlB hl3
  clear hl3
  k_extra "rd"
  refine⟨B,7,L,rfl,b4,by decide,by decide,fun d5 H5 g0 g1 b5 f5=>?_⟩
  have hl5:=f5 _ _ nlB hl4
  clear hl4
  k_extra "rd"
  have hy:0≤(if d5 < 1 then d5 else 1)∧(if d5 < 1 then d5 else 1)≤1:=by split<;>omega
  generalize (if d5 < 1 then d5 else 1)=y at hy ⊢
  have z4:Sz 40 d4:=Sz.of (by omega)
  have zy:Sz 1 y:=Sz.of (by omega)
  refine⟨z4.ok zy (by decide),small1000 (by omega),ws++[d4*y],by rw[List.map_append];rfl,by rw[List.length_append,hlen];rfl,fun w hw=>?_,b5.put nlB nlL,fun b o nb nl h=>?_⟩
  ·rcases List.mem_append.mp hw with hw | hw
   ·exact hz w hw
   ·rw[List.mem_singleton.mp hw];exact⟨Int.mul_nonneg (by omega) (by omega),(z4.mul zy).mono (by decide)⟩
  ·rw[upd_ne nl]
   exact f5 _ _ nb (f4 _ _ nb (k3 b o nb nl h))
 ·rintro acc H3 ⟨ws,rfl,hlen,hz,b3,k3,hl3⟩
  have nl:H l=none:=by
   cases e:H l with
   | none=>rfl
   | some o=>rw[f12 l o nlB e] at hl;cases hl
  exact hQ l ws H3 nl b3 (fun b o nb h=>k3 b o nb (fun z=>by rw[z,nl] at h;cases h) (f12 b o nb h)) hl3 (by omega) hz
theorem ok__law_tabled(D:DefAt K mg "_law_tabled" s__law_tabled f fd)(T:Txt K mg cx)(d__law_many:DefOk P w K mg base CX0 2 "_law_many" ["_law_bag_here"] sp__law_many)(d__law_claims:DefOk P w K mg base CX0 4 "_law_claims" ["_law_bag_here","_law_many_here"] sp__law_claims)(d__law_pull:DefOk P w K mg base CX0 1 "_law_pull" ["_law_bag_here","_law_many_here"] sp__law_pull)(d__law_low:DefOk P w K mg base CX0 2 "_law_low" ["_law_number","_law_under"] sp__law_low)(d__law_sum:DefOk P w K mg base CX0 4 "_law_sum" ["_law_row_here"] sp__law_sum)(d__law_plus:DefOk P w K mg base CX0 3 "_law_plus" ["_law_one","_law_other"] sp__law_plus)(d__law_ceil:DefOk P w K mg base CX0 1 "_law_ceil" ["_law_one"] sp__law_ceil):DefOk P w K mg base CX0 5 "_law_tabled" ["_law_bag_here"] sp__law_tabled:=by
 refine D.ok (D.q sc__law_tabled (fun vs H Q E h=>?_) (fun cdv A outer s H vs Q E hr h=>?_)) (D.fn.binds fun _ _ _ _ _ _ us hl=>match us,hl with | [_],_=>rfl)
 ·obtain⟨_,_,rfl,_⟩:=h
  rfl
 obtain⟨B,L,rfl,hB,hQ⟩:=h
 refine⟨_,(qss_cons (qs_sL 1 sc__law_tabled.nd (qe_g d__law_many (qa_1 (qv 0))))
   (qss_cons (qs_sL 2 sc__law_tabled.nd (qe_iS (qe_lst (qa_cons qe_int (qa_cons qe_int (qa_cons qe_int (qa_cons (qe_op op_pow qe_int qe_int) qa_nil))))) (qe_g d__law_pull (qa_2 (qv 0) qe_int))))
   (qss_cons (qs_sL 3 sc__law_tabled.nd (qe_iS (qe_lst (qa_cons qe_int (qa_cons qe_int (qa_cons qe_int (qa_cons qe_int qa_nil))))) (qe_g d__law_pull (qa_2 (qv 0) qe_int))))
   (qss_cons (qs_sL 4 sc__law_tabled.nd (qe_lst qa_nil))
   (qss_cons (qs_sL 5 sc__law_tabled.nd (qe_lst qa_nil))
   (qss_cons (qs_for PassesOwn.never rfl (qi_listK (K:=K) rfl (qe_g d__law_claims (qa_2 (qv 0) (qv 1)))) (qg_name (i:=6) sc__law_tabled.nd rfl (Or.inl rfl)) (qss_cons (qs_setP (k:=7) ["_law_place"] [] sc__law_tabled.nd (qi_range1 (by rfl) T.n_range (qa_1 (qv 1))) (gext_name (by decide)) (fun _ _ _ _ _=>⟨(qg_name (i:=0) (show (["_law_place"]:List Str).Nodup by decide +kernel) rfl (Or.inl rfl)),qf_nil,(qe_tup (qa_2 qe_int qe_int))⟩))
   (qss_cons (qs_for PassesOwn.never rfl (qi_tupK (K:=K) rfl (qe_iS (qv 6) qe_int)) (qg_name (i:=8) sc__law_tabled.nd rfl (Or.inr rfl)) (qss_one (qs_asg (qe_g d__law_low (qa_2 (qe_op op_mulB (qe_g d__law_pull (qa_2 (qv 0) (qe_op op_add (qv 2) qe_int))) (qe_g d__law_pull (qa_2 (qv 0) qe_int))) (qe_op op_add qe_int (qe_g d__law_pull (qa_2 (qv 0) (qv 3)))))) (qg_sub (qv 7) (qv 8) set_list))))
   (qss_cons (qs_expr (qe_bmK (K:=K) rfl PySem.F.plainAttrs_list PySem.F.slot_list_append PySem.F.type_list_append mt_append (qv 5) (qa_1 (qv 7))))
   (qss_cons (qs_sL 9 sc__law_tabled.nd (qe_iS (qe_lst (qa_3 (qe_tup (qa_2 qe_int qe_int)) (qe_tup (qa_2 qe_int qe_int)) (qe_iS (qv 6) qe_int))) (qe_g d__law_pull (qa_2 (qv 0) qe_int))))
   (qss_one (qs_expr (qe_bmK (K:=K) rfl PySem.F.plainAttrs_list PySem.F.slot_list_append PySem.F.type_list_append mt_append (qv 4) (qa_1 (qe_tup (qa_3 (qe_g d__law_plus (qa_2 (qe_g d__law_sum (qa_1 (qv 7))) (qv 9))) (qe_iS (qv 6) qe_int) (qe_iS (qv 6) qe_int))))))))))))
   (qss_cons (qs_sL 10 sc__law_tabled.nd (qe_lst qa_nil))
   (qss_cons (qs_for PassesOwn.never rfl (qi_range1 (by rfl) T.n_range (qa_1 (qv 1))) (qg_name (i:=8) sc__law_tabled.nd rfl (Or.inr rfl)) (qss_one (qs_expr (qe_bmK (K:=K) rfl PySem.F.plainAttrs_list PySem.F.slot_list_append PySem.F.type_list_append mt_append (qv 10) (qa_1 (qe_op op_add (qe_g d__law_ceil (qa_1 (qe_g d__law_sum (qa_1 (qe_cp ["_law_row_here"] [("_law_place", 8)] (qi_listK (K:=K) rfl (qv 5)) (gext_name (by decide)) (fun _ _ _ _ _=>⟨(qg_name (i:=0) (show (["_law_row_here","_law_place"]:List Str).Nodup by decide +kernel) rfl (Or.inl rfl)),qf_nil,(qe_iS (qv 0) (qv 1))⟩)))))) (qe_op op_mulB (qe_g d__law_pull (qa_2 (qv 0) qe_int)) (qe_g d__law_pull (qa_2 (qv 0) qe_int)))))))))
   (qss_one (qs_ret (qe_tup (qa_cons (qv 10) (qa_cons (qv 4) (qa_cons (qe_cp ["_law_row_here"] [] (qi_listK (K:=K) rfl (qv 5)) (gext_name (by decide)) (fun _ _ _ _ _=>⟨(qg_name (i:=0) (show (["_law_row_here"]:List Str).Nodup by decide +kernel) rfl (Or.inl rfl)),qf_nil,(qe_g d__law_sum (qa_1 (qv 0)))⟩)) (qa_cons (qv 5) qa_nil))))))))))))))),?_⟩
 refine seq_cut6 (fun σ' H'=>∃ m sc un F C Z xs0 cs0 xs cs zs rss v6 v7 v8 v9,σ'=[some (.ref B),some (.int ((m:Nat):Int)),some (.int sc),some (.int un),some (.ref C),some (.ref Z),v6,v7,v8,v9,none]∧Tb H B L F C Z xs0 cs0 xs cs zs rss H'∧Tn H B L F C Z∧m≤6∧cs.length≤16∧rss.length=cs.length∧(∀ c∈cs,GoodU2 UM 122 m c)∧(∀ r∈rss,RwOk m r)∧NtOk cs rss) ?_ fun tb' key=>?_
 ·rintro σ H1 ⟨m,sc,un,F,C,Z,xs0,cs0,xs,cs,zs,rss,v6,v7,v8,v9,rfl,tb,tn,m6,c16,rl,hG,hr,hn⟩
  refine⟨by show 0≤sizeLine;decide,fun W hW=>?_⟩
  have wB:=tb.b.ne hW
  have wL:=tb.b.neL hW
  have wF:W≠F:=fun z=>by rw[z,tb.f] at hW;cases hW
  have wC:W≠C:=fun z=>by rw[z,tb.c] at hW;cases hW
  have wZ:W≠Z:=fun z=>by rw[z,tb.z] at hW;cases hW
  have wz:=tb.hZ.fresh hW
  have w0:H W=none:=by
   cases e:H W with
   | none=>rfl
   | some o=>rw[tb.fr W o wB e] at hW;cases hW
  have tb2:=tb.same (Same.new (o:=.lst []) hW)
  have hw2:upd H1 W (.lst []) W=some (.lst (([]:List Int).map V.int)):=upd_same
  generalize upd H1 W (.lst [])=H2 at tb2 hw2 ⊢
  clear tb hW
  refine⟨_,rfl,(m:Int),rfl,by omega,by omega,for_rangeN (lo:=0) (n:=((m:Nat):Int).toNat) (fun j σ H'=>∃ ws v6 v7 v8 v9,σ=[some (.ref B),some (.int (m:Int)),some (.int sc),some (.int un),some (.ref C),some (.ref Z),v6,v7,v8,v9,some (.ref W)]∧Tb H B L F C Z xs0 cs0 xs cs zs rss H'∧H' W=some (.lst (ws.map V.int))∧ws.length=j∧(∀ x∈ws,0≤x∧Sz 140 x)∧ColOk rss ws) ⟨[],_,_,_,_,rfl,tb2,hw2,rfl,(fun x hx=>by cases hx),(fun p hp=>by cases hp)⟩ ?_ ?_⟩
  ·clear tb2 hw2
   rintro j σ H3 NN BB hj ⟨ws,v6,v7,v8,v9,rfl,t3,hw3,hwl,hwz,hco⟩ kN kB
   clear kB
   have jm:j < m:=by omega
   simp only[gName_ap]
   refine⟨_,rfl,.inl ⟨rfl,_,SqL.of hw3⟩,_,rfl,Z,rfl,⟨_,SqL.of t3.z⟩,fun l hl=>?_⟩
   refine comp_listR (K:=K) (a:=Z) (xs:=zs) (fun a acc H4=>Same H3 H4∧H4 l=some (.lst acc)∧RowU UM 115 H4 acc ((rss.take a).map fun r=>r.getD j (0,1))) ⟨Same.new hl,upd_same,RowU.nil⟩ (fun a acc H4 _ ⟨s4,_,_⟩=>SqL.of (s4 _ _ t3.z)) ?_ ?_
   ·rintro a y acc H4 hy ⟨s4,hl4,hR4⟩
    have ha:a < rss.length:=by rw[← t3.hZ.1];exact (List.getElem?_eq_some_iff.mp hy).1
    obtain⟨r,ys,er,h1,h2,_⟩:=t3.hZ.2.2 a rss[a] (List.getElem?_eq_getElem ha)
    rw[er] at hy
    cases hy
    have hrl:=(hr rss[a] (List.getElem_mem ha)).1
    have jr:j < (rss[a]).length:=by omega
    obtain⟨e,ee,he,po⟩:=h2.2 j (rss[a])[j] (List.getElem?_eq_getElem jr)
    have eg:(rss[a]).getD j (0,1)=(rss[a])[j]:=by simp[List.getD_eq_getElem?_getD,jr]
    rw[take_map_succ _ ha,eg]
    have len:=hR4.1
    rw[List.length_map,List.length_take] at len
    have g1:=s4 _ _ h1
    have g2:=s4 _ _ he
    have ne:e≠l:=fun z=>by rw[z,hl4] at g2;cases g2
    simp only[gName_ap,tYes,if_true]
    refine⟨_,rfl,_,rfl,r,ys,_,_,rfl,rfl,seqAt_lst g1,by rw[Int.zero_add];exact atI_nat ee,hl4,small1000 (by omega),?_,upd_same,(hR4.ts (TS.lst hl4)).snoc (by rw[upd_ne ne];exact g2) po⟩
    intro b o hb
    rw[upd_ne (fun z=>by rw[z,hl] at hb;cases hb)]
    exact s4 _ _ hb
   ·rintro acc H4 ⟨s4,hl4,hR4⟩
    have ez:rss.take zs.length=rss:=by rw[t3.hZ.1,List.take_length]
    rw[ez] at hR4
    have cl:(rss.map fun r=>r.getD j (0,1)).length≤16:=by rw[List.length_map];omega
    have cn:∀ p∈rss.map fun r=>r.getD j (0,1),0≤p.1:=fun p hp=>by
     obtain⟨r,hr',rfl⟩:=List.mem_map.mp hp
     obtain⟨r1,r2⟩:=hr r hr'
     have jr:j < r.length:=by omega
     have eg:r.getD j (0,1)=r[j]:=by simp[List.getD_eq_getElem?_getD,jr]
     rw[eg]
     exact r2 _ (List.getElem_mem jr)
    refine⟨l,acc,_,UM,115,rfl,hl4,um_ok,hR4,by decide,cl,fun s H5 s5 hs=>?_⟩
    have sp:=sum_pt um_ok.pos hR4.mem
    have spn:=sumP_nn um_ok.pos (fun p hp=>(hR4.mem p hp).toOk) cn
    have sp':PtOk UM 131 (sumP (rss.map fun r=>r.getD j (0,1))):=sp.mono (by omega)
    have su:=sp.toOk.usz um_ok
    have sn:=sp'.nsz um_ok.pos
    have s0:=sp.pos
    have en:num UM (sumP (rss.map fun r=>r.getD j (0,1)))=colN rss j:=by rw[(sum_ok um_ok.pos fun p hp=>(hR4.mem p hp).toOk).2,List.map_map];rfl
    generalize sumP (rss.map fun r=>r.getD j (0,1))=S at hs sp' spn su sn s0 en
    have ce:=ceil_le sp'.toOk
    rw[en] at ce
    have t5:=t3.same (s4.trans s5)
    have hw5:=(s4.trans s5) _ _ hw3
    clear sp hR4 s4 s5 hl4 t3 hw3 cn cl ez hl
    have z9:Sz 9000 S.2:=su.mono (by decide)
    have hc:0≤-(-S.1 / S.2)∧Sz 131 (-(-S.1 / S.2)):=by
     constructor
     ·have h1:=Int.ediv_mul_le (-S.1) (by omega:S.2≠0)
      by_cases h:-S.1 / S.2≤0
      ·omega
      ·exfalso
       have:1*S.2≤-S.1 / S.2*S.2:=Int.mul_le_mul_of_nonneg_right (by omega) (by omega)
       omega
     ·exact Sz.neg (Sz.le sn (Nat.le_trans (natAbs_div_le _ _) (by rw[Int.natAbs_neg];exact Nat.le_refl _)))
    refine⟨s,_,_,rfl,hs,s0,z9,?_⟩
    generalize -(-S.1 / S.2)=cc at hc ce
    clear en hs sp' spn su sn s0 z9
    k_extra "rd"
    refine⟨B,3,L,rfl,t5.b,by decide,by decide,fun d H6 d0 d1 b6 f6=>?_⟩
    have t6:=t5.pull tn f6 b6
    have hw6:=f6 _ _ wB hw5
    clear t5 f6 b6 hw5
    k_extra "rd"
    refine⟨B,2,L,rfl,t6.b,by decide,by decide,fun d2 H7 c0 c1 b7 f7=>?_⟩
    have t7:=t6.pull tn f7 b7
    have hw7:=f7 _ _ wB hw6
    clear t6 f7 b7 hw6
    have om:IntMulOk d d2:=(Sz.of (k:=2) (by omega):Sz 2 d).ok (Sz.of (k:=2) (by omega)) (by decide)
    have dd:0≤d*d2∧d*d2≤2:=by
     have:d2=0∨d2=1:=by omega
     rcases this with rfl | rfl<;>omega
    k_extra "rd"
    refine⟨small1000 (by omega),kN _ _ ⟨ws++[cc+d*d2],_,_,_,_,rfl,t7.row hw7 wB wL wF wC wZ wz w0,by rw[upd_same,List.map_append];rfl,by rw[List.length_append,hwl];rfl,(fun x hx=>?_),hco.snoc hwl (Int.le_trans ce (Int.mul_le_mul_of_nonneg_right (by omega) (by decide)))⟩⟩
    rcases List.mem_append.mp hx with hx | hx
    ·exact hwz x hx
    ·rw[List.mem_singleton.mp hx]
     exact⟨by omega,Sz.mono (Sz.add (k:=131) hc.2 (Sz.mono (Sz.of (k:=3) (by omega)) (by decide))) (by decide)⟩
  ·rintro σ H3 ⟨ws,v6,v7,v8,v9,rfl,t3,hw3,hwl,hwz,hco⟩
   rw[Int.toNat_natCast] at hwl
   refine⟨_,rfl,_,rfl,_,rfl,Z,rfl,⟨_,SqL.of t3.z⟩,fun P hP=>?_⟩
   refine comp_listR (K:=K) (a:=Z) (xs:=zs) (fun a acc H4=>Same H3 H4∧H4 P=some (.lst acc)∧RowU UM 121 H4 acc ((rss.take a).map sumP)) ⟨Same.new hP,upd_same,RowU.nil⟩ (fun a acc H4 _ ⟨s4,_,_⟩=>SqL.of (s4 _ _ t3.z)) ?_ ?_
   ·rintro a y acc H4 hy ⟨s4,hl4,hR4⟩
    have ha:a < rss.length:=by rw[← t3.hZ.1];exact (List.getElem?_eq_some_iff.mp hy).1
    obtain⟨r,ys,er,h1,h2,_⟩:=t3.hZ.2.2 a rss[a] (List.getElem?_eq_getElem ha)
    rw[er] at hy
    cases hy
    have hrl:=(hr rss[a] (List.getElem_mem ha)).1
    have len:=hR4.1
    rw[List.length_map,List.length_take] at len
    rw[take_map_succ _ ha]
    have sp:PtOk UM 121 (sumP rss[a]):=(sum_pt um_ok.pos h2.mem).mono (by omega)
    simp only[gName_ap,tYes,if_true]
    refine⟨_,rfl,r,ys,rss[a],UM,115,rfl,s4 _ _ h1,um_ok,h2.ts (TS.of s4),by decide,by omega,fun s H5 s5 hs=>?_⟩
    have l5:=s5 _ _ hl4
    have ne:s≠P:=fun z=>by rw[z,l5] at hs;cases hs
    refine⟨l5,small1000 (by omega),?_,upd_same,((hR4.ts (TS.of s5)).ts (TS.lst l5)).snoc (by rw[upd_ne ne];exact hs) sp⟩
    intro b o hb
    rw[upd_ne (fun z=>by rw[z,hP] at hb;cases hb)]
    exact s5 _ _ (s4 _ _ hb)
   ·rintro acc H4 ⟨s4,hl4,hR4⟩
    have ez:rss.take zs.length=rss:=by rw[t3.hZ.1,List.take_length]
    rw[ez] at hR4
    refine⟨_,rfl,by show 4≤sizeLine;decide,fun T hT=>?_⟩
    have s5:=s4.trans (Same.new (o:=.tup [.ref W,.ref C,.ref P,.ref Z]) hT)
    have t5:=t3.same s5
    have pB:=t3.b.ne hP
    have pW:P≠W:=fun z=>by rw[z,hw3] at hP;cases hP
    have pC:P≠C:=fun z=>by rw[z,t3.c] at hP;cases hP
    have pZ:P≠Z:=fun z=>by rw[z,t3.z] at hP;cases hP
    have pz:=t3.hZ.fresh hP
    have p0:H P=none:=by
     cases e:H P with
     | none=>rfl
     | some o=>rw[t3.fr P o pB e] at hP;cases hP
    have hZ5:RowsAt [B,L,W,C,P,Z] UM 115 (upd H4 T (.tup [.ref W,.ref C,.ref P,.ref Z])) zs rss:=⟨t5.hZ.1,t5.hZ.2.1,fun i r hr=>by
     obtain⟨l,xs,e,h1,h2,h3⟩:=t5.hZ.2.2 i r hr
     have hm:=List.mem_of_getElem? e
     simp only[List.mem_cons,List.not_mem_nil,or_false,not_or] at h3
     refine⟨l,xs,e,h1,h2,?_⟩
     simp only[List.mem_cons,List.not_mem_nil,or_false,not_or]
     exact⟨h3.1,h3.2.1,(fun z=>wz (by rw[← z];exact hm)),h3.2.2.2.1,(fun z=>pz (by rw[← z];exact hm)),h3.2.2.2.2⟩⟩
    refine hQ T W C P Z ws xs cs acc (rss.map sumP) zs rss _ ⟨t5.b,t5.fr,s5 _ _ hw3,t5.c,t5.hC,(Same.new hT) _ _ hl4,hR4.ts (TS.of (Same.new hT)),t5.z,hZ5,w0,tn.c0,p0,tn.z0,wC,pW.symm,wZ,pC.symm,tn.cZ,pZ,by omega,hwz,c16,by rw[List.length_map];exact rl,rl,by rw[hwl];exact hG,by rw[hwl];exact hr,rfl,hn,hco⟩ upd_same
 k_extra "rd"
 refine⟨B,L,rfl,hB,fun m0 H1 h0 h6 b1 f1=>?_⟩
 obtain⟨m,rfl⟩:∃ m:Nat,m0=(m:Int):=⟨m0.toNat,by omega⟩
 have m6:m≤6:=by omega
 k_extra "rd"
 intro p hp
 have npB:p≠B:=b1.ne hp
 refine⟨B,4,L,rfl,b1.new hp,by decide,by decide,fun d H2 d0 d1 b2 f2=>?_⟩
 have hp2:=f2 p _ npB upd_same
 obtain⟨sc,ex,hs1,hs2⟩:=pick (P:=fun x=>0≤x∧x≤1000000000) [6,2,40,10 ^ 9] d0 d1 (by decide)
 have ex':atI [V.int 6,V.int 2,V.int 40,V.int 1000000000] d=some (.int sc):=ex
 have f12:Fr1 B H H2:=(f1.trans (Fr1.new hp)).trans f2
 clear ex
 k_extra "rd"
 clear ex' hp2 f2 npB hp f1
 intro p hp
 have npB:p≠B:=b2.ne hp
 refine⟨B,4,L,rfl,b2.new hp,by decide,by decide,fun e H3 e0 e1 b3 f3=>?_⟩
 have hp3:=f3 p _ npB upd_same
 obtain⟨un,ex,hu1,hu2⟩:=pick (P:=fun x=>0 < x∧x≤60) [1,1,3,60] e0 e1 (by decide)
 have ex':atI [V.int 1,V.int 1,V.int 3,V.int 60] e=some (.int un):=ex
 have f13:Fr1 B H H3:=(f12.trans (Fr1.new hp)).trans f3
 clear ex
 k_extra "rd"
 clear ex' hp3 f3 npB hp f12 b2 b1
 intro C hC Z hZ
 have nCB:=b3.ne hC
 have nCL:=b3.neL hC
 have b4:=b3.new (o:=.lst []) hC
 have nZB:=b4.ne hZ
 have nZL:=b4.neL hZ
 have nCZ:C≠Z:=fun z=>by rw[← z,upd_same] at hZ;cases hZ
 have f14:=f13.trans (Fr1.new (B:=B) (o:=.lst []) hC)
 have f15:=f14.trans (Fr1.new (B:=B) (o:=.lst []) hZ)
 have free:∀(H':Hp)(a:Addr),Fr1 B H H'→a≠B→H' a=none→H a=none:=fun H' a f n h=>by
  cases e:H a with
  | none=>rfl
  | some o=>rw[f a o n e] at h;cases h
 have c0:=free _ _ f13 nCB hC
 have z0:=free _ _ f14 nZB hZ
 have b5:=b4.new (o:=.lst []) hZ
 have c5:=(Same.new (o:=.lst []) hZ) C _ upd_same
 have z5:upd (upd H3 C (.lst [])) Z (.lst []) Z=_:=upd_same
 generalize upd (upd H3 C (.lst [])) Z (.lst [])=H5 at b5 c5 z5 f15 ⊢
 clear hC hZ b4 f13 f14 b3
 refine⟨_,rfl,_,rfl,B,(m:Int),L,rfl,b5,h0,h6,fun F xs0 cs0 H6 nF b6 f6 hF6 hCl6 l16 hG6=>?_⟩
 have nFB:=b5.ne nF
 have nFL:=b5.neL nF
 have c6:=f6 _ _ nCB c5
 have z6:=f6 _ _ nZB z5
 have f16:=f15.trans f6
 have tn:Tn H B L F C Z:=⟨nFB,nFL,nCB,nCL,nZB,nZL,(fun z=>by rw[z,c5] at nF;cases nF),(fun z=>by rw[z,z5] at nF;cases nF),nCZ,free _ _ f15 nFB nF,c0,z0⟩
 have t6:Tb H B L F C Z xs0 cs0 [] [] [] [] H6:=⟨b6,f16,hF6,hCl6,c6,ClsAt.nil,z6,RowsAt.nil,fun l h=>by cases h⟩
 clear b5 c5 z5 f15 f6 c6 z6 f16 nF b6 hF6 hCl6 nFB nFL nCB nCL nZB nZL nCZ c0 z0 hB
 refine⟨F,rfl,⟨_,SqL.of t6.f⟩,for_listN (K:=K) (a:=F) (xs:=xs0) (fun i σ H'=>∃ xs cs zs rss v6 v7 v8 v9,σ=[some (.ref B),some (.int (m:Int)),some (.int sc),some (.int un),some (.ref C),some (.ref Z),v6,v7,v8,v9,none]∧Tb H B L F C Z xs0 cs0 xs cs zs rss H'∧cs.length=i∧rss.length=i∧(∀ c∈cs,GoodU2 UM 122 m c)∧(∀ r∈rss,RwOk m r)∧NtOk cs rss) ⟨[],[],[],[],_,_,_,_,rfl,t6,rfl,rfl,(fun c h=>by cases h),(fun c h=>by cases h),NtOk.nil⟩ (fun i σ H' _ ⟨_,_,_,_,_,_,_,_,_,z,_⟩=>SqL.of z.f) ?_ ?_⟩
 ·clear t6
  rintro i y σ H7 NN BB hy ⟨xs,cs,zs,rss,v6,v7,v8,v9,rfl,t7,cl,rl,hG,hr,hn⟩ kN kB
  clear kB
  have hi:i < cs0.length:=by rw[← t7.hF.1];exact (List.getElem?_eq_some_iff.mp hy).1
  obtain⟨v,ev,hv⟩:=t7.hF.2 i cs0[i] (List.getElem?_eq_getElem hi)
  rw[ev] at hy
  cases hy
  obtain⟨g1,g2,g3⟩:=hG6 cs0[i] (List.getElem_mem hi)
  obtain⟨rc,pc,kc,rfl,e1,e2,e3⟩:=hv
  generalize cs0[i]=C0 at g1 g2 g3 e1 e2 e3
  simp only[gName_ap]
  refine seq_cut2 (fun σ' H'=>∃ r ys row v8,σ'=[some (.ref B),some (.int (m:Int)),some (.int sc),some (.int un),some (.ref C),some (.ref Z),some (.ref rc),some (.ref r),v8,v9,none]∧Tb H B L F C Z xs0 cs0 xs cs zs rss H'∧H' rc=some (.tup [.ref pc,.ref kc,.int C0.rk])∧H' pc=some (.tup [.int C0.n,.int C0.u])∧H' kc=some (.tup (C0.hp.map V.int))∧H' r=some (.lst ys)∧RowU UM 115 H' ys row∧(RwOk m row∧Nt1 C0.hp row)∧r≠B∧r≠L∧r≠F∧r≠C∧r≠Z∧V.ref r∉zs∧H r=none) ?_ fun tb'' key'=>?_
  ·rintro σ H8 ⟨r,ys,row,v8,rfl,t8,e1,e2,e3,hr8,hR8,⟨hw,hn1⟩,rB,rL,rF,rC,rZ,rz,r0⟩
   have zl:=t8.hZ.1
   have xl:=t8.hC.1
   refine⟨_,rfl,.inl ⟨rfl,_,SqL.of t8.z⟩,_,rfl,Z,zs,_,rfl,rfl,t8.z,small1000 (by omega),?_⟩
   have ts:TS H8 (upd H8 Z (.lst (zs++[.ref r]))):=TS.lst t8.z
   have t9:=t8.addRow tn hr8 hR8 rB rL rF rC rZ rz r0
   have k1:=ts _ _ e1
   have k2:=ts _ _ e2
   have k3:=ts _ _ e3
   have hr9:upd H8 Z (.lst (zs++[.ref r])) r=some (.lst ys):=by rw[upd_ne rZ];exact hr8
   have hR9:=hR8.ts ts
   generalize upd H8 Z (.lst (zs++[.ref r]))=H9 at t9 k1 k2 k3 hr9 hR9 ⊢
   clear ts e1 e2 e3 hr8 hR8 t8 key t7
   k_extra "rd"
   intro q1 hq1 q2 hq2
   have s1:=Same.new (o:=.tup [.int 0,.int 1]) hq1
   have s2:=Same.new (o:=.tup [.int 0,.int 1]) hq2
   refine⟨_,seqAt_tup ((s1.trans s2) _ _ k1),_,rfl,fun q3 hq3=>?_⟩
   have s3:=Same.new (o:=.lst [.ref q1,.ref q2,.ref pc]) hq3
   have s:=(s1.trans s2).trans s3
   have t10:=t9.same s
   have k1:=s _ _ k1
   have k2:=s _ _ k2
   have k3:=s _ _ k3
   have hr10:=s _ _ hr9
   have hR10:=hR9.ts (TS.of s)
   have m1:=s3 _ _ (s2 q1 _ upd_same)
   have m2:=s3 q2 _ upd_same
   have m3:upd (upd (upd H9 q1 (.tup [.int 0,.int 1])) q2 (.tup [.int 0,.int 1])) q3 (.lst [.ref q1,.ref q2,.ref pc]) q3=_:=upd_same
   have nq3:=(t9.same (s1.trans s2)).b.ne hq3
   generalize upd (upd (upd H9 q1 (.tup [.int 0,.int 1])) q2 (.tup [.int 0,.int 1])) q3 (.lst [.ref q1,.ref q2,.ref pc])=H10 at t10 k1 k2 k3 hr10 hR10 m1 m2 m3 ⊢
   clear s s1 s2 s3 hq1 hq2 hq3 hr9 hR9 t9
   refine⟨B,3,L,rfl,t10.b,by decide,by decide,fun d H11 d0 d1 b11 f11=>?_⟩
   have s11:=TS.fr t10.b f11
   have t11:=t10.pull tn f11 b11
   have k1:=s11 _ _ k1
   have k2:=s11 _ _ k2
   have k3:=s11 _ _ k3
   have hr11:=f11 _ _ rB hr10
   have hR11:=hR10.ts s11
   have m1:=s11 _ _ m1
   have m2:=s11 _ _ m2
   have m3:=f11 _ _ nq3 m3
   clear s11 t10 f11 b11 hr10 hR10
   obtain⟨mo,n,u,em,hmo,dmo⟩:∃ mo n u,atI [V.ref q1,V.ref q2,V.ref pc] d=some (.ref mo)∧H11 mo=some (.tup [.int n,.int u])∧Du UM 115 n u:=by
    have:d=0∨d=1∨d=2:=by omega
    have z0:Du UM 115 0 1:=⟨zero_pt,by decide⟩
    rcases this with rfl | rfl | rfl
    ·exact⟨q1,0,1,rfl,m1,z0⟩
    ·exact⟨q2,0,1,rfl,m2,z0⟩
    ·exact⟨pc,_,_,rfl,k2,g1⟩
   have t11c:=t11.c
   k_extra "rd"
   refine⟨.inl ⟨rfl,_,SqL.of t11c⟩,r,ys,row,UM,115,rfl,hr11,um_ok,hR11,by decide,by rw[hw.1];omega,fun s1 H12 s12 hs1=>?_⟩
   have sp:=sum_pt um_ok.pos hR11.mem
   have spn:=sumP_nn um_ok.pos (fun p hp=>(hR11.mem p hp).toOk) hw.2
   have sp':PtOk UM 121 (sumP row):=sp.mono (by rw[hw.1];omega)
   have da:=add_du um_ok.pos (j:=122) sp' (dmo.pt.mono (by decide:115≤121)) spn dmo.nn (by decide)
   refine⟨s1,mo,_,_,_,_,rfl,hs1,s12 _ _ hmo,sp.pos,dmo.pt.pos,(sp'.nsz um_ok.pos).mono (by decide),(sp.toOk.usz um_ok).mono (by decide),(dmo.pt.nsz um_ok.pos).mono (by decide),(dmo.pt.toOk.usz um_ok).mono (by decide),fun q4 hq4=>?_⟩
   have s13:=s12.trans (Same.new (o:=.tup [.int (addP (sumP row) (n,u)).1,.int (addP (sumP row) (n,u)).2]) hq4)
   have t13:=t11.same s13
   have k1:=s13 _ _ k1
   have k3:=s13 _ _ k3
   have q13:upd H12 q4 (.tup [.int (addP (sumP row) (n,u)).1,.int (addP (sumP row) (n,u)).2]) q4=_:=upd_same
   have eq4:upd H12 q4 (.tup [.int (lowN ((sumP row).1*u+n*(sumP row).2) ((sumP row).2*u)),.int (lowU ((sumP row).1*u+n*(sumP row).2) ((sumP row).2*u))])=upd H12 q4 (.tup [.int (addP (sumP row) (n,u)).1,.int (addP (sumP row) (n,u)).2]):=rfl
   rw[eq4]
   generalize upd H12 q4 (.tup [.int (addP (sumP row) (n,u)).1,.int (addP (sumP row) (n,u)).2])=H13 at t13 k1 k3 q13 ⊢
   clear s12 s13 hq4 hs1 t11 hr11 hR11 m1 m2 m3 hmo t11c sp sp' spn eq4 k2 em
   generalize addP (sumP row) (n,u)=dd at da q13
   k_extra "rd"
   intro q5 hq5
   have s14:=Same.new (o:=.tup [.ref q4,.ref kc,.int C0.rk]) hq5
   have t14:=t13.same s14
   have k3:=s14 _ _ k3
   have q14:=s14 _ _ q13
   have q15:upd H13 q5 (.tup [.ref q4,.ref kc,.int C0.rk]) q5=_:=upd_same
   generalize upd H13 q5 (.tup [.ref q4,.ref kc,.int C0.rk])=H14 at t14 k3 q14 q15 ⊢
   have tt:=t14.addClaim tn (v:=.ref q5) (c:=⟨dd.1,dd.2,C0.hp,C0.rk⟩) ⟨q5,q4,kc,rfl,q15,q14,k3⟩
   refine⟨xs,t14.c,small1000 (by omega),kN _ _ ⟨_,_,_,_,_,_,_,_,rfl,tt,?_,?_,?_,?_,hn.snoc (by omega) hn1⟩⟩
   ·rw[List.length_append,cl];rfl
   ·rw[List.length_append,rl];rfl
   ·intro c hc
    rcases List.mem_append.mp hc with hc | hc
    ·exact hG c hc
    ·rw[List.mem_singleton.mp hc]
     exact⟨da,g2,g3⟩
   ·intro q hq
    rcases List.mem_append.mp hq with hq | hq
    ·exact hr q hq
    ·rw[List.mem_singleton.mp hq]
     exact hw
  ·refine⟨_,rfl,(m:Int),rfl,by omega,by omega,fun l hl=>?_⟩
   refine comp_rangeR (k:=((m:Nat):Int).toNat) (fun a acc H8=>Same H7 H8∧H8 l=some (.lst acc)∧RowU UM 115 H8 acc (List.replicate a (0,1))) ⟨Same.new hl,upd_same,RowU.nil⟩ ?_ ?_
   ·rintro a acc H8 ha ⟨s8,hl8,hR8⟩
    simp only[gName_ap,tYes,if_true]
    refine⟨by decide,fun q hq=>?_⟩
    have s9:=Same.new (o:=.tup [.int 0,.int 1]) hq
    have nq:q≠l:=fun z=>by rw[z,hl8] at hq;cases hq
    have l9:=s9 _ _ hl8
    have len:=hR8.1
    rw[List.length_replicate] at len
    refine⟨l9,small1000 (by omega),?_,upd_same,?_⟩
    ·intro b o hb
     rw[upd_ne (fun z=>by rw[z,hl] at hb;cases hb)]
     exact s9 _ _ (s8 _ _ hb)
    ·rw[List.replicate_succ']
     exact ((hR8.ts (TS.of s9)).ts (TS.lst l9)).snoc (by rw[upd_ne nq,upd_same]) zero_pt
   ·rintro acc H8 ⟨s8,hl8,hR8⟩
    have t8:=t7.same s8
    have em:((m:Nat):Int).toNat=m:=Int.toNat_natCast m
    rw[em] at hR8
    have f1:=s8 _ _ e1
    have f2:=s8 _ _ e2
    have f3:=s8 _ _ e3
    have lB:=t7.b.ne hl
    have lL:=t7.b.neL hl
    have lF:l≠F:=fun z=>by rw[z,t7.f] at hl;cases hl
    have lC:l≠C:=fun z=>by rw[z,t7.c] at hl;cases hl
    have lZ:l≠Z:=fun z=>by rw[z,t7.z] at hl;cases hl
    have lz:=t7.hZ.fresh hl
    have l0:H l=none:=free _ _ t7.fr lB hl
    have hw:RwOk m (List.replicate m ((0,1):Int×Int)):=⟨List.length_replicate,fun p hp=>by rw[List.eq_of_mem_replicate hp];decide⟩
    have hn1:Nt1 C0.hp (List.replicate m ((0,1):Int×Int)):=Nt1.rep
    generalize List.replicate m ((0,1):Int×Int)=row0 at hR8 hw hn1
    simp only[gName_ap]
    clear s8 t7 hl em e1 e2 e3 cl rl hG hr hG6 free hn
    refine⟨_,rfl,rc,_,1,_,rfl,rfl,seqAt_tup f1,rfl,kc,rfl,⟨_,SqT.of f3⟩,for_tupN (K:=K) (a:=kc) (xs:=C0.hp.map V.int) (fun j σ H'=>∃ ys row v8,σ=[some (.ref B),some (.int (m:Int)),some (.int sc),some (.int un),some (.ref C),some (.ref Z),some (.ref rc),some (.ref l),v8,v9,none]∧Tb H B L F C Z xs0 cs0 xs cs zs rss H'∧H' rc=some (.tup [.ref pc,.ref kc,.int C0.rk])∧H' pc=some (.tup [.int C0.n,.int C0.u])∧H' kc=some (.tup (C0.hp.map V.int))∧H' l=some (.lst ys)∧RowU UM 115 H' ys row∧RwOk m row∧Nt1 C0.hp row) ⟨acc,row0,_,rfl,t8,f1,f2,f3,hl8,hR8,hw,hn1⟩ (fun j σ H' _ ⟨_,_,_,_,_,_,_,z,_⟩=>SqT.of z) ?_ ?_⟩
    ·clear t8 f1 f2 f3 hl8 hR8 hw hn1
     rintro j y σ H9 NN BB hy ⟨ys,row,v8,rfl,t9,k1,k2,k3,hl9,hR9,hw,hn1⟩ kN kB
     clear kB
     obtain⟨hj,rfl⟩:=int_at hy
     obtain⟨x0,x1⟩:=g3.1 C0.hp[j] (List.getElem_mem hj)
     have xm:=List.getElem_mem hj
     generalize C0.hp[j]=X at x0 x1 xm ⊢
     clear hy key key'
     simp only[gName_ap]
     k_extra "rd"
     refine⟨B,sc+1,L,rfl,t9.b,by omega,Sz.mono (j:=31) (Sz.of (by omega)) (by decide),fun d H10 d0 d1 b10 f10=>?_⟩
     have s10:=TS.fr t9.b f10
     have t10:=t9.pull tn f10 b10
     have k1:=s10 _ _ k1
     have k2:=s10 _ _ k2
     have k3:=s10 _ _ k3
     have hl10:=f10 _ _ lB hl9
     have hR10:=hR9.ts s10
     clear s10 t9 f10 b10 hl9 hR9
     k_extra "rd"
     refine⟨B,2,L,rfl,t10.b,by decide,by decide,fun d2 H11 c0 c1 b11 f11=>?_⟩
     have s11:=TS.fr t10.b f11
     have t11:=t10.pull tn f11 b11
     have k1:=s11 _ _ k1
     have k2:=s11 _ _ k2
     have k3:=s11 _ _ k3
     have hl11:=f11 _ _ lB hl10
     have hR11:=hR10.ts s11
     have om:IntMulOk d d2:=(Sz.of (k:=31) (by omega):Sz 31 d).ok (Sz.of (k:=2) (by omega)) (by decide)
     have dd:0≤d*d2∧d*d2≤1000000000:=by
      have:d2=0∨d2=1:=by omega
      rcases this with rfl | rfl<;>omega
     clear s11 t10 f11 b11 hl10 hR10
     k_extra "rd"
     refine⟨B,un,L,rfl,t11.b,hu1,Sz.mono (j:=6) (Sz.of (by omega)) (by decide),fun d3 H12 e0 e1 b12 f12=>?_⟩
     have s12:=TS.fr t11.b f12
     have t12:=t11.pull tn f12 b12
     have k1:=s12 _ _ k1
     have k2:=s12 _ _ k2
     have k3:=s12 _ _ k3
     have hl12:=f12 _ _ lB hl11
     have hR12:=hR11.ts s12
     clear s12 t11 f12 b12 hl11 hR11
     k_extra "rd"
     refine⟨_,_,rfl,by omega,Sz.mono (j:=7) (Sz.of (by omega)) (by decide),fun q hq=>?_⟩
     have du:=du_of dd.1 dd.2 (by omega:0 < 1+d3) (by omega)
     have s13:=Same.new (o:=.tup [.int (lowN (d*d2) (1+d3)),.int (lowU (d*d2) (1+d3))]) hq
     have t13:=t12.same s13
     have k1:=s13 _ _ k1
     have k2:=s13 _ _ k2
     have k3:=s13 _ _ k3
     have hl13:=s13 _ _ hl12
     have hR13:=hR12.ts (TS.of s13)
     have q13:upd H12 q (.tup [.int (lowN (d*d2) (1+d3)),.int (lowU (d*d2) (1+d3))]) q=_:=upd_same
     generalize upd H12 q (.tup [.int (lowN (d*d2) (1+d3)),.int (lowU (d*d2) (1+d3))])=H13 at t13 k1 k2 k3 hl13 hR13 q13 ⊢
     clear s13 t12 hl12 hR12 hq
     have hyl:ys.length=m:=by rw[hR13.1,hw.1]
     have hx:ixN ys.length X=some X.toNat:=by
      unfold ixN
      rw[if_pos (by omega),if_pos (by omega)]
     have nt:∀ a xs,H13 a=some (.tup xs)→a≠l:=fun a xs ha z=>by rw[z,hl13] at ha;cases ha
     refine⟨ys,hl13,X.toNat,hx,kN _ _ ⟨ys.set X.toNat (.ref q),row.set X.toNat (lowN (d*d2) (1+d3),lowU (d*d2) (1+d3)),_,rfl,t13.row hl13 lB lL lF lC lZ lz l0,by rw[upd_ne (nt _ _ k1)];exact k1,by rw[upd_ne (nt _ _ k2)];exact k2,by rw[upd_ne (nt _ _ k3)];exact k3,upd_same,?_,?_,hn1.put xm x0⟩⟩
     ·exact (hR13.ts (TS.lst hl13)).set (by rw[upd_ne (nt _ _ q13)];exact q13) du.pt
     ·refine⟨by rw[List.length_set];exact hw.1,fun p hp=>?_⟩
      rcases List.mem_or_eq_of_mem_set hp with hp | hp
      ·exact hw.2 p hp
      ·rw[hp];exact du.nn
    ·rintro σ H9 ⟨ys,row,v8,rfl,t9,k1,k2,k3,hl9,hR9,hw,hn1⟩
     exact key' _ _ ⟨l,ys,row,_,rfl,t9,k1,k2,k3,hl9,hR9,⟨hw,hn1⟩,lB,lL,lF,lC,lZ,lz,l0⟩
 ·rintro σ H7 ⟨xs,cs,zs,rss,v6,v7,v8,v9,rfl,t7,cl,rl,hG,hr,hn⟩
  have hl0:=t7.hF.1
  exact key _ _ ⟨m,sc,un,F,C,Z,xs0,cs0,xs,cs,zs,rss,_,_,_,_,rfl,t7,tn,m6,by omega,by omega,hG,hr,hn⟩
theorem ok__law_claims(D:DefAt K mg "_law_claims" s__law_claims f fd)(T:Txt K mg cx)(d__law_pull:DefOk P w K mg base CX0 1 "_law_pull" ["_law_bag_here","_law_many_here"] sp__law_pull)(d__law_due:DefOk P w K mg base CX0 3 "_law_due" ["_law_bag_here","_law_scale"] sp__law_due)(d__law_heap:DefOk P w K mg base CX0 2 "_law_heap" ["_law_bag_here","_law_many_here"] sp__law_heap):DefOk P w K mg base CX0 4 "_law_claims" ["_law_bag_here","_law_many_here"] sp__law_claims:=by
 refine D.ok (D.q sc__law_claims (fun vs H Q E h=>?_) (fun cdv A outer s H vs Q E hr h=>?_)) (D.fn.binds fun _ _ _ _ _ _ us hl=>match us,hl with | [_,_],_=>rfl)
 ·obtain⟨_,_,_,rfl,_⟩:=h
  rfl
 obtain⟨B,m,L,rfl,hB,m0,m6,hQ⟩:=h
 refine⟨_,(qss_cons (qs_sL 2 sc__law_claims.nd (qe_iS (qe_lst (qa_cons qe_int (qa_cons qe_int (qa_cons qe_int (qa_cons (qe_op op_pow qe_int qe_int) qa_nil))))) (qe_g d__law_pull (qa_2 (qv 0) qe_int))))
   (qss_cons (qs_setP (k:=3) ["_law_k"] [("_law_bag_here", 0)] sc__law_claims.nd (qi_range1 (by rfl) T.n_range (qa_1 (qe_iS (qe_lst (qa_cons qe_int (qa_cons qe_int (qa_cons qe_int (qa_cons qe_int qa_nil))))) (qe_g d__law_pull (qa_2 (qv 0) qe_int))))) (gext_name (by decide)) (fun _ _ _ _ _=>⟨(qg_name (i:=0) (show (["_law_k","_law_bag_here"]:List Str).Nodup by decide +kernel) rfl (Or.inl rfl)),qf_nil,(qe_op op_sub (qe_g d__law_pull (qa_2 (qv 1) qe_int)) qe_int)⟩))
   (qss_cons (qs_sL 4 sc__law_claims.nd (qe_lst qa_nil))
   (qss_cons (qs_for PassesOwn.never rfl (qi_range1 (by rfl) T.n_range (qa_1 (qe_iS (qe_lst (qa_cons qe_int (qa_cons qe_int (qa_cons qe_int (qa_cons qe_int (qa_cons qe_int (qa_cons qe_int (qa_cons qe_int (qa_cons qe_int (qa_cons qe_int (qa_cons qe_int qa_nil))))))))))) (qe_g d__law_pull (qa_2 (qv 0) qe_int))))) (qg_name (i:=5) sc__law_claims.nd rfl (Or.inl rfl)) (qss_one (qs_if (qw_and (qt_cmpR (op_neD hr.units) (qv 4) (qe_lst qa_nil) (nomark _)) (qw_and1 (qt_cmpR op_eq (qe_g d__law_pull (qa_2 (qv 0) qe_int)) qe_int (nomark _)))).pt (qss_one (qs_expr (qe_bmK (K:=K) rfl PySem.F.plainAttrs_list PySem.F.slot_list_append PySem.F.type_list_append mt_append (qv 4) (qa_1 (qe_iS (qv 4) (qe_g d__law_pull (qa_2 (qv 0) (qe_callB call_lenF (by rfl) T.n_len bt_len (qa_1 (qv 4)))))))))) (qss_one (qs_expr (qe_bmK (K:=K) rfl PySem.F.plainAttrs_list PySem.F.slot_list_append PySem.F.type_list_append mt_append (qv 4) (qa_1 (qe_tup (qa_3 (qe_g d__law_due (qa_2 (qv 0) (qv 2))) (qe_g d__law_heap (qa_2 (qv 0) (qv 1))) (qe_iS (qv 3) (qe_g d__law_pull (qa_2 (qv 0) (qe_callB call_lenF (by rfl) T.n_len bt_len (qa_1 (qv 3)))))))))))))))
   (qss_one (qs_ret (qv 4))))))),?_⟩
 k_extra "rx"
 refine i_NewO (by decide) fun p H1 hp s1 hp1=>?_
 k_extra "rx"
 refine⟨B,4,L,rfl,hB.keep s1,by decide,by decide,fun d H2 d0 d1 b2 f2=>?_⟩
 obtain⟨sc,ex,hx1,hx2⟩:=pick (P:=fun x=>0≤x∧x≤1000000000) [12,3,100,10 ^ 9] d0 d1 (by decide)
 refine i_ixL (f2 p _ (hB.ne hp) hp1) ex ?_
 have f12:Fr1 B H H2:=(Fr1.of s1).trans f2
 clear ex f2 hp1 s1 hp
 k_extra "rx"
 refine⟨by show 4≤sizeLine;decide,fun q hq=>⟨_,rfl,B,4,L,rfl,b2.new hq,by decide,by decide,fun d6 H3 g0 g1 b3 f3=>?_⟩⟩
 have hq3:=f3 q _ (b2.ne hq) upd_same
 have f13:Fr1 B H H3:=f12.trans ((Fr1.new hq).trans f3)
 obtain⟨nr,ex2,hr1,hr2⟩:=pick (P:=fun x=>0 < x∧x≤16) [1,2,3,16] g0 g1 (by decide)
 refine⟨q,_,d6,_,rfl,rfl,seqAt_lst hq3,ex2,nr,rfl,by omega,by omega,fun l hl=>?_⟩
 clear ex2 hq3 f3 hq f12 b2 d0 d1 g0 g1
 have nlB:=b3.ne hl
 have nlL:=b3.neL hl
 have nl0:H l=none:=fr_none f13 nlB hl
 refine comp_rangeR (k:=nr.toNat) (fun i acc H4=>∃ rs:List Int,acc=rs.map V.int∧rs.length=i∧(∀ r∈rs,Sz 10 r)∧BagAt H4 B L∧Fr1 B H H4∧H4 l=some (.lst acc)) ⟨[],rfl,rfl,(fun r h=>by cases h),b3.new hl,f13.trans (Fr1.new hl),upd_same⟩ ?_ ?_
 ·rintro i acc H4 hi ⟨rs,rfl,hlen,hrz,b4,f4,hl4⟩
  refine i_gName (i_yes ?_)
  rw[if_pos rfl]
  k_extra "rx"
  refine⟨B,30,L,rfl,b4,by decide,by decide,fun d5 H5 e0 e1 b5 f5=>?_⟩
  k_extra "rx"
  exact⟨f5 _ _ nlB hl4,small1000 (by rw[List.length_map];omega),rs++[d5 - 9],by rw[List.map_append];rfl,by rw[List.length_append,hlen];rfl,(fun r hr=>by rcases List.mem_append.mp hr with hr | hr;exact hrz r hr;rw[List.mem_singleton.mp hr];exact (Sz.of (k:=6) (by omega):Sz 6 (d5 - 9)).mono (by decide)),b5.put nlB nlL,fr_new (f4.trans f5) Fr1.upd nl0,upd_same⟩
 ·rintro acc H4 ⟨rs,rfl,hrs,hrz,b4,f4,hl4⟩
  clear b3 f13 hl
  k_extra "rx"
  refine i_NewO (by decide) fun F H5 hF s5 hF5=>?_
  have nFB:=b4.ne hF
  have nFL:=b4.neL hF
  have nFl:F≠l:=fun z=>by rw[z,hl4] at hF;cases hF
  have nF0:H F=none:=fr_none f4 nFB hF
  have b5:=b4.keep s5
  have f5:Fr1 B H H5:=f4.trans (Fr1.of s5)
  have hl5:=s5 _ _ hl4
  clear b4 f4 hl4 hF s5
  k_extra "rx"
  refine⟨by show 10≤sizeLine;decide,fun q hq=>⟨_,rfl,B,10,L,rfl,b5.new hq,by decide,by decide,fun d6 H6 g0 g1 b6 f6=>?_⟩⟩
  have hq6:=f6 q _ (b5.ne hq) upd_same
  have s5:=Same.new (o:=.lst [.int 4,.int 3,.int 5,.int 2,.int 1,.int 6,.int 8,.int 0,.int 11,.int 16]) hq
  have hl6:=f6 _ _ nlB (s5 _ _ hl5)
  have hF6:=f6 _ _ nFB (s5 _ _ hF5)
  have F6:Fr1 B H H6:=f5.trans ((Fr1.new hq).trans f6)
  obtain⟨nc,ex3,hc1,hc2⟩:=pick (P:=fun x=>0≤x∧x≤16) [4,3,5,2,1,6,8,0,11,16] g0 g1 (by decide)
  refine⟨q,_,d6,_,rfl,rfl,seqAt_lst hq6,ex3,nc,rfl,by omega,by omega,for_rangeN (lo:=0) (n:=nc.toNat) (fun i σ H7=>∃ xs cs v,σ=[some (.ref B),some (.int m),some (.int sc),some (.ref l),some (.ref F),v]∧Fr1 B H H7∧BagAt H7 B L∧H7 l=some (.lst (rs.map V.int))∧H7 F=some (.lst xs)∧ClsAt H7 xs cs∧cs.length=i∧∀ c∈cs,GoodU2 UM 115 m c)
   ⟨[],[],none,rfl,F6,b6,hl6,hF6,ClsAt.nil,rfl,fun c hc=>by cases hc⟩ ?_ ?_⟩
  ·clear ex3 hq6 s5 hl6 hF6 F6 b6 f6 hq hl5 hF5 f5 b5 g0 g1
   rintro i σ H7 NN BB hi ⟨xs,cs,v,rfl,F7,b7,hl7,hF7,hC7,hlen,hG⟩ kN kB
   clear kB
   have hxl:xs.length=i:=by rw[hC7.1];exact hlen
   have fin:∀(H8:Hp)(v':V)(c':Cl)(w5:Option V),Fr1 B H H8→BagAt H8 B L→H8 l=some (.lst (rs.map V.int))→H8 F=some (.lst xs)→ClsAt H8 xs cs→ClAt H8 v' c'→GoodU2 UM 115 m c' →
     rAppend (.ref F) [v'] H8 fun _ H9=>NN [some (.ref B),some (.int m),some (.int sc),some (.ref l),some (.ref F),w5] H9:=fun H8 v' c' w5 F8 b8 hl8 hF8 hC8 c8 g8=>by
    refine i_app hF8 (by omega) fun H9 hF9 f9=>kN _ _ ⟨_,cs++[c'],_,rfl,fr_new F8 f9 nF0,b8.frm f9 nFB nFL,f9 _ _ nFl.symm hl8,hF9,(hC8.ts (TS.frl hF8 f9)).snoc (c8.ts (TS.frl hF8 f9)),by rw[List.length_append,hlen];rfl,fun c hc=>?_⟩
    rcases List.mem_append.mp hc with hc | hc
    ·exact hG c hc
    ·rw[List.mem_singleton.mp hc];exact g8
   refine i_gName ?_
   refine if_cut (fun H8=>BagAt H8 B L∧H8 F=some (.lst xs)∧H8 l=some (.lst (rs.map V.int))∧ClsAt H8 xs cs∧Fr1 B H H8) ?_ fun u' ku=>?_
   ·rintro H8 ⟨b8,hF8,hl8,hC8,F8⟩
    k_extra "rx"
    refine i_tBM ?_
    k_extra "rx"
    refine⟨.inl ⟨rfl,_,SqL.of hF8⟩,?_⟩
    k_extra "rx"
    refine⟨B,sc,L,rfl,b8,hx1,hx2,fun pd n u H9x np b9x f9x hp9x du=>?_⟩
    have t9x:=TS.fr b8 f9x
    have hF9x:=f9x _ _ nFB hF8
    have hl9x:=f9x _ _ nlB hl8
    have hC9x:=hC8.ts t9x
    have F9x:=F8.trans f9x
    clear np t9x
    k_extra "rx"
    refine⟨B,m,L,rfl,b9x,m0,m6,fun th hs H10 nt b10 f10 ht10 hl10 hb10 nd10=>?_⟩
    have t10:=TS.fr b9x f10
    have hF10:=f10 _ _ nFB hF9x
    have hll:=f10 _ _ nlB hl9x
    have hC10:=hC9x.ts t10
    have F10:=F9x.trans f10
    have hp10:=t10 _ _ hp9x
    clear nt t10 hF9x hl9x hC9x F9x hp9x
    k_extra "rx"
    refine⟨B,_,L,rfl,b10,by rw[List.length_map];omega,Sz.mono (j:=6) (Sz.of (by rw[List.length_map];omega)) (by decide),fun j H11 j0 j1 b11 f11=>?_⟩
    have t11:=TS.fr b10 f11
    have hp11:=t11 _ _ hp10
    have ht11:=t11 _ _ ht10
    rw[List.length_map] at j1
    refine i_ixL (f11 _ _ nlB hll) (atI_ints (ws:=rs) j0 j1) ?_
    k_extra "rx"
    refine i_NewO (by show 3≤64;decide) fun r H12 hr s12 hr12=>?_
    exact fin H12 _ ⟨n,u,hs,rs.getD j.toNat 0⟩ _ ((F10.trans f11).trans (Fr1.of s12)) (b11.keep s12) (s12 _ _ (f11 _ _ nlB hll)) (s12 _ _ (f11 _ _ nFB hF10)) ((hC10.ts t11).ts (TS.of s12)) ⟨r,pd,th,rfl,hr12,s12 _ _ hp11,s12 _ _ ht11⟩ ⟨du,hl10,hb10,rk_at hrz (by omega),nd10⟩
   k_extra "rx"
   refine i_NewO (by decide) fun e H8 he s8 he8=>?_
   have hF8:=s8 _ _ hF7
   have hl8:=s8 _ _ hl7
   have hC8:=hC7.ts (TS.of s8)
   have b8:=b7.keep s8
   have F8:=F7.trans (Fr1.of s8)
   refine⟨.lst (cs.map cD),.lst [],den_lst hF8 hC8.dens,den_lst he8 dens0,fun _ j d e h1 h2=>by simp at h2,?_⟩
   clear s8 hF7 hl7 hC7 b7 F7 he he8
   k_extra "rx"
   refine brkNB (fun h1=>?_) (fun h1=>?_)
   ·have hpos:0 < xs.length:=by
     rcases Nat.eq_zero_or_pos xs.length with z | z
     ·exfalso
      have z2:cs=[]:=List.length_eq_zero_iff.mp (by rw[← hC8.1];exact z)
      simp[z2] at h1
     ·exact z
    k_extra "rx"
    refine⟨B,7,L,rfl,b8,by decide,by decide,fun d9 H9 k0 k1 b9 f9=>?_⟩
    have t9:=TS.fr b8 f9
    have gF:=f9 _ _ nFB hF8
    have gl:=f9 _ _ nlB hl8
    have gC:=hC8.ts t9
    have gFr:=F8.trans f9
    clear t9 hF8 hl8 hC8 b8 F8 f9
    k_extra "rx"
    refine⟨rfl,?_⟩
    k_extra "rx"
    refine brkD (fun h2=>?_) (fun h2=>?_)
    ·k_extra "rx"
     refine i_tBM ?_
     k_extra "rx"
     refine⟨.inl ⟨rfl,_,SqL.of gF⟩,?_⟩
     k_extra "rx"
     refine⟨B,_,L,rfl,b9,by omega,Sz.mono (j:=6) (Sz.of (by omega)) (by decide),fun j H10 j0 j1 b10 f10=>?_⟩
     have gC10:=gC.ts (TS.fr b9 f10)
     have hj:j.toNat < cs.length:=by rw[← gC.1];omega
     obtain⟨v',ev,hv'⟩:=gC10.2 j.toNat cs[j.toNat] (List.getElem?_eq_getElem hj)
     have ej:atI xs j=some v':=by
      have:=atI_nat ev
      rwa [Int.toNat_of_nonneg j0] at this
     refine i_ixL (f10 _ _ nFB gF) ej ?_
     exact fin _ _ _ _ (gFr.trans f10) b10 (f10 _ _ nlB gl) (f10 _ _ nFB gF) gC10 hv' (hG _ (List.getElem_mem hj))
    ·exact ku _ ⟨b9,gF,gl,gC,gFr⟩
   ·k_extra "rx"
    exact ku _ ⟨b8,hF8,hl8,hC8,F8⟩
  ·rintro σ H7 ⟨xs,cs,v,rfl,F7,b7,hl7,hF7,hC7,hlen,hG⟩
   exact⟨_,rfl,hQ F xs cs H7 nF0 b7 F7 hF7 hC7 (by omega) hG⟩
theorem ok_moves_from(D:DefAt K mg "moves_from" s_moves_from f fd)(T:Txt K mg cx):DefOk P w K mg base CX0 1 "moves_from" ["claims","rows","fund"] sp_moves_from:=by
 refine D.ok (D.q sc_moves_from (fun vs H Q E h=>?_) (fun cdv A outer s H vs Q E hr h=>?_)) (D.fn.binds fun _ _ _ _ _ _ us hl=>match us,hl with | [_,_,_],_=>rfl)
 ·obtain⟨_,_,_,_,_,_,_,_,_,_,rfl,_⟩:=h
  rfl
 obtain⟨ac,ar,al,xs,cs,zs,m,R,Lf,f,rfl,x,hf,c16,hb,hQ⟩:=h
 refine⟨_,(qss_cons (qs_sL 3 sc_moves_from.nd (qe_lst qa_nil))
   (qss_cons (qs_for PassesOwn.never rfl (qi_enumK (K:=K) rfl (by rfl) T.n_enumerate (qa_1 (qv 1))) (qg_tupK (K:=K) (n:=2) rfl rfl (qgs_cons (qg_name (i:=4) sc_moves_from.nd rfl (Or.inr rfl)) (qgs_cons (qg_name (i:=5) sc_moves_from.nd rfl (Or.inl rfl)) qgs_nil))) (qss_one (qs_if (qt_cmpR op_gt (qe_iS (qv 5) (qv 2)) qe_int (nomark _)) (qss_one (qs_sL 3 sc_moves_from.nd (qe_op op_cat (qv 3) (qe_cp ["other"] [("place", 4)] (qi_tupK (K:=K) rfl (qe_iS (qe_iS (qv 0) (qv 4)) qe_int)) (gext_name (by decide)) (fun _ _ _ _ _=>⟨(qg_name (i:=0) (show (["other","place"]:List Str).Nodup by decide +kernel) rfl (Or.inl rfl)),qf_nil,(qe_tup (qa_2 (qv 1) (qv 0)))⟩))))) qss_nil)))
   (qss_one (qs_ret (qv 3))))),?_⟩
 k_extra "rx"
 refine i_NewO (by decide) fun F0 H1 hF0 s1 hF1=>?_
 have x1:=x.same s1
 have zl:=x1.hR.1
 refine i_gName ?_
 dsimp only
 refine⟨_,rfl,ar,rfl,⟨_,SqL.of x1.r⟩,for_enumN (K:=K) (a:=ar) (xs:=zs) (fun i σ H'=>∃ F vs,∃ ms:List (Nat×Nat),∃ v4 v5,σ=[some (.ref ac),some (.ref ar),some (.int (f:Int)),some (.ref F),v4,v5]∧Same H1 H'∧H F=none∧H' F=some (.lst vs)∧RowV H' vs (ms.map ic)∧ms.length≤6*i∧(∀ s∈ms,s.1 < cs.length∧0 < R s.1 f∧(s.2:Int)∈heapP cs s.1)∧∀ p,p < i→0 < R p f→∀ x∈heapP cs p,(p,x.toNat)∈ms) ⟨F0,[],[],_,_,rfl,fun _ _ h=>h,hF0,hF1,⟨rfl,fun i p h=>by simp at h⟩,Nat.le_refl _,(fun s h=>by cases h),fun p h=>by omega⟩ (fun i σ H' _ ⟨_,_,_,_,_,_,s,_⟩=>SqL.of (s _ _ x1.r)) ?_ ?_⟩
 ·rintro i y q σ H2 H3 NN BB hy hq s3 hq3 ⟨F,vs,ms,v4,v5,rfl,s2,nF,hF,hR,ml,h1,h2⟩ kN kB
  clear kB
  have hi:i < cs.length:=by rw[← zl];exact (List.getElem?_eq_some_iff.mp hy).1
  have x3:=x1.same (s2.trans s3)
  have hF3:=s3 _ _ hF
  have hR3:=hR.ts (TS.of s3)
  have s13:=s2.trans s3
  obtain⟨l,e0,hl,e1,_,_⟩:=x3.row hi
  rw[e1] at hy
  cases hy
  obtain⟨rc,pc,kc,a1,k1,k2⟩:=x3.cl' hi
  have a2:=rowV_at (g:=R i) hf
  have x3c:=x3.c
  clear hF hR s2 s3
  refine⟨q,_,rfl,SqT.of hq3,rfl,_,_,rfl,_,_,rfl,rfl,?_⟩
  dsimp only
  k_extra "rx"
  refine brkD (fun h3=>?_) (fun h3=>?_)
  ·k_extra "rx"
   refine⟨_,rfl,_,rfl,ac,xs,_,_,rfl,rfl,seqAt_lst x3c,a1,rc,_,1,_,rfl,rfl,seqAt_tup k1,rfl,kc,rfl,⟨_,SqT.of k2⟩,fun F2 hF2=>?_⟩
   refine comp_tupR (K:=K) (a:=kc) (xs:=(heapP cs i).map V.int) (fun j acc H4=>Same H3 H4∧H4 F2=some (.lst acc)∧RowV H4 acc (((heapP cs i).take j).map fun x=>((i:Int),x))) ⟨Same.new hF2,upd_same,⟨rfl,fun i p h=>by simp at h⟩⟩ (fun j acc H4 _ ⟨s4,_⟩=>SqT.of (s4 _ _ k2)) ?_ ?_
   ·rintro j y acc H4 hy ⟨s4,hF4,hA⟩
    obtain⟨hj,rfl⟩:=int_at hy
    have len:=hA.1
    rw[List.length_map,List.length_take] at len
    have hb6:=(hb i hi).1
    rw[take_map_succ _ hj]
    generalize (heapP cs i)[j]=X
    simp only[gName_ap,tYes,if_true]
    k_extra "rx"
    refine i_NewO (Nat.le_of_ble_eq_true rfl) fun t0 H5 ht0 s5 ht5=>?_
    have l5:=s5 _ _ hF4
    have nt:t0≠F2:=fun z=>by rw[z,hF4] at ht0;cases ht0
    exact⟨l5,small1000 (by omega),same_put hF2 (s4.trans s5),upd_same,((hA.ts (TS.of s5)).ts (TS.lst l5)).snoc (by rw[upd_ne nt];exact ht5)⟩
   ·rintro acc H4 ⟨s4,hF4,hA⟩
    rw[List.length_map,List.take_length] at hA
    have hF34:=s4 _ _ hF3
    have hR4:=hR3.ts (TS.of s4)
    have vl:=hR4.1
    have al':=hA.1
    rw[List.length_map] at vl al'
    have hb6:=(hb i hi).1
    refine⟨F,F2,vs,acc,rfl,rfl,hF34,hF4,Nat.le_trans (show vs.length+acc.length≤200 by omega) (by decide),fun F3 hF5=>?_⟩
    have s5:=Same.new (o:=.lst (vs++acc)) hF5
    refine i_gName ?_
    refine kN _ _ ⟨F3,vs++acc,ms++(heapP cs i).map (fun x=>(i,x.toNat)),_,_,rfl,(s13.trans s4).trans s5,none_back ((s1.trans s13).trans s4) hF5,upd_same,?_,?_,fun s hs=>?_,fun p hp h x hx=>?_⟩
    ·rw[List.map_append,List.map_map]
     have e:List.map (ic ∘ fun x=>(i,x.toNat)) (heapP cs i)=(heapP cs i).map fun x=>((i:Int),x):=List.map_congr_left fun x hx=>by
      have:=(hb i hi).2 x hx
      show ((i:Int),((x.toNat:Nat):Int))=((i:Int),x)
      rw[Int.toNat_of_nonneg this.1]
     rw[e]
     exact (hR4.ts (TS.of s5)).app (hA.ts (TS.of s5))
    ·rw[List.length_append,List.length_map]
     omega
    ·rcases List.mem_append.mp hs with hs | hs
     ·exact h1 s hs
     ·obtain⟨x,hx,rfl⟩:=List.mem_map.mp hs
      refine⟨hi,h3,?_⟩
      show ((x.toNat:Nat):Int)∈_
      rw[Int.toNat_of_nonneg ((hb i hi).2 x hx).1]
      exact hx
    ·by_cases e:p < i
     ·exact List.mem_append_left _ (h2 p e h x hx)
     ·have e:p=i:=by omega
      subst e
      exact List.mem_append_right _ (List.mem_map.mpr ⟨x,hx,rfl⟩)
  ·refine i_tNext ?_
   exact kN _ _ ⟨F,vs,ms,_,_,rfl,s13,nF,hF3,hR3,by omega,h1,fun p hp h=>by
    by_cases e:p < i
    ·exact h2 p e h
    ·rw[show p=i by omega] at h
     exact absurd h h3⟩
 ·rintro σ H2 ⟨F,vs,ms,v4,v5,rfl,s2,nF,hF,hR,ml,h1,h2⟩
  rw[zl] at h2
  k_extra "rx"
  exact hQ F vs ms H2 (s1.trans s2) nF hF hR h1 h2
theorem ok_most_along(D:DefAt K mg "most_along" s_most_along f fd)(T:Txt K mg cx):DefOk P w K mg base CX0 1 "most_along" ["rows","left","chain"] sp_most_along:=by
 refine D.ok (D.q sc_most_along (fun vs H Q E h=>?_) (fun cdv A outer s H vs Q E hr h=>?_)) (D.fn.binds fun _ _ _ _ _ _ us hl=>match us,hl with | [_,_,_],_=>rfl)
 ·obtain⟨_,_,_,_,_,_,_,_,_,_,_,_,_,rfl,_⟩:=h
  rfl
 obtain⟨ac,ar,al,xs,cs,zs,m,R,Lf,place,q,ts,ch,rfl,x,hq,hR,hc,hQ⟩:=h
 refine⟨_,(qss_cons (qs_sL 3 sc_most_along.nd (qe_iS (qv 1) (qe_iS (qe_iS (qv 2) (qe_un un_neg qe_int)) qe_int)))
   (qss_cons (qs_for PassesOwn.never rfl (qi_zipTK (K:=K) rfl (by rfl) T.n_zip (qa_2 (qv 2) (qe_slice sl_tupG (qv 2) (qo_some qe_int) qo_none))) (qg_tupK (K:=K) (n:=2) rfl rfl (qgs_cons (qg_name (i:=4) sc_most_along.nd rfl (Or.inl rfl)) (qgs_cons (qg_name (i:=5) sc_most_along.nd rfl (Or.inl rfl)) qgs_nil))) (qss_one (qs_sL 3 sc_most_along.nd (qe_callB (call_min2 rfl) (by rfl) T.n_min bt_min (qa_2 (qv 3) (qe_iS (qe_iS (qv 0) (qe_iS (qv 5) qe_int)) (qe_iS (qv 4) qe_int)))))))
   (qss_one (qs_ret (qv 3))))),?_⟩
 have tl:ts.length=ch.length:=by rw[hR.1,List.length_map]
 have ne:=hc.ne
 obtain⟨qe,e1,_,hqe⟩:=ic_at hR (show ch.length - 1 < ch.length by omega)
 have a1:atI ts (-1)=some (.ref qe):=at_end (by omega) (by rw[tl];exact e1)
 have lt:=hc.lt (ch.length - 1) (by omega)
 have a2:=rowV_at (g:=Lf) lt.2
 have xl:=x.l
 k_extra "rx"
 refine i_ixT hq a1 ?_
 k_extra "rx"
 refine⟨_,rfl,_,rfl,1,rfl,q,ts,rfl,hq,fun q2 H1 s1 hq2=>?_⟩
 have ec:cutV ts (some 1) none=ts.drop 1:=cut1 (by omega)
 rw[ec] at hq2
 have x1:=x.same s1
 have hq1:=s1 _ _ hq
 have hR1:=hR.ts (TS.of s1)
 have dl:(ts.drop 1).length=ch.length - 1:=by rw[List.length_drop,tl]
 refine⟨q,q2,rfl,⟨_,SqT.of hq1⟩,⟨_,SqT.of hq2⟩,for_zipTN (K:=K) (a:=q) (b:=q2) (xs:=ts) (ys:=ts.drop 1) (fun i σ H'=>∃ a v4 v5,σ=[some (.ref ar),some (.ref al),some (.ref q),some (.int a),v4,v5]∧Same H1 H'∧a≤Lf (cF ch (ch.length - 1))∧(∀ k,k < i→a≤R (cP ch (k+1)) (cF ch k))∧(0 < Lf (cF ch (ch.length - 1))→0 < a)) ⟨_,_,_,rfl,fun _ _ h=>h,Int.le_refl _,(fun k hk=>by omega),fun h=>h⟩ (by omega) (fun i σ H' _ ⟨_,_,_,_,s,_⟩=>⟨SqT.of (s _ _ hq1),SqT.of (s _ _ hq2)⟩) ?_ ?_⟩
 ·rintro i y1 y2 pq σ H2 H3 NN BB hy1 hy2 hpq s3 hpq3 ⟨a,v4,v5,rfl,s2,b1,b2,b3⟩ kN kB
  clear kB
  have s13:=s2.trans s3
  have hi:i+1 < ch.length:=by
   have:=(List.getElem?_eq_some_iff.mp hy2).1
   omega
  have hR3:=hR1.ts (TS.of s13)
  have x3:=x1.same s13
  obtain⟨qa,k1,_,k3⟩:=ic_at hR3 (show i < ch.length by omega)
  obtain⟨qb,k4,_,k6⟩:=ic_at hR3 hi
  rw[k1] at hy1
  cases hy1
  rw[List.getElem?_drop,Nat.add_comm,k4] at hy2
  cases hy2
  obtain⟨l1,l2⟩:=hc.lt (i+1) hi
  obtain⟨l3,l4⟩:=hc.lt i (by omega)
  obtain⟨l,e0,hl,_,_,_⟩:=x3.row l1
  have a5:=rowV_at (g:=R (cP ch (i+1))) l4
  have x3r:=x3.r
  have st:=hc.st i hi
  refine⟨pq,_,rfl,SqT.of hpq3,rfl,_,_,rfl,_,_,rfl,rfl,?_⟩
  dsimp only
  k_extra "rx"
  refine⟨_,_,rfl,?_⟩
  refine i_gName ?_
  refine kN _ _ ⟨_,_,_,rfl,s13,?_,fun k hk=>?_,fun h=>?_⟩
  ·split<;>omega
  ·by_cases e:k < i
   ·have:=b2 k e
    split<;>omega
   ·rw[show k=i by omega]
    split<;>omega
  ·have:=b3 h
   split<;>omega
 ·rintro σ H2 ⟨a,v4,v5,rfl,s2,b1,b2,b3⟩
  rw[dl] at b2
  k_extra "rx"
  exact hQ a H2 (s1.trans s2) b1 (fun i hi=>b2 i (by omega)) b3
theorem ok_move_along(D:DefAt K mg "move_along" s_move_along f fd)(T:Txt K mg cx):DefOk P w K mg base CX0 1 "move_along" ["rows","left","chain","amount"] sp_move_along:=by
 refine D.ok (D.q sc_move_along (fun vs H Q E h=>?_) (fun cdv A outer s H vs Q E hr h=>?_)) (D.fn.binds fun _ _ _ _ _ _ us hl=>match us,hl with | [_,_,_,_],_=>rfl)
 ·obtain⟨_,_,_,_,_,_,_,_,_,_,_,_,_,_,_,rfl,_⟩:=h
  rfl
 obtain⟨ac,ar,al,xs,cs,zs,m,R,Lf,place,q,ts,ch,a,cap,rfl,x,hq,hR,hc,fl,a0,aL,aR,hQ⟩:=h
 refine⟨_,(qss_cons (qs_augS (qe_iS (qv 0) (qe_iS (qe_iS (qv 2) qe_int) qe_int)) (qe_iS (qe_iS (qv 2) qe_int) qe_int) get_list (qv 3) ip_add set_list)
   (qss_cons (qs_for PassesOwn.never rfl (qi_zipTK (K:=K) rfl (by rfl) T.n_zip (qa_2 (qv 2) (qe_slice sl_tupG (qv 2) (qo_some qe_int) qo_none))) (qg_tupK (K:=K) (n:=2) rfl rfl (qgs_cons (qg_name (i:=4) sc_move_along.nd rfl (Or.inl rfl)) (qgs_cons (qg_name (i:=5) sc_move_along.nd rfl (Or.inl rfl)) qgs_nil))) (qss_cons (qs_augS (qe_iS (qv 0) (qe_iS (qv 5) qe_int)) (qe_iS (qv 4) qe_int) get_list (qv 3) ip_sub set_list)
   (qss_one (qs_augS (qe_iS (qv 0) (qe_iS (qv 5) qe_int)) (qe_iS (qv 5) qe_int) get_list (qv 3) ip_add set_list))))
   (qss_one (qs_augS (qv 1) (qe_iS (qe_iS (qv 2) (qe_un un_neg qe_int)) qe_int) get_list (qv 3) ip_sub set_list)))),?_⟩
 have tl:ts.length=ch.length:=by rw[hR.1,List.length_map]
 have ne:=hc.ne
 obtain⟨q0,_,e0,hq0⟩:=ic_at hR ne
 have e0:atI ts 0=some (.ref q0):=e0
 obtain⟨l1,l2⟩:=hc.lt 0 ne
 obtain⟨l,el,hl,ez,nX,lz⟩:=x.row l1
 have a1:=rowV_at (g:=R (cP ch 0)) l2
 have xr:=x.r
 k_extra "rx"
 refine i_ixT hq e0 ?_
 k_extra "rx"
 refine i_ixT hq e0 ?_
 k_extra "rx"
 refine i_getL hl (by omega) a1 ?_
 k_extra "rx"
 refine i_setN (k:=cF ch 0) hl (ixN_nat (by rw[rowV_len];exact l2)) (rowV_up l2) fun H1 g1 f1=>?_
 have ts1:=TS.frl hl f1
 have x1:=x.putR l1 ez hl nX f1 g1
 have mv:=Mv.start fl hc a0
 have z1:FrZ zs al H H1:=FrZ.row lz f1
 have hq1:=ts1 _ _ hq
 have hR1:=hR.ts ts1
 generalize up2 R (cP ch 0) (cF ch 0) (R (cP ch 0) (cF ch 0)+a)=R0 at x1 mv
 clear g1 f1 ts1 hl xr a1 el ez
 k_extra "rx"
 refine⟨_,rfl,_,rfl,1,rfl,q,ts,rfl,hq1,fun q2 H2 s2 hq2=>?_⟩
 have ec:cutV ts (some 1) none=ts.drop 1:=cut1 (by omega)
 rw[ec] at hq2
 have x2:=x1.same s2
 have hq22:=s2 _ _ hq1
 have hR2:=hR1.ts (TS.of s2)
 have z2:=z1.trans (FrZ.of s2)
 have dl:(ts.drop 1).length=ch.length - 1:=by rw[List.length_drop,tl]
 clear x1 hq1 hR1 z1 s2 hq hR x
 refine⟨q,q2,rfl,⟨_,SqT.of hq22⟩,⟨_,SqT.of hq2⟩,for_zipTN (K:=K) (a:=q) (b:=q2) (xs:=ts) (ys:=ts.drop 1) (fun i σ H'=>∃ Ri v4 v5,σ=[some (.ref ar),some (.ref al),some (.ref q),some (.int a),v4,v5]∧Tq ac ar al xs cs zs m Ri Lf H'∧Mv cs.length m R (heapP cs) place ch a i Ri∧Toy.TS H2 H'∧FrZ zs al H H') ⟨R0,_,_,rfl,x2,mv,(fun _ _ h=>h),z2⟩ (by omega) (fun i σ H' _ ⟨_,_,_,_,_,_,s,_⟩=>⟨SqT.of (s _ _ hq22),SqT.of (s _ _ hq2)⟩) ?_ ?_⟩
 ·rintro i y1 y2 pq σ H3 H4 NN BB hy1 hy2 hpq s4 hpq4 ⟨Ri,v4,v5,rfl,x3,mv,t3,z3⟩ kN kB
  clear kB x2 z2
  have hi:i+1 < ch.length:=by
   have:=(List.getElem?_eq_some_iff.mp hy2).1
   omega
  have t4:Toy.TS H2 H4:=fun b o h=>s4 _ _ (t3 b o h)
  have hR4:=hR2.ts t4
  have x4:=x3.same s4
  have z4:=z3.trans (FrZ.of s4)
  clear x3 t3 z3 s4
  obtain⟨qa,k1,_,k3⟩:=ic_at hR4 (show i < ch.length by omega)
  obtain⟨qb,k4,_,k6⟩:=ic_at hR4 hi
  rw[k1] at hy1
  cases hy1
  rw[List.getElem?_drop,Nat.add_comm,k4] at hy2
  cases hy2
  obtain⟨l1,l2⟩:=hc.lt (i+1) hi
  obtain⟨l3,l4⟩:=hc.lt i (by omega)
  obtain⟨l,e0,hl,ez,nX,lz⟩:=x4.row l1
  have a5:=rowV_at (g:=Ri (cP ch (i+1))) l4
  have x4r:=x4.r
  refine⟨pq,_,rfl,SqT.of hpq4,rfl,_,_,rfl,_,_,rfl,rfl,?_⟩
  dsimp only
  k_extra "rx"
  refine i_getL hl (by omega) a5 ?_
  k_extra "rx"
  refine i_setN (k:=cF ch i) hl (ixN_nat (by rw[rowV_len];exact l4)) (rowV_up l4) fun H5 g5 f5=>?_
  have ts5:=TS.frl hl f5
  have x5:=x4.putR l1 ez hl nX f5 g5
  have k3':=ts5 _ _ k3
  have k6':=ts5 _ _ k6
  have t5:Toy.TS H2 H5:=fun b o h=>ts5 _ _ (t4 b o h)
  have z5:=z4.trans (FrZ.row lz f5)
  have mvs:=fun R1 e=>mv.step fl hc a0 hi (aR i hi) R1 e
  have mv1:=mvs _ rfl
  generalize up2 Ri (cP ch (i+1)) (cF ch i) (Ri (cP ch (i+1)) (cF ch i) - a)=R1 at x5 mv1
  clear mvs mv x4 x4r hl g5 f5 ts5 t4 z4 k3 k6 a5 e0 ez nX lz
  obtain⟨l,e0,hl,ez,nX,lz⟩:=x5.row l1
  have a5:=rowV_at (g:=R1 (cP ch (i+1))) l2
  have x5r:=x5.r
  k_extra "rx"
  refine i_getL hl (by omega) a5 ?_
  k_extra "rx"
  refine i_setN (k:=cF ch (i+1)) hl (ixN_nat (by rw[rowV_len];exact l2)) (rowV_up l2) fun H6 g6 f6=>?_
  have ts6:=TS.frl hl f6
  exact kN _ _ ⟨_,_,_,rfl,x5.putR l1 ez hl nX f6 g6,mv1,fun b o h=>ts6 _ _ (t5 b o h),z5.trans (FrZ.row lz f6)⟩
 ·rintro σ H3 ⟨Ri,v4,v5,rfl,x3,mv,t3,z3⟩
  rw[dl] at mv
  have hq3:=t3 _ _ hq22
  have hR3:=hR2.ts t3
  obtain⟨qe,e1,_,hqe⟩:=ic_at hR3 (show ch.length - 1 < ch.length by omega)
  have a1:atI ts (-1)=some (.ref qe):=at_end (by omega) (by rw[tl];exact e1)
  have lt:=hc.lt (ch.length - 1) (by omega)
  have a2:=rowV_at (g:=Lf) lt.2
  have xl:=x3.l
  k_extra "rx"
  refine i_ixT hq3 a1 ?_
  k_extra "rx"
  refine i_getL xl (by omega) a2 ?_
  k_extra "rx"
  refine i_setN (k:=cF ch (ch.length - 1)) x3.l (ixN_nat (by rw[rowV_len];exact lt.2)) (rowV_set lt.2) fun H4 g4 f4=>?_
  exact hQ Ri _ H4 (x3.putL f4 g4) (fl.move hc mv aL) mv.row (z3.trans (FrZ.left f4))
theorem ok_as_parts(D:DefAt K mg "as_parts" s_as_parts f fd)(T:Txt K mg cx)(d_lowest:DefOk P w K mg base CX0 2 "lowest" ["number","under"] sp_lowest):DefOk P w K mg base CX0 3 "as_parts" ["numbers","under"] sp_as_parts:=by
 refine D.ok (D.q sc_as_parts (fun vs H Q E h=>?_) (fun cdv A outer s H vs Q E hr h=>?_)) (D.fn.binds fun _ _ _ _ _ _ us hl=>match us,hl with | [_,_],_=>rfl)
 ·obtain⟨_,_,_,_,rfl,_⟩:=h
  rfl
 obtain⟨l,m,g,V,rfl,hl,m6,hV,hz,hQ⟩:=h
 refine⟨_,(qss_one (qs_ret (qe_cp ["number"] [("under", 1)] (qi_listK (K:=K) rfl (qv 0)) (gext_name (by decide)) (fun _ _ _ _ _=>⟨(qg_name (i:=0) (show (["number","under"]:List Str).Nodup by decide +kernel) rfl (Or.inl rfl)),qf_nil,(qe_g d_lowest (qa_2 (qv 0) (qv 1)))⟩)))),?_⟩
 have vz:Sz 9000 V:=hV.sz.mono (by decide)
 have v0:=hV.pos
 refine⟨_,rfl,l,rfl,⟨_,SqL.of hl⟩,fun F hF=>?_⟩
 refine comp_listR (K:=K) (a:=l) (xs:=rowV m g) (fun j acc H1=>Same H H1∧H1 F=some (.lst acc)∧RowU V 4300 H1 acc ((List.range j).map fun f=>low (g f) V)) ⟨Same.new hF,upd_same,RowU.nil⟩ (fun j acc H1 _ ⟨s1,_⟩=>SqL.of (s1 _ _ hl)) ?_ ?_
 ·rintro j y acc H1 hy ⟨s1,hF1,hA⟩
  have hj:j < m:=by have:=(List.getElem?_eq_some_iff.mp hy).1;rwa [rowV_len] at this
  rw[rowV_get hj] at hy
  cases hy
  have len:=hA.1
  rw[List.length_map,List.length_range] at len
  have gz:=hz j hj
  have er:(List.range (j+1)).map (fun f=>low (g f) V)=(List.range j).map (fun f=>low (g f) V)++[low (g j) V]:=by rw[List.range_succ,List.map_append];rfl
  rw[er]
  generalize g j=X at gz
  simp only[gName_ap,tYes,if_true]
  k_extra "rx"
  refine⟨X,V,rfl,vz,(fun h=>by omega),fun _ q hq=>?_⟩
  have s2:=Same.new (o:=.tup [.int (X / (Int.gcd X V:Int)),.int (V / (Int.gcd X V:Int))]) hq
  have g2:upd H1 q (.tup [.int (X / (Int.gcd X V:Int)),.int (V / (Int.gcd X V:Int))]) q=some (.tup [.int (low X V).1,.int (low X V).2]):=upd_same
  generalize upd H1 q (.tup [.int (X / (Int.gcd X V:Int)),.int (V / (Int.gcd X V:Int))])=H2 at s2 g2 ⊢
  have l2:=s2 _ _ hF1
  have nt:q≠F:=fun z=>by rw[z,hF1] at hq;cases hq
  exact⟨l2,small1000 (by omega),same_put hF (s1.trans s2),upd_same,((hA.ts (TS.of s2)).ts (TS.lst l2)).snoc (by rw[upd_ne nt];exact g2) ⟨low_ok v0,by rw[num_low v0];exact gz⟩⟩
 ·rintro acc H1 ⟨s1,hF1,hA⟩
  rw[rowV_len] at hA
  exact hQ F acc H1 s1 hF hF1 hA
theorem ok__law_good_row(D:DefAt K mg "_law_good_row" s__law_good_row f fd)(T:Txt K mg cx)(d__law_sum:DefOk P w K mg base CX0 4 "_law_sum" ["_law_row_here"] sp__law_sum):DefOk P w K mg base CX0 5 "_law_good_row" ["_law_claim","_law_part","_law_row_here"] sp__law_good_row:=by
 refine D.ok (D.q sc__law_good_row (fun vs H Q E h=>?_) (fun cdv A outer s H vs Q E hr h=>?_)) (D.fn.binds fun _ _ _ _ _ _ us hl=>match us,hl with | [_,_,_],_=>rfl)
 ·obtain⟨_,_,_,_,_,_,_,_,_,_,_,_,rfl,_⟩:=h
  rfl
 obtain⟨c,t,p,r,pd,rk,ts,part,xs,row,k,U,rfl,hc,ht,hp,hrl,hR,hU,hk,h12,hQ⟩:=h
 refine⟨_,(qss_cons (qs_if (qw_or (qt_cmpR (op_neP hr.units) (qe_g d__law_sum (qa_1 (qv 2))) (qv 1) (nomark _)) (qw_or1 (qt_not (qt_val (qe_callB (call_allF rfl) (by rfl) T.n_all bt_all (qa_1 (qe_cp ["_law_one"] [] (qi_listK (K:=K) rfl (qv 2)) (gext_name (by decide)) (fun _ _ _ _ _=>⟨(qg_name (i:=0) (show (["_law_one"]:List Str).Nodup by decide +kernel) rfl (Or.inl rfl)),qf_nil,(qe_cmpR op_ge (qe_iS (qv 0) qe_int) qe_int (nomark _))⟩)))))))).pt (qss_one (qs_ret qe_bl)) qss_nil)
   (qss_one (qs_ret (qe_callB (call_allF rfl) (by rfl) T.n_all bt_all (qa_1 (qe_cp ["_law_place"] [("_law_row_here", 2),("_law_claim", 0)] (qi_range1 (by rfl) T.n_range (qa_1 (qe_callB call_lenF (by rfl) T.n_len bt_len (qa_1 (qv 2))))) (gext_name (by decide)) (fun _ _ _ _ _=>⟨(qg_name (i:=0) (show (["_law_place","_law_row_here","_law_claim"]:List Str).Nodup by decide +kernel) rfl (Or.inl rfl)),qf_nil,(qe_or (qe_cmpR (op_eqP hr.units) (qe_iS (qv 1) (qv 0)) (qe_tup (qa_2 qe_int qe_int)) (nomark _)) (qe_one (qe_cmpR (op_inK (K:=K) rfl) (qv 0) (qe_iS (qv 2) qe_int) (by rfl))))⟩))))))),?_⟩
 have hxl:=hR.1
 k_extra "rx"
 refine⟨r,xs,row,U,k,rfl,hrl,hU,hR,hk,by omega,fun q H1 s1 hq=>?_⟩
 have hp1:=s1 _ _ hp
 have ht1:=s1 _ _ ht
 have hc1:=s1 _ _ hc
 have hr1:=s1 _ _ hrl
 have hR1:=hR.ts (TS.of s1)
 k_extra "rx"
 refine⟨q,p,_,_,_,_,rfl,rfl,hq,hp1,?_⟩
 refine⟨_,rfl,brkN (fun h2=>?_) (fun h2=>?_)⟩
 ·refine i_brkT ?_
  k_extra "rx"
  exact hQ false H1 s1 ⟨(fun z=>nomatch z),fun z=>absurd (by rw[z.2.1];exact⟨rfl,rfl⟩) h2⟩
 ·have hs:sumP row=part:=Prod.ext h2.1 h2.2
  k_extra "rx"
  refine⟨_,rfl,r,rfl,⟨_,SqL.of hr1⟩,fun l hl=>?_⟩
  refine comp_listR (K:=K) (a:=r) (xs:=xs) (fun i acc H2=>Same H1 H2∧H2 l=some (.lst acc)∧acc=((List.range i).map fun k=>decide (0≤(row.getD k (0,1)).1)).map V.bl) ⟨Same.new hl,upd_same,rfl⟩ (fun i acc H2 _ ⟨s2,_,_⟩=>SqL.of (s2 _ _ hr1)) ?_ ?_
  ·rintro i y acc H2 hy ⟨s2,hl2,rfl⟩
   have hi:i < row.length:=by rw[← hxl];exact (List.getElem?_eq_some_iff.mp hy).1
   obtain⟨rp,er,hrp,po⟩:=hR1.2 i row[i] (List.getElem?_eq_getElem hi)
   rw[er] at hy
   cases hy
   have e:row.getD i (0,1)=row[i]:=by simp[List.getD_eq_getElem?_getD,hi]
   have len:(((List.range i).map fun k=>decide (0≤(row.getD k (0,1)).1)).map V.bl).length≤16:=by rw[List.length_map,List.length_map,List.length_range];omega
   rw[List.range_succ,List.map_append,List.map_append]
   have e2:(([i].map fun k=>decide (0≤(row.getD k (0,1)).1)).map V.bl)=[V.bl (decide (0≤row[i].1))]:=by rw[List.map_cons,List.map_cons,e];rfl
   rw[e2]
   generalize ((List.range i).map fun k=>decide (0≤(row.getD k (0,1)).1)).map V.bl=A' at hl2 len ⊢
   have g:=s2 _ _ hrp
   generalize row[i]=P0 at g ⊢
   simp only[gName_ap,tYes,if_true]
   k_extra "rx"
   exact⟨hl2,small1000 (by omega),same_put hl s2,upd_same,rfl⟩
  ·rintro acc H2 ⟨s2,hl2,rfl⟩
   rw[hxl] at hl2
   refine⟨l,_,rfl,hl2,?_⟩
   have iff:(((List.range row.length).map fun k=>decide (0≤(row.getD k (0,1)).1)).all id)=true↔∀ k,k < row.length→0≤(row.getD k (0,1)).1:=by
    rw[List.all_eq_true]
    constructor
    ·intro h k hk
     exact of_decide_eq_true (h _ (List.mem_map.mpr ⟨k,List.mem_range.mpr hk,rfl⟩))
    ·intro h b hb
     obtain⟨k,hk,rfl⟩:=List.mem_map.mp hb
     exact decide_eq_true (h k (List.mem_range.mp hk))
   generalize ((List.range row.length).map fun k=>decide (0≤(row.getD k (0,1)).1)).all id=b0 at iff ⊢
   refine⟨_,rfl,brkNB (fun h3=>?_) (fun h3=>?_)⟩
   ·k_extra "rx"
    refine hQ false H2 (s1.trans s2) ⟨(fun z=>nomatch z),fun z=>?_⟩
    rw[iff.mpr fun k hk=>(z.2.2 k hk).1] at h3
    cases h3
   ·have nn:=iff.mp h3
    have hr2:=s2 _ _ hr1
    have hc2:=s2 _ _ hc1
    have ht2:=s2 _ _ ht1
    have hR2:=hR1.ts (TS.of s2)
    refine i_tNext ?_
    refine⟨_,rfl,r,_,rfl,seqAt_lst hr2,_,rfl,by omega,by omega,fun l2 hl2=>?_⟩
    refine comp_rangeR (k:=((xs.length:Nat):Int).toNat) (fun i acc H3=>Same H2 H3∧H3 l2=some (.lst acc)∧acc=((List.range i).map fun k=>decide (row.getD k (0,1)=(0,1)∨(k:Int)∈ts)).map V.bl) ⟨Same.new hl2,upd_same,rfl⟩ ?_ ?_
    ·rintro i acc H3 hi0 ⟨s3,hl3,rfl⟩
     have hi:i < row.length:=by omega
     obtain⟨rp,er,hrp,po⟩:=hR2.2 i row[i] (List.getElem?_eq_getElem hi)
     have a1:atI xs (i:Int)=some (.ref rp):=atI_nat er
     have e:row.getD i (0,1)=row[i]:=by simp[List.getD_eq_getElem?_getD,hi]
     have len:(((List.range i).map fun k=>decide (row.getD k (0,1)=(0,1)∨(k:Int)∈ts)).map V.bl).length≤16:=by rw[List.length_map,List.length_map,List.length_range];omega
     rw[List.range_succ,List.map_append,List.map_append]
     have e2:(([i].map fun k=>decide (row.getD k (0,1)=(0,1)∨(k:Int)∈ts)).map V.bl)=[V.bl (decide (row[i]=(0,1)∨(i:Int)∈ts))]:=by rw[List.map_cons,List.map_cons,e];rfl
     rw[e2,Int.zero_add]
     generalize ((List.range i).map fun k=>decide (row.getD k (0,1)=(0,1)∨(k:Int)∈ts)).map V.bl=A' at hl3 len ⊢
     have g:=s3 _ _ hrp
     have gr:=s3 _ _ hr2
     have gc:=s3 _ _ hc2
     have gt:=s3 _ _ ht2
     generalize row[i]=P0 at g ⊢
     simp only[gName_ap,tYes,if_true]
     k_extra "rx"
     rw[tOrV_ap]
     k_extra "rx"
     refine i_NewO (Nat.le_of_ble_eq_true rfl) fun t0 H4 _ s4 ht0=>?_
     have l4:=s4 _ _ hl3
     have s24:=s3.trans s4
     refine⟨rp,t0,_,_,_,_,rfl,rfl,s4 _ _ g,ht0,?_⟩
     refine⟨_,rfl,brkD (fun h4=>?_) (fun h4=>?_)⟩
     ·refine⟨l4,small1000 (by omega),same_put hl2 s24,upd_same,?_⟩
      rw[decide_eq_true (Or.inl (show P0=(0,1) from Prod.ext h4.1 h4.2))]
     ·have gc4:=s4 _ _ gc
      have gt4:=s4 _ _ gt
      k_extra "rx"
      refine⟨t,ts.map V.int,rfl,.inr (SqT.of gt4),rfl,by simp[flatV],?_⟩
      rw[if_neg Bool.false_ne_true,inV_int]
      refine⟨l4,small1000 (by omega),same_put hl2 s24,upd_same,?_⟩
      have hne:P0≠(0,1):=fun z=>h4 (by rw[z];exact⟨rfl,rfl⟩)
      congr 3
      rw[decide_eq_decide]
      exact⟨.inr,fun z=>z.resolve_left hne⟩
    ·rintro acc H3 ⟨s3,hl3,rfl⟩
     rw[Int.toNat_natCast,hxl] at hl3
     refine⟨l2,_,rfl,hl3,?_⟩
     refine hQ _ H3 ((s1.trans s2).trans s3) ?_
     rw[List.all_eq_true]
     constructor
     ·intro h
      exact⟨rfl,hs,fun k hk=>⟨nn k hk,of_decide_eq_true (h _ (List.mem_map.mpr ⟨k,List.mem_range.mpr hk,rfl⟩))⟩⟩
     ·intro h b hb
      obtain⟨k,hk,rfl⟩:=List.mem_map.mp hb
      exact decide_eq_true (h.2.2 k (List.mem_range.mp hk)).2
theorem ok__law_good_table(D:DefAt K mg "_law_good_table" s__law_good_table f fd)(T:Txt K mg cx)(d__law_below:DefOk P w K mg base CX0 1 "_law_below" ["_law_one","_law_other"] sp__law_below)(d__law_sum:DefOk P w K mg base CX0 4 "_law_sum" ["_law_row_here"] sp__law_sum)(d__law_pairs:DefOk P w K mg base CX0 3 "_law_pairs" ["_law_found","_law_many_here"] sp__law_pairs)(d__law_good_row:DefOk P w K mg base CX0 5 "_law_good_row" ["_law_claim","_law_part","_law_row_here"] sp__law_good_row):DefOk P w K mg base CX0 6 "_law_good_table" ["_law_worths_here","_law_claims_here","_law_parts","_law_rows"] sp__law_good_table:=by
 refine D.ok (D.q sc__law_good_table (fun vs H Q E h=>?_) (fun cdv A outer s H vs Q E hr h=>?_)) (D.fn.binds fun _ _ _ _ _ _ us hl=>match us,hl with | [_,_,_,_],_=>rfl)
 ·obtain⟨_,_,_,_,_,_,_,_,_,_,_,_,_,rfl,_⟩:=h
  rfl
 obtain⟨w,c,p,z,ws,xs,cs,ys,ps,zs,rss,k,U,rfl,sh,hp,hP,pl,hz,hZ,hU,hk,c16,w6,wz,hQ⟩:=h
 refine⟨_,(qss_cons (qs_if (qw_or (qt_not (qt_val (qe_callB call_isi (by rfl) T.n_isinstance bt_isinstance (qa_2 (qv 3) (qe_bltn (v:=.ty "list") (by rfl) T.n_list bt_list rfl))))) (qw_or1 (qt_cmpR op_ne (qe_callB call_lenF (by rfl) T.n_len bt_len (qa_1 (qv 3))) (qe_callB call_lenF (by rfl) T.n_len bt_len (qa_1 (qv 1))) (nomark _)))).pt (qss_one (qs_ret qe_bl)) qss_nil)
   (qss_cons (qs_if (qt_not (qt_val (qe_callB (call_allF rfl) (by rfl) T.n_all bt_all (qa_1 (qe_cp ["_law_row_here"] [("_law_worths_here", 0)] (qi_listK (K:=K) rfl (qv 3)) (gext_name (by decide)) (fun _ _ _ _ _=>⟨(qg_name (i:=0) (show (["_law_row_here","_law_worths_here"]:List Str).Nodup by decide +kernel) rfl (Or.inl rfl)),qf_nil,(qe_g d__law_pairs (qa_2 (qv 0) (qe_callB call_lenF (by rfl) T.n_len bt_len (qa_1 (qv 1)))))⟩)))))) (qss_one (qs_ret qe_bl)) qss_nil)
   (qss_cons (qs_if (qt_not (qt_val (qe_callB (call_allF rfl) (by rfl) T.n_all bt_all (qa_1 (qe_cp ["_law_at"] [("_law_claims_here", 1),("_law_parts", 2),("_law_rows", 3)] (qi_range1 (by rfl) T.n_range (qa_1 (qe_callB call_lenF (by rfl) T.n_len bt_len (qa_1 (qv 1))))) (gext_name (by decide)) (fun _ _ _ _ _=>⟨(qg_name (i:=0) (show (["_law_at","_law_claims_here","_law_parts","_law_rows"]:List Str).Nodup by decide +kernel) rfl (Or.inl rfl)),qf_nil,(qe_g d__law_good_row (qa_3 (qe_iS (qv 1) (qv 0)) (qe_iS (qv 2) (qv 0)) (qe_iS (qv 3) (qv 0))))⟩)))))) (qss_one (qs_ret qe_bl)) qss_nil)
   (qss_cons (qs_for PassesOwn.never rfl (qi_range1 (by rfl) T.n_range (qa_1 (qe_callB call_lenF (by rfl) T.n_len bt_len (qa_1 (qv 0))))) (qg_name (i:=4) sc__law_good_table.nd rfl (Or.inr rfl)) (qss_one (qs_if (qt_val (qe_g d__law_below (qa_2 (qe_tup (qa_2 (qe_iS (qv 0) (qv 4)) qe_int)) (qe_g d__law_sum (qa_1 (qe_cp ["_law_row_here"] [("_law_place", 4)] (qi_listK (K:=K) rfl (qv 3)) (gext_name (by decide)) (fun _ _ _ _ _=>⟨(qg_name (i:=0) (show (["_law_row_here","_law_place"]:List Str).Nodup by decide +kernel) rfl (Or.inl rfl)),qf_nil,(qe_iS (qv 0) (qv 1))⟩))))))) (qss_one (qs_ret qe_bl)) qss_nil)))
   (qss_one (qs_ret qe_bl)))))),?_⟩
 have hxl:=sh.hC.1
 have hyl:=hP.1
 have hzl:=hZ.1
 have wl:(ws.map V.int).length=ws.length:=List.length_map _
 have shc:=sh.c
 have shw:=sh.w
 have tyZ:tyNm (.ref z) H=some "list" := by simp only[tyNm,hz]
 k_extra "rx"
 refine⟨_,_,_,rfl,by decide,tyZ,?_⟩
 refine⟨_,rfl,brkNB (fun zz=>absurd zz (by decide)) (fun _=>?_)⟩
 k_extra "rx"
 refine⟨rfl,?_⟩
 refine⟨_,rfl,brkN (fun h1=>?_) (fun h1=>?_)⟩
 ·k_extra "rx"
  exact hQ false H (fun _ _ h=>h) ⟨(fun z=>nomatch z),fun z=>absurd (by rw[hzl,z.1,hxl]) h1⟩
 ·have h1:(zs.length:Int)=(xs.length:Int):=V.int.inj h1
  have rl:rss.length=cs.length:=by omega
  refine i_tNext ?_
  k_extra "rx"
  refine⟨_,rfl,z,rfl,⟨_,SqL.of hz⟩,fun l hl=>?_⟩
  refine comp_listR (K:=K) (a:=z) (xs:=zs) (fun i acc H2=>Same H H2∧H2 l=some (.lst acc)∧acc=((List.range i).map fun j=>decide ((rss.getD j []).length=ws.length)).map V.bl) ⟨Same.new hl,upd_same,rfl⟩ (fun i acc H2 _ ⟨s2,_,_⟩=>SqL.of (s2 _ _ hz)) ?_ ?_
  ·rintro i y acc H2 hy ⟨s2,hl2,rfl⟩
   have hi:i < rss.length:=by rw[← hzl];exact (List.getElem?_eq_some_iff.mp hy).1
   obtain⟨l',as,el,hl',hA',h12⟩:=hZ.2 i rss[i] (List.getElem?_eq_getElem hi)
   rw[el] at hy
   cases hy
   have e:rss.getD i []=rss[i]:=by simp[List.getD_eq_getElem?_getD,hi]
   have len:(((List.range i).map fun j=>decide ((rss.getD j []).length=ws.length)).map V.bl).length≤16:=by rw[List.length_map,List.length_map,List.length_range];omega
   rw[List.range_succ,List.map_append,List.map_append]
   have e2:(([i].map fun j=>decide ((rss.getD j []).length=ws.length)).map V.bl)=[V.bl (decide (rss[i].length=ws.length))]:=by rw[List.map_cons,List.map_cons,e];rfl
   rw[e2]
   generalize ((List.range i).map fun j=>decide ((rss.getD j []).length=ws.length)).map V.bl=A' at hl2 len ⊢
   have g:=s2 _ _ hl'
   have gA:=hA'.ts (TS.of s2)
   have gw:=s2 _ _ shw
   generalize rss[i]=R0 at gA h12 ⊢
   simp only[gName_ap,tYes,if_true]
   k_extra "rx"
   refine⟨l',as,R0,ws.length,by rw[wl],g,gA.toV,by omega,fun j hj=>?_,fun H3 s3=>⟨s3 _ _ hl2,small1000 (by omega),same_put hl (s2.trans s3),upd_same,rfl⟩⟩
   have po:=gA.mem (R0.getD j (0,1)) (by
    have:R0.getD j (0,1)=R0[j]:=by simp[List.getD_eq_getElem?_getD,hj]
    rw[this]
    exact List.getElem_mem _)
   exact⟨po.pos,po.cop,(po.toOk.usz hU).mono (by decide)⟩
  ·rintro acc H2 ⟨s2,hl2,rfl⟩
   rw[hzl] at hl2
   refine⟨l,_,rfl,hl2,?_⟩
   have iff:(((List.range rss.length).map fun j=>decide ((rss.getD j []).length=ws.length)).all id)=true↔∀ j,j < rss.length→(rss.getD j []).length=ws.length:=by
    rw[List.all_eq_true]
    constructor
    ·intro h k hk
     exact of_decide_eq_true (h _ (List.mem_map.mpr ⟨k,List.mem_range.mpr hk,rfl⟩))
    ·intro h b hb
     obtain⟨k,hk,rfl⟩:=List.mem_map.mp hb
     exact decide_eq_true (h k (List.mem_range.mp hk))
   generalize ((List.range rss.length).map fun j=>decide ((rss.getD j []).length=ws.length)).all id=b0 at iff ⊢
   refine⟨_,rfl,brkNB (fun h3=>?_) (fun h3=>?_)⟩
   ·k_extra "rx"
    refine hQ false H2 s2 ⟨(fun z=>nomatch z),fun zz=>?_⟩
    rw[iff.mpr fun j hj=>(zz.2.1 j (by omega)).1] at h3
    cases h3
   ·have rw6:=iff.mp h3
    have sh2:=sh.same s2
    have hp2:=s2 _ _ hp
    have hP2:=hP.ts (TS.of s2)
    have hz2:=s2 _ _ hz
    have hZ2:=hZ.same s2
    clear iff h3 hl2 hl
    refine i_tNext ?_
    k_extra "rx"
    refine⟨_,rfl,c,_,rfl,seqAt_lst sh2.c,_,rfl,by omega,by omega,fun l hl=>?_⟩
    refine comp_rangeR (k:=((xs.length:Nat):Int).toNat) (fun i acc H3=>∃ bs:List Bool,acc=bs.map V.bl∧bs.length=i∧(∀ j,j < i→(bs.getD j false=true↔gdRow ws.length (heapP cs j) (ps.getD j (0,1)) (rss.getD j [])))∧Same H2 H3∧H3 l=some (.lst acc)) ⟨[],rfl,rfl,(fun j hj=>by omega),Same.new hl,upd_same⟩ ?_ ?_
    ·rintro i acc H3 hi0 ⟨bs,rfl,bl,hb,s3,hl3⟩
     have hi:i < cs.length:=by omega
     obtain⟨v',ev,rc,pc,kc,rfl,e1,e2,e3⟩:=sh2.hC.2 i cs[i] (List.getElem?_eq_getElem hi)
     obtain⟨rp,er,hrp⟩:=hP2.2 i ps[i] (List.getElem?_eq_getElem (by omega))
     obtain⟨l',as,el,hl',hA',h12⟩:=hZ2.2 i rss[i] (List.getElem?_eq_getElem (by omega))
     have a1:atI xs (i:Int)=some (.ref rc):=atI_nat ev
     have a2:atI ys (i:Int)=some (.ref rp):=atI_nat er
     have a3:atI zs (i:Int)=some (.ref l'):=atI_nat el
     have ep:ps.getD i (0,1)=ps[i]:=by simp[List.getD_eq_getElem?_getD,show i < ps.length by omega]
     have erw:rss.getD i []=rss[i]:=by simp[List.getD_eq_getElem?_getD,show i < rss.length by omega]
     have eh:heapP cs i=cs[i].hp:=heapP_at hi
     have rli:rss[i].length=ws.length:=by rw[← erw];exact rw6 i (by omega)
     have fc:=s3 _ _ sh2.c
     have fp:=s3 _ _ hp2
     have fz:=s3 _ _ hz2
     have f1:=s3 _ _ e1
     have f3:=s3 _ _ e3
     have frp:=s3 _ _ hrp
     have fl:=s3 _ _ hl'
     have fA:=hA'.ts (TS.of s3)
     rw[Int.zero_add]
     simp only[gName_ap,tYes,if_true]
     k_extra "rx"
     refine⟨rc,kc,rp,l',pc,cs[i].rk,cs[i].hp,ps[i],as,rss[i],k,U,rfl,f1,f3,frp,fl,fA,hU,hk,h12,fun b H4 s4 hb4=>⟨s4 _ _ hl3,small1000 (by rw[List.length_map];omega),bs++[b],by rw[List.map_append];rfl,by rw[List.length_append,bl];rfl,fun j hj=>?_,same_put hl (s3.trans s4),upd_same⟩⟩
     by_cases e:j < i
     ·have:(bs++[b]).getD j false=bs.getD j false:=by rw[List.getD_eq_getElem?_getD,List.getElem?_append_left (by omega),List.getD_eq_getElem?_getD]
      rw[this]
      exact hb j e
     ·have ej:j=i:=by omega
      subst ej
      have:(bs++[b]).getD j false=b:=by rw[List.getD_eq_getElem?_getD,List.getElem?_append_right (by omega)];simp[bl]
      rw[this,ep,erw,eh,← rli]
      exact hb4
    ·rintro acc H3 ⟨bs,rfl,bl,hb,s3,hl3⟩
     rw[Int.toNat_natCast,hxl] at bl hb
     refine⟨l,bs,rfl,hl3,?_⟩
     have iff:bs.all id=true↔∀ j,j < cs.length→gdRow ws.length (heapP cs j) (ps.getD j (0,1)) (rss.getD j []):=by
      rw[List.all_eq_true]
      constructor
      ·intro h j hj
       refine (hb j hj).mp ?_
       have e:bs.getD j false=bs[j]:=by simp[List.getD_eq_getElem?_getD,show j < bs.length by omega]
       rw[e]
       exact h _ (List.getElem_mem _)
      ·intro h b hbm
       obtain⟨j,hj,rfl⟩:=List.getElem_of_mem hbm
       have e:bs.getD j false=bs[j]:=by simp[List.getD_eq_getElem?_getD,hj]
       show bs[j]=true
       rw[← e]
       exact (hb j (by omega)).mpr (h j (by omega))
     generalize bs.all id=b0 at iff ⊢
     have s03:=s2.trans s3
     refine⟨_,rfl,brkNB (fun h3=>?_) (fun h3=>?_)⟩
     ·k_extra "rx"
      refine hQ false H3 s03 ⟨(fun z=>nomatch z),fun zz=>?_⟩
      rw[iff.mpr zz.2.1] at h3
      cases h3
     ·have inv:=iff.mp h3
      have shw3:=s3 _ _ sh2.w
      have hz3:=s3 _ _ hz2
      have hZ3:=hZ2.same s3
      clear iff h3 hl3 hl hb
      refine i_tNext ?_
      refine⟨_,rfl,w,_,rfl,seqAt_lst shw3,_,rfl,by omega,by omega,for_rangeN (lo:=0) (n:=(((ws.map V.int).length:Nat):Int).toNat) (fun j σ H'=>∃ v4,σ=[some (.ref w),some (.ref c),some (.ref p),some (.ref z),v4]∧Same H3 H'∧∀ f,f < j→¬ ws.getD f 0*(sumP (colP rss f)).2 < (sumP (colP rss f)).1*1) ⟨_,rfl,fun _ _ h=>h,fun f hf=>by omega⟩ ?_ ?_⟩
      ·rintro f σ H4 NN BB hf0 ⟨v4,rfl,s4,inv2⟩ kN kB
       clear kB
       have hf:f < ws.length:=by omega
       have aw:atI (ws.map V.int) (f:Int)=some (.int ws[f]):=atI_nat (by rw[List.getElem?_map,List.getElem?_eq_getElem hf];rfl)
       have hw4:=s4 _ _ shw3
       have hz4:=s4 _ _ hz3
       have hZ4:=hZ3.same s4
       have ew:ws.getD f 0=ws[f]:=by simp[List.getD_eq_getElem?_getD,hf]
       have wzf:=wz _ (List.getElem_mem hf)
       refine i_gName ?_
       rw[Int.zero_add]
       k_extra "rx"
       refine i_NewO (Nat.le_of_ble_eq_true rfl) fun t H5 _ s5 ht=>?_
       have hz5:=s5 _ _ hz4
       have hZ5:=hZ4.same s5
       k_extra "rx"
       refine⟨_,rfl,z,rfl,⟨_,SqL.of hz5⟩,fun l hl=>?_⟩
       refine comp_listR (K:=K) (a:=z) (xs:=zs) (fun i acc H6=>Same H5 H6∧H6 l=some (.lst acc)∧RowU U k H6 acc (colP (rss.take i) f)) ⟨Same.new hl,upd_same,RowU.nil⟩ (fun i acc H6 _ ⟨s6,_,_⟩=>SqL.of (s6 _ _ hz5)) ?_ ?_
       ·rintro i y acc H6 hy ⟨s6,hl6,hA⟩
        have hi:i < rss.length:=by rw[← hzl];exact (List.getElem?_eq_some_iff.mp hy).1
        obtain⟨l',as,el,hl',hA',h12⟩:=hZ5.2 i rss[i] (List.getElem?_eq_getElem hi)
        rw[el] at hy
        cases hy
        have erw:rss.getD i []=rss[i]:=by simp[List.getD_eq_getElem?_getD,hi]
        have rli:rss[i].length=ws.length:=by rw[← erw];exact rw6 i hi
        have hf2:f < rss[i].length:=by omega
        obtain⟨rp,er,hrp,po⟩:=hA'.2 f rss[i][f] (List.getElem?_eq_getElem hf2)
        have a1:atI as (f:Int)=some (.ref rp):=atI_nat er
        have ec:colP (rss.take (i+1)) f=colP (rss.take i) f++[rss[i][f]]:=by
         unfold colP
         rw[take_map_succ _ hi]
         simp[List.getD_eq_getElem?_getD,hf2]
        rw[ec]
        have len:acc.length≤16:=by
         rw[hA.1]
         unfold colP
         rw[List.length_map,List.length_take]
         omega
        have k1:=s6 _ _ hl'
        have k2:=s6 _ _ hrp
        generalize rss[i][f]=P0 at k2 po ⊢
        generalize colP (rss.take i) f=A' at hA ⊢
        clear hrp er hl' hA' el ec
        simp only[gName_ap,tYes,if_true]
        k_extra "rx"
        have np:rp≠l:=fun zz=>by rw[zz,hl6] at k2;cases k2
        exact⟨hl6,small1000 (by omega),same_put hl s6,upd_same,(hA.ts (TS.lst hl6)).snoc (by rw[upd_ne np];exact k2) po⟩
       ·rintro acc H6 ⟨s6,hl6,hA⟩
        rw[hzl,List.take_length] at hA
        have cl:(colP rss f).length≤16:=by unfold colP;rw[List.length_map];omega
        refine⟨l,acc,_,U,k,rfl,hl6,hU,hA,hk,cl,fun q2 H7 s7 hq7=>?_⟩
        have sp:=sum_pt hU.pos hA.mem
        have s57:=s6.trans s7
        k_extra "rx"
        refine⟨t,q2,_,_,_,_,rfl,s57 _ _ ht,hq7,wzf.mono (by decide),by decide,(sp.nsz hU.pos).mono (by omega),(sp.toOk.usz hU).mono (by decide),?_⟩
        have s37:=(s4.trans s5).trans s57
        refine⟨_,rfl,brkD (fun h2=>?_) (fun h2=>?_)⟩
        ·k_extra "rx"
         refine hQ false H7 (s03.trans s37) ⟨(fun z=>nomatch z),fun zz=>?_⟩
         have:=zz.2.2 f hf
         rw[ew] at this
         exact absurd h2 this
        ·refine i_tNext ?_
         refine kN _ _ ⟨_,rfl,s37,fun g hg=>?_⟩
         by_cases e:g < f
         ·exact inv2 g e
         ·rw[show g=f by omega,ew]
          exact h2
      ·rintro σ H4 ⟨v4,rfl,s4,inv2⟩
       rw[Int.toNat_natCast,wl] at inv2
       k_extra "rx"
       exact hQ true H4 (s03.trans s4) ⟨fun _=>⟨rl,inv,inv2⟩,fun _=>rfl⟩
theorem ok_shortest_chain(D:DefAt K mg "shortest_chain" s_shortest_chain f fd)(T:Txt K mg cx)(d_moves_from:DefOk P w K mg base CX0 1 "moves_from" ["claims","rows","fund"] sp_moves_from):DefOk P w K mg base (CXD P w) 3 "shortest_chain" ["claims","rows","left","place"] (sp_shortest_chain K cx):=by
 have O_Overdrawn:=ox_Overdrawn (P:=P) (w:=w) (base:=base) T.x_Overdrawn
 refine D.ok (D.qD sc_shortest_chain (fun vs H Q E h=>?_) (fun cdv A outer s H vs Q E hr h=>?_)) (D.fn.binds fun _ _ _ _ _ _ us hl=>match us,hl with | [_,_,_,_],_=>rfl)
 ·obtain⟨_,_,_,_,_,_,_,_,_,_,rfl,_⟩:=h
  rfl
 obtain⟨ac,ar,al,xs,cs,zs,m,R,Lf,place,rfl,x,hp,c16,m6,hb,no,hnd,hQ⟩:=h
 refine⟨_,(qss_cons (qs_setP (k:=4) ["fund"] [("place", 3)] sc_shortest_chain.nd (qi_tupK (K:=K) rfl (qe_iS (qe_iS (qv 0) (qv 3)) qe_int)) (gext_name (by decide)) (fun _ _ _ _ _=>⟨(qg_name (i:=0) (show (["fund","place"]:List Str).Nodup by decide +kernel) rfl (Or.inl rfl)),qf_nil,(qe_tup (qa_1 (qe_tup (qa_2 (qv 1) (qv 0)))))⟩))
   (qss_cons (qs_sL 5 sc_shortest_chain.nd (qe_callTy call_listF (by rfl) T.n_list bt_list (qa_1 (qe_iS (qe_iS (qv 0) (qv 3)) qe_int))))
   (qss_cons (qs_sL 6 sc_shortest_chain.nd qe_int)
   (qss_cons (qs_nox (qs_while PassesOwn.never (qt_cmpR op_lt (qv 6) (qe_callB call_lenF (by rfl) T.n_len bt_len (qa_1 (qv 4))) (nomark _)) (qss_cons (qs_sL 7 sc_shortest_chain.nd (qe_iS (qe_iS (qe_iS (qv 4) (qv 6)) (qe_un un_neg qe_int)) qe_int))
   (qss_cons (qs_if (qt_cmpR op_gt (qe_iS (qv 2) (qv 7)) qe_int (nomark _)) (qss_one (qs_ret (qe_iS (qv 4) (qv 6)))) qss_nil)
   (qss_cons (qs_nox (qs_for PassesOwn.never rfl (qi_listK (K:=K) rfl (qe_g d_moves_from (qa_3 (qv 0) (qv 1) (qv 7)))) (qg_name (i:=8) sc_shortest_chain.nd rfl (Or.inl rfl)) (qss_one (qs_if (qt_cmpR (op_notInK (K:=K) rfl) (qe_iS (qv 8) qe_int) (qv 5) (by rfl)) (qss_cons (qs_expr (qe_bmK (K:=K) rfl PySem.F.plainAttrs_list PySem.F.slot_list_append PySem.F.type_list_append mt_append (qv 4) (qa_1 (qe_op op_catA (qe_iS (qv 4) (qv 6)) (qe_tup (qa_1 (qv 8)))))))
   (qss_one (qs_expr (qe_bmK (K:=K) rfl PySem.F.plainAttrs_list PySem.F.slot_list_append PySem.F.type_list_append mt_append (qv 5) (qa_1 (qe_iS (qv 8) qe_int)))))) qss_nil))))
   (qss_one (qs_aug (i:=6) sc_shortest_chain.nd rfl (Or.inl rfl) qe_int ip_add)))))))
   (qss_one (qs_raiseV raisesD O_Overdrawn (qa_1 (qe_callTy call_tupF (by rfl) T.n_tuple bt_tuple (qa_1 (qe_callB (call_sortO hr.units) (by rfl) T.n_sorted bt_sorted (qa_1 (qv 5)))))))))))),?_⟩
 obtain⟨rc,pc,kc,a1,k1,k2⟩:=x.cl' hp
 have xc:=x.c
 refine⟨_,rfl,_,rfl,ac,xs,_,_,rfl,rfl,seqAt_lst xc,a1,rc,_,1,_,rfl,rfl,seqAt_tup k1,rfl,kc,rfl,⟨_,SqT.of k2⟩,fun C hC=>?_⟩
 refine comp_tupR (K:=K) (a:=kc) (xs:=(heapP cs place).map V.int) (fun j acc H1=>Same H H1∧H1 C=some (.lst acc)∧ChsAt H1 acc (((heapP cs place).take j).map fun x=>[(place,x.toNat)])) ⟨Same.new hC,upd_same,⟨rfl,fun i p h=>by simp at h⟩⟩ (fun j acc H1 _ ⟨s1,_⟩=>SqT.of (s1 _ _ k2)) ?_ ?_
 ·rintro j y acc H1 hy ⟨s1,hC1,hA⟩
  obtain⟨hj,rfl⟩:=int_at hy
  have len:=hA.1
  rw[List.length_map,List.length_take] at len
  have hb6:=(hb place hp).1
  have b:=(hb place hp).2 _ (List.getElem_mem hj)
  rw[take_map_succ _ hj]
  generalize (heapP cs place)[j]=X at b ⊢
  simp only[gName_ap,tYes,if_true]
  k_extra "rx"
  refine i_NewO (Nat.le_of_ble_eq_true rfl) fun t0 H2 ht0 s2 ht2=>?_
  k_extra "rx"
  refine i_NewO (Nat.le_of_ble_eq_true rfl) fun t1 H3 ht1 s3 ht3=>?_
  have s23:=s2.trans s3
  have l3:=s23 _ _ hC1
  have ts:Toy.TS H3 (upd H3 C (.lst (acc++[.ref t1]))):=TS.lst l3
  refine⟨l3,small1000 (by omega),same_put hC (s1.trans s23),upd_same,(((hA.ts (TS.of s23)).ts ts).snoc (ts _ _ ht3) ?_)⟩
  have e:([(place,X.toNat)].map ic)=[((place:Int),X)]:=by
   show [((place:Int),((X.toNat:Nat):Int))]=_
   rw[Int.toNat_of_nonneg b.1]
  rw[e]
  exact RowV.snoc (xs:=[]) (ps:=[]) ⟨rfl,fun i p h=>by simp at h⟩ (ts _ _ (s3 _ _ ht2))
 ·rintro acc H1 ⟨s1,hC1,hA⟩
  rw[List.length_map,List.take_length] at hA
  have x1:=x.same s1
  have a1':=a1
  have k1':=s1 _ _ k1
  have k2':=s1 _ _ k2
  have x1c:=x1.c
  refine i_gName ?_
  dsimp only
  k_extra "rx"
  refine⟨kc,_,rfl,seqAt_tup k2',fun Rc hRc=>?_⟩
  have s2:=Same.new (o:=.lst ((heapP cs place).map V.int)) hRc
  have g2:upd H1 Rc (.lst ((heapP cs place).map V.int)) Rc=_:=upd_same
  generalize upd H1 Rc (.lst ((heapP cs place).map V.int))=H2 at s2 g2 ⊢
  have CR:C≠Rc:=fun z=>by rw[z,hRc] at hC1;cases hC1
  have Rc0:H Rc=none:=by
   cases e:H Rc with
   | none=>rfl
   | some o=>rw[s1 _ _ e] at hRc;cases hRc
  have s12:=s1.trans s2
  have hC2:=s2 _ _ hC1
  have hA2:=hA.ts (TS.of s2)
  have bf:=Bf.start (R:=R) (Lf:=Lf) hp m6 (hb place hp)
  have nd0:(heapP cs place).Nodup:=hnd
  clear hC1 hA s1 s2 hRc x1 x1c k1' k2' a1'
  refine i_gName ?_
  k_extra "rx"
  refine⟨fun k σ H'=>∃ a:Nat,k=13 - a∧∃ vs chs,∃ rs:List Int,∃ v7 v8,σ=[some (.ref ac),some (.ref ar),some (.ref al),some (.int (place:Int)),some (.ref C),some (.ref Rc),some (.int (a:Int)),v7,v8]∧Same H H'∧H' C=some (.lst vs)∧ChsAt H' vs chs∧H' Rc=some (.lst (rs.map V.int))∧Bf cs.length m R Lf (heapP cs) place chs rs a∧rs.Nodup,⟨13,0,rfl,_,_,_,_,_,rfl,s12,hC2,hA2,g2,bf,nd0⟩,?_⟩
  clear bf s12 hC2 hA2 g2 acc
  rintro k σ H3 ⟨a,rfl,vs,chs,rs,v7,v8,rfl,s3,hC3,hA3,g3,bf,nd⟩
  have vl:=hA3.1
  have l12:=bf.le12
  have len:=bf.len
  k_extra "rx"
  refine i_ite (fun h1=>?_) (fun h1=>?_)
  ·have h1:(a:Int) < (vs.length:Int):=of_decide_eq_true h1
   have ha:a < chs.length:=by omega
   refine⟨fun σ' H'=>∃ vs chs,∃ rs:List Int,∃ v7 v8,σ'=[some (.ref ac),some (.ref ar),some (.ref al),some (.int (place:Int)),some (.ref C),some (.ref Rc),some (.int ((a+1:Nat):Int)),v7,v8]∧Same H H'∧H' C=some (.lst vs)∧ChsAt H' vs chs∧H' Rc=some (.lst (rs.map V.int))∧Bf cs.length m R Lf (heapP cs) place chs rs (a+1)∧rs.Nodup,fun σ' H' h=>⟨13 - (a+1),by omega,a+1,rfl,h⟩,?_⟩
   obtain⟨o1,o2,o3,o4⟩:=bf.ok a ha
   obtain⟨q,ts,e1,hq,hR⟩:=hA3.2 a (chs.getD a []) (by simp[List.getD_eq_getElem?_getD,ha])
   have tl:ts.length=(chs.getD a []).length:=by rw[hR.1,List.length_map]
   have ne:=o1.ne
   obtain⟨qe,e2,_,hqe⟩:=ic_at hR (show (chs.getD a []).length - 1 < (chs.getD a []).length by omega)
   have a2:atI ts (-1)=some (.ref qe):=at_end (by omega) (by rw[tl];exact e2)
   have lt:=(o1.lt ((chs.getD a []).length - 1) (by omega)).2
   have aC:atI vs (a:Int)=some (.ref q):=atI_nat e1
   have x3:=x.same s3
   have x3l:=x3.l
   have a3:=rowV_at (g:=Lf) lt
   k_extra "rx"
   refine i_ixT hq a2 ?_
   k_extra "rx"
   refine brkD (fun h2=>?_) (fun h2=>?_)
   ·k_extra "rx"
    exact hQ q ts _ H3 s3 hq hR o1 h2
   ·have eff:(rs.getD a 0).toNat=cF (chs.getD a []) ((chs.getD a []).length - 1):=by rw[← o2,Int.toNat_natCast]
    generalize cF (chs.getD a []) ((chs.getD a []).length - 1)=ff at h2 lt a3 hqe o2 eff
    clear hqe e2 a2 hq hR tl e1 aC a3 x3l o1 o3 o4 ne vl
    refine i_tNext ?_
    k_extra "rx"
    refine⟨_,rfl,_,rfl,_,rfl,ac,ar,al,xs,cs,zs,m,R,Lf,ff,rfl,x3,lt,c16,hb,fun F mv ms H4 s4 nF hF hM m1 m2=>?_⟩
    have FC:F≠C:=fun z=>by rw[z,hC3] at nF;cases nF
    have FR:F≠Rc:=fun z=>by rw[z,g3] at nF;cases nF
    have ml:mv.length=ms.length:=by rw[hM.1,List.length_map]
    refine⟨F,rfl,⟨_,SqL.of hF⟩,for_listN (K:=K) (a:=F) (xs:=mv) (fun j σ H'=>∃ vs chs,∃ rs:List Int,∃ v8,σ=[some (.ref ac),some (.ref ar),some (.ref al),some (.int (place:Int)),some (.ref C),some (.ref Rc),some (.int (a:Int)),some (.int (ff:Int)),v8]∧Same H H'∧H' C=some (.lst vs)∧ChsAt H' vs chs∧H' Rc=some (.lst (rs.map V.int))∧(Bf cs.length m R Lf (heapP cs) place chs rs a∧rs.Nodup)∧a < chs.length∧(rs.getD a 0).toNat=ff∧H' F=some (.lst mv)∧RowV H' mv (ms.map ic)∧∀ k,k < j→(cF ms k:Int)∈rs) ⟨vs,chs,rs,_,rfl,s3.trans s4,s4 _ _ hC3,hA3.ts (TS.of s4),s4 _ _ g3,⟨bf,nd⟩,ha,eff,hF,hM,fun k hk=>by omega⟩ (fun i σ H' _ ⟨_,_,_,_,_,_,_,_,_,_,_,_,h,_⟩=>SqL.of h) ?_ ?_⟩
    ·clear bf nd hA3 hC3 g3 s3 s4 hF hM eff h1 ha len l12 x3 o2
     rintro j y σ H5 NN BB hy ⟨vs,chs,rs,v8,rfl,s5,hC5,hA5,g5,⟨bf,nd⟩,ha,eff,hF,hM,dn⟩ kN kB
     clear kB
     have hj:j < ms.length:=by rw[← ml];exact (List.getElem?_eq_some_iff.mp hy).1
     obtain⟨qs,e1,_,hqs⟩:=ic_at hM hj
     rw[e1] at hy
     cases hy
     have es:ms.getD j (0,0)=ms[j]:=by simp[List.getD_eq_getElem?_getD,hj]
     obtain⟨n1,n2,n3⟩:=m1 ms[j] (List.getElem_mem hj)
     rw[← es] at n1 n2 n3
     have n4:cF ms j < m:=by
      have:=((hb _ n1).2 _ n3).2
      show (ms.getD j (0,0)).2 < m
      omega
     have vl:=hA5.1
     have l12:=bf.le12
     have len:=bf.len
     refine i_gName ?_
     dsimp only
     k_extra "rx"
     refine⟨Rc,rs.map V.int,rfl,.inl (SqL.of g5),rfl,by simp[flatV],?_⟩
     rw[if_pos rfl,inV_int]
     refine⟨_,rfl,brkN (fun h3=>?_) (fun h3=>?_)⟩
     ·obtain⟨o1,o2,o3,o4⟩:=bf.ok a ha
      obtain⟨q,ts,e2,hq,hR⟩:=hA5.2 a (chs.getD a []) (by simp[List.getD_eq_getElem?_getD,ha])
      have tl:ts.length=(chs.getD a []).length:=by rw[hR.1,List.length_map]
      have aC:atI vs (a:Int)=some (.ref q):=atI_nat e2
      refine i_tBM ?_
      k_extra "rx"
      refine⟨.inl ⟨rfl,_,SqL.of hC5⟩,?_⟩
      k_extra "rx"
      refine i_NewO (Nat.le_of_ble_eq_true rfl) fun t1 H6 ht1 s6 ht6=>?_
      have hq6:=s6 _ _ hq
      have hqs6:=s6 _ _ hqs
      refine⟨q,t1,ts,[.ref qs],rfl,rfl,hq6,ht6,by simp,Nat.le_trans (show ts.length+1≤32 by omega) (by decide),fun t2 H7 s7 ht7=>?_⟩
      have s67:=s6.trans s7
      have hqs7:=s7 _ _ hqs6
      have hR7:=hR.ts (TS.of s67)
      have hC7:=s67 _ _ hC5
      have hA7:=hA5.ts (TS.of s67)
      have g7:=s67 _ _ g5
      have hF7:=s67 _ _ hF
      have hM7:=hM.ts (TS.of s67)
      have s57:=s5.trans s67
      clear hq6 hqs6 s6 s7 s67 hR hq hqs hM hF g5 hA5 hC5 s5 ht6
      k_extra "rx"
      refine i_app hC7 (by omega) fun H8 g8 f8=>?_
      have t8:=TS.frl hC7 f8
      have g8':=f8 _ _ CR.symm g7
      have hF8:=f8 _ _ FC hF7
      have hM8:=hM7.ts t8
      have hA8:=(hA7.ts t8).snoc (q:=t2) (ch:=chs.getD a []++[ms.getD j (0,0)]) (t8 _ _ ht7) (by
       rw[List.map_append]
       exact (hR7.ts t8).snoc (t8 _ _ hqs7))
      have hqs8:=t8 _ _ hqs7
      have s58:=same_fr hC s57 f8
      clear hR7 hA7 g7 hF7 hM7 s57 hC7 t8 f8 ht7 hqs7
      have bf2:=bf.more ha n1 n4 n3 (by rw[eff];exact n2) h3
      have eff2:((rs++[(cF ms j:Int)]).getD a 0).toNat=ff:=by rw[getD_snoc,if_pos (by omega),eff]
      k_extra "rx"
      refine i_tBM ?_
      k_extra "rx"
      refine⟨.inl ⟨rfl,_,SqL.of g8'⟩,?_⟩
      k_extra "rx"
      refine i_app g8' (by rw[List.length_map];omega) fun H9 g9 f9=>?_
      have t9:=TS.frl g8' f9
      refine kN _ _ ⟨_,_,rs++[(cF ms j:Int)],_,rfl,same_fr Rc0 s58 f9,f9 _ _ CR g8,hA8.ts t9,by rw[List.map_append];exact g9,⟨bf2,(List.perm_append_comm (l₁:=rs) (l₂:=[(cF ms j:Int)])).nodup_iff.mpr (List.nodup_cons.mpr ⟨h3,nd⟩)⟩,by rw[List.length_append];omega,eff2,f9 _ _ FR hF8,hM8.ts t9,fun k hk=>?_⟩
      by_cases e:k < j
      ·exact List.mem_append_left _ (dn k e)
      ·rw[show k=j by omega]
       exact List.mem_append_right _ List.mem_cons_self
     ·refine i_tNext ?_
      refine kN _ _ ⟨vs,chs,rs,_,rfl,s5,hC5,hA5,g5,⟨bf,nd⟩,ha,eff,hF,hM,fun k hk=>?_⟩
      by_cases e:k < j
      ·exact dn k e
      ·rw[show k=j by omega]
       exact h3
    ·rintro σ H5 ⟨vs,chs,rs,v8,rfl,s5,hC5,hA5,g5,⟨bf,nd⟩,ha,eff,hF,hM,dn⟩
     rw[ml] at dn
     refine⟨_,rfl,_,_,rfl,rfl,?_⟩
     refine⟨vs,chs,rs,_,_,rfl,s5,hC5,hA5,g5,bf.next ha (by rw[eff];omega) fun p hp h x hx=>?_,nd⟩
     rw[eff] at h
     obtain⟨k,hk,e⟩:=List.getElem_of_mem (m2 p hp h x hx)
     have es:ms.getD k (0,0)=ms[k]:=by simp[List.getD_eq_getElem?_getD,hk]
     have:=dn k hk
     have e3:cF ms k=x.toNat:=by show (ms.getD k (0,0)).2=_;rw[es,e]
     rw[e3,Int.toNat_of_nonneg ((hb p hp).2 x hx).1] at this
     exact this
  ·have h1:¬ (a:Int) < (vs.length:Int):=of_decide_eq_false h1
   have:=bf.le
   obtain⟨w1,w2,w3⟩:=bf.fin (by omega) (fun p hp=>(hb p hp).2) hp
   show tRaiseV (cx "Overdrawn") "heap" E (tCons (tCB rTupF (tCons (tCB rSortO (tCons (tVar 5) tNil)) tNil)) tNil) { nx:=fun x H'=>Q V.non H',rt:=Q } [some (V.ref ac),some (V.ref ar),some (V.ref al),some (V.int (place:Int)),some (V.ref C),some (V.ref Rc),some (V.int (a:Int)),v7,v8] H3
   refine i_raiseV ?_
   k_extra "rx"
   refine⟨Rc,rs,rfl,g3,by omega,fun p zs pm so hp'=>?_⟩
   obtain⟨j,hj,ez,jb⟩:=sort_sub m6 bf.bd nd pm so
   have s4:=Same.new (o:=.lst (zs.map V.int)) hp'
   have g4:upd H3 p (.lst (zs.map V.int)) p=_:=upd_same
   generalize upd H3 p (.lst (zs.map V.int))=H4 at s4 g4 ⊢
   k_extra "rx"
   refine⟨p,_,rfl,g4,fun t ht=>?_⟩
   have s5:=Same.new (o:=.tup (zs.map V.int)) ht
   have g5:upd H4 t (.tup (zs.map V.int)) t=_:=upd_same
   generalize upd H4 t (.tup (zs.map V.int))=H5 at s5 g5 ⊢
   k_extra "rx"
   refine⟨_,rfl,fun dx hdx=>no _ w1 w2 w3 j hj jb t dx _ (((s3.trans s4).trans s5).trans (Same.new hdx)) ⟨?_,upd_same⟩⟩
   rw[upd_ne (fun z=>by rw[z,hdx] at g5;cases g5),g5,ez]
theorem ok_pay(D:DefAt K mg "pay" s_pay f fd)(T:Txt K mg cx)(d_shortest_chain:DefOk P w K mg base (CXD P w) 3 "shortest_chain" ["claims","rows","left","place"] (sp_shortest_chain K cx))(d_move_along:DefOk P w K mg base CX0 1 "move_along" ["rows","left","chain","amount"] sp_move_along)(d_most_along:DefOk P w K mg base CX0 1 "most_along" ["rows","left","chain"] sp_most_along):DefOk P w K mg base (CXD P w) 4 "pay" ["claims","rows","left","place","number"] (sp_pay K cx):=by
 refine D.ok (D.qD sc_pay (fun vs H Q E h=>?_) (fun cdv A outer s H vs Q E hr h=>?_)) (D.fn.binds fun _ _ _ _ _ _ us hl=>match us,hl with | [_,_,_,_,_],_=>rfl)
 ·obtain⟨_,_,_,_,_,_,_,_,_,_,_,_,_,rfl,_⟩:=h
  rfl
 obtain⟨ac,ar,al,xs,cs,zs,m,R,Lf,place,number,cap,nm,rfl,x,fl,hp,c16,m6,hb,n0,hr',no,hnd,hQ⟩:=h
 refine⟨_,(qss_cons (qs_sL 5 sc_pay.nd (qv 4))
   (qss_one (qs_while PassesOwn.leaving (qt_cmpR op_gt (qv 5) qe_int (nomark _)) (qss_cons (qs_sL 6 sc_pay.nd (qe_f d_shortest_chain hr.le passD (qa_cons (qv 0) (qa_cons (qv 1) (qa_cons (qv 2) (qa_cons (qv 3) qa_nil))))))
   (qss_cons (qs_sL 7 sc_pay.nd (qe_callB (call_min2 rfl) (by rfl) T.n_min bt_min (qa_2 (qv 5) (qe_g d_most_along (qa_3 (qv 1) (qv 2) (qv 6))))))
   (qss_cons (qs_expr (qe_g d_move_along (qa_cons (qv 1) (qa_cons (qv 2) (qa_cons (qv 6) (qa_cons (qv 7) qa_nil))))))
   (qss_one (qs_aug (i:=5) sc_pay.nd rfl (Or.inl rfl) (qv 7) ip_sub)))))))),?_⟩
 k_extra "rx"
 refine⟨fun k σ H'=>∃ lack:Int,k=lack.toNat∧0≤lack∧∃ R' Lf' v6 v7,σ=[some (.ref ac),some (.ref ar),some (.ref al),some (.int (place:Int)),some (.int number),some (.int lack),v6,v7]∧Tq ac ar al xs cs zs m R' Lf' H'∧Flo cs.length m R' Lf' (heapP cs) cap∧(∀ p,p < cs.length→sm m (R' p)=sm m (R p)+if p=place then number - lack else 0)∧FrZ zs al H H',⟨_,number,rfl,n0,R,Lf,_,_,rfl,x,fl,fun p _=>by rw[Int.sub_self];split<;>omega,fun _ _ _ _ h=>h⟩,?_⟩
 clear x fl
 rintro k σ H1 ⟨lack,rfl,l0,R1,Lf1,v6,v7,rfl,x1,fl1,rw1,z1⟩
 k_extra "rx"
 refine i_ite (fun h1=>?_) (fun h1=>?_)
 ·have h1:0 < lack:=of_decide_eq_true h1
  refine⟨fun σ' H'=>∃ lack':Int,lack' < lack∧0≤lack'∧∃ R' Lf' v6 v7,σ'=[some (.ref ac),some (.ref ar),some (.ref al),some (.int (place:Int)),some (.int number),some (.int lack'),v6,v7]∧Tq ac ar al xs cs zs m R' Lf' H'∧Flo cs.length m R' Lf' (heapP cs) cap∧(∀ p,p < cs.length→sm m (R' p)=sm m (R p)+if p=place then number - lack' else 0)∧FrZ zs al H H',fun σ' H' ⟨l',q1,q2,h⟩=>⟨l'.toNat,by omega,l',rfl,q2,h⟩,?_⟩
  have lk:sm m (R1 place) < nm place:=by
   have a:=rw1 place hp
   have b:=hr' place hp
   rw[if_pos rfl] at a b
   omega
  have le:∀ p,p < cs.length→sm m (R1 p)≤nm p:=fun p hp=>by
   have a:=rw1 p hp
   have b:=hr' p hp
   split at a<;>rename_i e
   ·rw[if_pos e] at b
    omega
   ·rw[if_neg e] at b
    omega
  k_extra "rx"
  refine⟨ac,ar,al,xs,cs,zs,m,R1,Lf1,place,rfl,x1,hp,c16,m6,hb,fun S h1 h2 h3 j hj jb t dx H' s' o=>no S (fl1.stuck le hp lk S h1 h2 h3) j hj jb t dx H' (z1.trans (FrZ.of s')) o,hnd place hp,fun q ts ch H2 s2 hq hR hc lp=>?_⟩
  have x2:=x1.same s2
  have z2:=z1.trans (FrZ.of s2)
  clear x1 z1 s2
  k_extra "rx"
  refine⟨ac,ar,al,xs,cs,zs,m,R1,Lf1,place,q,ts,ch,rfl,x2,hq,hR,hc,fun b H3 s3 b1 b2 b3=>?_⟩
  have b3:=b3 lp
  have x3:=x2.same s3
  have z3:=z2.trans (FrZ.of s3)
  have hq3:=s3 _ _ hq
  have hR3:=hR.ts (TS.of s3)
  clear x2 z2 s3 hq hR
  k_extra "rx"
  refine⟨_,_,rfl,?_⟩
  have am:0 < (if b < lack then b else lack)∧(if b < lack then b else lack)≤b∧(if b < lack then b else lack)≤lack:=by split<;>omega
  generalize (if b < lack then b else lack)=a at am
  k_extra "rx"
  refine⟨ac,ar,al,xs,cs,zs,m,R1,Lf1,place,q,ts,ch,a,cap,rfl,x3,hq3,hR3,hc,fl1,by omega,by omega,fun i hi=>by have:=b2 i hi;omega,fun R4 Lf4 H4 x4 fl4 rw4 z4=>?_⟩
  refine⟨_,rfl,_,rfl,_,_,rfl,rfl,?_⟩
  refine⟨lack - a,by omega,by omega,R4,Lf4,_,_,rfl,x4,fl4,fun p hp=>?_,z3.trans z4⟩
  rw[rw4 p hp,rw1 p hp]
  split<;>omega
 ·have h1:¬ 0 < lack:=of_decide_eq_false h1
  have e:lack=0:=by omega
  subst e
  rw[Int.sub_zero] at rw1
  exact hQ R1 Lf1 H1 x1 fl1 rw1 z1
theorem ok_table(D:DefAt K mg "table" s_table f fd)(T:Txt K mg cx)(d_one_under:DefOk P w K mg base CX0 2 "one_under" ["row"] sp_one_under)(d_numbers_over:DefOk P w K mg base CX0 1 "numbers_over" ["row","under"] sp_numbers_over)(d_pay:DefOk P w K mg base (CXD P w) 4 "pay" ["claims","rows","left","place","number"] (sp_pay K cx))(d_as_parts:DefOk P w K mg base CX0 3 "as_parts" ["numbers","under"] sp_as_parts):DefOk P w K mg base (CXD P w) 5 "table" ["worths","claims","parts"] (sp_table K cx):=by
 refine D.ok (D.qD sc_table (fun vs H Q E h=>?_) (fun cdv A outer s H vs Q E hr h=>?_)) (D.fn.binds fun _ _ _ _ _ _ us hl=>match us,hl with | [_,_,_],_=>rfl)
 ·obtain⟨_,_,_,_,_,_,_,_,_,_,rfl,_⟩:=h
  rfl
 obtain⟨w,c,p,ws,xs,cs,ys,ps,U,k,rfl,sh,hp,hU,hR,hk,pl,c16,w6,wz,hb,p0,room,hnd,hQ⟩:=h
 refine⟨_,(qss_cons (qs_set (i:=3) sc_table.nd rfl (Or.inr rfl) (qe_g d_one_under (qa_1 (qv 2))))
   (qss_cons (qs_setP (k:=4) ["worth"] [("under", 3)] sc_table.nd (qi_listK (K:=K) rfl (qv 0)) (gext_name (by decide)) (fun _ _ _ _ _=>⟨(qg_name (i:=0) (show (["worth","under"]:List Str).Nodup by decide +kernel) rfl (Or.inl rfl)),qf_nil,(qe_op op_mulB (qv 0) (qv 1))⟩))
   (qss_cons (qs_setP (k:=5) ["claim"] [("worths", 0)] sc_table.nd (qi_listK (K:=K) rfl (qv 1)) (gext_name (by decide)) (fun _ _ _ _ _=>⟨(qg_name (i:=0) (show (["claim","worths"]:List Str).Nodup by decide +kernel) rfl (Or.inl rfl)),qf_nil,(qe_op op_rep (qe_lst (qa_1 qe_int)) (qe_callB call_lenF (by rfl) T.n_len bt_len (qa_1 (qv 1))))⟩))
   (qss_cons (qs_for PassesOwn.leaving rfl (qi_enumK (K:=K) rfl (by rfl) T.n_enumerate (qa_1 (qe_g d_numbers_over (qa_2 (qv 2) (qv 3))))) (qg_tupK (K:=K) (n:=2) rfl rfl (qgs_cons (qg_name (i:=6) sc_table.nd rfl (Or.inl rfl)) (qgs_cons (qg_name (i:=7) sc_table.nd rfl (Or.inl rfl)) qgs_nil))) (qss_one (qs_expr (qe_f d_pay hr.le passD (qa_cons (qv 1) (qa_cons (qv 5) (qa_cons (qv 4) (qa_cons (qv 6) (qa_cons (qv 7) qa_nil)))))))))
   (qss_one (qs_ret (qe_cp ["row"] [("under", 3)] (qi_listK (K:=K) rfl (qv 5)) (gext_name (by decide)) (fun _ _ _ _ _=>⟨(qg_name (i:=0) (show (["row","under"]:List Str).Nodup by decide +kernel) rfl (Or.inl rfl)),qf_nil,(qe_g d_as_parts (qa_2 (qv 0) (qv 1)))⟩)))))))),?_⟩
 obtain⟨v0,dV,okV⟩:=undP_ok fun q hq=>(hR.mem q hq).toOk
 have hV:UOk (undP ps):=⟨v0,hU.sz.le (le_of_dvd' dV hU.pos)⟩
 have okI:∀ i,i < cs.length→Ok (undP ps) (ps.getD i (0,1)):=fun i hi=>by
  have h2:i < ps.length:=by omega
  have e:ps.getD i (0,1)=ps[i]:=by simp[List.getD_eq_getElem?_getD,h2]
  rw[e]
  exact okV _ (List.getElem_mem h2)
 k_extra "rx"
 refine⟨p,ys,ps,U,k,rfl,hp,hU,hR,hk,by omega,?_⟩
 have nnV:∀ i,i < cs.length→0≤num (undP ps) (ps.getD i (0,1)):=fun i hi=>(nn_num v0 (okI i hi)).mp (p0 i hi)
 have room:=room _ v0 okI
 have nl:(numsP (undP ps) ps).length=cs.length:=by unfold numsP;rw[List.length_map,pl]
 have nat:∀ i,i < cs.length→(numsP (undP ps) ps)[i]?=some (num (undP ps) (ps.getD i (0,1))):=fun i hi=>by
  unfold numsP
  rw[List.getElem?_map,List.getElem?_eq_getElem (by omega:i < ps.length)]
  have e:ps.getD i (0,1)=ps[i]'(by omega):=by simp[List.getD_eq_getElem?_getD,show i < ps.length by omega]
  rw[e]
  rfl
 refine i_gName ?_
 dsimp only
 have shw:=sh.w
 refine⟨_,rfl,w,rfl,⟨_,SqL.of shw⟩,fun al hal=>?_⟩
 refine comp_listR (K:=K) (a:=w) (xs:=ws.map V.int) (fun j acc H1=>Same H H1∧H1 al=some (.lst acc)∧acc=rowV j fun f=>ws.getD f 0*undP ps) ⟨Same.new hal,upd_same,rfl⟩ (fun j acc H1 _ ⟨s1,_⟩=>SqL.of (s1 _ _ shw)) ?_ ?_
 ·rintro j y acc H1 hy ⟨s1,hl1,rfl⟩
  obtain⟨hj,rfl⟩:=int_at hy
  have e:ws.getD j 0=ws[j]:=by simp[List.getD_eq_getElem?_getD,hj]
  have om:IntMulOk ws[j] (undP ps):=(wz _ (List.getElem_mem hj)).2.ok hV.sz (by decide)
  have er:rowV (j+1) (fun f=>ws.getD f 0*undP ps)=rowV j (fun f=>ws.getD f 0*undP ps)++[.int (ws[j]*undP ps)]:=by
   unfold rowV
   rw[List.range_succ,List.map_append,← e]
   rfl
  have len:=rowV_len (m:=j) (g:=fun f=>ws.getD f 0*undP ps)
  rw[er]
  generalize rowV j (fun f=>ws.getD f 0*undP ps)=A at hl1 len ⊢
  generalize ws[j]=X at om
  simp only[gName_ap,tYes,if_true]
  k_extra "rx"
  exact⟨X,_,rfl,rfl,om,hl1,small1000 (by omega),same_put hal s1,upd_same,rfl⟩
 ·rintro acc H1 ⟨s1,hl1,rfl⟩
  rw[List.length_map] at hl1
  have sh1:=sh.same s1
  have hp1:=s1 _ _ hp
  have hR1:=hR.ts (TS.of s1)
  refine i_gName ?_
  dsimp only
  have sh1c:=sh1.c
  have sh1w:=sh1.w
  have hxl:=sh1.hC.1
  refine⟨_,rfl,c,rfl,⟨_,SqL.of sh1c⟩,fun ar har=>?_⟩
  have arl:ar≠al:=fun z=>by rw[z,hl1] at har;cases har
  refine comp_listR (K:=K) (a:=c) (xs:=xs) (fun j acc H2=>Same H1 H2∧H2 ar=some (.lst acc)∧acc.length=j∧acc.Nodup∧∀ v∈acc,∃ l,v=.ref l∧H2 l=some (.lst (rowV ws.length fun _=>0))∧H1 l=none∧l≠ar) ⟨Same.new har,upd_same,rfl,.nil,fun v h=>by cases h⟩ (fun j acc H2 _ ⟨s2,_⟩=>SqL.of (s2 _ _ sh1c)) ?_ ?_
  ·rintro j y acc H2 hy ⟨s2,hr2,al2,nd,hall⟩
   have hj:j < xs.length:=(List.getElem?_eq_some_iff.mp hy).1
   have w2:=s2 _ _ sh1w
   simp only[gName_ap,tYes,if_true]
   k_extra "rx"
   refine i_NewO (Nat.le_of_ble_eq_true rfl) fun t0 H3 ht0 s3 ht3=>?_
   have w3:=s3 _ _ w2
   k_extra "rx"
   have wl:(ws.map V.int).length=ws.length:=List.length_map _
   refine⟨t0,_,[V.int 0],rfl,rfl,ht3,by omega,by omega,Nat.le_trans (show 1*((ws.map V.int).length:Int).toNat≤32 by rw[List.length_map];omega) (by decide),fun q hq=>?_⟩
   have eq:(List.replicate (((ws.map V.int).length:Nat):Int).toNat [V.int 0]).flatten=rowV ws.length fun _=>0:=by rw[Int.toNat_natCast,List.length_map,rep_row0]
   rw[eq]
   have s4:=Same.new (o:=.lst (rowV ws.length fun _=>0)) hq
   have g4:upd H3 q (.lst (rowV ws.length fun _=>0)) q=_:=upd_same
   generalize upd H3 q (.lst (rowV ws.length fun _=>0))=H4 at s4 g4 ⊢
   have l4:=s4 _ _ (s3 _ _ hr2)
   have s34:=s3.trans s4
   have q1:H1 q=none:=none_back (s2.trans s3) hq
   have qr:q≠ar:=fun z=>by rw[z,s3 _ _ hr2] at hq;cases hq
   have qa:V.ref q∉acc:=fun z=>by
    obtain⟨l,e,h,_⟩:=hall _ z
    cases e
    rw[s3 _ _ h] at hq
    cases hq
   refine⟨l4,small1000 (by omega),same_put har (s2.trans s34),upd_same,by rw[List.length_append,al2];rfl,?_,fun v hv=>?_⟩
   ·refine (List.perm_append_comm (l₁:=acc) (l₂:=[.ref q])).nodup_iff.mpr (List.nodup_cons.mpr ⟨qa,nd⟩)
   ·rcases List.mem_append.mp hv with hv | hv
    ·obtain⟨l,rfl,h,h2,h3⟩:=hall v hv
     exact⟨l,rfl,by rw[upd_ne h3];exact s34 _ _ h,h2,h3⟩
    ·rw[List.mem_singleton.mp hv]
     exact⟨q,rfl,by rw[upd_ne qr];exact g4,q1,qr⟩
  ·rintro zs H2 ⟨s2,hr2,al2,nd,hall⟩
   have s12:=s1.trans s2
   have sh2:=sh1.same s2
   have hp2:=s2 _ _ hp1
   have hR2:=hR1.ts (TS.of s2)
   have hl2:=s2 _ _ hl1
   have ca:c≠ar:=fun z=>by rw[← z,sh1c] at har;cases har
   have cl:c≠al:=fun z=>by
    have:=sh.c
    rw[z,hal] at this
    cases this
   have z0:∀ a,V.ref a∈zs→H a=none:=fun a ha=>by
    obtain⟨l,e,_,h,_⟩:=hall _ ha
    cases e
    exact none_back s1 h
   have x2:Tq c ar al xs cs zs ws.length (fun _ _=>0) (fun f=>ws.getD f 0*undP ps) H2:=⟨sh2.c,sh2.hC,hr2,⟨by omega,nd,fun p hp=>by
    have hpz:p < zs.length:=by omega
    obtain⟨l,e,h,h2,h3⟩:=hall _ (List.getElem_mem hpz)
    refine⟨l,by rw[List.getElem?_eq_getElem hpz,e],h,?_⟩
    simp only[List.mem_cons,List.not_mem_nil,or_false,not_or]
    exact⟨(fun z=>by rw[z,sh1c] at h2;cases h2),h3,fun z=>by rw[z,hl1] at h2;cases h2⟩⟩,hl2,ca,cl,arl⟩
   have fl2:Flo cs.length ws.length (fun _ _=>0) (fun f=>ws.getD f 0*undP ps) (heapP cs) fun f=>ws.getD f 0*undP ps:=⟨fun _ _ _ _=>Int.le_refl _,fun f hf=>by
    have e:ws.getD f 0=ws[f]:=by simp[List.getD_eq_getElem?_getD,hf]
    rw[e]
    exact Int.mul_nonneg (wz _ (List.getElem_mem hf)).1 (Int.le_of_lt v0),fun _ _ _ _ h=>absurd rfl h,fun f _=>by rw[sm_zero,Int.add_zero]⟩
   clear hall nd hr2 har hl1 s1 s2 sh1 sh1c sh1w hp1 hR1
   refine i_gName ?_
   dsimp only
   refine⟨_,rfl,_,rfl,p,_,ys,ps,U,k,rfl,hp2,hU,hR2,hk,by omega,hV.sz,fun N hN=>?_⟩
   have s3:=Same.new (o:=.lst ((numsP (undP ps) ps).map V.int)) hN
   have g3:upd H2 N (.lst ((numsP (undP ps) ps).map V.int)) N=_:=upd_same
   have NL:N≠al:=fun z=>by rw[z,hl2] at hN;cases hN
   have NZ:V.ref N∉zs:=fun z=>by
    obtain⟨i,hi,e⟩:=List.getElem_of_mem z
    obtain⟨l,e2,h,_⟩:=x2.hR.2.2 i (by omega)
    rw[List.getElem?_eq_getElem hi,e] at e2
    cases e2
    rw[h] at hN
    cases hN
   generalize upd H2 N (.lst ((numsP (undP ps) ps).map V.int))=H3 at s3 g3 ⊢
   have x3:=x2.same s3
   have s13:=s12.trans s3
   clear x2 hN s3 s12 sh2 hp2 hR2 hl2
   refine⟨N,rfl,⟨_,SqL.of g3⟩,for_enumN (K:=K) (a:=N) (xs:=(numsP (undP ps) ps).map V.int) (fun i σ H'=>∃ R Lf v6 v7,σ=[some (.ref w),some (.ref c),some (.ref p),some (.int (undP ps)),some (.ref al),some (.ref ar),v6,v7]∧Tq c ar al xs cs zs ws.length R Lf H'∧Flo cs.length ws.length R Lf (heapP cs) (fun f=>ws.getD f 0*undP ps)∧(∀ q,q < cs.length→sm ws.length (R q)=if q < i then num (undP ps) (ps.getD q (0,1)) else 0)∧FrZ zs al H3 H') ⟨_,_,_,_,rfl,x3,fl2,fun q _=>by rw[if_neg (by omega),sm_zero],fun _ _ _ _ h=>h⟩ (fun i σ H' _ ⟨_,_,_,_,_,_,_,_,f⟩=>SqL.of (f _ _ NL NZ g3)) ?_ ?_⟩
   ·clear x3 fl2
    rintro i y q σ H4 H5 NN BB hy hq s5 hq5 ⟨R,Lf,v6,v7,rfl,x4,fl4,rw4,z4⟩ kN kB
    clear kB
    have hi:i < cs.length:=by
     have:=(List.getElem?_eq_some_iff.mp hy).1
     rw[List.length_map] at this
     omega
    rw[List.getElem?_map,nat i hi] at hy
    cases hy
    have x5:=x4.same s5
    refine⟨q,_,rfl,SqT.of hq5,rfl,_,_,rfl,_,_,rfl,rfl,?_⟩
    dsimp only
    k_extra "rx"
    refine⟨c,ar,al,xs,cs,zs,ws.length,R,Lf,i,_,_,fun q=>num (undP ps) (ps.getD q (0,1)),rfl,x5,fl4,hi,c16,w6,hb,nnV i hi,fun q hq=>?_,fun S lt j hj jb t dx H' z' o=>room j hj (stuck_over w6 (fun p hp=>(hb p hp).2) S jb lt) t dx H' (((z4.trans (FrZ.of s5)).trans z').same s13 hal z0) o,hnd,fun R6 Lf6 H6 x6 fl6 rw6 z6=>?_⟩
    ·rw[rw4 q hq]
     have:=nnV q hq
     show _≤num (undP ps) (ps.getD q (0,1))
     by_cases e:q=i
     ·subst e
      rw[if_neg (by omega),if_pos rfl]
      omega
     ·rw[if_neg e]
      split<;>omega
    ·refine kN _ _ ⟨R6,Lf6,_,_,rfl,x6,fl6,fun q hq=>?_,(z4.trans (FrZ.of s5)).trans z6⟩
     rw[rw6 q hq,rw4 q hq]
     by_cases e:q=i
     ·subst e
      rw[if_neg (by omega),if_pos rfl,if_pos (by omega)]
      omega
     ·rw[if_neg e]
      by_cases e2:q < i
      ·rw[if_pos e2,if_pos (by omega)]
       omega
      ·rw[if_neg e2,if_neg (by omega)]
       rfl
   ·rintro σ H4 ⟨R,Lf,v6,v7,rfl,x4,fl4,rw4,z4⟩
    rw[List.length_map,nl] at rw4
    have rw4:∀ q,q < cs.length→sm ws.length (R q)=num (undP ps) (ps.getD q (0,1)):=fun q hq=>by rw[rw4 q hq,if_pos hq]
    have s4:=z4.same s13 hal z0
    have x4r:=x4.r
    have gd:=tab_good v0 fl4 okI rw4
    have rz:∀ q f,q < cs.length→f < ws.length→Sz 4300 (R q f):=fun q f hq hf=>by
     have e:ws.getD f 0=ws[f]:=by simp[List.getD_eq_getElem?_getD,hf]
     have a1:=fl4.nn q f hq hf
     have a2:=fl4.col f hf
     have a3:=fl4.ln f hf
     have a4:=sm_ge (f:=fun q=>R q f) hq fun i hi=>fl4.nn i f hi hf
     have a5:=((wz _ (List.getElem_mem hf)).2.mul hV.sz)
     rw[e] at a2
     exact (Sz.le a5 (by omega)).mono (by decide)
    k_extra "rx"
    refine⟨_,rfl,ar,rfl,⟨_,SqL.of x4r⟩,fun Z hZ=>?_⟩
    have zl:=x4.hR.1
    refine comp_listR (K:=K) (a:=ar) (xs:=zs) (fun j acc H5=>Same H4 H5∧H5 Z=some (.lst acc)∧RsU (undP ps) 4300 H5 acc ((tabR cs.length ws.length (undP ps) R).take j)∧V.ref Z∉acc∧∀ l,V.ref l∈acc→H4 l=none) ⟨Same.new hZ,upd_same,⟨by simp,fun i r h=>by simp at h⟩,by simp,fun l h=>by simp at h⟩ (fun j acc H5 _ ⟨s5,_⟩=>SqL.of (s5 _ _ x4r)) ?_ ?_
    ·rintro j y acc H5 hy ⟨s5,hZ5,hA,nZ,nw⟩
     have hj:j < cs.length:=by
      have:=(List.getElem?_eq_some_iff.mp hy).1
      omega
     obtain⟨l,_,hl,el,_,_⟩:=(x4.same s5).row hj
     rw[el] at hy
     cases hy
     have tl:(tabR cs.length ws.length (undP ps) R).length=cs.length:=by unfold tabR;rw[List.length_map,List.length_range]
     have et:(tabR cs.length ws.length (undP ps) R).take (j+1)=(tabR cs.length ws.length (undP ps) R).take j++[(List.range ws.length).map fun f=>low (R j f) (undP ps)]:=by
      rw[List.take_succ_eq_append_getElem (by omega)]
      unfold tabR
      simp
     have len:=hA.1
     rw[List.length_take] at len
     rw[et]
     simp only[gName_ap,tYes,if_true]
     k_extra "rx"
     refine⟨l,ws.length,R j,undP ps,rfl,hl,w6,hV,fun f hf=>rz j f hj hf,fun F as H6 s6 nF hF hRF=>?_⟩
     have l6:=s6 _ _ hZ5
     have FZ:F≠Z:=fun z=>by rw[z,hZ5] at nF;cases nF
     refine⟨l6,small1000 (by omega),same_put hZ (s5.trans s6),upd_same,((hA.same s6).put l6 nZ).snoc (by rw[upd_ne FZ];exact hF) (hRF.ts (TS.lst l6)) (by rw[List.length_map,List.length_range];omega),fun z=>?_,fun l' hl'=>?_⟩
     ·rcases List.mem_append.mp z with z | z
      ·exact nZ z
      ·exact FZ (V.ref.inj (List.mem_singleton.mp z)).symm
     ·rcases List.mem_append.mp hl' with z | z
      ·exact nw l' z
      ·rw[V.ref.inj (List.mem_singleton.mp z)]
       exact none_back s5 nF
    ·rintro acc H5 ⟨s5,hZ5,hA,nZ,nw⟩
     have tl:(tabR cs.length ws.length (undP ps) R).length=cs.length:=by unfold tabR;rw[List.length_map,List.length_range]
     rw[zl,List.take_of_length_le (by omega)] at hA
     exact hQ Z acc _ _ H5 (s4.trans s5) (none_back s4 hZ) hZ5 hA hV gd (fun l hl=>none_back s4 (nw l hl)) (room_over w6 (fun p hp=>(hb p hp).2) (fl4.room rw4)) okI
theorem ok_good_row(D:DefAt K mg "good_row" s_good_row f fd)(T:Txt K mg cx)(d_total:DefOk P w K mg base CX0 3 "total" ["row"] sp_total)(d_below:DefOk P w K mg base CX0 1 "below" ["one","other"] sp_below):DefOk P w K mg base CX0 4 "good_row" ["many","touched","part","row"] sp_good_row:=by
 refine D.ok (D.q sc_good_row (fun vs H Q E h=>?_) (fun cdv A outer s H vs Q E hr h=>?_)) (D.fn.binds fun _ _ _ _ _ _ us hl=>match us,hl with | [_,_,_,_],_=>rfl)
 ·obtain⟨_,_,_,_,_,_,_,_,_,_,rfl,_⟩:=h
  rfl
 obtain⟨m,t,p,r,ts,part,xs,row,k,U,rfl,ht,hp,hrl,hR,hU,hk,h12,hQ⟩:=h
 refine⟨_,(qss_cons (qs_if (qw_or (qt_cmpR op_ne (qe_callB call_lenF (by rfl) T.n_len bt_len (qa_1 (qv 3))) (qv 0) (nomark _)) (qw_or1 (qt_cmpR (op_neP hr.units) (qe_g d_total (qa_1 (qv 3))) (qv 2) (nomark _)))).pt (qss_one (qs_ret qe_bl)) qss_nil)
   (qss_cons (qs_for PassesOwn.never rfl (qi_enumK (K:=K) rfl (by rfl) T.n_enumerate (qa_1 (qv 3))) (qg_tupK (K:=K) (n:=2) rfl rfl (qgs_cons (qg_name (i:=4) sc_good_row.nd rfl (Or.inl rfl)) (qgs_cons (qg_name (i:=5) sc_good_row.nd rfl (Or.inl rfl)) qgs_nil))) (qss_one (qs_if (qw_or (qt_val (qe_g d_below (qa_2 (qv 5) (qe_tup (qa_2 qe_int qe_int))))) (qw_or1 (qw_and (qt_cmpR (op_neP hr.units) (qv 5) (qe_tup (qa_2 qe_int qe_int)) (nomark _)) (qw_and1 (qt_cmpR (op_notInK (K:=K) rfl) (qv 4) (qv 1) (by rfl)))).pt)).pt (qss_one (qs_ret qe_bl)) qss_nil)))
   (qss_one (qs_ret qe_bl)))),?_⟩
 have hxl:=hR.1
 k_extra "rx"
 refine⟨rfl,?_⟩
 refine⟨_,rfl,brkN (fun h1=>?_) (fun h1=>?_)⟩
 ·refine i_brkT ?_
  k_extra "rx"
  exact hQ false H (fun _ _ h=>h) ⟨(fun z=>nomatch z),fun z=>absurd (by rw[hxl,z.1]) h1⟩
 ·have h1:(xs.length:Int)=(m:Int):=V.int.inj h1
  have hm:row.length=m:=by omega
  k_extra "rx"
  refine⟨r,xs,row,U,k,rfl,hrl,hU,hR,hk,by omega,fun q H1 s1 hq=>?_⟩
  have hp1:=s1 _ _ hp
  have ht1:=s1 _ _ ht
  have hrl1:=s1 _ _ hrl
  have hR1:=hR.ts (TS.of s1)
  k_extra "rx"
  refine⟨q,p,_,_,_,_,rfl,rfl,hq,hp1,?_⟩
  refine⟨_,rfl,brkN (fun h2=>?_) (fun h2=>?_)⟩
  ·k_extra "rx"
   exact hQ false H1 s1 ⟨(fun z=>nomatch z),fun z=>absurd (by rw[z.2.1];exact⟨rfl,rfl⟩) h2⟩
  ·have hs:sumP row=part:=Prod.ext h2.1 h2.2
   refine i_tNext ?_
   refine⟨_,rfl,r,rfl,⟨_,SqL.of hrl1⟩,for_enumN (K:=K) (a:=r) (xs:=xs) (fun j σ H'=>∃ v4 v5,σ=[some (.int (m:Int)),some (.ref t),some (.ref p),some (.ref r),v4,v5]∧Same H1 H'∧∀ i,i < j→0≤(row.getD i (0,1)).1∧(row.getD i (0,1)=(0,1)∨(i:Int)∈ts)) ⟨_,_,rfl,fun _ _ h=>h,fun i hi=>by omega⟩ (fun i σ H' _ ⟨_,_,_,s,_⟩=>SqL.of (s _ _ hrl1)) ?_ ?_⟩
   ·rintro i y q2 σ H2 H3 NN BB hy hq2 s3 hq3 ⟨v4,v5,rfl,s2,inv⟩ kN kB
    clear kB
    have hi:i < row.length:=by rw[← hxl];exact (List.getElem?_eq_some_iff.mp hy).1
    obtain⟨rp,er,hrp,po⟩:=hR1.2 i row[i] (List.getElem?_eq_getElem hi)
    rw[er] at hy
    cases hy
    have ep:row.getD i (0,1)=row[i]:=by simp[List.getD_eq_getElem?_getD,hi]
    have s13:=s2.trans s3
    have hrp3:=s13 _ _ hrp
    have ht3:=s13 _ _ ht1
    have nx:(0≤row[i].1∧(row[i]=(0,1)∨(i:Int)∈ts))→∀ H4,Same H3 H4→NN [some (.int (m:Int)),some (.ref t),some (.ref p),some (.ref r),some (.int (i:Int)),some (.ref rp)] H4:=fun h H4 s4=>kN _ _ ⟨_,_,rfl,s13.trans s4,fun k hk=>by
     by_cases e:k < i
     ·exact inv k e
     ·rw[show k=i by omega,ep]
      exact h⟩
    have no:¬ (0≤row[i].1∧(row[i]=(0,1)∨(i:Int)∈ts))→∀ H4,Same H3 H4→Q (.bl false) H4:=fun h H4 s4=>hQ false H4 ((s1.trans s13).trans s4) ⟨(fun z=>nomatch z),fun z=>absurd (by have:=z.2.2 i hi;rw[ep] at this;exact this) h⟩
    clear kN inv hQ
    generalize row[i]=P0 at hrp3 po nx no
    refine⟨q2,_,rfl,SqT.of hq3,rfl,_,_,rfl,_,_,rfl,rfl,?_⟩
    dsimp only
    k_extra "rx"
    refine i_NewO (Nat.le_of_ble_eq_true rfl) fun t0 H4 _ s4 ht0=>?_
    have hrp4:=s4 _ _ hrp3
    have ht4:=s4 _ _ ht3
    k_extra "rx"
    refine⟨rp,t0,_,_,_,_,rfl,hrp4,ht0,(po.nsz hU.pos).mono (by omega),(po.toOk.usz hU).mono (by decide),by decide,by decide,?_⟩
    refine⟨_,rfl,brkD (fun h3=>?_) (fun h3=>?_)⟩
    ·refine i_brkT ?_
     k_extra "rx"
     exact no (fun z=>by have:=po.pos;omega) H4 s4
    ·have h3:0≤P0.1:=by omega
     k_extra "rx"
     refine i_NewO (Nat.le_of_ble_eq_true rfl) fun t5 H5 _ s5 ht5=>?_
     have ht5':=s5 _ _ ht4
     have s45:=s4.trans s5
     refine⟨rp,t5,_,_,_,_,rfl,rfl,s5 _ _ hrp4,ht5,?_⟩
     refine⟨_,rfl,brkN (fun h4=>?_) (fun h4=>?_)⟩
     ·have h4:P0≠(0,1):=fun z=>h4 (by rw[z];exact⟨rfl,rfl⟩)
      k_extra "rx"
      refine⟨t,ts.map V.int,rfl,.inr (SqT.of ht5'),rfl,by simp[flatV],?_⟩
      rw[if_pos rfl,inV_int]
      refine⟨_,rfl,brkN (fun h5=>?_) (fun h5=>?_)⟩
      ·k_extra "rx"
       refine no (fun z=>?_) H5 s45
       rcases z.2 with e | e
       ·exact h4 e
       ·exact h5 e
      ·refine i_tNext ?_
       exact nx ⟨h3,.inr h5⟩ H5 s45
     ·refine i_tNext ?_
      exact nx ⟨h3,.inl (Prod.ext h4.1 h4.2)⟩ H5 s45
   ·rintro σ H2 ⟨v4,v5,rfl,s2,inv⟩
    rw[hxl] at inv
    k_extra "rx"
    exact hQ true H2 (s1.trans s2) ⟨fun _=>⟨hm,hs,inv⟩,fun _=>rfl⟩
theorem ok_good_table(D:DefAt K mg "good_table" s_good_table f fd)(T:Txt K mg cx)(d_below:DefOk P w K mg base CX0 1 "below" ["one","other"] sp_below)(d_good_row:DefOk P w K mg base CX0 4 "good_row" ["many","touched","part","row"] sp_good_row)(d_total:DefOk P w K mg base CX0 3 "total" ["row"] sp_total):DefOk P w K mg base CX0 5 "good_table" ["worths","claims","parts","rows"] sp_good_table:=by
 refine D.ok (D.q sc_good_table (fun vs H Q E h=>?_) (fun cdv A outer s H vs Q E hr h=>?_)) (D.fn.binds fun _ _ _ _ _ _ us hl=>match us,hl with | [_,_,_,_],_=>rfl)
 ·obtain⟨_,_,_,_,_,_,_,_,_,_,_,_,_,rfl,_⟩:=h
  rfl
 obtain⟨w,c,p,z,ws,xs,cs,ys,ps,zs,rss,k,U,rfl,sh,hp,hP,pl,hz,hZ,hU,hk,c16,w6,wz,hQ⟩:=h
 refine⟨_,(qss_cons (qs_if (qt_cmpR op_ne (qe_callB call_lenF (by rfl) T.n_len bt_len (qa_1 (qv 3))) (qe_callB call_lenF (by rfl) T.n_len bt_len (qa_1 (qv 1))) (nomark _)) (qss_one (qs_ret qe_bl)) qss_nil)
   (qss_cons (qs_for PassesOwn.never rfl (qi_zip3K (K:=K) rfl (by rfl) T.n_zip (qa_3 (qv 1) (qv 2) (qv 3))) (qg_tupK (K:=K) (n:=3) rfl rfl (qgs_cons (qg_name (i:=4) sc_good_table.nd rfl (Or.inl rfl)) (qgs_cons (qg_name (i:=5) sc_good_table.nd rfl (Or.inl rfl)) (qgs_cons (qg_name (i:=6) sc_good_table.nd rfl (Or.inl rfl)) qgs_nil)))) (qss_one (qs_if (qt_not (qt_val (qe_g d_good_row (qa_cons (qe_callB call_lenF (by rfl) T.n_len bt_len (qa_1 (qv 0))) (qa_cons (qe_iS (qv 4) qe_int) (qa_cons (qv 5) (qa_cons (qv 6) qa_nil))))))) (qss_one (qs_ret qe_bl)) qss_nil)))
   (qss_cons (qs_for PassesOwn.never rfl (qi_enumK (K:=K) rfl (by rfl) T.n_enumerate (qa_1 (qv 0))) (qg_tupK (K:=K) (n:=2) rfl rfl (qgs_cons (qg_name (i:=7) sc_good_table.nd rfl (Or.inr rfl)) (qgs_cons (qg_name (i:=8) sc_good_table.nd rfl (Or.inl rfl)) qgs_nil))) (qss_one (qs_if (qt_val (qe_g d_below (qa_2 (qe_tup (qa_2 (qv 8) qe_int)) (qe_g d_total (qa_1 (qe_cp ["row"] [("fund", 7)] (qi_listK (K:=K) rfl (qv 3)) (gext_name (by decide)) (fun _ _ _ _ _=>⟨(qg_name (i:=0) (show (["row","fund"]:List Str).Nodup by decide +kernel) rfl (Or.inl rfl)),qf_nil,(qe_iS (qv 0) (qv 1))⟩))))))) (qss_one (qs_ret qe_bl)) qss_nil)))
   (qss_one (qs_ret qe_bl))))),?_⟩
 have hxl:=sh.hC.1
 have hyl:=hP.1
 have hzl:=hZ.1
 have wl:(ws.map V.int).length=ws.length:=List.length_map _
 have shc:=sh.c
 have shw:=sh.w
 k_extra "rx"
 refine⟨rfl,?_⟩
 refine⟨_,rfl,brkN (fun h1=>?_) (fun h1=>?_)⟩
 ·k_extra "rx"
  exact hQ false H (fun _ _ h=>h) ⟨(fun z=>nomatch z),fun z=>absurd (by rw[hzl,z.1,hxl]) h1⟩
 ·have h1:(zs.length:Int)=(xs.length:Int):=V.int.inj h1
  have rl:rss.length=cs.length:=by omega
  refine i_tNext ?_
  refine⟨_,rfl,_,rfl,_,rfl,c,p,z,rfl,⟨_,SqL.of shc⟩,⟨_,SqL.of hp⟩,⟨_,SqL.of hz⟩,for_zip3N (K:=K) (a:=c) (b:=p) (c:=z) (xs:=xs) (ys:=ys) (zs:=zs) (fun j σ H'=>∃ v4 v5 v6,σ=[some (.ref w),some (.ref c),some (.ref p),some (.ref z),v4,v5,v6,none,none]∧Same H H'∧∀ i,i < j→gdRow ws.length (heapP cs i) (ps.getD i (0,1)) (rss.getD i [])) ⟨_,_,_,rfl,fun _ _ h=>h,fun i hi=>by omega⟩ (by omega) (by omega) (fun i σ H' _ ⟨_,_,_,_,s,_⟩=>⟨SqL.of (s _ _ shc),SqL.of (s _ _ hp),SqL.of (s _ _ hz)⟩) ?_ ?_⟩
  ·rintro i x y v q σ H1 H2 NN BB hx hy hv hq s2 hq2 ⟨v4,v5,v6,rfl,s1,inv⟩ kN kB
   clear kB
   have hi:i < cs.length:=by rw[← hxl];exact (List.getElem?_eq_some_iff.mp hx).1
   have s12:=s1.trans s2
   obtain⟨v',ev,rc,pc,kc,rfl,e1,e2,e3⟩:=sh.hC.2 i cs[i] (List.getElem?_eq_getElem hi)
   rw[ev] at hx
   cases hx
   obtain⟨rp,er,hrp⟩:=hP.2 i ps[i] (List.getElem?_eq_getElem (by omega))
   rw[er] at hy
   cases hy
   obtain⟨l,as,el,hl,hA,h12⟩:=hZ.2 i rss[i] (List.getElem?_eq_getElem (by omega))
   rw[el] at hv
   cases hv
   have ep:ps.getD i (0,1)=ps[i]:=by simp[List.getD_eq_getElem?_getD,show i < ps.length by omega]
   have erw:rss.getD i []=rss[i]:=by simp[List.getD_eq_getElem?_getD,show i < rss.length by omega]
   have eh:heapP cs i=cs[i].hp:=heapP_at hi
   have f1:=s12 _ _ e1
   have f3:=s12 _ _ e3
   have fp:=s12 _ _ hrp
   have fl:=s12 _ _ hl
   have fA:=hA.ts (TS.of s12)
   have fw:=s12 _ _ shw
   refine⟨q,_,rfl,SqT.of hq2,rfl,_,_,rfl,_,_,rfl,_,_,rfl,rfl,?_⟩
   dsimp only
   k_extra "rx"
   refine⟨ws.length,kc,rp,l,cs[i].hp,ps[i],as,rss[i],k,U,by rw[wl],f3,fp,fl,fA,hU,hk,h12,fun b H3 s3 hb=>?_⟩
   have s13:=s12.trans s3
   refine⟨_,rfl,brkNB (fun h2=>?_) (fun h2=>?_)⟩
   ·k_extra "rx"
    refine hQ false H3 s13 ⟨(fun z=>nomatch z),fun zz=>?_⟩
    have:=zz.2.1 i hi
    rw[ep,erw,eh] at this
    rw[hb.mpr this] at h2
    cases h2
   ·refine i_tNext ?_
    refine kN _ _ ⟨_,_,_,rfl,s13,fun j hj=>?_⟩
    by_cases e:j < i
    ·exact inv j e
    ·rw[show j=i by omega,ep,erw,eh]
     exact hb.mp h2
  ·rintro σ H1 ⟨v4,v5,v6,rfl,s1,inv⟩
   have inv:∀ i,i < cs.length→gdRow ws.length (heapP cs i) (ps.getD i (0,1)) (rss.getD i []):=fun i hi=>inv i (by omega)
   have shw1:=s1 _ _ shw
   have hz1:=s1 _ _ hz
   have hZ1:=hZ.same s1
   have rw6:∀ i,i < rss.length→(rss.getD i []).length=ws.length:=fun i hi=>(inv i (by omega)).1
   refine⟨_,rfl,w,rfl,⟨_,SqL.of shw1⟩,for_enumN (K:=K) (a:=w) (xs:=ws.map V.int) (fun j σ H'=>∃ v7 v8,σ=[some (.ref w),some (.ref c),some (.ref p),some (.ref z),v4,v5,v6,v7,v8]∧Same H1 H'∧∀ f,f < j→¬ ws.getD f 0*(sumP (colP rss f)).2 < (sumP (colP rss f)).1*1) ⟨_,_,rfl,fun _ _ h=>h,fun f hf=>by omega⟩ (fun i σ H' _ ⟨_,_,_,s,_⟩=>SqL.of (s _ _ shw1)) ?_ ?_⟩
   ·rintro f y q σ H2 H3 NN BB hy hq s3 hq3 ⟨v7,v8,rfl,s2,inv2⟩ kN kB
    clear kB
    obtain⟨hf,rfl⟩:=int_at hy
    have s13:=s2.trans s3
    have hz3:=s13 _ _ hz1
    have hZ3:=hZ1.same s13
    have ew:ws.getD f 0=ws[f]:=by simp[List.getD_eq_getElem?_getD,hf]
    have wzf:=wz _ (List.getElem_mem hf)
    refine⟨q,_,rfl,SqT.of hq3,rfl,_,_,rfl,_,_,rfl,rfl,?_⟩
    dsimp only
    k_extra "rx"
    refine i_NewO (Nat.le_of_ble_eq_true rfl) fun t H4 _ s4 ht=>?_
    have hz4:=s4 _ _ hz3
    have hZ4:=hZ3.same s4
    k_extra "rx"
    refine⟨_,rfl,z,rfl,⟨_,SqL.of hz4⟩,fun l hl=>?_⟩
    refine comp_listR (K:=K) (a:=z) (xs:=zs) (fun i acc H5=>Same H4 H5∧H5 l=some (.lst acc)∧RowU U k H5 acc (colP (rss.take i) f)) ⟨Same.new hl,upd_same,RowU.nil⟩ (fun i acc H5 _ ⟨s5,_,_⟩=>SqL.of (s5 _ _ hz4)) ?_ ?_
    ·rintro i y acc H5 hy ⟨s5,hl5,hA⟩
     have hi:i < rss.length:=by rw[← hzl];exact (List.getElem?_eq_some_iff.mp hy).1
     obtain⟨l',as,el,hl',hA',h12⟩:=hZ4.2 i rss[i] (List.getElem?_eq_getElem hi)
     rw[el] at hy
     cases hy
     have erw:rss.getD i []=rss[i]:=by simp[List.getD_eq_getElem?_getD,hi]
     have rli:rss[i].length=ws.length:=by rw[← erw];exact rw6 i hi
     have hf2:f < rss[i].length:=by omega
     obtain⟨rp,er,hrp,po⟩:=hA'.2 f rss[i][f] (List.getElem?_eq_getElem hf2)
     have a1:atI as (f:Int)=some (.ref rp):=atI_nat er
     have ec:colP (rss.take (i+1)) f=colP (rss.take i) f++[rss[i][f]]:=by
      unfold colP
      rw[take_map_succ _ hi]
      simp[List.getD_eq_getElem?_getD,hf2]
     rw[ec]
     have len:acc.length≤16:=by
      rw[hA.1]
      unfold colP
      rw[List.length_map,List.length_take]
      omega
     have k1:=s5 _ _ hl'
     have k2:=s5 _ _ hrp
     generalize rss[i][f]=P0 at k2 po ⊢
     generalize colP (rss.take i) f=A' at hA ⊢
     clear hrp er hl' hA' el ec
     simp only[gName_ap,tYes,if_true]
     k_extra "rx"
     have np:rp≠l:=fun zz=>by rw[zz,hl5] at k2;cases k2
     exact⟨hl5,small1000 (by omega),same_put hl s5,upd_same,(hA.ts (TS.lst hl5)).snoc (by rw[upd_ne np];exact k2) po⟩
    ·rintro acc H5 ⟨s5,hl5,hA⟩
     rw[hzl,List.take_length] at hA
     have cl:(colP rss f).length≤16:=by unfold colP;rw[List.length_map];omega
     refine⟨l,acc,_,U,k,rfl,hl5,hU,hA,hk,cl,fun q2 H6 s6 hq6=>?_⟩
     have sp:=sum_pt hU.pos hA.mem
     have s46:=s5.trans s6
     k_extra "rx"
     refine⟨t,q2,_,_,_,_,rfl,s46 _ _ ht,hq6,wzf.mono (by decide),by decide,(sp.nsz hU.pos).mono (by omega),(sp.toOk.usz hU).mono (by decide),?_⟩
     have s16:=(s13.trans s4).trans s46
     refine⟨_,rfl,brkD (fun h2=>?_) (fun h2=>?_)⟩
     ·k_extra "rx"
      refine hQ false H6 (s1.trans s16) ⟨(fun z=>nomatch z),fun zz=>?_⟩
      have:=zz.2.2 f hf
      rw[ew] at this
      exact absurd h2 this
     ·refine i_tNext ?_
      refine kN _ _ ⟨_,_,rfl,s16,fun g hg=>?_⟩
      by_cases e:g < f
      ·exact inv2 g e
      ·rw[show g=f by omega,ew]
       exact h2
   ·rintro σ H2 ⟨v7,v8,rfl,s2,inv2⟩
    rw[wl] at inv2
    k_extra "rx"
    exact hQ true H2 (s1.trans s2) ⟨fun _=>⟨rl,inv,inv2⟩,fun _=>rfl⟩
theorem ok__law_load(D:DefAt K mg "_law_load" s__law_load f fd)(T:Txt K mg cx)(d__law_sum:DefOk P w K mg base CX0 4 "_law_sum" ["_law_row_here"] sp__law_sum)(d__law_lies:DefOk P w K mg base CX0 1 "_law_lies" ["_law_touched","_law_heap_here"] sp__law_lies):DefOk P w K mg base CX0 5 "_law_load" ["_law_claims_here","_law_parts","_law_heap_here"] sp__law_load:=by
 refine D.ok (D.q sc__law_load (fun vs H Q E h=>?_) (fun cdv A outer s H vs Q E hr h=>?_)) (D.fn.binds fun _ _ _ _ _ _ us hl=>match us,hl with | [_,_,_],_=>rfl)
 ·obtain⟨_,_,_,_,_,_,_,_,_,_,rfl,_⟩:=h
  rfl
 obtain⟨c,p,h,U,k,xs,cs,ys,ps,hs,rfl,xc,hC,h6,c16,xp,hU,hk,hR0,plen,hh,hQ⟩:=h
 refine⟨_,(qss_one (qs_ret (qe_g d__law_sum (qa_1 (qe_cp ["_law_at"] [("_law_parts", 1),("_law_claims_here", 0),("_law_heap_here", 2)] (qi_range1 (by rfl) T.n_range (qa_1 (qe_callB call_lenF (by rfl) T.n_len bt_len (qa_1 (qv 0))))) (gext_name (by decide)) (fun _ _ _ _ _=>⟨(qg_name (i:=0) (show (["_law_at","_law_parts","_law_claims_here","_law_heap_here"]:List Str).Nodup by decide +kernel) rfl (Or.inl rfl)),(qf_one (qt_val (qe_g d__law_lies (qa_2 (qe_iS (qe_iS (qv 2) (qv 0)) qe_int) (qv 3))))),(qe_iS (qv 1) (qv 0))⟩)))))),?_⟩
 have hxl:xs.length=cs.length:=hC.1
 refine⟨_,rfl,c,_,rfl,seqAt_lst xc,_,rfl,by omega,by omega,fun l hl=>?_⟩
 refine comp_rangeR (k:=((xs.length:Nat):Int).toNat) (fun a acc H2=>Same H H2∧H2 l=some (.lst acc)∧RowU U k H2 acc (((List.range a).filter (inn cs hs)).map fun i=>ps.getD i (0,1))) ⟨Same.new hl,upd_same,RowU.nil⟩ ?_ ?_
 ·rintro i acc H2 hi0 ⟨s2,hl2,hR⟩
  have hi:i < cs.length:=by omega
  have hi2:i < ps.length:=by omega
  rw[filt_succ (inn cs hs) (fun i=>ps.getD i (0,1))]
  have len:acc.length≤16:=by
   rw[hR.1,List.length_map]
   refine Nat.le_trans (List.length_filter_le _ _) ?_
   rw[List.length_range]
   omega
  generalize (((List.range i).filter (inn cs hs)).map fun i=>ps.getD i (0,1))=A' at hR ⊢
  obtain⟨v,ev,rc,pc,kc,rfl,e1,e2,e3⟩:=hC.2 i cs[i] (List.getElem?_eq_getElem hi)
  obtain⟨r,er,hr,po⟩:=hR0.2 i ps[i] (List.getElem?_eq_getElem hi2)
  have a1:atI xs (0+(i:Int))=some (.ref rc):=by rw[Int.zero_add];exact atI_nat ev
  have a2:atI ys (0+(i:Int))=some (.ref r):=by rw[Int.zero_add];exact atI_nat er
  have ein:inn cs hs i=lies cs[i].hp hs:=by unfold inn;rw[heapP_at hi]
  have h6c:=h6 _ (List.getElem_mem hi)
  have ep:ps.getD i (0,1)=ps[i]:=by simp[List.getD_eq_getElem?_getD,hi2]
  rw[ein,ep]
  have g1:=s2 _ _ e1
  have g3:=s2 _ _ e3
  have gr:=s2 _ _ hr
  have gh:=s2 _ _ hh
  have gc:=s2 _ _ xc
  have gp:=s2 _ _ xp
  generalize cs[i]=C at h6c g1 g3 ⊢
  generalize ps[i]=P at gr po ⊢
  clear e1 e2 e3 ev ein hQ hr er ep
  simp only[gName_ap]
  k_extra "rx"
  refine⟨kc,h,C.hp,hs,rfl,g3,gh,h6c,fun H3 s3=>?_⟩
  have kr:=s3 _ _ gr
  have kp:=s3 _ _ gp
  have kl:=s3 _ _ hl2
  have kR:=hR.ts (TS.of s3)
  have s23:=s2.trans s3
  clear g1 g3 gh gc gr gp hl2 hR s2 s3
  refine⟨_,rfl,i_ite (fun h1=>?_) (fun h1=>?_)⟩
  ·rw[if_pos h1]
   have nl:r≠l:=fun z=>by rw[z,kl] at kr;cases kr
   k_extra "rx"
   exact⟨kl,small1000 (by omega),same_put hl s23,upd_same,(kR.ts (TS.lst kl)).snoc (by rw[upd_ne nl];exact kr) po⟩
  ·rw[if_neg (by rw[h1];exact Bool.false_ne_true),List.append_nil]
   exact⟨s23,kl,kR⟩
 ·rintro acc H2 ⟨s2,hl2,hR⟩
  rw[Int.toNat_natCast,hxl] at hR
  have len:(((List.range cs.length).filter (inn cs hs)).map fun i=>ps.getD i (0,1)).length≤16:=by
   rw[List.length_map]
   have h1:=List.length_filter_le (inn cs hs) (List.range cs.length)
   rw[List.length_range] at h1
   omega
  obtain⟨o1,o2⟩:=sum_ok hU.pos fun r hr=>(hR.mem r hr).toOk
  have z:=(sum_pt hU.pos hR.mem).mono (j:=k+16) (by omega)
  rw[List.map_map] at o2
  refine⟨l,acc,_,U,k,rfl,hl2,hU,hR,hk,len,fun r H3 s3 hr=>?_⟩
  exact hQ r _ H3 (s2.trans s3) hr z o2
theorem ok__law_over_its_worth(D:DefAt K mg "_law_over_its_worth" s__law_over_its_worth f fd)(T:Txt K mg cx)(d__law_below:DefOk P w K mg base CX0 1 "_law_below" ["_law_one","_law_other"] sp__law_below)(d__law_load:DefOk P w K mg base CX0 5 "_law_load" ["_law_claims_here","_law_parts","_law_heap_here"] sp__law_load)(d__law_worth:DefOk P w K mg base CX0 1 "_law_worth" ["_law_worths_here","_law_heap_here"] sp__law_worth):DefOk P w K mg base CX0 6 "_law_over_its_worth" ["_law_worths_here","_law_claims_here","_law_parts","_law_heap_here"] sp__law_over_its_worth:=by
 refine D.ok (D.q sc__law_over_its_worth (fun vs H Q E h=>?_) (fun cdv A outer s H vs Q E hr h=>?_)) (D.fn.binds fun _ _ _ _ _ _ us hl=>match us,hl with | [_,_,_,_],_=>rfl)
 ·obtain⟨_,_,_,_,_,_,_,_,_,_,_,rfl,_⟩:=h
  rfl
 obtain⟨w,c,p,h,M,ws,xs,cs,ys,ps,j,rfl,sh,hC,hp,hRU,hM,pl,oj,ht,hQ⟩:=h
 refine⟨_,(qss_one (qs_ret (qe_g d__law_below (qa_2 (qe_tup (qa_2 (qe_g d__law_worth (qa_2 (qv 0) (qv 3))) qe_int)) (qe_g d__law_load (qa_3 (qv 1) (qv 2) (qv 3))))))),?_⟩
 have c16:=hC.c16
 have w6:=hC.w6
 have h6:∀ c∈cs,c.hp.length≤6:=fun c hc=>(hC.due c hc).2.2
 k_extra "rx"
 refine⟨w,h,ws,Srt.sub j,rfl,sh.w,ht,sub_len j,sub_in ws.length w6 j oj,fun H3 s3=>?_⟩
 k_extra "rx"
 refine i_NewO (Nat.le_of_ble_eq_true rfl) fun t H4 _ s4 ht4=>?_
 have s34:=s3.trans s4
 have sh4:=sh.same s34
 k_extra "rx"
 refine⟨c,p,h,M,3700,xs,cs,ys,ps,Srt.sub j,rfl,sh4.c,sh4.hC,h6,c16,s34 _ _ hp,hM,by decide,hRU.ts (TS.of s34),pl,s34 _ _ ht,fun r d H5 s5 hr pd ed=>?_⟩
 rw[pay_filt rfl] at ed
 have wS:Sz (200+6) (worthOf ws (Srt.sub j)):=worth_sz hC.wz (sub_len j)
 k_extra "rx"
 refine⟨t,r,_,_,_,_,rfl,s5 _ _ ht4,hr,wS.mono (by decide),by decide,(pd.nsz hM.pos).mono (by decide),(pd.toOk.usz hM).mono (by decide),?_⟩
 have lt:=lt_num hM.pos (int_ok (U:=M) (w:=worthOf ws (Srt.sub j))) pd.toOk
 rw[num_int,ed] at lt
 rw[show decide (worthOf ws (Srt.sub j)*d.2 < d.1*1)=decide (worthOf ws (Srt.sub j)*M < payN M cs ps j) from decide_eq_decide.mpr lt]
 exact hQ H5 (s34.trans s5)
theorem ok__law_overdrawn(D:DefAt K mg "_law_overdrawn" s__law_overdrawn f fd)(T:Txt K mg cx)(d__law_heaps:DefOk P w K mg base CX0 1 "_law_heaps" ["_law_many_here"] sp__law_heaps)(d__law_over_its_worth:DefOk P w K mg base CX0 6 "_law_over_its_worth" ["_law_worths_here","_law_claims_here","_law_parts","_law_heap_here"] sp__law_over_its_worth):DefOk P w K mg base CX0 7 "_law_overdrawn" ["_law_worths_here","_law_claims_here","_law_parts"] sp__law_overdrawn:=by
 refine D.ok (D.q sc__law_overdrawn (fun vs H Q E h=>?_) (fun cdv A outer s H vs Q E hr h=>?_)) (D.fn.binds fun _ _ _ _ _ _ us hl=>match us,hl with | [_,_,_],_=>rfl)
 ·obtain⟨_,_,_,_,_,_,_,_,_,rfl,_⟩:=h
  rfl
 obtain⟨w,c,p,M,ws,xs,cs,ys,ps,rfl,sh,hC,hp,hRU,hM,pl,hQ⟩:=h
 refine⟨_,(qss_cons (qs_for PassesOwn.never rfl (qi_listK (K:=K) rfl (qe_g d__law_heaps (qa_1 (qe_callB call_lenF (by rfl) T.n_len bt_len (qa_1 (qv 0)))))) (qg_name (i:=3) sc__law_overdrawn.nd rfl (Or.inl rfl)) (qss_one (qs_if (qt_val (qe_g d__law_over_its_worth (qa_cons (qv 0) (qa_cons (qv 1) (qa_cons (qv 2) (qa_cons (qv 3) qa_nil)))))) (qss_one (qs_ret qe_bl)) qss_nil)))
   (qss_one (qs_ret qe_bl))),?_⟩
 have w6:=hC.w6
 have wl:(ws.map V.int).length=ws.length:=List.length_map _
 k_extra "rx"
 refine⟨_,rfl,w,_,rfl,seqAt_lst sh.w,ws.length,by rw[wl],w6,fun E0 es H1 s1 nE hE hO=>?_⟩
 have el:es.length=2 ^ ws.length:=hO.1
 refine⟨E0,rfl,⟨_,SqL.of hE⟩,for_listN (K:=K) (a:=E0) (xs:=es) (fun j σ H'=>∃ v3,σ=[some (.ref w),some (.ref c),some (.ref p),v3]∧Same H1 H'∧∀ i,i < j→¬ worthOf ws (Srt.sub i)*M < payN M cs ps i) ⟨_,rfl,fun _ _ h=>h,fun i hi=>by omega⟩ (fun j σ H' _ ⟨_,_,s,_⟩=>SqL.of (s _ _ hE)) ?_ ?_⟩
 ·rintro j y σ H2 NN BB hy ⟨v3,rfl,s2,inv⟩ kN kB
  clear kB
  have oj:j < 2 ^ ws.length:=by rw[← el];exact (List.getElem?_eq_some_iff.mp hy).1
  obtain⟨t,et,ht⟩:=hO.2 j oj
  rw[et] at hy
  cases hy
  have s12:=s1.trans s2
  refine i_gName ?_
  k_extra "rx"
  refine⟨w,c,p,t,M,ws,xs,cs,ys,ps,j,rfl,sh.same s12,hC,s12 _ _ hp,hRU.ts (TS.of s12),hM,pl,oj,s2 _ _ ht,fun H3 s3=>?_⟩
  refine⟨_,rfl,brkD (fun h1=>?_) (fun h1=>?_)⟩
  ·k_extra "rx"
   exact hQ true H3 (s12.trans s3) ⟨fun _=>⟨j,oj,h1⟩,fun _=>rfl⟩
  ·refine i_tNext ?_
   refine kN _ _ ⟨_,rfl,s2.trans s3,fun i hi=>?_⟩
   by_cases e:i < j
   ·exact inv i e
   ·rw[show i=j by omega]
    exact h1
 ·rintro σ H2 ⟨v3,rfl,s2,inv⟩
  rw[el] at inv
  k_extra "rx"
  exact hQ false H2 (s1.trans s2) ⟨(fun z=>nomatch z),fun ⟨j,oj,z⟩=>absurd z (inv j oj)⟩
theorem ok__law_is_overdrawn(D:DefAt K mg "_law_is_overdrawn" s__law_is_overdrawn f fd)(T:Txt K mg cx)(d__law_over_its_worth:DefOk P w K mg base CX0 6 "_law_over_its_worth" ["_law_worths_here","_law_claims_here","_law_parts","_law_heap_here"] sp__law_over_its_worth)(d__law_heaps:DefOk P w K mg base CX0 1 "_law_heaps" ["_law_many_here"] sp__law_heaps):DefOk P w K mg base CX0 7 "_law_is_overdrawn" ["_law_worths_here","_law_claims_here","_law_parts","_law_heap_here"] sp__law_is_overdrawn:=by
 refine D.ok (D.q sc__law_is_overdrawn (fun vs H Q E h=>?_) (fun cdv A outer s H vs Q E hr h=>?_)) (D.fn.binds fun _ _ _ _ _ _ us hl=>match us,hl with | [_,_,_,_],_=>rfl)
 ·obtain⟨_,_,_,_,_,_,_,_,_,_,_,rfl,_⟩:=h
  rfl
 obtain⟨w,c,p,h,M,ws,xs,cs,ys,ps,j,rfl,sh,hC,hp,hRU,hM,pl,oj,ht,lt,hQ⟩:=h
 refine⟨_,(qss_cons (qs_if (qw_or (qt_not (qt_val (qe_callB call_isi (by rfl) T.n_isinstance bt_isinstance (qa_2 (qv 3) (qe_bltn (v:=.ty "tuple") (by rfl) T.n_tuple bt_tuple rfl))))) (qw_or1 (qt_cmpR (op_notInT hr.units) (qv 3) (qe_g d__law_heaps (qa_1 (qe_callB call_lenF (by rfl) T.n_len bt_len (qa_1 (qv 0))))) (by rfl)))).pt (qss_one (qs_ret qe_bl)) qss_nil)
   (qss_one (qs_ret (qe_g d__law_over_its_worth (qa_cons (qv 0) (qa_cons (qv 1) (qa_cons (qv 2) (qa_cons (qv 3) qa_nil)))))))),?_⟩
 have w6:=hC.w6
 have wl:(ws.map V.int).length=ws.length:=List.length_map _
 have shw:=sh.w
 k_extra "rx"
 refine⟨_,_,_,rfl,by decide,ty_tup ht,?_⟩
 refine⟨_,rfl,i_brkF ?_⟩
 k_extra "rx"
 refine⟨ws.length,by rw[wl],w6,fun F es H1 s1 nF hF hS=>?_⟩
 obtain⟨fn,ex,hfn⟩:=subs_fn hS
 rw[ex] at hF
 have ht1:=s1 _ _ ht
 k_extra "rx"
 refine⟨h,F,Srt.sub j,List.range (2 ^ ws.length),fn,Srt.sub,rfl,rfl,ht1,hF,fun i hi=>hfn i (List.mem_range.mp hi),?_⟩
 rw[show (List.range (2 ^ ws.length)).any (fun i=>decide (Srt.sub i=Srt.sub j))=true from List.any_eq_true.mpr ⟨j,List.mem_range.mpr oj,decide_eq_true rfl⟩]
 refine⟨_,rfl,i_brkF ?_⟩
 refine i_tNext ?_
 k_extra "rx"
 refine⟨w,c,p,h,M,ws,xs,cs,ys,ps,j,rfl,sh.same s1,hC,s1 _ _ hp,hRU.ts (TS.of s1),hM,pl,oj,ht1,fun H2 s2=>?_⟩
 rw[decide_eq_true lt]
 exact hQ H2 (s1.trans s2)
theorem ok__law_told(D:DefAt K mg "_law_told" s__law_told f fd)(T:Txt K mg cx)(d_table:DefOk P w K mg base (CXD P w) 5 "table" ["worths","claims","parts"] (sp_table K cx)):DefOk P w K mg base CX0 6 "_law_told" ["_law_worths_here","_law_claims_here","_law_parts"] sp__law_told:=by
 have O_Overdrawn:=ox_Overdrawn (P:=P) (w:=w) (base:=base) T.x_Overdrawn
 refine D.ok (D.q sc__law_told (fun vs H Q E h=>?_) (fun cdv A outer s H vs Q E hr h=>?_)) (D.fn.binds fun _ _ _ _ _ _ us hl=>match us,hl with | [_,_,_],_=>rfl)
 ·obtain⟨_,_,_,_,_,_,_,_,_,rfl,_⟩:=h
  rfl
 obtain⟨w,c,p,M,ws,xs,cs,ys,ps,rfl,sh,hC,hp,hRU,hM,pl,w0,p0,hb,hQ,hN⟩:=h
 refine⟨_,(qss_cons (qs_sL 3 sc__law_told.nd qe_non)
   (qss_cons (qs_sL 4 sc__law_told.nd qe_non)
   (qss_cons (qs_tryX 5 O_Overdrawn sc__law_told.nd (fun pn EX=>(qss_one (qs_sL 3 sc__law_told.nd (qe_dXD d_table hr.le passXD (by rfl) (qa_3 (qv 0) (qv 1) (qv 2)))))) (fun fI OX ea dx pn hd=>(qss_one (qs_sL 4 sc__law_told.nd (qe_xat (i:=5) OX hd)))))
   (qss_one (qs_ret (qe_tup (qa_2 (qv 3) (qv 4)))))))),?_⟩
 have okM:∀ i,i < cs.length→Ok M (ps.getD i (0,1)):=fun i hi=>by
  have h2:i < ps.length:=by omega
  have e:ps.getD i (0,1)=ps[i]:=by simp[List.getD_eq_getElem?_getD,h2]
  rw[e]
  exact (hRU.mem _ (List.getElem_mem h2)).toOk
 k_extra "rx"
 refine i_tryX ?_
 k_extra "rx"
 unfold tCallXD
 k_extra "rx"
 refine⟨w,c,p,ws,xs,cs,ys,ps,M,3700,rfl,sh,hp,hM,hRU,by decide,pl,hC.c16,hC.w6,fun x hx=>⟨w0 x hx,hC.wz x hx⟩,fun i hi=>⟨by rw[heapP_at hi];exact (hC.due _ (List.getElem_mem hi)).2.2,(hb i hi).2⟩,p0,fun V hV okV j hj lt t dx H' s' o=>⟨rfl,dx,rfl,fun ea=>?_⟩,fun i hi=>(hb i hi).1,fun Z zs rss V H1 s1 nZ hZ hR hV gd nw no okV=>?_⟩
 ·refine⟨rfl,_,_,o.2,rfl,?_⟩
  show tRet (tTup (tCons (tVar 3) (tCons (tVar 4) tNil))) { nx:=fun _ H'=>Q .non H',rt:=Q } [some (.ref w),some (.ref c),some (.ref p),some .non,some (.ref t),none] H'
  k_extra "rx"
  refine i_NewO (Nat.le_of_ble_eq_true rfl) fun T H2 hT s2 hT'=>?_
  exact hN T t j H2 (s'.trans s2) hj (over_any hV hM.pos okV okM lt) (s2 _ _ o.1) hT'
 ·k_extra "rx"
  refine i_NewO (Nat.le_of_ble_eq_true rfl) fun T H2 hT s2 hT'=>?_
  exact hQ T Z zs rss V H2 (s1.trans s2) nZ (s2 _ _ hZ) (hR.same s2) hV gd nw (fun j z=>no j (over_any hM.pos hV.pos okM okV z)) hT'
theorem ok__law_row(D:DefAt K mg "_law_row" s__law_row f fd)(T:Txt K mg cx)(d__law_pull:DefOk P w K mg base CX0 1 "_law_pull" ["_law_bag_here","_law_many_here"] sp__law_pull)(d__law_times:DefOk P w K mg base CX0 3 "_law_times" ["_law_one","_law_other"] sp__law_times):DefOk P w K mg base CX0 4 "_law_row" ["_law_bag_here","_law_claims_here"] sp__law_row:=by
 refine D.ok (D.q sc__law_row (fun vs H Q E h=>?_) (fun cdv A outer s H vs Q E hr h=>?_)) (D.fn.binds fun _ _ _ _ _ _ us hl=>match us,hl with | [_,_],_=>rfl)
 ·obtain⟨_,_,_,_,_,rfl,_⟩:=h
  rfl
 obtain⟨B,L,C,xs,cs,rfl,b,CB,hc,hC,c16,hd,hQ⟩:=h
 refine⟨_,(qss_cons (qs_set (i:=2) sc__law_row.nd rfl (Or.inr rfl) (qe_op op_add qe_int (qe_g d__law_pull (qa_2 (qv 0) qe_int))))
   (qss_one (qs_ret (qe_cp ["_law_claim"] [("_law_bag_here", 0),("_law_base", 2)] (qi_listK (K:=K) rfl (qv 1)) (gext_name (by decide)) (fun _ _ _ _ _=>⟨(qg_name (i:=0) (show (["_law_claim","_law_bag_here","_law_base"]:List Str).Nodup by decide +kernel) rfl (Or.inl rfl)),qf_nil,(qe_g d__law_times (qa_2 (qe_iS (qv 0) qe_int) (qe_tup (qa_2 (qe_g d__law_pull (qa_2 (qv 1) (qe_op op_add (qv 2) qe_int))) (qv 2)))))⟩))))),?_⟩
 k_extra "rx"
 refine⟨B,_,L,rfl,b,by decide,by decide,fun d H1 d0 d1 b1 f1=>?_⟩
 have hc1:=f1 _ _ CB hc
 have hC1:=hC.ts (TS.fr b f1)
 have hxl:=hC.1
 obtain⟨cc,hcc⟩:∃ cc:Int,(1+d)*cc=27720:=by
  have:d=0∨d=1∨d=2∨d=3∨d=4∨d=5∨d=6∨d=7∨d=8∨d=9∨d=10∨d=11:=by omega
  rcases this with rfl | rfl | rfl | rfl | rfl | rfl | rfl | rfl | rfl | rfl | rfl | rfl
  ·exact⟨27720,rfl⟩
  ·exact⟨13860,rfl⟩
  ·exact⟨9240,rfl⟩
  ·exact⟨6930,rfl⟩
  ·exact⟨5544,rfl⟩
  ·exact⟨4620,rfl⟩
  ·exact⟨3960,rfl⟩
  ·exact⟨3465,rfl⟩
  ·exact⟨3080,rfl⟩
  ·exact⟨2772,rfl⟩
  ·exact⟨2520,rfl⟩
  ·exact⟨2310,rfl⟩
 k_extra "rx"
 refine⟨_,rfl,C,rfl,⟨_,SqL.of hc1⟩,fun F hF=>?_⟩
 have FB:=b1.ne hF
 have FL:=b1.neL hF
 have FC:F≠C:=fun z=>by rw[z,hc1] at hF;cases hF
 have F0:H F=none:=fr_none f1 FB hF
 refine comp_listR (K:=K) (a:=C) (xs:=xs) (fun j acc H2=>∃ ps,BagAt H2 B L∧Fr1 B H H2∧H2 C=some (.lst xs)∧ClsAt H2 xs cs∧H2 F=some (.lst acc)∧RowU U9 140 H2 acc ps∧ps.length=j∧∀ p∈ps,0≤p.1) ⟨[],b1.new hF,f1.trans (Fr1.new hF),by rw[upd_ne FC.symm];exact hc1,hC1.ts (TS.of (Same.new hF)),upd_same,RowU.nil,rfl,fun p h=>by cases h⟩ (fun j acc H2 _ ⟨_,_,_,h,_⟩=>SqL.of h) ?_ ?_
 ·rintro j y acc H2 hy ⟨ps,b2,f2,c2,hC2,hF2,hR2,pl,p0⟩
  have hj:j < cs.length:=by rw[← hxl];exact (List.getElem?_eq_some_iff.mp hy).1
  obtain⟨v,ev,rc,pc,kc,rfl,e1,e2,e3⟩:=hC2.2 j cs[j] (List.getElem?_eq_getElem hj)
  rw[ev] at hy
  cases hy
  have du:=hd _ (List.getElem_mem hj)
  have al:acc.length=j:=by rw[hR2.1,pl]
  generalize cs[j]=C0 at e1 e2 e3 du
  simp only[gName_ap,tYes,if_true]
  k_extra "rx"
  refine⟨B,_,L,rfl,b2,by omega,Sz.mono (j:=6) (Sz.of (by omega)) (by decide),fun k H3 k0 k1 b3 f3=>?_⟩
  have t3:=TS.fr b2 f3
  have e3':=t3 _ _ e2
  k_extra "rx"
  refine i_NewO (Nat.le_of_ble_eq_true rfl) fun q H4 hq s4 hq4=>?_
  have b4:=b3.keep s4
  have f4:=(f2.trans f3).trans (Fr1.of s4)
  have t4:=t3.trans (TS.of s4)
  have e4:=s4 _ _ e3'
  have c4:=s4 _ _ (f3 _ _ CB c2)
  have F4:=s4 _ _ (f3 _ _ FB hF2)
  have C4:=hC2.ts t4
  have R4:=hR2.ts t4
  clear t3 t4 e3' s4 f3 b3 b2 f2 c2 hC2 hF2 hR2 e1 e2 e3 hq
  k_extra "rx"
  have pt:=times_u9 (a:=k) (b:=1+d) (c:=cc) du.pt (by decide) (by omega) hcc (by omega)
  refine⟨pc,q,_,_,_,_,rfl,e4,hq4,du.pt.pos,by omega,(du.pt.nsz um_ok.pos).mono (by decide),(du.pt.toOk.usz um_ok).mono (by decide),Sz.mono (j:=5) (Sz.of (by omega)) (by decide),Sz.mono (j:=5) (Sz.of (by omega)) (by decide),fun r hr=>?_⟩
  have s5:=Same.new (o:=.tup [.int (lowN (C0.n*k) (C0.u*(1+d))),.int (lowU (C0.n*k) (C0.u*(1+d)))]) hr
  have r5:upd H4 r (.tup [.int (lowN (C0.n*k) (C0.u*(1+d))),.int (lowU (C0.n*k) (C0.u*(1+d)))]) r=_:=upd_same
  generalize upd H4 r (.tup [.int (lowN (C0.n*k) (C0.u*(1+d))),.int (lowU (C0.n*k) (C0.u*(1+d)))])=H5 at s5 r5 ⊢
  have F5:=s5 _ _ F4
  have ts:Toy.TS H5 (upd H5 F (.lst (acc++[.ref r]))):=TS.lst F5
  refine⟨F5,small1000 (by omega),ps++[(lowN (C0.n*k) (C0.u*(1+d)),lowU (C0.n*k) (C0.u*(1+d)))],(b4.keep s5).put FB FL,fr_new (f4.trans (Fr1.of s5)) Fr1.upd F0,by rw[upd_ne FC.symm];exact s5 _ _ c4,(C4.ts (TS.of s5)).ts ts,upd_same,((R4.ts (TS.of s5)).ts ts).snoc (ts _ _ r5) pt,by rw[List.length_append,pl];rfl,fun z hz=>?_⟩
  rcases List.mem_append.mp hz with hz | hz
  ·exact p0 z hz
  ·rw[List.mem_singleton.mp hz]
   exact Int.ediv_nonneg (Int.mul_nonneg du.nn k0) (Int.natCast_nonneg _)
 ·rintro acc H2 ⟨ps,b2,f2,c2,hC2,hF2,hR2,pl,p0⟩
  exact hQ F acc ps H2 F0 b2 f2 hF2 hR2 (by rw[pl,hxl]) p0
theorem ok__law_asked(D:DefAt K mg "_law_asked" s__law_asked f fd)(T:Txt K mg cx)(d__law_told:DefOk P w K mg base CX0 6 "_law_told" ["_law_worths_here","_law_claims_here","_law_parts"] sp__law_told)(d__law_overdrawn:DefOk P w K mg base CX0 7 "_law_overdrawn" ["_law_worths_here","_law_claims_here","_law_parts"] sp__law_overdrawn)(d__law_good_table:DefOk P w K mg base CX0 6 "_law_good_table" ["_law_worths_here","_law_claims_here","_law_parts","_law_rows"] sp__law_good_table)(d__law_truth:DefOk P w K mg base CX0 1 "_law_truth" ["_law_found","_law_due_here"] sp__law_truth)(d__law_is_overdrawn:DefOk P w K mg base CX0 7 "_law_is_overdrawn" ["_law_worths_here","_law_claims_here","_law_parts","_law_heap_here"] sp__law_is_overdrawn)(d_good_table:DefOk P w K mg base CX0 5 "good_table" ["worths","claims","parts","rows"] sp_good_table):DefOk P w K mg base CX0 8 "_law_asked" ["_law_worths_here","_law_claims_here","_law_parts"] sp__law_asked:=by
 refine D.ok (D.q sc__law_asked (fun vs H Q E h=>?_) (fun cdv A outer s H vs Q E hr h=>?_)) (D.fn.binds fun _ _ _ _ _ _ us hl=>match us,hl with | [_,_,_],_=>rfl)
 ·obtain⟨_,_,_,_,_,_,_,_,_,rfl,_⟩:=h
  rfl
 obtain⟨w,c,p,M,ws,xs,cs,ys,ps,rfl,sh,hC,hp,hRU,hM,pl,w0,p0,hb,hQ⟩:=h
 refine⟨_,(qss_cons (qs_sL 3 sc__law_asked.nd (qe_tup (qa_3 (qe_callTy call_listF (by rfl) T.n_list bt_list (qa_1 (qv 0))) (qe_callTy call_listF (by rfl) T.n_list bt_list (qa_1 (qv 1))) (qe_callTy call_listF (by rfl) T.n_list bt_list (qa_1 (qv 2))))))
   (qss_cons (qs_asg (qe_g d__law_told (qa_3 (qe_iS (qv 3) qe_int) (qe_iS (qv 3) qe_int) (qe_iS (qv 3) qe_int))) (qg_tupK (K:=K) (n:=2) rfl rfl (qgs_cons (qg_name (i:=4) sc__law_asked.nd rfl (Or.inl rfl)) (qgs_cons (qg_name (i:=5) sc__law_asked.nd rfl (Or.inl rfl)) qgs_nil))))
   (qss_cons (qs_if (qt_cmpR (op_neD hr.units) (qv 3) (qe_tup (qa_3 (qv 0) (qv 1) (qv 2))) (nomark _)) (qss_one (qs_ret qe_bl)) qss_nil)
   (qss_cons (qs_if (qt_val (qe_g d__law_overdrawn (qa_3 (qv 0) (qv 1) (qv 2)))) (qss_one (qs_ret (qe_and (qe_isN ((qv 4))) (qe_one (qe_g d__law_is_overdrawn (qa_cons (qv 0) (qa_cons (qv 1) (qa_cons (qv 2) (qa_cons (qv 5) qa_nil))))))))) qss_nil)
   (qss_cons (qs_if (qt_not (qt_val (qe_g d__law_good_table (qa_cons (qv 0) (qa_cons (qv 1) (qa_cons (qv 2) (qa_cons (qv 4) qa_nil))))))) (qss_one (qs_ret qe_bl)) qss_nil)
   (qss_cons (qs_if (qt_not (qt_val (qe_g d__law_truth (qa_2 (qe_g d_good_table (qa_cons (qv 0) (qa_cons (qv 1) (qa_cons (qv 2) (qa_cons (qv 4) qa_nil))))) qe_bl)))) (qss_one (qs_ret qe_bl)) qss_nil)
   (qss_cons (qs_for PassesOwn.never rfl (qi_listK (K:=K) rfl (qv 4)) (qg_name (i:=6) sc__law_asked.nd rfl (Or.inl rfl)) (qss_one (qs_expr (qe_bmK (K:=K) rfl PySem.F.plainAttrs_list PySem.F.slot_list_append PySem.F.type_list_append mt_append (qv 6) (qa_1 (qe_tup (qa_2 qe_int qe_int)))))))
   (qss_cons (qs_expr (qe_bmK (K:=K) rfl PySem.F.plainAttrs_list PySem.F.slot_list_append PySem.F.type_list_append mt_append (qv 4) (qa_1 (qe_lst qa_nil))))
   (qss_one (qs_ret qe_bl)))))))))),?_⟩
 have shw:=sh.w
 have shc:=sh.c
 k_extra "rx"
 refine⟨w,_,rfl,seqAt_lst shw,fun l1 hl1=>?_⟩
 have t1:=Same.new (o:=.lst (ws.map V.int)) hl1
 have f1:upd H l1 (.lst (ws.map V.int)) l1=_:=upd_same
 generalize upd H l1 (.lst (ws.map V.int))=H1 at t1 f1 ⊢
 have shc1:=t1 _ _ shc
 k_extra "rx"
 refine⟨c,_,rfl,seqAt_lst shc1,fun l2 hl2=>?_⟩
 have t2:=Same.new (o:=.lst xs) hl2
 have f2:upd H1 l2 (.lst xs) l2=_:=upd_same
 generalize upd H1 l2 (.lst xs)=H2 at t2 f2 ⊢
 have hp2:=(t1.trans t2) _ _ hp
 k_extra "rx"
 refine⟨p,_,rfl,seqAt_lst hp2,fun l3 hl3=>?_⟩
 have t3:=Same.new (o:=.lst ys) hl3
 have f3:upd H2 l3 (.lst ys) l3=_:=upd_same
 generalize upd H2 l3 (.lst ys)=H3 at t3 f3 ⊢
 k_extra "rx"
 refine i_NewO (Nat.le_of_ble_eq_true rfl) fun T H4 hT t4 f4=>?_
 have g1:=t4 _ _ (t3 _ _ (t2 _ _ f1))
 have g2:=t4 _ _ (t3 _ _ f2)
 have g3:=t4 _ _ f3
 have tt:=((t1.trans t2).trans t3).trans t4
 have x4:=sh.same tt
 have y4:ShIn l1 l2 ws xs cs H4:=⟨g1,g2,x4.hC⟩
 have R4:=hRU.ts (TS.of tt)
 have p4:=tt _ _ hp
 clear t1 t2 t3 t4 f1 f2 f3 hl1 hl2 hl3 hT shc1 hp2 sh hp shw shc hRU
 refine i_gName ?_
 k_extra "rx"
 refine⟨l1,l2,l3,M,ws,xs,cs,ys,ps,rfl,y4,hC,g3,R4,hM,pl,w0,p0,hb,fun T2 Z zs rss V H5 s5 nZ hZ hR hV gd nw no hT2=>?_,fun T2 t j H5 s5 hj lt ht hT2=>?_⟩
 ·have x5:=x4.same s5
  have R5:=R4.ts (TS.of s5)
  have p5:=s5 _ _ p4
  k_extra "rx"
  refine⟨T2,_,rfl,SqT.of hT2,rfl,_,_,rfl,_,_,rfl,rfl,?_⟩
  dsimp only
  k_extra "rx"
  refine i_NewO (Nat.le_of_ble_eq_true rfl) fun T3 H6 hT3 s6 hT3'=>?_
  have d1:Den H6 (rsD ws cs ps) (.ref T):=den_tup (s6 _ _ (s5 _ _ f4)) (dens1 (den_lst (s6 _ _ (s5 _ _ g1)) (ints_dens ws)) (dens1 (den_lst (s6 _ _ (s5 _ _ g2)) (x5.same s6).hC.dens) (dens1 (den_lst (s6 _ _ (s5 _ _ g3)) (R5.ts (TS.of s6)).dens) dens0)))
  have d2:Den H6 (rsD ws cs ps) (.ref T3):=den_tup hT3' (dens1 (den_lst (x5.same s6).w (ints_dens ws)) (dens1 (den_lst (x5.same s6).c (x5.same s6).hC.dens) (dens1 (den_lst (s6 _ _ p5) (R5.ts (TS.of s6)).dens) dens0)))
  refine⟨_,_,d1,d2,cmp_rs,?_⟩
  refine⟨_,rfl,brk (fun z=>absurd z (by simp)) (fun _=>?_)⟩
  have x6:=x5.same s6
  have R6:=R5.ts (TS.of s6)
  have p6:=s6 _ _ p5
  have s06:=(tt.trans s5).trans s6
  have hZ6:=s6 _ _ hZ
  have hR6:=hR.same s6
  have nZ0:=none_back tt nZ
  have nw0:=fun l hl=>none_back tt (nw l hl)
  clear d1 d2 hT3' hT3 x5 R5 p5 hZ hR s6 hT2 s5 nZ nw x4 y4 R4 p4 f4 g1 g2 g3 tt
  refine i_tNext ?_
  k_extra "rx"
  refine⟨w,c,p,M,ws,xs,cs,ys,ps,rfl,x6,hC,p6,R6,hM,pl,fun b H7 s7 hb7=>?_⟩
  cases b with
  | true =>
   obtain⟨j,_,z⟩:=hb7.mp rfl
   exact absurd z (no j)
  | false =>
   refine⟨_,rfl,i_brkF ?_⟩
   have x7:=x6.same s7
   have R7:=R6.ts (TS.of s7)
   have p7:=s7 _ _ p6
   have s07:=s06.trans s7
   have hZ7:=s7 _ _ hZ6
   have hR7:=hR6.same s7
   clear x6 R6 p6 hZ6 hR6 s7 s06
   refine i_tNext ?_
   k_extra "rx"
   refine⟨w,c,p,Z,ws,xs,cs,ys,ps,zs,rss,4300,V,rfl,x7,p7,R7.toV,pl,hZ7,hR7,hV,by decide,hC.c16,hC.w6,fun x hx=>(hC.wz x hx).mono (by decide),fun b H8 s8 hb8=>?_⟩
   have eb:=hb8.mpr gd
   subst eb
   refine⟨_,rfl,i_brkF ?_⟩
   have x8:=x7.same s8
   have R8:=R7.ts (TS.of s8)
   have p8:=s8 _ _ p7
   have s08:=s07.trans s8
   have hZ8:=s8 _ _ hZ7
   have hR8:=hR7.same s8
   clear x7 R7 p7 hZ7 hR7 s8 s07 hb8
   refine i_tNext ?_
   k_extra "rx"
   refine⟨w,c,p,Z,ws,xs,cs,ys,ps,zs,rss,4300,V,rfl,x8,p8,R8.toV,pl,hZ8,hR8,hV,by decide,hC.c16,hC.w6,fun x hx=>(hC.wz x hx).mono (by decide),fun b H9 s9 hb9=>?_⟩
   have eb:=hb9.mpr gd
   subst eb
   have s09:=s08.trans s9
   have hZ9:=s9 _ _ hZ8
   have hR9:=hR8.same s9
   clear x8 R8 p8 hZ8 hR8 s9 s08 hb9
   k_extra "rx"
   refine⟨true,true,rfl,?_⟩
   refine⟨_,rfl,i_brkF ?_⟩
   refine i_tNext ?_
   have hzl:=hR9.1
   have z16:zs.length≤16:=by rw[hzl,gd.1];exact hC.c16
   have isR:∀(i:Nat) y,zs[i]?=some y→∃ l,y=.ref l:=fun i y hi=>by
    have hi2:i < rss.length:=by rw[← hzl];exact (List.getElem?_eq_some_iff.mp hi).1
    obtain⟨l',as,el,_⟩:=hR9.2 i rss[i] (List.getElem?_eq_getElem hi2)
    rw[el] at hi
    cases hi
    exact⟨l',rfl⟩
   have rowOk:∀(i:Nat) l,zs[i]?=some (.ref l)→l≠Z∧∃ as,H9 l=some (.lst as)∧as.length≤12:=fun i l hi=>by
    have hi2:i < rss.length:=by rw[← hzl];exact (List.getElem?_eq_some_iff.mp hi).1
    obtain⟨l',as,el,hl,hA,h12⟩:=hR9.2 i rss[i] (List.getElem?_eq_getElem hi2)
    rw[el] at hi
    cases hi
    refine⟨fun z=>?_,as,hl,by rw[hA.1];exact h12⟩
    rw[z,hZ9] at hl
    cases hl
    have hi3:i < rss[i].length:=by rw[← hA.1,hzl];exact hi2
    obtain⟨r,er,hr,_⟩:=hA.2 i _ (List.getElem?_eq_getElem hi3)
    rw[el,z] at er
    cases er
    rw[hZ9] at hr
    cases hr
   clear hR9
   refine⟨_,rfl,Z,rfl,⟨_,SqL.of hZ9⟩,for_listN (K:=K) (a:=Z) (xs:=zs) (fun j σ H'=>∃ v6,σ=[some (.ref w),some (.ref c),some (.ref p),some (.ref T),some (.ref Z),some .non,v6]∧Same H H'∧H' Z=some (.lst zs)∧∀(i:Nat) l,zs[i]?=some (.ref l)→l≠Z∧∃ as,H' l=some (.lst as)∧as.length≤12+j) ⟨_,rfl,s09,hZ9,rowOk⟩ (fun i σ H' _ ⟨_,_,_,h,_⟩=>SqL.of h) ?_ ?_⟩
   ·rintro j y σ H10 NN BB hy ⟨v6,rfl,s10,hZ10,ro⟩ kN kB
    clear kB
    have hj:j < zs.length:=(List.getElem?_eq_some_iff.mp hy).1
    obtain⟨l,rfl⟩:=isR j y hy
    obtain⟨lZ,as,hl,al⟩:=ro j l hy
    have l0:=nw0 l (List.mem_of_getElem? hy)
    refine i_gName ?_
    k_extra "rx"
    refine i_tBM ?_
    k_extra "rx"
    refine⟨.inl ⟨rfl,_,SqL.of hl⟩,?_⟩
    k_extra "rx"
    refine i_NewO (Nat.le_of_ble_eq_true rfl) fun q H11 hq s11 hq11=>?_
    k_extra "rx"
    have hl11:=s11 _ _ hl
    refine i_app hl11 (by omega) fun H12 g12 f12=>kN _ _ ⟨_,rfl,same_fr l0 (s10.trans s11) f12,f12 _ _ lZ.symm (s11 _ _ hZ10),fun i l' hi=>?_⟩
    obtain⟨lZ',as',hl',al'⟩:=ro i l' hi
    refine⟨lZ',?_⟩
    by_cases e:l'=l
    ·subst e
     exact⟨_,g12,by rw[List.length_append];show as.length+1≤_;omega⟩
    ·exact⟨as',f12 _ _ e (s11 _ _ hl'),by omega⟩
   ·rintro σ H10 ⟨v6,rfl,s10,hZ10,ro⟩
    k_extra "rx"
    refine i_tBM ?_
    k_extra "rx"
    refine⟨.inl ⟨rfl,_,SqL.of hZ10⟩,?_⟩
    k_extra "rx"
    refine i_NewO (Nat.le_of_ble_eq_true rfl) fun q H11 hq s11 hq11=>?_
    k_extra "rx"
    refine i_app (s11 _ _ hZ10) (by omega) fun H12 g12 f12=>?_
    k_extra "rx"
    exact hQ H12 (same_fr nZ0 (s10.trans s11) f12)
 ·have x5:=x4.same s5
  have R5:=R4.ts (TS.of s5)
  have p5:=s5 _ _ p4
  k_extra "rx"
  refine⟨T2,_,rfl,SqT.of hT2,rfl,_,_,rfl,_,_,rfl,rfl,?_⟩
  dsimp only
  k_extra "rx"
  refine i_NewO (Nat.le_of_ble_eq_true rfl) fun T3 H6 hT3 s6 hT3'=>?_
  have d1:Den H6 (rsD ws cs ps) (.ref T):=den_tup (s6 _ _ (s5 _ _ f4)) (dens1 (den_lst (s6 _ _ (s5 _ _ g1)) (ints_dens ws)) (dens1 (den_lst (s6 _ _ (s5 _ _ g2)) (x5.same s6).hC.dens) (dens1 (den_lst (s6 _ _ (s5 _ _ g3)) (R5.ts (TS.of s6)).dens) dens0)))
  have d2:Den H6 (rsD ws cs ps) (.ref T3):=den_tup hT3' (dens1 (den_lst (x5.same s6).w (ints_dens ws)) (dens1 (den_lst (x5.same s6).c (x5.same s6).hC.dens) (dens1 (den_lst (s6 _ _ p5) (R5.ts (TS.of s6)).dens) dens0)))
  refine⟨_,_,d1,d2,cmp_rs,?_⟩
  refine⟨_,rfl,brk (fun z=>absurd z (by simp)) (fun _=>?_)⟩
  have x6:=x5.same s6
  have R6:=R5.ts (TS.of s6)
  have p6:=s6 _ _ p5
  have s06:=(tt.trans s5).trans s6
  have ht6:=s6 _ _ ht
  clear d1 d2 hT3' hT3 x5 R5 p5 ht s6 hT2 s5 x4 y4 R4 p4 f4 g1 g2 g3 tt
  refine i_tNext ?_
  k_extra "rx"
  refine⟨w,c,p,M,ws,xs,cs,ys,ps,rfl,x6,hC,p6,R6,hM,pl,fun b H7 s7 hb7=>?_⟩
  have eb:=hb7.mpr ⟨j,hj,lt⟩
  subst eb
  refine⟨_,rfl,i_brkT ?_⟩
  k_extra "rx"
  refine i_tAndV ?_
  k_extra "rx"
  rw[tIsN_ap]
  refine⟨_,rfl,?_⟩
  refine⟨_,rfl,brk (fun _=>?_) (fun z=>absurd rfl (of_decide_eq_false z))⟩
  k_extra "rx"
  refine⟨w,c,p,t,M,ws,xs,cs,ys,ps,j,rfl,x6.same s7,hC,s7 _ _ p6,R6.ts (TS.of s7),hM,pl,hj,s7 _ _ ht6,lt,fun H8 s8=>?_⟩
  exact hQ H8 ((s06.trans s7).trans s8)
theorem ok_law(D:DefAt K mg "law" s_law f fd)(T:Txt K mg cx)(d__law_bag:DefOk P w K mg base CX0 1 "_law_bag" ["_law_script"] (sp__law_bag K cx))(d__law_tabled:DefOk P w K mg base CX0 5 "_law_tabled" ["_law_bag_here"] sp__law_tabled)(d__law_many:DefOk P w K mg base CX0 2 "_law_many" ["_law_bag_here"] sp__law_many)(d__law_worths:DefOk P w K mg base CX0 2 "_law_worths" ["_law_bag_here","_law_many_here"] sp__law_worths)(d__law_claims:DefOk P w K mg base CX0 4 "_law_claims" ["_law_bag_here","_law_many_here"] sp__law_claims)(d__law_asked:DefOk P w K mg base CX0 8 "_law_asked" ["_law_worths_here","_law_claims_here","_law_parts"] sp__law_asked)(d__law_pull:DefOk P w K mg base CX0 1 "_law_pull" ["_law_bag_here","_law_many_here"] sp__law_pull)(d__law_row:DefOk P w K mg base CX0 4 "_law_row" ["_law_bag_here","_law_claims_here"] sp__law_row):FnOk P w K mg base CX0 9 f fd ["_law_script"] (sp_law K cx):=by
 refine D.q sc_law (fun vs H Q E h=>?_) (fun cdv A outer s H vs Q E hr h=>?_)
 ·obtain⟨_,_,rfl,_⟩:=h
  rfl
 obtain⟨a,ns,rfl,hS,hl,hQ⟩:=h
 have hQt:Q (.bl true)=fun _=>True:=by funext H';exact eq_true (hQ H')
 clear hQ
 refine⟨_,(qss_cons (qs_sL 1 sc_law.nd (qe_g d__law_bag (qa_1 (qv 0))))
   (qss_cons (qs_asg (qe_g d__law_tabled (qa_1 (qv 1))) (qg_tupK (K:=K) (n:=4) rfl rfl (qgs_cons (qg_name (i:=2) sc_law.nd rfl (Or.inl rfl)) (qgs_cons (qg_name (i:=3) sc_law.nd rfl (Or.inl rfl)) (qgs_cons (qg_name (i:=4) sc_law.nd rfl (Or.inl rfl)) (qgs_cons (qg_name (i:=5) sc_law.nd rfl (Or.inl rfl)) qgs_nil))))))
   (qss_cons (qs_if (qw_or (qt_not (qt_val (qe_g d__law_asked (qa_3 (qv 2) (qv 3) (qv 4))))) (qw_or1 (qt_not (qt_val (qe_g d__law_asked (qa_3 (qv 2) (qv 3) (qv 4))))))).pt (qss_one (qs_ret qe_bl)) qss_nil)
   (qss_cons (qs_if (qw_and (qt_cmpR (op_neD hr.units) (qv 2) (qe_lst qa_nil) (nomark _)) (qw_and1 (qt_cmpR op_eq (qe_g d__law_pull (qa_2 (qv 1) qe_int)) qe_int (nomark _)))).pt (qss_cons (qs_sL 6 sc_law.nd (qe_g d__law_pull (qa_2 (qv 1) (qe_callB call_lenF (by rfl) T.n_len bt_len (qa_1 (qv 2))))))
   (qss_cons (qs_asg (qe_callB (call_max2 rfl) (by rfl) T.n_max bt_max (qa_2 qe_int (qe_op op_sub (qe_op op_sub (qe_iS (qv 2) (qv 6)) qe_int) (qe_g d__law_pull (qa_2 (qv 1) qe_int))))) (qg_sub (qv 2) (qv 6) set_list))
   (qss_one (qs_if (qt_not (qt_val (qe_g d__law_asked (qa_3 (qv 2) (qv 3) (qv 4))))) (qss_one (qs_ret qe_bl)) qss_nil)))) qss_nil)
   (qss_cons (qs_sL 7 sc_law.nd (qe_g d__law_many (qa_1 (qv 1))))
   (qss_cons (qs_sL 2 sc_law.nd (qe_g d__law_worths (qa_2 (qv 1) (qv 7))))
   (qss_cons (qs_sL 3 sc_law.nd (qe_g d__law_claims (qa_2 (qv 1) (qv 7))))
   (qss_one (qs_ret (qe_g d__law_asked (qa_3 (qv 2) (qv 3) (qe_g d__law_row (qa_2 (qv 1) (qv 3)))))))))))))),?_⟩
 k_extra "rx"
 refine⟨a,ns,rfl,hS,hl,fun B L H1 s1 nB b1=>?_⟩
 k_extra "rx"
 refine⟨B,L,rfl,b1,fun T W C P Z ws xs cs ys ps zs rss H2 tf hT=>?_⟩
 clear hS hl s1 nB
 k_extra "rx"
 refine⟨T,_,rfl,SqT.of hT,rfl,_,_,rfl,_,_,rfl,_,_,rfl,_,_,rfl,rfl,?_⟩
 dsimp only
 have WB:W≠B:=b1.ne tf.w0
 have WL:W≠L:=b1.neL tf.w0
 have CB:C≠B:=b1.ne tf.c0
 have PB:P≠B:=b1.ne tf.p0
 have pl:=tf.pl
 have fc:∀ ws':List Int,ws'.length=ws.length→(∀ x∈ws',0≤x∧Sz 140 x)→FC UM ws' cs:=fun ws' e h=>⟨um_ok.pos,by decide,fun c hc=>⟨(tf.hG c hc).1.pt.mono (by decide),(tf.hG c hc).1.nn,(tf.hG c hc).2.1⟩,tf.c16,by rw[e];exact tf.w6,fun x hx=>(h x hx).2.mono (by decide)⟩
 have hb:∀ ws':List Int,ws'.length=ws.length→∀ i,i < cs.length→(heapP cs i).Nodup∧∀ x∈heapP cs i,0≤x∧x < (ws'.length:Int):=fun ws' e i hi=>by
  have g:=tf.hG _ (List.getElem_mem hi)
  rw[heapP_at hi,e]
  exact⟨g.2.2.2.2,g.2.2.1⟩
 have p0:∀ i,i < cs.length→0≤(ps.getD i (0,1)).1:=fun i hi=>by
  have h2:i < rss.length:=by rw[tf.rl];exact hi
  obtain⟨l,as,_,_,hA,_⟩:=tf.hZ.2.2 i rss[i] (List.getElem?_eq_getElem h2)
  have e:ps.getD i (0,1)=sumP rss[i]:=by rw[tf.eP];simp[List.getD_eq_getElem?_getD,h2]
  rw[e]
  exact sumP_nn um_ok.pos (fun p hp=>(hA.mem p hp).toOk) (tf.hr _ (List.getElem_mem h2)).2
 have s2:ShIn W C ws xs cs H2:=⟨tf.w,tf.c,tf.hC⟩
 have hR2:=tf.hR.mono (by decide:121≤3700)
 have hP2:=tf.p
 have wz:=tf.wsz
 have b2:=tf.b
 have WC:=tf.wc
 have WP:=tf.wp
 clear tf b1 hT
 refine seq_cut2 (fun σ' H'=>∃ v2 v3 v4 v5 v6,σ'=[some (.ref a),some (.ref B),v2,v3,v4,v5,v6,none]∧BagAt H' B L) ?_ fun tb key=>?_
 ·rintro σ' H3 ⟨v2,v3,v4,v5,v6,rfl,b3⟩
  clear s2 hR2 hP2 b2 p0 hb fc wz WB WL CB PB WC WP pl
  clear ws xs cs ys ps zs rss H2 W C P Z T
  k_extra "rx"
  refine⟨B,L,rfl,b3,fun m H4 m0 m6 b4 f4=>?_⟩
  refine i_gName ?_
  k_extra "rx"
  refine⟨B,m,L,rfl,b4,m0,m6,fun W ws H5 w0 b5 f5 hw wl wz=>?_⟩
  have WB:=b4.ne w0
  refine i_gName ?_
  k_extra "rx"
  refine⟨B,m,L,rfl,b5,m0,m6,fun C xs cs H6 c0 b6 f6 hc hC c16 hG=>?_⟩
  have CB:=b5.ne c0
  have hw6:=f6 _ _ WB hw
  refine i_gName ?_
  k_extra "rx"
  refine⟨B,L,C,xs,cs,rfl,b6,CB,hc,hC,c16,fun c hc=>(hG c hc).1,fun P ys ps H7 P0 b7 f7 hp hR pl pn=>?_⟩
  have fc:FC UM ws cs:=⟨um_ok.pos,by decide,fun c hc=>⟨(hG c hc).1.pt.mono (by decide),(hG c hc).1.nn,(hG c hc).2.1⟩,c16,by omega,fun x hx=>(wz x hx).2.mono (by decide)⟩
  k_extra "rx"
  refine⟨W,C,P,U9,ws,xs,cs,ys,ps,rfl,⟨f7 _ _ WB hw6,f7 _ _ CB hc,hC.ts (TS.fr b6 f7)⟩,fc,hp,hR.mono (by decide),u9_ok,pl,fun x hx=>(wz x hx).1,fun i hi=>?_,fun i hi=>?_,fun H8 s8=>?_⟩
  ·have h2:i < ps.length:=by omega
   have e:ps.getD i (0,1)=ps[i]:=by simp[List.getD_eq_getElem?_getD,h2]
   rw[e]
   exact pn _ (List.getElem_mem h2)
  ·have g:=hG _ (List.getElem_mem hi)
   rw[heapP_at hi,wl]
   exact⟨g.2.2.2.2,g.2.2.1⟩
  ·show Q (.bl true) H8
   rw[hQt]
   trivial
 ·k_extra "rx"
  refine⟨W,C,P,UM,ws,xs,cs,ys,ps,rfl,s2,fc ws rfl wz,hP2,hR2,um_ok,pl,fun x hx=>(wz x hx).1,p0,hb ws rfl,fun H3 s3=>?_⟩
  refine⟨_,rfl,i_brkF ?_⟩
  have sh3:=s2.same s3
  have hR3:=hR2.ts (TS.of s3)
  have hP3:=s3 _ _ hP2
  have b3:=b2.keep s3
  k_extra "rx"
  refine⟨W,C,P,UM,ws,xs,cs,ys,ps,rfl,sh3,fc ws rfl wz,hP3,hR3,um_ok,pl,fun x hx=>(wz x hx).1,p0,hb ws rfl,fun H4 s4=>?_⟩
  refine⟨_,rfl,i_brkF ?_⟩
  have sh4:=sh3.same s4
  have hR4:=hR3.ts (TS.of s4)
  have hP4:=s4 _ _ hP3
  have b4:=b3.keep s4
  clear s2 sh3 hR2 hR3 hP2 hP3 b2 b3 s3 s4
  refine i_tNext ?_
  k_extra "rx"
  refine i_NewO (Nat.le_of_ble_eq_true rfl) fun e H5 he s5 he5=>?_
  have sh5:=sh4.same s5
  have hR5:=hR4.ts (TS.of s5)
  have hP5:=s5 _ _ hP4
  have b5:=b4.keep s5
  have sw5:=sh5.w
  refine⟨.lst (ws.map Dt.int),.lst [],den_lst sh5.w (ints_dens ws),den_lst he5 dens0,fun _ j d e h1 h2=>by simp at h2,?_⟩
  clear sh4 hR4 hP4 b4 s5 he he5
  refine⟨_,rfl,brk (fun h1=>?_) (fun h1=>?_)⟩
  ·have hpos:0 < ws.length:=by
    rcases Nat.eq_zero_or_pos ws.length with z | z
    ·exfalso
     have z2:ws=[]:=List.length_eq_zero_iff.mp z
     simp[z2] at h1
    ·exact z
   k_extra "rx"
   refine⟨B,2,L,rfl,b5,by decide,by decide,fun d H6 d0 d1 b6 f6=>?_⟩
   have sh6:ShIn W C ws xs cs H6:=⟨f6 _ _ WB sh5.w,f6 _ _ CB sh5.c,sh5.hC.ts (TS.fr b5 f6)⟩
   have hR6:=hR5.ts (TS.fr b5 f6)
   have hP6:=f6 _ _ PB hP5
   clear sh5 hR5 hP5 b5 f6 sw5
   k_extra "rx"
   refine⟨rfl,?_⟩
   refine⟨_,rfl,brkD (fun h2=>?_) (fun h2=>?_)⟩
   ·have sw6:=sh6.w
    have wlen:(ws.map V.int).length=ws.length:=List.length_map _
    have w6:=(fc ws rfl wz).w6
    k_extra "rx"
    refine⟨B,_,L,rfl,b6,by omega,Sz.mono (j:=6) (Sz.of (by omega)) (by decide),fun p' H7 q0 q1 b7 f7=>?_⟩
    obtain⟨k,rfl⟩:∃ k:Nat,p'=(k:Int):=⟨p'.toNat,by omega⟩
    have hk:k < ws.length:=by omega
    have sh7:ShIn W C ws xs cs H7:=⟨f7 _ _ WB sh6.w,f7 _ _ CB sh6.c,sh6.hC.ts (TS.fr b6 f7)⟩
    have hR7:=hR6.ts (TS.fr b6 f7)
    have hP7:=f7 _ _ PB hP6
    have sw7:=sh7.w
    have aw:atI (ws.map V.int) (k:Int)=some (.int ws[k]):=atI_nat (by rw[List.getElem?_map,List.getElem?_eq_getElem hk];rfl)
    have wk:=wz _ (List.getElem_mem hk)
    clear sh6 hR6 hP6 b6 f7 sw6
    refine i_gName ?_
    k_extra "rx"
    refine⟨B,2,L,rfl,b7,by decide,by decide,fun g H8 g0 g1 b8 f8=>?_⟩
    have sh8:ShIn W C ws xs cs H8:=⟨f8 _ _ WB sh7.w,f8 _ _ CB sh7.c,sh7.hC.ts (TS.fr b7 f8)⟩
    have hR8:=hR7.ts (TS.fr b7 f8)
    have hP8:=f8 _ _ PB hP7
    have sw8:=sh8.w
    clear sh7 hR7 hP7 b7 f8 sw7
    k_extra "rx"
    refine⟨_,_,rfl,?_⟩
    have v1:0≤(if ws[k] - 1 - g > 0 then ws[k] - 1 - g else 0)∧(if ws[k] - 1 - g > 0 then ws[k] - 1 - g else 0)≤ws[k]:=by split<;>omega
    generalize (if ws[k] - 1 - g > 0 then ws[k] - 1 - g else 0)=v at v1 ⊢
    have vz:Sz 140 v:=Sz.le wk.2 (by omega)
    k_extra "rx"
    refine⟨W,_,_,k,rfl,rfl,sw8,ixN_nat (by rw[wlen];exact hk),?_⟩
    have ts:Toy.TS H8 (upd H8 W (.lst ((ws.map V.int).set k (.int v)))):=TS.lst sw8
    have sh9:ShIn W C (ws.set k v) xs cs (upd H8 W (.lst ((ws.map V.int).set k (.int v)))):=⟨by rw[upd_same,List.map_set],by rw[upd_ne WC.symm];exact sh8.c,sh8.hC.ts ts⟩
    have hR9:=hR8.ts ts
    have hP9:upd H8 W (.lst ((ws.map V.int).set k (.int v))) P=some (.lst ys):=by rw[upd_ne WP.symm];exact hP8
    have b9:=b8.put (o:=.lst ((ws.map V.int).set k (.int v))) WB WL
    generalize upd H8 W (.lst ((ws.map V.int).set k (.int v)))=H9 at sh9 hR9 hP9 b9 ⊢
    have wl9:(ws.set k v).length=ws.length:=List.length_set
    have wz9:∀ x∈ws.set k v,0≤x∧Sz 140 x:=fun x hx=>by
     rcases List.mem_or_eq_of_mem_set hx with hx | rfl
     ·exact wz x hx
     ·exact⟨v1.1,vz⟩
    clear sh8 hR8 hP8 b8 sw8 ts
    k_extra "rx"
    refine⟨W,C,P,UM,ws.set k v,xs,cs,ys,ps,rfl,sh9,fc _ wl9 wz9,hP9,hR9,um_ok,pl,fun x hx=>(wz9 x hx).1,p0,hb _ wl9,fun H10 s10=>?_⟩
    refine⟨_,rfl,i_brkF ?_⟩
    refine i_tNext ?_
    exact key _ _ ⟨_,_,_,_,_,rfl,b9.keep s10⟩
   ·refine i_tNext ?_
    exact key _ _ ⟨_,_,_,_,_,rfl,b6⟩
  ·refine i_tNext ?_
   exact key _ _ ⟨_,_,_,_,_,rfl,b5⟩
def FnA(K:PySem.W.Frag)(x:Str)(s:Stmt):Prop:=∃ f fd,Fun K x x s f fd∧PySem.W.nsIn K mainGlobals x=some (some (.ref f))
end
theorem FnA.mk{K:PySem.W.Frag}{x:Str}{s:Stmt}{f:Addr}{oc:Value}{od:Option Addr}{kV dc pm:Value}{an:Option Addr}{cd ct:Value}{sl:Array (Option Value)}(a:PySem.W.nsIn K mainGlobals x=some (some (.ref f)))(l:K.lookup f=some ⟨oc,od,.func (PySem.W.fnOf x x (defArgs s) (defBody s) (defScope s) .none kV dc pm an cd ct),sl⟩)(c:PySem.W.codeIn K cd x=true)(k:PySem.W.keepIn K (.ref f)=true):FnA K x s:=⟨f,_,fun_mk (st:=s) l c k,a⟩
theorem FnA.def{K:PySem.W.Frag}{h:Heap}{mg:Str→Option Value}{x:Str}{s:Stmt}(a:FnA K x s)(X:K.In h)(G:h.Ns mainGlobals mg):∃ f fd,DefAt K mg x s f fd:=by
 obtain⟨f,fd,u,a⟩:=a
 exact⟨f,fd,u,PySem.W.mg_of X G a⟩
theorem all_mk{l:PySem.W.OpenLaw}{w:World}{K:PySem.W.Frag}{h:Heap}{mg:Str→Option Value}{fa k0:Addr}(X:K.In h)(G:h.Ns mainGlobals mg)(hfa:mg "law" = some (.ref fa))
  (a0:FnA K "common_factor" s_common_factor)
  (a1:FnA K "lowest" s_lowest)
  (a2:FnA K "below" s_below)
  (a3:FnA K "one_under" s_one_under)
  (a4:FnA K "numbers_over" s_numbers_over)
  (a5:FnA K "total" s_total)
  (a6:FnA K "good_row" s_good_row)
  (a7:FnA K "good_table" s_good_table)
  (a8:FnA K "moves_from" s_moves_from)
  (a9:FnA K "shortest_chain" s_shortest_chain)
  (a10:FnA K "most_along" s_most_along)
  (a11:FnA K "move_along" s_move_along)
  (a12:FnA K "pay" s_pay)
  (a13:FnA K "as_parts" s_as_parts)
  (a14:FnA K "table" s_table)
  (a15:FnA K "_law_bag" s__law_bag)
  (a16:FnA K "_law_pull" s__law_pull)
  (a17:FnA K "_law_gcd" s__law_gcd)
  (a18:FnA K "_law_low" s__law_low)
  (a19:FnA K "_law_plus" s__law_plus)
  (a20:FnA K "_law_times" s__law_times)
  (a21:FnA K "_law_below" s__law_below)
  (a22:FnA K "_law_sum" s__law_sum)
  (a23:FnA K "_law_whole" s__law_whole)
  (a24:FnA K "_law_pair" s__law_pair)
  (a25:FnA K "_law_pairs" s__law_pairs)
  (a26:FnA K "_law_truth" s__law_truth)
  (a27:FnA K "_law_heaps" s__law_heaps)
  (a28:FnA K "_law_lies" s__law_lies)
  (a29:FnA K "_law_worth" s__law_worth)
  (a30:FnA K "_law_load" s__law_load)
  (a31:FnA K "_law_many" s__law_many)
  (a32:FnA K "_law_heap" s__law_heap)
  (a33:FnA K "_law_worths" s__law_worths)
  (a34:FnA K "_law_due" s__law_due)
  (a35:FnA K "_law_claims" s__law_claims)
  (a36:FnA K "_law_row" s__law_row)
  (a37:FnA K "_law_over_its_worth" s__law_over_its_worth)
  (a38:FnA K "_law_ceil" s__law_ceil)
  (a39:FnA K "_law_tabled" s__law_tabled)
  (a40:FnA K "_law_good_row" s__law_good_row)
  (a41:FnA K "_law_good_table" s__law_good_table)
  (a42:FnA K "_law_overdrawn" s__law_overdrawn)
  (a43:FnA K "_law_is_overdrawn" s__law_is_overdrawn)
  (a44:FnA K "_law_told" s__law_told)
  (a45:FnA K "_law_asked" s__law_asked)
  (a46:FnA K "law" s_law)
  (xq0:XQ K "Overdrawn" "KeelError" "heap" "Overdrawn.__init__" i_Overdrawn k0)
  (z0:PySem.W.nsIn K mainGlobals "sum" = some none)
  (z1:PySem.W.nsIn K mainGlobals "enumerate" = some none)
  (z2:PySem.W.nsIn K mainGlobals "len" = some none)
  (z3:PySem.W.nsIn K mainGlobals "zip" = some none)
  (z4:PySem.W.nsIn K mainGlobals "tuple" = some none)
  (z5:PySem.W.nsIn K mainGlobals "sorted" = some none)
  (z6:PySem.W.nsIn K mainGlobals "list" = some none)
  (z7:PySem.W.nsIn K mainGlobals "min" = some none)
  (z8:PySem.W.nsIn K mainGlobals "abs" = some none)
  (z9:PySem.W.nsIn K mainGlobals "isinstance" = some none)
  (z10:PySem.W.nsIn K mainGlobals "bool" = some none)
  (z11:PySem.W.nsIn K mainGlobals "int" = some none)
  (z12:PySem.W.nsIn K mainGlobals "all" = some none)
  (z13:PySem.W.nsIn K mainGlobals "range" = some none)
  (z14:PySem.W.nsIn K mainGlobals "max" = some none)
  : ∃ fd:FuncData,(∀(s:Shared)(v:Value),BindsTo s fd ⟨[v],[]⟩ [("_law_script", v)])∧∀ base:Heap,K.In base→base.Ns mainGlobals mg→FnOk l.prog w K mg base CX0 9 fa fd ["_law_script"] (sp_law K (fun _=>0)):=by
 obtain⟨_,_,D46⟩:=a46.def X G
 have e:=hfa.symm.trans D46.mg
 cases e
 obtain⟨oc,od,kV,dc,pm,an,cd,ct,sl,rfl,_,_⟩:=id D46.fn.ex
 have T:Txt K mg (fun x=>if x = "Overdrawn" then k0 else 0):=⟨PySem.W.mg_none_of X G z0,PySem.W.mg_none_of X G z1,PySem.W.mg_none_of X G z2,PySem.W.mg_none_of X G z3,PySem.W.mg_none_of X G z4,PySem.W.mg_none_of X G z5,PySem.W.mg_none_of X G z6,PySem.W.mg_none_of X G z7,PySem.W.mg_none_of X G z8,PySem.W.mg_none_of X G z9,PySem.W.mg_none_of X G z10,PySem.W.mg_none_of X G z11,PySem.W.mg_none_of X G z12,PySem.W.mg_none_of X G z13,PySem.W.mg_none_of X G z14,by simpa using xq0.xt X G⟩
 obtain⟨_,_,D0⟩:=a0.def X G
 obtain⟨_,_,D1⟩:=a1.def X G
 obtain⟨_,_,D2⟩:=a2.def X G
 obtain⟨_,_,D3⟩:=a3.def X G
 obtain⟨_,_,D4⟩:=a4.def X G
 obtain⟨_,_,D5⟩:=a5.def X G
 obtain⟨_,_,D6⟩:=a6.def X G
 obtain⟨_,_,D7⟩:=a7.def X G
 obtain⟨_,_,D8⟩:=a8.def X G
 obtain⟨_,_,D9⟩:=a9.def X G
 obtain⟨_,_,D10⟩:=a10.def X G
 obtain⟨_,_,D11⟩:=a11.def X G
 obtain⟨_,_,D12⟩:=a12.def X G
 obtain⟨_,_,D13⟩:=a13.def X G
 obtain⟨_,_,D14⟩:=a14.def X G
 obtain⟨_,_,D15⟩:=a15.def X G
 obtain⟨_,_,D16⟩:=a16.def X G
 obtain⟨_,_,D17⟩:=a17.def X G
 obtain⟨_,_,D18⟩:=a18.def X G
 obtain⟨_,_,D19⟩:=a19.def X G
 obtain⟨_,_,D20⟩:=a20.def X G
 obtain⟨_,_,D21⟩:=a21.def X G
 obtain⟨_,_,D22⟩:=a22.def X G
 obtain⟨_,_,D23⟩:=a23.def X G
 obtain⟨_,_,D24⟩:=a24.def X G
 obtain⟨_,_,D25⟩:=a25.def X G
 obtain⟨_,_,D26⟩:=a26.def X G
 obtain⟨_,_,D27⟩:=a27.def X G
 obtain⟨_,_,D28⟩:=a28.def X G
 obtain⟨_,_,D29⟩:=a29.def X G
 obtain⟨_,_,D30⟩:=a30.def X G
 obtain⟨_,_,D31⟩:=a31.def X G
 obtain⟨_,_,D32⟩:=a32.def X G
 obtain⟨_,_,D33⟩:=a33.def X G
 obtain⟨_,_,D34⟩:=a34.def X G
 obtain⟨_,_,D35⟩:=a35.def X G
 obtain⟨_,_,D36⟩:=a36.def X G
 obtain⟨_,_,D37⟩:=a37.def X G
 obtain⟨_,_,D38⟩:=a38.def X G
 obtain⟨_,_,D39⟩:=a39.def X G
 obtain⟨_,_,D40⟩:=a40.def X G
 obtain⟨_,_,D41⟩:=a41.def X G
 obtain⟨_,_,D42⟩:=a42.def X G
 obtain⟨_,_,D43⟩:=a43.def X G
 obtain⟨_,_,D44⟩:=a44.def X G
 obtain⟨_,_,D45⟩:=a45.def X G
 refine⟨PySem.W.fnOf "law" "law" (defArgs s_law) (defBody s_law) (defScope s_law) .none kV dc pm an cd ct,fun s v=>.of_eq rfl,fun base _ _=>?_⟩
 have d__law_bag:=ok__law_bag (P:=l.prog) (w:=w) (base:=base) D15 T
 have d__law_pull:=ok__law_pull (P:=l.prog) (w:=w) (base:=base) D16 T
 have d__law_many:=ok__law_many D31 T d__law_pull
 have d__law_gcd:=ok__law_gcd (P:=l.prog) (w:=w) (base:=base) D17 T
 have d__law_low:=ok__law_low D18 T d__law_gcd
 have d__law_due:=ok__law_due D34 T d__law_low d__law_pull
 have d__law_heap:=ok__law_heap D32 T d__law_pull
 have d__law_claims:=ok__law_claims D35 T d__law_pull d__law_due d__law_heap
 have d__law_plus:=ok__law_plus D19 T d__law_low
 have d__law_sum:=ok__law_sum D22 T d__law_plus
 have d__law_ceil:=ok__law_ceil (P:=l.prog) (w:=w) (base:=base) D38 T
 have d__law_tabled:=ok__law_tabled D39 T d__law_many d__law_claims d__law_pull d__law_low d__law_sum d__law_plus d__law_ceil
 have d__law_worths:=ok__law_worths D33 T d__law_pull
 have d_common_factor:=ok_common_factor (P:=l.prog) (w:=w) (base:=base) D0 T
 have d_one_under:=ok_one_under D3 T d_common_factor
 have d_numbers_over:=ok_numbers_over (P:=l.prog) (w:=w) (base:=base) D4 T
 have d_moves_from:=ok_moves_from (P:=l.prog) (w:=w) (base:=base) D8 T
 have d_shortest_chain:=ok_shortest_chain D9 T d_moves_from
 have d_move_along:=ok_move_along (P:=l.prog) (w:=w) (base:=base) D11 T
 have d_most_along:=ok_most_along (P:=l.prog) (w:=w) (base:=base) D10 T
 have d_pay:=ok_pay D12 T d_shortest_chain d_move_along d_most_along
 have d_lowest:=ok_lowest D1 T d_common_factor
 have d_as_parts:=ok_as_parts D13 T d_lowest
 have d_table:=ok_table D14 T d_one_under d_numbers_over d_pay d_as_parts
 have d__law_told:=ok__law_told D44 T d_table
 have d__law_heaps:=ok__law_heaps (P:=l.prog) (w:=w) (base:=base) D27 T
 have d__law_below:=ok__law_below (P:=l.prog) (w:=w) (base:=base) D21 T
 have d__law_lies:=ok__law_lies (P:=l.prog) (w:=w) (base:=base) D28 T
 have d__law_load:=ok__law_load D30 T d__law_sum d__law_lies
 have d__law_worth:=ok__law_worth (P:=l.prog) (w:=w) (base:=base) D29 T
 have d__law_over_its_worth:=ok__law_over_its_worth D37 T d__law_below d__law_load d__law_worth
 have d__law_overdrawn:=ok__law_overdrawn D42 T d__law_heaps d__law_over_its_worth
 have d__law_whole:=ok__law_whole (P:=l.prog) (w:=w) (base:=base) D23 T
 have d__law_pair:=ok__law_pair D24 T d__law_gcd d__law_whole
 have d__law_pairs:=ok__law_pairs D25 T d__law_pair
 have d__law_good_row:=ok__law_good_row D40 T d__law_sum
 have d__law_good_table:=ok__law_good_table D41 T d__law_below d__law_sum d__law_pairs d__law_good_row
 have d__law_truth:=ok__law_truth (P:=l.prog) (w:=w) (base:=base) D26 T
 have d__law_is_overdrawn:=ok__law_is_overdrawn D43 T d__law_over_its_worth d__law_heaps
 have d_below:=ok_below (P:=l.prog) (w:=w) (base:=base) D2 T
 have d_total:=ok_total D5 T d_one_under d_lowest d_numbers_over
 have d_good_row:=ok_good_row D6 T d_total d_below
 have d_good_table:=ok_good_table D7 T d_below d_good_row d_total
 have d__law_asked:=ok__law_asked D45 T d__law_told d__law_overdrawn d__law_good_table d__law_truth d__law_is_overdrawn d_good_table
 have d__law_times:=ok__law_times D20 T d__law_low
 have d__law_row:=ok__law_row D36 T d__law_pull d__law_times
 have d_law:=ok_law D46 T d__law_bag d__law_tabled d__law_many d__law_worths d__law_claims d__law_asked d__law_pull d__law_row
 exact d_law
theorem walk{l:PySem.W.OpenLaw}{q:Program}{loose:List Str}{XP:(Str→Option Value)→Heap→Prop}{YP:World→Heap→Prop}{d:DefRec}{K:Params→PySem.W.Frag}(hn:l.most=some 63)(hdf:d.params.defaults=[])
  (hY:∀(w:World)(h:Heap),YP w h→(K w.params).In h)
  (F:∀(w:World)(mg:Str→Option Value)(fa:Addr)(h:Heap),(K w.params).In h→h.Ns mainGlobals mg→mg d.name=some (.ref fa) →
   ∃ fd:FuncData,(∀(s:Shared)(u:Value),BindsTo s fd ⟨[u],[]⟩ [("_law_script", u)])∧∀ base:Heap,(K w.params).In base→base.Ns mainGlobals mg→FnOk l.prog w (K w.params) mg base CX0 9 fa fd ["_law_script"] (sp_law (K w.params) (fun _=>0))) :
  PySem.W.WalkO q loose XP YP l.row.toRowW d [] (fun f vs=>PySem.call f vs) :=
 L2.walk_of (n:=63) (k:=9) (x := "_law_script") (CX:=fun _=>CX0) (sp:=fun w=>sp_law (K w.params) (fun _=>0)) hn (by decide) hdf ⟨rfl,by decide,by decide⟩ hY F (fun _ _ a ns hl _ hS=>⟨a,ns,rfl,hS,hl,fun _=>rfl⟩) fun _ _ _ _ _ z=>z
end Toy
def PySem.W.Fast.tw18287678016478771047:Unit:=()
def PySem.W.Fast.tw6861022725981014016:Unit:=()
def PySem.W.Fast.tw937906964413506243:Unit:=()
def PySem.W.Fast.tw3588101761688869749:Unit:=()
def PySem.W.Fast.tw11578389884601938053:Unit:=()
def PySem.W.Fast.tw3384806443694455842:Unit:=()
def PySem.W.Fast.tw9369092056439675539:Unit:=()
def PySem.W.Fast.tw12429584841186940352:Unit:=()
def PySem.W.Fast.tw6642591862989048188:Unit:=()
def PySem.W.Fast.tw8777804222408178075:Unit:=()
def PySem.W.Fast.tw2931671435732162046:Unit:=()
def PySem.W.Fast.tw3962278313545645786:Unit:=()
def PySem.W.Fast.tw12258435674220150155:Unit:=()
def PySem.W.Fast.tw18130283757312031747:Unit:=()
def PySem.W.Fast.tw12054182749896496159:Unit:=()
def PySem.W.Fast.tw14096862025605227188:Unit:=()
def PySem.W.Fast.tw10844165167953742411:Unit:=()
def PySem.W.Fast.tw627918480593833985:Unit:=()
def PySem.W.Fast.tw3271188529804661516:Unit:=()
def PySem.W.Fast.tw3860574479862831025:Unit:=()
open PySem PySem.W PyProof.Rows
set_option maxRecDepth 100000 in
set_option maxHeartbeats 0 in
theorem PySem.Challenge.cw_keelbond_k09_whole_table_or_overdrawn_holds : PySem.Challenge.rw_keelbond_k09_whole_table_or_overdrawn.Holds := by
 w_on;o_law;k_head;(case hw=>w_witness2)
 k_fill
 refine Toy.walk (l:=PySem.Challenge.rw_keelbond_k09_whole_table_or_overdrawn) rfl rfl (fun w h Y=>PySem.W.kIn_of Y) ?F
 case F =>
  intro w mg fa h KX G hmg
  refine' Toy.all_mk KX G hmg ?_ ?_ ?_ ?_ ?_ ?_ ?_ ?_ ?_ ?_ ?_ ?_ ?_ ?_ ?_ ?_ ?_ ?_ ?_ ?_ ?_ ?_ ?_ ?_ ?_ ?_ ?_ ?_ ?_ ?_ ?_ ?_ ?_ ?_ ?_ ?_ ?_ ?_ ?_ ?_ ?_ ?_ ?_ ?_ ?_ ?_ ?_ ?_ ?_ ?_ ?_ ?_ ?_ ?_ ?_ ?_ ?_ ?_ ?_ ?_ ?_ ?_ ?_
  any_goals first | (refine' Toy.FnA.mk ?aa ?bb ?cc ?dd;(case aa=>k_is);(case bb=>k_is);(case cc=>k_is);(case dd=>k_is)) | (refine' L2.XQ.mk ?a1 ?a2 ?a3 ?a4 ?a5 ?a6 ?a7 ?a8 ?a9 ?b1 ?b2 ?b3 ?b4 ?b5 ?b6 ?b7;(case a1=>k_is);(case a2=>k_is);(case a3=>k_is);(case a4=>k_is);(case a5=>k_is);(case a6=>k_is);(case a7=>kernel_rfl);(case a8=>k_is);(case a9=>k_is);(case b1=>k_is);(case b2=>k_is);(case b3=>kernel_rfl);(case b4=>k_is);(case b5=>k_is);(case b6=>k_is);(case b7=>k_is)) | k_exc | k_is | decide
