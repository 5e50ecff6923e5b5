import PyProof.Rows.All
import Wide.All
import OpenK.AllK
import Wide.FinOn
import Lean
import PyProof.EqAt
import PyProof.EqKinds
import PyProof.TupleCall
import PyProof.Rows.SortRuns
import PyProof.Rows.SortShell
import PyProof.ZipIter
import PyProof.TupleIter
import KE.KIntText
import PyProof.Rows.StrNews
import PyProof.StrLawsTight
import KE.KDictOf
import PySem.Challenge.RW_keelbond_k32_ranks_told
set_option Elab.async false
set_option linter.all false
set_option maxRecDepth 100000
namespace L2
open PySem PySem.Spec PyProof.Rows
abbrev Key:=Sum Int Str
def keyIs:Key→Value→Bool
 | .inl k,v=>Value.isInt k v
 | .inr x,v=>Value.isStrOf x v
def keyH(w:World):Key→Int
 | .inl k=>hashInt k
 | .inr x=>hashStr w x
theorem keyIs_shape:∀{k:Key}{v:Value},keyIs k v=true→(∃ i t,k=Sum.inl i∧v=Value.int i t)∨(∃ x t,k=Sum.inr x∧v=Value.str x t)
 | .inl i,v,h=>by
  obtain⟨t,e⟩:=Value.isInt_shape (k:=i) (v:=v) h
  exact .inl ⟨i,t,rfl,e⟩
 | .inr x,v,h=>by
  obtain⟨t,e⟩:=Value.isStrOf_shape (x:=x) (v:=v) h
  exact .inr ⟨x,t,rfl,e⟩
theorem keyIs_int(i:Int)(t:Tok):keyIs (.inl i) (.int i t)=true:=by simp[keyIs,Value.isInt]
theorem keyIs_str(x:Str)(t:Tok):keyIs (.inr x) (.str x t)=true:=by simp[keyIs,Value.isStrOf]
theorem key_ll(a b:Int):decide ((Sum.inl a:Key)=Sum.inl b)=(a == b):=by
 by_cases e:a=b
 ·subst e;simp
 ·have h:¬ (Sum.inl a:Key)=Sum.inl b:=fun q=>e (Sum.inl.inj q)
  rw[decide_eq_false h]
  exact (beq_eq_false_iff_ne.mpr e).symm
theorem key_rr(a b:Str):decide ((Sum.inr a:Key)=Sum.inr b)=decide (a=b):=by
 by_cases e:a=b
 ·subst e;simp
 ·have h:¬ (Sum.inr a:Key)=Sum.inr b:=fun q=>e (Sum.inr.inj q)
  rw[decide_eq_false h,decide_eq_false e]
theorem key_lr(a:Int)(b:Str):decide ((Sum.inl a:Key)=Sum.inr b)=false:=decide_eq_false (fun q=>nomatch q)
theorem key_rl(a:Str)(b:Int):decide ((Sum.inr a:Key)=Sum.inl b)=false:=decide_eq_false (fun q=>nomatch q)
def mixKind(prog:Program)(w:World):PySem.KeyKind prog w Key where
 is:=keyIs
 hash:=keyH w
 inj:=fun v a b ha hb=>by
  rcases keyIs_shape ha with ⟨i,t,rfl,rfl⟩ | ⟨x,t,rfl,rfl⟩
  ·rcases keyIs_shape hb with ⟨j,u,rfl,e⟩ | ⟨y,u,rfl,e⟩
   ·injection e with e1 _;rw[e1]
   ·exact nomatch e
  ·rcases keyIs_shape hb with ⟨j,u,rfl,e⟩ | ⟨y,u,rfl,e⟩
   ·exact nomatch e
   ·injection e with e1 _;rw[e1]
 byValue:=fun k v h=>by
  rcases keyIs_shape h with ⟨i,t,rfl,rfl⟩ | ⟨x,t,rfl,rfl⟩<;>rfl
 pyHash:=fun hv h=>by
  rcases keyIs_shape hv with ⟨i,t,rfl,rfl⟩ | ⟨x,t,rfl,rfl⟩
  ·exact wpAny_pyHash_int h
  ·exact wpAny_pyHash_str h
 eqBool:=fun hu hv h=>by
  rcases keyIs_shape hu with ⟨i,t,rfl,rfl⟩ | ⟨x,t,rfl,rfl⟩
  ·rcases keyIs_shape hv with ⟨j,u,rfl,rfl⟩ | ⟨y,u,rfl,rfl⟩
   ·rw[key_ll] at h;exact wpAny_eqBool_int h
   ·rw[key_lr] at h;exact SeqAt.EqAt.int_str i t y u _ _ _ _ h
  ·rcases keyIs_shape hv with ⟨j,u,rfl,rfl⟩ | ⟨y,u,rfl,rfl⟩
   ·rw[key_rl] at h;exact SeqAt.EqAt.str_int x t j u _ _ _ _ h
   ·rw[key_rr] at h;exact wpAny_eqBool_str h
 «strs»:=fun k x t v h=>by
  rcases keyIs_shape h with ⟨i,u,rfl,e⟩ | ⟨y,u,rfl,e⟩
  ·exact nomatch e
  ·injection e with e1 _
   subst e1
   cases v<;>rfl
theorem mixKind_int(prog:Program)(w:World)(i:Int)(t:Tok):(mixKind prog w).is (.inl i) (.int i t)=true:=keyIs_int i t
theorem mixKind_str(prog:Program)(w:World)(x:Str)(t:Tok):(mixKind prog w).is (.inr x) (.str x t)=true:=keyIs_str x t
end L2
namespace L2
open PySem PySem.Spec PyProof.Rows
inductive V where
 | non | bl (b:Bool) | int (i:Int) | str (x:Str) | byt (b:Array UInt8) | flt (b:UInt64) | ref (a:Addr) | ty (n:String)
 deriving DecidableEq
def RelV:V→Value→Prop
 | .non,u=>u=Value.none
 | .bl b,u=>u=Value.bool b
 | .int i,u=>∃ t,u=Value.int i t
 | .str x,u=>∃ t,u=Value.str x t
 | .byt b,u=>∃ t,u=Value.bytes b t
 | .flt b,u=>∃ t,u=Value.float b t
 | .ref a,u=>u=Value.ref a
 | .ty n,u=>u=Value.type n
abbrev Vals:List V→List Value→Prop:=Paired RelV
theorem Vals.length{xs:List V}{us:List Value}(r:Vals xs us):xs.length=us.length:=Paired.length r
theorem Vals.get:∀{xs:List V}{us:List Value}{i:Nat}{x:V},Vals xs us→xs[i]?=some x→∃ u,us[i]?=some u∧RelV x u
 | _,_,_,_,.nil,e=>by simp at e
 | _,_,0,_,.cons r _,e=>by simp at e;subst e;exact⟨_,rfl,r⟩
 | _,_,i+1,x,.cons _ t,e=>by
  obtain⟨u,h1,h2⟩:=Vals.get (i:=i) (x:=x) t (by simpa using e)
  exact⟨u,by simpa using h1,h2⟩
theorem Vals.set{x:V}{u:Value}(r:RelV x u):∀{xs:List V}{us:List Value}(i:Nat),Vals xs us→Vals (xs.set i x) (us.set i u)
 | _,_,_,.nil=>.nil
 | _,_,0,.cons _ t=>.cons r t
 | _,_,i+1,.cons q t=>.cons q (Vals.set r i t)
theorem Vals.append:∀{xs ys:List V}{us ws:List Value},Vals xs us→Vals ys ws→Vals (xs++ys) (us++ws)
 | _,_,_,_,.nil,s=>s
 | _,_,_,_,.cons r t,s=>.cons r (Vals.append t s)
theorem Vals.take:∀{xs:List V}{us:List Value}(n:Nat),Vals xs us→Vals (xs.take n) (us.take n)
 | _,_,0,_=>.nil
 | _,_,_+1,.nil=>.nil
 | _,_,n+1,.cons r t=>.cons r (Vals.take n t)
theorem Vals.drop:∀{xs:List V}{us:List Value}(n:Nat),Vals xs us→Vals (xs.drop n) (us.drop n)
 | _,_,0,r=>r
 | _,_,_+1,.nil=>.nil
 | _,_,n+1,.cons _ t=>Vals.drop n t
def RelO:Option V→Option Value→Prop
 | some v,some u=>RelV v u
 | none,none=>True
 | _,_=>False
def KV{κ:Type}:List (κ×V)→List (κ×Value)→Prop:=Paired fun (p:κ×V) (q:κ×Value)=>p.1=q.1∧RelV p.2 q.2
def kV:Key→V
 | .inl i=>.int i
 | .inr x=>.str x
inductive HO where
 | lst (xs:List V)
 | tup (xs:List V)
 | dK (kvs:List (Key×V)) | dT (kvs:List (List Key×V))
 | set (S:Int→Bool) (n:Nat)
 | ins (C dx:Addr) (fs:List (Str×V))
 | own (x:Addr)
 | xd (fs:List (Str×V))
 | met (f x:Addr)
 | rng (lo hi:Int)
 | frz (o:Obj) (u:HO)
 | tbl (ps:Array Value)
 | ext (φ:Heap→Prop)
abbrev Hp:=Addr→Option HO
def upd(H:Hp)(a:Addr)(o:HO):Hp:=fun b=>if b=a then some o else H b
theorem upd_same{H:Hp}{a:Addr}{o:HO}:upd H a o a=some o:=by unfold upd;rw[if_pos rfl]
theorem upd_ne{H:Hp}{a b:Addr}{o:HO}(h:b≠a):upd H a o b=H b:=by unfold upd;rw[if_neg h]
theorem ne_of{H:Hp}{a b:Addr}{o u:HO}(h:H a=some o)(h':H b=some u)(d:o≠u):a≠b:=by
 intro e;subst e;rw[h] at h';exact d (Option.some.inj h')
theorem ne_of_none{H:Hp}{a b:Addr}{o:HO}(h:H a=some o)(h':H b=none):a≠b:=by
 intro e;subst e;rw[h] at h';cases h'
section
variable (P:Program)(w:World)
def ObjOk(H:Hp)(h:Heap)(a:Addr):HO→Prop
 | .lst xs=>xs.length≤sizeLine∧∃(its:List Value)(n:Nat),Vals xs its∧h.get? a=some { cls:=.type "list", data:=.seq its.toArray n }
 | .tup xs=>xs.length≤sizeLine∧∃ its:List Value,Vals xs its∧IsTup h a its.toArray
 | .dK kvs=>kvs.length≤sizeLine∧(a == sysModules)=false∧∃ vs,KV kvs vs∧h.DictOf (mixKind P w) a vs
 | .dT kvs=>kvs.length≤sizeLine∧(a == sysModules)=false∧∃ xs:List (List Key×Addr×Value),
   Paired (fun (p:List Key×V) (q:List Key×Addr×Value)=>p.1=q.1∧H q.2.1=some (.tup (p.1.map kV))∧RelV p.2 q.2.2) kvs xs ∧
   ∃ o es ep,h.get? a=some o∧o.ExactDict∧o.data=.dict es ep∧es.toList=xs.map (entryOfKey (tupleKind (mixKind P w)))∧(xs.map (·.1)).Nodup
 | .set S n=>h.SetOf (intKind P w) a S n
 | .ins C dx fs=>H dx=some (.own a)∧fs.length≤1000∧dx≠a∧h.get? a=some (PySem.W.instObj C dx) ∧
   ∃ mA,h.Ns1 dx mA∧(∀ f,RelO (fs.lookup f) (mA f))∧PySem.Within mA (fs.map (·.1))
 | .own _=>∃ o,h.get? a=some o
 | .xd fs=>∃ mA,h.Ns1 a mA∧∀ f,RelO (fs.lookup f) (mA f)
 | .rng lo hi=>∃ t u v,h.get? a=some { cls:=.type "range", data:=.fields #[.int lo t,.int hi u,.int 1 v] }
 | .frz o u=>h.get? a=some o∧ObjOk H h a u
 | .tbl ps=>h.get? a=some { cls:=.none,data:=.fields ps }
 | .met f x=>h.get? a=some (PySem.W.methodObj (.ref f) (.ref x))
 | .ext φ=>φ h∧(∃ o,h.get? a=some o)∧∀ h1 h2:Heap,φ h1→(∀ o,h1.get? a=some o→h2.get? a=some o)→φ h2
def HOk(H:Hp)(h:Heap):Prop:=∀ a o,H a=some o→ObjOk P w H h a o
end
section
variable {P:Program}{w:World}{H H':Hp}{h h':Heap}{a:Addr}{o:HO}
theorem ObjOk.lt(x:ObjOk P w H h a o):a < h.objs.size:=by
 cases o with
 | lst xs=>obtain⟨_,_,_,_,e⟩:=x;exact Heap.lt_size e
 | tup xs=>obtain⟨_,_,_,p⟩:=x;exact p.lt
 | dK kvs=>obtain⟨_,_,_,_,o,_,_,e,_⟩:=x;exact Heap.lt_size e
 | dT kvs=>obtain⟨_,_,_,_,o,_,_,e,_⟩:=x;exact Heap.lt_size e
 | set S n=>obtain⟨o,_,_,_,e,_⟩:=x;exact Heap.lt_size e
 | ins C dx fs=>obtain⟨_,_,_,e,_⟩:=x;exact Heap.lt_size e
 | own y=>obtain⟨_,e⟩:=x;exact Heap.lt_size e
 | xd fs=>obtain⟨_,⟨_,_,_,e,_⟩,_⟩:=x;exact Heap.lt_size e
 | rng lo hi=>obtain⟨_,_,_,e⟩:=x;exact Heap.lt_size e
 | frz ob u=>obtain⟨e,_⟩:=x;exact Heap.lt_size e
 | tbl ps=>exact Heap.lt_size (show h.get? a=some _ from x)
 | met f y=>exact Heap.lt_size (show h.get? a=some _ from x)
 | ext φ=>obtain⟨_,⟨_,e⟩,_⟩:=x;exact Heap.lt_size e
theorem Paired.mapP{α β:Type}{F G:α→β→Prop}:∀{l₁:List α}{l₂:List β},Paired F l₁ l₂→(∀ a b,F a b→G a b)→Paired G l₁ l₂
 | _,_,.nil,_=>.nil
 | _,_,.cons r t,f=>.cons (f _ _ r) (Paired.mapP t f)
theorem ObjOk.stay(x:ObjOk P w H h a o)(k:∀ b u,(b=a∨H b=some (.own a))→h.get? b=some u→h'.get? b=some u)
  (ho:∀ b,H b=some (.own a)→H' b=some (.own a)) (ht:∀ b xs,H b=some (.tup xs)→H' b=some (.tup xs)):ObjOk P w H' h' a o:=by
 induction o with
 | lst xs=>obtain⟨z,its,n,r,e⟩:=x;exact⟨z,its,n,r,k _ _ (.inl rfl) e⟩
 | tup xs=>obtain⟨z,its,r,ob,e,c⟩:=x;exact⟨z,its,r,ob,k _ _ (.inl rfl) e,c⟩
 | dK kvs=>obtain⟨z,y,vs,r,ob,es,ep,e,c⟩:=x;exact⟨z,y,vs,r,ob,es,ep,k _ _ (.inl rfl) e,c⟩
 | dT kvs =>
  obtain⟨z,y,xs,r,ob,es,ep,e,c⟩:=x
  exact⟨z,y,xs,Paired.mapP r fun p q z=>⟨z.1,ht _ _ z.2.1,z.2.2⟩,ob,es,ep,k _ _ (.inl rfl) e,c⟩
 | set S n=>obtain⟨ob,es,ep,t,e,c⟩:=x;exact⟨ob,es,ep,t,k _ _ (.inl rfl) e,c⟩
 | ins C dx fs =>
  obtain⟨d,z,ne,e,mA,⟨od,es,ep,e2,c⟩,r⟩:=x
  exact⟨ho _ d,z,ne,k _ _ (.inl rfl) e,mA,⟨od,es,ep,k _ _ (.inr d) e2,c⟩,r⟩
 | own y=>obtain⟨ob,e⟩:=x;exact⟨ob,k _ _ (.inl rfl) e⟩
 | xd fs=>obtain⟨mA,⟨od,es,ep,e,c⟩,r⟩:=x;exact⟨mA,⟨od,es,ep,k _ _ (.inl rfl) e,c⟩,r⟩
 | rng lo hi=>obtain⟨t,u,v,e⟩:=x;exact⟨t,u,v,k _ _ (.inl rfl) e⟩
 | frz ob u ih=>obtain⟨e,q⟩:=x;exact⟨k _ _ (.inl rfl) e,ih q⟩
 | tbl ps =>
  have e:h.get? a=some { cls:=.none,data:=.fields ps }:=x
  show h'.get? a=some { cls:=.none,data:=.fields ps }
  exact k a _ (.inl rfl) e
 | met f y =>
  have e:h.get? a=some (PySem.W.methodObj (.ref f) (.ref y)):=x
  show h'.get? a=some (PySem.W.methodObj (.ref f) (.ref y))
  exact k a _ (.inl rfl) e
 | ext φ=>obtain⟨p,⟨o,e⟩,st⟩:=x;exact⟨st _ _ p fun o q=>k _ _ (.inl rfl) q,⟨o,k _ _ (.inl rfl) e⟩,st⟩
theorem HOk.lt(x:HOk P w H h)(e:H a=some o):a < h.objs.size:=(x a o e).lt
theorem HOk.fresh(x:HOk P w H h)(e:h.objs.size≤a):H a=none:=by
 cases q:H a with
 | none=>rfl
 | some u=>exact absurd (Nat.lt_of_lt_of_le (x.lt q) e) (Nat.lt_irrefl _)
theorem HOk.kept(x:HOk P w H h)(k:∀ b u,h.get? b=some u→h'.get? b=some u):HOk P w H h':=fun a o e =>
 (x a o e).stay (fun b u _ q=>k b u q) (fun _ q=>q) fun _ _ q=>q
theorem HOk.laid(x:HOk P w H h)(k:∀ b u,h.get? b=some u→h'.get? b=some u)(hp:h.objs.size≤a)(new:ObjOk P w (upd H a o) h' a o):HOk P w (upd H a o) h':=fun b u e=>by
 have hn:=x.fresh hp
 by_cases hb:b=a
 ·subst hb;rw[upd_same] at e;cases e;exact new
 ·rw[upd_ne hb] at e
  exact (x b u e).stay (fun c v _ q=>k c v q) (fun c q=>by rw[upd_ne (ne_of_none q hn)];exact q) fun c xs q=>by rw[upd_ne (ne_of_none q hn)];exact q
end
def Rd(H:Hp)(a:Addr)(u:HO):Prop:=H a=some u∨∃ o,H a=some (.frz o u)
theorem Rd.ok{P:Program}{w:World}{H:Hp}{h:Heap}{a:Addr}{u:HO}(r:Rd H a u)(x:HOk P w H h):ObjOk P w H h a u:=by
 rcases r with r | ⟨o,r⟩
 ·exact x a u r
 ·obtain⟨_,q⟩:=x a _ r
  exact q
def Mut:Option HO→Prop
 | some (.lst _)=>True
 | some (.dK _)=>True
 | some (.dT _)=>True
 | some (.set _ _)=>True
 | some (.ins _ _ _)=>True
 | some (.ext _)=>True
 | _=>False
section
variable {P:Program}{w:World}{H:Hp}{h h':Heap}{x e:Addr}{o':HO}
theorem HOk.write(ok:HOk P w H h)(mu:Mut (H x))(he:e=x∨H e=some (.own x))(k:∀ b u,b≠e→h.get? b=some u→h'.get? b=some u)(heo:∃ u,h'.get? e=some u)
  (new:ObjOk P w (upd H x o') h' x o'):HOk P w (upd H x o') h':=fun b u q=>by
 have nown:∀ c y,H c=some (.own y)→c≠x:=fun c y r z=>by subst z;rw[r] at mu;exact mu
 have ntup:∀ c xs,H c=some (.tup xs)→c≠x:=fun c xs r z=>by subst z;rw[r] at mu;exact mu
 by_cases hb:b=x
 ·subst hb;rw[upd_same] at q;cases q;exact new
 ·rw[upd_ne hb] at q
  by_cases hbe:b=e
  ·have q':H b=some (.own x):=by
    rcases he with z | z
    ·exact absurd (hbe.trans z) hb
    ·rw[hbe];exact z
   rw[q] at q';cases q'
   obtain⟨v,hv⟩:=heo
   exact⟨v,by rw[hbe];exact hv⟩
  ·refine (ok b u q).stay (fun c v hc r=>k c v ?_ r) (fun c r=>by rw[upd_ne (nown c b r)];exact r) fun c xs r=>by rw[upd_ne (ntup c xs r)];exact r
   rcases hc with rfl | hc
   ·exact hbe
   ·rintro rfl
    rcases he with z | z
    ·exact nown c b hc z
    ·rw[hc] at z;cases z;exact hb rfl
end
structure Un(fs ex:List Addr)(H H':Hp)(h h':Heap):Prop where
 keep:∀ b o,h.get? b=some o→H b=none→b∉fs→b∉ex→h'.get? b=some o
 slot:∀ b o,h.get? b=some o→H b=none→b∈fs→b∉ex→∃ sl,h'.get? b=some { o with slots:=sl }
 free:∀ b o,h.get? b=some o→H b=none→b∉ex→H' b=none
 there:∀ b o,h.get? b=some o→b∉ex→∃ o',h'.get? b=some o'
 tups:∀ b xs,H b=some (.tup xs)→H' b=some (.tup xs)
 frzs:∀ b o u,H b=some (.frz o u)→H' b=some (.frz o u)
 tbls:∀ b ps,H b=some (.tbl ps)→∃ more,H' b=some (.tbl (ps++more))
section
variable {fs fs' ex ex':List Addr}{H H1 H2:Hp}{h h1 h2 h':Heap}{a x e:Addr}{o:HO}
theorem Un.any(u:Un fs ex H H1 h h1){b:Addr}{ob:Obj}(q:h.get? b=some ob)(n:H b=none)(hx:b∉ex):∃ sl,h1.get? b=some { ob with slots:=sl }:=by
 by_cases hb:b∈fs
 ·exact u.slot b ob q n hb hx
 ·exact⟨ob.slots,u.keep b ob q n hb hx⟩
theorem Un.kept(k:∀ b u,h.get? b=some u→h'.get? b=some u):Un fs ex H H h h' :=
 ⟨fun b ob q _ _ _=>k b ob q,fun b ob q _ _ _=>⟨ob.slots,k b ob q⟩,fun _ _ _ n _=>n,fun b ob q _=>⟨ob,k b ob q⟩,fun _ _ q=>q,fun _ _ _ q=>q,fun _ ps q=>⟨#[],by rw[q];simp⟩⟩
theorem Un.refl:Un fs ex H H h h:=Un.kept fun _ _ q=>q
theorem Un.laid(k:∀ b u,h.get? b=some u→h'.get? b=some u)(hp:h.objs.size≤a)(hn:H a=none):Un fs ex H (upd H a o) h h' where
 keep:=fun b u q _ _ _=>k b u q
 slot:=fun b u q _ _ _=>⟨u.slots,k b u q⟩
 free:=fun b u q n _=>by rw[upd_ne (Nat.ne_of_lt (Nat.lt_of_lt_of_le (Heap.lt_size q) hp))];exact n
 there:=fun b u q _=>⟨u,k b u q⟩
 tups:=fun b xs q=>by rw[upd_ne (ne_of_none q hn)];exact q
 frzs:=fun b u xs q=>by rw[upd_ne (ne_of_none q hn)];exact q
 tbls:=fun b ps q=>⟨#[],by rw[upd_ne (ne_of_none q hn),q];simp⟩
theorem Un.write(mu:Mut (H x))(he:e=x∨H e=some (.own x))(k:∀ b u,b≠e→h.get? b=some u→h'.get? b=some u)(heo:∃ u,h'.get? e=some u):Un fs ex H (upd H x o) h h':=by
 have hx:∀ b,H b=none→b≠x:=fun b n z=>by subst z;rw[n] at mu;exact mu
 have hb:∀ b,H b=none→b≠e:=fun b n z=>by
  subst z
  rcases he with r | r
  ·exact hx b n r
  ·rw[n] at r;cases r
 have hm:∀ b u,H b=some u→¬ Mut (some u)→b≠x:=fun b u q nm z=>by subst z;rw[q] at mu;exact nm mu
 refine⟨fun b u q n _ _=>k b u (hb b n) q,fun b u q n _ _=>⟨u.slots,k b u (hb b n) q⟩,fun b u q n _=>by rw[upd_ne (hx b n)];exact n,fun b u q _=>?_,
  fun b xs q=>by rw[upd_ne (hm b _ q fun z=>z)];exact q,fun b u xs q=>by rw[upd_ne (hm b _ q fun z=>z)];exact q,fun b ps q=>⟨#[],by rw[upd_ne (hm b _ q fun z=>z),q];simp⟩⟩
 by_cases hbe:b=e
 ·subst hbe;exact heo
 ·exact⟨u,k b u hbe q⟩
end
def trk(h:Heap)(H:Hp):List Addr:=(List.range h.objs.size).filter fun a=>(H a).isSome
def hidT(h:Heap)(H:Hp):Heap:=PySem.W.hideAll h (trk h H)
theorem hidT_size(h:Heap)(H:Hp):(hidT h H).objs.size=h.objs.size:=PySem.W.hideAll_size _ _
theorem hidT_get{h:Heap}{H:Hp}{b:Addr}{o:Obj}(e:h.get? b=some o)(n:H b=none):(hidT h H).get? b=some o :=
 PySem.W.hideAll_get _ e fun hm=>by
  have q:(H b).isSome=true:=(List.mem_filter.mp hm).2
  rw[n] at q;simp at q
theorem of_hidT{h:Heap}{H:Hp}{b:Addr}{o:Obj}(e:(hidT h H).get? b=some o):h.get? b=some o∧H b=none:=by
 have e':h.get? b=some o:=PySem.W.of_hideAll (trk h H) e
 refine⟨e',?_⟩
 cases q:H b with
 | none=>rfl
 | some x =>
  have hm:b∈trk h H:=List.mem_filter.mpr ⟨List.mem_range.mpr (Heap.lt_size e'),by simp[q]⟩
  have z:(hidT h H).get? b=none:=PySem.W.hideAll_none (trk h H) hm
  rw[z] at e;cases e
def allNews(g h:Heap)(L:Addr):List (Addr×Obj):=(List.range h.objs.size).filterMap fun a=>if a=L∨(g.get? a).isSome=true then none else (h.get? a).map fun o=>(a,o)
def rest(g h:Heap)(L d:Addr):List (Addr×Obj):=(allNews g h L).filter fun p=>decide (p.1≠d)
end L2
namespace L2
open PySem PySem.Spec PyProof.Rows
structure Mod(K:PySem.W.Frag)(mg:Str→Option Value)(base:Heap):Prop where
 kin:K.In base
 glob:base.Ns mainGlobals mg
 blt:∃ mb,base.Ns builtinsNs mb∧∀ x:Str,x ≠ "__name__" → mb x=bootBuiltins x
 nolimit:base.NoLimit
structure Cx where
 prog:Program
 w:World
 K:PySem.W.Frag
 mg:Str→Option Value
 base:Heap
 A:Around
 N:List Str
 s₀:Shared
 H₀:Hp
 env:Env
 outer:List Env
 stack:List Env
 ex:List Addr
 fn:Str→Bool
 calm:Bool
 pn:List (Addr×Obj)
 xe:Value→Shared→Prop
def frs(l:List Env):List Addr:=l.filterMap (·.frame)
abbrev Cx.fs(X:Cx):List Addr:=frs X.outer
def Vis(sc:Scope)(x:Str):Prop:=sc.names.lookup x=some .local∨sc.names.lookup x=some .cell∨sc.names.lookup x=some .free
def Loc(sc:Scope)(x:Str):Prop:=sc.names.lookup x=some .local∨sc.names.lookup x=some .cell
def Look(env:Env)(h:Heap)(m:Str→Option Value)(x:Str)(u:Value):Prop :=
 (env.kindOf x=some .local∧m x=some u)∨((env.kindOf x=some .cell∨env.kindOf x=some .free)∧∃ c,env.cells.lookup x=some c∧h.IsCell c (some u))
structure Cx.Ok(X:Cx):Prop where
 mod:Mod X.K X.mg X.base
 kind:X.env.scope.kind=.function
 glob:X.env.globals=mainGlobals
 blt:X.env.builtins=builtinsNs
 above:X.s₀.heap.objs.size≤X.env.locals
 inj:∀ x y c,X.env.cells.lookup x=some c→X.env.cells.lookup y=some c→x=y
 has:∀ x,(X.env.kindOf x=some .cell∨X.env.kindOf x=some .free)→∃ c,X.env.cells.lookup x=some c
 cab:∀ x c,X.fn x=true→X.env.cells.lookup x=some c→X.s₀.heap.objs.size≤c
 hd:X.calm=true→X.A.handled=none
 frames:X.A.frames=some X.stack
 stk:X.stack=X.outer∨(X.stack=X.env::X.outer∧X.env.frame=some X.env.locals)
 exf:∀ b∈X.ex,b≠X.env.locals∧∀ x c,X.env.cells.lookup x=some c→c≠b
 bs:∀ b o,X.base.get? b=some o→X.s₀.heap.get? b=some o∧X.H₀ b=none
 bsz:X.base.objs.size≤X.s₀.heap.objs.size
 noex:∀ b o,X.base.get? b=some o→b∉X.ex
 exfs:∀ b∈X.ex,b∉X.fs
 funs:X.s₀.heap.FunFrames X.base X.outer
 frf:∀ b∈X.fs,X.H₀ b=none
structure Inv(X:Cx)(pins:List (Addr×Obj))(σ:List (Option V))(H:Hp)(s:Shared):Prop where
 ok:X.Ok
 os:s.os=X.s₀.os
 bare:AllBare s.gens
 base:Un X.fs X.ex X.H₀ H X.s₀.heap s.heap
 loc:∃ m,s.heap.Ns X.env.locals m∧∀(i:Nat)(x:Str)(v:V),X.N[i]?=some x→σ[i]?=some (some v)→Vis X.env.scope x→∃ u,RelV v u∧Look X.env s.heap m x u
 cell:∀ x c,X.env.cells.lookup x=some c→∃ v,s.heap.IsCell c v
 free:H X.env.locals=none
 freeC:∀ x c,X.env.cells.lookup x=some c→H c=none
 pin:∀ p∈X.pn++pins,s.heap.get? p.1=some p.2∧H p.1=none∧p.1≠X.env.locals∧p.1∉X.fs∧∀ v,p.2.data≠.cell v
 hok:HOk X.prog X.w H s.heap
 len:σ.length=X.N.length
section
variable {X:Cx}{pins:List (Addr×Obj)}{σ:List (Option V)}{H H':Hp}{s:Shared}{h':Heap}
theorem Cx.Ok.nofr(ok:X.Ok){b:Addr}{o:Obj}(e:X.base.get? b=some o):b∉X.fs:=fun hb=>by
 have:=(ok.funs.mem hb).1
 rw[e] at this;cases this
theorem Inv.bs(I:Inv X pins σ H s):∀ b o,X.base.get? b=some o→s.heap.get? b=some o∧H b=none:=fun b o e =>
 ⟨I.base.keep b o (I.ok.bs b o e).1 (I.ok.bs b o e).2 (I.ok.nofr e) (I.ok.noex b o e),I.base.free b o (I.ok.bs b o e).1 (I.ok.bs b o e).2 (I.ok.noex b o e)⟩
theorem Inv.bk(I:Inv X pins σ H s):∀ b o,X.base.get? b=some o→s.heap.get? b=some o:=fun b o e=>(I.bs b o e).1
theorem Inv.mod(I:Inv X pins σ H s):Mod X.K X.mg X.base:=I.ok.mod
theorem Inv.kIn(I:Inv X pins σ H s):X.K.In s.heap:=I.ok.mod.kin.keeps I.bk
theorem Inv.lt(I:Inv X pins σ H s):X.env.locals < s.heap.objs.size:=let ⟨_,hn,_⟩:=I.loc;hn.lt
theorem Inv.sz(I:Inv X pins σ H s):X.s₀.heap.objs.size≤s.heap.objs.size:=Nat.le_trans I.ok.above (Nat.le_of_lt I.lt)
theorem Inv.nofs(I:Inv X pins σ H s){a:Addr}(h:s.heap.objs.size≤a):a∉X.fs:=fun hb=>by
 obtain⟨_,o,ho,_⟩:=I.ok.funs.mem hb
 exact absurd (Nat.lt_of_lt_of_le (Heap.lt_size ho) (Nat.le_trans I.sz h)) (Nat.lt_irrefl _)
theorem Inv.cne(I:Inv X pins σ H s):∀ x c,X.env.cells.lookup x=some c→c≠X.env.locals:=fun x c e z=>by
 obtain⟨v,o,ho,hd⟩:=I.cell x c e
 obtain⟨m,⟨o',es,ep,ho',hd',_⟩,_⟩:=I.loc
 rw[z,ho'] at ho;cases ho;rw[hd'] at hd;cases hd
theorem Inv.funs(I:Inv X pins σ H s):s.heap.FunFrames X.base X.outer:=by
 have all:∀(l:List Env),(∀ b∈frs l,b∈X.fs)→X.s₀.heap.FunFrames X.base l→s.heap.FunFrames X.base l:=by
  intro l
  induction l with
  | nil=>intro _ _;trivial
  | cons env r ih =>
   intro hs hl
   obtain⟨hk,⟨L,o,hf,hn,ho,hd⟩,hr⟩:=hl
   have hL:L∈X.fs:=hs L (by unfold frs;rw[List.filterMap_cons,hf];exact List.mem_cons_self)
   obtain⟨sl,e⟩:=I.base.slot L o ho (I.ok.frf L hL) hL fun z=>I.ok.exfs L z hL
   exact⟨hk,⟨L,_,hf,hn,e,hd⟩,ih (fun b hb=>hs b (by unfold frs;rw[List.filterMap_cons,hf];exact List.mem_cons_of_mem _ hb)) hr⟩
 exact all X.outer (fun _ hb=>hb) I.ok.funs
theorem Inv.stack(I:Inv X pins σ H s):s.heap.FunFrames X.base X.stack:=by
 rcases I.ok.stk with e | ⟨e,hf⟩
 ·rw[e];exact I.funs
 ·rw[e]
  obtain⟨m,hn,_⟩:=I.loc
  refine .cons (by rw[I.ok.kind];decide) hf hn ?_ I.funs
  exact Heap.get?_none_of_le (Nat.le_trans I.ok.bsz I.ok.above)
theorem Inv.stkSub(I:Inv X pins σ H s):∀ b∈frs X.stack,b∈X.env.locals::X.fs:=fun b hb=>by
 rcases I.ok.stk with e | ⟨e,hf⟩
 ·rw[e] at hb;exact List.mem_cons_of_mem _ hb
 ·rw[e] at hb
  unfold frs at hb
  rw[List.filterMap_cons,hf] at hb
  exact hb
theorem Inv.stkFree(I:Inv X pins σ H s):∀ b∈frs X.stack,H b=none:=fun b hb=>by
 rcases List.mem_cons.mp (I.stkSub b hb) with e | hb
 ·rw[e];exact I.free
 ·obtain⟨_,o,ho,_⟩:=I.ok.funs.mem hb
  exact I.base.free b o ho (I.ok.frf b hb) fun z=>I.ok.exfs b z hb
theorem Inv.step{g':Array GenState}{t':Nat}{d':Drawn}{ch:List Addr}(I:Inv X pins σ H s)
  (hch:∀ b∈ch,(b∈X.ex∨X.s₀.heap.objs.size≤b)∧b≠X.env.locals∧(∀ x c,X.env.cells.lookup x=some c→c≠b)∧∀ p∈X.pn++pins,p.1≠b)
  (keep:∀ b o,b≠X.env.locals→b∉X.fs→b∉ch→s.heap.get? b=some o→H b=none→h'.get? b=some o)
  (slot:∀ b o,b≠X.env.locals→b∈X.fs→b∉ch→s.heap.get? b=some o→H b=none→∃ sl,h'.get? b=some { o with slots:=sl }) (free:∀ b o,b∉ch→s.heap.get? b=some o→H b=none→H' b=none)
  (there:∀ b o,b∉ch→s.heap.get? b=some o→∃ o',h'.get? b=some o')
  (tups:∀ b xs,H b=some (.tup xs)→H' b=some (.tup xs)) (frzs:∀ b o u,H b=some (.frz o u)→H' b=some (.frz o u)) (tbls:∀ b ps,H b=some (.tbl ps)→∃ more,H' b=some (.tbl (ps++more)))
  (ns:∀ m,s.heap.Ns X.env.locals m→h'.Ns X.env.locals m) (hok:HOk X.prog X.w H' h') (hg:AllBare g') :
  Inv X pins σ H' { s with heap:=h',gens:=g',drawn:=d',toks:=t' }:=by
 have neL:∀ b o,X.s₀.heap.get? b=some o→b≠X.env.locals:=fun b o e=>Nat.ne_of_lt (Nat.lt_of_lt_of_le (Heap.lt_size e) I.ok.above)
 have neC:∀ b o,X.s₀.heap.get? b=some o→b∉X.ex→b∉ch:=fun b o e hx hb=>by
  rcases (hch b hb).1 with z | z
  ·exact hx z
  ·exact absurd (Nat.lt_of_lt_of_le (Heap.lt_size e) z) (Nat.lt_irrefl _)
 have cellK:∀ x c,X.env.cells.lookup x=some c→∀ v,s.heap.IsCell c v→h'.IsCell c v:=fun x c e v ⟨o,ho,hd⟩=>by
  have nch:c∉ch:=fun z=>(hch c z).2.2.1 x c e rfl
  by_cases hc:c∈X.fs
  ·obtain⟨sl,q⟩:=slot c o (I.cne x c e) hc nch ho (I.freeC x c e)
   exact⟨_,q,hd⟩
  ·exact⟨o,keep c o (I.cne x c e) hc nch ho (I.freeC x c e),hd⟩
 refine⟨I.ok,I.os,hg,⟨fun b o e n hb hx=>?_,fun b o e n hb hx=>?_,fun b o e n hx=>?_,fun b o e hx=>?_,fun b xs e=>tups b xs (I.base.tups b xs e),fun b o xs e=>frzs b o xs (I.base.frzs b o xs e),fun b ps e=>?_⟩,?_,fun x c e=>?_,?_,fun x c e=>?_,fun p hp=>?_,hok,I.len⟩
 ·exact keep b o (neL b o e) hb (neC b o e hx) (I.base.keep b o e n hb hx) (I.base.free b o e n hx)
 ·obtain⟨sl,e1⟩:=I.base.slot b o e n hb hx
  obtain⟨sl',e2⟩:=slot b _ (neL b o e) hb (neC b o e hx) e1 (I.base.free b o e n hx)
  exact⟨sl',e2⟩
 ·obtain⟨o',e1⟩:=I.base.there b o e hx
  exact free b o' (neC b o e hx) e1 (I.base.free b o e n hx)
 ·obtain⟨o',e1⟩:=I.base.there b o e hx
  exact there b o' (neC b o e hx) e1
 ·obtain⟨m1,e1⟩:=I.base.tbls b ps e
  obtain⟨m2,e2⟩:=tbls b _ e1
  exact⟨m1++m2,by rw[e2,Array.append_assoc]⟩
 ·obtain⟨m,hn,hl⟩:=I.loc
  refine⟨m,ns m hn,fun i x v e1 e2 e3=>?_⟩
  obtain⟨u,r,l⟩:=hl i x v e1 e2 e3
  refine⟨u,r,?_⟩
  rcases l with l | ⟨k,c,e,z⟩
  ·exact .inl l
  ·exact .inr ⟨k,c,e,cellK x c e _ z⟩
 ·obtain⟨v,z⟩:=I.cell x c e
  exact⟨v,cellK x c e v z⟩
 ·obtain⟨m,⟨o,_,_,ho,_⟩,_⟩:=I.loc
  exact free _ o (fun z=>(hch _ z).2.1 rfl) ho I.free
 ·obtain⟨v,o,ho,hd⟩:=I.cell x c e
  exact free c o (fun z=>(hch c z).2.2.1 x c e rfl) ho (I.freeC x c e)
 ·obtain⟨e,n,ne,nf,d⟩:=I.pin p hp
  have nch:p.1∉ch:=fun z=>(hch p.1 z).2.2.2 p hp rfl
  exact⟨keep p.1 p.2 ne nf nch e n,free p.1 p.2 nch e n,ne,nf,d⟩
theorem Inv.un{t':Nat}(I:Inv X pins σ H s)(u:Un X.fs [] H H' s.heap h')(hok:HOk X.prog X.w H' h'):Inv X pins σ H' { s with heap:=h',toks:=t' }:=by
 obtain⟨m,⟨o,es,ep,ho,r⟩,_⟩:=id I.loc
 obtain⟨sl,hL⟩:=u.any ho I.free (by simp)
 exact I.step (g':=s.gens) (d':=s.drawn) (ch:=[]) (fun _ z=>nomatch z) (fun b o _ hb _ e n=>u.keep b o e n hb (by simp)) (fun b o _ hb _ e n=>u.slot b o e n hb (by simp)) (fun b o _ e n=>u.free b o e n (by simp)) (fun b o _ e=>u.there b o e (by simp)) u.tups u.frzs u.tbls (fun m' hm=>by
  obtain⟨o',es',ep',ho',r'⟩:=hm
  rw[ho] at ho';cases ho'
  exact⟨_,es',ep',hL,r'⟩) hok I.bare
theorem Inv.call{g':Array GenState}{t':Nat}{d':Drawn}{ch:List Addr}(I:Inv X pins σ H s)(u:Un (frs X.stack) ch H H' s.heap h')(hok:HOk X.prog X.w H' h')(hg:AllBare g')
  (hch:∀ b∈ch,(b∈X.ex∨X.s₀.heap.objs.size≤b)∧b≠X.env.locals∧(∀ x c,X.env.cells.lookup x=some c→c≠b)∧∀ p∈X.pn++pins,p.1≠b) :
  Inv X pins σ H' { s with heap:=h',gens:=g',drawn:=d',toks:=t' }:=by
 obtain⟨m,⟨o,es,ep,ho,r⟩,_⟩:=id I.loc
 obtain⟨sl,hL⟩:=u.any ho I.free fun z=>(hch _ z).2.1 rfl
 exact I.step (ch:=ch) hch (fun b o hL hb hc e n=>u.keep b o e n (fun z=>(List.mem_cons.mp (I.stkSub b z)).elim hL hb) hc) (fun b o _ _ hc e n=>u.any e n hc) (fun b o hc e n=>u.free b o e n hc) (fun b o hc e=>u.there b o e hc) u.tups u.frzs u.tbls (fun m' hm=>by
  obtain⟨o',es',ep',ho',r'⟩:=hm
  rw[ho] at ho';cases ho'
  exact⟨_,es',ep',hL,r'⟩) hok hg
theorem Inv.turned{t':Nat}{it:Addr}(I:Inv X pins σ H s)(k:∀ b o,b≠it→s.heap.get? b=some o→h'.get? b=some o)(hn:H it=none)(hL:it≠X.env.locals)
  (h1:it∈X.ex∨X.s₀.heap.objs.size≤it) (h2:∀ x c,X.env.cells.lookup x=some c→c≠it) (h3:∀ p∈X.pn++pins,p.1≠it):Inv X pins σ H { s with heap:=h',toks:=t' }:=by
 have nit:∀ b u,H b=some u→b≠it:=fun b u e z=>by rw[z,hn] at e;cases e
 refine I.step (g':=s.gens) (d':=s.drawn) (ch:=[it]) (fun b hb=>?_) (fun b o _ _ hc e _=>k b o (fun z=>hc (by simp[z])) e) (fun b o _ _ hc e _=>⟨o.slots,k b o (fun z=>hc (by simp[z])) e⟩) (fun _ _ _ _ n=>n)
  (fun b o hc e=>⟨o,k b o (fun z=>hc (by simp[z])) e⟩) (fun _ _ e=>e) (fun _ _ _ e=>e) (fun b ps e=>⟨#[],by rw[e];simp⟩) (fun m hm=>?_) (fun b u e=>?_) I.bare
 ·have e:b=it:=by simpa using hb
  subst e
  exact⟨h1,hL,h2,h3⟩
 ·obtain⟨o,es,ep,ho,r⟩:=hm
  exact⟨o,es,ep,k _ o (Ne.symm hL) ho,r⟩
 ·refine (I.hok b u e).stay (fun c v hc q=>k c v ?_ q) (fun _ q=>q) fun _ _ q=>q
  rcases hc with z | z
  ·rw[z];exact nit b u e
  ·exact nit c _ z
theorem Inv.tok(I:Inv X pins σ H s)(t:Nat):Inv X pins σ H { s with toks:=t }:=I.un (h':=s.heap) (t':=t) Un.refl I.hok
theorem Inv.kept{t':Nat}(I:Inv X pins σ H s)(k:∀ b u,s.heap.get? b=some u→h'.get? b=some u):Inv X pins σ H { s with heap:=h',toks:=t' }:=I.un (Un.kept k) (I.hok.kept k)
theorem Inv.laid{a:Addr}{o:HO}{t':Nat}(I:Inv X pins σ H s)(k:∀ b u,s.heap.get? b=some u→h'.get? b=some u)(hp:s.heap.objs.size≤a)(new:ObjOk X.prog X.w (upd H a o) h' a o) :
  Inv X pins σ (upd H a o) { s with heap:=h',toks:=t' }:=I.un (Un.laid k hp (I.hok.fresh hp)) (I.hok.laid k hp new)
theorem Inv.write{x e:Addr}{o:HO}{t':Nat}(I:Inv X pins σ H s)(mu:Mut (H x))(he:e=x∨H e=some (.own x))(k:∀ b u,b≠e→s.heap.get? b=some u→h'.get? b=some u)(heo:∃ u,h'.get? e=some u)
  (new:ObjOk X.prog X.w (upd H x o) h' x o):Inv X pins σ (upd H x o) { s with heap:=h',toks:=t' }:=I.un (Un.write mu he k heo) (I.hok.write mu he k heo new)
theorem Inv.weak{σ':List (Option V)}(I:Inv X pins σ H s)(hl:σ'.length=σ.length)(w:∀(i:Nat) v,σ'[i]?=some (some v)→σ[i]?=some (some v)):Inv X pins σ' H s :=
 ⟨I.ok,I.os,I.bare,I.base,let ⟨m,hn,hl'⟩:=I.loc;⟨m,hn,fun i x v e1 e2 e3=>hl' i x v e1 (w i v e2) e3⟩,I.cell,I.free,I.freeC,I.pin,I.hok,hl.trans I.len⟩
theorem Inv.pins_of{pins':List (Addr×Obj)}(I:Inv X pins σ H s)(h:∀ p∈pins',s.heap.get? p.1=some p.2∧H p.1=none∧p.1≠X.env.locals∧p.1∉X.fs∧∀ v,p.2.data≠.cell v):Inv X pins' σ H s :=
 ⟨I.ok,I.os,I.bare,I.base,I.loc,I.cell,I.free,I.freeC,fun p hp=>(List.mem_append.mp hp).elim (fun z=>I.pin p (List.mem_append_left _ z)) (h p),I.hok,I.len⟩
theorem nodup_ix{N:List Str}(hN:N.Nodup){i j:Nat}{x:Str}(a:N[i]?=some x)(b:N[j]?=some x):i=j:=by
 obtain⟨h1,e1⟩:=List.getElem?_eq_some_iff.mp a
 obtain⟨h2,e2⟩:=List.getElem?_eq_some_iff.mp b
 exact (List.getElem_inj hN).mp (e1.trans e2.symm)
theorem store_ok2{M:Model}{A:Around}{E:Value→Shared→Prop}{i:Nat}{x:Str}{v:V}{u:Value}{Q:Unit→Shared→Prop}(I:Inv X pins σ H s)(hN:X.N.Nodup)(hi:X.N[i]?=some x)(hx:Loc X.env.scope x)(r:RelV v u)
  (h:∀ s',Inv X pins (σ.set i (some v)) H s'→(∃ a,Heap.SameBut a s.heap s'.heap∧(a=X.env.locals∨X.env.cells.lookup x=some a))→Q () s') (hf:X.fn x=true∨X.env.scope.names.lookup x=some .local:=by first | exact .inl rfl | exact .inr rfl | assumption):wpAny M A (storeName X.env x u) Q E s:=by
 obtain⟨m,hn,hl⟩:=id I.loc
 have hcls:(X.env.scope.kind == .class || (X.env.scope.kind == .module && X.env.locals != X.env.globals))=false:=by rw[I.ok.kind];rfl
 have hiσ:i < σ.length:=by rw[I.len];exact (List.getElem?_eq_some_iff.mp hi).1
 have cne:=I.cne
 have tracked:∀{a:Addr}{h':Heap},(∃ o,s.heap.get? a=some o∧H a=none)→Heap.SameBut a s.heap h'→HOk X.prog X.w H h':=fun {a h'} ha hs b ob e=>by
  obtain⟨_,_,hfree⟩:=ha
  refine (I.hok b ob e).stay (fun c w' hc q=>(hs.2 c ?_).trans q) (fun _ q=>q) fun _ _ q=>q
  rintro rfl
  rcases hc with rfl | hc
  ·rw[hfree] at e;cases e
  ·rw[hfree] at hc;cases hc
 rcases hx with hk | hk
 ·refine wpAny_storeName_local hk hn (fun h' hn' hs=>?_) hcls
  obtain⟨oL,_,_,hoL,_⟩:=id hn
  refine h _ ⟨I.ok,I.os,I.bare,⟨fun b o e n hb hx=>?_,fun b o e n hb hx=>?_,I.base.free,fun b o e hx=>?_,I.base.tups,I.base.frzs,I.base.tbls⟩,⟨_,hn',fun j y v' e1 e2 e3=>?_⟩,fun y c e=>?_,I.free,I.freeC,fun p hp=>?_,tracked ⟨oL,hoL,I.free⟩ hs,by simpa using I.len⟩ ⟨_,hs,.inl rfl⟩
  ·exact (hs.2 b (Nat.ne_of_lt (Nat.lt_of_lt_of_le (Heap.lt_size e) I.ok.above))).trans (I.base.keep b o e n hb hx)
  ·obtain⟨sl,e1⟩:=I.base.slot b o e n hb hx
   exact⟨sl,(hs.2 b (Nat.ne_of_lt (Nat.lt_of_lt_of_le (Heap.lt_size e) I.ok.above))).trans e1⟩
  ·obtain⟨o',e1⟩:=I.base.there b o e hx
   exact⟨o',(hs.2 b (Nat.ne_of_lt (Nat.lt_of_lt_of_le (Heap.lt_size e) I.ok.above))).trans e1⟩
  ·by_cases hj:j=i
   ·subst hj
    rw[hi] at e1;cases e1
    rw[List.getElem?_set_self hiσ] at e2
    cases e2
    exact⟨u,r,.inl ⟨hk,by simp⟩⟩
   ·rw[List.getElem?_set_ne (Ne.symm hj)] at e2
    obtain⟨u',r',q⟩:=hl j y v' e1 e2 e3
    refine⟨u',r',?_⟩
    rcases q with ⟨k,e⟩ | ⟨k,c,e,z⟩
    ·refine .inl ⟨k,?_⟩
     have:y≠x:=fun e=>hj (nodup_ix hN e1 (e▸hi))
     simp[this,e]
    ·exact .inr ⟨k,c,e,z.sameBut hs (cne y c e)⟩
  ·obtain⟨w',z⟩:=I.cell y c e
   exact⟨w',z.sameBut hs (cne y c e)⟩
  ·obtain⟨e,n,ne,nf,d⟩:=I.pin p hp
   exact⟨(hs.2 p.1 ne).trans e,n,ne,nf,d⟩
 ·have hfn:X.fn x=true:=by
   rcases hf with z | z
   ·exact z
   ·rw[z] at hk;cases hk
  obtain⟨c,hc⟩:=I.ok.has x (.inl hk)
  obtain⟨w',z⟩:=I.cell x c hc
  refine wpAny_storeName_cell I.ok.kind hk hc z (fun h' hc' hs=>?_)
  obtain⟨oc,hoc,hocd⟩:=id z
  refine h { s with heap:=h' } ⟨I.ok,I.os,I.bare,⟨fun b o e n hb hx=>?_,fun b o e n hb hx=>?_,I.base.free,fun b o e hx=>?_,I.base.tups,I.base.frzs,I.base.tbls⟩,⟨m,hn.sameBut hs (Ne.symm (cne x c hc)),fun j y v' e1 e2 e3=>?_⟩,fun y c' e=>?_,I.free,I.freeC,fun p hp=>?_,tracked ⟨oc,hoc,I.freeC x c hc⟩ hs,by simpa using I.len⟩ ⟨c,hs,.inr hc⟩
  ·exact (hs.2 b (Nat.ne_of_lt (Nat.lt_of_lt_of_le (Heap.lt_size e) (I.ok.cab x c hfn hc)))).trans (I.base.keep b o e n hb hx)
  ·obtain⟨sl,e1⟩:=I.base.slot b o e n hb hx
   exact⟨sl,(hs.2 b (Nat.ne_of_lt (Nat.lt_of_lt_of_le (Heap.lt_size e) (I.ok.cab x c hfn hc)))).trans e1⟩
  ·obtain⟨o',e1⟩:=I.base.there b o e hx
   exact⟨o',(hs.2 b (Nat.ne_of_lt (Nat.lt_of_lt_of_le (Heap.lt_size e) (I.ok.cab x c hfn hc)))).trans e1⟩
  ·by_cases hj:j=i
   ·subst hj
    rw[hi] at e1;cases e1
    rw[List.getElem?_set_self hiσ] at e2
    cases e2
    exact⟨u,r,.inr ⟨.inl hk,c,hc,hc'⟩⟩
   ·rw[List.getElem?_set_ne (Ne.symm hj)] at e2
    obtain⟨u',r',q⟩:=hl j y v' e1 e2 e3
    refine⟨u',r',?_⟩
    rcases q with q | ⟨k,c',e,z'⟩
    ·exact .inl q
    ·refine .inr ⟨k,c',e,z'.sameBut hs ?_⟩
     rintro rfl
     exact hj (nodup_ix hN e1 (I.ok.inj _ _ _ e hc▸hi))
  ·by_cases hcc:c'=c
   ·subst hcc;exact⟨_,hc'⟩
   ·obtain⟨w2,z2⟩:=I.cell y c' e
    exact⟨w2,z2.sameBut hs hcc⟩
  ·obtain⟨e,n,ne,nf,d⟩:=I.pin p hp
   refine⟨(hs.2 p.1 ?_).trans e,n,ne,nf,d⟩
   intro q
   rw[q,hoc] at e
   have q':oc=p.2:=Option.some.inj e
   exact d w' (by rw[← q'];exact hocd)
theorem store_ok{M:Model}{A:Around}{E:Value→Shared→Prop}{i:Nat}{x:Str}{v:V}{u:Value}{Q:Unit→Shared→Prop}(I:Inv X pins σ H s)(hN:X.N.Nodup)(hi:X.N[i]?=some x)(hx:Loc X.env.scope x)(r:RelV v u)
  (h:∀ s',Inv X pins (σ.set i (some v)) H s'→Q () s') (hf:X.fn x=true∨X.env.scope.names.lookup x=some .local:=by first | exact .inl rfl | exact .inr rfl | assumption):wpAny M A (storeName X.env x u) Q E s :=
 store_ok2 I hN hi hx r (fun s' I' _=>h s' I') hf
theorem Inv.call'{s':Shared}{ch:List Addr}(I:Inv X pins σ H s)(ho:s'.os=s.os)(u:Un (frs X.stack) ch H H' s.heap s'.heap)(hok:HOk X.prog X.w H' s'.heap)(hg:AllBare s'.gens)
  (hch:∀ b∈ch,(b∈X.ex∨X.s₀.heap.objs.size≤b)∧b≠X.env.locals∧(∀ x c,X.env.cells.lookup x=some c→c≠b)∧∀ p∈X.pn++pins,p.1≠b):Inv X pins σ H' s':=by
 obtain⟨h',g',d',t',o'⟩:=s'
 have e:o'=s.os:=ho
 subst e
 exact I.call (g':=g') (t':=t') (d':=d') u hok hg hch
end
abbrev XK:=Value→Option Addr→Hp→Prop
abbrev St:=List (Option V)
abbrev VK:=V→Hp→Prop
abbrev TE:=St→Hp→VK→Prop
abbrev TT:=St→Hp→(Bool→Hp→Prop)→Prop
abbrev TA:=St→Hp→(List V→Hp→Prop)→Prop
structure Ends where
 nx:St→Hp→Prop
 rt:VK
 bk:St→Hp→Prop:=fun _ _=>False
 ct:St→Hp→Prop:=fun _ _=>False
abbrev TS:=Ends→St→Hp→Prop
def EP(X:Cx)(pins:List (Addr×Obj))(σ:St)(Q:VK)(u:Value)(s':Shared):Prop:=∃ v H',Inv X pins σ H' s'∧RelV v u∧Q v H'
def TP(X:Cx)(pins:List (Addr×Obj))(σ:St)(Q:Bool→Hp→Prop)(b:Bool)(s':Shared):Prop:=∃ H',Inv X pins σ H' s'∧Q b H'
def AP(X:Cx)(pins:List (Addr×Obj))(σ:St)(Q:List V→Hp→Prop)(us:List Value)(s':Shared):Prop:=∃ vs H',Inv X pins σ H' s'∧Vals vs us∧Q vs H'
def SP(X:Cx)(pins:List (Addr×Obj))(D:Ends)(f:Flow)(s':Shared):Prop :=
 match f with
 | .next=>∃ σ' H',Inv X pins σ' H' s'∧D.nx σ' H'
 | .brk=>∃ σ' H',Inv X pins σ' H' s'∧D.bk σ' H'
 | .cont=>∃ σ' H',Inv X pins σ' H' s'∧D.ct σ' H'
 | .ret u=>∃ v σ' H',Inv X pins σ' H' s'∧RelV v u∧D.rt v H'
def PE(X:Cx)(e:Expr)(t:TE):Prop :=
 ∀ (pins:List (Addr×Obj)) (s:Shared) (σ:St) (H:Hp) (Q:VK),Inv X pins σ H s→t σ H Q→wpAny (model X.prog X.w) X.A (eval e X.env) (EP X pins σ Q) X.xe s
def PT(X:Cx)(e:Expr)(t:TT):Prop :=
 ∀ (pins:List (Addr×Obj)) (s:Shared) (σ:St) (H:Hp) (Q:Bool→Hp→Prop),Inv X pins σ H s→t σ H Q→wpAny (model X.prog X.w) X.A (isTrue e X.env (eval e X.env)) (TP X pins σ Q) X.xe s
def PW(X:Cx)(e:Expr)(t:TT):Prop :=
 ∀(whole:Sem Value) (pins:List (Addr×Obj)) (s:Shared) (σ:St) (H:Hp) (Q:Bool→Hp→Prop),Inv X pins σ H s→t σ H Q→wpAny (model X.prog X.w) X.A (isTrue e X.env whole) (TP X pins σ Q) X.xe s
theorem PW.pt{X:Cx}{e:Expr}{t:TT}(h:PW X e t):PT X e t:=h _
def PA(X:Cx)(es:List Expr)(t:TA):Prop :=
 ∀(pos:Pos) (pins:List (Addr×Obj)) (s:Shared) (σ:St) (H:Hp) (Q:List V→Hp→Prop),Inv X pins σ H s→t σ H Q→wpAny (model X.prog X.w) X.A (spliced (backTo pos (starEach es X.env))) (AP X pins σ Q) X.xe s
def PS(X:Cx)(st:Stmt)(t:TS):Prop :=
 ∀ (pins:List (Addr×Obj)) (s:Shared) (σ:St) (H:Hp) (D:Ends),Inv X pins σ H s→t D σ H→wpAny (model X.prog X.w) X.A (exec st X.env) (SP X pins D) X.xe s
def PSs(X:Cx)(st:List Stmt)(t:TS):Prop :=
 ∀ (pins:List (Addr×Obj)) (s:Shared) (σ:St) (H:Hp) (D:Ends),Inv X pins σ H s→t D σ H→wpAny (model X.prog X.w) X.A (execs st X.env) (SP X pins D) X.xe s
theorem thn{α:Type}{t:Sem α}{Q Q':α→Shared→Prop}{M:Model}{A:Around}{E:Value→Shared→Prop}{s:Shared}(h:wpAny M A t Q E s)(hQ:∀ a s,Q a s→Q' a s):wpAny M A t Q' E s:=wpAny_mono h hQ fun _ _ x=>x
end L2
namespace L2
open PySem PySem.Spec PyProof.Rows
section
variable {X:Cx}
def tVar(i:Nat):TE:=fun σ H Q=>∃ v,σ[i]?=some (some v)∧Q v H
def tC(v:V):TE:=fun _ H Q=>Q v H
theorem pe_var{i:Nat}{x:Str}{pos:Pos}(hN:X.N[i]?=some x)(hv:Vis X.env.scope x)(hd:(x == ("__debug__" : Str))=false:=by decide)(hcd:(x == ("__classdict__" : Str))=false:=by decide):PE X (.Name x pos) (tVar i):=by
 intro pins s σ H Q I h
 obtain⟨v,e,h⟩:=h
 obtain⟨m,hn,hl⟩:=I.loc
 obtain⟨u,r,l⟩:=hl i x v hN e hv
 have fin:EP X pins σ Q u s:=⟨v,H,I,r,h⟩
 rcases l with ⟨hk,hm⟩ | ⟨hk,c,hc,hcell⟩
 ·exact wpAny_Name (wpAny_loadName_local I.ok.kind hk hn hm fin) hd
 ·rcases hk with hk | hk
  ·exact wpAny_Name (wpAny_loadName_cell I.ok.kind hk hc hcell fin) hd
  ·exact wpAny_Name (wpAny_loadName_free I.ok.kind hk hc hcell fin hcd) hd
theorem pe_int{i j pos}:PE X (.Constant (.int i) j pos) (tC (.int i)):=fun _ _ _ H _ I h=>wpAny_Constant_int ⟨.int i,H,I.tok _,⟨_,rfl⟩,h⟩
theorem pe_bl{b j pos}:PE X (.Constant (.bool b) j pos) (tC (.bl b)):=fun _ _ _ H _ I h=>Constant_bool ⟨.bl b,H,I,rfl,h⟩
theorem pe_str{x j pos}:PE X (.Constant (.str x) j pos) (tC (.str x)):=fun _ _ _ H _ I h=>Calls.Constant_str ⟨.str x,H,I.tok _,⟨_,rfl⟩,h⟩
def Gl(X:Cx)(x:Str):Prop:=X.env.kindOf x=some .globalImplicit
theorem ld_glob{E:Value→Shared→Prop}{pins:List (Addr×Obj)}{s:Shared}{σ:St}{H:Hp}{x:Str}{u:Value}{pos:Pos}{Q:Value→Shared→Prop}(I:Inv X pins σ H s)(hg:Gl X x)(hm:X.mg x=some u)(h:Q u s)
  (hd:(x == ("__debug__" : Str))=false:=by decide):wpAny (model X.prog X.w) X.A (eval (.Name x pos) X.env) Q E s :=
 Calls.Name_function_global I.ok.kind hg (Calls.loadGlobal_global (by rw[I.ok.glob];exact I.mod.glob.keeps I.bk) hm h) hd
theorem ld_blt{E:Value→Shared→Prop}{pins:List (Addr×Obj)}{s:Shared}{σ:St}{H:Hp}{x:Str}{u:Value}{pos:Pos}{Q:Value→Shared→Prop}(I:Inv X pins σ H s)(hg:Gl X x)(hm:X.mg x=none)(hv:bootBuiltins x=some u)(h:Q u s)
  (hn:x ≠ "__name__" := by decide) (hd:(x == ("__debug__" : Str))=false:=by decide):wpAny (model X.prog X.w) X.A (eval (.Name x pos) X.env) Q E s:=by
 obtain⟨mb,h1,h2⟩:=I.mod.blt
 exact Calls.Name_function_global I.ok.kind hg (Calls.loadGlobal_builtin (by rw[I.ok.glob];exact I.mod.glob.keeps I.bk) hm (by rw[I.ok.blt];exact h1.keeps I.bk) ((h2 x hn).trans hv) h) hd
theorem pe_glob{x:Str}{v:V}{u:Value}{pos:Pos}(hg:Gl X x)(hm:X.mg x=some u)(r:RelV v u)(hd:(x == ("__debug__" : Str))=false:=by decide):PE X (.Name x pos) (tC v) :=
 fun _ _ _ H _ I h=>ld_glob I hg hm ⟨v,H,I,r,h⟩ hd
theorem pe_bltn{x:Str}{v:V}{u:Value}{pos:Pos}(hg:Gl X x)(hm:X.mg x=none)(hv:bootBuiltins x=some u)(r:RelV v u)(hn:x ≠ "__name__" := by decide)(hd:(x == ("__debug__" : Str))=false:=by decide):PE X (.Name x pos) (tC v) :=
 fun _ _ _ H _ I h=>ld_blt I hg hm hv ⟨v,H,I,r,h⟩ hn hd
variable {a b:Expr}{ta tb:TE}{pos:Pos}
def PC(X:Cx)(op:CmpOp)(a b:Expr)(t:TE):Prop :=
 ∀ (pins:List (Addr×Obj)) (s:Shared) (σ:St) (H:Hp) (Q:VK),Inv X pins σ H s→t σ H Q →
  wpAny (model X.prog X.w) X.A (eval a X.env) (fun v s₁=>wpAny (model X.prog X.w) X.A (eval b X.env) (fun u s₂=>wpAny (model X.prog X.w) X.A (compareOp op v u) (EP X pins σ Q) X.xe s₂) X.xe s₁) X.xe s
theorem nobehind(b:Expr){op:CmpOp}(h:op≠.In)(h2:op≠.NotIn):behindInMarks op b=false:=by
 have e1:(op == CmpOp.In)=false:=by cases op<;>first | rfl | exact absurd rfl h
 have e2:(op == CmpOp.NotIn)=false:=by cases op<;>first | rfl | exact absurd rfl h2
 cases b<;>simp[behindInMarks,e1,e2]
def tIsN(ta:TE):TE:=fun σ H Q=>ta σ H fun x H1=>Q (.bl (decide (x=.non))) H1
def tNotN(ta:TE):TE:=fun σ H Q=>ta σ H fun x H1=>Q (.bl (!decide (x=.non))) H1
theorem RelV.none_iff{x:V}{v:Value}(r:RelV x v):(v == Value.none)=decide (x=.non):=by
 cases x with
 | non=>cases r;rfl
 | bl _=>cases r;rfl
 | int _=>obtain⟨t,rfl⟩:=r;rfl
 | str _=>obtain⟨t,rfl⟩:=r;rfl
 | byt _=>obtain⟨t,rfl⟩:=r;rfl
 | flt _=>obtain⟨t,rfl⟩:=r;rfl
 | ref _=>cases r;rfl
 | ty _=>cases r;rfl
theorem pc_isN{j pos'}(ha:PE X a ta):PC X .Is a (.Constant .none j pos') (tIsN ta):=by
 intro pins s σ H Q I h
 refine thn (ha pins s σ H _ I h) fun v s1 ⟨x,H1,I1,r1,q1⟩=>?_
 exact Constant_none (is_none_gen ⟨.bl _,H1,I1,by rw[r1.none_iff];rfl,q1⟩)
def tB(t:TE):TT:=fun σ H Q=>t σ H fun x H1=>∃ c,x=.bl c∧Q c H1
theorem pe_cmp{op:CmpOp}{t:TE}(h:PC X op a b t)(h1:behindInMarks op b=false:=by first | exact nobehind _ (by decide) (by decide) | rfl):PE X (.Compare a [op] [b] pos) t:=fun pins s σ H Q I hw=>wpAny_Compare1 (h pins s σ H Q I hw) h1
theorem pt_cmp{op:CmpOp}{t:TE}(h:PC X op a b t)(h1:behindInMarks op b=false:=by first | exact nobehind _ (by decide) (by decide) | rfl):PT X (.Compare a [op] [b] pos) (tB t):=by
 intro pins s σ H Q I hw
 refine wpAny_isTrue_Compare1 (thn (h pins s σ H _ I hw) fun v s1 h1=>thn h1 fun u s2 h2=>thn h2 fun c s3 ⟨x,H1,I1,r1,q1⟩=>?_) h1
 obtain⟨d,rfl,q⟩:=q1
 cases r1
 exact wpAny_truthy_bool ⟨H1,I1,q⟩
theorem pt_val{e:Expr}{t:TE}(h:PE X e t)(he:∀ whole,isTrue e X.env whole=(do let v ← whole;standAt e.pos;holding [v] (truthy v)):=by intro _;rfl):PT X e (tB t):=by
 intro pins s σ H Q I hw
 refine isTrue_plain (thn (h pins s σ H _ I hw) fun v s1 ⟨x,H1,I1,r1,q1⟩=>?_) (he _)
 obtain⟨d,rfl,q⟩:=q1
 cases r1
 exact wpAny_truthy_bool ⟨H1,I1,q⟩
variable {tA tB':TT}{rest:List Expr}
def tAnd(t u:TT):TT:=fun σ H Q=>t σ H fun c H1=>if c=true then u σ H1 Q else Q false H1
def tOr(t u:TT):TT:=fun σ H Q=>t σ H fun c H1=>if c=true then Q true H1 else u σ H1 Q
def tNot(t:TT):TT:=fun σ H Q=>t σ H fun c H1=>Q (!c) H1
theorem pw_or1(ha:PT X a tA):PW X (.BoolOp .Or [a] pos) tA:=by
 intro wh pins s σ H Q I h
 refine isTrue_or (thn (ha pins s σ H Q I h) fun c s1 e=>?_)
 cases c with
 | false=>exact isTrue_or_nil e
 | true=>exact e
theorem pw_or(ha:PT X a tA)(hb:PW X (.BoolOp .Or (b::rest) pos) tB'):PW X (.BoolOp .Or (a::b::rest) pos) (tOr tA tB'):=by
 intro wh pins s σ H Q I h
 refine isTrue_or (thn (ha pins s σ H _ I h) fun c s1 ⟨H1,I1,q1⟩=>?_)
 cases c with
 | true=>exact⟨H1,I1,q1⟩
 | false=>exact hb wh pins s1 σ H1 Q I1 q1
theorem pt_not(ha:PT X a tA):PT X (.UnaryOp .Not a pos) (tNot tA):=by
 intro pins s σ H Q I h
 exact isTrue_not (ha pins s σ H (fun c H1=>Q (!c) H1) I h)
def tAndV(ta tb:TE):TE:=fun σ H Q=>ta σ H fun x H1=>∃ c,x=.bl c∧if c=true then tb σ H1 Q else Q (.bl false) H1
def tOrV(ta tb:TE):TE:=fun σ H Q=>ta σ H fun x H1=>∃ c,x=.bl c∧if c=true then Q (.bl true) H1 else tb σ H1 Q
def tNotV(ta:TE):TE:=fun σ H Q=>ta σ H fun x H1=>∃ c,x=.bl c∧Q (.bl (!c)) H1
theorem pe_one{op}{t:TE}(h:PE X a t):PE X (.BoolOp op [a] pos) t:=fun pins s σ H Q I hw=>BoolOp_one (h pins s σ H Q I hw)
theorem pe_and(ha:PE X a ta)(hb:PE X (.BoolOp .And (b::rest) pos) tb):PE X (.BoolOp .And (a::b::rest) pos) (tAndV ta tb):=by
 intro pins s σ H Q I h
 refine BoolOp_and (thn (ha pins s σ H _ I h) fun v s1 ⟨x,H1,I1,r1,q1⟩=>?_)
 obtain⟨c,rfl,q1⟩:=q1
 cases r1
 refine wpAny_truthy_bool ?_
 cases c with
 | true=>exact hb pins s1 σ H1 Q I1 q1
 | false=>exact⟨.bl false,H1,I1,rfl,q1⟩
theorem pe_not(ha:PE X a ta):PE X (.UnaryOp .Not a pos) (tNotV ta):=by
 intro pins s σ H Q I h
 refine UnaryOp_ (thn (ha pins s σ H _ I h) fun v s1 ⟨x,H1,I1,r1,q1⟩=>?_)
 obtain⟨c,rfl,q1⟩:=q1
 cases r1
 exact not_of (wpAny_truthy_bool ⟨.bl (!c),H1,I1,rfl,q1⟩)
def tIf(t:TT)(ta tb:TE):TE:=fun σ H Q=>t σ H fun c H1=>if c=true then ta σ H1 Q else tb σ H1 Q
end
end L2
namespace L2
open PySem PySem.Spec PyProof.Rows
def SqL(K:PySem.W.Frag)(H:Hp)(a:Addr)(xs:List V):Prop :=
 Rd H a (.lst xs) ∨
  ∃(o:Obj)(its:Array Value)(n:Nat),K.lookup a=some o∧o.cls=.type "list" ∧ o.dict=none∧o.data=.seq its n∧its.size≤sizeLine∧Vals xs its.toList
def SqT(K:PySem.W.Frag)(H:Hp)(a:Addr)(xs:List V):Prop :=
 Rd H a (.tup xs) ∨
  ∃(o:Obj)(its:Array Value)(n:Nat),K.lookup a=some o∧o.cls=.type "tuple" ∧ o.data=.seq its n∧its.size≤sizeLine∧Vals xs its.toList
def absV:Value→Option V
 | .none=>some .non
 | .bool b=>some (.bl b)
 | .int i _=>some (.int i)
 | .str x _=>some (.str x)
 | .bytes b _=>some (.byt b)
 | .float b _=>some (.flt b)
 | .ref a=>some (.ref a)
 | .type n=>some (.ty n)
 | _=>none
theorem RelV.abs{x:V}{u:Value}(r:RelV x u):absV u=some x:=by
 cases x with
 | non=>cases r;rfl
 | bl _=>cases r;rfl
 | int _=>obtain⟨t,rfl⟩:=r;rfl
 | str _=>obtain⟨t,rfl⟩:=r;rfl
 | byt _=>obtain⟨t,rfl⟩:=r;rfl
 | flt _=>obtain⟨t,rfl⟩:=r;rfl
 | ref _=>cases r;rfl
 | ty _=>cases r;rfl
theorem RelV.inj{x y:V}{u:Value}(r:RelV x u)(q:RelV y u):x=y:=Option.some.inj (r.abs.symm.trans q.abs)
theorem Vals.inj:∀{xs ys:List V}{us:List Value},Vals xs us→Vals ys us→xs=ys
 | _,_,_,.nil,.nil=>rfl
 | _,_,_,.cons r t,.cons r' t'=>by rw[r.inj r',Vals.inj t t']
section
variable {X:Cx}{pins:List (Addr×Obj)}{σ:St}{H:Hp}{s:Shared}{a:Addr}{xs ys:List V}
theorem SqL.of{K:PySem.W.Frag}(h:H a=some (.lst xs)):SqL K H a xs:=.inl (.inl h)
theorem SqT.of{K:PySem.W.Frag}(h:H a=some (.tup xs)):SqT K H a xs:=.inl (.inl h)
theorem Inv.list(I:Inv X pins σ H s)(h:SqL X.K H a xs):∃ its:List Value,Vals xs its∧PlainL s.heap a its.toArray∧xs.length≤sizeLine:=by
 rcases h with h | ⟨o,its,n,hk,hc,hd,hs,hz,r⟩
 ·obtain⟨z,its,n,r,e⟩:=h.ok I.hok
  exact⟨its,r,⟨_,n,e,rfl,rfl,rfl⟩,z⟩
 ·refine⟨its.toList,r,⟨o,n,I.kIn a o hk,hc,hd,by simpa using hs⟩,?_⟩
  have e:=r.length
  simp only[Array.length_toList] at e
  omega
theorem Inv.tuple(I:Inv X pins σ H s)(h:SqT X.K H a xs):∃ its:List Value,Vals xs its∧IsTup s.heap a its.toArray∧xs.length≤sizeLine:=by
 rcases h with h | ⟨o,its,n,hk,hc,hs,hz,r⟩
 ·obtain⟨z,its,r,p⟩:=h.ok I.hok
  exact⟨its,r,p,z⟩
 ·refine⟨its.toList,r,⟨o,I.kIn a o hk,hc,n,by simpa using hs⟩,?_⟩
  have e:=r.length
  simp only[Array.length_toList] at e
  omega
theorem Inv.list_inj(I:Inv X pins σ H s)(h:SqL X.K H a xs)(h':SqL X.K H a ys):xs=ys:=by
 obtain⟨its,r,⟨o,n,e,_,_,d⟩,_⟩:=I.list h
 obtain⟨its',r',⟨o',n',e',_,_,d'⟩,_⟩:=I.list h'
 rw[e] at e';cases e'
 rw[d] at d'
 injection d' with d1 _
 have:its=its':=by simpa using congrArg Array.toList d1
 subst this
 exact r.inj r'
end
abbrev Cx.wish(X:Cx)(E:Value→Shared→Prop):Cx:={ X with xe:=E }
abbrev Cx.nox(X:Cx):Cx:=X.wish fun _ _=>False
theorem Cx.Ok.wish{X:Cx}(ok:X.Ok)(E:Value→Shared→Prop):(X.wish E).Ok :=
 ⟨ok.mod,ok.kind,ok.glob,ok.blt,ok.above,ok.inj,ok.has,ok.cab,ok.hd,ok.frames,ok.stk,ok.exf,ok.bs,ok.bsz,ok.noex,ok.exfs,ok.funs,ok.frf⟩
theorem Cx.Ok.unwish{X:Cx}{E:Value→Shared→Prop}(ok:(X.wish E).Ok):X.Ok :=
 ⟨ok.mod,ok.kind,ok.glob,ok.blt,ok.above,ok.inj,ok.has,ok.cab,ok.hd,ok.frames,ok.stk,ok.exf,ok.bs,ok.bsz,ok.noex,ok.exfs,ok.funs,ok.frf⟩
section
variable {X:Cx}{pins:List (Addr×Obj)}{σ:St}{H:Hp}{s:Shared}{E:Value→Shared→Prop}
theorem Inv.wish(I:Inv X pins σ H s)(E:Value→Shared→Prop):Inv (X.wish E) pins σ H s:=⟨I.ok.wish E,I.os,I.bare,I.base,I.loc,I.cell,I.free,I.freeC,I.pin,I.hok,I.len⟩
theorem Inv.unwish(I:Inv (X.wish E) pins σ H s):Inv X pins σ H s:=⟨I.ok.unwish,I.os,I.bare,I.base,I.loc,I.cell,I.free,I.freeC,I.pin,I.hok,I.len⟩
theorem SP.unwish{D:Ends}{f:Flow}{s':Shared}(h:SP (X.wish E) pins D f s'):SP X pins D f s':=by
 cases f with
 | next=>obtain⟨σ',H',I,q⟩:=h;exact⟨σ',H',I.unwish,q⟩
 | brk=>obtain⟨σ',H',I,q⟩:=h;exact⟨σ',H',I.unwish,q⟩
 | cont=>obtain⟨σ',H',I,q⟩:=h;exact⟨σ',H',I.unwish,q⟩
 | ret u=>obtain⟨v,σ',H',I,r,q⟩:=h;exact⟨v,σ',H',I.unwish,r,q⟩
theorem PSs.nox{st:List Stmt}{t:TS}(h:PSs X.nox st t):PSs X st t:=fun pins s σ H D I hw =>
 wpAny_mono (h pins s σ H D (I.wish _) hw) (fun _ _ q=>q.unwish) fun _ _ z=>False.elim z
end
section
variable {X:Cx}{st:Stmt}{rest:List Stmt}{t u:TS}{e:Expr}{te:TE}{pos:Pos}
def tNext:TS:=fun D σ H=>D.nx σ H
def tSeq(t u:TS):TS:=fun D σ H=>t { D with nx:=u D } σ H
theorem pss_nil:PSs X [] tNext:=fun _ _ σ H _ I h=>wpAny_execs_nil ⟨σ,H,I,h⟩
theorem pss_cons(h1:PS X st t)(h2:PSs X rest u):PSs X (st::rest) (tSeq t u):=by
 intro pins s σ H D I h
 refine wpAny_execs_cons (thn (h1 pins s σ H { D with nx:=u D } I h) fun f s1 q=>?_)
 cases f with
 | next =>
  obtain⟨σ',H',I',q⟩:=q
  exact h2 pins s1 σ' H' D I' q
 | ret v=>exact q
 | brk=>exact q
 | cont=>exact q
theorem pss_one(h1:PS X st t):PSs X [st] t:=by
 intro pins s σ H D I h
 refine wpAny_execs_cons (thn (h1 pins s σ H D I h) fun f s1 q=>?_)
 cases f with
 | next=>exact wpAny_execs_nil q
 | ret v=>exact q
 | brk=>exact q
 | cont=>exact q
theorem Inv.quiet{pins:List (Addr×Obj)}{σ:St}{H:Hp}{s:Shared}(I:Inv X pins σ H s):interactive X.env=false:=by simp[interactive,I.ok.kind]
def tDrop(te:TE):TS:=fun D σ H=>te σ H fun _ H1=>D.nx σ H1
theorem ps_expr(he:PE X e te)(hs:swapsWith e none pos.line X.env=pure false:=by rfl):PS X (.Expr e pos) (tDrop te):=by
 intro pins s σ H D I h
 exact wpAny_Expr_any (thn (he pins s σ H _ I h) fun v s1 ⟨x,H1,I1,r1,q1⟩=>⟨σ,H1,I1,q1⟩) I.quiet hs
def tRet(te:TE):TS:=fun D σ H=>te σ H D.rt
theorem ps_ret(he:PE X e te):PS X (.Return (some e) pos) (tRet te):=by
 intro pins s σ H D I h
 exact wpAny_Return_some (thn (he pins s σ H _ I h) fun v s1 ⟨x,H1,I1,r1,q1⟩=>⟨x,σ,H1,I1,r1,q1⟩)
def tRetN:TS:=fun D _ H=>D.rt .non H
def tIfS(c:TT)(t u:TS):TS:=fun D σ H=>c σ H fun b H1=>if b=true then t D σ H1 else u D σ H1
theorem ps_if{c:Expr}{a b:List Stmt}{tc:TT}(hc:PT X c tc)(ha:PSs X a t)(hb:PSs X b u):PS X (.If c a b pos) (tIfS tc t u):=by
 intro pins s σ H D I h
 refine wpAny_If (thn (hc pins s σ H _ I h) fun d s1 ⟨H1,I1,q1⟩=>?_)
 cases d with
 | true=>exact ha pins s1 σ H1 D I1 q1
 | false=>exact hb pins s1 σ H1 D I1 q1
end
abbrev TG:=V→St→Hp→(St→Hp→Prop)→Prop
abbrev TGs:=List V→St→Hp→(St→Hp→Prop)→Prop
def PG(X:Cx)(target:Expr)(t:TG):Prop :=
 ∀ (pins:List (Addr×Obj)) (s:Shared) (σ:St) (H:Hp) (v:V) (u:Value) (Q:St→Hp→Prop),Inv X pins σ H s→RelV v u→t v σ H Q →
  wpAny (model X.prog X.w) X.A (assign target X.env u) (fun _ s'=>∃ σ' H',Inv X pins σ' H' s'∧Q σ' H') X.xe s
def PGs(X:Cx)(ts:List Expr)(t:TGs):Prop :=
 ∀ (pins:List (Addr×Obj)) (s:Shared) (σ:St) (H:Hp) (vs:List V) (us:List Value) (Q:St→Hp→Prop),Inv X pins σ H s→Vals vs us→t vs σ H Q →
  wpAny (model X.prog X.w) X.A (assignInOrder ((assignEach ts X.env).map (·.2)) us) (fun _ s'=>∃ σ' H',Inv X pins σ' H' s'∧Q σ' H') X.xe s
abbrev TSet:=V→V→V→Hp→(Hp→Prop)→Prop
def PSet(X:Cx)(t:TSet):Prop :=
 ∀ (pins:List (Addr×Obj)) (s:Shared) (σ:St) (H:Hp) (o i v:V) (ov iv u:Value) (Q:Hp→Prop),Inv X pins σ H s→RelV o ov→RelV i iv→RelV v u→t o i v H Q →
  wpAny (model X.prog X.w) X.A (setItem ov iv u) (fun _ s'=>∃ H',Inv X pins σ H' s'∧Q H') X.xe s
abbrev TIp:=V→V→Hp→VK→Prop
def PIp(X:Cx)(op:Operator)(t:TIp):Prop :=
 ∀ (pins:List (Addr×Obj)) (s:Shared) (σ:St) (H:Hp) (x y:V) (v u:Value) (Q:VK),Inv X pins σ H s→RelV x v→RelV y u→t x y H Q →
  wpAny (model X.prog X.w) X.A (inplaceOp op v u) (EP X pins σ Q) X.xe s
section
variable {X:Cx}{pos:Pos}
def gName(i:Nat):TG:=fun v σ H Q=>Q (σ.set i (some v)) H
theorem pg_name{i:Nat}{x:Str}(hN:X.N.Nodup)(hi:X.N[i]?=some x)(hx:Loc X.env.scope x)(hf:X.fn x=true∨X.env.scope.names.lookup x=some .local:=by first | exact .inl rfl | exact .inr rfl | assumption):PG X (.Name x pos) (gName i):=by
 intro pins s σ H v u Q I r h
 exact wpAny_assign_Name (store_ok I hN hi hx r (fun s' I'=>⟨_,H,I',h⟩) hf)
def gNil:TGs:=fun vs σ H Q=>vs=[]∧Q σ H
def gCons(t:TG)(u:TGs):TGs:=fun vs σ H Q=>∃ v r,vs=v::r∧t v σ H fun σ' H'=>u r σ' H' Q
theorem pgs_nil:PGs X [] gNil:=by
 intro pins s σ H vs us Q I r h
 obtain⟨e,h⟩:=h
 subst e
 cases r
 exact assignInOrder_nil ⟨σ,H,I,h⟩
theorem pgs_cons{e:Expr}{es:List Expr}{t:TG}{u:TGs}(h1:PG X e t)(h2:PGs X es u)
  (hs:(assignEach (e::es) X.env).map (·.2)=assign e X.env::(assignEach es X.env).map (·.2):=by rfl):PGs X (e::es) (gCons t u):=by
 intro pins s σ H vs us Q I r h
 obtain⟨v,vr,e1,h⟩:=h
 subst e1
 cases r with
 | cons r rr =>
  rw[hs]
  refine assignInOrder_cons (thn (h1 pins s σ H _ _ _ I r h) fun _ s1 ⟨σ1,H1,I1,q1⟩=>?_)
  exact h2 pins s1 σ1 H1 _ _ Q I1 rr q1
def gTup(K:PySem.W.Frag)(n:Nat)(t:TGs):TG:=fun v σ H Q=>∃ a xs,v=.ref a∧SqT K H a xs∧xs.length=n∧t xs σ H Q
theorem pg_tup{es:List Expr}{k:Nat}{t:TGs}{n:Nat}(hc:X.calm=true)(h:PGs X es t)
  (hn:(assignEach es X.env).length=n:=by rfl) (hst:(assignEach es X.env).findIdx? (·.1)=none:=by rfl):PG X (.Tuple es k pos) (gTup X.K n t):=by
 intro pins s σ H v u Q I r hw
 obtain⟨a,xs,e1,hq,hl,hw⟩:=hw
 subst e1
 cases r
 obtain⟨its,rv,ht,hz⟩:=I.tuple hq
 refine assign_Tuple_tuple (I.ok.hd hc) ht (by simp[hn,← hl,rv.length]) hst fun h' hx=>?_
 have I1:Inv X pins σ H { s with heap:=h' }:=I.kept (t':=s.toks) fun b o e=>hx b o (Nat.ne_of_lt (Heap.lt_size e)) e
 exact h pins _ σ H xs _ Q I1 (by simpa using rv) hw
def gSub(to ti:TE)(t:TSet):TG:=fun v σ H Q=>to σ H fun o H1=>ti σ H1 fun i H2=>t o i v H2 fun H3=>Q σ H3
theorem pg_sub{o i:Expr}{to ti:TE}{t:TSet}(ho:PE X o to)(hi:PE X i ti)(hs:PSet X t)
  (ha:∀ v,assign (.Subscript o i pos) X.env v=(do
   let ov ← holding [v] (eval o X.env)
   let iv ← holding [v,ov] (eval i X.env)
   standAt pos
   holding [v,ov,iv] (setItem ov iv v)
   release [v,ov,iv] []):=by intro _;rfl):PG X (.Subscript o i pos) (gSub to ti t):=by
 intro pins s σ H v u Q I r h
 rw[ha]
 refine wpAny_bind (wpAny_holding (thn (ho pins s σ H _ I h) fun ov s1 ⟨x,H1,I1,r1,q1⟩=>?_))
 refine wpAny_bind (wpAny_holding (thn (hi pins s1 σ H1 _ I1 q1) fun iv s2 ⟨y,H2,I2,r2,q2⟩=>?_))
 refine wpAny_bind (wpAny_standAt (wpAny_bind (wpAny_holding (thn (hs pins s2 σ H2 x y v ov iv u _ I2 r1 r2 r q2) fun _ s3 ⟨H3,I3,q3⟩=>?_))))
 exact wpAny_release ⟨σ,H3,I3,q3⟩
def tAsg(te:TE)(g:TG):TS:=fun D σ H=>te σ H fun x H1=>g x σ H1 D.nx
theorem ps_asg{tg e:Expr}{te:TE}{g:TG}(he:PE X e te)(hg:PG X tg g)(hs:swapsWithSole [tg] e pos.line X.env=pure false:=by rfl)(hw:swappedStores [tg] e X.env=pure none:=by rfl)
  (h1:(assignEach [tg] X.env).map (·.2)=[assign tg X.env]:=by rfl):PS X (.Assign [tg] e pos) (tAsg te g):=by
 intro pins s σ H D I h
 refine wpAny_Assign_stores (thn (he pins s σ H _ I h) fun v s1 ⟨x,H1,I1,r1,q1⟩=>?_) hs hw
 rw[h1]
 exact thn (hg pins s1 σ H1 x v _ I1 r1 q1) fun _ s2 q=>q
theorem ps_set{i:Nat}{x:Str}{e:Expr}{te:TE}{pos':Pos}(hN:X.N.Nodup)(hi:X.N[i]?=some x)(hx:Loc X.env.scope x)(he:PE X e te)(hs:swapsWith e (some (.Name x pos')) pos.line X.env=pure false:=by rfl)(hf:X.fn x=true∨X.env.scope.names.lookup x=some .local:=by first | exact .inl rfl | exact .inr rfl | assumption) :
  PS X (.Assign [.Name x pos'] e pos) (tAsg te (gName i)):=by
 intro pins s σ H D I h
 refine wpAny_Assign_Name (thn (he pins s σ H _ I h) fun v s1 ⟨y,H1,I1,r1,q1⟩=>?_) hs
 exact store_ok I1 hN hi hx r1 (fun s2 I2=>⟨_,H1,I2,q1⟩) hf
def tPar(i j:Nat)(ta:TA):TS:=fun D σ H=>ta σ H fun vs H1=>∃ v w,vs=[v,w]∧D.nx ((σ.set i (some v)).set j (some w)) H1
def tAugS(to ti te:TE)(tget:V→V→Hp→VK→Prop)(tip:TIp)(tset:TSet):TS:=fun D σ H=>to σ H fun o H1=>ti σ H1 fun i H2=>tget o i H2 fun x H3=>te σ H3 fun y H4=>tip x y H4 fun z H5=>tset o i z H5 fun H6=>D.nx σ H6
def PGet(X:Cx)(t:V→V→Hp→VK→Prop):Prop :=
 ∀ (pins:List (Addr×Obj)) (s:Shared) (σ:St) (H:Hp) (o i:V) (ov iv:Value) (Q:VK),Inv X pins σ H s→RelV o ov→RelV i iv→t o i H Q →
  wpAny (model X.prog X.w) X.A (getItem ov iv) (EP X pins σ Q) X.xe s
theorem ps_augS{o i e:Expr}{to ti te:TE}{tget:V→V→Hp→VK→Prop}{tip:TIp}{tset:TSet}{op:Operator}{tpos:Pos}(ho:PE X o to)(hi:PE X i ti)(hg:PGet X tget)(he:PE X e te)(hp:PIp X op tip)(hs:PSet X tset)
  (ha:∀ ov iv new,augStore i ov iv new=(do holding [new,ov,iv] (setItem ov iv new);release [new,ov,iv] [];pure .next):=by intros;rfl):PS X (.AugAssign (.Subscript o i tpos) op e pos) (tAugS to ti te tget tip tset):=by
 intro pins s σ H D I h
 refine wpAny_AugAssign_SubscriptAny (thn (ho pins s σ H _ I h) fun ov s1 ⟨x1,H1,I1,r1,q1⟩=>?_) ha
 refine thn (hi pins s1 σ H1 _ I1 q1) fun iv s2 ⟨x2,H2,I2,r2,q2⟩=>?_
 refine thn (hg pins s2 σ H2 x1 x2 ov iv _ I2 r1 r2 q2) fun old s3 ⟨x3,H3,I3,r3,q3⟩=>?_
 refine thn (he pins s3 σ H3 _ I3 q3) fun v s4 ⟨x4,H4,I4,r4,q4⟩=>?_
 refine thn (hp pins s4 σ H4 x3 x4 old v _ I4 r3 r4 q4) fun new s5 ⟨x5,H5,I5,r5,q5⟩=>?_
 exact thn (hs pins s5 σ H5 x1 x2 x5 ov iv new _ I5 r1 r2 r5 q5) fun _ s6 ⟨H6,I6,q6⟩=>⟨σ,H6,I6,q6⟩
def ipI(f:Int→Int→Int):TIp:=fun x y H Q=>∃ i j,x=.int i∧y=.int j∧Q (.int (f i j)) H
theorem ip_add:PIp X .Add (ipI fun i j=>i+j):=by
 intro pins s σ H x y v u Q I r1 r2 h
 obtain⟨i,j,e1,e2,q⟩:=h
 subst e1;subst e2
 obtain⟨t,rfl⟩:=r1
 obtain⟨t',rfl⟩:=r2
 exact iadd_int ⟨.int _,H,I.tok _,⟨_,rfl⟩,q⟩
end
section
variable {X:Cx}{pos:Pos}
end
structure It where
 go:Nat→Hp→Prop
 yld:Nat→Hp→V→Hp→Prop
 stop:Nat→Hp→Prop
def FpOk(X:Cx)(pins:List (Addr×Obj))(H:Hp)(b:Addr):Prop :=
 H b=none∧b≠X.env.locals∧b∉X.fs∧(b∈X.ex∨X.s₀.heap.objs.size≤b)∧(∀ x c,X.env.cells.lookup x=some c→c≠b)∧∀ p∈X.pn++pins,p.1≠b
theorem Inv.fpOk{X:Cx}{pins:List (Addr×Obj)}{σ:St}{H H':Hp}{s:Shared}{b:Addr}(I:Inv X pins σ H s)(hb:s.heap.objs.size≤b)(hn:H' b=none):FpOk X pins H' b:=by
 refine⟨hn,Nat.ne_of_gt (Nat.lt_of_lt_of_le I.lt hb),I.nofs hb,.inr (Nat.le_trans I.sz hb),fun x c e z=>?_,fun p hp z=>?_⟩
 ·obtain⟨v,q⟩:=I.cell x c e
  exact absurd (Nat.lt_of_lt_of_le q.lt (by rw[z];exact hb)) (Nat.lt_irrefl _)
 ·exact absurd (Nat.lt_of_lt_of_le (Heap.lt_size (I.pin p hp).1) (by rw[z];exact hb)) (Nat.lt_irrefl _)
structure Turn(P:Program)(w:World)(K:PySem.W.Frag)(tg:Expr)(J:It)(fp:List Addr)(it:Addr)(tn:Nat→Heap→Prop):Prop where
 mem:it∈fp
 obj:∀ i h,tn i h→∀ b∈fp,∃ o,h.get? b=some o∧∀ v,o.data≠.cell v
 keep:∀ i h h',tn i h→(∀ b∈fp,∀ o,h.get? b=some o→h'.get? b=some o)→tn i h'
 item:∀(X:Cx),X.prog=P→X.w=w→X.K=K→X.calm=true→∀(i:Nat) (pins:List (Addr×Obj)) (s:Shared) (σ:St) (H:Hp) (E:Value→Shared→Prop),Inv X pins σ H s→(∀ b∈fp,FpOk X pins H b)→tn i s.heap→J.go i H →
  wpAny (model P w) X.A (pyNext (.ref it)) (fun r s1=>∃ u,r=some u ∧
   wpAny (model P w) X.A (letOwnedTupleGo tg (.ref it) u) (fun _ s2=>∃ x H',Inv X pins σ H' s2∧RelV x u∧J.yld i H x H'∧tn (i+1) s2.heap∧∀ b∈fp,H' b=none) E s1) E s
 done:∀(X:Cx),X.prog=P→X.w=w→X.K=K→X.calm=true→∀(i:Nat) (pins:List (Addr×Obj)) (s:Shared) (σ:St) (H:Hp) (E:Value→Shared→Prop),Inv X pins σ H s→(∀ b∈fp,FpOk X pins H b)→tn i s.heap→J.stop i H →
  wpAny (model P w) X.A (pyNext (.ref it)) (fun r s1=>r=none∧Inv X pins σ H s1) E s
 self:∀(A:Around)(i:Nat)(s:Shared)(Q:Value→Shared→Prop)(E:Value→Shared→Prop),tn i s.heap→Q (.ref it) s→wpAny (model P w) A (pyIter (.ref it)) Q E s
abbrev TI:=St→Hp→(It→Hp→Prop)→Prop
def PIE(X:Cx)(pins:List (Addr×Obj))(σ:St)(tg:Expr)(R:It→Hp→Prop)(itv:Value)(s2:Shared):Prop :=
 ∃(it:Addr)(fp:List Addr)(tn:Nat→Heap→Prop)(J:It)(H':Hp),itv=.ref it∧Inv X pins σ H' s2∧Turn X.prog X.w X.K tg J fp it tn∧tn 0 s2.heap∧(∀ b∈fp,FpOk X pins H' b)∧R J H'
def PI(X:Cx)(tg iter:Expr)(wi:TI):Prop :=
 ∀ (pins:List (Addr×Obj)) (s:Shared) (σ:St) (H:Hp) (R:It→Hp→Prop),Inv X pins σ H s→wi σ H R →
  wpAny (model X.prog X.w) X.A (eval iter X.env) (fun v s1=>wpAny (model X.prog X.w) X.A (pyIter v) (PIE X pins σ tg R) X.xe s1) X.xe s
theorem go_of{M:Model}{A:Around}{E:Value→Shared→Prop}{s:Shared}{tg:Expr}{it:Addr}{u:Value}{o:Obj}{n:String}{vs:Array Value}{Q:Unit→Shared→Prop}(ho:s.heap.get? it=some o)(hc:o.cls=.type n)(hd:o.data=.fields vs)
  (hn:["enumerate", "zip", "dict_itemiterator", "dict_reverseitemiterator", "odict_iterator", "itertools.zip_longest", "itertools.pairwise"].contains n=false) (hQ:Q () s):wpAny M A (letOwnedTupleGo tg (.ref it) u) Q E s:=by
 unfold letOwnedTupleGo
 cases tg<;>first
  | exact wpAny_pure hQ
  | (cases u<;>first
    | exact wpAny_pure hQ
    | (refine wpAny_bind (wpAny_load ho ?_)
       rw[hc,hd]
       show wpAny M A (if (["enumerate", "zip", "dict_itemiterator", "dict_reverseitemiterator", "odict_iterator", "itertools.zip_longest", "itertools.pairwise"].contains n && vs[0]? == some (rawInt _))=true then _ else _) Q E s
       rw[if_neg (by intro h;rw[hn,Bool.false_and] at h;cases h)]
       exact wpAny_pure hQ))
def Itl(K:PySem.W.Frag)(a:Addr):It :=
 ⟨fun i H=>∃ xs x,SqL K H a xs∧xs[i]?=some x,fun i H x H'=>H'=H∧∀ xs,SqL K H a xs→xs[i]?=some x,fun i H=>∃ xs,SqL K H a xs∧xs.length≤i⟩
def Itr(lo:Int)(n:Nat):It:=⟨fun i _=>i < n,fun i H x H'=>H'=H∧x=.int (lo+i),fun i _=>n≤i⟩
theorem turn_list{P:Program}{w:World}{K:PySem.W.Frag}{tg:Expr}(a it:Addr):Turn P w K tg (Itl K a) [it] it (fun i h=>h.IsListIter it a i) where
 mem:=by simp
 obj:=fun i h st b hb=>by
  have e:b=it:=by simpa using hb
  subst e
  obtain⟨o,e,c,d⟩:=st
  exact⟨o,e,fun v z=>by rw[d] at z;cases z⟩
 keep:=fun i h h' st k=>st.at fun o e=>k it (by simp) o e
 item:=by
  intro X hP hw hK hc i pins s σ H E I hf st hg
  subst hP hw hK
  obtain⟨xs,x,hq,hx⟩:=hg
  obtain⟨its,rv,p,hz⟩:=I.list hq
  obtain⟨u,hu,ru⟩:=rv.get hx
  obtain⟨f0,f1,f2,f3,f4,f5⟩:=hf it (by simp)
  refine wpAny_pyNext_list_item st p.isList (x:=u) (by simpa using hu) fun h' st' sb=>?_
  have I1:Inv X pins σ H { s with heap:=h' }:=I.turned (t':=s.toks) (fun b o hb e=>(sb.2 b hb).trans e) f0 f1 f3 f4 f5
  obtain⟨o,e,c,d⟩:=id st'
  exact⟨u,rfl,go_of (s:={ s with heap:=h' }) e c d (by decide) ⟨x,H,I1,ru,⟨rfl,fun ys hy=>by rw[I.list_inj hy hq];exact hx⟩,st',fun b hb=>(hf b hb).1⟩⟩
 done:=by
  intro X hP hw hK hc i pins s σ H E I hf st hg
  subst hP hw hK
  obtain⟨xs,hq,hx⟩:=hg
  obtain⟨its,rv,p,hz⟩:=I.list hq
  obtain⟨f0,f1,f2,f3,f4,f5⟩:=hf it (by simp)
  have hl:=rv.length
  exact wpAny_pyNext_list_end (I.ok.hd hc) st p.isList (by simp;omega) fun h' eb=>⟨rfl,I.turned (t':=s.toks) (fun b o hb e=>eb b o hb e) f0 f1 f3 f4 f5⟩
 self:=fun _ _ _ _ _ st h=>wpAny_pyIter_listiter st h
theorem turn_range{P:Program}{w:World}{K:PySem.W.Frag}{tg:Expr}(it:Addr)(lo:Int)(n:Nat):Turn P w K tg (Itr lo n) [it] it (fun i h=>IsRangeIter h it (lo+(i:Nat)*1) ((n:Int) - (i:Nat)) 1) where
 mem:=by simp
 obj:=fun i h st b hb=>by
  have e:b=it:=by simpa using hb
  subst e
  exact⟨_,st,fun v z=>by
   have z':Data.fields _=Data.cell v:=z
   cases z'⟩
 keep:=fun i h h' st k=>k it (by simp) _ st
 item:=by
  intro X hP hw hK hc i pins s σ H E I hf st hg
  subst hP hw hK
  obtain⟨f0,f1,f2,f3,f4,f5⟩:=hf it (by simp)
  have W:=Walks.range (prog:=X.prog) (w:=X.w) (I.ok.hd hc) it lo 1 n
  refine W.item i s _ _ hg st fun v h' tk hv st' kk=>?_
  obtain⟨t,rfl⟩:=hv
  have I1:Inv X pins σ H { s with heap:=h',toks:=tk }:=I.turned (fun b o hb e=>kk b o (by simpa using hb) e) f0 f1 f3 f4 f5
  refine⟨_,rfl,go_of (s:={ s with heap:=h',toks:=tk }) (n := "range_iterator") st' rfl rfl (by decide) ⟨.int (lo+i),H,I1,⟨t,?_⟩,⟨rfl,rfl⟩,st',fun b hb=>(hf b hb).1⟩⟩
  rw[Int.mul_one]
 done:=by
  intro X hP hw hK hc i pins s σ H E I hf st hg
  subst hP hw hK
  obtain⟨f0,f1,f2,f3,f4,f5⟩:=hf it (by simp)
  exact wpAny_pyNext_range_end (I.ok.hd hc) st (by have:n≤i:=hg;omega) fun h' eb=>⟨rfl,I.turned (t':=s.toks) (fun b o hb e=>eb b o hb e) f0 f1 f3 f4 f5⟩
 self:=fun _ _ _ _ _ st h=>wpAny_pyIter_rangeiter st h
end L2
namespace L2
open PySem PySem.Spec PyProof.Rows
section
variable {X:Cx}{tg:Expr}
def iList(K:PySem.W.Frag)(tl:TE):TI:=fun σ H R=>tl σ H fun x H1=>∃ a,x=.ref a∧(∃ xs,SqL K H1 a xs)∧R (Itl K a) H1
theorem pi_list{l:Expr}{tl:TE}(hl:PE X l tl):PI X tg l (iList X.K tl):=by
 intro pins s σ H R I h
 refine thn (hl pins s σ H _ I h) fun v s1 ⟨x,H1,I1,r1,q1⟩=>?_
 obtain⟨a,e,⟨xs,hq⟩,q⟩:=q1
 subst e
 cases r1
 obtain⟨its,rv,p,hz⟩:=I1.list hq
 refine wpAny_pyIter_list p.isList ?_
 refine⟨s1.heap.objs.size,[s1.heap.objs.size],_,_,H1,rfl,I1.kept (t':=s1.toks) fun b o e=>Heap.get?_push_of_some _ e,turn_list a _,⟨_,Heap.get?_push_size _ rfl,rfl,rfl⟩,fun b hb=>?_,q⟩
 have e:b=s1.heap.objs.size:=by simpa using hb
 subst e
 exact I1.fpOk (Nat.le_refl _) (I1.hok.fresh (Nat.le_refl _))
theorem range_it{pins:List (Addr×Obj)}{σ:St}{H:Hp}{s:Shared}{R:It→Hp→Prop}{E:Value→Shared→Prop}{lo hi:Int}{t u v:Tok}{tk:Nat}(I:Inv X pins σ H s)(h1:-(2 ^ 62)≤lo)(h2:lo < 2 ^ 62)(h3:-(2 ^ 62)≤hi)(h4:hi < 2 ^ 62)
  (q:R (Itr lo (hi - lo).toNat) H):wpAny (model X.prog X.w) X.A (pyIter (.ref s.heap.objs.size)) (PIE X pins σ tg R) E { s with heap:=s.heap.push { cls:=.type "range", data:=.fields #[.int lo t,.int hi u,.int 1 v] },toks:=tk }:=by
 refine wpAny_pyIter_range (IsRange.new ..) (small_one h1 h2 h3 h4) ?_
 have I1:Inv X pins σ H { s with heap:=s.heap.push { cls:=.type "range", data:=.fields #[.int lo t,.int hi u,.int 1 v] },toks:=tk }:=I.kept fun b o e=>Heap.get?_push_of_some _ e
 refine⟨(s.heap.push { cls:=.type "range", data:=.fields #[.int lo t,.int hi u,.int 1 v] }).objs.size,[(s.heap.push { cls:=.type "range", data:=.fields #[.int lo t,.int hi u,.int 1 v] }).objs.size],_,_,H,rfl,
  I1.kept (t':=tk) fun b o e=>Heap.get?_push_of_some _ e,turn_range _ lo (hi - lo).toNat,?_,fun b hb=>?_,q⟩
 ·have e1:lo+((0:Nat):Int)*1=lo:=by simp
  have e2:(((hi - lo).toNat:Nat):Int) - ((0:Nat):Int)=Builtin.Range.rangeSize lo hi 1:=by rw[rangeSize_one];split<;>omega
  show IsRangeIter _ _ (lo+((0:Nat):Int)*1) ((((hi - lo).toNat:Nat):Int) - ((0:Nat):Int)) 1
  rw[e1,e2]
  exact Heap.get?_push_size _ rfl
 ·have e:b=(s.heap.push { cls:=.type "range", data:=.fields #[.int lo t,.int hi u,.int 1 v] }).objs.size:=by simpa using hb
  subst e
  exact I1.fpOk (Nat.le_refl _) (I1.hok.fresh (Nat.le_refl _))
def iRng1(ta:TA):TI:=fun σ H R=>ta σ H fun vs H1=>∃ j:Int,vs=[.int j]∧-(2 ^ 62)≤j∧j < 2 ^ 62∧R (Itr 0 j.toNat) H1
theorem pi_range1{a:Expr}{ta:TA}{p pos:Pos}(hg:Gl X "range")(hm:X.mg "range" = none)(ha:PA X [a] ta)(hs:starEach [a] X.env=[(false,eval a X.env)]:=by rfl):PI X tg (.Call (.Name "range" p) [a] [] pos) (iRng1 ta):=by
 intro pins s σ H R I h
 refine Call_ (ld_blt I hg hm boot_range (PyProof.Rows.callWith_type1 (thn (ha pos pins s σ H _ I h) fun us s1 ⟨vs,H1,I1,r1,q1⟩=>?_) hs rfl))
 obtain⟨j,e,q1,q2,q⟩:=q1
 subst e
 cases r1 with
 | cons r rr =>
  cases rr
  obtain⟨t,rfl⟩:=r
  exact call_range_1 (range_it I1 (by omega) (by omega) q1 q2 (by simpa using q))
def tFor(wi:TI)(g:TG)(tb:TS):TS:=fun D σ H=>wi σ H fun J H1=>∃ W:Nat→Nat→St→Hp→Prop,(∃ m,W 0 m σ H1)∧∀ i m σ H,W i m σ H →
 (J.stop i H∧D.nx σ H)∨(J.go i H∧∃ N:St→Hp→Prop,(∀ σ' H',N σ' H'→∃ m',m' < m∧W (i+1) m' σ' H')∧∀ x H',J.yld i H x H'→g x σ H' fun σ2 H2=>tb { D with nx:=N,ct:=N,bk:=D.nx } σ2 H2)
def pinsAt(fp:List Addr)(h:Heap):List (Addr×Obj):=fp.filterMap fun b=>(h.get? b).map fun o=>(b,o)
theorem mem_pinsAt{fp:List Addr}{h:Heap}{b:Addr}{o:Obj}(hb:b∈fp)(e:h.get? b=some o):(b,o)∈pinsAt fp h:=List.mem_filterMap.mpr ⟨b,hb,by rw[e];rfl⟩
theorem of_pinsAt{fp:List Addr}{h:Heap}{p:Addr×Obj}(hp:p∈pinsAt fp h):p.1∈fp∧h.get? p.1=some p.2:=by
 obtain⟨b,hb,e⟩:=List.mem_filterMap.mp hp
 cases q:h.get? b with
 | none=>rw[q] at e;cases e
 | some o =>
  rw[q] at e
  have e':(b,o)=p:=Option.some.inj e
  subst e'
  exact⟨hb,q⟩
theorem Inv.pinned{pins:List (Addr×Obj)}{σ:St}{H:Hp}{s:Shared}{fp:List Addr}(I:Inv X pins σ H s)(hf:∀ b∈fp,FpOk X pins H b)(ho:∀ b∈fp,∃ o,s.heap.get? b=some o∧∀ v,o.data≠.cell v):Inv X (pins++pinsAt fp s.heap) σ H s :=
 I.pins_of fun p hp=>(List.mem_append.mp hp).elim (fun z=>I.pin p (List.mem_append_right _ z)) fun z=>by
  obtain⟨hb,e⟩:=of_pinsAt z
  obtain⟨f0,f1,f2,_⟩:=hf p.1 hb
  obtain⟨o,e',d⟩:=ho p.1 hb
  rw[e] at e';cases e'
  exact⟨e,f0,f1,f2,d⟩
theorem Inv.unpinned{pins pl:List (Addr×Obj)}{σ:St}{H:Hp}{s:Shared}(I:Inv X (pins++pl) σ H s):Inv X pins σ H s:=I.pins_of fun p hp=>I.pin p (List.mem_append_right _ (List.mem_append_left _ hp))
theorem ps_for{iter:Expr}{body:List Stmt}{wi:TI}{g:TG}{tb:TS}{pos:Pos}(hp:PassesOwn (model X.prog X.w) X.A X.env X.xe)(hc:X.calm=true)(hi:PI X tg iter wi)(hg:PG X tg g)(hb:PSs X body tb)
  (hs:∀ x,foldedSetIterable iter X.env x=pure x:=by intro _;rfl):PS X (.For tg iter body [] pos) (tFor wi g tb):=by
 intro pins s σ H D I h
 refine wpAny_For (thn (hi pins s σ H _ I h) fun v s1 h1=>thn h1 fun itv s2 h2=>?_) hs
 obtain⟨it,fp,tn,J,H2,e,I2,T,st2,f2,W,⟨m0,w0⟩,turn⟩:=h2
 subst e
 have stat:∀{H':Hp},(∀ b∈fp,H' b=none)→∀ b∈fp,FpOk X pins H' b:=fun hn b hb=>⟨hn b hb,(f2 b hb).2⟩
 refine codeAny_forLoop_any (fun n s'=>∃ i σ' H',Inv X pins σ' H' s'∧tn i s'.heap∧(∀ b∈fp,H' b=none)∧W i n σ' H') ?_ m0 ⟨0,σ,H2,I2,st2,fun b hb=>(f2 b hb).1,w0⟩
 rintro n s3 ⟨i,σ3,H3,I3,st3,fr3,w3⟩
 rcases turn i n σ3 H3 w3 with ⟨stop,qn⟩ | ⟨go,N,hN,step⟩
 ·refine wpAny_passesOwn hp (thn (T.done X rfl rfl rfl hc i pins s3 σ3 H3 X.xe I3 (stat fr3) st3 stop) fun r s4 ⟨hr,I4⟩=>?_)
  subst hr
  exact wpAny_execs_nil ⟨σ3,H3,I4,qn⟩
 ·refine wpAny_passesOwn hp (thn (T.item X rfl rfl rfl hc i pins s3 σ3 H3 X.xe I3 (stat fr3) st3 go) fun r s4 ⟨u,hr,h4⟩=>?_)
  subst hr
  refine wpAny_passesOwn hp (thn h4 fun _ s5 ⟨x,H5,I5,r5,y5,st5,fr5⟩=>?_)
  have I5':=I5.pinned (stat fr5) (T.obj _ _ st5)
  refine wpAny_passesOwn hp (thn (hg _ s5 σ3 H5 x u _ I5' r5 (step x H5 y5)) fun _ s6 ⟨σ6,H6,I6,q6⟩=>?_)
  refine wpAny_passesOwn hp (thn (hb _ s6 σ6 H6 _ I6 q6) fun f s7 q7=>?_)
  have again:∀{σ7:St}{H7:Hp},Inv X (pins++pinsAt fp s5.heap) σ7 H7 s7→N σ7 H7→∃ m,m < n∧∃ i σ' H',Inv X pins σ' H' s7∧tn i s7.heap∧(∀ b∈fp,H' b=none)∧W i m σ' H':=fun {σ7 H7} I7 n7=>by
   obtain⟨m',hm,w7⟩:=hN σ7 H7 n7
   refine⟨m',hm,i+1,σ7,H7,I7.unpinned,T.keep _ _ _ st5 fun b hb o e=>(I7.pin (b,o) (List.mem_append_right _ (List.mem_append_right _ (mem_pinsAt hb e)))).1,fun b hb=>?_,w7⟩
   obtain⟨o,e,d⟩:=T.obj _ _ st5 b hb
   exact (I7.pin (b,o) (List.mem_append_right _ (List.mem_append_right _ (mem_pinsAt hb e)))).2.1
  cases f with
  | next=>obtain⟨σ7,H7,I7,n7⟩:=q7;exact again I7 n7
  | cont=>obtain⟨σ7,H7,I7,n7⟩:=q7;exact again I7 n7
  | brk=>obtain⟨σ7,H7,I7,q7⟩:=q7;exact⟨σ7,H7,I7.unpinned,q7⟩
  | ret v=>obtain⟨x7,σ7,H7,I7,r7,q7⟩:=q7;exact⟨x7,σ7,H7,I7.unpinned,r7,q7⟩
end
theorem for_list{K:PySem.W.Frag}{a:Addr}{xs:List V}{g:TG}{tb:TS}{D:Ends}{σ:St}{H:Hp}(Pv:Nat→St→Hp→Prop)(h0:Pv 0 σ H)(hl:∀ i σ H,i≤xs.length→Pv i σ H→SqL K H a xs)
  (hs:∀ i x σ H,xs[i]?=some x→Pv i σ H→g x σ H fun σ2 H2=>tb { D with nx:=Pv (i+1),ct:=Pv (i+1),bk:=D.nx } σ2 H2) (hd:∀ σ H,Pv xs.length σ H→D.nx σ H) :
  ∃ W:Nat→Nat→St→Hp→Prop,(∃ m,W 0 m σ H)∧∀ i m σ H,W i m σ H →
   ((Itl K a).stop i H∧D.nx σ H)∨((Itl K a).go i H∧∃ N:St→Hp→Prop,(∀ σ' H',N σ' H'→∃ m',m' < m∧W (i+1) m' σ' H')∧∀ x H',(Itl K a).yld i H x H'→g x σ H' fun σ2 H2=>tb { D with nx:=N,ct:=N,bk:=D.nx } σ2 H2):=by
 refine⟨fun i m σ H=>m=xs.length - i∧i≤xs.length∧Pv i σ H,⟨xs.length,by simp,Nat.zero_le _,h0⟩,?_⟩
 rintro i m σ H ⟨rfl,hi,p⟩
 have q:=hl i σ H hi p
 by_cases hlt:i < xs.length
 ·refine .inr ⟨⟨xs,xs[i],q,by simp[hlt]⟩,Pv (i+1),fun σ' H' p'=>⟨xs.length - (i+1),by omega,rfl,hlt,p'⟩,fun x H' y=>?_⟩
  obtain⟨e,y⟩:=y
  subst e
  exact hs i x σ _ (y xs q) p
 ·have e:i=xs.length:=by omega
  subst e
  exact .inl ⟨⟨xs,q,Nat.le_refl _⟩,hd σ H p⟩
theorem for_range{lo:Int}{n:Nat}{g:TG}{tb:TS}{D:Ends}{σ:St}{H:Hp}(Pv:Nat→St→Hp→Prop)(h0:Pv 0 σ H)
  (hs:∀ i σ H,i < n→Pv i σ H→g (.int (lo+i)) σ H fun σ2 H2=>tb { D with nx:=Pv (i+1),ct:=Pv (i+1),bk:=D.nx } σ2 H2) (hd:∀ σ H,Pv n σ H→D.nx σ H) :
  ∃ W:Nat→Nat→St→Hp→Prop,(∃ m,W 0 m σ H)∧∀ i m σ H,W i m σ H →
   ((Itr lo n).stop i H∧D.nx σ H)∨((Itr lo n).go i H∧∃ N:St→Hp→Prop,(∀ σ' H',N σ' H'→∃ m',m' < m∧W (i+1) m' σ' H')∧∀ x H',(Itr lo n).yld i H x H'→g x σ H' fun σ2 H2=>tb { D with nx:=N,ct:=N,bk:=D.nx } σ2 H2):=by
 refine⟨fun i m σ H=>m=n - i∧i≤n∧Pv i σ H,⟨n,by simp,Nat.zero_le _,h0⟩,?_⟩
 rintro i m σ H ⟨rfl,hi,p⟩
 by_cases hlt:i < n
 ·refine .inr ⟨hlt,Pv (i+1),fun σ' H' p'=>⟨n - (i+1),by omega,rfl,hlt,p'⟩,fun x H' y=>?_⟩
  obtain⟨e,y⟩:=y
  subst e y
  exact hs i σ _ hlt p
 ·have e:i=n:=by omega
  subst e
  exact .inl ⟨Nat.le_refl _,hd σ H p⟩
end L2
namespace L2
open PySem PySem.Spec PyProof.Rows
abbrev R2:=V→V→Hp→VK→Prop
def OpR(X:Cx)(f:Value→Value→Sem Value)(r:R2):Prop :=
 ∀ (pins:List (Addr×Obj)) (s:Shared) (σ:St) (H:Hp) (x y:V) (v u:Value) (Q:VK),Inv X pins σ H s→RelV x v→RelV y u→r x y H Q →
  wpAny (model X.prog X.w) X.A (f v u) (EP X pins σ Q) X.xe s
def UnR(X:Cx)(f:Value→Sem Value)(r:V→Hp→VK→Prop):Prop :=
 ∀ (pins:List (Addr×Obj)) (s:Shared) (σ:St) (H:Hp) (x:V) (v:Value) (Q:VK),Inv X pins σ H s→RelV x v→r x H Q →
  wpAny (model X.prog X.w) X.A (f v) (EP X pins σ Q) X.xe s
def CallR(X:Cx)(f:Value)(r:List V→Hp→VK→Prop):Prop :=
 ∀ (pins:List (Addr×Obj)) (s:Shared) (σ:St) (H:Hp) (xs:List V) (us:List Value) (Q:VK),Inv X pins σ H s→Vals xs us→r xs H Q →
  wpAny (model X.prog X.w) X.A (call f us) (EP X pins σ Q) X.xe s
def tOp(r:R2)(ta tb:TE):TE:=fun σ H Q=>ta σ H fun x H1=>tb σ H1 fun y H2=>r x y H2 Q
def tUn(r:V→Hp→VK→Prop)(ta:TE):TE:=fun σ H Q=>ta σ H fun x H1=>r x H1 Q
def rI(C:Int→Int→Prop)(g:Int→Int→V):R2:=fun x y H Q=>∃ i j,x=.int i∧y=.int j∧C i j∧Q (g i j) H
def rI0(g:Int→Int→V):R2:=fun x y H Q=>∃ i j,x=.int i∧y=.int j∧Q (g i j) H
def rU(g:Int→V):V→Hp→VK→Prop:=fun x H Q=>∃ i,x=.int i∧Q (g i) H
section
variable {X:Cx}{a b c:Expr}{ta tb tc:TE}{pos:Pos}
theorem binT(ha:PE X a ta)(hb:PE X b tb){pins:List (Addr×Obj)}{s:Shared}{σ:St}{H:Hp}{R:V→V→Hp→Prop}(I:Inv X pins σ H s)
  (h:ta σ H fun x H1=>tb σ H1 fun y H2=>R x y H2) {Q:Value→Shared→Prop} {f:Value→Value→Sem Value}
  (hf:∀ v u s2 x y H2,Inv X pins σ H2 s2→RelV x v→RelV y u→R x y H2→wpAny (model X.prog X.w) X.A (f v u) Q X.xe s2) :
  wpAny (model X.prog X.w) X.A (eval a X.env) (fun v s₁=>wpAny (model X.prog X.w) X.A (eval b X.env) (fun u s₂=>wpAny (model X.prog X.w) X.A (f v u) Q X.xe s₂) X.xe s₁) X.xe s:=by
 refine thn (ha pins s σ H _ I h) fun v s1 ⟨x,H1,I1,r1,q1⟩=>?_
 refine thn (hb pins s1 σ H1 _ I1 q1) fun u s2 ⟨y,H2,I2,r2,q2⟩=>?_
 exact hf v u s2 x y H2 I2 r1 r2 q2
theorem pe_op{op:Operator}{r:R2}(ho:OpR X (binaryOp op) r)(ha:PE X a ta)(hb:PE X b tb):PE X (.BinOp a op b pos) (tOp r ta tb):=by
 intro pins s σ H Q I h
 exact wpAny_BinOp (binT ha hb I h fun v u s2 x y H2 I2 rx ry q=>ho pins s2 σ H2 x y v u Q I2 rx ry q)
theorem pe_un{op:UnaryOp}{r:V→Hp→VK→Prop}(ho:UnR X (unaryOp op) r)(ha:PE X a ta):PE X (.UnaryOp op a pos) (tUn r ta):=by
 intro pins s σ H Q I h
 exact UnaryOp_ (thn (ha pins s σ H _ I h) fun v s1 ⟨x,H1,I1,r1,q1⟩=>ho pins s1 σ H1 x v Q I1 r1 q1)
theorem opI{f:Value→Value→Sem Value}{C:Int→Int→Prop}{g:Int→Int→Int}
  (rule:∀(i j:Int)(t u:Tok)(s:Shared)(Q:Value→Shared→Prop)(E:Value→Shared→Prop),C i j→Q (.int (g i j) s.toks) { s with toks:=s.toks+1 }→wpAny (model X.prog X.w) X.A (f (.int i t) (.int j u)) Q E s) :
  OpR X f (rI C fun i j=>.int (g i j)):=by
 intro pins s σ H x y v u Q I rx ry h
 obtain⟨i,j,rfl,rfl,hc,q⟩:=h
 obtain⟨t,rfl⟩:=rx
 obtain⟨t',rfl⟩:=ry
 exact rule i j t t' s _ _ hc ⟨.int (g i j),H,I.tok _,⟨_,rfl⟩,q⟩
theorem opI0{f:Value→Value→Sem Value}{g:Int→Int→Int}
  (rule:∀(i j:Int)(t u:Tok)(s:Shared)(Q:Value→Shared→Prop)(E:Value→Shared→Prop),Q (.int (g i j) s.toks) { s with toks:=s.toks+1 }→wpAny (model X.prog X.w) X.A (f (.int i t) (.int j u)) Q E s) :
  OpR X f (rI0 fun i j=>.int (g i j)):=by
 intro pins s σ H x y v u Q I rx ry h
 obtain⟨i,j,rfl,rfl,q⟩:=h
 obtain⟨t,rfl⟩:=rx
 obtain⟨t',rfl⟩:=ry
 exact rule i j t t' s _ _ ⟨.int (g i j),H,I.tok _,⟨_,rfl⟩,q⟩
theorem opB0{f:Value→Value→Sem Value}{g:Int→Int→Bool}
  (rule:∀(i j:Int)(t u:Tok)(s:Shared)(Q:Value→Shared→Prop)(E:Value→Shared→Prop),Q (.bool (g i j)) s→wpAny (model X.prog X.w) X.A (f (.int i t) (.int j u)) Q E s) :
  OpR X f (rI0 fun i j=>.bl (g i j)):=by
 intro pins s σ H x y v u Q I rx ry h
 obtain⟨i,j,rfl,rfl,q⟩:=h
 obtain⟨t,rfl⟩:=rx
 obtain⟨t',rfl⟩:=ry
 exact rule i j t t' s _ _ ⟨.bl (g i j),H,I,rfl,q⟩
def CPow(i j:Int):Prop:=0≤j∧j≤1000000∧i.natAbs < 2 ^ 64
def CMul(i j:Int):Prop:=(-(2 ^ 64) < i∧i < 2 ^ 64)∨(-(2 ^ 64) < j∧j < 2 ^ 64)
theorem op_add:OpR X (binaryOp .Add) (rI0 fun i j=>.int (i+j)):=opI0 fun _ _ _ _ _ _ _ q=>add_int q
theorem op_sub:OpR X (binaryOp .Sub) (rI0 fun i j=>.int (i - j)):=opI0 fun _ _ _ _ _ _ _ q=>sub_int q
theorem op_mod:OpR X (binaryOp .Mod) (rI (fun _ j=>0 < j) fun i j=>.int (i % j)):=opI fun i j _ _ _ _ _ hc q=>by
 have h1:(0:Int) < j:=hc
 exact mod_int' (by omega) (by rw[Int.fmod_eq_emod_of_nonneg i (by omega)];exact q)
theorem op_pow:OpR X (binaryOp .Pow) (rI CPow fun i j=>.int (i ^ j.toNat)):=opI fun _ _ _ _ _ _ _ hc q=>pow_int_small hc.1 hc.2.1 hc.2.2 q
theorem unI{f:Value→Sem Value}{g:Int→Int}
  (rule:∀(i:Int)(t:Tok)(s:Shared)(Q:Value→Shared→Prop)(E:Value→Shared→Prop),Q (.int (g i) s.toks) { s with toks:=s.toks+1 }→wpAny (model X.prog X.w) X.A (f (.int i t)) Q E s) :
  UnR X f (rU fun i=>.int (g i)):=by
 intro pins s σ H x v Q I rx h
 obtain⟨i,rfl,q⟩:=h
 obtain⟨t,rfl⟩:=rx
 exact rule i t s _ _ ⟨.int (g i),H,I.tok _,⟨_,rfl⟩,q⟩
theorem un_neg:UnR X (unaryOp .USub) (rU fun i=>.int (-i)):=unI fun _ _ _ _ _ q=>neg_int q
end
def scal:V→V→Bool
 | .non,.non=>true | .non,.int _=>true | .int _,.non=>true | .non,.bl _=>true | .bl _,.non=>true | .non,.str _=>true | .str _,.non=>true
 | .int _,.int _=>true | .bl _,.bl _=>true | .str _,.str _=>true | .byt _,.byt _=>true
 | .int _,.str _=>true | .str _,.int _=>true | .bl _,.str _=>true | .str _,.bl _=>true
 | _,_=>false
def rEq:R2:=fun x y H Q=>scal x y=true∧Q (.bl (decide (x=y))) H
def rNe:R2:=fun x y H Q=>scal x y=true∧Q (.bl (!decide (x=y))) H
theorem dec_int{i j:Int}:decide (V.int i=V.int j)=(i == j):=by
 rw[Bool.eq_iff_iff]
 simp
theorem dec_bl{i j:Bool}:decide (V.bl i=V.bl j)=(i == j):=by
 rw[Bool.eq_iff_iff]
 simp
theorem dec_str{i j:Str}:decide (V.str i=V.str j)=(i == j):=by
 rw[Bool.eq_iff_iff]
 simp
theorem dec_byt{i j:Array UInt8}:decide (V.byt i=V.byt j)=(i.toList == j.toList):=by
 rw[Bool.eq_iff_iff]
 cases i
 cases j
 simp
section
variable {X:Cx}{a b c:Expr}{ta tb tc:TE}{pos:Pos}
theorem fin_bl{pins:List (Addr×Obj)}{σ:St}{H:Hp}{s:Shared}{Q:VK}{k k':Bool}(I:Inv X pins σ H s)(q:Q (.bl k) H)(e:k=k'):EP X pins σ Q (.bool k') s:=by
 subst e
 exact⟨.bl k,H,I,rfl,q⟩
theorem op_eq:OpR X (compareOp .Eq) rEq:=by
 intro pins s σ H x y v u Q I rx ry h
 obtain⟨hs,q⟩:=h
 cases x with
 | non =>
  cases rx
  cases y with
  | non=>cases ry;exact PySem.EqNone.eq_none_none (fin_bl I q (by simp))
  | bl j=>cases ry;exact PySem.EqNone.eq_none_bool (fin_bl I q (by simp))
  | int j=>obtain⟨t',rfl⟩:=ry;exact PySem.EqNone.eq_none_int (fin_bl I q (by simp))
  | str j=>obtain⟨t',rfl⟩:=ry;exact PySem.EqNone.eq_none_str (fin_bl I q (by simp))
  | _=>exact absurd (show false=true from hs) Bool.false_ne_true
 | bl i =>
  cases rx
  cases y with
  | non=>cases ry;exact PySem.EqNone.eq_bool_none (fin_bl I q (by simp))
  | bl j=>cases ry;exact eq_bool (fin_bl I q dec_bl)
  | str j=>obtain⟨t',rfl⟩:=ry;exact PySem.EqMixed.eq_bool_str (fin_bl I q (by simp))
  | _=>exact absurd (show false=true from hs) Bool.false_ne_true
 | int i =>
  obtain⟨t,rfl⟩:=rx
  cases y with
  | non=>cases ry;exact PySem.EqNone.eq_int_none (fin_bl I q (by simp))
  | int j=>obtain⟨t',rfl⟩:=ry;exact eq_int (fin_bl I q dec_int)
  | str j=>obtain⟨t',rfl⟩:=ry;exact PySem.EqMixed.eq_int_str (fin_bl I q (by simp))
  | _=>exact absurd (show false=true from hs) Bool.false_ne_true
 | str i =>
  obtain⟨t,rfl⟩:=rx
  cases y with
  | non=>cases ry;exact PySem.EqNone.eq_str_none (fin_bl I q (by simp))
  | bl j=>cases ry;exact PySem.EqMixed.eq_str_bool (fin_bl I q (by simp))
  | int j=>obtain⟨t',rfl⟩:=ry;exact PySem.EqMixed.eq_str_int (fin_bl I q (by simp))
  | str j=>obtain⟨t',rfl⟩:=ry;exact eq_str (fin_bl I q dec_str)
  | _=>exact absurd (show false=true from hs) Bool.false_ne_true
 | byt i =>
  obtain⟨t,rfl⟩:=rx
  cases y with
  | byt j=>obtain⟨t',rfl⟩:=ry;exact PySem.W.eq_bytes (fin_bl I q dec_byt)
  | _=>exact absurd (show false=true from hs) Bool.false_ne_true
 | _=>cases y<;>exact absurd (show false=true from hs) Bool.false_ne_true
theorem op_ne:OpR X (compareOp .NotEq) rNe:=by
 intro pins s σ H x y v u Q I rx ry h
 obtain⟨hs,q⟩:=h
 cases x with
 | non =>
  cases rx
  cases y with
  | non=>cases ry;exact PySem.EqNone.ne_none_none (fin_bl I q (by simp))
  | bl j=>cases ry;exact PySem.EqNone.ne_none_bool (fin_bl I q (by simp))
  | int j=>obtain⟨t',rfl⟩:=ry;exact PySem.EqNone.ne_none_int (fin_bl I q (by simp))
  | str j=>obtain⟨t',rfl⟩:=ry;exact PySem.EqNone.ne_none_str (fin_bl I q (by simp))
  | _=>exact absurd (show false=true from hs) Bool.false_ne_true
 | bl i =>
  cases rx
  cases y with
  | non=>cases ry;exact PySem.EqNone.ne_bool_none (fin_bl I q (by simp))
  | bl j=>cases ry;exact ne_bool (fin_bl I q (congrArg not dec_bl))
  | str j=>obtain⟨t',rfl⟩:=ry;exact PySem.EqMixed.ne_bool_str (fin_bl I q (by simp))
  | _=>exact absurd (show false=true from hs) Bool.false_ne_true
 | int i =>
  obtain⟨t,rfl⟩:=rx
  cases y with
  | non=>cases ry;exact PySem.EqNone.ne_int_none (fin_bl I q (by simp))
  | int j=>obtain⟨t',rfl⟩:=ry;exact ne_int (fin_bl I q (congrArg not dec_int))
  | str j=>obtain⟨t',rfl⟩:=ry;exact PySem.EqMixed.ne_int_str (fin_bl I q (by simp))
  | _=>exact absurd (show false=true from hs) Bool.false_ne_true
 | str i =>
  obtain⟨t,rfl⟩:=rx
  cases y with
  | non=>cases ry;exact PySem.EqNone.ne_str_none (fin_bl I q (by simp))
  | bl j=>cases ry;exact PySem.EqMixed.ne_str_bool (fin_bl I q (by simp))
  | int j=>obtain⟨t',rfl⟩:=ry;exact PySem.EqMixed.ne_str_int (fin_bl I q (by simp))
  | str j=>obtain⟨t',rfl⟩:=ry;exact ne_str (fin_bl I q (congrArg not dec_str))
  | _=>exact absurd (show false=true from hs) Bool.false_ne_true
 | byt i =>
  obtain⟨t,rfl⟩:=rx
  cases y with
  | byt j=>obtain⟨t',rfl⟩:=ry;exact PySem.W.ne_bytes (fin_bl I q (congrArg not dec_byt))
  | _=>exact absurd (show false=true from hs) Bool.false_ne_true
 | _=>cases y<;>exact absurd (show false=true from hs) Bool.false_ne_true
theorem op_lt:OpR X (compareOp .Lt) (rI0 fun i j=>.bl (decide (i < j))):=opB0 fun _ _ _ _ _ _ _ q=>lt_int q
theorem op_le:OpR X (compareOp .LtE) (rI0 fun i j=>.bl (decide (i≤j))):=opB0 fun _ _ _ _ _ _ _ q=>le_int q
theorem op_gt:OpR X (compareOp .Gt) (rI0 fun i j=>.bl (decide (j < i))):=opB0 fun _ _ _ _ _ _ _ q=>gt_int q
theorem nomark(b:Expr){op:CmpOp}(h:op≠.In:=by decide)(h2:op≠.NotIn:=by decide):behindInMarks op b=false:=by
 have e1:(op == CmpOp.In)=false:=by cases op<;>first | rfl | exact absurd rfl h
 have e2:(op == CmpOp.NotIn)=false:=by cases op<;>first | rfl | exact absurd rfl h2
 cases b<;>simp[behindInMarks,e1,e2]
theorem pe_cmpR{op:CmpOp}{r:R2}(ho:OpR X (compareOp op) r)(ha:PE X a ta)(hb:PE X b tb)(hm:behindInMarks op b=false):PE X (.Compare a [op] [b] pos) (tOp r ta tb):=by
 intro pins s σ H Q I h
 exact wpAny_Compare1 (binT ha hb I h fun v u s2 x y H2 I2 rx ry q=>ho pins s2 σ H2 x y v u Q I2 rx ry q) hm
def tTest(t:TE):TT:=fun σ H Q=>t σ H fun x H'=>∃ k,x=.bl k∧Q k H'
theorem pt_cmpR{op:CmpOp}{r:R2}(ho:OpR X (compareOp op) r)(ha:PE X a ta)(hb:PE X b tb)(hm:behindInMarks op b=false):PT X (.Compare a [op] [b] pos) (tTest (tOp r ta tb)):=by
 intro pins s σ H Q I h
 refine wpAny_isTrue_Compare1 (thn (ha pins s σ H _ I h) fun v s1 ⟨x,H1,I1,r1,q1⟩=>thn (hb pins s1 σ H1 _ I1 q1) fun u s2 ⟨y,H2,I2,r2,q2⟩ =>
  thn (ho pins s2 σ H2 x y v u _ I2 r1 r2 q2) fun c s3 ⟨z,H3,I3,r3,k,e,q3⟩=>?_) hm
 subst e
 cases r3
 exact wpAny_truthy_bool ⟨H3,I3,q3⟩
def tChain(r r':R2)(ta tb tc:TE):TE:=fun σ H Q=>ta σ H fun x H1=>tb σ H1 fun y H2=>r x y H2 fun z H3=>∃ k,z=.bl k ∧
 (if k=true then tc σ H3 fun w' H4=>r' y w' H4 Q else Q (.bl false) H3)
theorem line63:(sizeLine:Nat) < 2 ^ 63:=by rw[sizeLine_eq];decide
theorem vals1{x:V}{us:List Value}(r:Vals [x] us):∃ u,us=[u]∧RelV x u:=by
 cases r with
 | cons r1 r2=>cases r2;exact⟨_,rfl,r1⟩
end
end L2
namespace L2
open PySem PySem.Spec PyProof.Rows
structure ObjM(h:Heap)(x dx C:Addr)(mA:Str→Option Value):Prop where
 obj:h.get? x=some (PySem.W.instObj C dx)
 ns:h.Ns1 dx mA
 ne:dx≠x
theorem lookIn_ns{h:Heap}{dx:Addr}{mA:Str→Option Value}(n:h.Ns1 dx mA):∃ od,h.get? dx=some od∧∀ name,PySem.W.lookIn name od=some (mA name):=by
 obtain⟨o,es,ep,ho,hd,hk,_,hm⟩:=n
 refine⟨o,ho,fun name=>?_⟩
 have e:=hm name
 unfold nsFind findBy at e
 rw[← Array.find?_toList] at e
 unfold PySem.W.lookIn
 rw[hd]
 dsimp only
 split
 ·rename_i y q
  rw[q] at e
  exact congrArg some e
 ·rename_i q
  rw[q] at e
  have a:es.toList.any (·.refKey)=false:=by
   rw[List.any_eq_false]
   intro y hy
   obtain⟨z,t,hkey⟩:=hk y (Array.mem_toList_iff.mp hy)
   simp[DictEntry.refKey,hkey]
  have a':¬ es.toList.any (·.refKey)=true:=by rw[a];exact Bool.false_ne_true
  rw[if_neg a']
  exact congrArg some e
theorem ObjM.look{h:Heap}{x dx C:Addr}{mA:Str→Option Value}(I:ObjM h x dx C mA):∃ od,PySem.W.InstAt h x (PySem.W.instObj C dx) C (some od)∧∀ name,PySem.W.lookIn name od=some (mA name) :=
 let ⟨od,ho,hl⟩:=lookIn_ns I.ns
 ⟨od,⟨I.obj,rfl,rfl,ho⟩,hl⟩
section
variable {prog:Program}{w:World}{A:Around}{E:Value→Shared→Prop}{s:Shared}{K:PySem.W.Frag}{x dx C f:Addr}{mA:Str→Option Value}{name:Str}{v:Value}
end
theorem RelO.some_of{v:V}{o:Option Value}(r:RelO (some v) o):∃ u,o=some u∧RelV v u:=by
 cases o with
 | none=>exact (show False from r).elim
 | some u=>exact⟨u,rfl,r⟩
section
variable {P:Program}{w:World}{H H':Hp}{h h':Heap}{a C dx:Addr}{fs fs':List (Str×V)}
theorem ins_get(hok:HOk P w H h)(e:H a=some (.ins C dx fs)):∃ mA,ObjM h a dx C mA∧(∀ f,RelO (fs.lookup f) (mA f))∧PySem.Within mA (fs.map (·.1))∧fs.length≤1000∧H dx=some (.own a):=by
 obtain⟨d,z,ne,ob,mA,n,r,q⟩:=(show ObjOk P w H h a (.ins C dx fs) from hok a _ e)
 exact⟨mA,⟨ob,n,ne⟩,r,q,z,d⟩
end
structure Cls(K:PySem.W.Frag)(C:Addr):Prop where
 pg:PySem.W.plainGet K C Str.empty=true
 hd:PySem.W.hasDictIn K C=true
 po:PySem.W.plainOver K C=true
 sa:PySem.W.findIn K (.ref C) "__setattr__" = some (some (.builtin "object.__setattr__"))
theorem Cls.get{K:PySem.W.Frag}{C:Addr}(c:Cls K C)(f:Str):PySem.W.plainGet K C f=true:=c.pg
structure Con(K:PySem.W.Frag)(C:Addr)(f:Str)(v:V)(u:Value):Prop where
 at_:PySem.W.findIn K (.ref C) f=some (some u)
 rel:RelV v u
 get:PySem.W.specialIn K u "__get__" = some none
 cp:PySem.W.copiedNames.contains f=false
structure Meth(K:PySem.W.Frag)(C:Addr)(m:Str)(f:Addr):Prop where
 at_:PySem.W.findIn K (.ref C) m=some (some (.ref f))
 fn:PySem.W.isFn K (.ref f)=true
 kp:PySem.W.keepIn K (.ref f)=true
section
variable {X:Cx}{pins:List (Addr×Obj)}{σ:St}{H:Hp}{s:Shared}{a C dx:Addr}{fs:List (Str×V)}{f:Str}{v:V}{A:Around}{E:Value→Shared→Prop}
end
section
variable {X:Cx}{o e value:Expr}{f:Str}{pos pos' tpos:Pos}{ta tv:TE}
end
section
variable {X:Cx}{pins:List (Addr×Obj)}{σ:St}{H:Hp}{s:Shared}{A:Around}{E:Value→Shared→Prop}{Q:Value→Shared→Prop}{c:Value}{b:Bool}
inductive TyOf (K:PySem.W.Frag) (H:Hp):V→Value→Prop where
 | non:TyOf K H .non (.type "NoneType")
 | bl (x:Bool):TyOf K H (.bl x) (.type "bool")
 | int (i:Int):TyOf K H (.int i) (.type "int")
 | str (x:Str):TyOf K H (.str x) (.type "str")
 | flt (x:UInt64):TyOf K H (.flt x) (.type "float")
 | lst {a:Addr} {xs:List V} (e:H a=some (.lst xs)):TyOf K H (.ref a) (.type "list")
 | frz {a:Addr} {o:Obj} {xs:List V} (e:H a=some (.frz o (.lst xs))):TyOf K H (.ref a) (.type "list")
 | tup {a:Addr} {xs:List V} (e:H a=some (.tup xs)):TyOf K H (.ref a) (.type "tuple")
 | dK {a:Addr} {kvs:List (Key×V)} (e:H a=some (.dK kvs)):TyOf K H (.ref a) (.type "dict")
 | dT {a:Addr} {kvs:List (List Key×V)} (e:H a=some (.dT kvs)):TyOf K H (.ref a) (.type "dict")
 | ins {a C dx:Addr} {fs:List (Str×V)} (e:H a=some (.ins C dx fs)) (cl:Cls K C) (ha:PySem.W.findIn K (.ref C) "__class__" = some (some (.builtin "object.__class__")))
   (hn:PySem.W.specialIn K (.builtin "object.__class__") "__get__" = some (some (.builtin "getset_descriptor.__get__"))) (htk:PySem.W.takesIn K (.builtin "object.__class__")=some true)
   (hm:PySem.W.mroIn K C (.type "object")=some true):TyOf K H (.ref a) (.ref C)
theorem isinst_ok{x:V}{u t:Value}(I:Inv X pins σ H s)(rx:RelV x u)(ty:TyOf X.K H x t)(e:PySem.W.kitOne X.K t c=some b)(h:∀ tk,Q (.bool b) { s with toks:=tk }) :
  wpAny (model X.prog X.w) A (call (.builtin "isinstance") [u,c]) Q E s:=by
 cases ty with
 | non=>cases (show u=Value.none from rx);exact PySem.W.kia_one PySem.W.kitx_none I.kIn True.intro e (fun z=>nomatch z) h
 | bl y=>cases (show u=Value.bool y from rx);exact PySem.W.kia_one PySem.W.kitx_bool I.kIn True.intro e (fun z=>nomatch z) h
 | int i=>obtain⟨t,q⟩:=(show ∃ t,u=Value.int i t from rx);cases q;exact PySem.W.kia_one PySem.W.kitx_int I.kIn True.intro e (fun z=>nomatch z) h
 | str y=>obtain⟨t,q⟩:=(show ∃ t,u=Value.str y t from rx);cases q;exact PySem.W.kia_one PySem.W.kitx_str I.kIn True.intro e (fun z=>nomatch z) h
 | flt y=>obtain⟨t,q⟩:=(show ∃ t,u=Value.float y t from rx);cases q;exact PySem.W.kia_one PySem.W.kitx_float I.kIn True.intro e (fun z=>nomatch z) h
 | @lst a xs ea =>
  cases (show u=Value.ref a from rx)
  obtain⟨_,_,n,_,h1⟩:=(show ObjOk X.prog X.w H s.heap a (.lst xs) from I.hok a _ ea)
  exact PySem.W.kia_one PySem.W.kitx_list I.kIn ⟨_,h1,rfl⟩ e (fun z=>nomatch z) h
 | @frz a ob xs ea =>
  cases (show u=Value.ref a from rx)
  obtain⟨_,_,_,n,_,h1⟩:=(show ObjOk X.prog X.w H s.heap a (.frz ob (.lst xs)) from I.hok a _ ea)
  exact PySem.W.kia_one PySem.W.kitx_list I.kIn ⟨_,h1,rfl⟩ e (fun z=>nomatch z) h
 | @tup a xs ea =>
  cases (show u=Value.ref a from rx)
  obtain⟨_,_,_,p⟩:=(show ObjOk X.prog X.w H s.heap a (.tup xs) from I.hok a _ ea)
  obtain⟨o,h1,h2,_⟩:=p
  exact PySem.W.kia_one PySem.W.kitx_tuple I.kIn ⟨o,h1,h2⟩ e (fun z=>nomatch z) h
 | @dK a kvs ea =>
  cases (show u=Value.ref a from rx)
  obtain⟨_,_,vs,_,p⟩:=(show ObjOk X.prog X.w H s.heap a (.dK kvs) from I.hok a _ ea)
  obtain⟨o,es,ep,h1,h2,_⟩:=p
  exact PySem.W.kia_one PySem.W.kitx_dict I.kIn ⟨o,h1,h2.1⟩ e (fun z=>nomatch z) h
 | @dT a kvs ea =>
  cases (show u=Value.ref a from rx)
  obtain⟨_,_,xs,_,o,es,ep,h1,h2,_⟩:=(show ObjOk X.prog X.w H s.heap a (.dT kvs) from I.hok a _ ea)
  exact PySem.W.kia_one PySem.W.kitx_dict I.kIn ⟨o,h1,h2.1⟩ e (fun z=>nomatch z) h
 | @ins a C dx fs ea cl ha hn htk hm =>
  cases (show u=Value.ref a from rx)
  obtain⟨mA,O,_⟩:=ins_get I.hok ea
  obtain⟨od,J,_⟩:=O.look
  exact PySem.W.kia_one (PySem.W.kitx_own (cl.get _) cl.hd ha hn htk hm) I.kIn J e (fun z=>nomatch z) h
end
end L2
namespace L2
open PySem PySem.Spec PyProof.Rows
structure Room(k:Nat)(A:Around):Prop where
 hd:A.handled=none
 dp:A.depth+3*k+5 < recursionLimit
 un:A.units+16*k+200 < cLine
theorem Room.mono{j k:Nat}{A:Around}(r:Room k A)(h:j≤k):Room j A:=⟨r.hd,by have:=r.dp;omega,by have:=r.un;omega⟩
theorem Room.deeper{k:Nat}{A:Around}(r:Room (k+1) A)(env:Env):Room k (A.deeper env) :=
 ⟨r.hd,by have:=r.dp;show A.depth+1+3*k+5 < _;omega,by have:=r.un;show A.units+3+16*k+200 < _;omega⟩
theorem Room.depth{k:Nat}{A:Around}(r:Room k A):A.depth < recursionLimit:=by have:=r.dp;omega
theorem Room.units{k:Nat}{A:Around}(r:Room k A):A.units+64 < cLine:=by have:=r.un;omega
def tNil:TA:=fun _ H Q=>Q [] H
def tCons(ta:TE)(tr:TA):TA:=fun σ H Q=>ta σ H fun x H1=>tr σ H1 fun xs H2=>Q (x::xs) H2
section
variable {X:Cx}{e:Expr}{es:List Expr}{te:TE}{t:TA}{pos:Pos}
theorem pa_nil:PA X [] tNil:=fun _ _ _ _ H Q I h=>Calls.spliced_nil ⟨[],H,I,.nil,h⟩
theorem pa_cons(ha:PE X e te)(hr:PA X es t)(hs:starEach (e::es) X.env=(false,eval e X.env)::starEach es X.env:=by rfl):PA X (e::es) (tCons te t):=by
 intro pos pins s σ H Q I h
 rw[hs]
 show wpAny _ _ (spliced ((false,eval e X.env)::backTo pos (starEach es X.env))) _ _ s
 refine Calls.spliced_cons (thn (ha pins s σ H _ I h) fun u s1 ⟨x,H1,I1,r1,q1⟩=>?_)
 exact thn (hr pos pins s1 σ H1 _ I1 q1) fun us s2 ⟨xs,H2,I2,r2,q2⟩=>⟨x::xs,H2,I2,.cons r1 r2,q2⟩
def tTup(t:TA):TE:=fun σ H Q=>t σ H fun xs H1=>xs.length≤sizeLine∧∀ p,H1 p=none→Q (.ref p) (upd H1 p (.tup xs))
def tLst(t:TA):TE:=fun σ H Q=>t σ H fun xs H1=>xs.length≤sizeLine∧∀ p,H1 p=none→Q (.ref p) (upd H1 p (.lst xs))
theorem pe_tup{x1}(h:PA X es t):PE X (.Tuple es x1 pos) (tTup t):=by
 intro pins s σ H Q I hq
 refine wpAny_Tuple_spliced (thn (h pos pins s σ H _ I hq) fun us s1 ⟨xs,H1,I1,r,z,q⟩=>⟨by rw[← r.length];exact z,?_⟩)
 have hf:H1 s1.heap.objs.size=none:=I1.hok.fresh (Nat.le_refl _)
 refine⟨.ref s1.heap.objs.size,upd H1 s1.heap.objs.size (.tup xs),I1.laid (t':=s1.toks) (fun b u e=>Heap.get?_push_of_some _ e) (Nat.le_refl _) ?_,rfl,q _ hf⟩
 exact⟨z,us,r,⟨_,Heap.get?_push_size _ rfl,rfl,_,rfl⟩⟩
theorem pe_lst(h:PA X es t):PE X (.List es pos) (tLst t):=by
 intro pins s σ H Q I hq
 refine wpAny_List_spliced (thn (h pos pins s σ H _ I hq) fun us s1 ⟨xs,H1,I1,r,z,q⟩=>⟨by rw[← r.length];exact z,?_⟩)
 have hf:H1 s1.heap.objs.size=none:=I1.hok.fresh (Nat.le_refl _)
 refine⟨.ref s1.heap.objs.size,upd H1 s1.heap.objs.size (.lst xs),I1.laid (t':=s1.toks) (fun b u e=>Heap.get?_push_of_some _ e) (Nat.le_refl _) ?_,rfl,q _ hf⟩
 exact⟨z,us,0,r,Heap.get?_push_size _ rfl⟩
end
abbrev Sp:=List V→Hp→VK→XK→Prop
abbrev CXT:=List Env→Hp→Shared→XK→Value→Shared→Prop
structure Env0(P:Program)(w:World)(K:PySem.W.Frag)(mg:Str→Option Value)(base:Heap)(A:Around)(outer:List Env)(s:Shared)(H:Hp):Prop where
 frames:A.frames=some outer
 mod:Mod K mg base
 bs:∀ b o,base.get? b=some o→s.heap.get? b=some o∧H b=none
 bsz:base.objs.size≤s.heap.objs.size
 funs:s.heap.FunFrames base outer
 frf:∀ b∈frs outer,H b=none
 hok:HOk P w H s.heap
 bare:AllBare s.gens
def CE(outer:List Env)(P:Program)(w:World)(H:Hp)(s:Shared)(Q:VK)(u:Value)(s':Shared):Prop :=
 ∃ v H',s'.os=s.os∧AllBare s'.gens∧Un (frs outer) [] H H' s.heap s'.heap∧HOk P w H' s'.heap∧RelV v u∧Q v H'
def CR(CX:CXT)(outer:List Env)(P:Program)(w:World)(H:Hp)(s:Shared)(Q:VK)(E:XK)(r:Result)(s':Shared):Prop :=
 match r with
 | .ok (.ret u)=>CE outer P w H s Q u s'
 | .ok _=>False
 | .error e=>CX outer H s E e s'
structure FnOk(P:Program)(w:World)(K:PySem.W.Frag)(mg:Str→Option Value)(base:Heap)(CX:CXT)(k:Nat)(f:Addr)(fd:FuncData)(ps:List Str)(sp:Sp):Prop where
 len:∀ vs H Q E,sp vs H Q E→vs.length=ps.length
 run:∀(A:Around)(outer:List Env)(s:Shared)(H:Hp)(args:Args)(us:List Value)(vs:List V)(Q:VK)(E:XK),Room k A→Env0 P w K mg base A outer s H→BindsTo s fd args (ps.zip us)→Vals vs us→sp vs H Q E →
  codeAny (model P w) A (.call (.ref f) args) (CR CX outer P w H s Q E) s
section
variable {X:Cx}{pins:List (Addr×Obj)}{σ:St}{H:Hp}{s s':Shared}
theorem Inv.env0(I:Inv X pins σ H s):Env0 X.prog X.w X.K X.mg X.base X.A X.stack s H :=
 ⟨I.ok.frames,I.ok.mod,I.bs,Nat.le_trans I.ok.bsz I.sz,I.stack,I.stkFree,I.hok,I.bare⟩
theorem Inv.after{Q:VK}{u:Value}(I:Inv X pins σ H s)(h:CE X.stack X.prog X.w H s Q u s'):EP X pins σ Q u s':=by
 obtain⟨v,H',os,bare,un,hok,r,q⟩:=h
 obtain⟨hh,g,d,t,os'⟩:=s'
 obtain rfl:os'=s.os:=os
 exact⟨v,H',I.call (h':=hh) (g':=g) (d':=d) (t':=t) (ch:=[]) un hok bare (fun b z=>absurd z (by simp)),r,q⟩
end
def tCall(sp:Sp)(dvs:List V)(E:XK)(t:TA):TE:=fun σ H Q=>t σ H fun vs H1=>sp (vs++dvs) H1 Q E
def Binds(K:PySem.W.Frag)(fd:FuncData)(ps:List Str)(ds:List Value):Prop :=
 ∀(s:Shared)(us:List Value),K.In s.heap→(us++ds).length=ps.length→BindsTo s fd ⟨us,[]⟩ (ps.zip (us++ds))
theorem Binds.all{K:PySem.W.Frag}{fd:FuncData}{ps:List Str}(h:∀ us:List Value,us.length=ps.length→bindArgs fd ⟨us,[]⟩=pure (ps.zip us)):Binds K fd ps []:=fun s us _ hl=>by
 rw[List.append_nil] at hl ⊢
 exact .of_eq (h us hl)
def Passes(CX:CXT)(X:Cx)(E:XK):Prop:=∀ (pins:List (Addr×Obj)) (σ:St) (H:Hp) (s:Shared) (e:Value) (s':Shared),Inv X pins σ H s→CX X.stack H s E e s'→X.xe e s'
section
variable {X:Cx}{CX:CXT}{k:Nat}{f C:Addr}{fd:FuncData}{ps:List Str}{sp:Sp}{dvs:List V}{ds:List Value}{E:XK}{x m:Str}{p pos apos:Pos}{e o:Expr}{es:List Expr}{ta:TE}{t:TA}
theorem run_fn{pins:List (Addr×Obj)}{σ:St}{H:Hp}{s:Shared}{Q:VK}{us:List Value}{vs:List V}(F:FnOk X.prog X.w X.K X.mg X.base CX k f fd ps sp)(hr:Room k X.A)(hb:Binds X.K fd ps ds)(hd:Vals dvs ds)(hx:Passes CX X E)
  (I:Inv X pins σ H s) (r:Vals vs us) (h:sp (vs++dvs) H Q E):wpAny (model X.prog X.w) X.A (call (.ref f) us) (EP X pins σ Q) X.xe s:=by
 have r2:Vals (vs++dvs) (us++ds):=r.append hd
 have hl:(us++ds).length=ps.length:=by rw[← r2.length];exact F.len _ _ _ _ h
 refine wpAny_call (codeAny_mono (F.run X.A X.stack s H ⟨us,[]⟩ (us++ds) (vs++dvs) Q E hr I.env0 (hb s us I.kIn hl) r2 h) fun r s' hq=>?_)
 cases r with
 | error e=>exact hx pins σ H s e s' I hq
 | ok fl =>
  cases fl with
  | ret u=>exact I.after hq
  | next=>exact False.elim hq
  | brk=>exact False.elim hq
  | cont=>exact False.elim hq
theorem pe_call(F:FnOk X.prog X.w X.K X.mg X.base CX k f fd ps sp)(hr:Room k X.A)(hg:Gl X x)(hm:X.mg x=some (.ref f))(hk:PySem.W.keepIn X.K (.ref f)=true)(hb:Binds X.K fd ps ds)(hd:Vals dvs ds)(hx:Passes CX X E)
  (ha:PA X (e::es) t) (hdb:(x == ("__debug__" : Str))=false:=by decide) (he:starEach (e::es) X.env=(false,eval e X.env)::starEach es X.env:=by rfl) (hpl:(backTo pos (starEach es X.env)).any (·.1)=false:=by rfl) :
  PE X (.Call (.Name x p) (e::es) [] pos) (tCall sp dvs E t):=by
 intro pins s σ H Q I h
 refine wpAny_Call_Name_kw (ld_glob I hg hm ?_ hdb)
 refine PySem.W.callWith_K (h₀:=X.base) I.ok.mod.kin hk (thn (ha pos pins s σ H _ I h) fun us s1 ⟨vs,H1,I1,r,q⟩=>⟨I1.kIn,?_⟩) he hpl
 exact run_fn F hr hb hd hx I1 r q
structure Mk(K:PySem.W.Frag)(C f:Addr):Prop where
 makes:PySem.W.makesIn K C=true
 init:PySem.W.findIn K (.ref C) "__init__" = some (some (.ref f))
 fn:PySem.W.isFn K (.ref f)=true
 kp:PySem.W.keepIn K (.ref C)=true
end
section
variable {X:Cx}{CX:CXT}{k:Nat}{f C:Addr}{fd:FuncData}{ps ks:List Str}{sp:Sp}{E:XK}{x m:Str}{p pos apos kpos:Pos}{e o:Expr}{es:List Expr}{kws:List Keyword}{te ta:TE}{t tk:TA}{nm:Option Str}
structure KBinds(K:PySem.W.Frag)(fd:FuncData)(ps ks:List Str)(g:List Value→List Value→List Value)(gV:List V→List V→List V):Prop where
 to:∀(s:Shared)(us ws:List Value),K.In s.heap→(g us ws).length=ps.length→BindsTo s fd ⟨us,ks.zip ws⟩ (ps.zip (g us ws))
 rel:∀{vs:List V}{us:List Value}{zs:List V}{ws:List Value},Vals vs us→Vals zs ws→Vals (gV vs zs) (g us ws)
variable {g:List Value→List Value→List Value}{gV:List V→List V→List V}
end
structure FnScope(N P:List Str)(sc:Scope):Prop where
 kind:sc.kind=.function
 co:sc.isCoroutine=false
 gen:sc.isGenerator=false
 nd:N.Nodup
 pre:N.take P.length=P
 par:∀ x∈P,sc.names.lookup x=some .local∨sc.names.lookup x=some .cell
 nofree:∀ y∈sc.names,y.2≠.free
theorem bindL_out{kindOf:Str→Option NameKind}{x:Str}:∀ {binds:List (Str×Value)} {m:Str→Option Value},(∀ v,(x,v)∉binds)→bindL kindOf binds m x=m x
 | [],_,_=>rfl
 | (n,v)::r,m,h=>by
  unfold bindL
  rw[bindL_out fun w hw=>h w (List.mem_cons_of_mem _ hw)]
  split
  ·have:x≠n:=by rintro rfl;exact h v List.mem_cons_self
   simp[this]
  ·rfl
theorem bindC_out{kindOf:Str→Option NameKind}{x:Str}:∀ {binds:List (Str×Value)} {m:Str→Option Value},(∀ v,(x,v)∉binds)→bindC kindOf binds m x=m x
 | [],_,_=>rfl
 | (n,v)::r,m,h=>by
  unfold bindC
  rw[bindC_out fun w hw=>h w (List.mem_cons_of_mem _ hw)]
  split
  ·rfl
  ·have:x≠n:=by rintro rfl;exact h v List.mem_cons_self
   simp[this]
theorem bindL_get{kindOf:Str→Option NameKind}{x:Str}{v:Value}:∀{P:List Str}{vs:List Value}{i:Nat}{m:Str→Option Value},P.Nodup→P[i]?=some x→vs[i]?=some v→kindOf x=some .local →
  bindL kindOf (P.zip vs) m x=some v
 | [],_,_,_,_,h,_,_=>by simp at h
 | _::_,[],_,_,_,_,h,_=>by simp at h
 | p::P,w::vs,0,m,nd,h1,h2,hk=>by
  simp at h1 h2;subst h1;subst h2
  show bindL kindOf ((p,w)::P.zip vs) m p=_
  unfold bindL
  rw[bindL_out fun v hv=>(List.nodup_cons.mp nd).1 (List.of_mem_zip hv).1,if_pos hk]
  simp
 | p::P,w::vs,i+1,m,nd,h1,h2,hk=>by
  show bindL kindOf ((p,w)::P.zip vs) m x=_
  unfold bindL
  exact bindL_get (i:=i) (List.nodup_cons.mp nd).2 (by simpa using h1) (by simpa using h2) hk
theorem bindC_get{kindOf:Str→Option NameKind}{x:Str}{v:Value}:∀{P:List Str}{vs:List Value}{i:Nat}{m:Str→Option Value},P.Nodup→P[i]?=some x→vs[i]?=some v→kindOf x≠some .local →
  bindC kindOf (P.zip vs) m x=some v
 | [],_,_,_,_,h,_,_=>by simp at h
 | _::_,[],_,_,_,_,h,_=>by simp at h
 | p::P,w::vs,0,m,nd,h1,h2,hk=>by
  simp at h1 h2;subst h1;subst h2
  show bindC kindOf ((p,w)::P.zip vs) m p=_
  unfold bindC
  rw[bindC_out fun v hv=>(List.nodup_cons.mp nd).1 (List.of_mem_zip hv).1,if_neg hk]
  simp
 | p::P,w::vs,i+1,m,nd,h1,h2,hk=>by
  show bindC kindOf ((p,w)::P.zip vs) m x=_
  unfold bindC
  exact bindC_get (i:=i) (List.nodup_cons.mp nd).2 (by simpa using h1) (by simpa using h2) hk
def start(N:List Str)(vs:List V):St:=vs.map some++List.replicate (N.length - vs.length) none
def cxOf(CX:CXT)(P:Program)(w:World)(K:PySem.W.Frag)(mg:Str→Option Value)(base:Heap)(N:List Str)(qual:Str)(scope:Scope)(f:Addr)(cd:Value)(A:Around)(outer:List Env)(s:Shared)(H:Hp)(E:XK):Cx where
 prog:=P
 w:=w
 K:=K
 mg:=mg
 base:=base
 A:=A.deeper (envOfC qual scope s.heap.objs.size f cd)
 N:=N
 s₀:=s
 H₀:=H
 env:=envOfC qual scope s.heap.objs.size f cd
 outer:=outer
 stack:=envOfC qual scope s.heap.objs.size f cd::outer
 ex:=[]
 calm:=true
 fn:=fun _=>true
 pn:=[]
 xe:=fun e s'=>wpAny (model P w) (A.deeper (envOfC qual scope s.heap.objs.size f cd)) (leaving (envOfC qual scope s.heap.objs.size f cd) e) (fun _ s''=>CX outer H s E e s'') (fun e' s''=>CX outer H s E e' s'') s'
theorem cell_has{sc:Scope}{n:Nat}{x:Str}(h:sc.names.lookup x=some .cell):∃ c,(cellsFrom n sc.names []).lookup x=some c:=by
 have q:=PySem.W.cellsFrom_some sc.names n [] (.inl h)
 exact Option.isSome_iff_exists.mp q
theorem inv_start{CX:CXT}{P:Program}{w:World}{K:PySem.W.Frag}{mg:Str→Option Value}{base:Heap}{N ps:List Str}{qual:Str}{scope:Scope}{f:Addr}{cd:Value}{A:Around}{outer:List Env}{s s1:Shared}{H:Hp}{E:XK}{us:List Value}{vs:List V}
  (S:FnScope N ps scope) (hd:A.handled=none) (e0:Env0 P w K mg base A outer s H) (hl:vs.length=ps.length) (r:Vals vs us)
  (x:InCallC s s.heap.objs.size (bindL (envOfC qual scope s.heap.objs.size f cd).kindOf (ps.zip us) fun _=>none) (cellsFrom (s.heap.objs.size+1) scope.names []) (bindC (envOfC qual scope s.heap.objs.size f cd).kindOf (ps.zip us) fun _=>none) s1) :
  Inv (cxOf CX P w K mg base N qual scope f cd A outer s H E) [] (start N vs) H s1:=by
 have hpl:ps.length≤N.length:=by have:=congrArg List.length S.pre;rw[List.length_take] at this;omega
 obtain⟨h1,tk,rfl,hk⟩:=x.done
 have noA:∀ b:Addr,b∉(cxOf CX P w K mg base N qual scope f cd A outer s H E).ex:=fun b z=>absurd (show b∈([]:List Addr) from z) (by simp)
 refine⟨⟨e0.mod,S.kind,rfl,rfl,Nat.le_refl _,fun y z c h1 h2=>?_,fun y hy=>?_,fun y c _ h=>?_,fun _=>hd,Around.frames_deeper e0.frames,.inr ⟨rfl,rfl⟩,fun b z=>absurd z (noA b),e0.bs,e0.bsz,fun b _ _=>noA b,fun b z=>absurd z (noA b),e0.funs,e0.frf⟩,
  rfl,e0.bare,Un.kept hk,⟨_,x.toInCall.ns,fun i y v h1 h2 h3=>?_⟩,fun y c h=>⟨_,x.cell y c h⟩,e0.hok.fresh (Nat.le_refl _),fun y c h=>?_,fun p hp=>absurd (show p∈([]:List (Addr×Obj)) from hp) (by simp),e0.hok.kept hk,?_⟩
 ·exact name_of_addr x.apart (PySem.mem_of_lookup h1) (PySem.mem_of_lookup h2)
 ·have hy:scope.names.lookup y=some .cell∨scope.names.lookup y=some .free:=hy
  rcases hy with hy | hy
  ·exact cell_has hy
  ·exact absurd rfl (S.nofree _ (PySem.mem_of_lookup hy))
 ·exact Nat.le_of_lt (x.above y c (PySem.mem_of_lookup h))
 ·have hi:i < vs.length:=by
   unfold start at h2
   by_cases hi:i < vs.length
   ·exact hi
   ·rw[List.getElem?_append_right (by simpa using hi)] at h2
    rw[List.getElem?_replicate] at h2
    split at h2<;>cases h2
  have ha:vs[i]?=some v:=by
   unfold start at h2
   rw[List.getElem?_append_left (by simpa using hi),List.getElem?_map] at h2
   cases e:vs[i]? with
   | none=>rw[e] at h2;cases h2
   | some a=>rw[e] at h2;cases h2;rfl
  obtain⟨u,hu,rv⟩:=r.get ha
  have hp:ps[i]?=some y:=by
   rw[← S.pre,List.getElem?_take_of_lt (by omega)];exact h1
  have ndP:ps.Nodup:=by rw[← S.pre];exact S.nd.sublist (List.take_sublist _ _)
  refine⟨u,rv,?_⟩
  rcases S.par y (List.mem_of_getElem? hp) with k | k
  ·exact .inl ⟨k,bindL_get ndP hp hu k⟩
  ·obtain⟨c,e⟩:=cell_has (n:=s.heap.objs.size+1) k
   refine .inr ⟨.inl k,c,e,?_⟩
   have q:=x.cell y c e
   rw[bindC_get ndP hp hu (by show scope.names.lookup y≠_;rw[k];decide)] at q
   exact q
 ·exact e0.hok.fresh (Nat.le_of_lt (x.above y c (PySem.mem_of_lookup h)))
 ·unfold start
  show _=N.length
  rw[List.length_append,List.length_map,List.length_replicate]
  omega
theorem fn_of{CX:CXT}{P:Program}{w:World}{K:PySem.W.Frag}{mg:Str→Option Value}{base:Heap}{k:Nat}{f:Addr}{name qual:Str}{params:Arguments}{body:List Stmt}{scope:Scope}{dV kV doc pm cdv ct oc:Value}{an od:Option Addr}
  {osl:Array (Option Value)} {N ps:List Str} {sp:Sp} (lk:K.lookup f=some ⟨oc,od,.func (PySem.W.fnOf name qual params body scope dV kV doc pm an cdv ct),osl⟩) (hcd:PySem.W.codeIn K cdv qual=true) (S:FnScope N ps scope)
  (len:∀ vs H Q E,sp vs H Q E→vs.length=ps.length)
  (hbody:∀(A:Around)(outer:List Env)(s:Shared)(H:Hp)(vs:List V)(Q:VK)(E:XK),Room k (A.deeper (envOfC qual scope s.heap.objs.size f cdv))→sp vs H Q E →
   ∃ t,PSs (cxOf CX P w K mg base N qual scope f cdv A outer s H E) body t∧t { nx:=fun _ H'=>Q .non H',rt:=Q } (start N vs) H) :
  FnOk P w K mg base CX (k+1) f (PySem.W.fnOf name qual params body scope dV kV doc pm an cdv ct) ps sp:=by
 refine⟨len,fun A outer s H args us vs Q E hr e0 hb r hsp=>?_⟩
 have hl:=len _ _ _ _ hsp
 have KX:K.In s.heap:=e0.mod.kin.keeps fun b o e=>(e0.bs b o e).1
 have lim:s.heap.NoLimit:=e0.mod.nolimit.keeps fun b o e=>(e0.bs b o e).1
 have hkind:∀ y∈ps.zip us,scope.names.lookup y.1=some .local∨(scope.names.lookup y.1=some .cell∧((cellsFrom (s.heap.objs.size+1) scope.names []).lookup y.1).isSome=true):=fun ⟨n,v⟩ hy=>by
  rcases S.par n (List.of_mem_zip hy).1 with q | q
  ·exact .inl q
  ·exact .inr ⟨q,PySem.W.cellsFrom_some _ _ _ (.inl q)⟩
 refine codeAny_call_function hr.depth (KX _ _ lk) rfl S.co S.gen rfl (PySem.W.codeRec_of KX hcd) (hb _ _ _ _ ?_)
 refine wpAny_newFunctionEnv_cells S.kind hkind fun env he s1 x=>?_
 subst he
 refine⟨lim.keeps x.toInCall.keep,codeAny_func ?_⟩
 obtain⟨t,ht,hq⟩:=hbody A outer s H vs Q E (hr.deeper _) hsp
 have I:Inv (cxOf CX P w K mg base N qual scope f cdv A outer s H E) [] (start N vs) H s1:=inv_start S hr.hd e0 hl r x
 refine wpAny_mono (ht [] s1 (start N vs) H _ I hq) (fun fl s' hs=>?_) fun e s' hs=>hs
 have fin:∀{σ':St}{H':Hp}{v:V}{u:Value},Inv (cxOf CX P w K mg base N qual scope f cdv A outer s H E) [] σ' H' s'→RelV v u→Q v H'→CE outer P w H s Q u s' :=
  fun {σ' H' v u} J rv q=>⟨v,H',J.os,J.bare,J.base,J.hok,rv,q⟩
 cases fl with
 | ret u =>
  obtain⟨v,σ',H',J,rv,q⟩:=hs
  exact fin J rv q
 | next =>
  obtain⟨σ',H',J,q⟩:=hs
  exact fin (v:=V.non) (u:=Value.none) J rfl q
 | brk =>
  obtain⟨_,_,_,q⟩:=hs
  exact False.elim q
 | cont =>
  obtain⟨_,_,_,q⟩:=hs
  exact False.elim q
end L2
namespace L2
open PySem PySem.Spec PyProof.Rows
section
variable {X:Cx}{x:Str}{p pos:Pos}{e:Expr}{es:List Expr}{t:TA}{id T:String}{r:List V→Hp→VK→Prop}
def tCB(r:List V→Hp→VK→Prop)(t:TA):TE:=fun σ H Q=>t σ H fun vs H1=>r vs H1 Q
theorem pe_callB(hc:CallR X (.builtin id) r)(hg:Gl X x)(hm:X.mg x=none)(hv:bootBuiltins x=some (.builtin id))(ha:PA X (e::es) t)(hn:x ≠ "__name__" := by decide)(hdb:(x == ("__debug__" : Str))=false:=by decide)
  (he:starEach (e::es) X.env=(false,eval e X.env)::starEach es X.env:=by rfl) (hpl:(backTo pos (starEach es X.env)).any (·.1)=false:=by rfl):PE X (.Call (.Name x p) (e::es) [] pos) (tCB r t):=by
 intro pins s σ H Q I h
 refine wpAny_Call_Name_kw (ld_blt I hg hm hv ?_ hn hdb)
 exact PyProof.Rows.callWith_builtin1 (thn (ha pos pins s σ H _ I h) fun us s1 ⟨vs,H1,I1,r1,q1⟩=>hc pins s1 σ H1 vs us Q I1 r1 q1) he hpl
theorem pe_callTy(hc:CallR X (.type T) r)(hg:Gl X x)(hm:X.mg x=none)(hv:bootBuiltins x=some (.type T))(ha:PA X (e::es) t)(hn:x ≠ "__name__" := by decide)(hdb:(x == ("__debug__" : Str))=false:=by decide)
  (he:starEach (e::es) X.env=(false,eval e X.env)::starEach es X.env:=by rfl) (hpl:(backTo pos (starEach es X.env)).any (·.1)=false:=by rfl):PE X (.Call (.Name x p) (e::es) [] pos) (tCB r t):=by
 intro pins s σ H Q I h
 refine wpAny_Call_Name_kw (ld_blt I hg hm hv ?_ hn hdb)
 exact PyProof.Rows.callWith_type1 (thn (ha pos pins s σ H _ I h) fun us s1 ⟨vs,H1,I1,r1,q1⟩=>hc pins s1 σ H1 vs us Q I1 r1 q1) he hpl
end
end L2
namespace HT
open PySem PyProof.Rows
def lexLt:List Int→List Int→Bool
 | [],[]=>false
 | [],_::_=>true
 | _::_,[]=>false
 | x::xs,y::ys=>if x=y then lexLt xs ys else decide (x < y)
theorem lexLt_cons(x y:Int)(xs ys:List Int):lexLt (x::xs) (y::ys)=if x=y then lexLt xs ys else decide (x < y):=rfl
theorem lexLt_nil_nil:lexLt [] []=false:=rfl
theorem lexLt_nil_cons(y:Int)(ys:List Int):lexLt [] (y::ys)=true:=rfl
theorem lexLt_cons_nil(x:Int)(xs:List Int):lexLt (x::xs) []=false:=rfl
theorem eqAt_int(A:Around)(s:Shared)(a:Int)(t:Tok)(c:Int)(u:Tok):∃ e,SeqAt.EqAt A s (.int a t) (.int c u) e∧(e=true↔a=c) :=
 ⟨(a == c),SeqAt.EqAt.int_int a t c u,by simp⟩
theorem rcLt_int(A:Around)(s:Shared)(a:Int)(t:Tok)(c:Int)(u:Tok)(prog:Program)(w:World)(E:Value→Shared→Prop)(Q:Value→Shared→Prop)(h:Q (.bool (decide (a < c))) s) :
  wpAny (model prog w) A (richCompare .Lt (.int a t) (.int c u)) Q E s :=
 (PyProof.Rows.lt_int h:wpAny (model prog w) A (compareOp .Lt (.int a t) (.int c u)) Q E s)
section
open PySem.SeqAt
open PySem.AutoSeq1 (wpAny_loadPart')
open PySem.MeetsSeq PySem.MeetsSeq2 PySem.MeetsSeq3
theorem tuple_lt_ints(l b:Addr)(items items2:Array Value)(n n2:Nat)(dd dd2:Option Addr)(sl sl2:Array (Option Value))(ns ms:List Int)(hi:IntsAre items.toList ns)(hj:IntsAre items2.toList ms) :
  Meets (Builtin.«tuple.__lt__» ⟨[.ref l,.ref b],[]⟩)
   (fun _ R s=>s.heap.get? l=some { cls:=.type "tuple", dict:=dd,data:=.seq items n,slots:=sl }∧s.heap.get? b=some { cls:=.type "tuple", dict:=dd2,data:=.seq items2 n2,slots:=sl2 } ∧
    R (.ok (.ret (.bool (lexLt ns ms)))) s) :=
 .of_wp fun prog w A R s h=>by
  obtain⟨hp,g,d,tk,os⟩:=s;obtain⟨hl,hb,h⟩:=h
  have f2:=AutoSeq1.sub_tuple_tuple
  have z1:items.size=ns.length:=by rw[← hi.length];simp
  have z2:items2.size=ms.length:=by rw[← hj.length];simp
  wp_walk using wpAny_loadPart' hl,wpAny_loadPart' hb,wpAny_forIn_list _ (fun rest b s'=>b.1=none∧s'=⟨hp,g,d,tk,os⟩∧∃(vs ws:List Value)(ns' ms':List Int),rest=vs.zip ws ∧
   IntsAre vs ns'∧IntsAre ws ms'∧ns'.length+items2.size=ms'.length+items.size∧R (.ok (.ret (.bool (lexLt ns' ms')))) ⟨hp,g,d,tk,os⟩) _
  case turn =>
   rintro ⟨y,x⟩ rest b s' ⟨hb',rfl,vs,ws,ns',ms',hz,hvi,hwi,hlen,hR⟩
   cases hvi with
   | nil=>rw[List.zip_nil_left] at hz;cases hz
   | cons a t hvi' =>
    cases hwi with
    | nil=>rw[List.zip_nil_right] at hz;cases hz
    | cons c u hwi' =>
     rw[List.zip_cons_cons] at hz
     injection hz with hyx hrest
     injection hyx with hy hx
     subst hy hx
     rw[lexLt_cons] at hR
     simp only[List.length_cons] at hlen
     obtain⟨e,he,hiff⟩:=eqAt_int A.in1 ⟨hp,g,d,tk,os⟩ a t c u
     refine wpAny_bind (he prog w _ _ ?_)
     cases e with
     | true =>
      rw[if_pos (hiff.mp rfl)] at hR
      wp_walk
      exact⟨rfl,rfl,_,_,_,_,hrest,hvi',hwi',by omega,hR⟩
     | false =>
      rw[if_neg (fun q=>absurd (hiff.mpr q) Bool.false_ne_true)] at hR
      have hri:=rcLt_int A.in1 ⟨hp,g,d,tk,os⟩ a t c u prog w
      wp_walk using hri
      exact⟨_,rfl,by simpa using hR⟩
  case fin =>
   rintro ⟨b1,b2⟩ s' ⟨hb',rfl,vs,ws,ns',ms',hz,hvi,hwi,hlen,hR⟩
   simp only at hb'
   subst hb'
   have hv:lexLt ns' ms'=decide (items.size < items2.size):=by
    cases hvi with
    | nil =>
     cases hwi with
     | nil =>
      simp only[List.length_nil] at hlen
      rw[lexLt_nil_nil]
      exact (decide_eq_false (by omega)).symm
     | cons c u hw =>
      simp only[List.length_nil,List.length_cons] at hlen
      rw[lexLt_nil_cons]
      exact (decide_eq_true (by omega)).symm
    | cons a t hv =>
     cases hwi with
     | nil =>
      simp only[List.length_nil,List.length_cons] at hlen
      rw[lexLt_cons_nil]
      exact (decide_eq_false (by omega)).symm
     | cons c u hw =>
      rw[List.zip_cons_cons] at hz
      cases hz
   rw[hv] at hR
   wp_walk
   exact⟨_,rfl,by simpa [Builtin.Tuple.tupleCompareSizes] using hR⟩
  case h =>
   exact⟨rfl,rfl,items.toList,items2.toList,ns,ms,rfl,hi,hj,by omega,h⟩
end
section
variable {prog:Program}{w:World}{A:Around}{E:Value→Shared→Prop}{s:Shared}
theorem lt_tupInts{l b:Addr}{items items2:Array Value}{ns ms:List Int}{Q:Value→Shared→Prop}(hl:IsTup s.heap l items)(hb:IsTup s.heap b items2)(hi:IntsAre items.toList ns)(hj:IntsAre items2.toList ms)
  (hu:A.units < cLine) (h:Q (.bool (lexLt ns ms)) s):wpAny (model prog w) A (compareOp .Lt (.ref l) (.ref b)) Q E s:=by
 obtain⟨⟨cls,dd,data,sl⟩,ho,hc,n,hd⟩:=id hl
 obtain⟨⟨cls2,dd2,data2,sl2⟩,ho2,hc2,n2,hd2⟩:=id hb
 simp only at hc hd hc2 hd2
 subst hc hd hc2 hd2
 exact richCompare_meets_room (op:=.Lt) ⟨_,ho,rfl⟩ ⟨_,ho2,rfl⟩ PySem.F.slot_tuple_lt PySem.F.entry_tuple_lt (PySem.F.args_tuple_lt_2 _ _) (tuple_lt_ints l b items items2 n n2 dd dd2 sl sl2 ns ms hi hj)
  ⟨ho,ho2,show Value.bool (lexLt ns ms)≠Value.notImplemented∧Q (.bool (lexLt ns ms)) s from ⟨(fun x=>nomatch x),h⟩⟩ hu
def sIx(n d:Nat):Option Int→Nat
 | none=>d
 | some v=>if v < 0 then (v+(n:Int)).toNat else min v.toNat n
theorem sIx_none(n d:Nat):sIx n d none=d:=rfl
theorem sIx_nat(n d k:Nat):sIx n d (some (k:Int))=min k n:=by
 show (if (k:Int) < 0 then ((k:Int)+(n:Int)).toNat else min (k:Int).toNat n)=min k n
 rw[if_neg (by omega),Int.toNat_natCast]
end
end HT
namespace L2
open PySem PySem.Spec PyProof.Rows
abbrev TO:=St→Hp→(Option Int→Hp→Prop)→Prop
def PO(X:Cx)(e:Option Expr)(t:TO):Prop :=
 ∀ (pins:List (Addr×Obj)) (s:Shared) (σ:St) (H:Hp) (Q:Option Int→Hp→Prop),Inv X pins σ H s→t σ H Q →
  wpAny (model X.prog X.w) X.A (evalPart e X.env) (fun u s'=>∃ o H',Inv X pins σ H' s'∧IsPart u o∧Q o H') X.xe s
def tNoPart:TO:=fun _ H Q=>Q none H
def tPart(t:TE):TO:=fun σ H Q=>t σ H fun x H1=>∃ i,x=.int i∧Q (some i) H1
theorem intsAre_of{ns:List Int}:∀{us:List Value},Vals (ns.map V.int) us→IntsAre us ns:=by
 induction ns with
 | nil=>intro us r;rw[List.map_nil] at r;cases r;exact .nil
 | cons n ns ih =>
  intro us r
  rw[List.map_cons] at r
  cases r with
  | cons r1 r2 =>
   obtain⟨t,e⟩:=r1
   subst e
   exact .cons n t (ih r2)
section
variable {X:Cx}{e:Expr}{te:TE}{lo hi:Option Expr}{tl th:TO}{pos p2:Pos}
theorem po_none:PO X none tNoPart:=by
 intro pins s σ H Q I h
 rw[evalPart_none]
 exact wpAny_pure ⟨none,H,I,.none,h⟩
theorem po_some(h:PE X e te):PO X (some e) (tPart te):=by
 intro pins s σ H Q I hw
 rw[evalPart_some]
 refine thn (h pins s σ H _ I hw) fun u s1 ⟨x,H1,I1,r1,q1⟩=>?_
 obtain⟨i,rfl,q⟩:=q1
 obtain⟨t,rfl⟩:=r1
 exact⟨some i,H1,I1,.int i t,q⟩
def SlR(X:Cx)(r:V→Option Int→Option Int→Hp→VK→Prop):Prop :=
 ∀ (pins:List (Addr×Obj)) (s:Shared) (σ:St) (H:Hp) (x:V) (v vl vu:Value) (lo hi:Option Int) (sl:Addr) (Q:VK),Inv X pins σ H s→RelV x v→s.heap.IsSliceOf sl vl vu .none→IsPart vl lo→IsPart vu hi→r x lo hi H Q →
  ∃ T id,typeLookup (.type T) "__getitem__" = pure (some (.builtin id))∧s.TypeIs v T∧wpAny (model X.prog X.w) X.A (getItem v (.ref sl)) (EP X pins σ Q) X.xe s
def tSl(r:V→Option Int→Option Int→Hp→VK→Prop)(te:TE)(tl th:TO):TE:=fun σ H Q=>te σ H fun x H1=>tl σ H1 fun l H2=>th σ H2 fun u H3=>r x l u H3 Q
theorem pe_slice{r:V→Option Int→Option Int→Hp→VK→Prop}(hr:SlR X r)(he:PE X e te)(hl:PO X lo tl)(hu:PO X hi th):PE X (.Subscript e (.Slice lo hi none p2) pos) (tSl r te tl th):=by
 intro pins s σ H Q I h
 refine Subscript_ (thn (he pins s σ H _ I h) fun v s1 ⟨x,H1,I1,r1,q1⟩=>?_)
 refine wpAny_Slice (thn (hl pins s1 σ H1 _ I1 q1) fun vl s2 ⟨l,H2,I2,pl,q2⟩=>thn (hu pins s2 σ H2 _ I2 q2) fun vu s3 ⟨u,H3,I3,pu,q3⟩=>?_)
 rw[evalPart_none]
 refine wpAny_pure ?_
 have I4:Inv X pins σ H3 { s3 with heap:=s3.heap.push { cls:=.type "slice", data:=.fields #[vl,vu,.none] } }:=I3.kept (t':=s3.toks) fun b ob q=>Heap.get?_push_of_some _ q
 obtain⟨T,id,hT,ht,hg⟩:=hr pins { s3 with heap:=s3.heap.push { cls:=.type "slice", data:=.fields #[vl,vu,.none] } } σ H3 x v vl vu l u s3.heap.objs.size Q I4 r1 (Heap.IsSliceOf.new ..) pl pu q3
 show wpAny (model X.prog X.w) X.A (subscriptTail e (.Slice lo hi none p2) v (.ref s3.heap.objs.size)) (EP X pins σ Q) X.xe { s3 with heap:=s3.heap.push { cls:=.type "slice", data:=.fields #[vl,vu,.none] } }
 exact tail_any (ops:=[.ref s3.heap.objs.size,v]) ht hT hg (by with_unfolding_all rfl)
def cutV(xs:List V)(lo hi:Option Int):List V:=(xs.drop (HT.sIx xs.length 0 lo)).take (HT.sIx xs.length xs.length hi - HT.sIx xs.length 0 lo)
theorem cutV_length(xs:List V)(lo hi:Option Int):(cutV xs lo hi).length≤xs.length:=by
 unfold cutV
 rw[List.length_take,List.length_drop]
 omega
def rLtT(K:PySem.W.Frag):R2:=fun x y H Q=>∃ a b ns ms,x=.ref a∧y=.ref b∧SqT K H a (ns.map V.int)∧SqT K H b (ms.map V.int)∧Q (.bl (HT.lexLt ns ms)) H
theorem op_ltT(hu:X.A.units < cLine):OpR X (compareOp .Lt) (rLtT X.K):=by
 intro pins s σ H x y v u Q I rx ry h
 obtain⟨a,b,ns,ms,rfl,rfl,ha,hb,q⟩:=h
 cases rx
 cases ry
 obtain⟨its,r1,p1,_⟩:=I.tuple ha
 obtain⟨its2,r2,p2,_⟩:=I.tuple hb
 have i1:IntsAre its.toArray.toList ns:=intsAre_of r1
 have i2:IntsAre its2.toArray.toList ms:=intsAre_of r2
 exact HT.lt_tupInts p1 p2 i1 i2 hu ⟨.bl (HT.lexLt ns ms),H,I,rfl,q⟩
end
end L2
namespace L2
open PySem PySem.Spec PyProof.Rows
def ixN(n:Nat)(i:Int):Option Nat:=if 0≤i then (if i < n then some i.toNat else none) else if -(n:Int)≤i then some (i+n).toNat else none
def atI{α:Type}(xs:List α)(i:Int):Option α:=(ixN xs.length i).bind fun j=>xs[j]?
theorem ixN_seq{n:Nat}{i:Int}{j:Nat}(h:ixN n i=some j):seqIndex? i n=some j∧j < n∧-(n:Int)≤i∧i < n:=by
 unfold ixN at h
 by_cases h0:0≤i
 ·rw[if_pos h0] at h
  by_cases h1:i < n
  ·rw[if_pos h1] at h
   have e:i.toNat=j:=Option.some.inj h
   exact⟨by rw[seqIndex_of h0 h1,e],by omega,by omega,h1⟩
  ·rw[if_neg h1] at h;cases h
 ·rw[if_neg h0] at h
  by_cases h1:-(n:Int)≤i
  ·rw[if_pos h1] at h
   have e:(i+n).toNat=j:=Option.some.inj h
   exact⟨by rw[seqIndex_neg (by omega) h1,e],by omega,h1,by omega⟩
  ·rw[if_neg h1] at h;cases h
theorem atI_get{α:Type}{xs:List α}{i:Int}{v:α}(h:atI xs i=some v):∃ j,seqIndex? i xs.length=some j∧xs[j]?=some v∧j < xs.length∧-(xs.length:Int)≤i∧i < xs.length:=by
 unfold atI at h
 cases e:ixN xs.length i with
 | none=>rw[e] at h;cases h
 | some j =>
  rw[e] at h
  obtain⟨h1,h2,h3,h4⟩:=ixN_seq e
  exact⟨j,h1,h,h2,h3,h4⟩
theorem atI_nat{α:Type}{xs:List α}{j:Nat}{v:α}(h:xs[j]?=some v):atI xs (j:Int)=some v:=by
 have hj:j < xs.length:=(List.getElem?_eq_some_iff.mp h).1
 have e:ixN xs.length (j:Int)=some j:=by
  unfold ixN
  rw[if_pos (by omega),if_pos (by omega)];simp
 unfold atI;rw[e];exact h
def PlainIx(b:Expr):Prop:=∀ o i,subscripted b false o i=operate [o,i] (getItem o i)
def IxR(X:Cx)(r:R2):Prop :=
 ∀(value slice:Expr) (pins:List (Addr×Obj)) (s:Shared) (σ:St) (H:Hp) (x y:V) (v u:Value) (Q:VK),Inv X pins σ H s→RelV x v→RelV y u→r x y H Q →
  subscripted slice false v u=operate [v,u] (getItem v u)→wpAny (model X.prog X.w) X.A (subscriptTail value slice v u) (EP X pins σ Q) X.xe s
def MtR(X:Cx)(id:String)(r:V→List V→Hp→VK→Prop):Prop :=
 ∀ (pins:List (Addr×Obj)) (s:Shared) (σ:St) (H:Hp) (x:V) (xs:List V) (v:Value) (us:List Value) (Q:VK),Inv X pins σ H s→RelV x v→Vals xs us→r x xs H Q →
  wpAny (model X.prog X.w) X.A (call (.builtin id) (v::us)) (EP X pins σ Q) X.xe s
section
variable {X:Cx}{a b:Expr}{ta tb:TE}{pos:Pos}
theorem pe_ix{r:R2}(hr:IxR X r)(ha:PE X a ta)(hb:PE X b tb)(hs:PlainIx b):PE X (.Subscript a b pos) (tOp r ta tb):=by
 intro pins s σ H Q I h
 exact Subscript_ (binT ha hb I h fun v u s2 x y H2 I2 rx ry q=>hr a b pins s2 σ H2 x y v u Q I2 rx ry q (hs _ _))
def rIxL(K:PySem.W.Frag):R2:=fun x y H Q=>∃ p xs i v,x=.ref p∧y=.int i∧SqL K H p xs∧atI xs i=some v∧Q v H
def rIxT(K:PySem.W.Frag):R2:=fun x y H Q=>∃ p xs i v,x=.ref p∧y=.int i∧SqT K H p xs∧atI xs i=some v∧Q v H
theorem ix_list:IxR X (rIxL X.K):=by
 intro value slice pins s σ H x y v u Q I rx ry h hs
 obtain⟨p,xs,i,z,rfl,rfl,hq,he,q⟩:=h
 cases rx
 obtain⟨t,rfl⟩:=ry
 obtain⟨its,r,pl,hz⟩:=I.list hq
 obtain⟨j,h1,h2,h3,h4,h5⟩:=atI_get he
 obtain⟨w,ew,rw'⟩:=r.get h2
 have hl:=r.length
 have hn:=line63
 have fin:EP X pins σ Q w s:=⟨z,H,I,rw',q⟩
 by_cases h0:0≤i
 ·have hj:i.toNat=j:=by
   rw[seqIndex_of h0 h5] at h1
   exact Option.some.inj h1
  exact item_listR pl.isList h0 (by omega) (by rw[hj];simpa using ew) fin hs
 ·have hj:(i+(its.toArray.size:Int)).toNat=j:=by
   rw[seqIndex_neg (by omega) h4] at h1
   rw[List.size_toArray,← hl]
   exact Option.some.inj h1
  exact subscriptTail_builtinR (x:=w) pl.isList.typeIs slot_list_getitem.lookup
   (wpAny_getItem_list_neg (Q:=fun r s'=>r=w∧EP X pins σ Q r s') pl.isList (by omega) (by rw[List.size_toArray]<;>omega) (by omega) (by rw[hj];simpa using ew) ⟨rfl,fin⟩) hs
theorem ix_tup:IxR X (rIxT X.K):=by
 intro value slice pins s σ H x y v u Q I rx ry h hs
 obtain⟨p,xs,i,z,rfl,rfl,hq,he,q⟩:=h
 cases rx
 obtain⟨t,rfl⟩:=ry
 obtain⟨its,r,pl,hz⟩:=I.tuple hq
 obtain⟨j,h1,h2,h3,h4,h5⟩:=atI_get he
 obtain⟨w,ew,rw'⟩:=r.get h2
 have hl:=r.length
 have hn:=line63
 have fin:EP X pins σ Q w s:=⟨z,H,I,rw',q⟩
 exact subscriptTail_builtinR (x:=w) pl.typeIs slot_tuple_getitem.lookup
  (getItem_tuple (j:=j) (Q:=fun r s'=>r=w∧EP X pins σ Q r s') pl (by omega) (by omega) (by rw[List.size_toArray,← hl];exact h1) (by simpa using ew) ⟨rfl,fin⟩) hs
theorem mapSeq_set(its:List Value)(n j:Nat)(u:Value):Obj.mapSeq (·.setIfInBounds j u) { cls:=.type "list", data:=.seq its.toArray n }={ cls:=.type "list", data:=.seq (its.set j u).toArray n }:=by
 simp[Obj.mapSeq]
theorem Inv.lst{pins:List (Addr×Obj)}{σ:St}{H:Hp}{s:Shared}{p:Addr}{xs:List V}(I:Inv X pins σ H s)(h:H p=some (.lst xs)) :
  ∃(its:List Value)(n:Nat),Vals xs its∧s.heap.get? p=some { cls:=.type "list", data:=.seq its.toArray n }∧xs.length≤sizeLine:=by
 obtain⟨z,its,n,r,e⟩:=I.hok p _ h
 exact⟨its,n,r,e,z⟩
theorem Inv.lstUpd{pins:List (Addr×Obj)}{σ:St}{H:Hp}{s:Shared}{p:Addr}{xs ys:List V}{its its':List Value}{n n':Nat}{f:Obj→Obj}(I:Inv X pins σ H s)(h:H p=some (.lst xs))
  (ho:s.heap.get? p=some { cls:=.type "list", data:=.seq its.toArray n }) (hf:f { cls:=.type "list", data:=.seq its.toArray n }={ cls:=.type "list", data:=.seq its'.toArray n' }) (r:Vals ys its') (hz:ys.length≤sizeLine) (t:Nat) :
  Inv X pins σ (upd H p (.lst ys)) { s with heap:=s.heap.update p f,toks:=t }:=by
 have e:(s.heap.update p f).get? p=some { cls:=.type "list", data:=.seq its'.toArray n' }:=by
  rw[Heap.get?_update_self f ho (by rw[hf]<;>rfl),hf]
 refine I.write (x:=p) (e:=p) (by rw[h];trivial) (.inl rfl) (fun b u hb q=>(Heap.get?_update_other _ _ (Ne.symm hb)).trans q) ⟨_,e⟩ ?_
 exact⟨hz,its',n',r,e⟩
def rSetL:V→V→V→Hp→(Hp→Prop)→Prop:=fun o i v H Q=>∃ p xs k j,o=.ref p∧i=.int k∧H p=some (.lst xs)∧ixN xs.length k=some j∧Q (upd H p (.lst (xs.set j v)))
theorem set_list:PSet X rSetL:=by
 intro pins s σ H o i v ov iv u Q I ro ri rv h
 obtain⟨p,xs,k,j,rfl,rfl,hp,hj,q⟩:=h
 cases ro
 obtain⟨t,rfl⟩:=ri
 obtain⟨its,n,r,ho,hz⟩:=I.lst hp
 obtain⟨h1,h2,h3,h4⟩:=ixN_seq hj
 have hl:=r.length
 have hn:=line63
 have I':Inv X pins σ (upd H p (.lst (xs.set j v))) { s with heap:=s.heap.update p (Obj.mapSeq (·.setIfInBounds j u)) } :=
  I.lstUpd hp ho (mapSeq_set its n j u) (r.set rv j) (by rw[List.length_set];exact hz) s.toks
 by_cases h0:0≤k
 ·have hk:k.toNat=j:=by
   rw[seqIndex_of h0 h4] at h1
   exact Option.some.inj h1
  exact PySem.W.ki_setAt ho h0 (by omega) (by rw[List.size_toArray,← hl];exact h4) (by rw[hk];exact⟨_,I',q⟩)
 ·have hk:(k+(its.toArray.size:Int)).toNat=j:=by
   rw[seqIndex_neg (by omega) h3] at h1
   rw[List.size_toArray,← hl]
   exact Option.some.inj h1
  exact PySem.W.ki_setBack ho (by omega) (by rw[List.size_toArray,← hl];exact h3) (by omega) (by rw[hk];exact⟨_,I',q⟩)
theorem slice_bounds(lo hi:Option Int)(n:Nat):(sliceBounds lo hi none n).1=((HT.sIx n 0 lo:Nat):Int)∧(sliceBounds lo hi none n).2.1=((HT.sIx n n hi:Nat):Int)∧(sliceBounds lo hi none n).2.2=1:=by
 refine⟨?_,?_,rfl⟩
 ·cases lo with
  | none=>simp[sliceBounds,HT.sIx]
  | some i =>
   simp only[sliceBounds,HT.sIx,Option.getD_none,show (1:Int) > 0 by decide,if_true]
   by_cases h:i < 0
   ·simp only[h,if_true]<;>omega
   ·simp only[h,if_false]<;>omega
 ·cases hi with
  | none=>simp[sliceBounds,HT.sIx]
  | some i =>
   simp only[sliceBounds,HT.sIx,Option.getD_none,show (1:Int) > 0 by decide,if_true]
   by_cases h:i < 0
   ·simp only[h,if_true]<;>omega
   ·simp only[h,if_false]<;>omega
theorem slicePick_cut(its:List Value)(lo hi:Option Int):slicePick its.toArray lo hi none=((its.drop (HT.sIx its.length 0 lo)).take (HT.sIx its.length its.length hi - HT.sIx its.length 0 lo)).toArray:=by
 obtain⟨h1,h2,h3⟩:=slice_bounds lo hi its.toArray.size
 unfold slicePick
 rw[h1,h2,h3]
 simp only[sliceRange_one,pick_run,List.size_toArray]<;>rfl
def rSlL(K:PySem.W.Frag):V→Option Int→Option Int→Hp→VK→Prop:=fun x lo hi H Q=>∃ a xs,x=.ref a∧SqL K H a xs∧∀ p,H p=none→Q (.ref p) (upd H p (.lst (cutV xs lo hi)))
theorem sl_list:SlR X (rSlL X.K):=by
 intro pins s σ H x v vl vu lo hi sl Q I rx hs pl pu h
 obtain⟨a,xs,rfl,hx,q⟩:=h
 cases rx
 obtain⟨its,r,ht,hz⟩:=I.list hx
 have hlen:=r.length
 refine⟨"list", _,slot_list_getitem.lookup,ht.isList.typeIs,?_⟩
 refine wpAny_getItem_list_slice ht.isList hs pl pu .none (by simp) ?_ (by rw[List.size_toArray]<;>omega)
 rw[slicePick_cut,← hlen]
 refine⟨.ref s.heap.objs.size,_,I.laid (t':=s.toks) (o:=.lst (cutV xs lo hi)) (fun b ob q=>Heap.get?_push_of_some _ q) (Nat.le_refl _) ?_,rfl,q _ (I.hok.fresh (Nat.le_refl _))⟩
 exact⟨Nat.le_trans (cutV_length xs lo hi) hz,_,0,(r.drop (HT.sIx xs.length 0 lo)).take (HT.sIx xs.length xs.length hi - HT.sIx xs.length 0 lo),Heap.get?_push_size _ rfl⟩
theorem call_len_seq:CallR X (.builtin "len") (fun xs H Q=>∃ p ys,xs=[.ref p]∧(SqL X.K H p ys∨SqT X.K H p ys)∧Q (.int ys.length) H):=by
 intro pins s σ H xs us Q I r h
 obtain⟨p,ys,rfl,hq,q⟩:=h
 obtain⟨u,rfl,rx⟩:=vals1 r
 cases rx
 have hn:=line63
 rcases hq with hq | hq
 ·obtain⟨its,r',pl,hz⟩:=I.list hq
  have hlen:=r'.length
  exact Calls.call_len_list pl.isList (by simp only[List.size_toArray]<;>omega) ⟨.int ys.length,H,I.tok _,⟨s.toks+1,by rw[List.size_toArray,hlen]⟩,q⟩
 ·obtain⟨its,r',pl,hz⟩:=I.tuple hq
  have hlen:=r'.length
  exact len_tuple pl (by simp only[List.size_toArray]<;>omega) ⟨.int ys.length,H,I.tok _,⟨s.toks+1,by rw[List.size_toArray,hlen]⟩,q⟩
theorem call_list_of:CallR X (.type "list") (fun xs H Q=>∃ p ys,xs=[.ref p]∧(SqL X.K H p ys∨SqT X.K H p ys)∧∀ l,H l=none→Q (.ref l) (upd H l (.lst ys))):=by
 intro pins s σ H xs us Q I r h
 obtain⟨p,ys,rfl,hq,q⟩:=h
 obtain⟨u,rfl,rx⟩:=vals1 r
 cases rx
 have fin:∀(its:List Value),Vals ys its→ys.length≤sizeLine→∀(h':Heap)(c':Nat),(∀ b o',s.heap.get? b=some o'→h'.get? b=some o') →
   h'.get? s.heap.objs.size=some { cls:=.type "list", dict:=none,data:=.seq its.toArray c',slots:=#[] }→EP X pins σ Q (.ref s.heap.objs.size) { s with heap:=h' }:=fun its r' hz h' c' kp e =>
  ⟨.ref s.heap.objs.size,_,I.laid (t':=s.toks) kp (Nat.le_refl _) (show ObjOk X.prog X.w _ h' _ (.lst ys) from ⟨hz,its,c',r',e⟩),rfl,q _ (I.hok.fresh (Nat.le_refl _))⟩
 rcases hq with hq | hq
 ·obtain⟨its,r',pl,hz⟩:=I.list hq
  have hlen:=r'.length
  obtain⟨o,ho,hc,n,hd⟩:=pl.isList
  exact call_list_seq p (.inl rfl) ho hc hd (fun h' c' kp e=>fin its r' hz h' c' kp e) (by simp only[List.size_toArray]<;>omega)
 ·obtain⟨its,r',pl,hz⟩:=I.tuple hq
  have hlen:=r'.length
  obtain⟨o,ho,hc,n,hd⟩:=pl
  exact call_list_seq p (.inr rfl) ho hc hd (fun h' c' kp e=>fin its r' hz h' c' kp e) (by simp only[List.size_toArray]<;>omega)
def tyV(K:PySem.W.Frag)(T:String)(x:V)(H:Hp):Prop:=match x with
 | .str _=>T = "str"
 | .int _=>T = "int"
 | .ref p=>(T = "list" ∧ ∃ xs,SqL K H p xs)∨(T = "tuple" ∧ ∃ o,K.lookup p=some o∧o.cls=.type "tuple" ∧ o.dict=none) ∨
   (T = "dict" ∧ ((∃ kvs,H p=some (.dK kvs))∨∃ kvs,H p=some (.dT kvs)))∨(T = "set" ∧ ∃ S n,H p=some (.set S n))
 | _=>False
theorem tyV_is{pins:List (Addr×Obj)}{σ:St}{H:Hp}{s:Shared}{T:String}{x:V}{v:Value}(I:Inv X pins σ H s)(r:RelV x v)(ty:tyV X.K T x H) :
  s.TypeIs v T∧∀ a,v=.ref a→∃ ob,s.heap.get? a=some ob∧ob.dict=none:=by
 cases x with
 | str z =>
  obtain⟨t,rfl⟩:=r
  cases (show T = "str" from ty)
  exact⟨typeIs_str s z t,fun _ e=>nomatch e⟩
 | int i =>
  obtain⟨t,rfl⟩:=r
  cases (show T = "int" from ty)
  exact⟨typeIs_int s i t,fun _ e=>nomatch e⟩
 | ref p =>
  cases r
  rcases ty with ⟨rfl,xs,hq⟩ | ⟨rfl,o,hk,hc,hd⟩ | ⟨rfl,hk⟩ | ⟨rfl,S,n,hk⟩
  ·obtain⟨its,_,pl,_⟩:=I.list hq
   refine⟨pl.isList.typeIs,fun a e=>?_⟩
   cases e
   obtain⟨o,n,e,c,hd,_⟩:=pl
   exact⟨o,e,hd⟩
  ·refine⟨⟨o,I.kIn p o hk,hc⟩,fun a e=>?_⟩
   cases e
   exact⟨o,I.kIn _ o hk,hd⟩
  ·have z:∃ o,s.heap.get? p=some o∧o.ExactDict:=by
    rcases hk with ⟨kvs,hk⟩ | ⟨kvs,hk⟩
    ·obtain⟨_,_,_,_,o,_,_,e,ex,_⟩:=I.hok p _ hk
     exact⟨o,e,ex⟩
    ·obtain⟨_,_,_,_,o,_,_,e,ex,_⟩:=I.hok p _ hk
     exact⟨o,e,ex⟩
   obtain⟨o,e,ex⟩:=z
   refine⟨⟨o,e,ex.1⟩,fun a e2=>?_⟩
   cases e2
   exact⟨o,e,ex.2.1⟩
  ·obtain⟨o,_,_,_,e,ex,_⟩:=I.hok p _ hk
   refine⟨⟨o,e,ex.1⟩,fun a e2=>?_⟩
   cases e2
   exact⟨o,e,ex.2.1⟩
 | _=>exact False.elim ty
def tBM(K:PySem.W.Frag)(T:String)(r:V→List V→Hp→VK→Prop)(to:TE)(t:TA):TE:=fun σ H Q=>to σ H fun x H1=>tyV K T x H1∧t σ H1 fun xs H2=>r x xs H2 Q
variable {o e:Expr}{es:List Expr}{to:TE}{t:TA}{name:Str}{apos cpos:Pos}{T id:String}{r:V→List V→Hp→VK→Prop}
theorem pe_bm(pa:PlainAttrs T)(slot:Slot T name id)(hty:typeOf (.builtin id)=pure (.type "method_descriptor"))(hm:MtR X id r)(ho:PE X o to)(ha:PA X (e::es) t)
  (hbase:attributeBase o name X.env (eval o X.env)=eval o X.env:=by rfl)
  (hfew:((backTo cpos (starEach (e::es) X.env)).all (fun x=>!x.1) && (backToKw cpos (keywordEach [] X.env)).all (fun x=>x.1.isSome)
   && decide ((e::es).length+([]:List Keyword).length+(if ([]:List Keyword).isEmpty then 0 else 1) < 30))=true:=by rfl)
  (hline:(apos.endLine == cpos.line)=true:=by rfl) (hs:starEach (e::es) X.env=(false,eval e X.env)::starEach es X.env:=by rfl) (hplain:(backTo cpos (starEach es X.env)).any (·.1)=false:=by rfl) :
  PE X (.Call (.Attribute o name apos) (e::es) [] cpos) (tBM X.K T r to t):=by
 intro pins s σ H Q I h
 refine wpAny_Call_method_late hbase hfew hline rfl (thn (ho pins s σ H _ I h) fun v s1 ⟨x,H1,I1,r1,ty,q1⟩=>?_)
 obtain⟨h1,h2⟩:=tyV_is I1 r1 ty
 refine⟨T,id,pa,slot,hty,h1,h2,?_⟩
 have hA:=ha cpos pins s1 σ H1 _ I1 q1
 rw[hs] at hA ⊢
 refine Calls.callWith_builtin (by show (false || (backTo cpos (starEach es X.env)).any (·.1))=false;rw[hplain]<;>rfl) (Calls.evalArgs_plain ?_)
 exact thn hA fun us s2 ⟨vs,H2,I2,r2,q2⟩=>hm pins s2 σ H2 x vs v us Q I2 r1 r2 q2
end
end L2
namespace L2
open PySem PySem.Spec PyProof.Rows
def MtM(X:Cx)(id:String)(r:V→List V→Hp→VK→Prop):Prop :=
 ∀ (pins:List (Addr×Obj)) (s:Shared) (σ:St) (H:Hp) (x:V) (xs:List V) (v:Value) (us:List Value) (Q:VK),Inv X pins σ H s→RelV x v→Vals xs us→r x xs H Q →
  wpAny (model X.prog X.w) X.A (call (.builtin id) (v::us)) (EP X pins σ Q) X.xe s
theorem Vals.one:∀{x:V}{us:List Value},Vals [x] us→∃ u,us=[u]∧RelV x u
 | _,_,.cons r .nil=>⟨_,rfl,r⟩
theorem Vals.two:∀{x y:V}{us:List Value},Vals [x,y] us→∃ u v,us=[u,v]∧RelV x u∧RelV y v
 | _,_,_,.cons r (.cons q .nil)=>⟨_,_,rfl,r,q⟩
section
variable {X:Cx}{pins:List (Addr×Obj)}{σ:St}{H:Hp}{s:Shared}{l b:Addr}{xs ys zs:List V}
theorem Inv.lset{its its':List Value}{n:Nat}{f:Array Value→Array Value}{t':Nat}(I:Inv X pins σ H s)(hH:H l=some (.lst xs))
  (e:s.heap.get? l=some { cls:=.type "list", data:=.seq its.toArray n }) (hf:f its.toArray=its'.toArray) (hv:Vals ys its') (hz:ys.length≤sizeLine) :
  Inv X pins σ (upd H l (.lst ys)) { s with heap:=s.heap.update l (Obj.mapSeq f),toks:=t' }:=by
 have q:=PySem.IsL.update e f
 rw[hf] at q
 refine I.write (x:=l) (e:=l) (by rw[hH];exact trivial) (.inl rfl) (fun b' u hb hu=>(Heap.get?_update_other s.heap (Obj.mapSeq f) (Ne.symm hb)).trans hu) ⟨_,q⟩ ?_
 exact⟨hz,its',_,hv,q⟩
theorem Inv.fresh(I:Inv X pins σ H s):H s.heap.objs.size=none:=I.hok.fresh (Nat.le_refl _)
theorem Inv.lstM(I:Inv X pins σ H s)(hH:H l=some (.lst xs)):xs.length≤sizeLine∧∃(its:List Value)(n:Nat),Vals xs its∧xs.length=its.length∧s.heap.get? l=some { cls:=.type "list", data:=.seq its.toArray n }:=by
 obtain⟨z,its,n,r,e⟩:=I.hok l _ hH
 exact⟨z,its,n,r,r.length,e⟩
end
section
variable {X:Cx}
def rAppend:V→List V→Hp→VK→Prop:=fun x vs H Q=>∃ l xs y,x=.ref l∧vs=[y]∧H l=some (.lst xs)∧xs.length < sizeLine∧Q .non (upd H l (.lst (xs++[y])))
theorem mt_append:MtM X "list.append" rAppend:=by
 intro pins s σ H x vs v us Q I rx rv h
 obtain⟨l,xs,y,rfl,rfl,hH,hz,q⟩:=h
 cases rx
 obtain⟨u,rfl,ru⟩:=rv.one
 obtain⟨z,its,n,r,hl,e⟩:=I.lstM hH
 refine call_meets F.slot_list_append ⟨_,e,rfl⟩ F.entry_list_append (F.args_list_append_2 _ _) (PySem.list_append l its.toArray n u (by rw[List.size_toArray];omega)) ⟨e,?_⟩
 refine⟨.non,_,I.lset (its':=its++[u]) hH e (by simp) (r.append (.cons ru .nil)) ?_,rfl,q⟩
 rw[List.length_append,List.length_singleton]
 omega
end
section
variable {prog:Program}{w:World}{A:Around}{E:Value→Shared→Prop}{s:Shared}
end
section
variable {X:Cx}
end
end L2
namespace Att
open PySem PySem.W PySem.Calls PyProof.Rows
theorem ints_of_wellAll{P:Params}{h:Heap}:∀(ns:List Int)(vs:List Value),WellAll P h vs (ns.map WData.int)→IntsAre vs ns:=by
 intro ns
 induction ns with
 | nil =>
  intro vs w
  rw[List.map_nil] at w
  cases w
  exact .nil
 | cons n ns ih =>
  intro vs w
  rw[List.map_cons] at w
  cases w with
  | cons a b =>
   cases a
   exact .cons _ _ (ih _ b)
theorem script_of{l:OpenLaw}{n:Nat}(hn:l.most=some n){P:Params}{h:Heap}{args:List WData}{vals:List Value}
  (hpre:l.row.toRowW.claim.pre args=true) (hwl:WellAll P h vals args) :
  ∃ a vs ns,vals=[Value.ref a]∧args=[WData.list (ns.map WData.int)]∧h.get? a=some { cls:=.type "list", data:=.seq vs.toArray }∧IntsAre vs ns∧ns.length≤n:=by
 have hsh:WShape.hasAll [] args [.list .int]=true:=(pre_splitW hpre).1
 have hc:l.pre.holds [] { args:=args }=true:=(pre_splitW hpre).2
 obtain⟨d,r,rfl,h1,h2⟩:=hasAllW_cons hsh
 obtain rfl:=hasAllW_nil h2
 obtain⟨xs,rfl,h3⟩:=hasW_list h1
 obtain⟨ns,rfl⟩:=items_int h3
 have hlen:ns.length≤n:=by
  unfold OpenLaw.pre at hc
  have h4:(WTm.not (.lt (.lit (.int (n:Int))) (.len (.arg 0)))).holds [] { args:=[.list (ns.map .int)] }=true:=by
   have h4:=(holds_andW hc).1
   rw[hn] at h4
   exact h4
  have h5:=condW_of h4 (w_not (w_lt w_lit (w_len_list (w_arg rfl))))
  rw[List.length_map] at h5
  refine Nat.le_of_not_lt fun q=>?_
  have q':(n:Int) < ((ns.length:Nat):Int):=by omega
  first
   | (rw[decide_eq_true q'] at h5;exact absurd h5 (by decide))
   | (simp at h5;omega)
 cases hwl with
 | cons w1 w2 =>
  cases w2
  cases w1 with
  | list ho hall=>exact⟨_,_,ns,rfl,rfl,ho,ints_of_wellAll ns _ hall,hlen⟩
theorem post_true(l:OpenLaw)(args:List WData):l.row.toRowW.claim.post args (.bool true) args=true :=
 postW_of (r:=l.row.toRowW) (X:=(true == true))
  (show WShape.has [] (.bool true) .bool=true by first | rfl | decide | simp[WShape.has,WShape.arms,WShape.armsAll])
  (show (WTm.eq .res (.lit (.bool true))).value [] { args:=args,res:=some (.bool true),after:=args }=some (.bool (true == true)) from w_eq_bool (w_res rfl) w_lit) rfl
theorem attach_call{l:OpenLaw}{n:Nat}{q:Program}{loose:List Str}{XP:(Str→Option Value)→Heap→Prop}{YP:World→Heap→Prop}{d:DefRec}
  (hn:l.most=some n) (hdf:d.params.defaults=[])
  (call:∀(w:World)(s₀ s₁:Shared)(mg mb:Str→Option Value)(fa:Addr)(o:Obj)(pm cd doc:Value)(a:Addr)(vs:List Value)(ns:List Int),
   Ground q loose [] XP w s₀ mg mb s₁.heap→YP w s₁.heap →
   s₁.heap.get? fa=some o→o.data=.func (docDef d.name d.params d.body d.scope pm cd doc)→s₁.heap.CodeRec cd d.name→mg d.name=some (.ref fa) →
   s₁.heap.get? a=some { cls:=.type "list", data:=.seq vs.toArray }→IntsAre vs ns→ns.length≤n→s₁.gens=#[] →
   codeAny (model l.prog w) callerA (.call (.ref fa) ⟨[.ref a],[]⟩) (fun r s'=>r=.ok (.ret (.bool true))∧OldK s₁.heap s'.heap∧s'.os=s₁.os∧AllBare s'.gens) s₁) :
  WalkO q loose XP YP l.row.toRowW d [] (fun f vs=>PySem.call f vs):=by
 intro w s₀ s₁ mg mb G Y fa o pm cd doc dV kV ho hd hcd hD hmg hg args vals as hpre hlay hrd hwl hlo
 obtain rfl:dV=.none:=Dflts.none hD hdf
 obtain rfl:kV=.none:=Dflts.noKw hD
 obtain⟨a,vs,ns,rfl,rfl,hobj,hints,hlen⟩:=script_of hn hpre hwl
 refine enter_call (codeAny_mono (call w s₀ s₁ mg mb fa o pm cd doc a vs ns G Y ho (fd_plain hd) hcd hmg hobj hints hlen hg) fun r s' hq=>?_)
 obtain⟨rfl,h2,h3,h4⟩:=hq
 exact⟨.inl ⟨.bool true,.bool true,[],rfl,fun _=>rfl,.bool true,post_true l _,fun _=>⟨List.Pairwise.nil,fun _ hm=>(nomatch hm)⟩⟩,h2,h3,h4⟩
section
variable {prog:Program}{w:World}{A:Around}{E:Value→Shared→Prop}{s:Shared}{K:Frag}
end
end Att
namespace L2
open PySem PySem.Spec PyProof.Rows
theorem vals_ints:∀{vs:List Value}{ns:List Int},IntsAre vs ns→Vals (ns.map V.int) vs
 | _,_,.nil=>.nil
 | _,_,.cons n t h=>.cons ⟨t,rfl⟩ (vals_ints h)
def Only(H:Hp):Prop:=∀ b,H b=none∨∃ o xs,H b=some (.frz o (.lst xs))
theorem law_call{P:Program}{w:World}{K:PySem.W.Frag}{mg mb:Str→Option Value}{CX:CXT}{k:Nat}{fa a:Addr}{fd:FuncData}{x:Str}{sp:Sp}{s₁:Shared}{vs:List Value}{ns:List Int}
  (KX:K.In s₁.heap) (hns:s₁.heap.Ns mainGlobals mg) (hb:s₁.heap.Ns builtinsNs mb) (hbb:∀ x:Str,x ≠ "__name__" → mb x=bootBuiltins x) (hlim:s₁.heap.NoLimit) (hg:s₁.gens=#[])
  (ha:s₁.heap.get? a=some { cls:=.type "list", data:=.seq vs.toArray }) (hi:IntsAre vs ns) (hl:ns.length≤sizeLine) (hr:Room k callerA)
  (F:∀ base:Heap,K.In base→base.Ns mainGlobals mg→FnOk P w K mg base CX k fa fd [x] sp) (hbind:∀(s:Shared)(u:Value),BindsTo s fd ⟨[u],[]⟩ [(x,u)])
  (hsp:∀ H:Hp,Only H→SqL K H a (ns.map V.int)→sp [.ref a] H (fun v _=>v=.bl true) fun _ _ _=>False)
  (hCX:∀ H e s',CX [] H s₁ (fun _ _ _=>False) e s'→False) :
  codeAny (model P w) callerA (.call (.ref fa) ⟨[.ref a],[]⟩) (fun r s'=>r=.ok (.ret (.bool true))∧OldK s₁.heap s'.heap∧s'.os=s₁.os∧AllBare s'.gens) s₁:=by
 have rv:=vals_ints hi
 have lenV:=hi.length
 have core:∀ H:Hp,Only H→SqL K H a (ns.map V.int)→HOk P w H s₁.heap→(∀ b,H b≠none→b=a)→(H a≠none→K.lookup a=none) →
   codeAny (model P w) callerA (.call (.ref fa) ⟨[.ref a],[]⟩) (fun r s'=>r=.ok (.ret (.bool true))∧OldK s₁.heap s'.heap∧s'.os=s₁.os∧AllBare s'.gens) s₁:=by
  intro H hO hS hok hA hK
  have base_of:∀{b:Addr}{o:Obj},s₁.heap.get? b=some o→H b=none→(hidT s₁.heap H).get? b=some o:=fun e n=>hidT_get e n
  have noA:∀{b:Addr}{o:Obj}{es:Array DictEntry}{ep:Nat},s₁.heap.get? b=some o→o.data=.dict es ep→H b=none:=fun {b o es ep} e d=>by
   cases q:H b with
   | none=>rfl
   | some u =>
    have e':b=a:=hA b (by rw[q];simp)
    subst e'
    rw[ha] at e;cases e
    have d':Data.seq vs.toArray _=Data.dict es ep:=d
    cases d'
  have nsK:∀{b:Addr}{m:Str→Option Value},s₁.heap.Ns b m→(hidT s₁.heap H).Ns b m:=fun {b m} ⟨o,es,ep,e,d,r⟩=>⟨o,es,ep,base_of e (noA e d),d,r⟩
  have hKb:K.In (hidT s₁.heap H):=fun b o e=>base_of (KX b o e) (by
   cases q:H b with
   | none=>rfl
   | some u =>
    have e':b=a:=hA b (by rw[q];simp)
    subst e'
    rw[hK (by rw[q];simp)] at e;cases e)
  have hM:Mod K mg (hidT s₁.heap H):=⟨hKb,nsK hns,⟨mb,nsK hb,hbb⟩,let ⟨mc,h1,h2⟩:=hlim;⟨mc,nsK h1,h2⟩⟩
  have e0:Env0 P w K mg (hidT s₁.heap H) callerA [] s₁ H:=⟨rfl,hM,fun b o e=>of_hidT e,Nat.le_of_eq (hidT_size _ _),trivial,fun b hb=>absurd (show b∈([]:List Addr) from hb) (by simp),hok,.of_eq hg⟩
  refine codeAny_mono ((F _ hKb (nsK hns)).run callerA [] s₁ H ⟨[.ref a],[]⟩ [.ref a] [.ref a] _ _ hr e0 (hbind s₁ (.ref a)) (.cons rfl .nil) (hsp H hO hS)) fun r s' h=>?_
  cases r with
  | error e=>exact (hCX H e s' h).elim
  | ok fl =>
   cases fl with
   | next=>exact False.elim h
   | brk=>exact False.elim h
   | cont=>exact False.elim h
   | ret u =>
    obtain⟨v,H',os,bare,un,hok',r',q⟩:=h
    have q':v=.bl true:=q
    subst q'
    obtain rfl:u=Value.bool true:=r'
    refine⟨rfl,OldK.of_keep fun b o e=>?_,os,bare⟩
    cases q:H b with
    | none=>exact un.keep b o e q (by intro z;exact absurd (show b∈([]:List Addr) from z) (by simp)) (by simp)
    | some u =>
     rcases hO b with z | ⟨ob,xs,z⟩
     ·rw[q] at z;cases z
     ·have z2:=un.frzs b ob _ z
      obtain⟨e1,_⟩:=hok b _ z
      obtain⟨e2,_⟩:=hok' b _ z2
      rw[e] at e1;cases e1
      exact e2
 cases hk:K.lookup a with
 | some o =>
  have e:=KX a o hk
  rw[ha] at e
  cases e
  refine core (fun _=>none) (fun _=>.inl rfl) (.inr ⟨_,vs.toArray,_,hk,rfl,rfl,rfl,by rw[List.size_toArray,lenV];exact hl,by simpa using rv⟩) (fun b u z=>by have z':(none:Option HO)=some u:=z;cases z') (fun b z=>absurd rfl z) fun z=>absurd rfl z
 | none =>
  refine core (fun b=>if b=a then some (.frz { cls:=.type "list", data:=.seq vs.toArray } (.lst (ns.map V.int))) else none) (fun b=>?_) (.inl (.inr ⟨{ cls:=.type "list", data:=.seq vs.toArray },if_pos rfl⟩)) (fun b u z=>?_) (fun b z=>?_) fun _=>hk
  ·by_cases hb:b=a
   ·exact .inr ⟨_,_,if_pos hb⟩
   ·exact .inl (if_neg hb)
  ·by_cases hb:b=a
   ·have z':=(if_pos hb).symm.trans z
    cases z'
    subst hb
    exact⟨ha,by rw[List.length_map];exact hl,vs,_,rv,ha⟩
   ·have z':=(if_neg hb).symm.trans z
    cases z'
  ·by_cases hb:b=a
   ·exact hb
   ·exact absurd (if_neg hb) z
end L2
namespace L2
open PySem PySem.Spec PyProof.Rows
theorem walk_of{l:PySem.W.OpenLaw}{n k:Nat}{q:Program}{loose:List Str}{XP:(Str→Option Value)→Heap→Prop}{YP:World→Heap→Prop}{d:DefRec}{K:Params→PySem.W.Frag}{CX:World→CXT}{sp:World→Sp}{x:Str}
  (hn:l.most=some n) (hn2:n≤sizeLine) (hdf:d.params.defaults=[]) (hr:Room k callerA)
  (hY:∀(w:World)(h:Heap),YP w h→(K w.params).In h)
  (F:∀(w:World)(mg:Str→Option Value)(fa:Addr)(h:Heap),(K w.params).In h→h.Ns mainGlobals mg→mg d.name=some (.ref fa) →
   ∃ fd:FuncData,(∀(s:Shared)(u:Value),BindsTo s fd ⟨[u],[]⟩ [(x,u)]) ∧
    ∀ base:Heap,(K w.params).In base→base.Ns mainGlobals mg→FnOk l.prog w (K w.params) mg base (CX w) k fa fd [x] (sp w))
  (hsp:∀(w:World)(H:Hp)(a:Addr)(ns:List Int),ns.length≤n→Only H→SqL (K w.params) H a (ns.map V.int)→sp w [.ref a] H (fun v _=>v=.bl true) fun _ _ _=>False)
  (hCX:∀(w:World)(H:Hp)(s:Shared)(e:Value)(s':Shared),CX w [] H s (fun _ _ _=>False) e s'→False) :
  PySem.W.WalkO q loose XP YP l.row.toRowW d [] (fun f vs=>PySem.call f vs):=by
 refine Att.attach_call hn hdf fun w s₀ s₁ mg mb fa o pm cd doc a vs ns G Y ho hd hcd hmg hobj hints hlen hg=>?_
 have KX:=hY w _ Y
 obtain⟨fd,hb,hF⟩:=F w mg fa _ KX G.T.g hmg
 exact law_call KX G.T.g G.T.b G.T.builtins G.T.nolimit hg hobj hints (Nat.le_trans hlen hn2) hr hF hb (fun H hO hS=>hsp w H a ns hlen hO hS) fun H e s'=>hCX w H s₁ e s'
end L2
namespace L2
open PySem PySem.Spec PyProof.Rows
def defArgs(s:Stmt):Arguments:=match s with
 | .FunctionDef _ a _ _ _ _ _ _ _ _=>a
 | _=>{ posonlyargs:=[],args:=[],vararg:=none,kwonlyargs:=[],kw_defaults:=[],kwarg:=none,defaults:=[] }
def defBody(s:Stmt):List Stmt:=match s with
 | .FunctionDef _ _ b _ _ _ _ _ _ _=>b
 | _=>[]
def defScope(s:Stmt):Scope:=match s with
 | .FunctionDef _ _ _ _ _ _ sc _ _ _=>sc
 | _=>{ kind:=.function,names:=[],isGenerator:=false,isCoroutine:=false }
abbrev CX0:CXT:=fun _ _ _ _ _ _=>False
abbrev E0:XK:=fun _ _ _=>False
theorem pass0{X:Cx}:Passes CX0 X E0:=fun _ _ _ _ _ _ _ h=>h.elim
structure Fun(K:PySem.W.Frag)(x qual:Str)(st:Stmt)(f:Addr)(fd:FuncData):Prop where
 ex:∃(oc:Value)(od:Option Addr)(kV doc pm:Value)(an:Option Addr)(cdv ct:Value) (osl:Array (Option Value)),
  fd=PySem.W.fnOf x qual (defArgs st) (defBody st) (defScope st) .none kV doc pm an cdv ct∧K.lookup f=some ⟨oc,od,.func fd,osl⟩∧PySem.W.codeIn K cdv qual=true
 kp:PySem.W.keepIn K (.ref f)=true
section
variable {P:Program}{w:World}{K:PySem.W.Frag}{mg:Str→Option Value}{base:Heap}
theorem Fun.ok{x qual:Str}{st:Stmt}{f:Addr}{fd:FuncData}{N ps:List Str}{k:Nat}{sp:Sp}(F:Fun K x qual st f fd)(S:FnScope N ps (defScope st))(len:∀ vs H Q E,sp vs H Q E→vs.length=ps.length)
  (hbody:∀(cdv:Value)(A:Around)(outer:List Env)(s:Shared)(H:Hp)(vs:List V)(Q:VK)(E:XK),Room k (A.deeper (envOfC qual (defScope st) s.heap.objs.size f cdv))→sp vs H Q E →
   ∃ t,PSs (cxOf CX0 P w K mg base N qual (defScope st) f cdv A outer s H E).nox (defBody st) t∧t { nx:=fun _ H'=>Q .non H',rt:=Q } (start N vs) H):FnOk P w K mg base CX0 (k+1) f fd ps sp:=by
 obtain⟨oc,od,kV,doc,pm,an,cdv,ct,osl,rfl,lk,hcd⟩:=F.ex
 refine fn_of lk hcd S len fun A outer s H vs Q E hr hsp=>?_
 obtain⟨t,h,q⟩:=hbody cdv A outer s H vs Q E hr hsp
 exact⟨t,h.nox,q⟩
theorem Fun.binds{x qual:Str}{st:Stmt}{f:Addr}{fd:FuncData}{ps:List Str}(F:Fun K x qual st f fd)
  (h:∀(kV doc pm:Value)(an:Option Addr)(cdv ct:Value)(us:List Value),us.length=ps.length→bindArgs (PySem.W.fnOf x qual (defArgs st) (defBody st) (defScope st) .none kV doc pm an cdv ct) ⟨us,[]⟩=pure (ps.zip us)):Binds K fd ps []:=by
 obtain⟨oc,od,kV,doc,pm,an,cdv,ct,osl,rfl,lk,hcd⟩:=F.ex
 exact .all (h kV doc pm an cdv ct)
theorem fun_mk{x qual:Str}{st:Stmt}{f:Addr}{oc:Value}{od an:Option Addr}{osl:Array (Option Value)}{kV doc pm cdv ct:Value}(l:K.lookup f=some ⟨oc,od,.func (PySem.W.fnOf x qual (defArgs st) (defBody st) (defScope st) .none kV doc pm an cdv ct),osl⟩)
  (c:PySem.W.codeIn K cdv qual=true) (k:PySem.W.keepIn K (.ref f)=true):Fun K x qual st f (PySem.W.fnOf x qual (defArgs st) (defBody st) (defScope st) .none kV doc pm an cdv ct):=⟨⟨oc,od,kV,doc,pm,an,cdv,ct,osl,rfl,l,c⟩,k⟩
end
theorem small1000{n:Nat}(h:n≤1000):n < sizeLine:=Nat.lt_of_le_of_lt h (by decide)
section
variable {X:Cx}
theorem pv(i:Nat){x:Str}{pos:Pos}(hN:X.N[i]?=some x:=by rfl)(hv:Vis X.env.scope x:=by first | exact Or.inl rfl | exact Or.inr (Or.inl rfl) | exact Or.inr (Or.inr rfl))(hd:(x == ("__debug__" : Str))=false:=by decide)
  (hcd:(x == ("__classdict__" : Str))=false:=by decide):PE X (.Name x pos) (tVar i):=pe_var hN hv hd hcd
end
def Same(H H':Hp):Prop:=∀ b o,H b=some o→H' b=some o
theorem Same.refl(H:Hp):Same H H:=fun _ _ h=>h
theorem Same.trans{H H1 H2:Hp}(a:Same H H1)(b:Same H1 H2):Same H H2:=fun c o h=>b c o (a c o h)
theorem Same.free{H H':Hp}(e:Same H H'){l:Addr}(h:H' l=Option.none):H l=Option.none:=by
 cases q:H l with
 | none=>rfl
 | some o =>
  rw[e l o q] at h
  cases h
theorem Same.seq{K:PySem.W.Frag}{H H':Hp}{a:Addr}{xs:List V}(e:Same H H')(h:SqL K H a xs):SqL K H' a xs:=by
 rcases h with (h | ⟨o,h⟩) | h
 ·exact .inl (.inl (e _ _ h))
 ·exact .inl (.inr ⟨o,e _ _ h⟩)
 ·exact .inr h
end L2
namespace L2
open PySem PySem.Spec PyProof.Rows
section
variable {P:Program}{w:World}{H H':Hp}{h h':Heap}{a:Addr}{o:HO}
theorem HOk.stays(x:HOk P w H h)(k:∀ b u,H b≠none→h.get? b=some u→h'.get? b=some u):HOk P w H h':=fun a o e =>
 (x a o e).stay (fun b u hb q=>k b u (by
  rcases hb with z | z
  ·rw[z,e];exact Option.some_ne_none _
  ·rw[z];exact Option.some_ne_none _) q) (fun _ q=>q) fun _ _ q=>q
end
def Fly(outer:List Env)(H':Hp)(h₀ h':Heap)(e:Addr)(cls:Value):Prop :=
 ∃ B a0,Heap.FlyingW B outer e cls a0 h'∧∀ b o,h'.get? b=some o→(H' b≠none∨∃ o₀,h₀.get? b=some o₀)→b∉frs outer→B.get? b=some o
def CXR(P:Program)(w:World):CXT:=fun outer H s E e s'=>∃ ea cls H',e=.ref ea∧s'.os=s.os∧AllBare s'.gens∧Un (frs outer) [] H H' s.heap s'.heap∧HOk P w H' s'.heap∧Fly outer H' s.heap s'.heap ea cls∧E cls none H'
section
variable {P:Program}{w:World}{K:PySem.W.Frag}{mg:Str→Option Value}{base:Heap}{N:List Str}{qual:Str}{scope:Scope}{f:Addr}{cd:Value}{A:Around}{outer:List Env}{s:Shared}{H:Hp}{E:XK}
abbrev cxR(P:Program)(w:World)(K:PySem.W.Frag)(mg:Str→Option Value)(base:Heap)(N:List Str)(qual:Str)(scope:Scope)(f:Addr)(cd:Value)(A:Around)(outer:List Env)(s:Shared)(H:Hp)(E:XK):Cx :=
 cxOf (CXR P w) P w K mg base N qual scope f cd A outer s H E
end
abbrev veTail:List Value:=[.type "ValueError", .type "Exception", .type "BaseException", .type "object"]
structure Exc(K:PySem.W.Frag)(mg:Str→Option Value)(x:Str)(C:Addr):Prop where
 bound:mg x=some (.ref C)
 isIn:PySem.W.excIn K C veTail "ValueError.__new__" = true
def tRaise(C:Addr)(E:XK)(t:TA):TS:=fun _ σ H=>t σ H fun vs H1=>vs.length≤sizeLine∧E (.ref C) none H1
abbrev XEx:=Value→St→Hp→Prop
def XE(X:Cx)(EX:XEx):Value→Shared→Prop:=fun e s'=>∃ pins σ H1 s1,Inv X pins σ H1 s1∧CXR X.prog X.w X.stack H1 s1 (fun cls _ H2=>EX cls σ H2) e s'
abbrev Cx.pinned(X:Cx)(pn:List (Addr×Obj)):Cx:={ X with pn:=pn }
abbrev Cx.tr(X:Cx)(pn:List (Addr×Obj))(EX:XEx):Cx:=(X.pinned pn).wish (XE (X.pinned pn) EX)
def tCallX(sp:Sp)(EX:XEx)(t:TA):TE:=fun σ H Q=>t σ H fun vs H1=>sp vs H1 Q fun cls _ H2=>EX cls σ H2
def tTry(C:Addr)(tb:XEx→TS)(th:TS):TS:=fun D σ H=>tb (fun cls σ' H'=>cls=.ref C∧th D σ' H') D σ H
end L2
namespace L2
open PySem PySem.Spec PyProof.Rows
theorem closure_ex{env:Env}:∀ (names:List (Str×NameKind)) (cs:List (Str×Addr)),(∀ y∈names,y.2=.free→∃ c,env.cells.lookup y.1=some c)→(∀ y c,cs.lookup y=some c→env.cells.lookup y=some c) →
  ∃ cl:List (Str×Addr),(forIn names cs fun (x:Str×NameKind) (r:List (Str×Addr))=>(if (x.2 == NameKind.free)=true then (cellOf env x.1 >>= fun a=>(pure (ForInStep.yield ((x.1,a)::r)):Sem _)) else pure (ForInStep.yield r)))=(pure cl:Sem (List (Str×Addr))) ∧
   (∀ y c,cl.lookup y=some c→env.cells.lookup y=some c)∧(∀ y c,cs.lookup y=some c→∃ c',cl.lookup y=some c')∧∀ y∈names,y.2=.free→∃ c,cl.lookup y.1=some c
 | [],cs,_,h2=>⟨cs,rfl,h2,fun y c e=>⟨c,e⟩,fun _ z=>nomatch z⟩
 | (n,k)::r,cs,h1,h2=>by
  have h1':∀ y∈r,y.2=.free→∃ c,env.cells.lookup y.1=some c:=fun y hy=>h1 y (List.mem_cons_of_mem _ hy)
  by_cases hk:k=.free
  ·subst hk
   obtain⟨c,hc⟩:=h1 (n,.free) List.mem_cons_self rfl
   obtain⟨cl,e,a1,a2,a3⟩:=closure_ex r ((n,c)::cs) h1' (fun y c' hy=>by
    rw[List.lookup_cons] at hy
    split at hy
    ·rename_i hyn
     have:y=n:=by simpa using hyn
     subst this
     cases hy
     exact hc
    ·exact h2 y c' hy)
   refine⟨cl,?_,a1,fun y c' hy=>?_,fun y hy hf=>?_⟩
   ·rw[List.forIn_cons]
    have e1:cellOf env n=(pure c:Sem Addr):=by unfold cellOf;rw[hc]
    simp only[beq_self_eq_true,if_true,e1,pure_bind]
    exact e
   ·by_cases hyn:(y == n)=true
    ·exact a2 y c (by rw[List.lookup_cons,hyn])
    ·exact a2 y c' (by rw[List.lookup_cons];simp only[hyn];exact hy)
   ·rcases List.mem_cons.mp hy with rfl | hy
    ·exact a2 n c (by rw[List.lookup_cons];simp)
    ·exact a3 y hy hf
  ·obtain⟨cl,e,a1,a2,a3⟩:=closure_ex r cs h1' h2
   refine⟨cl,?_,a1,a2,fun y hy hf=>?_⟩
   ·rw[List.forIn_cons]
    have hb:(k == NameKind.free)=false:=by simpa using hk
    simp only[hb,Bool.false_eq_true,if_false,pure_bind]
    exact e
   ·rcases List.mem_cons.mp hy with rfl | hy
    ·exact absurd hf hk
    ·exact a3 y hy hf
theorem closure_of{env:Env}{scope:Scope}(h:∀ y∈scope.names,y.2=.free→∃ c,env.cells.lookup y.1=some c) :
  ∃ cl,closureFor scope env=pure cl∧(∀ y c,cl.lookup y=some c→env.cells.lookup y=some c)∧∀ y∈scope.names,y.2=.free→∃ c,cl.lookup y.1=some c:=by
 obtain⟨cl,e,a1,_,a3⟩:=closure_ex (env:=env) scope.names [] h (fun y c z=>by simp at z)
 refine⟨cl,?_,a1,a3⟩
 unfold closureFor
 refine Eq.trans (congrArg (fun z=>z >>= fun (r:List (Str×Addr))=>(pure r:Sem (List (Str×Addr)))) ?_) (by rw[pure_bind])
 exact e
abbrev Cx.comp(X:Cx)(N':List Str)(scope:Scope)(cl:List (Str×Addr))(C:Addr)(fp:List Addr)(s2:Shared)(H2:Hp):Cx :=
 { X with N:=N',s₀:=s2,H₀:=H2,env:=compEnvC scope cl C X.env,outer:=X.stack,ex:=fp,fn:=fun _=>false,pn:=[],xe:=fun _ _=>False }
def PFs(X:Cx)(ifs:List Expr)(t:TT):Prop :=
 ∀ (pins:List (Addr×Obj)) (s:Shared) (σ:St) (H:Hp) (Q:Bool→Hp→Prop),Inv X pins σ H s→t σ H Q →
  wpAny (model X.prog X.w) X.A (forIn ifs true fun c r=>if r=true then do let ok ← isTrue c X.env (eval c X.env);pure (ForInStep.yield ok) else pure (ForInStep.yield r)) (TP X pins σ Q) X.xe s
def tYes:TT:=fun _ H Q=>Q true H
theorem pf_nil{X:Cx}:PFs X [] tYes:=fun _ _ _ H _ I h=>wpAny_tests_nil ⟨H,I,h⟩
theorem pf_one{X:Cx}{c:Expr}{t:TT}(h:PT X c t):PFs X [c] t:=fun pins s σ H Q I q=>wpAny_tests_one (h pins s σ H Q I q)
def compSt(n:Nat)(js:List Nat)(σ:St):St:=List.replicate n none++js.map fun j=>(σ[j]?).join
def Ext(σ σ':St):Prop:=σ.length=σ'.length∧∀(i:Nat) v,σ[i]?=some (some v)→σ'[i]?=some (some v)
def GExt(g:TG)(n:Nat):Prop:=∀(r:St) x H Q,g x (List.replicate n none++r) H Q→g x (List.replicate n none++r) H fun σ2 H2=>Ext (List.replicate n none++r) σ2∧Q σ2 H2
theorem ext_set{n k:Nat}(hk:k < n)(r:St){σ:St}(e:Ext (List.replicate n none++r) σ)(v:V):Ext (List.replicate n none++r) (σ.set k (some v)):=by
 refine⟨by rw[List.length_set];exact e.1,fun i w h=>?_⟩
 by_cases hi:i=k
 ·subst hi
  rw[List.getElem?_append_left (by simpa using hk),List.getElem?_replicate] at h
  split at h<;>cases h
 ·rw[List.getElem?_set_ne (fun z=>hi z.symm)]
  exact e.2 i w h
theorem Ext.refl(σ:St):Ext σ σ:=⟨rfl,fun _ _ h=>h⟩
theorem gext_name{n k:Nat}(hk:k < n):GExt (gName k) n:=fun r x H Q h=>⟨ext_set hk r (Ext.refl _) x,h⟩
theorem gext_tup2{K:PySem.W.Frag}{m n k j:Nat}(hk:k < n)(hj:j < n):GExt (gTup K m (gCons (gName k) (gCons (gName j) gNil))) n:=fun r x H Q h=>by
 obtain⟨a,xs,e1,h1,h2,v,r1,e2,v2,r2,e3,e4,q⟩:=h
 exact⟨a,xs,e1,h1,h2,v,r1,e2,v2,r2,e3,e4,ext_set hj r (ext_set hk r (Ext.refl _) v) v2,q⟩
def tComp(n:Nat)(js:List Nat)(wi:TI)(g:TG)(tt:TT)(te:TE):TE:=fun σ H Q=>wi σ H fun J H1=>∀ l,H1 l=none→∃ W:Nat→Nat→List V→Hp→Prop,(∃ m,W 0 m [] (upd H1 l (.lst [])))∧∀ i m acc H,W i m acc H →
 (J.stop i H∧Q (.ref l) H)∨(J.go i H∧∃ N:List V→Hp→Prop,(∀ acc' H',N acc' H'→∃ m',m' < m∧W (i+1) m' acc' H') ∧
  ∀ x H',J.yld i H x H'→g x (compSt n js σ) H' fun σ2 H2=>tt σ2 H2 fun b H3=>if b=true then te σ2 H3 fun y H4=>H4 l=some (.lst acc)∧acc.length < sizeLine∧N (acc++[y]) (upd H4 l (.lst (acc++[y]))) else N acc H3)
section
variable {prog:Program}{w:World}{A:Around}{R:Result→Shared→Prop}{s:Shared}
theorem compLoop_any{elt tg iter:Expr}{ifs:List Expr}{scope:Scope}{pos:Pos}{it acc:Value}{env:Env}(I:Nat→Shared→Prop){E:Value→Shared→Prop}(hE:∀ e s',E e s'→False)
  (turn:∀ n s,I n s→wpAny (model prog w) A (pyNext it) (fun r s₁=>match r with
   | none=>R (.ok .next) s₁
   | some v=>wpAny (model prog w) A (letOwnedTupleGo tg it v) (fun _ s₁=>wpAny (model prog w) A (assign tg env v) (fun _ s₂ =>
     wpAny (model prog w) A (forIn ifs true fun c r=>if r=true then do let ok ← isTrue c env (eval c env);pure (ForInStep.yield ok) else pure (ForInStep.yield r)) (fun ok s₃ =>
      if ok=true then wpAny (model prog w) A (eval elt env) (fun x s₄=>wpAny (model prog w) A (call (.builtin "list.append") [acc,x]) (fun _ s₅=>∃ m,m < n∧I m s₅) E s₄) E s₃
      else ∃ m,m < n∧I m s₃) E s₂) E s₁) E s₁) E s)
  (n:Nat) (h:I n s):codeAny (model prog w) A (.compLoop (.ListComp elt [⟨tg,iter,ifs,0⟩] scope pos) 0 it acc env) R s:=by
 refine codeAny_loop rfl I (fun n s hI=>?_) n h
 show wpAny _ A ((compTurn (.ListComp elt [⟨tg,iter,ifs,0⟩] scope pos) 0 it acc env).onRaise (fun x=>do noteFrame x env;theTreesLotGoes x)) _ _ s
 refine wpAny_noted ?_
 rw[compTurn_list]
 have up:∀{α:Type}{t:Sem α}{Q:α→Shared→Prop}{E':Value→Shared→Prop}{s:Shared},wpAny (model prog w) A t Q E s→wpAny (model prog w) A t Q E' s:=fun h=>wpAny_mono h (fun _ _ z=>z) fun _ _ z=>(hE _ _ z).elim
 refine wpAny_bind (wpAny_standAt (wpAny_bind (up (wpAny_mono (turn n s hI) (fun r s₁ h₁=>?_) fun _ _ z=>z))))
 cases r with
 | none=>exact wpAny_pure h₁
 | some v =>
  refine wpAny_bind (up (thn h₁ fun _ s₂ h₂=>wpAny_bind (up (thn h₂ fun _ s₃ h₃=>wpAny_bind (up (thn h₃ fun ok s₄ h₄=>?_))))))
  cases ok with
  | false=>exact wpAny_pure ⟨rfl,h₄⟩
  | true=>exact wpAny_bind (wpAny_bind (up (thn h₄ fun x s₅ h₅=>wpAny_bind (up (thn h₅ fun _ s₆ h₆=>wpAny_pure (wpAny_pure ⟨rfl,h₆⟩))))))
end
section
variable {X:Cx}
theorem Inv.fpComp{pins:List (Addr×Obj)}{σ:St}{H H':Hp}{s:Shared}{fp:List Addr}{N':List Str}{scope:Scope}{cl:List (Str×Addr)}{C:Addr}(I:Inv X pins σ H s)(f:∀ b∈fp,FpOk X pins H b)
  (hb:∀ b∈fp,b < s.heap.objs.size) (hC:s.heap.objs.size≤C) (hcl:∀ y c,cl.lookup y=some c→X.env.cells.lookup y=some c) (hn:∀ b∈fp,H' b=none) :
  ∀ b∈fp,FpOk (X.comp N' scope cl C fp s H) [] H' b:=fun b z=>by
 obtain⟨_,f1,f2,f3,f4,f5⟩:=f b z
 exact⟨hn b z,Nat.ne_of_lt (Nat.lt_of_lt_of_le (hb b z) hC),fun q=>(List.mem_cons.mp (I.stkSub b q)).elim f1 f2,.inl z,fun x c e=>f4 x c (hcl x c e),fun p hp=>absurd (show p∈([]:List (Addr×Obj))++[] from hp) (by simp)⟩
theorem Inv.comp{pins:List (Addr×Obj)}{σ:St}{H:Hp}{s s4:Shared}{fp:List Addr}{own:List Str}{fr:List (Str×Nat)}{scope:Scope}{cl:List (Str×Addr)}{C D:Addr}(I:Inv X pins σ H s)(f:∀ b∈fp,FpOk X pins H b)
  (hb:∀ b∈fp,b < s.heap.objs.size) (hkind:scope.kind=.function) (hcell:∀ y∈scope.names,y.2≠.cell)
  (hcl:∀ y c,cl.lookup y=some c→X.env.cells.lookup y=some c) (hcl2:∀ y∈scope.names,y.2=.free→∃ c,cl.lookup y.1=some c)
  (hfr:∀ p∈fr,X.N[p.2]?=some p.1∧(X.env.kindOf p.1=some .cell∨X.env.kindOf p.1=some .free)∧(p.1,NameKind.free)∈scope.names∧((relabel scope X.env).names.lookup p.1=some .cell∨(relabel scope X.env).names.lookup p.1=some .free))
  (hD:s.heap.objs.size≤D) (hC:s.heap.objs.size≤C) (hCD:C≠D) (hns:s4.heap.Ns C (fun _=>none)) (k:∀ b o,s.heap.get? b=some o→s4.heap.get? b=some o) (hl:s4.heap.get? D=some { cls:=.type "list", data:=.seq ([]:List Value).toArray })
  (os:s4.os=s.os) (bare:AllBare s4.gens):Inv (X.comp (own++fr.map (·.1)) scope cl C fp s H) [] (compSt own.length (fr.map (·.2)) σ) (upd H D (.lst [])) s4:=by
 have fresh:∀ b,s.heap.objs.size≤b→H b=none:=fun b h=>I.hok.fresh h
 have cellLt:∀ y c,X.env.cells.lookup y=some c→c < s.heap.objs.size:=fun y c e=>by
  obtain⟨v,q⟩:=I.cell y c e
  exact q.lt
 have relK:∀ y,((relabel scope X.env).names.lookup y=some .cell∨(relabel scope X.env).names.lookup y=some .free)→∃ z∈scope.names,z.1=y∧z.2=.free:=fun y h=>by
  have mem:∃ kk,(y,kk)∈(relabel scope X.env).names∧(kk=.cell∨kk=.free):=by
   rcases h with h | h
   ·exact⟨_,PySem.mem_of_lookup h,.inl rfl⟩
   ·exact⟨_,PySem.mem_of_lookup h,.inr rfl⟩
  obtain⟨kk,hm,hk⟩:=mem
  obtain⟨⟨n,k0⟩,hz,e⟩:=List.mem_map.mp hm
  refine⟨(n,k0),hz,?_,?_⟩
  ·dsimp only at e
   split at e<;>cases e<;>rfl
  ·dsimp only at e ⊢
   split at e
   ·rename_i hc
    simp only[Bool.and_eq_true,beq_iff_eq] at hc
    exact hc.1.1
   ·cases e
    rcases hk with hk | hk
    ·exact absurd hk (hcell _ hz)
    ·exact hk
 have ok:(X.comp (own++fr.map (·.1)) scope cl C fp s H).Ok :=
  {mod:=I.ok.mod
   kind:=hkind
   glob:=I.ok.glob
   blt:=I.ok.blt
   above:=hC
   inj:=fun x y c e1 e2=>I.ok.inj x y c (hcl x c e1) (hcl y c e2)
   has:=fun y hy=>by
    obtain⟨z,hz,rfl,hf⟩:=relK y hy
    exact hcl2 z hz hf
   cab:=fun x c z=>by cases (show false=true from z)
   hd:=I.ok.hd
   frames:=I.ok.frames
   stk:=.inl rfl
   exf:=fun b z=>⟨Nat.ne_of_lt (Nat.lt_of_lt_of_le (hb b z) hC),fun x c e=>(f b z).2.2.2.2.1 x c (hcl x c e)⟩
   bs:=fun b o e=>I.bs b o e
   bsz:=Nat.le_trans I.ok.bsz I.sz
   noex:=fun b o e z=>by
    obtain⟨_,_,_,h4,_⟩:=f b z
    rcases h4 with h4 | h4
    ·exact I.ok.noex b o e h4
    ·exact absurd (Heap.lt_size (I.ok.bs b o e).1) (Nat.not_lt.mpr h4)
   exfs:=fun b z q=>(List.mem_cons.mp (I.stkSub b q)).elim (f b z).2.1 (f b z).2.2.1
   funs:=I.stack
   frf:=I.stkFree }
 refine⟨ok,os,bare,Un.laid k hD (fresh D hD),⟨fun _=>none,hns,fun i x v h1 h2 h3=>?_⟩,fun x c e=>?_,?_,fun x c e=>?_,fun p hp=>absurd (show p∈([]:List (Addr×Obj))++[] from hp) (by simp),I.hok.laid k hD ⟨Nat.zero_le _,[],0,.nil,hl⟩,?_⟩
 ·-- a closed-over name
  have h2':(compSt own.length (fr.map (·.2)) σ)[i]?=some (some v):=h2
  have h1':(own++fr.map (·.1))[i]?=some x:=h1
  unfold compSt at h2'
  by_cases hi:i < own.length
  ·rw[List.getElem?_append_left (by simpa using hi),List.getElem?_replicate] at h2'
   split at h2'<;>cases h2'
  ·rw[List.getElem?_append_right (by simpa using hi),List.length_replicate,List.getElem?_map,List.getElem?_map] at h2'
   rw[List.getElem?_append_right (by omega),List.getElem?_map] at h1'
   cases e:fr[i - own.length]? with
   | none=>rw[e] at h1';cases h1'
   | some p =>
    rw[e] at h1' h2'
    have hx:p.1=x:=Option.some.inj h1'
    have hv:(σ[p.2]?).join=some v:=Option.some.inj h2'
    have hv':σ[p.2]?=some (some v):=by
     cases q:σ[p.2]? with
     | none=>rw[q] at hv;cases hv
     | some o=>rw[q] at hv;rw[show o=some v from hv]
    obtain⟨hN,hkx,hmem,hrel⟩:=hfr p (List.mem_of_getElem? e)
    obtain⟨m,hn,hl2⟩:=I.loc
    obtain⟨u,r,lk⟩:=hl2 p.2 p.1 v hN hv' (hkx.elim (fun z=>.inr (.inl z)) fun z=>.inr (.inr z))
    rcases lk with ⟨lk,_⟩ | ⟨_,c,hc,hcell'⟩
    ·rcases hkx with z | z
     ·rw[lk] at z;cases z
     ·rw[lk] at z;cases z
    ·subst hx
     obtain⟨c',hc'⟩:=hcl2 _ hmem rfl
     have:=hcl _ _ hc'
     rw[hc] at this
     cases this
     refine⟨u,r,.inr ⟨hrel,c,hc',?_⟩⟩
     obtain⟨ob,e1,e2⟩:=hcell'
     exact⟨ob,k _ _ e1,e2⟩
 ·obtain⟨v,ob,e1,e2⟩:=I.cell x c (hcl x c e)
  exact⟨v,ob,k _ _ e1,e2⟩
 ·show upd H D (.lst []) C=none
  rw[upd_ne hCD]
  exact fresh C hC
 ·rw[upd_ne (Nat.ne_of_lt (Nat.lt_of_lt_of_le (cellLt x c (hcl x c e)) hD))]
  exact I.freeC x c (hcl x c e)
 ·show (compSt own.length (fr.map (·.2)) σ).length=(own++fr.map (·.1)).length
  unfold compSt
  simp
theorem pe_comp{elt iter tg:Expr}{ifs:List Expr}{scope:Scope}{pos:Pos}{wi:TI}{g:TG}{tt:TT}{te:TE}(own:List Str)(fr:List (Str×Nat))(hc:X.calm=true)(hi:PI X tg iter wi)
  (hgx:GExt g own.length) (hB:∀ cl C fp s2 H2,PG (X.comp (own++fr.map (·.1)) scope cl C fp s2 H2) tg g∧PFs (X.comp (own++fr.map (·.1)) scope cl C fp s2 H2) ifs tt∧PE (X.comp (own++fr.map (·.1)) scope cl C fp s2 H2) elt te)
  (hkind:scope.kind=.function) (hcell:∀ y∈scope.names,y.2≠.cell) (hnames:∀ y∈scope.names,y.2=.local→scope.names.lookup y.1=some .local)
  (hfree:∀ y∈scope.names,y.2=.free→X.env.kindOf y.1=some .cell∨X.env.kindOf y.1=some .free)
  (hfr:∀ p∈fr,X.N[p.2]?=some p.1∧(X.env.kindOf p.1=some .cell∨X.env.kindOf p.1=some .free)∧(p.1,NameKind.free)∈scope.names∧((relabel scope X.env).names.lookup p.1=some .cell∨(relabel scope X.env).names.lookup p.1=some .free))
  (hs:∀ x,foldedSetIterable iter X.env x=pure x:=by intro _;rfl):PE X (.ListComp elt [⟨tg,iter,ifs,0⟩] scope pos) (tComp own.length (fr.map (·.2)) wi g tt te):=by
 intro pins s σ H Q I h
 obtain⟨cl,hclos,hcl,hcl2⟩:=closure_of (env:=X.env) (scope:=scope) fun y hy hf=>I.ok.has y.1 (hfree y hy hf)
 rw[eval_ListComp]
 refine wpAny_comprehension_free (use:=none) rfl hs hclos hkind hnames (thn (hi pins s σ H _ I h) fun v s1 h1=>thn h1 fun itv s2 h2=>?_)
 obtain⟨it,fp,tn,J,H2,e,I2,T,st2,f2,h3⟩:=h2
 subst e
 obtain⟨W,⟨m0,w0⟩,turn⟩:=h3 s2.heap.objs.size I2.fresh
 have hb:∀ b∈fp,b < s2.heap.objs.size:=fun b z=>by
  obtain⟨o,e,_⟩:=T.obj _ _ st2 b z
  exact Heap.lt_size e
 refine wpAny_newObj_type (wpAny_newFunctionEnv hcell (by intro y hy;simp at hy) (fun h₁ hns₁ hsb₁=>?_) hkind)
 dsimp only at hns₁ hsb₁ ⊢
 generalize hH2:s2.heap.push { cls:=.type "list", dict:=none,data:=.seq ([]:List Value).toArray }=G at hns₁ hsb₁ ⊢
 have hCs:G.objs.size=s2.heap.objs.size+1:=by rw[← hH2,Heap.size_push]
 have old:∀ b o,s2.heap.get? b=some o→h₁.get? b=some o:=fun b o e=>hsb₁.extBut b o (Nat.ne_of_lt (by rw[hCs];exact Nat.lt_succ_of_lt (Heap.lt_size e))) (Heap.get?_push_of_some _ (hH2▸Heap.get?_push_of_some _ e))
 have hD:h₁.get? s2.heap.objs.size=some { cls:=.type "list", data:=.seq ([]:List Value).toArray }:=hsb₁.extBut _ _ (Nat.ne_of_lt (by rw[hCs];exact Nat.lt_succ_self _)) (Heap.get?_push_of_some _ (hH2▸Heap.get?_push_size _ rfl))
 generalize hC:G.objs.size=C at hns₁ hsb₁ hCs ⊢
 have hns':h₁.Ns C (fun _=>none):=by
  have e:(fun x=>(([]:List (Str×Value)).reverse.lookup x))=fun _=>(none:Option Value):=by funext x;rfl
  rw[← e]
  exact hns₁
 have hle:s2.heap.objs.size≤C:=by rw[hCs];exact Nat.le_succ _
 have hne:C≠s2.heap.objs.size:=Nat.ne_of_gt (by rw[hCs];exact Nat.lt_succ_self _)
 let Y:Cx:=X.comp (own++fr.map (·.1)) scope cl C fp s2 H2
 have stat:∀{H':Hp},(∀ b∈fp,H' b=none)→∀ b∈fp,FpOk Y [] H' b:=fun hn=>Inv.fpComp I2 f2 hb hle hcl hn
 obtain⟨gY,pY,eY⟩:=hB cl C fp s2 H2
 have IY:Inv Y [] (compSt own.length (fr.map (·.2)) σ) (upd H2 s2.heap.objs.size (.lst [])) { s2 with heap:=h₁,toks:=s2.toks+([]:List (Str×Value)).length } :=
  Inv.comp (D:=s2.heap.objs.size) I2 f2 hb hkind hcell hcl hcl2 hfr (Nat.le_refl _) hle hne hns' old hD rfl I2.bare
 have loop:codeAny (model X.prog X.w) X.A (.compLoop (.ListComp elt [⟨tg,iter,ifs,0⟩] scope pos) 0 (.ref it) (.ref s2.heap.objs.size) (compEnvC scope cl C X.env)) (compPost (model X.prog X.w) X.A X.xe none (EP X pins σ Q) (.ref s2.heap.objs.size) C)
   { s2 with heap:=h₁,toks:=s2.toks+([]:List (Str×Value)).length }:=by
  refine compLoop_any (E:=fun _ _=>False) (fun n s'=>∃ i acc H',Inv Y [] (compSt own.length (fr.map (·.2)) σ) H' s'∧tn i s'.heap∧(∀ b∈fp,H' b=none)∧W i n acc H') (fun _ _ z=>z) ?_ m0
   ⟨0,[],_,IY,T.keep _ _ _ st2 fun b _ o e=>old b o e,fun b z=>by rw[upd_ne (Nat.ne_of_lt (hb b z))];exact (f2 b z).1,w0⟩
  rintro n s3 ⟨i,acc,H3,I3,st3,fr3,w3⟩
  rcases turn i n acc H3 w3 with ⟨stop,q⟩ | ⟨go,Nn,hN,step⟩
  ·refine thn (T.done Y rfl rfl rfl hc i [] s3 _ H3 _ I3 (stat fr3) st3 stop) fun r s4 ⟨hr,I4⟩=>?_
   subst hr
   obtain⟨m4,hn4,_⟩:=I4.loc
   refine⟨m4,hn4,fun h' hs'=>?_⟩
   have kb:∀ b o,b≠C→s4.heap.get? b=some o→h'.get? b=some o:=fun b o hne e=>hs'.extBut b o hne e
   have hok':HOk X.prog X.w H3 h':=HOk.stays (show HOk X.prog X.w H3 s4.heap from I4.hok) fun b u hn e=>kb b u (fun z=>hn (by rw[z];exact I4.free)) e
   have bI:Un (frs X.stack) fp H2 H3 s2.heap s4.heap:=I4.base
   have lt:∀ b o,s2.heap.get? b=some o→b≠C:=fun b o e=>Nat.ne_of_lt (Nat.lt_of_lt_of_le (Heap.lt_size e) hle)
   have un:Un (frs X.stack) fp H2 H3 s2.heap h' :=
    {keep:=fun b o e n hb hx=>kb b o (lt b o e) (bI.keep b o e n hb hx)
     slot:=fun b o e n hb hx=>by
      obtain⟨sl,e1⟩:=bI.slot b o e n hb hx
      exact⟨sl,kb b _ (lt b o e) e1⟩
     free:=bI.free
     there:=fun b o e hx=>by
      obtain⟨o1,e1⟩:=bI.there b o e hx
      exact⟨o1,kb b _ (lt b o e) e1⟩
     tups:=bI.tups
     frzs:=bI.frzs
     tbls:=bI.tbls }
   exact⟨.ref s2.heap.objs.size,H3,I2.call' (s':={ s4 with heap:=h' }) (ch:=fp) I4.os un hok' I4.bare (fun b z=>⟨(f2 b z).2.2.2.1,(f2 b z).2.1,(f2 b z).2.2.2.2.1,(f2 b z).2.2.2.2.2⟩),rfl,q⟩
  ·refine thn (T.item Y rfl rfl rfl hc i [] s3 _ H3 _ I3 (stat fr3) st3 go) fun r s4 ⟨u,hr,h4⟩=>?_
   subst hr
   refine thn h4 fun _ s5 ⟨x,H5,I5,r5,y5,st5,fr5⟩=>?_
   have I5':=I5.pinned (stat fr5) (T.obj _ _ st5)
   refine thn (gY _ s5 _ H5 x u _ I5' r5 (hgx _ x H5 _ (step x H5 y5))) fun _ s6 ⟨σ6,H6,I6,ex6,q6⟩=>?_
   refine thn (pY _ s6 σ6 H6 _ I6 q6) fun ok s7 ⟨H7,I7,q7⟩=>?_
   have again:∀{acc':List V}{H8:Hp}{s8:Shared},Inv Y ([]++pinsAt fp s5.heap) σ6 H8 s8→Nn acc' H8→∃ m,m < n∧∃ i acc H',Inv Y [] (compSt own.length (fr.map (·.2)) σ) H' s8∧tn i s8.heap∧(∀ b∈fp,H' b=none)∧W i m acc H':=fun {acc' H8 s8} I8 n8=>by
    obtain⟨m',hm,w8⟩:=hN acc' H8 n8
    refine⟨m',hm,i+1,acc',H8,I8.unpinned.weak ex6.1 ex6.2,T.keep _ _ _ st5 fun b hb o e=>(I8.pin (b,o) (List.mem_append_right _ (List.mem_append_right _ (mem_pinsAt hb e)))).1,fun b hb=>?_,w8⟩
    obtain⟨o,e,d⟩:=T.obj _ _ st5 b hb
    exact (I8.pin (b,o) (List.mem_append_right _ (List.mem_append_right _ (mem_pinsAt hb e)))).2.1
   cases ok with
   | false=>exact again I7 (by simpa using q7)
   | true =>
    have q7':=(by simpa using q7:te σ6 H7 _)
    refine thn (eY _ s7 σ6 H7 _ I7 q7') fun xv s8 ⟨y,H8,I8,r8,hl8,hz8,n8⟩=>?_
    refine thn (mt_append (X:=Y) _ s8 σ6 H8 (.ref s2.heap.objs.size) [y] (.ref s2.heap.objs.size) [xv] (fun v H9=>v=.non∧H9=upd H8 s2.heap.objs.size (.lst (acc++[y]))) I8 rfl (.cons r8 .nil) ⟨_,acc,y,rfl,rfl,hl8,hz8,rfl,rfl⟩) fun _ s9 ⟨v9,H9,I9,_,_,e9⟩=>?_
    subst e9
    exact again I9 n8
 exact codeAny_compStart_list loop (T.self X.A 0 _ _ _ (T.keep _ _ _ st2 fun b _ o e=>old b o e) loop)
theorem ps_setC{elt iter tg:Expr}{ifs:List Expr}{scope:Scope}{pos spos py:Pos}{wi:TI}{g:TG}{tt:TT}{te:TE}{k:Nat}{y:Str}(own:List Str)(fr:List (Str×Nat))(hNd:X.N.Nodup)(hk:X.N[k]?=some y)(hy:X.env.scope.names.lookup y=some .local)(hc:X.calm=true)(hi:PI X tg iter wi)
  (hgx:GExt g own.length) (hB:∀ cl C fp s2 H2,PG (X.comp (own++fr.map (·.1)) scope cl C fp s2 H2) tg g∧PFs (X.comp (own++fr.map (·.1)) scope cl C fp s2 H2) ifs tt∧PE (X.comp (own++fr.map (·.1)) scope cl C fp s2 H2) elt te)
  (hkind:scope.kind=.function) (hcell:∀ y∈scope.names,y.2≠.cell) (hnames:∀ y∈scope.names,y.2=.local→scope.names.lookup y.1=some .local)
  (hfree:∀ y∈scope.names,y.2=.free→X.env.kindOf y.1=some .cell∨X.env.kindOf y.1=some .free)
  (hfr:∀ p∈fr,X.N[p.2]?=some p.1∧(X.env.kindOf p.1=some .cell∨X.env.kindOf p.1=some .free)∧(p.1,NameKind.free)∈scope.names∧((relabel scope X.env).names.lookup p.1=some .cell∨(relabel scope X.env).names.lookup p.1=some .free))
  (hsw:swapsWith (.ListComp elt [⟨tg,iter,ifs,0⟩] scope pos) (some (.Name y py)) spos.line X.env=pure true:=by rfl)
  (hs:∀ x,foldedSetIterable iter X.env x=pure x:=by intro _;rfl):PS X (.Assign [.Name y py] (.ListComp elt [⟨tg,iter,ifs,0⟩] scope pos) spos) (tAsg (tComp own.length (fr.map (·.2)) wi g tt te) (gName k)):=by
 intro pins s σ H DD I h
 obtain⟨cl,hclos,hcl,hcl2⟩:=closure_of (env:=X.env) (scope:=scope) fun y hy hf=>I.ok.has y.1 (hfree y hy hf)
 rw[exec_Assign_Name_used _ _ _ _ hsw]
 refine wpAny_bind (wpAny_standAt (wpAny_bind ?_))
 refine wpAny_bind (thn (wpAny_comprehension_free (M:=model X.prog X.w) (A:=X.A) (E:=X.xe) (e:=.ListComp elt [⟨tg,iter,ifs,0⟩] scope pos) (first:=eval iter X.env) (newAcc:=newList []) (use:=some (assign (.Name y py) X.env)) (Q:=fun _ s'=>SP X pins DD .next s') rfl hs hclos hkind hnames
  (thn (hi pins s σ H _ I h) fun v s1 h1=>thn h1 fun itv s2 h2=>?_)) fun _ s' hq=>wpAny_pure (wpAny_pure hq))
 obtain⟨it,fp,tn,J,H2,e,I2,T,st2,f2,h3⟩:=h2
 subst e
 obtain⟨W,⟨m0,w0⟩,turn⟩:=h3 s2.heap.objs.size I2.fresh
 have hb:∀ b∈fp,b < s2.heap.objs.size:=fun b z=>by
  obtain⟨o,e,_⟩:=T.obj _ _ st2 b z
  exact Heap.lt_size e
 refine wpAny_newObj_type (wpAny_newFunctionEnv hcell (by intro y hy;simp at hy) (fun h₁ hns₁ hsb₁=>?_) hkind)
 dsimp only at hns₁ hsb₁ ⊢
 generalize hH2:s2.heap.push { cls:=.type "list", dict:=none,data:=.seq ([]:List Value).toArray }=G at hns₁ hsb₁ ⊢
 have hCs:G.objs.size=s2.heap.objs.size+1:=by rw[← hH2,Heap.size_push]
 have old:∀ b o,s2.heap.get? b=some o→h₁.get? b=some o:=fun b o e=>hsb₁.extBut b o (Nat.ne_of_lt (by rw[hCs];exact Nat.lt_succ_of_lt (Heap.lt_size e))) (Heap.get?_push_of_some _ (hH2▸Heap.get?_push_of_some _ e))
 have hD:h₁.get? s2.heap.objs.size=some { cls:=.type "list", data:=.seq ([]:List Value).toArray }:=hsb₁.extBut _ _ (Nat.ne_of_lt (by rw[hCs];exact Nat.lt_succ_self _)) (Heap.get?_push_of_some _ (hH2▸Heap.get?_push_size _ rfl))
 generalize hC:G.objs.size=C at hns₁ hsb₁ hCs ⊢
 have hns':h₁.Ns C (fun _=>none):=by
  have e:(fun x=>(([]:List (Str×Value)).reverse.lookup x))=fun _=>(none:Option Value):=by funext x;rfl
  rw[← e]
  exact hns₁
 have hle:s2.heap.objs.size≤C:=by rw[hCs];exact Nat.le_succ _
 have hne:C≠s2.heap.objs.size:=Nat.ne_of_gt (by rw[hCs];exact Nat.lt_succ_self _)
 let Y:Cx:=X.comp (own++fr.map (·.1)) scope cl C fp s2 H2
 have stat:∀{H':Hp},(∀ b∈fp,H' b=none)→∀ b∈fp,FpOk Y [] H' b:=fun hn=>Inv.fpComp I2 f2 hb hle hcl hn
 obtain⟨gY,pY,eY⟩:=hB cl C fp s2 H2
 have IY:Inv Y [] (compSt own.length (fr.map (·.2)) σ) (upd H2 s2.heap.objs.size (.lst [])) { s2 with heap:=h₁,toks:=s2.toks+([]:List (Str×Value)).length } :=
  Inv.comp (D:=s2.heap.objs.size) I2 f2 hb hkind hcell hcl hcl2 hfr (Nat.le_refl _) hle hne hns' old hD rfl I2.bare
 have loop:codeAny (model X.prog X.w) X.A (.compLoop (.ListComp elt [⟨tg,iter,ifs,0⟩] scope pos) 0 (.ref it) (.ref s2.heap.objs.size) (compEnvC scope cl C X.env)) (compPost (model X.prog X.w) X.A X.xe (some (assign (.Name y py) X.env)) (fun _ s'=>SP X pins DD .next s') (.ref s2.heap.objs.size) C)
   { s2 with heap:=h₁,toks:=s2.toks+([]:List (Str×Value)).length }:=by
  refine compLoop_any (E:=fun _ _=>False) (fun n s'=>∃ i acc H',Inv Y [] (compSt own.length (fr.map (·.2)) σ) H' s'∧tn i s'.heap∧(∀ b∈fp,H' b=none)∧W i n acc H') (fun _ _ z=>z) ?_ m0
   ⟨0,[],_,IY,T.keep _ _ _ st2 fun b _ o e=>old b o e,fun b z=>by rw[upd_ne (Nat.ne_of_lt (hb b z))];exact (f2 b z).1,w0⟩
  rintro n s3 ⟨i,acc,H3,I3,st3,fr3,w3⟩
  rcases turn i n acc H3 w3 with ⟨stop,q⟩ | ⟨go,Nn,hN,step⟩
  ·refine thn (T.done Y rfl rfl rfl hc i [] s3 _ H3 _ I3 (stat fr3) st3 stop) fun r s4 ⟨hr,I4⟩=>?_
   subst hr
   obtain⟨m4,hn4,_⟩:=I4.loc
   have IX:Inv X pins σ H3 s4:=I2.call' (s':=s4) (ch:=fp) I4.os (show Un (frs X.stack) fp H2 H3 s2.heap s4.heap from I4.base) I4.hok I4.bare (fun b z=>⟨(f2 b z).2.2.2.1,(f2 b z).2.1,(f2 b z).2.2.2.2.1,(f2 b z).2.2.2.2.2⟩)
   have hCL:C≠X.env.locals:=Nat.ne_of_gt (Nat.lt_of_lt_of_le I2.lt hle)
   show wpAny _ _ (assign (.Name y py) X.env (.ref s2.heap.objs.size)) _ _ s4
   have cellLt:∀ z c,X.env.cells.lookup z=some c→c < C:=fun z c e=>by
    obtain⟨v,q'⟩:=I2.cell z c e
    exact Nat.lt_of_lt_of_le q'.lt hle
   refine wpAny_assign_Name (store_ok2 IX hNd hk (Or.inl hy) (v:=.ref s2.heap.objs.size) (u:=.ref s2.heap.objs.size) rfl (fun s5 I5 k5=>?_) (Or.inr hy))
   obtain⟨a5,sb5,ha5⟩:=k5
   have hCa:C≠a5:=by
    rcases ha5 with z | z
    ·rw[z];exact hCL
    ·exact Nat.ne_of_gt (cellLt _ _ z)
   refine⟨m4,Heap.Ns.sameBut hn4 sb5 hCa,fun h' hs'=>?_⟩
   refine⟨σ.set k (some (.ref s2.heap.objs.size)),H3,?_,q⟩
   refine I5.turned (it:=C) (t':=s5.toks) (fun b o hne e=>hs'.extBut b o hne e) I4.free hCL (.inr (Nat.le_trans I2.sz hle)) (fun z c e=>Nat.ne_of_lt (cellLt z c e)) fun p hp=>?_
   exact Nat.ne_of_lt (Nat.lt_of_lt_of_le (Heap.lt_size (I2.pin p hp).1) hle)
  ·refine thn (T.item Y rfl rfl rfl hc i [] s3 _ H3 _ I3 (stat fr3) st3 go) fun r s4 ⟨u,hr,h4⟩=>?_
   subst hr
   refine thn h4 fun _ s5 ⟨x,H5,I5,r5,y5,st5,fr5⟩=>?_
   have I5':=I5.pinned (stat fr5) (T.obj _ _ st5)
   refine thn (gY _ s5 _ H5 x u _ I5' r5 (hgx _ x H5 _ (step x H5 y5))) fun _ s6 ⟨σ6,H6,I6,ex6,q6⟩=>?_
   refine thn (pY _ s6 σ6 H6 _ I6 q6) fun ok s7 ⟨H7,I7,q7⟩=>?_
   have again:∀{acc':List V}{H8:Hp}{s8:Shared},Inv Y ([]++pinsAt fp s5.heap) σ6 H8 s8→Nn acc' H8→∃ m,m < n∧∃ i acc H',Inv Y [] (compSt own.length (fr.map (·.2)) σ) H' s8∧tn i s8.heap∧(∀ b∈fp,H' b=none)∧W i m acc H':=fun {acc' H8 s8} I8 n8=>by
    obtain⟨m',hm,w8⟩:=hN acc' H8 n8
    refine⟨m',hm,i+1,acc',H8,I8.unpinned.weak ex6.1 ex6.2,T.keep _ _ _ st5 fun b hb o e=>(I8.pin (b,o) (List.mem_append_right _ (List.mem_append_right _ (mem_pinsAt hb e)))).1,fun b hb=>?_,w8⟩
    obtain⟨o,e,d⟩:=T.obj _ _ st5 b hb
    exact (I8.pin (b,o) (List.mem_append_right _ (List.mem_append_right _ (mem_pinsAt hb e)))).2.1
   cases ok with
   | false=>exact again I7 (by simpa using q7)
   | true =>
    have q7':=(by simpa using q7:te σ6 H7 _)
    refine thn (eY _ s7 σ6 H7 _ I7 q7') fun xv s8 ⟨y,H8,I8,r8,hl8,hz8,n8⟩=>?_
    refine thn (mt_append (X:=Y) _ s8 σ6 H8 (.ref s2.heap.objs.size) [y] (.ref s2.heap.objs.size) [xv] (fun v H9=>v=.non∧H9=upd H8 s2.heap.objs.size (.lst (acc++[y]))) I8 rfl (.cons r8 .nil) ⟨_,acc,y,rfl,rfl,hl8,hz8,rfl,rfl⟩) fun _ s9 ⟨v9,H9,I9,_,_,e9⟩=>?_
    subst e9
    exact again I9 n8
 exact codeAny_compStart_list loop (T.self X.A 0 _ _ _ (T.keep _ _ _ st2 fun b _ o e=>old b o e) loop)
end
theorem comp_list{K:PySem.W.Frag}{a l:Addr}{xs:List V}{n:Nat}{js:List Nat}{g:TG}{tt:TT}{te:TE}{σ:St}{H1:Hp}{Q:VK}(Pv:Nat→List V→Hp→Prop)(h0:Pv 0 [] (upd H1 l (.lst [])))(hl:∀ i acc H,i≤xs.length→Pv i acc H→SqL K H a xs)
  (hs:∀ i x acc H,xs[i]?=some x→Pv i acc H→g x (compSt n js σ) H fun σ2 H2=>tt σ2 H2 fun b H3=>if b=true then te σ2 H3 fun y H4=>H4 l=some (.lst acc)∧acc.length < sizeLine∧Pv (i+1) (acc++[y]) (upd H4 l (.lst (acc++[y]))) else Pv (i+1) acc H3)
  (hd:∀ acc H,Pv xs.length acc H→Q (.ref l) H) :
  ∃ W:Nat→Nat→List V→Hp→Prop,(∃ m,W 0 m [] (upd H1 l (.lst [])))∧∀ i m acc H,W i m acc H →
   ((Itl K a).stop i H∧Q (.ref l) H)∨((Itl K a).go i H∧∃ N:List V→Hp→Prop,(∀ acc' H',N acc' H'→∃ m',m' < m∧W (i+1) m' acc' H') ∧
    ∀ x H',(Itl K a).yld i H x H'→g x (compSt n js σ) H' fun σ2 H2=>tt σ2 H2 fun b H3=>if b=true then te σ2 H3 fun y H4=>H4 l=some (.lst acc)∧acc.length < sizeLine∧N (acc++[y]) (upd H4 l (.lst (acc++[y]))) else N acc H3):=by
 refine⟨fun i m acc H=>m=xs.length - i∧i≤xs.length∧Pv i acc H,⟨xs.length,by simp,Nat.zero_le _,h0⟩,?_⟩
 rintro i m acc H ⟨rfl,hi,p⟩
 have q:=hl i acc H hi p
 by_cases hlt:i < xs.length
 ·refine .inr ⟨⟨xs,xs[i],q,by simp[hlt]⟩,Pv (i+1),fun acc' H' p'=>⟨xs.length - (i+1),by omega,rfl,hlt,p'⟩,fun x H' y=>?_⟩
  obtain⟨e,y⟩:=y
  subst e
  exact hs i x acc _ (y xs q) p
 ·have e:i=xs.length:=by omega
  subst e
  exact .inl ⟨⟨xs,q,Nat.le_refl _⟩,hd acc H p⟩
theorem comp_range{lo:Int}{k:Nat}{l:Addr}{n:Nat}{js:List Nat}{g:TG}{tt:TT}{te:TE}{σ:St}{H1:Hp}{Q:VK}(Pv:Nat→List V→Hp→Prop)(h0:Pv 0 [] (upd H1 l (.lst [])))
  (hs:∀ i acc H,i < k→Pv i acc H→g (.int (lo+i)) (compSt n js σ) H fun σ2 H2=>tt σ2 H2 fun b H3=>if b=true then te σ2 H3 fun y H4=>H4 l=some (.lst acc)∧acc.length < sizeLine∧Pv (i+1) (acc++[y]) (upd H4 l (.lst (acc++[y]))) else Pv (i+1) acc H3)
  (hd:∀ acc H,Pv k acc H→Q (.ref l) H) :
  ∃ W:Nat→Nat→List V→Hp→Prop,(∃ m,W 0 m [] (upd H1 l (.lst [])))∧∀ i m acc H,W i m acc H →
   ((Itr lo k).stop i H∧Q (.ref l) H)∨((Itr lo k).go i H∧∃ N:List V→Hp→Prop,(∀ acc' H',N acc' H'→∃ m',m' < m∧W (i+1) m' acc' H') ∧
    ∀ x H',(Itr lo k).yld i H x H'→g x (compSt n js σ) H' fun σ2 H2=>tt σ2 H2 fun b H3=>if b=true then te σ2 H3 fun y H4=>H4 l=some (.lst acc)∧acc.length < sizeLine∧N (acc++[y]) (upd H4 l (.lst (acc++[y]))) else N acc H3):=by
 refine⟨fun i m acc H=>m=k - i∧i≤k∧Pv i acc H,⟨k,by simp,Nat.zero_le _,h0⟩,?_⟩
 rintro i m acc H ⟨rfl,hi,p⟩
 by_cases hlt:i < k
 ·refine .inr ⟨hlt,Pv (i+1),fun acc' H' p'=>⟨k - (i+1),by omega,rfl,hlt,p'⟩,fun x H' y=>?_⟩
  obtain⟨e,y⟩:=y
  subst e y
  exact hs i acc _ hlt p
 ·have e:i=k:=by omega
  subst e
  exact .inl ⟨Nat.le_refl _,hd acc H p⟩
theorem comp_listR{K:PySem.W.Frag}{a l:Addr}{xs:List V}{n:Nat}{js:List Nat}{g:TG}{tt:TT}{te:TE}{σ:St}{H1:Hp}{R:Hp→Prop}(Pv:Nat→List V→Hp→Prop)(h0:Pv 0 [] (upd H1 l (.lst [])))(hl:∀ i acc H,i≤xs.length→Pv i acc H→SqL K H a xs)
  (hs:∀ i x acc H,xs[i]?=some x→Pv i acc H→g x (compSt n js σ) H fun σ2 H2=>tt σ2 H2 fun b H3=>if b=true then te σ2 H3 fun y H4=>H4 l=some (.lst acc)∧acc.length < sizeLine∧Pv (i+1) (acc++[y]) (upd H4 l (.lst (acc++[y]))) else Pv (i+1) acc H3)
  (hd:∀ acc H,Pv xs.length acc H→R H) :
  ∃ W:Nat→Nat→List V→Hp→Prop,(∃ m,W 0 m [] (upd H1 l (.lst [])))∧∀ i m acc H,W i m acc H →
   ((Itl K a).stop i H∧R H)∨((Itl K a).go i H∧∃ N:List V→Hp→Prop,(∀ acc' H',N acc' H'→∃ m',m' < m∧W (i+1) m' acc' H') ∧
    ∀ x H',(Itl K a).yld i H x H'→g x (compSt n js σ) H' fun σ2 H2=>tt σ2 H2 fun b H3=>if b=true then te σ2 H3 fun y H4=>H4 l=some (.lst acc)∧acc.length < sizeLine∧N (acc++[y]) (upd H4 l (.lst (acc++[y]))) else N acc H3):=comp_list (Q:=fun _ H=>R H) Pv h0 hl hs hd
theorem comp_rangeR{lo:Int}{k:Nat}{l:Addr}{n:Nat}{js:List Nat}{g:TG}{tt:TT}{te:TE}{σ:St}{H1:Hp}{R:Hp→Prop}(Pv:Nat→List V→Hp→Prop)(h0:Pv 0 [] (upd H1 l (.lst [])))
  (hs:∀ i acc H,i < k→Pv i acc H→g (.int (lo+i)) (compSt n js σ) H fun σ2 H2=>tt σ2 H2 fun b H3=>if b=true then te σ2 H3 fun y H4=>H4 l=some (.lst acc)∧acc.length < sizeLine∧Pv (i+1) (acc++[y]) (upd H4 l (.lst (acc++[y]))) else Pv (i+1) acc H3)
  (hd:∀ acc H,Pv k acc H→R H) :
  ∃ W:Nat→Nat→List V→Hp→Prop,(∃ m,W 0 m [] (upd H1 l (.lst [])))∧∀ i m acc H,W i m acc H →
   ((Itr lo k).stop i H∧R H)∨((Itr lo k).go i H∧∃ N:List V→Hp→Prop,(∀ acc' H',N acc' H'→∃ m',m' < m∧W (i+1) m' acc' H') ∧
    ∀ x H',(Itr lo k).yld i H x H'→g x (compSt n js σ) H' fun σ2 H2=>tt σ2 H2 fun b H3=>if b=true then te σ2 H3 fun y H4=>H4 l=some (.lst acc)∧acc.length < sizeLine∧N (acc++[y]) (upd H4 l (.lst (acc++[y]))) else N acc H3):=comp_range (Q:=fun _ H=>R H) Pv h0 hs hd
end L2
namespace L2
open PySem PySem.Spec PyProof.Rows
open PySem.Builtin.Int (intBits)
abbrev Sz(k:Nat)(x:Int):Prop:=intBits x≤k
theorem Sz.of{k:Nat}{x:Int}(h:x.natAbs < 2 ^ k):Sz k x:=PySem.intBits_le_iff.mpr h
theorem Sz.lt{k:Nat}{x:Int}(h:Sz k x):x.natAbs < 2 ^ k:=PySem.intBits_le_iff.mp h
theorem Sz.mono{j k:Nat}{x:Int}(h:Sz j x)(q:j≤k):Sz k x:=Nat.le_trans h q
theorem Sz.le{k:Nat}{x y:Int}(h:Sz k y)(q:x.natAbs≤y.natAbs):Sz k x:=PySem.intBits_le_of_natAbs q h
theorem Sz.okR{k:Nat}{x y:Int}(q:Sz k y)(e:k≤64):IntMulOk x y:=IntMulOk.of_right (Nat.le_trans q e)
theorem Sz.noPy{k:Nat}{x y:Int}(q:Sz k y)(e:k≤9000):Builtin.divisionGoesByPylong x y=false:=by
 refine PyProof.noPylong_of_log2 ?_
 by_cases h0:y.natAbs=0
 ·rw[h0];decide +kernel
 ·exact (Nat.log2_lt h0).mpr (Sz.lt (q.mono e))
section
variable {X:Cx}
def CMulB(i j:Int):Prop:=IntMulOk i j
def CDivB(i j:Int):Prop:=0 < j∧Sz 9000 j
theorem op_mulB:OpR X (binaryOp .Mult) (rI CMulB fun i j=>.int (i*j)):=opI fun _ _ _ _ _ _ _ hc q=>mul_int q hc
theorem op_fdivB:OpR X (binaryOp .FloorDiv) (rI CDivB fun i j=>.int (i / j)):=opI fun i j _ _ _ _ _ hc q=>by
 have h1:(0:Int) < j:=hc.1
 exact floordiv_int (by omega) (by rw[Int.fdiv_eq_ediv_of_nonneg i (by omega)];exact q) (.inl (Sz.noPy hc.2 (Nat.le_refl _)))
def tyNm(x:V)(H:Hp):Option String:=match x with
 | .non=>some "NoneType"
 | .bl _=>some "bool"
 | .int _=>some "int"
 | .str _=>some "str"
 | .ref a=>(match H a with
  | some (.lst _)=>some "list"
  | some (.tup _)=>some "tuple"
  | some (.dK _)=>some "dict"
  | _=>none)
 | _=>none
theorem tyNm_of{K:PySem.W.Frag}{H:Hp}{x:V}{n:String}(h:tyNm x H=some n):TyOf K H x (.type n):=by
 unfold tyNm at h
 split at h
 ·cases h;exact .non
 ·cases h;exact .bl _
 ·cases h;exact .int _
 ·cases h;exact .str _
 ·split at h
  ·cases h;exact .lst (by assumption)
  ·cases h;exact .tup (by assumption)
  ·cases h;exact .dK (by assumption)
  ·cases h
 ·cases h
def isiB(t c:String):Bool:=t == c || (t == "bool" && c == "int")
def isiNames:List String:=["NoneType", "bool", "int", "str", "list", "tuple", "dict"]
theorem kit_of(K:PySem.W.Frag):∀ t∈isiNames,∀ c∈["bool", "int", "str", "list", "tuple", "dict"],PySem.W.kitOne K (.type t) (.type c)=some (isiB t c):=by
 intro t ht c hc
 simp only[isiNames,List.mem_cons,List.not_mem_nil,or_false] at ht hc
 rcases ht with rfl | rfl | rfl | rfl | rfl | rfl | rfl<;>rcases hc with rfl | rfl | rfl | rfl | rfl | rfl<;>kernel_rfl
theorem tyNm_mem{x:V}{H:Hp}{n:String}(h:tyNm x H=some n):n∈isiNames:=by
 unfold tyNm at h
 split at h
 ·cases h;decide
 ·cases h;decide
 ·cases h;decide
 ·cases h;decide
 ·split at h
  ·cases h;decide
  ·cases h;decide
  ·cases h;decide
  ·cases h
 ·cases h
def rIsi:List V→Hp→VK→Prop:=fun xs H Q=>∃ x n t,xs=[x,.ty n]∧n∈["bool", "int", "str", "list", "tuple", "dict"]∧tyNm x H=some t∧Q (.bl (isiB t n)) H
theorem call_isi:CallR X (.builtin "isinstance") rIsi:=by
 intro pins s σ H xs us Q I r h
 obtain⟨x,n,t,rfl,hn,ty,q⟩:=h
 obtain⟨u,v,rfl,ru,rv⟩:=r.two
 obtain rfl:v=Value.type n:=rv
 exact isinst_ok I ru (tyNm_of ty) (kit_of X.K t (tyNm_mem ty) n hn) fun tk=>⟨.bl _,H,I.tok tk,rfl,q⟩
theorem isiN_int:("int" ∈ ["bool", "int", "str", "list", "tuple", "dict"])=True:=eq_true (by decide)
theorem isiN_bool:("bool" ∈ ["bool", "int", "str", "list", "tuple", "dict"])=True:=eq_true (by decide)
theorem isiN_list:("list" ∈ ["bool", "int", "str", "list", "tuple", "dict"])=True:=eq_true (by decide)
theorem isiN_tuple:("tuple" ∈ ["bool", "int", "str", "list", "tuple", "dict"])=True:=eq_true (by decide)
theorem isiN_str:("str" ∈ ["bool", "int", "str", "list", "tuple", "dict"])=True:=eq_true (by decide)
theorem isi_ii:isiB "int" "int" = true:=rfl
theorem isi_ib:isiB "int" "bool" = false:=rfl
theorem isi_bb:isiB "bool" "bool" = true:=rfl
theorem isi_bi:isiB "bool" "int" = true:=rfl
theorem isi_tt:isiB "tuple" "tuple" = true:=rfl
theorem isi_ll:isiB "list" "list" = true:=rfl
theorem isi_nt:isiB "NoneType" "tuple" = false:=rfl
theorem isi_ni:isiB "NoneType" "int" = false:=rfl
def seqAt(H:Hp)(p:Addr):Option (List V):=match H p with
 | some (.lst xs)=>some xs
 | some (.tup xs)=>some xs
 | some (.frz _ (.lst xs))=>some xs
 | _=>none
theorem sq_of{K:PySem.W.Frag}{H:Hp}{p:Addr}{xs:List V}(h:seqAt H p=some xs):SqL K H p xs∨SqT K H p xs:=by
 unfold seqAt at h
 split at h
 ·rename_i e;cases h;exact .inl (SqL.of e)
 ·rename_i e;cases h;exact .inr (SqT.of e)
 ·rename_i e;cases h;exact .inl (.inl (.inr ⟨_,e⟩))
 ·cases h
def rIxF:R2:=fun x y H Q=>∃ p xs i v,x=.ref p∧y=.int i∧seqAt H p=some xs∧atI xs i=some v∧Q v H
theorem ix_seqA:IxR X rIxF:=by
 intro value slice pins s σ H x y v u Q I rx ry h hs
 obtain⟨p,xs,i,z,e1,e2,hq,he,q⟩:=h
 rcases sq_of (K:=X.K) hq with h' | h'
 ·exact ix_list value slice pins s σ H x y v u Q I rx ry ⟨p,xs,i,z,e1,e2,h',he,q⟩ hs
 ·exact ix_tup value slice pins s σ H x y v u Q I rx ry ⟨p,xs,i,z,e1,e2,h',he,q⟩ hs
def rLenF:List V→Hp→VK→Prop:=fun xs H Q=>∃ p ys,xs=[.ref p]∧seqAt H p=some ys∧Q (.int ys.length) H
theorem call_lenF:CallR X (.builtin "len") rLenF:=by
 intro pins s σ H xs us Q I r h
 obtain⟨p,ys,e1,hq,q⟩:=h
 exact call_len_seq pins s σ H xs us Q I r ⟨p,ys,e1,sq_of hq,q⟩
def rGetF:V→V→Hp→VK→Prop:=fun x y H Q=>∃ p xs i v,x=.ref p∧y=.int i∧H p=some (.lst xs)∧0≤i∧atI xs i=some v∧Q v H
theorem get_list:PGet X rGetF:=by
 intro pins s σ H o i ov iv Q I r1 r2 h
 obtain⟨p,xs,k,v,rfl,rfl,hl,h0,he,q⟩:=h
 obtain rfl:ov=Value.ref p:=r1
 obtain⟨t,rfl⟩:=r2
 obtain⟨its,rv,pl,hz⟩:=I.list (SqL.of hl)
 obtain⟨j,h1,h2,h3,h4,h5⟩:=atI_get he
 obtain⟨u,hu,ru⟩:=rv.get h2
 have hlen:=rv.length
 have hn:=line63
 have hj:k.toNat=j:=by
  rw[seqIndex_of h0 h5] at h1
  exact Option.some.inj h1
 exact wpAny_getItem_list pl.isList h0 (by omega) (by rw[hj];simpa using hu) ⟨v,H,I,ru,q⟩
theorem atI_0{α:Type}{a:α}{l:List α}:atI (a::l) 0=some a:=atI_nat (j:=0) rfl
theorem atI_1{α:Type}{a b:α}{l:List α}:atI (a::b::l) 1=some b:=atI_nat (j:=1) rfl
theorem atI_2{α:Type}{a b c:α}{l:List α}:atI (a::b::c::l) 2=some c:=atI_nat (j:=2) rfl
theorem atI_3{α:Type}{a b c d:α}{l:List α}:atI (a::b::c::d::l) 3=some d:=atI_nat (j:=3) rfl
theorem ixN_4_0:ixN 4 0=some 0:=rfl
theorem ixN_4_1:ixN 4 1=some 1:=rfl
theorem ixN_4_2:ixN 4 2=some 2:=rfl
theorem ixN_4_3:ixN 4 3=some 3:=rfl
theorem atI_lt{α:Type}{xs:List α}{i:Int}(h0:0≤i)(h1:i < xs.length):∃ v,atI xs i=some v∧v∈xs:=by
 have hl:i.toNat < xs.length:=by omega
 refine⟨xs[i.toNat],?_,List.getElem_mem hl⟩
 have:=atI_nat (xs:=xs) (j:=i.toNat) (v:=xs[i.toNat]) (by simp[hl])
 rwa [Int.toNat_of_nonneg h0] at this
end
theorem bt_len:bootBuiltins "len" = some (.builtin "len"):=by decide +kernel
theorem bt_isinstance:bootBuiltins "isinstance" = some (.builtin "isinstance"):=by decide +kernel
theorem bt_sorted:bootBuiltins "sorted" = some (.builtin "sorted"):=by decide +kernel
theorem bt_all:bootBuiltins "all" = some (.builtin "all"):=by decide +kernel
theorem bt_int:bootBuiltins "int" = some (.type "int"):=by decide +kernel
theorem bt_bool:bootBuiltins "bool" = some (.type "bool"):=by decide +kernel
theorem bt_str:bootBuiltins "str" = some (.type "str"):=by decide +kernel
theorem bt_list:bootBuiltins "list" = some (.type "list"):=by decide +kernel
theorem bt_tuple:bootBuiltins "tuple" = some (.type "tuple"):=by decide +kernel
theorem scal_ii{i j:Int}:scal (.int i) (.int j)=true:=rfl
theorem scal_bb{i j:Bool}:scal (.bl i) (.bl j)=true:=rfl
theorem scal_ss{i j:Str}:scal (.str i) (.str j)=true:=rfl
theorem scal_nn:scal .non .non=true:=rfl
theorem sizeLine_1:(1≤sizeLine)=True:=eq_true (by decide)
theorem sizeLine_2:(2≤sizeLine)=True:=eq_true (by decide)
theorem sizeLine_3:(3≤sizeLine)=True:=eq_true (by decide)
theorem sizeLine_4:(4≤sizeLine)=True:=eq_true (by decide)
theorem sizeLine_5:(5≤sizeLine)=True:=eq_true (by decide)
theorem sizeLine_6:(6≤sizeLine)=True:=eq_true (by decide)
theorem sizeLine_7:(7≤sizeLine)=True:=eq_true (by decide)
theorem int_c2:(((2:Nat):Int))=2:=rfl
theorem pow_ok:(Int.natAbs 10 < 2 ^ 64)=True:=eq_true (by decide)
theorem int_01:((0:Int)≤1)=True:=eq_true (by decide)
section
variable {X:Cx}
def rListF:List V→Hp→VK→Prop:=fun xs H Q=>∃ p ys,xs=[.ref p]∧seqAt H p=some ys∧∀ l,H l=none→Q (.ref l) (upd H l (.lst ys))
theorem call_listF:CallR X (.type "list") rListF:=by
 intro pins s σ H xs us Q I r h
 obtain⟨p,ys,e1,hq,q⟩:=h
 exact call_list_of pins s σ H xs us Q I r ⟨p,ys,e1,sq_of hq,q⟩
def rTupF:List V→Hp→VK→Prop:=fun xs H Q=>∃ p ys,xs=[.ref p]∧H p=some (.lst ys)∧∀ l,H l=none→Q (.ref l) (upd H l (.tup ys))
theorem cutV_all{ns:List V}{k:Nat}(h:ns.length≤k):cutV ns none (some (k:Int))=ns:=by
 unfold cutV
 rw[HT.sIx_none,HT.sIx_nat,List.drop_zero,Nat.sub_zero,Nat.min_eq_right h,List.take_length]
end
def DefOk(P:Program)(w:World)(K:PySem.W.Frag)(mg:Str→Option Value)(base:Heap)(CX:CXT)(k:Nat)(x:Str)(ps:List Str)(sp:Sp):Prop :=
 ∃ f fd,FnOk P w K mg base CX k f fd ps sp∧mg x=some (.ref f)∧PySem.W.keepIn K (.ref f)=true∧Binds K fd ps []
inductive Tg.{u} {α:Sort u} (a:α):Type
 | mk
def Hold(Q:VK)(_:Tg Q):VK:=Q
theorem Hold_ap{Q:VK}{k:Tg Q}{v:V}{H:Hp}:Hold Q k v H=Q v H:=propext Iff.rfl
def tD(sp:Sp)(E:XK)(t:TA):TE:=fun σ H Q=>t σ H fun vs H1=>sp vs H1 (Hold Q .mk) E
section
variable {X:Cx}{CX:CXT}{k:Nat}{ps:List Str}{sp:Sp}{E:XK}{x:Str}{p pos:Pos}{e:Expr}{es:List Expr}{t:TA}
theorem pe_d(d:DefOk X.prog X.w X.K X.mg X.base CX k x ps sp)(hr:Room k X.A)(hx:Passes CX X E)(hg:Gl X x)(ha:PA X (e::es) t)
  (hdb:(x == ("__debug__" : Str))=false:=by decide) (he:starEach (e::es) X.env=(false,eval e X.env)::starEach es X.env:=by rfl) (hpl:(backTo pos (starEach es X.env)).any (·.1)=false:=by rfl) :
  PE X (.Call (.Name x p) (e::es) [] pos) (tD sp E t):=by
 obtain⟨f,fd,F,hm,hk,hb⟩:=d
 intro pins s σ H Q I h
 refine pe_call (dvs:=[]) (ds:=[]) F hr hg hm hk hb .nil hx ha hdb he hpl pins s σ H Q I ?_
 have e0:tCall sp [] E t=tD sp E t:=by
  funext σ H Q
  unfold tCall tD Hold
  simp only[List.append_nil]
 rw[e0]
 exact h
end
structure DefAt(K:PySem.W.Frag)(mg:Str→Option Value)(x:Str)(st:Stmt)(f:Addr)(fd:FuncData):Prop where
 fn:Fun K x x st f fd
 mg:mg x=some (.ref f)
theorem DefAt.ok{P:Program}{w:World}{K:PySem.W.Frag}{mg:Str→Option Value}{base:Heap}{CX:CXT}{k:Nat}{x:Str}{st:Stmt}{f:Addr}{fd:FuncData}{ps:List Str}{sp:Sp}(D:DefAt K mg x st f fd)(F:FnOk P w K mg base CX k f fd ps sp)(b:Binds K fd ps []):DefOk P w K mg base CX k x ps sp :=
 ⟨f,fd,F,D.mg,D.fn.kp,b⟩
def Fr1(B:Addr)(H H':Hp):Prop:=∀ b o,b≠B→H b=some o→H' b=some o
theorem Fr1.refl{B:Addr}{H:Hp}:Fr1 B H H:=fun _ _ _ h=>h
theorem Fr1.trans{B:Addr}{H H1 H2:Hp}(a:Fr1 B H H1)(b:Fr1 B H1 H2):Fr1 B H H2:=fun c o n h=>b c o n (a c o n h)
theorem Fr1.upd{B:Addr}{H:Hp}{o:HO}:Fr1 B H (L2.upd H B o):=fun c u n h=>by rw[upd_ne n];exact h
theorem Same.new{p:Addr}{H:Hp}{o:HO}(hp:H p=none):Same H (L2.upd H p o):=fun c u h=>by rw[upd_ne (ne_of_none h hp)];exact h
theorem Room.le{j k:Nat}{A:Around}(r:Room k A)(h:j≤k:=by decide):Room j A:=r.mono h
def Brk(b:Bool)(A B:Prop)(_:Tg A)(_:Tg B):Prop:=if b=true then A else B
theorem Brk_t{A B:Prop}{k:Tg A}{l:Tg B}:Brk true A B k l=A:=by unfold Brk;rw[if_pos rfl]
theorem Brk_f{A B:Prop}{k:Tg A}{l:Tg B}:Brk false A B k l=B:=by unfold Brk;rw[if_neg Bool.false_ne_true]
theorem brk{b:Bool}{A B:Prop}{k:Tg A}{l:Tg B}(h1:b=true→A)(h2:b=false→B):Brk b A B k l:=by
 cases b with
 | true=>rw[Brk_t];exact h1 rfl
 | false=>rw[Brk_f];exact h2 rfl
theorem brkD{p:Prop}[Decidable p]{A B:Prop}{k:Tg A}{l:Tg B}(h1:p→A)(h2:¬ p→B):Brk (decide p) A B k l:=brk (fun h=>h1 (of_decide_eq_true h)) (fun h=>h2 (of_decide_eq_false h))
section
variable {σ:St}{H:Hp}{Q:VK}{D:Ends}{te ta tb:TE}{t u:TS}{c c':TT}{tr:TA}{QT:Bool→Hp→Prop}{QA:List V→Hp→Prop}{x y:V}{xs:List V}{v:V}
theorem tSeq_ap:tSeq t u D σ H=t { D with nx:=u D } σ H:=propext Iff.rfl
theorem tIfS_ap:tIfS c t u D σ H=c σ H fun b H1=>Brk b (t D σ H1) (u D σ H1) .mk .mk:=propext Iff.rfl
theorem tNext_ap:tNext D σ H=D.nx σ H:=propext Iff.rfl
theorem tDrop_ap:tDrop te D σ H=te σ H fun _ H1=>D.nx σ H1:=propext Iff.rfl
theorem tRet_ap:tRet te D σ H=te σ H D.rt:=propext Iff.rfl
theorem tRetN_ap:tRetN D σ H=D.rt .non H:=propext Iff.rfl
theorem tAsg_ap{g:TG}:tAsg te g D σ H=te σ H fun x H1=>g x σ H1 D.nx:=propext Iff.rfl
theorem gName_ap{i:Nat}{R:St→Hp→Prop}:gName i v σ H R=R (σ.set i (some v)) H:=propext Iff.rfl
theorem gSub_ap{to ti:TE}{ts:TSet}{R:St→Hp→Prop}:gSub to ti ts v σ H R=to σ H fun o H1=>ti σ H1 fun i H2=>ts o i v H2 fun H3=>R σ H3:=propext Iff.rfl
theorem tPar_ap{i j:Nat}:tPar i j tr D σ H=tr σ H fun vs H1=>∃ v w,vs=[v,w]∧D.nx ((σ.set i (some v)).set j (some w)) H1:=propext Iff.rfl
theorem tAugS_ap{to ti:TE}{tg:V→V→Hp→VK→Prop}{tp:TIp}{ts:TSet}:tAugS to ti te tg tp ts D σ H=to σ H fun o H1=>ti σ H1 fun i H2=>tg o i H2 fun x H3=>te σ H3 fun y H4=>tp x y H4 fun z H5=>ts o i z H5 fun H6=>D.nx σ H6:=propext Iff.rfl
theorem tVar_ap{i:Nat}:tVar i σ H Q=∃ v,σ[i]?=some (some v)∧Q v H:=propext Iff.rfl
theorem tC_ap:tC v σ H Q=Q v H:=propext Iff.rfl
theorem tB_ap:tB te σ H QT=te σ H fun x H1=>∃ c,x=.bl c∧QT c H1:=propext Iff.rfl
theorem tTest_ap:tTest te σ H QT=te σ H fun x H1=>∃ c,x=.bl c∧QT c H1:=propext Iff.rfl
theorem tOp_ap{r:R2}:tOp r ta tb σ H Q=ta σ H fun x H1=>tb σ H1 fun y H2=>r x y H2 Q:=propext Iff.rfl
theorem tUn_ap{r:V→Hp→VK→Prop}:tUn r ta σ H Q=ta σ H fun x H1=>r x H1 Q:=propext Iff.rfl
theorem tCB_ap{r:List V→Hp→VK→Prop}:tCB r tr σ H Q=tr σ H fun vs H1=>r vs H1 Q:=propext Iff.rfl
theorem tNil_ap:tNil σ H QA=QA [] H:=propext Iff.rfl
theorem tCons_ap:tCons ta tr σ H QA=ta σ H fun x H1=>tr σ H1 fun xs H2=>QA (x::xs) H2:=propext Iff.rfl
theorem tTup_ap:tTup tr σ H Q=tr σ H fun xs H1=>xs.length≤sizeLine∧∀ p,H1 p=none→Q (.ref p) (upd H1 p (.tup xs)):=propext Iff.rfl
theorem tLst_ap:tLst tr σ H Q=tr σ H fun xs H1=>xs.length≤sizeLine∧∀ p,H1 p=none→Q (.ref p) (upd H1 p (.lst xs)):=propext Iff.rfl
theorem tAnd_ap:tAnd c c' σ H QT=c σ H fun b H1=>Brk b (c' σ H1 QT) (QT false H1) .mk .mk:=propext Iff.rfl
theorem tOr_ap:tOr c c' σ H QT=c σ H fun b H1=>Brk b (QT true H1) (c' σ H1 QT) .mk .mk:=propext Iff.rfl
theorem tNot_ap:tNot c σ H QT=c σ H fun b H1=>QT (!b) H1:=propext Iff.rfl
theorem tAndV_ap:tAndV ta tb σ H Q=ta σ H fun x H1=>∃ c,x=.bl c∧Brk c (tb σ H1 Q) (Q (.bl false) H1) .mk .mk:=propext Iff.rfl
theorem tOrV_ap:tOrV ta tb σ H Q=ta σ H fun x H1=>∃ c,x=.bl c∧Brk c (Q (.bl true) H1) (tb σ H1 Q) .mk .mk:=propext Iff.rfl
theorem tNotV_ap:tNotV ta σ H Q=ta σ H fun x H1=>∃ c,x=.bl c∧Q (.bl (!c)) H1:=propext Iff.rfl
theorem tIf_ap:tIf c ta tb σ H Q=c σ H fun b H1=>Brk b (ta σ H1 Q) (tb σ H1 Q) .mk .mk:=propext Iff.rfl
theorem tD_ap{sp:Sp}{E:XK}:tD sp E tr σ H Q=tr σ H fun vs H1=>sp vs H1 (Hold Q .mk) E:=propext Iff.rfl
theorem tCallX_ap{sp:Sp}{EX:XEx}:tCallX sp EX tr σ H Q=tr σ H fun vs H1=>sp vs H1 (Hold Q .mk) fun cls _ H2=>EX cls σ H2:=propext Iff.rfl
theorem tTry_ap{C:Addr}{tb':XEx→TS}{th:TS}:tTry C tb' th D σ H=tb' (fun cls σ' H'=>cls=.ref C∧th D σ' H') D σ H:=propext Iff.rfl
theorem tRaise_ap{C:Addr}{E:XK}:tRaise C E tr D σ H=tr σ H fun vs H1=>vs.length≤sizeLine∧E (.ref C) none H1:=propext Iff.rfl
theorem tIsN_ap:tIsN ta σ H Q=ta σ H fun x H1=>Q (.bl (decide (x=.non))) H1:=propext Iff.rfl
theorem tNotN_ap:tNotN ta σ H Q=ta σ H fun x H1=>Q (.bl (!decide (x=.non))) H1:=propext Iff.rfl
theorem rI_ap{C:Int→Int→Prop}{g:Int→Int→V}:rI C g x y H Q=∃ i j,x=.int i∧y=.int j∧C i j∧Q (g i j) H:=propext Iff.rfl
theorem rI0_ap{g:Int→Int→V}:rI0 g x y H Q=∃ i j,x=.int i∧y=.int j∧Q (g i j) H:=propext Iff.rfl
theorem rU_ap{g:Int→V}:rU g x H Q=∃ i,x=.int i∧Q (g i) H:=propext Iff.rfl
theorem rEq_ap:rEq x y H Q=(scal x y=true∧Q (.bl (decide (x=y))) H):=propext Iff.rfl
theorem rNe_ap:rNe x y H Q=(scal x y=true∧Q (.bl (!decide (x=y))) H):=propext Iff.rfl
theorem ipI_ap{f:Int→Int→Int}:ipI f x y H Q=∃ i j,x=.int i∧y=.int j∧Q (.int (f i j)) H:=propext Iff.rfl
theorem rIxF_ap:rIxF x y H Q=∃ p xs i v,x=.ref p∧y=.int i∧seqAt H p=some xs∧atI xs i=some v∧Q v H:=propext Iff.rfl
theorem rLenF_ap:rLenF xs H Q=∃ p ys,xs=[.ref p]∧seqAt H p=some ys∧Q (.int ys.length) H:=propext Iff.rfl
theorem rGetF_ap:rGetF x y H Q=∃ p xs i v,x=.ref p∧y=.int i∧H p=some (.lst xs)∧0≤i∧atI xs i=some v∧Q v H:=propext Iff.rfl
theorem rSetL_ap{R:Hp→Prop}:rSetL x y v H R=∃ p xs k j,x=.ref p∧y=.int k∧H p=some (.lst xs)∧ixN xs.length k=some j∧R (upd H p (.lst (xs.set j v))):=propext Iff.rfl
theorem rIsi_ap:rIsi xs H Q=∃ x n t,xs=[x,.ty n]∧n∈["bool", "int", "str", "list", "tuple", "dict"]∧tyNm x H=some t∧Q (.bl (isiB t n)) H:=propext Iff.rfl
theorem rListF_ap:rListF xs H Q=∃ p ys,xs=[.ref p]∧seqAt H p=some ys∧∀ l,H l=none→Q (.ref l) (upd H l (.lst ys)):=propext Iff.rfl
theorem rTupF_ap:rTupF xs H Q=∃ p ys,xs=[.ref p]∧H p=some (.lst ys)∧∀ l,H l=none→Q (.ref l) (upd H l (.tup ys)):=propext Iff.rfl
end
theorem seqAt_lst{H:Hp}{p:Addr}{xs:List V}(h:H p=some (.lst xs)):seqAt H p=some xs:=by unfold seqAt;rw[h]
theorem seqAt_tup{H:Hp}{p:Addr}{xs:List V}(h:H p=some (.tup xs)):seqAt H p=some xs:=by unfold seqAt;rw[h]
end L2
namespace L2
open PySem PySem.Spec PyProof.Rows
structure QE(X:Cx)(e:Expr)(t:TE):Prop where
 p:PE X e t
structure QT(X:Cx)(e:Expr)(t:TT):Prop where
 p:PT X e t
structure QW(X:Cx)(e:Expr)(t:TT):Prop where
 p:PW X e t
structure QA(X:Cx)(e:List Expr)(t:TA):Prop where
 p:PA X e t
structure QS(X:Cx)(e:Stmt)(t:TS):Prop where
 p:PS X e t
structure QB(X:Cx)(e:List Stmt)(t:TS):Prop where
 p:PSs X e t
structure QI(X:Cx)(tg e:Expr)(t:TI):Prop where
 p:PI X tg e t
structure QG(X:Cx)(e:Expr)(t:TG):Prop where
 p:PG X e t
structure QGs(X:Cx)(e:List Expr)(t:TGs):Prop where
 p:PGs X e t
structure QF(X:Cx)(e:List Expr)(t:TT):Prop where
 p:PFs X e t
structure QO(X:Cx)(e:Option Expr)(t:TO):Prop where
 p:PO X e t
section
variable {X:Cx}{a b c e o:Expr}{es rest:List Expr}{ta tb tc te:TE}{t tr:TA}{tA tB':TT}{pos p:Pos}{x:Str}{st:Stmt}{sts:List Stmt}{ts us:TS}
theorem qv(i:Nat)(hN:X.N[i]?=some x:=by rfl)(hv:Vis X.env.scope x:=by first | exact Or.inl rfl | exact Or.inr (Or.inl rfl) | exact Or.inr (Or.inr rfl))(hd:(x == ("__debug__" : Str))=false:=by decide)
  (hcd:(x == ("__classdict__" : Str))=false:=by decide):QE X (.Name x pos) (tVar i):=⟨pe_var hN hv hd hcd⟩
theorem qe_int{i j}:QE X (.Constant (.int i) j pos) (tC (.int i)):=⟨pe_int⟩
theorem qe_bl{i j}:QE X (.Constant (.bool i) j pos) (tC (.bl i)):=⟨pe_bl⟩
theorem qe_str{i j}:QE X (.Constant (.str i) j pos) (tC (.str i)):=⟨pe_str⟩
theorem qe_bltn{v:V}{u:Value}(hg:Gl X x)(hm:X.mg x=none)(hv:bootBuiltins x=some u)(r:RelV v u)(hn:x ≠ "__name__" := by decide)(hd:(x == ("__debug__" : Str))=false:=by decide):QE X (.Name x pos) (tC v):=⟨pe_bltn hg hm hv r hn hd⟩
theorem qe_op{op:Operator}{r:R2}(ho:OpR X (binaryOp op) r)(ha:QE X a ta)(hb:QE X b tb):QE X (.BinOp a op b pos) (tOp r ta tb):=⟨pe_op ho ha.p hb.p⟩
theorem qe_un{op:UnaryOp}{r:V→Hp→VK→Prop}(ho:UnR X (unaryOp op) r)(ha:QE X a ta):QE X (.UnaryOp op a pos) (tUn r ta):=⟨pe_un ho ha.p⟩
theorem qe_not(ha:QE X a ta):QE X (.UnaryOp .Not a pos) (tNotV ta):=⟨pe_not ha.p⟩
theorem qe_one{op}(h:QE X a ta):QE X (.BoolOp op [a] pos) ta:=⟨pe_one h.p⟩
theorem qe_and(ha:QE X a ta)(hb:QE X (.BoolOp .And (b::rest) pos) tb):QE X (.BoolOp .And (a::b::rest) pos) (tAndV ta tb):=⟨pe_and ha.p hb.p⟩
theorem qe_isN{j pos'}(ha:QE X a ta):QE X (.Compare a [.Is] [.Constant .none j pos'] pos) (tIsN ta):=⟨pe_cmp (pc_isN ha.p)⟩
theorem qt_isN{j pos'}(ha:QE X a ta):QT X (.Compare a [.Is] [.Constant .none j pos'] pos) (tB (tIsN ta)):=⟨pt_cmp (pc_isN ha.p)⟩
theorem qe_cmpR{op:CmpOp}{r:R2}(ho:OpR X (compareOp op) r)(ha:QE X a ta)(hb:QE X b tb)(hm:behindInMarks op b=false):QE X (.Compare a [op] [b] pos) (tOp r ta tb):=⟨pe_cmpR ho ha.p hb.p hm⟩
theorem qe_tup{x1}(h:QA X es t):QE X (.Tuple es x1 pos) (tTup t):=⟨pe_tup h.p⟩
theorem qe_lst(h:QA X es t):QE X (.List es pos) (tLst t):=⟨pe_lst h.p⟩
theorem qe_slice{r:V→Option Int→Option Int→Hp→VK→Prop}{lo hi:Option Expr}{tl th:TO}{p2:Pos}(hr:SlR X r)(he:QE X e te)(hl:QO X lo tl)(hu:QO X hi th):QE X (.Subscript e (.Slice lo hi none p2) pos) (tSl r te tl th):=⟨pe_slice hr he.p hl.p hu.p⟩
theorem qe_ix{r:R2}(hr:IxR X r)(ha:QE X a ta)(hb:QE X b tb)(hs:PlainIx b):QE X (.Subscript a b pos) (tOp r ta tb):=⟨pe_ix hr ha.p hb.p hs⟩
theorem qe_callB{id:String}{r:List V→Hp→VK→Prop}(hc:CallR X (.builtin id) r)(hg:Gl X x)(hm:X.mg x=none)(hv:bootBuiltins x=some (.builtin id))(ha:QA X (e::es) t)(hn:x ≠ "__name__" := by decide)(hdb:(x == ("__debug__" : Str))=false:=by decide)
  (he:starEach (e::es) X.env=(false,eval e X.env)::starEach es X.env:=by rfl) (hpl:(backTo pos (starEach es X.env)).any (·.1)=false:=by rfl):QE X (.Call (.Name x p) (e::es) [] pos) (tCB r t):=⟨pe_callB hc hg hm hv ha.p hn hdb he hpl⟩
theorem qe_callTy{T:String}{r:List V→Hp→VK→Prop}(hc:CallR X (.type T) r)(hg:Gl X x)(hm:X.mg x=none)(hv:bootBuiltins x=some (.type T))(ha:QA X (e::es) t)(hn:x ≠ "__name__" := by decide)(hdb:(x == ("__debug__" : Str))=false:=by decide)
  (he:starEach (e::es) X.env=(false,eval e X.env)::starEach es X.env:=by rfl) (hpl:(backTo pos (starEach es X.env)).any (·.1)=false:=by rfl):QE X (.Call (.Name x p) (e::es) [] pos) (tCB r t):=⟨pe_callTy hc hg hm hv ha.p hn hdb he hpl⟩
theorem qe_d{CX:CXT}{k:Nat}{ps:List Str}{sp:Sp}{E:XK}(d:DefOk X.prog X.w X.K X.mg X.base CX k x ps sp)(hr:Room k X.A)(hx:Passes CX X E)(hg:Gl X x)(ha:QA X (e::es) t)
  (hdb:(x == ("__debug__" : Str))=false:=by decide) (he:starEach (e::es) X.env=(false,eval e X.env)::starEach es X.env:=by rfl) (hpl:(backTo pos (starEach es X.env)).any (·.1)=false:=by rfl) :
  QE X (.Call (.Name x p) (e::es) [] pos) (tD sp E t):=⟨pe_d d hr hx hg ha.p hdb he hpl⟩
theorem qt_cmpR{op:CmpOp}{r:R2}(ho:OpR X (compareOp op) r)(ha:QE X a ta)(hb:QE X b tb)(hm:behindInMarks op b=false):QT X (.Compare a [op] [b] pos) (tTest (tOp r ta tb)):=⟨pt_cmpR ho ha.p hb.p hm⟩
theorem qt_not(ha:QT X a tA):QT X (.UnaryOp .Not a pos) (tNot tA):=⟨pt_not ha.p⟩
theorem qw_or(ha:QT X a tA)(hb:QW X (.BoolOp .Or (b::rest) pos) tB'):QW X (.BoolOp .Or (a::b::rest) pos) (tOr tA tB'):=⟨pw_or ha.p hb.p⟩
theorem qw_or1(ha:QT X a tA):QW X (.BoolOp .Or [a] pos) tA:=⟨pw_or1 ha.p⟩
theorem QW.pt(h:QW X e tA):QT X e tA:=⟨h.p.pt⟩
theorem qt_val(h:QE X e te)(he:∀ whole,isTrue e X.env whole=(do let v ← whole;standAt e.pos;holding [v] (truthy v)):=by intro _;rfl):QT X e (tB te):=⟨pt_val h.p he⟩
theorem qa_nil:QA X [] tNil:=⟨pa_nil⟩
theorem qa_cons(ha:QE X e te)(hr:QA X es t)(hs:starEach (e::es) X.env=(false,eval e X.env)::starEach es X.env:=by rfl):QA X (e::es) (tCons te t):=⟨pa_cons ha.p hr.p hs⟩
theorem qi_list{tg:Expr}(hl:QE X e te):QI X tg e (iList X.K te):=⟨pi_list hl.p⟩
theorem qi_range1{tg:Expr}(hg:Gl X "range")(hm:X.mg "range" = none)(ha:QA X [a] t)(hs:starEach [a] X.env=[(false,eval a X.env)]:=by rfl):QI X tg (.Call (.Name "range" p) [a] [] pos) (iRng1 t):=⟨pi_range1 hg hm ha.p hs⟩
theorem qg_name{i:Nat}(hN:X.N.Nodup)(hi:X.N[i]?=some x)(hx:Loc X.env.scope x)(hf:X.fn x=true∨X.env.scope.names.lookup x=some .local:=by first | exact .inl rfl | exact .inr rfl | assumption):QG X (.Name x pos) (gName i):=⟨pg_name hN hi hx hf⟩
theorem qg_tup{k:Nat}{tg:TGs}{n:Nat}(hc:X.calm=true)(h:QGs X es tg)(hn:(assignEach es X.env).length=n:=by rfl)(hst:(assignEach es X.env).findIdx? (·.1)=none:=by rfl):QG X (.Tuple es k pos) (gTup X.K n tg):=⟨pg_tup hc h.p hn hst⟩
theorem qg_sub{i:Expr}{ti:TE}{tset:TSet}(ho:QE X o ta)(hi:QE X i ti)(hs:PSet X tset)
  (ha:∀ v,assign (.Subscript o i pos) X.env v=(do
   let ov ← holding [v] (eval o X.env)
   let iv ← holding [v,ov] (eval i X.env)
   standAt pos
   holding [v,ov,iv] (setItem ov iv v)
   release [v,ov,iv] []):=by intro _;rfl):QG X (.Subscript o i pos) (gSub ta ti tset):=⟨pg_sub ho.p hi.p hs ha⟩
theorem qgs_nil:QGs X [] gNil:=⟨pgs_nil⟩
theorem qgs_cons{tg:TG}{tgs:TGs}(h1:QG X e tg)(h2:QGs X es tgs)(hs:(assignEach (e::es) X.env).map (·.2)=assign e X.env::(assignEach es X.env).map (·.2):=by rfl):QGs X (e::es) (gCons tg tgs):=⟨pgs_cons h1.p h2.p hs⟩
theorem qss_nil:QB X [] tNext:=⟨pss_nil⟩
theorem qss_cons(h1:QS X st ts)(h2:QB X sts us):QB X (st::sts) (tSeq ts us):=⟨pss_cons h1.p h2.p⟩
theorem qss_one(h1:QS X st ts):QB X [st] ts:=⟨pss_one h1.p⟩
theorem qs_set{i:Nat}{pos':Pos}(hN:X.N.Nodup)(hi:X.N[i]?=some x)(hx:Loc X.env.scope x)(he:QE X e te)(hs:swapsWith e (some (.Name x pos')) pos.line X.env=pure false:=by rfl)(hf:X.fn x=true∨X.env.scope.names.lookup x=some .local:=by first | exact .inl rfl | exact .inr rfl | assumption) :
  QS X (.Assign [.Name x pos'] e pos) (tAsg te (gName i)):=⟨ps_set hN hi hx he.p hs hf⟩
theorem qs_asg{tg:Expr}{g:TG}(he:QE X e te)(hg:QG X tg g)(hs:swapsWithSole [tg] e pos.line X.env=pure false:=by rfl)(hw:swappedStores [tg] e X.env=pure none:=by rfl)(h1:List.map (fun x=>x.snd) (assignEach [tg] X.env)=[assign tg X.env]:=by rfl):QS X (.Assign [tg] e pos) (tAsg te g):=⟨ps_asg he.p hg.p hs hw h1⟩
theorem qs_augS{i:Expr}{ti:TE}{tget:V→V→Hp→VK→Prop}{tip:TIp}{tset:TSet}{op:Operator}{tpos:Pos}(ho:QE X o ta)(hi:QE X i ti)(hg:PGet X tget)(he:QE X e te)(hp:PIp X op tip)(hs:PSet X tset)
  (ha:∀ ov iv new,augStore i ov iv new=(do holding [new,ov,iv] (setItem ov iv new);release [new,ov,iv] [];pure .next):=by intros;rfl):QS X (.AugAssign (.Subscript o i tpos) op e pos) (tAugS ta ti te tget tip tset):=⟨ps_augS ho.p hi.p hg he.p hp hs ha⟩
theorem qs_ret(he:QE X e te):QS X (.Return (some e) pos) (tRet te):=⟨ps_ret he.p⟩
theorem qs_if{ss:List Stmt}(hc:QT X c tA)(ha:QB X sts ts)(hb:QB X ss us):QS X (.If c sts ss pos) (tIfS tA ts us):=⟨ps_if hc.p ha.p hb.p⟩
theorem qs_for{tg iter:Expr}{wi:TI}{g:TG}(hp:PassesOwn (model X.prog X.w) X.A X.env X.xe)(hc:X.calm=true)(hi:QI X tg iter wi)(hg:QG X tg g)(hb:QB X sts ts)
  (hs:∀ x,foldedSetIterable iter X.env x=pure x:=by intro _;rfl):QS X (.For tg iter sts [] pos) (tFor wi g ts):=⟨ps_for hp hc hi.p hg.p hb.p hs⟩
theorem qs_expr(he:QE X e te)(hs:swapsWith e none pos.line X.env=pure false:=by rfl):QS X (.Expr e pos) (tDrop te):=⟨ps_expr he.p hs⟩
theorem qo_none:QO X none tNoPart:=⟨po_none⟩
theorem qo_some(h:QE X e te):QO X (some e) (tPart te):=⟨po_some h.p⟩
end
section
variable {X:Cx}{elt iter tg c:Expr}{ifs:List Expr}{scope:Scope}{pos spos py:Pos}{wi:TI}{g:TG}{tt:TT}{te:TE}
theorem qf_nil:QF X [] tYes:=⟨pf_nil⟩
theorem qf_one(h:QT X c tt):QF X [c] tt:=⟨pf_one h.p⟩
theorem qe_comp(own:List Str)(fr:List (Str×Nat))(hc:X.calm=true)(hi:QI X tg iter wi)
  (hgx:GExt g own.length) (hB:∀ cl C fp s2 H2,QG (X.comp (own++fr.map (·.1)) scope cl C fp s2 H2) tg g∧QF (X.comp (own++fr.map (·.1)) scope cl C fp s2 H2) ifs tt∧QE (X.comp (own++fr.map (·.1)) scope cl C fp s2 H2) elt te)
  (hkind:scope.kind=.function) (hcell:∀ y∈scope.names,y.2≠.cell) (hnames:∀ y∈scope.names,y.2=.local→scope.names.lookup y.1=some .local)
  (hfree:∀ y∈scope.names,y.2=.free→X.env.kindOf y.1=some .cell∨X.env.kindOf y.1=some .free)
  (hfr:∀ p∈fr,X.N[p.2]?=some p.1∧(X.env.kindOf p.1=some .cell∨X.env.kindOf p.1=some .free)∧(p.1,NameKind.free)∈scope.names∧((relabel scope X.env).names.lookup p.1=some .cell∨(relabel scope X.env).names.lookup p.1=some .free))
  (hs:∀ x,foldedSetIterable iter X.env x=pure x:=by intro _;rfl):QE X (.ListComp elt [⟨tg,iter,ifs,0⟩] scope pos) (tComp own.length (fr.map (·.2)) wi g tt te) :=
 ⟨pe_comp own fr hc hi.p hgx (fun cl C fp s2 H2=>⟨(hB cl C fp s2 H2).1.p,(hB cl C fp s2 H2).2.1.p,(hB cl C fp s2 H2).2.2.p⟩) hkind hcell hnames hfree hfr hs⟩
theorem qs_setC{k:Nat}{y:Str}(own:List Str)(fr:List (Str×Nat))(hNd:X.N.Nodup)(hk:X.N[k]?=some y)(hy:X.env.scope.names.lookup y=some .local)(hc:X.calm=true)(hi:QI X tg iter wi)
  (hgx:GExt g own.length) (hB:∀ cl C fp s2 H2,QG (X.comp (own++fr.map (·.1)) scope cl C fp s2 H2) tg g∧QF (X.comp (own++fr.map (·.1)) scope cl C fp s2 H2) ifs tt∧QE (X.comp (own++fr.map (·.1)) scope cl C fp s2 H2) elt te)
  (hkind:scope.kind=.function) (hcell:∀ y∈scope.names,y.2≠.cell) (hnames:∀ y∈scope.names,y.2=.local→scope.names.lookup y.1=some .local)
  (hfree:∀ y∈scope.names,y.2=.free→X.env.kindOf y.1=some .cell∨X.env.kindOf y.1=some .free)
  (hfr:∀ p∈fr,X.N[p.2]?=some p.1∧(X.env.kindOf p.1=some .cell∨X.env.kindOf p.1=some .free)∧(p.1,NameKind.free)∈scope.names∧((relabel scope X.env).names.lookup p.1=some .cell∨(relabel scope X.env).names.lookup p.1=some .free))
  (hsw:swapsWith (.ListComp elt [⟨tg,iter,ifs,0⟩] scope pos) (some (.Name y py)) spos.line X.env=pure true:=by rfl)
  (hs:∀ x,foldedSetIterable iter X.env x=pure x:=by intro _;rfl):QS X (.Assign [.Name y py] (.ListComp elt [⟨tg,iter,ifs,0⟩] scope pos) spos) (tAsg (tComp own.length (fr.map (·.2)) wi g tt te) (gName k)) :=
 ⟨ps_setC own fr hNd hk hy hc hi.p hgx (fun cl C fp s2 H2=>⟨(hB cl C fp s2 H2).1.p,(hB cl C fp s2 H2).2.1.p,(hB cl C fp s2 H2).2.2.p⟩) hkind hcell hnames hfree hfr hsw hs⟩
theorem tChain_ap{r r':R2}{ta tb tc:TE}{σ:St}{H:Hp}{Q:VK}:tChain r r' ta tb tc σ H Q=ta σ H fun x H1=>tb σ H1 fun y H2=>r x y H2 fun z H3=>∃ k,z=.bl k∧Brk k (tc σ H3 fun w' H4=>r' y w' H4 Q) (Q (.bl false) H3) .mk .mk:=propext Iff.rfl
end
theorem free_of{names:List (Str×NameKind)}{k:Str→Option NameKind}(h:names.all (fun y=>!decide (y.2=.free) || (decide (k y.1=some .cell) || decide (k y.1=some .free)))=true):∀ y∈names,y.2=.free→k y.1=some .cell∨k y.1=some .free:=fun y hy hf=>by
 have:=List.all_eq_true.mp h y hy
 simpa [hf] using this
theorem fr_of{N:List Str}{names rel:List (Str×NameKind)}{k:Str→Option NameKind}{fr:List (Str×Nat)}
  (h:fr.all (fun p=>decide (N[p.2]?=some p.1) && (decide (k p.1=some .cell) || decide (k p.1=some .free)) && decide ((p.1,NameKind.free)∈names) && (decide (rel.lookup p.1=some .cell) || decide (rel.lookup p.1=some .free)))=true) :
  ∀ p∈fr,N[p.2]?=some p.1∧(k p.1=some .cell∨k p.1=some .free)∧(p.1,NameKind.free)∈names∧(rel.lookup p.1=some .cell∨rel.lookup p.1=some .free):=fun p hp=>by
 have:=List.all_eq_true.mp h p hp
 simp only[Bool.and_eq_true,Bool.or_eq_true,decide_eq_true_eq] at this
 exact⟨this.1.1.1,this.1.1.2,this.1.2,this.2⟩
theorem DefAt.q{P:Program}{w:World}{K:PySem.W.Frag}{mg:Str→Option Value}{base:Heap}{x:Str}{st:Stmt}{f:Addr}{fd:FuncData}{N ps:List Str}{k:Nat}{sp:Sp}(D:DefAt K mg x st f fd)(S:FnScope N ps (defScope st))(len:∀ vs H Q E,sp vs H Q E→vs.length=ps.length)
  (hbody:∀(cdv:Value)(A:Around)(outer:List Env)(s:Shared)(H:Hp)(vs:List V)(Q:VK)(E:XK),Room k (A.deeper (envOfC x (defScope st) s.heap.objs.size f cdv))→sp vs H Q E →
   ∃ t,QB (cxOf CX0 P w K mg base N x (defScope st) f cdv A outer s H E).nox (defBody st) t∧t { nx:=fun _ H'=>Q .non H',rt:=Q } (start N vs) H):FnOk P w K mg base CX0 (k+1) f fd ps sp :=
 D.fn.ok S len fun cdv A outer s H vs Q E hr h=>by
  obtain⟨t,h1,h2⟩:=hbody cdv A outer s H vs Q E hr h
  exact⟨t,h1.p,h2⟩
end L2
namespace L2
open PySem PySem.Spec PyProof.Rows
inductive Dt where
 | non | bl (b:Bool) | int (i:Int) | str (x:Str) | tup (l:List Dt) | lst (l:List Dt)
mutual
def Den(H:Hp):Dt→V→Prop
 | .non,x=>x=.non
 | .bl b,x=>x=.bl b
 | .int i,x=>x=.int i
 | .str z,x=>x=.str z
 | .tup ds,x=>∃ a xs,x=.ref a∧H a=some (.tup xs)∧Dens H ds xs
 | .lst ds,x=>∃ a xs,x=.ref a∧H a=some (.lst xs)∧Dens H ds xs
def Dens(H:Hp):List Dt→List V→Prop
 | [],xs=>xs=[]
 | d::ds,xs=>∃ y ys,xs=y::ys∧Den H d y∧Dens H ds ys
end
theorem Dens.length{H:Hp}:∀{ds:List Dt}{xs:List V},Dens H ds xs→ds.length=xs.length
 | [],xs,h=>by
  unfold Dens at h
  rw[h]
  rfl
 | d::ds,xs,h=>by
  unfold Dens at h
  obtain⟨y,ys,rfl,_,h2⟩:=h
  rw[List.length_cons,List.length_cons,Dens.length h2]
theorem Dens.get{H:Hp}:∀{ds:List Dt}{xs:List V}{j:Nat}{d:Dt},Dens H ds xs→ds[j]?=some d→∃ y,xs[j]?=some y∧Den H d y
 | [],xs,j,d,h,e=>by simp at e
 | c::ds,xs,0,d,h,e=>by
  unfold Dens at h
  obtain⟨y,ys,rfl,h1,h2⟩:=h
  cases e
  exact⟨y,rfl,h1⟩
 | c::ds,xs,j+1,d,h,e=>by
  unfold Dens at h
  obtain⟨y,ys,rfl,h1,h2⟩:=h
  obtain⟨y',g,n⟩:=Dens.get (j:=j) h2 (by simpa using e)
  exact⟨y',by simpa using g,n⟩
mutual
theorem Den.same{H H':Hp}(s:∀ b o,H b=some o→H' b=some o):∀{d:Dt}{x:V},Den H d x→Den H' d x
 | .non,x,h=>by unfold Den at h ⊢;exact h
 | .bl b,x,h=>by unfold Den at h ⊢;exact h
 | .int i,x,h=>by unfold Den at h ⊢;exact h
 | .str z,x,h=>by unfold Den at h ⊢;exact h
 | .tup ds,x,h=>by
  unfold Den at h ⊢
  obtain⟨a,xs,e,h1,h2⟩:=h
  exact⟨a,xs,e,s _ _ h1,Dens.same s h2⟩
 | .lst ds,x,h=>by
  unfold Den at h ⊢
  obtain⟨a,xs,e,h1,h2⟩:=h
  exact⟨a,xs,e,s _ _ h1,Dens.same s h2⟩
theorem Dens.same{H H':Hp}(s:∀ b o,H b=some o→H' b=some o):∀{ds:List Dt}{xs:List V},Dens H ds xs→Dens H' ds xs
 | [],xs,h=>by unfold Dens at h ⊢;exact h
 | d::ds,xs,h=>by
  unfold Dens at h ⊢
  obtain⟨y,ys,e,h1,h2⟩:=h
  exact⟨y,ys,e,Den.same s h1,Dens.same s h2⟩
end
mutual
theorem Den.inj{H:Hp}:∀{d e:Dt}{x:V},Den H d x→Den H e x→d=e
 | d,e,x,h1,h2=>by
  cases d with
  | tup ds =>
   unfold Den at h1
   obtain⟨a,xs,rfl,g1,g2⟩:=h1
   cases e<;>unfold Den at h2
   case tup es =>
    obtain⟨b,ys,eb,k1,k2⟩:=h2
    cases eb
    rw[g1] at k1
    cases k1
    rw[Dens.inj g2 k2]
   case lst es =>
    obtain⟨b,ys,eb,k1,k2⟩:=h2
    cases eb
    rw[g1] at k1
    cases k1
   all_goals cases h2
  | lst ds =>
   unfold Den at h1
   obtain⟨a,xs,rfl,g1,g2⟩:=h1
   cases e<;>unfold Den at h2
   case lst es =>
    obtain⟨b,ys,eb,k1,k2⟩:=h2
    cases eb
    rw[g1] at k1
    cases k1
    rw[Dens.inj g2 k2]
   case tup es =>
    obtain⟨b,ys,eb,k1,k2⟩:=h2
    cases eb
    rw[g1] at k1
    cases k1
   all_goals cases h2
  | non=>unfold Den at h1;subst h1;cases e<;>unfold Den at h2<;>first | (obtain⟨_,_,z,_⟩:=h2;cases z;done) | (cases h2;rfl) | (cases h2;done) | rfl
  | bl b=>unfold Den at h1;subst h1;cases e<;>unfold Den at h2<;>first | (obtain⟨_,_,z,_⟩:=h2;cases z;done) | (cases h2;rfl) | (cases h2;done) | rfl
  | int b=>unfold Den at h1;subst h1;cases e<;>unfold Den at h2<;>first | (obtain⟨_,_,z,_⟩:=h2;cases z;done) | (cases h2;rfl) | (cases h2;done) | rfl
  | str b=>unfold Den at h1;subst h1;cases e<;>unfold Den at h2<;>first | (obtain⟨_,_,z,_⟩:=h2;cases z;done) | (cases h2;rfl) | (cases h2;done) | rfl
theorem Dens.inj{H:Hp}:∀{ds es:List Dt}{xs:List V},Dens H ds xs→Dens H es xs→ds=es
 | [],[],_,_,_=>rfl
 | [],e::es,xs,h1,h2=>by
  unfold Dens at h1 h2
  obtain⟨_,_,z,_⟩:=h2
  rw[h1] at z
  cases z
 | d::ds,[],xs,h1,h2=>by
  unfold Dens at h1 h2
  obtain⟨_,_,z,_⟩:=h1
  rw[h2] at z
  cases z
 | d::ds,e::es,xs,h1,h2=>by
  unfold Dens at h1 h2
  obtain⟨y,ys,rfl,a1,a2⟩:=h1
  obtain⟨y',ys',ez,b1,b2⟩:=h2
  cases ez
  rw[Den.inj a1 b1,Dens.inj a2 b2]
end
def Cmp:Nat→Dt→Dt→Prop
 | _,.int _,.int _=>True
 | _,.bl _,.bl _=>True
 | _,.str _,.str _=>True
 | _,.non,.non=>True
 | _,.non,.tup _=>True
 | _,.tup _,.non=>True
 | k+1,.tup ds,.tup es=>∀(j:Nat) d e,ds[j]?=some d→es[j]?=some e→Cmp k d e
 | k+1,.lst ds,.lst es=>ds.length=es.length→∀(j:Nat) d e,ds[j]?=some d→es[j]?=some e→Cmp k d e
 | _,_,_=>False
section
open Classical
theorem all_range{ds es:List Dt}(n:Nat)(hn:n=min ds.length es.length):((List.range n).all (fun j=>decide (ds[j]?=es[j]?)) && decide (ds.length=es.length))=decide (ds=es):=by
 rw[Bool.eq_iff_iff]
 simp only[Bool.and_eq_true,List.all_eq_true,List.mem_range,decide_eq_true_eq]
 constructor
 ·rintro ⟨h1,h2⟩
  refine List.ext_getElem? fun i=>?_
  by_cases hi:i < n
  ·exact h1 i hi
  ·rw[List.getElem?_eq_none_iff.mpr (by omega),List.getElem?_eq_none_iff.mpr (by omega)]
 ·rintro rfl
  exact⟨fun _ _=>rfl,rfl⟩
theorem all_range2{ds es:List Dt}(hl:ds.length=es.length):((List.range ds.length).all (fun j=>decide (ds[j]?=es[j]?)))=decide (ds=es):=by
 have h:=all_range (ds:=ds) (es:=es) ds.length (by omega)
 rw[decide_eq_true hl,Bool.and_true] at h
 exact h
theorem dec_tup(ds es:List Dt):decide (Dt.tup ds=Dt.tup es)=decide (ds=es):=by
 rw[decide_eq_decide]
 exact⟨fun h=>Dt.tup.inj h,fun h=>by rw[h]⟩
theorem dec_lst(ds es:List Dt):decide (Dt.lst ds=Dt.lst es)=decide (ds=es):=by
 rw[decide_eq_decide]
 exact⟨fun h=>Dt.lst.inj h,fun h=>by rw[h]⟩
variable {X:Cx}{pins:List (Addr×Obj)}{σ:St}{H:Hp}{s:Shared}
theorem rc_seq(I:Inv X pins σ H s){k:Nat}(ih:∀ d e x y u v (A:Around),Den H d x→Den H e y→Cmp k d e→A.units+k+2 < cLine→RelV x u→RelV y v→SeqAt.EqAt A s u v (decide (d=e)))
  {ds es:List Dt} {a b:Addr} {A:Around} (hu:A.units+(k+1)+2 < cLine) :
  (∀ xs ys,H a=some (.tup xs)→H b=some (.tup ys)→Dens H ds xs→Dens H es ys→(∀(j:Nat) d e,ds[j]?=some d→es[j]?=some e→Cmp k d e)→SeqAt.RcAt A s (.ref a) (.ref b) (decide (Dt.tup ds=Dt.tup es))∧SeqAt.RcNeAt A s (.ref a) (.ref b) (!decide (Dt.tup ds=Dt.tup es))) ∧
  (∀ xs ys,H a=some (.lst xs)→H b=some (.lst ys)→Dens H ds xs→Dens H es ys→(ds.length=es.length→∀(j:Nat) d e,ds[j]?=some d→es[j]?=some e→Cmp k d e)→SeqAt.RcAt A s (.ref a) (.ref b) (decide (Dt.lst ds=Dt.lst es))∧SeqAt.RcNeAt A s (.ref a) (.ref b) (!decide (Dt.lst ds=Dt.lst es))):=by
 have hu':A.units < cLine:=by omega
 have el:∀(xs ys:List V)(i1 i2:List Value),Dens H ds xs→Dens H es ys→Vals xs i1→Vals ys i2→(∀(j:Nat) d e,ds[j]?=some d→es[j]?=some e→Cmp k d e) →
   ∀ j (h1:j < i1.toArray.size) (h2:j < i2.toArray.size),SeqAt.EqAt A.in1 s i1.toArray[j] i2.toArray[j] (decide (ds[j]?=es[j]?)):=fun xs ys i1 i2 d1 d2 v1 v2 hc j h1 h2=>by
  have l1:=v1.length
  have l2:=v2.length
  have l3:=d1.length
  have l4:=d2.length
  have k1:j < i1.length:=by simpa using h1
  have k2:j < i2.length:=by simpa using h2
  have m1:j < ds.length:=by omega
  have m2:j < es.length:=by omega
  have e1:ds[j]?=some ds[j]:=List.getElem?_eq_getElem m1
  have e2:es[j]?=some es[j]:=List.getElem?_eq_getElem m2
  obtain⟨y1,g1,n1⟩:=d1.get e1
  obtain⟨y2,g2,n2⟩:=d2.get e2
  obtain⟨u1,w1,r1⟩:=v1.get g1
  obtain⟨u2,w2,r2⟩:=v2.get g2
  have z1:i1.toArray[j]=u1:=by
   rw[List.getElem?_eq_getElem k1] at w1
   simpa using w1
  have z2:i2.toArray[j]=u2:=by
   rw[List.getElem?_eq_getElem k2] at w2
   simpa using w2
  have key:=ih _ _ _ _ _ _ A.in1 n1 n2 (hc j _ _ e1 e2) (by show A.units+1+k+2 < cLine;omega) r1 r2
  have ed:decide (ds[j]?=es[j]?)=decide (ds[j]=es[j]):=by
   rw[decide_eq_decide,e1,e2]
   exact⟨fun h=>Option.some.inj h,fun h=>by rw[h]⟩
  rw[z1,z2,ed]
  exact key
 refine⟨fun xs ys ha hb d1 d2 hc=>?_,fun xs ys ha hb d1 d2 hc=>?_⟩
 ·obtain⟨i1,v1,t1,_⟩:=I.tuple (SqT.of ha)
  obtain⟨i2,v2,t2,_⟩:=I.tuple (SqT.of hb)
  have l1:=v1.length
  have l2:=v2.length
  have l3:=d1.length
  have l4:=d2.length
  have e:=el xs ys i1 i2 d1 d2 v1 v2 hc
  have s1:i1.toArray.size=ds.length:=by rw[List.size_toArray];omega
  have s2:i2.toArray.size=es.length:=by rw[List.size_toArray];omega
  have b1:((List.range (min i1.toArray.size i2.toArray.size)).all (fun j=>decide (ds[j]?=es[j]?)) && i1.toArray.size == i2.toArray.size)=decide (Dt.tup ds=Dt.tup es):=by
   rw[s1,s2,dec_tup,← all_range (ds:=ds) (es:=es) _ rfl]
   congr 1
   all_goals (rw[Bool.eq_iff_iff];simp)
  rw[← b1]
  exact⟨SeqAt.RcAt.tuples t1 t2 hu' e,SeqAt.RcNeAt.tuples t1 t2 hu' e⟩
 ·obtain⟨i1,v1,t1,_⟩:=I.list (SqL.of ha)
  obtain⟨i2,v2,t2,_⟩:=I.list (SqL.of hb)
  have l1:=v1.length
  have l2:=v2.length
  have l3:=d1.length
  have l4:=d2.length
  have s1:i1.toArray.size=ds.length:=by rw[List.size_toArray];omega
  have s2:i2.toArray.size=es.length:=by rw[List.size_toArray];omega
  by_cases hl:ds.length=es.length
  ·have e:=el xs ys i1 i2 d1 d2 v1 v2 (hc hl)
   have b1:(List.range i1.toArray.size).all (fun j=>decide (ds[j]?=es[j]?))=decide (Dt.lst ds=Dt.lst es):=by
    rw[s1,dec_lst,← all_range2 hl]
   rw[← b1]
   exact⟨SeqAt.RcAt.lists t1.isList t2.isList (by omega) hu' e,SeqAt.RcNeAt.lists t1.isList t2.isList (by omega) hu' e⟩
  ·have b1:decide (Dt.lst ds=Dt.lst es)=false:=decide_eq_false fun h=>hl (by rw[Dt.lst.inj h])
   have nz:(i1.toArray.size != i2.toArray.size)=true:=by
    rw[s1,s2]
    simpa using hl
   rw[b1]
   exact⟨SeqAt.RcAt.lists_lengths t1.isList t2.isList nz hu',SeqAt.RcNeAt.lists_lengths t1.isList t2.isList nz hu'⟩
theorem dec_int'(a b:Int):decide (Dt.int a=Dt.int b)=(a == b):=by
 rw[Bool.eq_iff_iff]
 simp
theorem dec_bl'(a b:Bool):decide (Dt.bl a=Dt.bl b)=(a == b):=by
 rw[Bool.eq_iff_iff]
 simp
theorem dec_str'(a b:Str):decide (Dt.str a=Dt.str b)=(a == b):=by
 rw[Bool.eq_iff_iff]
 simp
theorem eq_den(I:Inv X pins σ H s):∀(k:Nat)(d e:Dt)(x y:V)(u v:Value)(A:Around),Den H d x→Den H e y→Cmp k d e→A.units+k+2 < cLine→RelV x u→RelV y v→SeqAt.EqAt A s u v (decide (d=e)):=by
 intro k
 induction k with
 | zero =>
  intro d e x y u v A h1 h2 hc hu r1 r2
  cases d<;>cases e<;>first | exact hc.elim | skip
  ·unfold Den at h1 h2;subst h1;subst h2;cases r1;cases r2
   rw[decide_eq_true rfl];exact SeqAt.EqAt.same _
  ·unfold Den at h1 h2;subst h1;cases r1
   obtain⟨a,xs,rfl,ha,_⟩:=h2;cases r2
   obtain⟨i1,_,t1,_⟩:=I.tuple (SqT.of ha)
   rw[decide_eq_false (by intro z;cases z)];exact SeqAt.EqAt.none_tuple t1 (by omega)
  ·unfold Den at h1 h2;subst h1;subst h2;cases r1;cases r2
   rw[dec_bl'];exact SeqAt.EqAt.bool_bool _ _
  ·unfold Den at h1 h2;subst h1;subst h2;obtain⟨t1,rfl⟩:=r1;obtain⟨t2,rfl⟩:=r2
   rw[dec_int'];exact SeqAt.EqAt.int_int _ _ _ _
  ·unfold Den at h1 h2;subst h1;subst h2;obtain⟨t1,rfl⟩:=r1;obtain⟨t2,rfl⟩:=r2
   rw[dec_str'];exact SeqAt.EqAt.str_str _ _ _ _
  ·unfold Den at h1 h2;subst h2;cases r2
   obtain⟨a,xs,rfl,ha,_⟩:=h1;cases r1
   obtain⟨i1,_,t1,_⟩:=I.tuple (SqT.of ha)
   rw[decide_eq_false (by intro z;cases z)];exact SeqAt.EqAt.tuple_none t1 (by omega)
 | succ k ih =>
  intro d e x y u v A h1 h2 hc hu r1 r2
  cases d<;>cases e<;>first | exact hc.elim | skip
  ·unfold Den at h1 h2;subst h1;subst h2;cases r1;cases r2
   rw[decide_eq_true rfl];exact SeqAt.EqAt.same _
  ·unfold Den at h1 h2;subst h1;cases r1
   obtain⟨a,xs,rfl,ha,_⟩:=h2;cases r2
   obtain⟨i1,_,t1,_⟩:=I.tuple (SqT.of ha)
   rw[decide_eq_false (by intro z;cases z)];exact SeqAt.EqAt.none_tuple t1 (by omega)
  ·unfold Den at h1 h2;subst h1;subst h2;cases r1;cases r2
   rw[dec_bl'];exact SeqAt.EqAt.bool_bool _ _
  ·unfold Den at h1 h2;subst h1;subst h2;obtain⟨t1,rfl⟩:=r1;obtain⟨t2,rfl⟩:=r2
   rw[dec_int'];exact SeqAt.EqAt.int_int _ _ _ _
  ·unfold Den at h1 h2;subst h1;subst h2;obtain⟨t1,rfl⟩:=r1;obtain⟨t2,rfl⟩:=r2
   rw[dec_str'];exact SeqAt.EqAt.str_str _ _ _ _
  ·unfold Den at h1 h2;subst h2;cases r2
   obtain⟨a,xs,rfl,ha,_⟩:=h1;cases r1
   obtain⟨i1,_,t1,_⟩:=I.tuple (SqT.of ha)
   rw[decide_eq_false (by intro z;cases z)];exact SeqAt.EqAt.tuple_none t1 (by omega)
  ·have g1:=h1
   have g2:=h2
   unfold Den at h1 h2
   obtain⟨a,xs,rfl,ha,da⟩:=h1
   obtain⟨b,ys,rfl,hb,db⟩:=h2
   cases r1;cases r2
   by_cases hab:a=b
   ·subst hab
    rw[decide_eq_true (g1.inj g2)]
    exact SeqAt.EqAt.same _
   ·exact SeqAt.EqAt.of_refs hab ((rc_seq I ih hu).1 xs ys ha hb da db hc).1
  ·have g1:=h1
   have g2:=h2
   unfold Den at h1 h2
   obtain⟨a,xs,rfl,ha,da⟩:=h1
   obtain⟨b,ys,rfl,hb,db⟩:=h2
   cases r1;cases r2
   by_cases hab:a=b
   ·subst hab
    rw[decide_eq_true (g1.inj g2)]
    exact SeqAt.EqAt.same _
   ·exact SeqAt.EqAt.of_refs hab ((rc_seq I ih hu).2 xs ys ha hb da db hc).1
def rEqD:R2:=fun x y H Q=>∃ d e,Den H d x∧Den H e y∧Cmp 8 d e∧Q (.bl (decide (d=e))) H
def rNeD:R2:=fun x y H Q=>∃ d e,Den H d x∧Den H e y∧Cmp 8 d e∧Q (.bl (!decide (d=e))) H
theorem rcs(I:Inv X pins σ H s){d e:Dt}{x y:V}{u v:Value}{A:Around}(h1:Den H d x)(h2:Den H e y)(hc:Cmp 8 d e)(hu:A.units+64 < cLine)(r1:RelV x u)(r2:RelV y v) :
  SeqAt.RcAt A s u v (decide (d=e))∧SeqAt.RcNeAt A s u v (!decide (d=e)):=by
 cases d<;>cases e<;>first | exact hc.elim | skip
 ·unfold Den at h1 h2;subst h1;subst h2;cases r1;cases r2
  rw[decide_eq_true rfl];exact⟨SeqAt.RcAt.none_none,SeqAt.RcNeAt.none_none⟩
 ·unfold Den at h1 h2;subst h1;cases r1
  obtain⟨a,xs,rfl,ha,_⟩:=h2;cases r2
  obtain⟨i1,_,t1,_⟩:=I.tuple (SqT.of ha)
  rw[decide_eq_false (by intro z;cases z)];exact⟨SeqAt.RcAt.none_tuple t1 (by omega),SeqAt.RcNeAt.none_tuple t1 (by omega)⟩
 ·unfold Den at h1 h2;subst h1;subst h2;cases r1;cases r2
  rw[dec_bl'];exact⟨SeqAt.RcAt.bool_bool _ _,SeqAt.RcNeAt.bool_bool _ _⟩
 ·unfold Den at h1 h2;subst h1;subst h2;obtain⟨t1,rfl⟩:=r1;obtain⟨t2,rfl⟩:=r2
  rw[dec_int'];exact⟨SeqAt.RcAt.int_int _ _ _ _,SeqAt.RcNeAt.int_int _ _ _ _⟩
 ·unfold Den at h1 h2;subst h1;subst h2;obtain⟨t1,rfl⟩:=r1;obtain⟨t2,rfl⟩:=r2
  rw[dec_str'];exact⟨SeqAt.RcAt.str_str _ _ _ _,SeqAt.RcNeAt.str_str _ _ _ _⟩
 ·unfold Den at h1 h2;subst h2;cases r2
  obtain⟨a,xs,rfl,ha,_⟩:=h1;cases r1
  obtain⟨i1,_,t1,_⟩:=I.tuple (SqT.of ha)
  rw[decide_eq_false (by intro z;cases z)];exact⟨SeqAt.RcAt.tuple_none t1 (by omega),SeqAt.RcNeAt.tuple_none t1 (by omega)⟩
 ·unfold Den at h1 h2
  obtain⟨a,xs,rfl,ha,da⟩:=h1
  obtain⟨b,ys,rfl,hb,db⟩:=h2
  cases r1;cases r2
  exact (rc_seq I (eq_den I 7) (by omega)).1 xs ys ha hb da db hc
 ·unfold Den at h1 h2
  obtain⟨a,xs,rfl,ha,da⟩:=h1
  obtain⟨b,ys,rfl,hb,db⟩:=h2
  cases r1;cases r2
  exact (rc_seq I (eq_den I 7) (by omega)).2 xs ys ha hb da db hc
theorem op_eqD(hu:X.A.units+64 < cLine):OpR X (compareOp .Eq) rEqD:=by
 intro pins s σ H x y v u Q I rx ry h
 obtain⟨d,e,h1,h2,hc,q⟩:=h
 exact (rcs I h1 h2 hc hu rx ry).1 _ _ _ _ ⟨.bl _,H,I,rfl,q⟩
end
section
variable {X:Cx}
def rEqP:R2:=fun x y H Q=>∃ p q a b c d,x=.ref p∧y=.ref q∧H p=some (.tup [.int a,.int b])∧H q=some (.tup [.int c,.int d])∧Q (.bl (decide (a=c∧b=d))) H
def rNeP:R2:=fun x y H Q=>∃ p q a b c d,x=.ref p∧y=.ref q∧H p=some (.tup [.int a,.int b])∧H q=some (.tup [.int c,.int d])∧Q (.bl (!decide (a=c∧b=d))) H
end
end L2
namespace L2
open PySem PySem.Spec PyProof.Rows
section
variable {X:Cx}
abbrev Cx.comp1(X:Cx)(N':List Str)(scope:Scope)(x0:Str)(c0:Addr)(cl:List (Str×Addr))(C:Addr)(fp:List Addr)(s2:Shared)(H2:Hp):Cx :=
 { X with N:=N',s₀:=s2,H₀:=H2,env:=compEnvC scope ((x0,c0)::cl) C X.env,outer:=X.stack,ex:=fp,fn:=fun y=>y == x0,pn:=[],xe:=fun _ _=>False }
theorem cells1{x0:Str}{c0:Addr}{cl:List (Str×Addr)}{x:Str}{c:Addr}(h:((x0,c0)::cl).lookup x=some c):c=c0∨cl.lookup x=some c:=by
 rw[List.lookup_cons] at h
 cases e:(x == x0) with
 | true=>rw[e] at h;exact .inl (Option.some.inj h).symm
 | false=>rw[e] at h;exact .inr h
theorem cells1_at{x0:Str}{c0:Addr}{cl:List (Str×Addr)}:((x0,c0)::cl).lookup x0=some c0:=by rw[List.lookup_cons,beq_self_eq_true]
theorem cells1_ne{x0:Str}{c0:Addr}{cl:List (Str×Addr)}{x:Str}(h:x≠x0):((x0,c0)::cl).lookup x=cl.lookup x:=by
 rw[List.lookup_cons,beq_eq_false_iff_ne.mpr h]
theorem newEnv1{M:Model}{A:Around}{E:Value→Shared→Prop}{s:Shared}{scope:Scope}{globals:Addr}{cl:List (Str×Addr)}{qual:Str}{func:Option Addr}{code:Value}{outer:Env}{builtins:Addr}{Q:Env→Shared→Prop}{x0:Str}
  (hcf:∀ n cs,cellsFrom n scope.names cs=(x0,n)::cs) (hpc:∀ h:Heap,pushCells h scope.names=h.push { cls:=.type "cell", data:=.cell none })
  (hQ:Q (newEnv scope s.heap.objs.size globals ((x0,s.heap.objs.size+1)::cl) qual func code (some outer) builtins) { s with heap:=(s.heap.push { cls:=.type "dict", data:=.dict #[] }).push { cls:=.type "cell", data:=.cell none } }) :
  wpAny M A (newFunctionEnv scope globals cl [] qual func code (some outer) builtins) Q E s:=by
 simp only[newFunctionEnv,Option.isSome_some,if_true]
 refine wpAny_bind (wpAny_alloc ?_)
 refine wpAny_bind (wpAny_layCells _ (fun name kind cells=>by cases hkc:kind == NameKind.cell<;>simp[hkc]) _ _ _ _ ?_)
 rw[hcf,hpc]
 refine wpAny_bind ?_
 rw[List.forIn_nil]
 refine wpAny_pure (wpAny_pure ?_)
 simp only[Heap.size_push]
 exact hQ
theorem Inv.fpComp1{pins:List (Addr×Obj)}{σ:St}{H H':Hp}{s:Shared}{fp:List Addr}{N':List Str}{scope:Scope}{cl:List (Str×Addr)}{C c0:Addr}{x0:Str}(I:Inv X pins σ H s)(f:∀ b∈fp,FpOk X pins H b)
  (hb:∀ b∈fp,b < s.heap.objs.size) (hC:s.heap.objs.size≤C) (hc0:s.heap.objs.size≤c0) (hcl:∀ y c,cl.lookup y=some c→X.env.cells.lookup y=some c) (hn:∀ b∈fp,H' b=none) :
  ∀ b∈fp,FpOk (X.comp1 N' scope x0 c0 cl C fp s H) [] H' b:=fun b z=>by
 obtain⟨_,f1,f2,f3,f4,f5⟩:=f b z
 exact⟨hn b z,Nat.ne_of_lt (Nat.lt_of_lt_of_le (hb b z) hC),fun q=>(List.mem_cons.mp (I.stkSub b q)).elim f1 f2,.inl z,fun x c e=>(cells1 e).elim (fun q=>by rw[q];exact Nat.ne_of_gt (Nat.lt_of_lt_of_le (hb b z) hc0)) fun q=>f4 x c (hcl x c q),fun p hp=>absurd (show p∈([]:List (Addr×Obj))++[] from hp) (by simp)⟩
theorem Inv.comp1{pins:List (Addr×Obj)}{σ:St}{H:Hp}{s s4:Shared}{fp:List Addr}{own:List Str}{fr:List (Str×Nat)}{scope:Scope}{cl:List (Str×Addr)}{C D c0:Addr}{x0:Str}(I:Inv X pins σ H s)(f:∀ b∈fp,FpOk X pins H b)
  (hb:∀ b∈fp,b < s.heap.objs.size) (hkind:scope.kind=.function) (hcell:∀ y∈scope.names,y.2=.cell→y.1=x0) (hnx:∀ p∈fr,p.1≠x0)
  (hcl:∀ y c,cl.lookup y=some c→X.env.cells.lookup y=some c) (hcl2:∀ y∈scope.names,y.2=.free→∃ c,cl.lookup y.1=some c)
  (hfr:∀ p∈fr,X.N[p.2]?=some p.1∧(X.env.kindOf p.1=some .cell∨X.env.kindOf p.1=some .free)∧(p.1,NameKind.free)∈scope.names∧((relabel scope X.env).names.lookup p.1=some .cell∨(relabel scope X.env).names.lookup p.1=some .free))
  (hD:s.heap.objs.size≤D) (hC:s.heap.objs.size≤C) (hCD:C≠D) (hc0:s.heap.objs.size≤c0) (hcD:c0≠D) (hcv:s4.heap.IsCell c0 none) (hns:s4.heap.Ns C (fun _=>none)) (k:∀ b o,s.heap.get? b=some o→s4.heap.get? b=some o) (hl:s4.heap.get? D=some { cls:=.type "list", data:=.seq ([]:List Value).toArray })
  (os:s4.os=s.os) (bare:AllBare s4.gens):Inv (X.comp1 (own++fr.map (·.1)) scope x0 c0 cl C fp s H) [] (compSt own.length (fr.map (·.2)) σ) (upd H D (.lst [])) s4:=by
 have fresh:∀ b,s.heap.objs.size≤b→H b=none:=fun b h=>I.hok.fresh h
 have cellLt:∀ y c,X.env.cells.lookup y=some c→c < s.heap.objs.size:=fun y c e=>by
  obtain⟨v,q⟩:=I.cell y c e
  exact q.lt
 have relK:∀ y,((relabel scope X.env).names.lookup y=some .cell∨(relabel scope X.env).names.lookup y=some .free)→∃ z∈scope.names,z.1=y∧(z.2=.free∨z.2=.cell):=fun y h=>by
  have mem:∃ kk,(y,kk)∈(relabel scope X.env).names∧(kk=.cell∨kk=.free):=by
   rcases h with h | h
   ·exact⟨_,PySem.mem_of_lookup h,.inl rfl⟩
   ·exact⟨_,PySem.mem_of_lookup h,.inr rfl⟩
  obtain⟨kk,hm,hk⟩:=mem
  obtain⟨⟨n,k0⟩,hz,e⟩:=List.mem_map.mp hm
  refine⟨(n,k0),hz,?_,?_⟩
  ·dsimp only at e
   split at e<;>cases e<;>rfl
  ·dsimp only at e ⊢
   split at e
   ·rename_i hc
    simp only[Bool.and_eq_true,beq_iff_eq] at hc
    exact .inl hc.1.1
   ·cases e
    rcases hk with hk | hk
    ·exact .inr hk
    ·exact .inl hk
 have inj1:∀ x y c,((x0,c0)::cl).lookup x=some c→((x0,c0)::cl).lookup y=some c→x=y:=fun x y c e1 e2=>by
  by_cases qx:x=x0
  ·by_cases qy:y=x0
   ·rw[qx,qy]
   ·subst qx
    rw[cells1_at] at e1
    cases e1
    rw[cells1_ne qy] at e2
    exact absurd (cellLt y _ (hcl y _ e2)) (Nat.not_lt.mpr hc0)
  ·rw[cells1_ne qx] at e1
   by_cases qy:y=x0
   ·subst qy
    rw[cells1_at] at e2
    cases e2
    exact absurd (cellLt x _ (hcl x _ e1)) (Nat.not_lt.mpr hc0)
   ·rw[cells1_ne qy] at e2
    exact I.ok.inj x y c (hcl x c e1) (hcl y c e2)
 have ok:(X.comp1 (own++fr.map (·.1)) scope x0 c0 cl C fp s H).Ok :=
  {mod:=I.ok.mod
   kind:=hkind
   glob:=I.ok.glob
   blt:=I.ok.blt
   above:=hC
   inj:=fun x y c e1 e2=>inj1 x y c e1 e2
   has:=fun y hy=>by
    obtain⟨z,hz,rfl,hf⟩:=relK y hy
    by_cases q:z.1=x0
    ·rw[q];exact⟨c0,cells1_at⟩
    ·obtain⟨c,hc⟩:=hcl2 z hz (hf.elim id fun w=>absurd (hcell z hz w) q)
     exact⟨c,(cells1_ne q).trans hc⟩
   cab:=fun x c z e=>by
    have q:x=x0:=beq_iff_eq.mp (show (x == x0)=true from z)
    subst q
    have e':((x,c0)::cl).lookup x=some c:=e
    rw[cells1_at] at e'
    cases e'
    exact hc0
   hd:=I.ok.hd
   frames:=I.ok.frames
   stk:=.inl rfl
   exf:=fun b z=>⟨Nat.ne_of_lt (Nat.lt_of_lt_of_le (hb b z) hC),fun x c e=>(cells1 e).elim (fun q=>by rw[q];exact Nat.ne_of_gt (Nat.lt_of_lt_of_le (hb b z) hc0)) fun q=>(f b z).2.2.2.2.1 x c (hcl x c q)⟩
   bs:=fun b o e=>I.bs b o e
   bsz:=Nat.le_trans I.ok.bsz I.sz
   noex:=fun b o e z=>by
    obtain⟨_,_,_,h4,_⟩:=f b z
    rcases h4 with h4 | h4
    ·exact I.ok.noex b o e h4
    ·exact absurd (Heap.lt_size (I.ok.bs b o e).1) (Nat.not_lt.mpr h4)
   exfs:=fun b z q=>(List.mem_cons.mp (I.stkSub b q)).elim (f b z).2.1 (f b z).2.2.1
   funs:=I.stack
   frf:=I.stkFree }
 refine⟨ok,os,bare,Un.laid k hD (fresh D hD),⟨fun _=>none,hns,fun i x v h1 h2 h3=>?_⟩,fun x c e=>?_,?_,fun x c e=>?_,fun p hp=>absurd (show p∈([]:List (Addr×Obj))++[] from hp) (by simp),I.hok.laid k hD ⟨Nat.zero_le _,[],0,.nil,hl⟩,?_⟩
 ·-- a closed-over name
  have h2':(compSt own.length (fr.map (·.2)) σ)[i]?=some (some v):=h2
  have h1':(own++fr.map (·.1))[i]?=some x:=h1
  unfold compSt at h2'
  by_cases hi:i < own.length
  ·rw[List.getElem?_append_left (by simpa using hi),List.getElem?_replicate] at h2'
   split at h2'<;>cases h2'
  ·rw[List.getElem?_append_right (by simpa using hi),List.length_replicate,List.getElem?_map,List.getElem?_map] at h2'
   rw[List.getElem?_append_right (by omega),List.getElem?_map] at h1'
   cases e:fr[i - own.length]? with
   | none=>rw[e] at h1';cases h1'
   | some p =>
    rw[e] at h1' h2'
    have hx:p.1=x:=Option.some.inj h1'
    have hv:(σ[p.2]?).join=some v:=Option.some.inj h2'
    have hv':σ[p.2]?=some (some v):=by
     cases q:σ[p.2]? with
     | none=>rw[q] at hv;cases hv
     | some o=>rw[q] at hv;rw[show o=some v from hv]
    obtain⟨hN,hkx,hmem,hrel⟩:=hfr p (List.mem_of_getElem? e)
    obtain⟨m,hn,hl2⟩:=I.loc
    obtain⟨u,r,lk⟩:=hl2 p.2 p.1 v hN hv' (hkx.elim (fun z=>.inr (.inl z)) fun z=>.inr (.inr z))
    rcases lk with ⟨lk,_⟩ | ⟨_,c,hc,hcell'⟩
    ·rcases hkx with z | z
     ·rw[lk] at z;cases z
     ·rw[lk] at z;cases z
    ·subst hx
     obtain⟨c',hc'⟩:=hcl2 _ hmem rfl
     have:=hcl _ _ hc'
     rw[hc] at this
     cases this
     refine⟨u,r,.inr ⟨hrel,c,(cells1_ne (hnx p (List.mem_of_getElem? e))).trans hc',?_⟩⟩
     obtain⟨ob,e1,e2⟩:=hcell'
     exact⟨ob,k _ _ e1,e2⟩
 ·rcases cells1 e with q | q
  ·rw[q];exact⟨none,hcv⟩
  ·obtain⟨v,ob,e1,e2⟩:=I.cell x c (hcl x c q)
   exact⟨v,ob,k _ _ e1,e2⟩
 ·show upd H D (.lst []) C=none
  rw[upd_ne hCD]
  exact fresh C hC
 ·rcases cells1 e with q | q
  ·rw[q,upd_ne hcD];exact fresh c0 hc0
  ·rw[upd_ne (Nat.ne_of_lt (Nat.lt_of_lt_of_le (cellLt x c (hcl x c q)) hD))]
   exact I.freeC x c (hcl x c q)
 ·show (compSt own.length (fr.map (·.2)) σ).length=(own++fr.map (·.1)).length
  unfold compSt
  simp
theorem pe_comp1{elt iter tg:Expr}{ifs:List Expr}{scope:Scope}{pos:Pos}{wi:TI}{g:TG}{tt:TT}{te:TE}(x0:Str)(own:List Str)(fr:List (Str×Nat))(hc:X.calm=true)(hi:PI X tg iter wi)
  (hgx:GExt g own.length) (hB:∀ c0 cl C fp s2 H2,PG (X.comp1 (own++fr.map (·.1)) scope x0 c0 cl C fp s2 H2) tg g∧PFs (X.comp1 (own++fr.map (·.1)) scope x0 c0 cl C fp s2 H2) ifs tt∧PE (X.comp1 (own++fr.map (·.1)) scope x0 c0 cl C fp s2 H2) elt te)
  (hkind:scope.kind=.function) (hcell:∀ y∈scope.names,y.2=.cell→y.1=x0) (hnx:∀ p∈fr,p.1≠x0) (hcf:∀ n cs,cellsFrom n scope.names cs=(x0,n)::cs) (hpc:∀ h:Heap,pushCells h scope.names=h.push { cls:=.type "cell", data:=.cell none }) (hnames:∀ y∈scope.names,y.2=.local→scope.names.lookup y.1=some .local)
  (hfree:∀ y∈scope.names,y.2=.free→X.env.kindOf y.1=some .cell∨X.env.kindOf y.1=some .free)
  (hfr:∀ p∈fr,X.N[p.2]?=some p.1∧(X.env.kindOf p.1=some .cell∨X.env.kindOf p.1=some .free)∧(p.1,NameKind.free)∈scope.names∧((relabel scope X.env).names.lookup p.1=some .cell∨(relabel scope X.env).names.lookup p.1=some .free))
  (hs:∀ x,foldedSetIterable iter X.env x=pure x:=by intro _;rfl):PE X (.ListComp elt [⟨tg,iter,ifs,0⟩] scope pos) (tComp own.length (fr.map (·.2)) wi g tt te):=by
 intro pins s σ H Q I h
 obtain⟨cl,hclos,hcl,hcl2⟩:=closure_of (env:=X.env) (scope:=scope) fun y hy hf=>I.ok.has y.1 (hfree y hy hf)
 rw[eval_ListComp]
 refine wpAny_comprehension_free (use:=none) rfl hs hclos hkind hnames (thn (hi pins s σ H _ I h) fun v s1 h1=>thn h1 fun itv s2 h2=>?_)
 obtain⟨it,fp,tn,J,H2,e,I2,T,st2,f2,h3⟩:=h2
 subst e
 obtain⟨W,⟨m0,w0⟩,turn⟩:=h3 s2.heap.objs.size I2.fresh
 have hb:∀ b∈fp,b < s2.heap.objs.size:=fun b z=>by
  obtain⟨o,e,_⟩:=T.obj _ _ st2 b z
  exact Heap.lt_size e
 refine wpAny_newObj_type (newEnv1 hcf hpc ?_)
 dsimp only
 generalize hH2:s2.heap.push { cls:=.type "list", dict:=none,data:=.seq ([]:List Value).toArray }=G
 have hCs:G.objs.size=s2.heap.objs.size+1:=by rw[← hH2,Heap.size_push]
 have oldG:∀ b o,G.get? b=some o→((G.push { cls:=.type "dict", data:=.dict #[] }).push { cls:=.type "cell", data:=.cell none }).get? b=some o:=fun b o e=>Heap.get?_push_of_some _ (Heap.get?_push_of_some _ e)
 have old:∀ b o,s2.heap.get? b=some o→((G.push { cls:=.type "dict", data:=.dict #[] }).push { cls:=.type "cell", data:=.cell none }).get? b=some o:=fun b o e=>oldG b o (hH2▸Heap.get?_push_of_some _ e)
 have hD:((G.push { cls:=.type "dict", data:=.dict #[] }).push { cls:=.type "cell", data:=.cell none }).get? s2.heap.objs.size=some { cls:=.type "list", data:=.seq ([]:List Value).toArray }:=oldG _ _ (hH2▸Heap.get?_push_size _ rfl)
 have hns':((G.push { cls:=.type "dict", data:=.dict #[] }).push { cls:=.type "cell", data:=.cell none }).Ns G.objs.size (fun _=>none):=(Heap.Ns.new G (.type "dict")).keeps fun b o e=>Heap.get?_push_of_some _ e
 have hcv:((G.push { cls:=.type "dict", data:=.dict #[] }).push { cls:=.type "cell", data:=.cell none }).IsCell (G.objs.size+1) none:=by
  have q:=Heap.get?_push_size (G.push { cls:=.type "dict", data:=.dict #[] }) (o:={ cls:=.type "cell", data:=.cell none }) rfl
  rw[Heap.size_push] at q
  exact⟨_,q,rfl⟩
 generalize (G.push { cls:=.type "dict", data:=.dict #[] }).push { cls:=.type "cell", data:=.cell none }=h₁ at oldG old hD hns' hcv ⊢
 generalize hC:G.objs.size=C at hns' hCs hcv ⊢
 have hle:s2.heap.objs.size≤C:=by rw[hCs];exact Nat.le_succ _
 have hle0:s2.heap.objs.size≤C+1:=Nat.le_succ_of_le hle
 have hne:C≠s2.heap.objs.size:=Nat.ne_of_gt (by rw[hCs];exact Nat.lt_succ_self _)
 have hne0:C+1≠s2.heap.objs.size:=Nat.ne_of_gt (Nat.lt_succ_of_le hle)
 let Y:Cx:=X.comp1 (own++fr.map (·.1)) scope x0 (C+1) cl C fp s2 H2
 have stat:∀{H':Hp},(∀ b∈fp,H' b=none)→∀ b∈fp,FpOk Y [] H' b:=fun hn=>Inv.fpComp1 I2 f2 hb hle hle0 hcl hn
 obtain⟨gY,pY,eY⟩:=hB (C+1) cl C fp s2 H2
 have IY:Inv Y [] (compSt own.length (fr.map (·.2)) σ) (upd H2 s2.heap.objs.size (.lst [])) { s2 with heap:=h₁ } :=
  Inv.comp1 (D:=s2.heap.objs.size) I2 f2 hb hkind hcell hnx hcl hcl2 hfr (Nat.le_refl _) hle hne hle0 hne0 hcv hns' old hD rfl I2.bare
 have loop:codeAny (model X.prog X.w) X.A (.compLoop (.ListComp elt [⟨tg,iter,ifs,0⟩] scope pos) 0 (.ref it) (.ref s2.heap.objs.size) (compEnvC scope ((x0,C+1)::cl) C X.env)) (compPost (model X.prog X.w) X.A X.xe none (EP X pins σ Q) (.ref s2.heap.objs.size) C)
   { s2 with heap:=h₁ }:=by
  refine compLoop_any (E:=fun _ _=>False) (fun n s'=>∃ i acc H',Inv Y [] (compSt own.length (fr.map (·.2)) σ) H' s'∧tn i s'.heap∧(∀ b∈fp,H' b=none)∧W i n acc H') (fun _ _ z=>z) ?_ m0
   ⟨0,[],_,IY,T.keep _ _ _ st2 fun b _ o e=>old b o e,fun b z=>by rw[upd_ne (Nat.ne_of_lt (hb b z))];exact (f2 b z).1,w0⟩
  rintro n s3 ⟨i,acc,H3,I3,st3,fr3,w3⟩
  rcases turn i n acc H3 w3 with ⟨stop,q⟩ | ⟨go,Nn,hN,step⟩
  ·refine thn (T.done Y rfl rfl rfl hc i [] s3 _ H3 _ I3 (stat fr3) st3 stop) fun r s4 ⟨hr,I4⟩=>?_
   subst hr
   obtain⟨m4,hn4,_⟩:=I4.loc
   refine⟨m4,hn4,fun h' hs'=>?_⟩
   have kb:∀ b o,b≠C→s4.heap.get? b=some o→h'.get? b=some o:=fun b o hne e=>hs'.extBut b o hne e
   have hok':HOk X.prog X.w H3 h':=HOk.stays (show HOk X.prog X.w H3 s4.heap from I4.hok) fun b u hn e=>kb b u (fun z=>hn (by rw[z];exact I4.free)) e
   have bI:Un (frs X.stack) fp H2 H3 s2.heap s4.heap:=I4.base
   have lt:∀ b o,s2.heap.get? b=some o→b≠C:=fun b o e=>Nat.ne_of_lt (Nat.lt_of_lt_of_le (Heap.lt_size e) hle)
   have un:Un (frs X.stack) fp H2 H3 s2.heap h' :=
    {keep:=fun b o e n hb hx=>kb b o (lt b o e) (bI.keep b o e n hb hx)
     slot:=fun b o e n hb hx=>by
      obtain⟨sl,e1⟩:=bI.slot b o e n hb hx
      exact⟨sl,kb b _ (lt b o e) e1⟩
     free:=bI.free
     there:=fun b o e hx=>by
      obtain⟨o1,e1⟩:=bI.there b o e hx
      exact⟨o1,kb b _ (lt b o e) e1⟩
     tups:=bI.tups
     frzs:=bI.frzs
     tbls:=bI.tbls }
   exact⟨.ref s2.heap.objs.size,H3,I2.call' (s':={ s4 with heap:=h' }) (ch:=fp) I4.os un hok' I4.bare (fun b z=>⟨(f2 b z).2.2.2.1,(f2 b z).2.1,(f2 b z).2.2.2.2.1,(f2 b z).2.2.2.2.2⟩),rfl,q⟩
  ·refine thn (T.item Y rfl rfl rfl hc i [] s3 _ H3 _ I3 (stat fr3) st3 go) fun r s4 ⟨u,hr,h4⟩=>?_
   subst hr
   refine thn h4 fun _ s5 ⟨x,H5,I5,r5,y5,st5,fr5⟩=>?_
   have I5':=I5.pinned (stat fr5) (T.obj _ _ st5)
   refine thn (gY _ s5 _ H5 x u _ I5' r5 (hgx _ x H5 _ (step x H5 y5))) fun _ s6 ⟨σ6,H6,I6,ex6,q6⟩=>?_
   refine thn (pY _ s6 σ6 H6 _ I6 q6) fun ok s7 ⟨H7,I7,q7⟩=>?_
   have again:∀{acc':List V}{H8:Hp}{s8:Shared},Inv Y ([]++pinsAt fp s5.heap) σ6 H8 s8→Nn acc' H8→∃ m,m < n∧∃ i acc H',Inv Y [] (compSt own.length (fr.map (·.2)) σ) H' s8∧tn i s8.heap∧(∀ b∈fp,H' b=none)∧W i m acc H':=fun {acc' H8 s8} I8 n8=>by
    obtain⟨m',hm,w8⟩:=hN acc' H8 n8
    refine⟨m',hm,i+1,acc',H8,I8.unpinned.weak ex6.1 ex6.2,T.keep _ _ _ st5 fun b hb o e=>(I8.pin (b,o) (List.mem_append_right _ (List.mem_append_right _ (mem_pinsAt hb e)))).1,fun b hb=>?_,w8⟩
    obtain⟨o,e,d⟩:=T.obj _ _ st5 b hb
    exact (I8.pin (b,o) (List.mem_append_right _ (List.mem_append_right _ (mem_pinsAt hb e)))).2.1
   cases ok with
   | false=>exact again I7 (by simpa using q7)
   | true =>
    have q7':=(by simpa using q7:te σ6 H7 _)
    refine thn (eY _ s7 σ6 H7 _ I7 q7') fun xv s8 ⟨y,H8,I8,r8,hl8,hz8,n8⟩=>?_
    refine thn (mt_append (X:=Y) _ s8 σ6 H8 (.ref s2.heap.objs.size) [y] (.ref s2.heap.objs.size) [xv] (fun v H9=>v=.non∧H9=upd H8 s2.heap.objs.size (.lst (acc++[y]))) I8 rfl (.cons r8 .nil) ⟨_,acc,y,rfl,rfl,hl8,hz8,rfl,rfl⟩) fun _ s9 ⟨v9,H9,I9,_,_,e9⟩=>?_
    subst e9
    exact again I9 n8
 exact codeAny_compStart_list loop (T.self X.A 0 _ _ _ (T.keep _ _ _ st2 fun b _ o e=>old b o e) loop)
theorem qe_comp1{X:Cx}{elt iter tg:Expr}{ifs:List Expr}{scope:Scope}{pos:Pos}{wi:TI}{g:TG}{tt:TT}{te:TE}(x0:Str)(own:List Str)(fr:List (Str×Nat))(hc:X.calm=true)(hi:QI X tg iter wi)
  (hgx:GExt g own.length) (hB:∀ c0 cl C fp s2 H2,QG (X.comp1 (own++fr.map (·.1)) scope x0 c0 cl C fp s2 H2) tg g∧QF (X.comp1 (own++fr.map (·.1)) scope x0 c0 cl C fp s2 H2) ifs tt∧QE (X.comp1 (own++fr.map (·.1)) scope x0 c0 cl C fp s2 H2) elt te)
  (hkind:scope.kind=.function) (hcell:∀ y∈scope.names,y.2=.cell→y.1=x0) (hnx:∀ p∈fr,p.1≠x0) (hcf:∀ n cs,cellsFrom n scope.names cs=(x0,n)::cs) (hpc:∀ h:Heap,pushCells h scope.names=h.push { cls:=.type "cell", data:=.cell none }) (hnames:∀ y∈scope.names,y.2=.local→scope.names.lookup y.1=some .local)
  (hfree:∀ y∈scope.names,y.2=.free→X.env.kindOf y.1=some .cell∨X.env.kindOf y.1=some .free)
  (hfr:∀ p∈fr,X.N[p.2]?=some p.1∧(X.env.kindOf p.1=some .cell∨X.env.kindOf p.1=some .free)∧(p.1,NameKind.free)∈scope.names∧((relabel scope X.env).names.lookup p.1=some .cell∨(relabel scope X.env).names.lookup p.1=some .free))
  (hs:∀ x,foldedSetIterable iter X.env x=pure x:=by intro _;rfl):QE X (.ListComp elt [⟨tg,iter,ifs,0⟩] scope pos) (tComp own.length (fr.map (·.2)) wi g tt te) :=
 ⟨pe_comp1 x0 own fr hc hi.p hgx (fun c0 cl C fp s2 H2=>⟨(hB c0 cl C fp s2 H2).1.p,(hB c0 cl C fp s2 H2).2.1.p,(hB c0 cl C fp s2 H2).2.2.p⟩) hkind hcell hnx hcf hpc hnames hfree hfr hs⟩
end
theorem qi_listK{X:Cx}{K:PySem.W.Frag}{e tg:Expr}{te:TE}(hK:X.K=K)(hl:QE X e te):QI X tg e (iList K te):=hK▸qi_list hl
section
variable {H:Hp}{Q:VK}{v:V}{l:St}
end
end L2
namespace L2
open PySem PySem.Spec PyProof.Rows
section
variable {X:Cx}
theorem ints_of_vals:∀{ns:List Int}{vs:List Value},Vals (ns.map V.int) vs→IntsAre vs ns
 | [],vs,h=>by
  cases vs with
  | nil=>exact .nil
  | cons _ _=>cases h
 | n::ns,vs,h=>by
  cases vs with
  | nil=>cases h
  | cons v vs =>
   cases h with
   | cons r rr =>
    obtain⟨t,rfl⟩:=r
    exact .cons n t (ints_of_vals rr)
def rSumF:List V→Hp→VK→Prop:=fun xs H Q=>∃(p:Addr)(ns:List Int),xs=[.ref p]∧H p=some (.lst (ns.map V.int))∧Q (.int ns.sum) H
def rAllF:List V→Hp→VK→Prop:=fun xs H Q=>∃(p:Addr)(bs:List Bool),xs=[.ref p]∧H p=some (.lst (bs.map V.bl))∧Q (.bl (bs.all id)) H
def rAnyF:List V→Hp→VK→Prop:=fun xs H Q=>∃(p:Addr)(bs:List Bool),xs=[.ref p]∧H p=some (.lst (bs.map V.bl))∧Q (.bl (bs.any id)) H
theorem bools_of_vals{bs:List Bool}{vs:List Value}(h:Vals (bs.map V.bl) vs):vs=bs.map Value.bool:=by
 induction bs generalizing vs with
 | nil=>cases h;rfl
 | cons b bs ih =>
  cases vs with
  | nil=>cases h
  | cons v vs =>
   cases h with
   | cons r rr =>
    cases r
    rw[ih rr];rfl
theorem range_all(bs:List Bool):((List.range bs.length).all fun i=>bs.getD i false)=bs.all id:=by
 rw[Bool.eq_iff_iff,List.all_eq_true,List.all_eq_true]
 constructor
 ·intro h b hb
  obtain⟨i,hi,rfl⟩:=List.getElem_of_mem hb
  have:=h i (List.mem_range.mpr hi)
  simpa [List.getD_eq_getElem?_getD,hi] using this
 ·intro h i hi
  have hi':=List.mem_range.mp hi
  have:=h bs[i] (List.getElem_mem hi')
  simpa [List.getD_eq_getElem?_getD,hi'] using this
theorem iter_list_of{M:Program}{w:World}{A:Around}{E:Value→Shared→Prop}{s:Shared}{l:Addr}{items:Array Value}{Q:Value→Shared→Prop}(hl:s.heap.IsList l items)
  (h:∀ s₂:Shared,s₂={ s with heap:=s.heap.push { cls:=.type "list_iterator", data:=.fields #[.ref l,.int 0 0] } } →
   (s₂.heap.IsListIter s.heap.objs.size l 0∧s₂.heap.IsList l items)→l≠s.heap.objs.size→Q (.ref s.heap.objs.size) s₂) :
  wpAny (model M w) A (pyIter (.ref l)) Q E s:=by
 have hlt:l < s.heap.objs.size:=by obtain⟨_,e,_⟩:=hl;exact Heap.lt_size e
 exact wpAny_pyIter_list hl (h _ rfl ⟨⟨_,Heap.get?_push_size _ rfl,rfl,rfl⟩,hl.push _⟩ (Nat.ne_of_lt hlt))
theorem truth_bools{P:Program}{w:World}{A:Around}{bs:List Bool}:TruthOf P w A (fun i v=>(List.toArray (bs.map Value.bool))[i]?=some v) (fun i=>bs.getD i false):=by
 intro i v s Q E hv hq
 have hv':(bs.map Value.bool)[i]?=some v:=by simpa using hv
 rw[List.getElem?_map] at hv'
 cases e:bs[i]? with
 | none=>rw[e] at hv';cases hv'
 | some b =>
  rw[e] at hv'
  cases hv'
  have:bs.getD i false=b:=by simp[List.getD_eq_getElem?_getD,e]
  have hq':Q (bs.getD i false) s:=hq
  rw[this] at hq'
  exact wpAny_truthy_bool hq'
theorem call_allF(hc:X.calm=true):CallR X (.builtin "all") rAllF:=by
 intro pins s σ H xs us Q I r h
 obtain⟨p,bs,rfl,hp,q⟩:=h
 obtain⟨u,rfl,rx⟩:=vals1 r
 cases rx
 obtain⟨its,r',pl,hz⟩:=I.list (SqL.of hp)
 rw[bools_of_vals r'] at pl
 refine call_all_walk (iter_list_of pl.isList fun s₂ e st hne=>?_)
 subst e
 refine⟨_,_,_,_,_,_,_,rfl,Walks.list (A:=X.A.in1) (I.ok.hd hc) _ p hne _,st,truth_bools,fun h' tk hk=>⟨.bl (bs.all id),H,I.kept (old_kept hk),?_,q⟩⟩
 show Value.bool _=Value.bool _
 rw[List.size_toArray,List.length_map,range_all]
end
section
variable {X:Cx}{a b:Expr}{t:TA}{p pos tp:Pos}{elts:List Expr}{k:Nat}
end
theorem rSumF_ap{xs:List V}{H:Hp}{Q:VK}:rSumF xs H Q=∃(p:Addr)(ns:List Int),xs=[.ref p]∧H p=some (.lst (ns.map V.int))∧Q (.int ns.sum) H:=propext Iff.rfl
theorem rAllF_ap{xs:List V}{H:Hp}{Q:VK}:rAllF xs H Q=∃(p:Addr)(bs:List Bool),xs=[.ref p]∧H p=some (.lst (bs.map V.bl))∧Q (.bl (bs.all id)) H:=propext Iff.rfl
theorem rAnyF_ap{xs:List V}{H:Hp}{Q:VK}:rAnyF xs H Q=∃(p:Addr)(bs:List Bool),xs=[.ref p]∧H p=some (.lst (bs.map V.bl))∧Q (.bl (bs.any id)) H:=propext Iff.rfl
end L2
namespace L2
open PySem PySem.Spec PyProof.Rows
section
variable {X:Cx}
end
theorem tBM_ap{K:PySem.W.Frag}{T:String}{r:V→List V→Hp→VK→Prop}{to:TE}{t:TA}{σ:St}{H:Hp}{Q:VK}:tBM K T r to t σ H Q=to σ H fun x H1=>tyV K T x H1∧t σ H1 fun vs H2=>r x vs H2 Q:=propext Iff.rfl
theorem rAppend_ap{x:V}{vs:List V}{H:Hp}{Q:VK}:rAppend x vs H Q=∃ l xs y,x=.ref l∧vs=[y]∧H l=some (.lst xs)∧xs.length < sizeLine∧Q .non (upd H l (.lst (xs++[y]))):=propext Iff.rfl
theorem sizeLine_8:(8≤sizeLine)=True:=eq_true (by decide)
theorem sizeLine_10:(10≤sizeLine)=True:=eq_true (by decide)
end L2
namespace L2
open PySem PySem.Spec PyProof.Rows
section
variable {X:Cx}{o e:Expr}{es:List Expr}{to:TE}{t:TA}{name:Str}{apos cpos:Pos}{T id:String}{r:V→List V→Hp→VK→Prop}
theorem qe_bm(pa:PlainAttrs T)(slot:Slot T name id)(hty:typeOf (.builtin id)=pure (.type "method_descriptor"))(hm:MtR X id r)(ho:QE X o to)(ha:QA X (e::es) t)
  (hbase:attributeBase o name X.env (eval o X.env)=eval o X.env:=by rfl)
  (hfew:((backTo cpos (starEach (e::es) X.env)).all (fun x=>!x.1) && (backToKw cpos (keywordEach [] X.env)).all (fun x=>x.1.isSome)
   && decide ((e::es).length+([]:List Keyword).length+(if ([]:List Keyword).isEmpty then 0 else 1) < 30))=true:=by rfl)
  (hline:(apos.endLine == cpos.line)=true:=by rfl) (hs:starEach (e::es) X.env=(false,eval e X.env)::starEach es X.env:=by rfl) (hplain:(backTo cpos (starEach es X.env)).any (·.1)=false:=by rfl) :
  QE X (.Call (.Attribute o name apos) (e::es) [] cpos) (tBM X.K T r to t):=⟨pe_bm pa slot hty hm ho.p ha.p hbase hfew hline hs hplain⟩
end
end L2
namespace L2
theorem compSt_ap{n:Nat}{js:List Nat}{σ:St}:compSt n js σ=List.replicate n none++js.map fun j=>(σ[j]?).join:=by unfold compSt;exact rfl
theorem join_somz{α:Type}{x:Option α}:(some x).join=x:=rfl
end L2
namespace L2
open PySem
end L2
namespace L2
open PySem
theorem qg_tupK{X:Cx}{K:PySem.W.Frag}{es:List Expr}{pos:Pos}{k:Nat}{tg:TGs}{n:Nat}(hK:X.K=K)(hc:X.calm=true)(h:QGs X es tg)(hn:(assignEach es X.env).length=n:=by rfl)(hst:(assignEach es X.env).findIdx? (·.1)=none:=by rfl):QG X (.Tuple es k pos) (gTup K n tg):=hK▸qg_tup hc h hn hst
end L2
namespace L2
theorem sizeLine_0:(0≤PySem.sizeLine)=True:=eq_true (Nat.zero_le _)
end L2
namespace L2
end L2
set_option maxHeartbeats 4000000
namespace Srt
open PySem PyProof.Rows
abbrev PS:=Array Nat×Array (Nat×Nat×Nat)×Nat
abbrev TW(β:Type):=PS→Option (β×PS)
abbrev enc(k:Nat→Keyed)(t:PS):SortSt:=SortSt.mk' oneType' (t.1.map k) t.2.1 t.2.2 none
structure Asked(P:Program)(w:World)(A:Around)(s:Shared)(k:Nat→Keyed)(c:Nat→Nat→Bool)(N:Nat):Prop where
 lt:∀ i j,i < N→j < N→∀(E:Value→Shared→Prop)(Q:Bool→Shared→Prop),Q (c i j) s→wpAny (model P w) A (oneLt' true (k i).1 (k j).1) Q E s
structure Sim(c:Nat→Nat→Bool)(N:Nat){α β:Type}(φ:(Nat→Keyed)→β→α)(m:(Nat→Keyed)→StateT SortSt Sem α)(n:TW β):Prop where
 run:∀(P:Program)(w:World)(A:Around)(E:Value→Shared→Prop)(s:Shared)(k:Nat→Keyed),Asked P w A s k c N→∀ t b t',n t=some (b,t')→wpS (model P w) A E s (m k) (fun a st=>a=φ k b∧st=enc k t') (enc k t)
section
variable {c:Nat→Nat→Bool}{N:Nat}{α β γ δ:Type}
def tpure(b:β):TW β:=fun t=>some (b,t)
def tbind(n:TW β)(g:β→TW δ):TW δ:=fun t=>match n t with
 | none=>none
 | some (b,t')=>g b t'
def tfor(f:Nat→β→TW (ForInStep β)):List Nat→β→TW β
 | [],b=>tpure b
 | x::l,b=>fun t=>match f x b t with
  | none=>none
  | some (.done b',t')=>some (b',t')
  | some (.yield b',t')=>tfor f l b' t'
def tite(p:Prop)[Decidable p](x y:TW β):TW β:=fun t=>if p then x t else y t
def tget:TW PS:=fun t=>some (t,t)
def tmod(f:PS→PS):TW Unit:=fun t=>some ((),f t)
def tlt(c:Nat→Nat→Bool)(N i j:Nat):TW Bool:=fun t=>if i < N∧j < N then some (c i j,t) else none
def tel(p:Array Nat)(i:Nat):TW Nat:=fun t=>match p[i]? with
 | none=>none
 | some j=>some (j,t)
abbrev ident:(Nat→Keyed)→β→β:=fun _ b=>b
theorem sim_pure(b:β):Sim c N ident (fun _=>pure b) (tpure b):=by
 refine⟨?_⟩
 intro P w A E s k h t b' t' e
 cases e
 exact wpS_pure ⟨rfl,rfl⟩
theorem sim_pureV{φ:(Nat→Keyed)→β→α}{v:(Nat→Keyed)→α}(b:β)(hv:∀ k,v k=φ k b):Sim c N φ (fun k=>pure (v k)) (tpure b):=by
 refine⟨?_⟩
 intro P w A E s k h t b' t' e
 cases e
 exact wpS_pure ⟨hv k,rfl⟩
theorem sim_bind{φ:(Nat→Keyed)→β→α}{ψ:(Nat→Keyed)→δ→γ}{m:(Nat→Keyed)→StateT SortSt Sem α}{f:(Nat→Keyed)→α→StateT SortSt Sem γ}{n:TW β}{g:β→TW δ}
  (h1:Sim c N φ m n) (h2:∀ b,Sim c N ψ (fun k=>f k (φ k b)) (g b)):Sim c N ψ (fun k=>m k >>= f k) (tbind n g):=by
 refine⟨?_⟩
 intro P w A E s k h t b t' e
 unfold tbind at e
 cases e1:n t with
 | none=>rw[e1] at e;cases e
 | some r =>
  obtain⟨b1,t1⟩:=r
  rw[e1] at e
  refine wpS_bind (wpS_mono (h1.run P w A E s k h t b1 t1 e1) fun a st ⟨ea,es⟩=>?_)
  rw[ea,es]
  exact (h2 b1).run P w A E s k h t1 b t' e
theorem sim_ite{φ:(Nat→Keyed)→β→α}{p:Prop}{d:(Nat→Keyed)→Decidable p}[Decidable p]{m1 m2:(Nat→Keyed)→StateT SortSt Sem α}{n1 n2:TW β}(h1:Sim c N φ m1 n1)(h2:Sim c N φ m2 n2):Sim c N φ (fun k=>@ite _ p (d k) (m1 k) (m2 k)) (tite p n1 n2):=by
 refine⟨?_⟩
 intro P w A E s k h t b t' e
 unfold tite at e
 by_cases hp:p
 ·rw[if_pos hp] at e
  simp only[if_pos hp]
  exact h1.run P w A E s k h t b t' e
 ·rw[if_neg hp] at e
  simp only[if_neg hp]
  exact h2.run P w A E s k h t b t' e
theorem sim_mod{f:SortSt→SortSt}(f':PS→PS)(hf:∀ k t,f (enc k t)=enc k (f' t)):Sim c N ident (fun _=>modify f) (tmod f'):=by
 refine⟨?_⟩
 intro P w A E s k h t b' t' e
 cases e
 exact wpS_modify ⟨rfl,hf k t⟩
theorem sim_rule{x:String}:Sim c N ident (fun _=>(liftM (rule x):StateT SortSt Sem Unit)) (tpure ()):=by
 refine⟨?_⟩
 intro P w A E s k h t b' t' e
 cases e
 exact wpS_lift (wpAny_rule ⟨rfl,rfl,rfl⟩)
theorem sim_lt{i j:Nat}:Sim c N (fun _ b=>some b) (fun k=>lt' (k i) (k j)) (tlt c N i j):=by
 refine⟨?_⟩
 intro P w A E s k h t b' t' e
 unfold tlt at e
 split at e
 case isFalse=>cases e
 rename_i hij
 cases e
 try dsimp only
 rw[lt'_eq]
 refine wpS_bind (wpS_get ?_)
 show wpS _ _ _ _ (do let r ← (keyLt' oneType' (k i).1 (k j).1).attempt;_) _ _
 rw[keyLt'_oneType]
 refine wpS_bind (wpS_lift (wpAny_attempt (h.lt i j hij.1 hij.2 _ _ ⟨rfl,?_⟩)))
 exact wpS_pure ⟨rfl,rfl⟩
theorem sim_el{p:Array Nat}{i:Nat}:Sim c N (fun k j=>k j) (fun k=>elem' (p.map k) i) (tel p i):=by
 refine⟨?_⟩
 intro P w A E s k h t b' t' e
 unfold tel at e
 try dsimp only
 rw[elem'_eq]
 cases e1:p[i]? with
 | none=>rw[e1] at e;cases e
 | some j =>
  rw[e1] at e
  cases e
  rw[Array.getElem?_map,e1]
  exact wpS_pure ⟨rfl,rfl⟩
def stepM(φ:(Nat→Keyed)→β→α)(k:Nat→Keyed):ForInStep β→ForInStep α
 | .done b=>.done (φ k b)
 | .yield b=>.yield (φ k b)
theorem sim_forL{φ:(Nat→Keyed)→β→α}{F:(Nat→Keyed)→Nat→α→StateT SortSt Sem (ForInStep α)}{f:Nat→β→TW (ForInStep β)}(h:∀ x b,Sim c N (stepM φ) (fun k=>F k x (φ k b)) (f x b)) :
  ∀(l:List Nat)(b:β),Sim c N φ (fun k=>forIn l (φ k b) (F k)) (tfor f l b)
 | [],b=>by
  refine⟨?_⟩
  intro P w A E s k ha t b' t' e
  cases e
  simp only[List.forIn_nil]
  exact wpS_pure ⟨rfl,rfl⟩
 | x::l,b=>by
  refine⟨?_⟩
  intro P w A E s k ha t b' t' e
  simp only[List.forIn_cons]
  unfold tfor at e
  cases e1:f x b t with
  | none=>rw[e1] at e;cases e
  | some r =>
   obtain⟨r,t1⟩:=r
   rw[e1] at e
   refine wpS_bind (wpS_mono ((h x b).run P w A E s k ha t r t1 e1) fun a st ⟨ea,es⟩=>?_)
   rw[ea,es]
   cases r with
   | done b1 =>
    cases e
    exact wpS_pure ⟨rfl,rfl⟩
   | yield b1=>exact (sim_forL h l b1).run P w A E s k ha t1 b' t' e
theorem sim_for{φ:(Nat→Keyed)→β→α}{F:(Nat→Keyed)→Nat→α→StateT SortSt Sem (ForInStep α)}{f:Nat→β→TW (ForInStep β)}{a b:Nat}{v:(Nat→Keyed)→α}(b0:β)(hv:∀ k,v k=φ k b0)(h:∀ x b,Sim c N (stepM φ) (fun k=>F k x (φ k b)) (f x b)) :
  Sim c N φ (fun k=>forIn [a:b] (v k) (F k)) (tfor f (List.range' a (b - a)) b0):=by
 refine⟨?_⟩
 intro P w A E s k ha t b' t' e
 have:=(sim_forL h _ b0).run P w A E s k ha t b' t' e
 try dsimp only
 rw[hv k,Std.Legacy.Range.forIn_eq_forIn_range']
 have hsz:([a:b]:Std.Legacy.Range).size=b - a:=by simp[Std.Legacy.Range.size]
 show wpS _ _ _ _ (forIn (List.range' a ([a:b]:Std.Legacy.Range).size 1) _ _) _ _
 rw[hsz]
 exact this
theorem sim_forI{F:(Nat→Keyed)→Nat→β→StateT SortSt Sem (ForInStep β)}{f:Nat→β→TW (ForInStep β)}{a b:Nat}{b0:β}(h:∀ x b,Sim c N (stepM ident) (fun k=>F k x b) (f x b)) :
  Sim c N ident (fun k=>forIn [a:b] b0 (F k)) (tfor f (List.range' a (b - a)) b0):=sim_for b0 (fun _=>rfl) h
theorem sim_done(b:β):Sim c N (stepM ident) (fun _=>pure (ForInStep.done b)) (tpure (.done b)):=sim_pureV _ fun _=>rfl
theorem sim_yield(b:β):Sim c N (stepM ident) (fun _=>pure (ForInStep.yield b)) (tpure (.yield b)):=sim_pureV _ fun _=>rfl
def tcase{ρ τ:Type}(g1:ρ→τ→TW δ)(g2:τ→TW δ):Option ρ×τ→TW δ
 | (some r,y)=>g1 r y
 | (none,y)=>g2 y
theorem sim_case{ρ τ:Type}{ψ:(Nat→Keyed)→δ→γ}{f:(Nat→Keyed)→Option ρ×τ→StateT SortSt Sem γ}{g1:ρ→τ→TW δ}{g2:τ→TW δ}(h1:∀ r y,Sim c N ψ (fun k=>f k (some r,y)) (g1 r y))(h2:∀ y,Sim c N ψ (fun k=>f k (none,y)) (g2 y)) :
  ∀ b,Sim c N ψ (fun k=>f k b) (tcase g1 g2 b)
 | (some r,y)=>h1 r y
 | (none,y)=>h2 y
theorem sim_ltAt{i j:Nat}:Sim c N (fun _ b=>some b) (fun _=>ltAt' i j) (fun t=>tbind (tel t.1 i) (fun x=>tbind (tel t.1 j) (tlt c N x)) t):=by
 refine⟨?_⟩
 intro P w A E s k h t b' t' e
 try dsimp only
 rw[ltAt'_eq]
 refine wpS_bind (wpS_get ?_)
 have g:Sim c N (fun _ b=>some b) (fun k=>do let x ← elem' (t.1.map k) i;let y ← elem' (t.1.map k) j;lt' x y) (tbind (tel t.1 i) (fun x=>tbind (tel t.1 j) (tlt c N x))):=sim_bind sim_el fun x=>sim_bind sim_el fun y=>sim_lt
 exact g.run P w A E s k h t b' t' e
theorem swap_map(k:Nat→Keyed)(xs:Array Nat)(i j:Nat):(xs.map k).swapIfInBounds i j=(xs.swapIfInBounds i j).map k:=by
 by_cases hi:i < xs.size
 ·by_cases hj:j < xs.size
  ·apply Array.ext_getElem?
   intro q
   rw[getElem?_swapIB (by rw[Array.size_map];exact hi) (by rw[Array.size_map];exact hj)]
   simp only[Array.getElem?_map]
   rw[getElem?_swapIB hi hj]
   by_cases h1:j=q<;>by_cases h2:i=q<;>simp[h1,h2]
  ·simp[Array.swapIfInBounds_def,hi,hj]
 ·simp[Array.swapIfInBounds_def,hi]
theorem mirror_map(k:Nat→Keyed)(xs:Array Nat)(i j d:Nat):mirror (xs.map k) i j d=(mirror xs i j d).map k:=by
 have go:∀(l:List Nat)(xs:Array Nat),l.foldl (fun a q=>a.swapIfInBounds (i+q) (j - 1 - q)) (xs.map k)=(l.foldl (fun a q=>a.swapIfInBounds (i+q) (j - 1 - q)) xs).map k:=by
  intro l
  induction l with
  | nil=>intro xs;rfl
  | cons x l ih=>intro xs;simp only[List.foldl_cons];rw[swap_map,ih]
 exact go _ _
theorem bubble_map(k:Nat→Keyed)(xs:Array Nat)(src d:Nat):bubble (xs.map k) src d=(bubble xs src d).map k:=by
 have go:∀(l:List Nat)(xs:Array Nat),l.foldl (fun a q=>a.swapIfInBounds (src - q) (src - q - 1)) (xs.map k)=(l.foldl (fun a q=>a.swapIfInBounds (src - q) (src - q - 1)) xs).map k:=by
  intro l
  induction l with
  | nil=>intro xs;rfl
  | cons x l ih=>intro xs;simp only[List.foldl_cons];rw[swap_map,ih]
 exact go _ _
end
end Srt
set_option maxHeartbeats 4000000
namespace Srt
open PySem PyProof.Rows
variable {c:Nat→Nat→Bool}{N:Nat}
theorem sim_moveDown{src dst:Nat}:Sim c N ident (fun _=>moveDown' src dst) (tmod fun t=>(bubble t.1 src (src - dst),t.2)):=by
 simp only[moveDown'_eq]
 exact sim_mod _ fun k t=>by
  show SortSt.mk' oneType' (bubble (t.1.map k) src (src - dst)) t.2.1 t.2.2 none=_
  rw[bubble_map]
theorem sim_reverse{i j:Nat}:Sim c N ident (fun _=>reverseSlice' i j) (tmod fun t=>(mirror t.1 i j ((j - i) / 2),t.2)):=by
 simp only[reverseSlice'_eq]
 exact sim_mod _ fun k t=>by
  show SortSt.mk' oneType' (mirror (t.1.map k) i j ((j - i) / 2)) t.2.1 t.2.2 none=_
  rw[mirror_map]
def mkS{α β:Type}{φ:(Nat→Keyed)→β→α}{m:(Nat→Keyed)→StateT SortSt Sem α}{n:TW β}(h:Sim c N φ m n):{ n:TW β // Sim c N φ m n }:=⟨n,h⟩
def binS(c:Nat→Nat→Bool)(N lo n ok:Nat):{ m:TW Bool // Sim c N ident (fun _=>binarySort' lo n ok) m }:=by
 apply mkS
 ·simp only[binarySort'_eq]
  repeat' (first
   | with_reducible exact sim_done _ | with_reducible exact sim_yield _ | with_reducible exact sim_pure _ | with_reducible exact sim_ltAt | with_reducible exact sim_moveDown | with_reducible exact sim_reverse | with_reducible exact sim_rule | with_reducible exact sim_el | with_reducible exact sim_lt
   | apply sim_ite | with_reducible apply sim_forI | with_reducible apply sim_case | with_reducible apply sim_bind | (intro _;try dsimp only[ident]))
def countS(c:Nat→Nat→Bool)(N lo nrem:Nat):{ m:TW (Option Nat) // Sim c N ident (fun _=>countRun' lo nrem) m }:=by
 apply mkS
 ·simp only[countRun'_eq]
  repeat' (first
   | with_reducible exact sim_done _ | with_reducible exact sim_yield _ | with_reducible exact sim_pure _ | with_reducible exact sim_ltAt | with_reducible exact sim_moveDown | with_reducible exact sim_reverse | with_reducible exact sim_rule | with_reducible exact sim_el | with_reducible exact sim_lt
   | apply sim_ite | with_reducible apply sim_forI | with_reducible apply sim_case | with_reducible apply sim_bind | (intro _;try dsimp only[ident]))
end Srt
set_option maxHeartbeats 4000000
namespace Srt
open PySem PyProof.Rows
variable {c:Nat→Nat→Bool}{N:Nat}
def gallop':Bool→Keyed→Array Keyed→Nat→Nat→Nat→StateT SortSt Sem (Option Nat):=sortPriv% PySem.Builtin.gallop
def tbey(c:Nat→Nat→Bool)(N:Nat)(left:Bool)(p:Array Nat)(i j:Nat):TW Bool:=tbind (tel p i) fun x=>tite (left=true) (tlt c N x j) (tbind (tlt c N j x) fun r=>tpure (!r))
theorem sim_beyond{left:Bool}{p:Array Nat}{i j:Nat}:Sim c N (fun _ b=>some b) (fun k=>elem' (p.map k) i >>= fun x=>if left=true then lt' x (k j) else lt' (k j) x >>= fun r=>pure (Option.map (fun x=>!x) r)) (tbey c N left p i j):=by
 unfold tbey
 apply sim_bind
 ·exact sim_el
 ·intro x
  apply sim_ite
  ·exact sim_lt
  ·apply sim_bind
   ·exact sim_lt
   ·intro r
    exact sim_pureV (φ:=fun _ b=>some b) (!r) fun _=>rfl
def gallopS(c:Nat→Nat→Bool)(N:Nat)(left:Bool)(j:Nat)(p:Array Nat)(base n hint:Nat):{ m:TW (Option Nat) // Sim c N ident (fun k=>gallop' left (k j) (p.map k) base n hint) m }:=by
 apply mkS
 ·apply sim_bind
  ·exact sim_beyond
  ·intro b
   dsimp only
   repeat' (first
    | with_reducible exact sim_done _ | with_reducible exact sim_yield _ | with_reducible exact sim_pure _ | exact sim_beyond
    | apply sim_ite | with_reducible apply sim_forI | with_reducible apply sim_case | with_reducible apply sim_bind | (intro _;try dsimp only[ident]))
section
variable {τ δ γ:Type}
end
end Srt
set_option maxHeartbeats 4000000
namespace Srt
open PySem PyProof.Rows
def sub(i:Nat):List Int:=((List.range 6).filter fun b=>i.testBit b).map Int.ofNat
def llt:List Int→List Int→Bool
 | [],[]=>false
 | [],_::_=>true
 | _::_,[]=>false
 | x::xs,y::ys=>if x=y then llt xs ys else decide (x < y)
def cmp(i j:Nat):Bool:=llt (sub i) (sub j)
def a1:Array Nat:=#[0,1,3,7,15,31,23,11,27,19,5,13,29,21,9,25,17,2,6,14,30,22,10,26,18,4,12,28,20,8,24,16,32,33,34,35,36,37,38,39,40,41,42,43,44,45,46,47,48,49,50,51,52,53,54,55,56,57,58,59,60,61,62,63]
def a3:Array Nat:=#[0,1,3,7,15,31,23,11,27,19,5,13,29,21,9,25,17,2,6,14,30,22,10,26,18,4,12,28,20,8,24,16,33,32,34,35,36,37,38,39,40,41,42,43,44,45,46,47,48,49,50,51,52,53,54,55,56,57,58,59,60,61,62,63]
def a4:Array Nat:=#[0,1,3,7,15,31,23,11,27,19,5,13,29,21,9,25,17,2,6,14,30,22,10,26,18,4,12,28,20,8,24,16,63,47,55,39,59,43,51,35,61,45,53,37,57,41,49,33,62,46,54,38,58,42,50,34,60,44,52,36,56,40,48,32]
def order:Array Nat:=#[0,1,3,7,15,31,63,47,23,55,39,11,27,59,43,19,51,35,5,13,29,61,45,21,53,37,9,25,57,41,17,49,33,2,6,14,30,62,46,22,54,38,10,26,58,42,18,50,34,4,12,28,60,44,20,52,36,8,24,56,40,16,48,32]
def t0:PS:=((List.range 64).toArray,#[],7)
def t2:PS:=(a1,#[(0,32,0)],7)
def t4:PS:=(a4,#[(0,32,0)],7)
def t6:PS:=(a4,#[(0,64,1)],7)
theorem e0:(countS cmp 64 0 64).1 t0=some (some 3,t0):=by kernel_rfl
theorem e1:(binS cmp 64 0 32 3).1 t0=some (true,(a1,#[],7)):=by kernel_rfl
theorem e2:(countS cmp 64 32 32).1 t2=some (some 2,(a3,#[(0,32,0)],7)):=by kernel_rfl
theorem e3:(binS cmp 64 32 32 2).1 (a3,#[(0,32,0)],7)=some (true,t4):=by kernel_rfl
theorem e4:(gallopS cmp 64 false (a4.getD 32 0) a4 0 32 0).1 t6=some (some 6,t6):=by kernel_rfl
def mg:Array Nat:=order.extract 6 62
section
variable {P:Program}{w:World}{A:Around}{E:Value→Shared→Prop}{s:Shared}{k:Nat→Keyed}
end
end Srt
set_option maxHeartbeats 4000000
namespace Srt
open PySem PyProof.Rows
section
variable {P:Program}{w:World}{A:Around}{E:Value→Shared→Prop}{s:Shared}{k:Nat→Keyed}
def o2:Array Nat:=#[0,1]
theorem c2:(countS cmp 2 0 2).1 ((List.range 2).toArray,#[],7)=some (some 2,((List.range 2).toArray,#[],7)):=by kernel_rfl
def o4:Array Nat:=#[0,1,3,2]
theorem c4:(countS cmp 4 0 4).1 ((List.range 4).toArray,#[],7)=some (some 3,((List.range 4).toArray,#[],7)):=by kernel_rfl
theorem b4:(binS cmp 4 0 4 3).1 ((List.range 4).toArray,#[],7)=some (true,(o4,#[],7)):=by kernel_rfl
def o8:Array Nat:=#[0,1,3,7,5,2,6,4]
theorem b8:(binS cmp 8 0 8 3).1 ((List.range 8).toArray,#[],7)=some (true,(o8,#[],7)):=by kernel_rfl
end
end Srt
namespace L2
open PySem PySem.Spec PyProof.Rows Srt
section
variable {prog:Program}{w:World}{A:Around}{E:Value→Shared→Prop}{s:Shared}
def KeptBut(a:Addr)(h h':Heap):Prop:=∀ b o,b≠a→h.get? b=some o→h'.get? b=some o
theorem list_sort_by{a:Addr}{vs:List Value}{n:Nat}{P:PySem.Fin→Shared→Prop}{out:Array Value}{κ:SortKind}(ho:s.heap.get? a=some (seqObj "list" vs.toArray n))(h2:2≤vs.length)(h64:vs.length≤64)(hout:out.size=vs.length)
  (hk:∀ s':Shared,KeptBut a s.heap s'.heap→∀ Q:SortKind→Shared→Prop,Q κ s'→wpAny (model prog w) A (keyKind' vs.toArray) Q E s')
  (hr:∀ s':Shared,KeptBut a s.heap s'.heap→wpS (model prog w) A E s' sortRuns' (fun _ st=>(arrOf st).map (·.2)=out∧failedOf st=none) (SortSt.mk' κ (vs.toArray.zip vs.toArray) #[] 7 none))
  (h:P (.done (.ret .none)) { s with heap:=sortedHeap s.heap a vs out }):wpAny (model prog w) A (Builtin.«list.sort» ⟨[.ref a],[]⟩) P E s:=by
 rw[list_sort_plain]
 have ha:a < s.heap.objs.size:=Heap.lt_size ho
 refine wpAny_bind (listItems_at ho rfl ?_)
 refine wpAny_bind (listUpdate_at ho rfl ?_ (by rw[List.size_toArray,sizeLine_eq];omega) (Nat.zero_le _))
 obtain⟨e1,ho1⟩:∃ e1,(s.heap.update a (Obj.mapSeq fun _=>#[])).get? a=some (seqObj "list" #[] e1):=⟨_,get?_update_seq ho (fun _=>#[])⟩
 refine wpAny_bind (seqEpoch_at ho1 rfl ?_)
 refine wpAny_bind (wpAny_newTuple ?_ (by show vs.length≤_;rw[sizeLine_eq];omega))
 refine wpAny_bind (wpAny_newList ?_ (Nat.zero_le _))
 refine wpAny_holding ?_
 have ho6:(((s.heap.update a (Obj.mapSeq fun _=>#[])).push (seqObj "tuple" vs.toArray 0)).push (seqObj "list" #[] 0)).get? a=some (seqObj "list" #[] e1):=by
  rw[Heap.get?_push_ne _ _ _ (by rw[size_push',Heap.size_update];exact Nat.ne_of_lt (Nat.lt_succ_of_lt ha)),Heap.get?_push_ne _ _ _ (by rw[Heap.size_update];exact Nat.ne_of_lt ha)]
  exact ho1
 have kept:KeptBut a s.heap (((s.heap.update a (Obj.mapSeq fun _=>(#[]:Array Value))).push (seqObj "tuple" vs.toArray 0)).push (seqObj "list" #[] 0)):=fun b o hb e=>by
  refine Heap.get?_push_of_some _ (Heap.get?_push_of_some _ ?_)
  rw[Heap.get?_update_ne _ _ _ _ hb]
  exact e
 show wpAny (model prog w) A _ P E { s with heap:=((s.heap.update a (Obj.mapSeq fun _=>#[])).push (seqObj "tuple" vs.toArray 0)).push (seqObj "list" #[] 0) }
 dsimp only
 have hn2:¬ vs.toArray.size < 2:=by rw[List.size_toArray];omega
 rw[if_neg hn2,if_neg hn2]
 refine wpAny_bind (hk _ kept _ ?_)
 refine wpAny_bind (wpAny_mono (hr _ kept) ?_ fun _ _ e=>e)
 rintro ⟨⟨⟩,st'⟩ s' ⟨rfl,hp,hf⟩
 dsimp only at hp hf ⊢
 refine wpAny_bind (seqEpoch_at ho6 rfl ?_)
 rw[hp]
 refine wpAny_bind (listUpdate_at ho6 rfl ?_ (Nat.zero_le _) (by rw[hout,sizeLine_eq];omega))
 rw[hf]
 simp only[bne_self_eq_false,Bool.false_eq_true,if_false]
 exact wpAny_pure h
theorem list_sort_one{a:Addr}{vs:List Value}{n:Nat}{P:PySem.Fin→Shared→Prop}(ho:s.heap.get? a=some (seqObj "list" vs.toArray n))(h2:vs.length < 2)
  (h:P (.done (.ret .none)) { s with heap:=sortedHeap s.heap a vs vs.toArray }):wpAny (model prog w) A (Builtin.«list.sort» ⟨[.ref a],[]⟩) P E s:=by
 rw[list_sort_plain]
 have ha:a < s.heap.objs.size:=Heap.lt_size ho
 refine wpAny_bind (listItems_at ho rfl ?_)
 refine wpAny_bind (listUpdate_at ho rfl ?_ (by rw[List.size_toArray,sizeLine_eq];omega) (Nat.zero_le _))
 obtain⟨e1,ho1⟩:∃ e1,(s.heap.update a (Obj.mapSeq fun _=>#[])).get? a=some (seqObj "list" #[] e1):=⟨_,get?_update_seq ho (fun _=>#[])⟩
 refine wpAny_bind (seqEpoch_at ho1 rfl ?_)
 refine wpAny_bind (wpAny_newTuple ?_ (by show vs.length≤_;rw[sizeLine_eq];omega))
 refine wpAny_bind (wpAny_newList ?_ (Nat.zero_le _))
 refine wpAny_holding ?_
 have ho6:(((s.heap.update a (Obj.mapSeq fun _=>#[])).push (seqObj "tuple" vs.toArray 0)).push (seqObj "list" #[] 0)).get? a=some (seqObj "list" #[] e1):=by
  rw[Heap.get?_push_ne _ _ _ (by rw[size_push',Heap.size_update];exact Nat.ne_of_lt (Nat.lt_succ_of_lt ha)),Heap.get?_push_ne _ _ _ (by rw[Heap.size_update];exact Nat.ne_of_lt ha)]
  exact ho1
 show wpAny (model prog w) A _ P E { s with heap:=((s.heap.update a (Obj.mapSeq fun _=>#[])).push (seqObj "tuple" vs.toArray 0)).push (seqObj "list" #[] 0) }
 dsimp only
 have hn2:vs.toArray.size < 2:=by rw[List.size_toArray];omega
 rw[if_pos hn2,if_pos hn2]
 refine wpAny_bind (wpAny_pure ?_)
 rw[StateT.run_pure]
 refine wpAny_bind (wpAny_pure ?_)
 dsimp only
 refine wpAny_bind (seqEpoch_at ho6 rfl ?_)
 have e:(vs.toArray.zip vs.toArray).map (·.2)=vs.toArray:=by
  apply Array.ext_getElem?
  intro i
  simp only[Array.getElem?_map,Array.getElem?_zip_eq_some]
  cases hi:vs.toArray[i]?<;>simp_all [Array.zip,Array.getElem?_zipWith]
 show wpAny (model prog w) A (Builtin.List.listUpdate (.ref a) (fun _=>(vs.toArray.zip vs.toArray).map (·.2)) >>= _) P E _
 rw[e]
 refine wpAny_bind (listUpdate_at ho6 rfl ?_ (Nat.zero_le _) (by rw[List.size_toArray,sizeLine_eq];omega))
 simp only[bne_self_eq_false,Bool.false_eq_true,if_false]
 exact wpAny_pure h
end
end L2
namespace L2
open PySem PySem.Spec PyProof.Rows Srt
def ordL(n:Nat):List Nat:=order.toList.filter fun i=>decide (i < n)
section
variable {X:Cx}
end
end L2
namespace L2
open PySem PySem.Spec PyProof.Rows
section
variable {X:Cx}
def tRev(te:TE)(ts:TO):TE:=fun σ H Q=>te σ H fun x H1=>ts σ H1 fun l H2=>l=some (-1)∧∃ a xs,x=.ref a∧H2 a=some (.lst xs)∧∀ p,H2 p=none→Q (.ref p) (upd H2 p (.lst xs.reverse))
def rInsert:V→List V→Hp→VK→Prop:=fun x vs H Q=>∃ l xs i y,x=.ref l∧vs=[.int i,y]∧H l=some (.lst xs)∧0≤i∧i≤xs.length∧xs.length < 1000∧Q .non (upd H l (.lst (xs.take i.toNat++y::xs.drop i.toNat)))
end
theorem tRev_ap{te:TE}{ts:TO}{σ:St}{H:Hp}{Q:VK}:tRev te ts σ H Q=te σ H fun x H1=>ts σ H1 fun l H2=>l=some (-1)∧∃ a xs,x=.ref a∧H2 a=some (.lst xs)∧∀ p,H2 p=none→Q (.ref p) (upd H2 p (.lst xs.reverse)):=propext Iff.rfl
theorem rInsert_ap{x:V}{vs:List V}{H:Hp}{Q:VK}:rInsert x vs H Q=∃ l xs i y,x=.ref l∧vs=[.int i,y]∧H l=some (.lst xs)∧0≤i∧i≤xs.length∧xs.length < 1000∧Q .non (upd H l (.lst (xs.take i.toNat++y::xs.drop i.toNat))):=propext Iff.rfl
end L2
namespace L2
open PySem
theorem tPart_ap{te:TE}{σ:St}{H:Hp}{K:Option Int→Hp→Prop}:tPart te σ H K=te σ H fun x H1=>∃ i,x=.int i∧K (some i) H1:=propext Iff.rfl
theorem tNoPart_ap{σ:St}{H:Hp}{K:Option Int→Hp→Prop}:tNoPart σ H K=K none H:=propext Iff.rfl
end L2
namespace Toy
open PySem L2
open PySem.Builtin.Int (intBits)
structure BagAt(H:Hp)(B L:Addr):Prop where
 ex:∃ ns i r salt,H B=some (.lst [.ref L,.int i,.int r,.int salt])∧H L=some (.lst (List.map V.int ns))∧(0:Int)≤i
theorem BagAt.ne{H:Hp}{B L p:Addr}(b:BagAt H B L)(hp:H p=none):p≠B:=fun e=>by
 obtain⟨_,_,_,_,z,_⟩:=b
 rw[← e,hp] at z
 cases z
abbrev lowN(n u:Int):Int:=n / (Int.gcd n u:Int)
abbrev lowU(n u:Int):Int:=u / (Int.gcd n u:Int)
def RowAt(H:Hp)(xs:List V)(ps:List (Int×Int)):Prop:=xs.length=ps.length∧∀(i:Nat) p,ps[i]?=some p→∃ r,xs[i]?=some (.ref r)∧H r=some (.tup [.int p.1,.int p.2])∧0 < p.2∧Sz 100 p.1∧Sz 31 p.2
def pD(p:Int×Int):Dt:=.tup [.int p.1,.int p.2]
def TS(H H':Hp):Prop:=∀ b xs,H b=some (.tup xs)→H' b=some (.tup xs)
theorem TS.fr{H H':Hp}{B L:Addr}(b:BagAt H B L)(f:Fr1 B H H'):TS H H':=fun c xs h=>f c _ (fun e=>by
 obtain⟨_,_,_,_,z,_⟩:=b
 rw[← e,h] at z
 cases z) h
theorem TS.lst{H:Hp}{l:Addr}{xs:List V}{o:HO}(h:H l=some (.lst xs)):TS H (L2.upd H l o):=fun c ys hc=>by
 rw[upd_ne (fun e=>by rw[e,h] at hc;cases hc)]
 exact hc
theorem BagAt.neL{H:Hp}{B L p:Addr}(b:BagAt H B L)(hp:H p=none):p≠L:=fun e=>by
 obtain⟨_,_,_,_,_,z,_⟩:=b
 rw[← e,hp] at z
 cases z
theorem BagAt.keep{H H':Hp}{B L:Addr}(b:BagAt H B L)(s:Same H H'):BagAt H' B L:=by
 obtain⟨ns,i,r,salt,h1,h2,h3⟩:=b
 exact⟨ns,i,r,salt,s _ _ h1,s _ _ h2,h3⟩
structure Cl where
 n:Int
 u:Int
 hp:List Int
 rk:Int
def ClAt(H:Hp)(v:V)(c:Cl):Prop:=∃ r p h,v=.ref r∧H r=some (.tup [.ref p,.ref h,.int c.rk])∧H p=some (.tup [.int c.n,.int c.u])∧H h=some (.tup (c.hp.map V.int))
def ClsAt(H:Hp)(xs:List V)(cs:List Cl):Prop:=xs.length=cs.length∧∀(i:Nat) c,cs[i]?=some c→∃ v,xs[i]?=some v∧ClAt H v c
def cD(c:Cl):Dt:=.tup [.tup [.int c.n,.int c.u],.tup (c.hp.map Dt.int),.int c.rk]
theorem ints_dens{H:Hp}:∀ hs:List Int,Dens H (hs.map Dt.int) (hs.map V.int)
 | []=>by unfold List.map Dens;rfl
 | x::hs=>by
  show Dens H (Dt.int x::hs.map Dt.int) (V.int x::hs.map V.int)
  unfold Dens
  exact⟨_,_,rfl,by unfold Den;rfl,ints_dens hs⟩
theorem dens1{H:Hp}{d:Dt}{ds:List Dt}{x:V}{xs:List V}(h:Den H d x)(h2:Dens H ds xs):Dens H (d::ds) (x::xs):=by
 unfold Dens
 exact⟨_,_,rfl,h,h2⟩
theorem dens0{H:Hp}:Dens H [] []:=by unfold Dens;rfl
theorem den_tup{H:Hp}{a:Addr}{xs:List V}{ds:List Dt}(h:H a=some (.tup xs))(h2:Dens H ds xs):Den H (.tup ds) (.ref a):=by unfold Den;exact⟨a,xs,rfl,h,h2⟩
theorem den_lst{H:Hp}{a:Addr}{xs:List V}{ds:List Dt}(h:H a=some (.lst xs))(h2:Dens H ds xs):Den H (.lst ds) (.ref a):=by unfold Den;exact⟨a,xs,rfl,h,h2⟩
theorem cmp_lst{k:Nat}{ds:List Dt}(h:∀ d∈ds,Cmp k d d):Cmp (k+1) (.lst ds) (.lst ds):=by
 unfold Cmp
 intro _ j d e h1 h2
 rw[h1] at h2
 cases h2
 exact h d (List.mem_of_getElem? h1)
def HeapsAt(H:Hp)(xs:List V)(m:Int):Prop:=∀ v∈xs,∃(t:Addr)(hs:List Int),v=.ref t∧H t=some (.tup (hs.map V.int))∧(hs.length:Int)≤m∧∀ x∈hs,0≤x∧x < m
def hp(m:Int):Int→List Int→Bool
 | _,[]=>true
 | l,x::r=>if x≤l∨m≤x then false else hp m x r
def OrdAt(H:Hp)(xs:List V)(n:Nat):Prop:=∃ ts:Nat→Addr,xs=(ordL n).map (fun i=>V.ref (ts i))∧∀ i,i < n→H (ts i)=some (.tup ((Srt.sub i).map V.int))
def oD(n:Nat):List Dt:=(ordL n).map fun i=>.tup ((Srt.sub i).map Dt.int)
theorem seq_cut{ta tb:L2.TS}{D:Ends}{σ:St}{H:Hp}(W:St→Hp→Prop)(h2:∀ σ' H',W σ' H'→tb D σ' H')(h1:∀ tb':L2.TS,(∀ σ' H',W σ' H'→tb' D σ' H')→tSeq ta tb' D σ H):tSeq ta tb D σ H:=h1 tb h2
def OptH(H:Hp)(v:V):Option Nat→Prop
 | none=>v=.non
 | some i=>∃ t,v=.ref t∧H t=some (.tup ((Srt.sub i).map V.int))
theorem for_rangeN{lo:Int}{n:Nat}{g:TG}{tb:L2.TS}{D:Ends}{σ:St}{H:Hp}(Pv:Nat→St→Hp→Prop)(h0:Pv 0 σ H)
  (hs:∀ i σ H (N B:St→Hp→Prop),i < n→Pv i σ H→(∀ σ' H',Pv (i+1) σ' H'→N σ' H')→(∀ σ' H',D.nx σ' H'→B σ' H')→g (.int (lo+i)) σ H fun σ2 H2=>tb { nx:=N,rt:=D.rt,bk:=B,ct:=N } σ2 H2) (hd:∀ σ H,Pv n σ H→D.nx σ H) :
  ∃ W:Nat→Nat→St→Hp→Prop,(∃ m,W 0 m σ H)∧∀ i m σ H,W i m σ H →
   ((Itr lo n).stop i H∧D.nx σ H)∨((Itr lo n).go i H∧∃ N:St→Hp→Prop,(∀ σ' H',N σ' H'→∃ m',m' < m∧W (i+1) m' σ' H')∧∀ x H',(Itr lo n).yld i H x H'→g x σ H' fun σ2 H2=>tb { D with nx:=N,ct:=N,bk:=D.nx } σ2 H2) :=
 for_range Pv h0 (fun i σ H hi hp=>hs i σ H (Pv (i+1)) D.nx hi hp (fun _ _ h=>h) fun _ _ h=>h) hd
theorem qe_bmK{X:Cx}{K:PySem.W.Frag}(hK:X.K=K){o e:Expr}{es:List Expr}{to:TE}{t:TA}{name:Str}{apos cpos:Pos}{T id:String}{r:V→List V→Hp→VK→Prop}(pa:PlainAttrs T)(slot:PySem.Slot T name id)(hty:typeOf (.builtin id)=pure (.type "method_descriptor"))(hm:MtR X id r)(ho:QE X o to)(ha:QA X (e::es) t)
  (hbase:attributeBase o name X.env (eval o X.env)=eval o X.env:=by rfl)
  (hfew:((backTo cpos (starEach (e::es) X.env)).all (fun x=>!x.1) && (backToKw cpos (keywordEach [] X.env)).all (fun x=>x.1.isSome)
   && decide ((e::es).length+([]:List Keyword).length+(if ([]:List Keyword).isEmpty then 0 else 1) < 30))=true:=by rfl)
  (hline:(apos.endLine == cpos.line)=true:=by rfl) (hs:starEach (e::es) X.env=(false,eval e X.env)::starEach es X.env:=by rfl) (hplain:(backTo cpos (starEach es X.env)).any (·.1)=false:=by rfl) :
  QE X (.Call (.Attribute o name apos) (e::es) [] cpos) (tBM K T r to t):=hK▸qe_bm pa slot hty hm ho ha hbase hfew hline hs hplain
end Toy
namespace L2
open PySem
section
variable {σ:St}{H:Hp}{Q:VK}{D:Ends}{te ta tb:TE}{t u:TS}{c c':TT}{tr:TA}{QT:Bool→Hp→Prop}{QA:List V→Hp→Prop}{x y:V}{xs:List V}{v:V}{i j:Int}{p:Addr}
theorem i_tSeq(h:t { D with nx:=u D } σ H):tSeq t u D σ H:=h
theorem i_tIfS(h:c σ H fun b H1=>Brk b (t D σ H1) (u D σ H1) .mk .mk):tIfS c t u D σ H:=h
theorem i_tNext(h:D.nx σ H):tNext D σ H:=h
theorem i_tDrop(h:te σ H fun _ H1=>D.nx σ H1):tDrop te D σ H:=h
theorem i_tRet(h:te σ H D.rt):tRet te D σ H:=h
theorem i_tAsg{g:TG}(h:te σ H fun x H1=>g x σ H1 D.nx):tAsg te g D σ H:=h
theorem i_gName{k:Nat}{R:St→Hp→Prop}(h:R (σ.set k (some v)) H):gName k v σ H R:=h
theorem i_gSub{to ti:TE}{ts:TSet}{R:St→Hp→Prop}(h:to σ H fun o H1=>ti σ H1 fun i H2=>ts o i v H2 fun H3=>R σ H3):gSub to ti ts v σ H R:=h
theorem i_tAugS{to ti:TE}{tg:V→V→Hp→VK→Prop}{tp:TIp}{ts:TSet}(h:to σ H fun o H1=>ti σ H1 fun i H2=>tg o i H2 fun x H3=>te σ H3 fun y H4=>tp x y H4 fun z H5=>ts o i z H5 fun H6=>D.nx σ H6):tAugS to ti te tg tp ts D σ H:=h
theorem i_tVar{k:Nat}(e:σ[k]?=some (some v))(h:Q v H):tVar k σ H Q:=⟨v,e,h⟩
theorem i_tC(h:Q v H):tC v σ H Q:=h
theorem i_tB(h:te σ H fun x H1=>∃ c,x=.bl c∧QT c H1):tB te σ H QT:=h
theorem i_tTest(h:te σ H fun x H1=>∃ c,x=.bl c∧QT c H1):tTest te σ H QT:=h
theorem i_exB{b:Bool}{P:Bool→Prop}(h:P b):∃ c,V.bl b=V.bl c∧P c:=⟨b,rfl,h⟩
theorem i_tOp{r:R2}(h:ta σ H fun x H1=>tb σ H1 fun y H2=>r x y H2 Q):tOp r ta tb σ H Q:=h
theorem i_tUn{r:V→Hp→VK→Prop}(h:ta σ H fun x H1=>r x H1 Q):tUn r ta σ H Q:=h
theorem i_tCB{r:List V→Hp→VK→Prop}(h:tr σ H fun vs H1=>r vs H1 Q):tCB r tr σ H Q:=h
theorem i_tNil(h:QA [] H):tNil σ H QA:=h
theorem i_tCons(h:ta σ H fun x H1=>tr σ H1 fun xs H2=>QA (x::xs) H2):tCons ta tr σ H QA:=h
theorem i_tNot(h:c σ H fun b H1=>QT (!b) H1):tNot c σ H QT:=h
theorem i_tAnd(h:c σ H fun b H1=>Brk b (c' σ H1 QT) (QT false H1) .mk .mk):tAnd c c' σ H QT:=h
theorem i_tOr(h:c σ H fun b H1=>Brk b (QT true H1) (c' σ H1 QT) .mk .mk):tOr c c' σ H QT:=h
theorem i_tD{sp:Sp}{E:XK}(h:tr σ H fun vs H1=>sp vs H1 Q E):tD sp E tr σ H Q:=h
theorem i_rI0{g:Int→Int→V}(h:Q (g i j) H):rI0 g (.int i) (.int j) H Q:=⟨i,j,rfl,rfl,h⟩
theorem i_rI{C:Int→Int→Prop}{g:Int→Int→V}(hc:C i j)(h:Q (g i j) H):rI C g (.int i) (.int j) H Q:=⟨i,j,rfl,rfl,hc,h⟩
theorem i_rU{g:Int→V}(h:Q (g i) H):rU g (.int i) H Q:=⟨i,rfl,h⟩
theorem i_ixL(hp:H p=some (.lst xs))(e:atI xs i=some v)(h:Q v H):rIxF (.ref p) (.int i) H Q:=⟨p,xs,i,v,rfl,rfl,seqAt_lst hp,e,h⟩
theorem i_ixT(hp:H p=some (.tup xs))(e:atI xs i=some v)(h:Q v H):rIxF (.ref p) (.int i) H Q:=⟨p,xs,i,v,rfl,rfl,seqAt_tup hp,e,h⟩
theorem i_lenL(hp:H p=some (.lst xs))(h:Q (.int xs.length) H):rLenF [.ref p] H Q:=⟨p,xs,rfl,seqAt_lst hp,h⟩
theorem i_getL(hp:H p=some (.lst xs))(h0:0≤i)(e:atI xs i=some v)(h:Q v H):rGetF (.ref p) (.int i) H Q:=⟨p,xs,i,v,rfl,rfl,hp,h0,e,h⟩
theorem i_ipI{f:Int→Int→Int}(h:Q (.int (f i j)) H):ipI f (.int i) (.int j) H Q:=⟨i,j,rfl,rfl,h⟩
end
section
variable {σ:St}{H:Hp}{Q:VK}{D:Ends}{tr:TA}{xs:List V}{A B:Prop}{k:Tg A}{l:Tg B}{q:Prop}[Decidable q]
theorem i_brkT(h:A):Brk true A B k l:=brk (fun _=>h) (fun z=>by cases z)
theorem i_brkF(h:B):Brk false A B k l:=brk (fun z=>by cases z) (fun _=>h)
theorem i_brkP(hq:q)(h:A):Brk (decide q) A B k l:=brkD (fun _=>h) (fun z=>absurd hq z)
theorem i_brkN(hq:¬ q)(h:B):Brk (decide q) A B k l:=brkD (fun z=>absurd z hq) (fun _=>h)
end
end L2
namespace Toy
open PySem L2
open PySem.Builtin.Int (intBits)
def num(U:Int)(p:Int×Int):Int:=p.1*(U / p.2)
structure Ok(U:Int)(p:Int×Int):Prop where
 pos:0 < p.2
 dvd:p.2∣U
 cop:Int.gcd p.1 p.2=1
def low(n u:Int):Int×Int:=(lowN n u,lowU n u)
structure UOk(U:Int):Prop where
 pos:0 < U
 sz:Sz 4000 U
structure PtOk(U:Int)(k:Nat)(p:Int×Int):Prop extends Ok U p where
 sz:Sz k (num U p)
def RowU(U:Int)(k:Nat)(H:Hp)(xs:List V)(ps:List (Int×Int)):Prop:=xs.length=ps.length∧∀(i:Nat) p,ps[i]?=some p→∃ r,xs[i]?=some (.ref r)∧H r=some (.tup [.int p.1,.int p.2])∧PtOk U k p
structure Lvl(R D:Nat→Int)(n:Nat)(r:Int×Int):Prop where
 pos:0 < r.2
 cop:Int.gcd r.1 r.2=1
 one:r.1≤r.2
 le:∀ i,i < n→0 < D i→r.1*D i≤R i*r.2
 at':r=(1,1)∨∃ i,i < n∧0 < D i∧r.1*D i=R i*r.2
structure Du(U:Int)(k:Nat)(n u:Int):Prop where
 pt:PtOk U k (n,u)
 nn:0≤n
def RowsAt(X:List Addr)(U:Int)(k:Nat)(H:Hp)(zs:List V)(rss:List (List (Int×Int))):Prop:=zs.length=rss.length∧zs.Nodup∧∀(i:Nat) r,rss[i]?=some r→∃ l xs,zs[i]?=some (.ref l)∧H l=some (.lst xs)∧RowU U k H xs r∧l∉X
end Toy
namespace Toy
open PySem L2
open PySem.Builtin.Int (intBits)
end Toy
namespace L2
open PySem
section
variable {σ:St}{H:Hp}{Q:VK}{D:Ends}{te ta tb:TE}{t u:TS}{c c':TT}{tr:TA}{x y:V}{xs ys:List V}{v:V}{i j:Int}{p:Addr}
theorem i_setN{R:Hp→Prop}{k:Nat}(hp:H p=some (.lst xs))(e:ixN xs.length i=some k)(ey:xs.set k v=ys)(h:∀ H',H' p=some (.lst ys)→Fr1 p H H'→R H'):rSetL (.ref p) (.int i) v H R :=
 ⟨p,xs,i,k,rfl,rfl,hp,e,ey▸h _ (ey▸upd_same) Fr1.upd⟩
theorem mul_mod_ok{a b:Int}:IntMulOk (a % 2147483647) (b % 2147483647):=Sz.okR (k:=31) (Sz.of (by
 have h1:=Int.emod_nonneg b (by decide:(2147483647:Int)≠0)
 have h2:=Int.emod_lt_of_pos b (by decide:(0:Int) < 2147483647)
 omega)) (by decide)
def NewO(f:List V→HO)(xs:List V)(H:Hp)(Q:VK):Prop:=xs.length≤sizeLine∧∀ p,H p=none→Q (.ref p) (upd H p (f xs))
theorem i_tTup(h:tr σ H fun xs H1=>NewO HO.tup xs H1 Q):tTup tr σ H Q:=h
theorem i_tLst(h:tr σ H fun xs H1=>NewO HO.lst xs H1 Q):tLst tr σ H Q:=h
theorem i_NewO{f:List V→HO}(hl:xs.length≤64)(h:∀ p H',H p=none→Same H H'→H' p=some (f xs)→Q (.ref p) H'):NewO f xs H Q :=
 ⟨Nat.le_trans hl (by decide),fun p hp=>h p _ hp (Same.new hp) upd_same⟩
theorem i_tBM{K:PySem.W.Frag}{T:String}{r:V→List V→Hp→VK→Prop}{to:TE}(h:to σ H fun x H1=>tyV K T x H1∧tr σ H1 fun xs H2=>r x xs H2 Q):tBM K T r to tr σ H Q:=h
theorem i_app{l:Addr}(hl:H l=some (.lst xs))(hz:xs.length≤1000)(h:∀ H',H' l=some (.lst (xs++[y]))→Fr1 l H H'→Q .non H'):rAppend (.ref l) [y] H Q :=
 ⟨l,xs,y,rfl,rfl,hl,Nat.lt_of_le_of_lt hz (by decide),h _ upd_same Fr1.upd⟩
end
end L2
namespace Toy
open PySem L2
theorem BagAt.frm{H H':Hp}{B L F:Addr}(b:BagAt H B L)(f:Fr1 F H H')(nB:F≠B)(nL:F≠L):BagAt H' B L:=by
 obtain⟨ns,i,r,salt,h1,h2,h3⟩:=b
 exact⟨ns,i,r,salt,f _ _ nB.symm h1,f _ _ nL.symm h2,h3⟩
theorem TS.frl{H H':Hp}{l:Addr}{xs:List V}(h:H l=some (.lst xs))(f:Fr1 l H H'):Toy.TS H H':=fun c ys hc=>f c _ (fun e=>by rw[e,h] at hc;cases hc) hc
end Toy
namespace L2
open PySem PySem.Spec PyProof.Rows
section
variable {X:Cx}{tg:Expr}
end
section
variable {H:Hp}{Q:VK}{z y:Str}{i:Int}
theorem i_tAndV{ta tb:TE}{σ:St}(h:ta σ H fun x H1=>∃ c,x=.bl c∧Brk c (tb σ H1 Q) (Q (.bl false) H1) .mk .mk):tAndV ta tb σ H Q:=h
end
theorem same_put{H H2:Hp}{l:Addr}{o:HO}(hl:H l=none)(s:Same H H2):Same H (upd H2 l o):=fun b u hb=>by
 rw[upd_ne (fun z=>by rw[z,hl] at hb;cases hb)]
 exact s b u hb
end L2
namespace Toy
open PySem L2
section
variable {I:List Nat}{q hq:Nat→Bool}{a x x':Nat→Int}{n d:Int}
end
end Toy
namespace L2
open PySem
def Ris(xs:Array Nat):Prop:=xs.toList.Pairwise (· < ·)
theorem Ris.lt{xs:Array Nat}(h:Ris xs){i k:Nat}(hk:k < xs.size)(hik:i < k):xs.getD i 0 < xs.getD k 0:=by
 have hi:i < xs.size:=Nat.lt_trans hik hk
 have:=List.pairwise_iff_getElem.mp h i k (by simpa using hi) (by simpa using hk) hik
 simpa [Array.getD,hi,hk] using this
theorem below_go{xs:Array Nat}(h:Ris xs)(j:Nat):∀(f lo hi:Nat),hi - lo≤f→lo≤hi→hi≤xs.size→(∀ i,i < lo→xs.getD i 0 < j)→(∀ i,hi≤i→i < xs.size→j≤xs.getD i 0) →
  (SetTable.below.go xs j f lo hi≤xs.size∧(∀ i,i < SetTable.below.go xs j f lo hi→xs.getD i 0 < j)∧∀ i,SetTable.below.go xs j f lo hi≤i→i < xs.size→j≤xs.getD i 0)
 | 0,lo,hi,hf,h1,h2,a,b=>by
  have:lo=hi:=by omega
  subst this
  show lo≤xs.size∧_
  exact⟨h2,a,b⟩
 | f+1,lo,hi,hf,h1,h2,a,b=>by
  unfold SetTable.below.go
  by_cases c:lo < hi
  ·rw[if_pos c]
   have hm:(lo+hi) / 2 < xs.size:=by omega
   have e:xs.getD ((lo+hi) / 2) j=xs.getD ((lo+hi) / 2) 0:=by simp[Array.getD,hm]
   show (if xs.getD ((lo+hi) / 2) j < j then _ else _)≤xs.size∧_
   by_cases d:xs.getD ((lo+hi) / 2) j < j
   ·simp only[if_pos d]
    refine below_go h j f _ hi (by omega) (by omega) h2 (fun i hi'=>?_) b
    rw[e] at d
    by_cases z:i=(lo+hi) / 2
    ·rw[z];exact d
    ·exact Nat.lt_trans (h.lt hm (by omega)) d
   ·simp only[if_neg d]
    refine below_go h j f lo _ (by omega) (by omega) (by omega) a fun i hi' hs=>?_
    rw[e] at d
    by_cases z:i=(lo+hi) / 2
    ·rw[z];omega
    ·have:=h.lt hs (by omega:(lo+hi) / 2 < i)
     omega
  ·rw[if_neg c]
   have:lo=hi:=by omega
   subst this
   exact⟨h2,a,b⟩
theorem below_ok{xs:Array Nat}(h:Ris xs)(j:Nat):SetTable.below xs j≤xs.size∧(∀ i,i < SetTable.below xs j→xs.getD i 0 < j)∧∀ i,SetTable.below xs j≤i→i < xs.size→j≤xs.getD i 0 :=
 below_go h j xs.size 0 xs.size (by omega) (by omega) (by omega) (fun i hi=>by omega) fun i h1 h2=>by omega
def stand(xs:Array Nat):Nat→Nat
 | 0=>0
 | i+1=>xs.getD i 0+1
theorem below_stand{xs:Array Nat}(h:Ris xs){i:Nat}(hi:i≤xs.size):SetTable.below xs (stand xs i)=i:=by
 obtain⟨h1,h2,h3⟩:=below_ok h (stand xs i)
 generalize SetTable.below xs (stand xs i)=p at h1 h2 h3
 cases i with
 | zero =>
  have z:stand xs 0=0:=rfl
  rw[z] at h2
  by_cases c:p=0
  ·exact c
  ·have:=h2 0 (by omega)
   omega
 | succ i =>
  have z:stand xs (i+1)=xs.getD i 0+1:=rfl
  rw[z] at h2 h3
  have a:i < p:=by
   by_cases c:i < p
   ·exact c
   ·have:=h3 i (by omega) (by omega)
    omega
  by_cases c:p=i+1
  ·exact c
  ·have:=h2 (i+1) (by omega)
   have:=h.lt (i:=i) (k:=i+1) (by omega) (by omega)
   omega
theorem ins_list{α:Type}(xs:Array α)(p:Nat)(x:α):(SetTable.insertAt xs p x).toList=xs.toList.take p++x::xs.toList.drop p:=by
 unfold SetTable.insertAt
 simp
 exact List.take_of_length_le (by rw[List.length_drop,Array.length_toList];exact Nat.le_refl _)
theorem Ris.put{xs:Array Nat}(h:Ris xs){j:Nat}(hj:xs[SetTable.below xs j]?≠some j):Ris (SetTable.insertAt xs (SetTable.below xs j) j):=by
 obtain⟨h1,h2,h3⟩:=below_ok h j
 generalize SetTable.below xs j=p at h1 h2 h3 hj
 have gd:∀ i (hi:i < xs.size),xs.toList[i]'(by simpa using hi)=xs.getD i 0:=fun i hi=>by simp[Array.getD,hi]
 have up:∀ i,p≤i→i < xs.size→j < xs.getD i 0:=fun i a b=>by
  have c:=h3 i a b
  by_cases z:i=p
  ·subst z
   have:xs[i]?=some (xs.getD i 0):=by simp[Array.getD,b]
   rw[this] at hj
   by_cases y:xs.getD i 0=j
   ·exact absurd (by rw[y]) hj
   ·omega
  ·have:=h.lt b (by omega:p < i)
   have:=h3 p (Nat.le_refl _) (by omega)
   omega
 unfold Ris
 rw[ins_list,List.pairwise_append]
 have hd:∀ b∈xs.toList.drop p,j < b:=fun b hb=>by
  obtain⟨i,hi,rfl⟩:=List.getElem_of_mem hb
  rw[List.length_drop,Array.length_toList] at hi
  rw[List.getElem_drop,gd _ (by omega)]
  exact up _ (by omega) (by omega)
 have ht:∀ a∈xs.toList.take p,a < j:=fun a ha=>by
  obtain⟨i,hi,rfl⟩:=List.getElem_of_mem ha
  rw[List.length_take,Array.length_toList] at hi
  rw[List.getElem_take,gd _ (by omega)]
  exact h2 _ (by omega)
 refine⟨h.sublist (List.take_sublist _ _),List.pairwise_cons.mpr ⟨hd,h.sublist (List.drop_sublist _ _)⟩,fun a ha b hb=>?_⟩
 rcases List.mem_cons.mp hb with rfl | hb
 ·exact ht a ha
 ·exact Nat.lt_trans (ht a ha) (hd b hb)
structure TabOk(L:Bool)(t:SetTable):Prop where
 ris:Ris t.place
 dum:t.dummies=#[]
 led:t.led=L
theorem TabOk.fresh{L:Bool}{f m:Nat}:TabOk L (SetTable.fresh f m L):=⟨List.Pairwise.nil,rfl,rfl⟩
theorem has_nil(j:Nat):SetTable.has #[] j=false:=by
 unfold SetTable.has
 simp
def keyOf:Int×Value→Int
 | (_,.int k _)=>k
 | _=>0
abbrev setO(es:Array (Int×Value))(ep:Nat)(t:SetTable):Obj:={ cls:=.type "set", dict:=none,data:=.set es ep t }
structure SetW(h:Heap)(S:Addr)(L:Bool)(es:Array (Int×Value))(ep:Nat)(t:SetTable):Prop where
 at':h.get? S=some (setO es ep t)
 sz:es.size < 100
 fit:t.fits es.size=true
 tab:TabOk L t
theorem SetW.to{h h':Heap}{S:Addr}{L:Bool}{es:Array (Int×Value)}{ep:Nat}{t:SetTable}(x:SetW h S L es ep t)(k:∀ o,h.get? S=some o→h'.get? S=some o):SetW h' S L es ep t:=⟨k _ x.at',x.sz,x.fit,x.tab⟩
structure SetAt(h:Heap)(S:Addr)(L:Bool)(es:Array (Int×Value))(ep:Nat)(t:SetTable):Prop extends SetW h S L es ep t where
 sh:∀ e∈es.toList,∃ k tk,e=(hashInt k,Value.int k tk)
 nd:(es.toList.map keyOf).Nodup
section
variable {prog:Program}{w:World}{A:Around}{E:Value→Shared→Prop}{s:Shared}{S:Addr}{L:Bool}{es:Array (Int×Value)}{ep:Nat}{t:SetTable}
theorem set_put{h:Heap}{es':Array (Int×Value)}{t':SetTable}(ho:h.get? S=some (setO es ep t)):(h.update S (Obj.putSet es' t')).get? S=some (setO es' (ep+1) t'):=by
 have e:=putSet_of (o:=setO es ep t) es' t' rfl
 have:=Heap.get?_update_self (Obj.putSet es' t') ho (by rw[e];rfl)
 rwa [e] at this
theorem set_loop{R:Result→Shared→Prop}{I l:Addr}{items:Array Value}{Z:Heap→Nat→Prop}(hh:A.in1.handled=none)(nI:l≠I)(lS:l < S)(SI:S < I)
  (stay:∀ h h' i,Z h i→(∀ b o,b≤S→h.get? b=some o→h'.get? b=some o)→Z h' i)
  (step:∀(i:Nat)(v:Value)(s:Shared)(Q:Bool→Shared→Prop)(E:Value→Shared→Prop),items[i]?=some v→Z s.heap i→(∀ b h' tk,Heap.SameBut S s.heap h'→Z h' (i+1)→Q b { s with heap:=h',toks:=tk })→wpAny (model prog w) A.in1 (setAdd S v) Q E s) :
  ∀(m i:Nat)(s:Shared),items.size - i=m→i≤items.size→s.heap.IsListIter I l i∧s.heap.IsList l items→Z s.heap i →
   (∀ h' tk,(∀ b o,b≠S→b≠I→s.heap.get? b=some o→h'.get? b=some o)→Z h' items.size→R (.ok (.ret .none)) { s with heap:=h',toks:=tk }) →
   codeAny (model prog w) A (.builtin "set.update.loop" ⟨[.ref S,.ref I],[]⟩) R s:=by
 have W:=Walks.list (prog:=prog) (w:=w) hh I l nI items
 intro m
 induction m with
 | zero =>
  intro i s hm hle st x hR
  have e:i=items.size:=by omega
  subst e
  refine codeAny_builtin PyProof.Rows.F.entry_set_update_loop ?_
  rw[Around.under_plainId PyProof.Rows.F.plain_set_update_loop]
  show wpAny _ A.in1 (pyNext (.ref I) >>= _) _ _ _
  refine wpAny_bind (W.done s _ _ st fun h' tk kp=>wpAny_pure (hR h' tk (fun b o _ b2 e=>kp b o (by simpa using b2) e) (stay _ _ _ x fun b o hb e=>kp b o (by simpa using Nat.ne_of_lt (Nat.lt_of_le_of_lt hb SI)) e)))
 | succ m ih =>
  intro i s hm hle st x hR
  have hlt:i < items.size:=by omega
  refine codeAny_builtin PyProof.Rows.F.entry_set_update_loop ?_
  rw[Around.under_plainId PyProof.Rows.F.plain_set_update_loop]
  show wpAny _ A.in1 (pyNext (.ref I) >>= _) _ _ _
  refine wpAny_bind (W.item i s _ _ hlt st fun v h1 tk1 pv st1 kp=>?_)
  show wpAny _ A.in1 (holding [v] (setAdd S v) >>= _) _ _ _
  refine wpAny_bind (wpAny_holding (step i v _ _ _ pv (stay _ h1 _ x fun b o hb e=>kp b o (by simpa using Nat.ne_of_lt (Nat.lt_of_le_of_lt hb SI)) e) fun b h2 tk sb x2=>?_))
  have kS:∀ b o,b≠S→h1.get? b=some o→h2.get? b=some o:=fun b o nb e=>by
   rw[sb.2 b nb]
   exact e
  have st2:h2.IsListIter I l (i+1)∧h2.IsList l items:=W.frame _ _ _ st1 fun b hb o e=>kS b o (fun z=>by
   rw[z] at hb
   simp at hb
   rcases hb with hb | hb
   ·exact absurd hb (Nat.ne_of_lt SI)
   ·exact absurd hb (Nat.ne_of_gt lS)) e
  refine wpAny_pure ⟨plainId_quiet PyProof.Rows.F.plain_set_update_loop _,ih (i+1) _ (by omega) hlt st2 x2 fun h' tk kk x'=>?_⟩
  exact hR h' tk (fun b o b1 b2 e=>kk b o b1 b2 (kS b o b1 (kp b o (by simpa using b2) e))) x'
def ZInt(S:Addr)(L:Bool)(ns:List Int)(h:Heap)(i:Nat):Prop:=∃ es ep t,SetAt h S L es ep t∧es.size≤i∧∀ k,k∈es.toList.map keyOf↔k∈ns.take i
end
end L2
namespace L2
open PySem
section
variable {prog:Program}{w:World}{A:Around}{E:Value→Shared→Prop}{s:Shared}
abbrev byT(w:World):Bool:=w.params.followText "set-order"
abbrev set0(w:World):Obj:=setO #[] 0 (.fresh 0 0 (!byT w))
theorem set_new(a:Value){Q₁:Value→Shared→Prop}(h:Q₁ (.ref s.heap.objs.size) { s with heap:=s.heap.push (set0 w) }) :
  codeAny (model prog w) A (.call (.builtin "set.__new__") ⟨[.type "set", a],[]⟩) (wants Q₁ E) s:=by
 refine codeAny_of_tree ?_
 show wpAny _ A.in1 (checkBuiltinCall "set.__new__" ⟨[.type "set", a],[]⟩ >>= fun _=>again (.builtin "set.__new__" ⟨[.type "set", a],[]⟩)) _ _ s
 refine wpAny_bind (wpAny_of_eq (PySem.F.newCall_set_1 _) (wpAny_pure ⟨plainId_quiet PySem.F.plain_set_new _,codeAny_builtin PySem.F.entry_set_new ?_⟩))
 rw[Around.under_plainId PySem.F.plain_set_new]
 unfold Builtin.«set.__new__» Builtin.Frozenset.newClass
 have sub:=sub_set_self
 obtain⟨hp,g,d,tk,os⟩:=s
 dsimp only
 wp_walk
 refine wpAny_askSetting (wpAny_pure ?_)
 simp only[newObj]
 exact wpAny_bind (wpAny_alloc (wpAny_pure (wpAny_pure h)))
theorem set_of_listZ{l:Addr}{items:Array Value}{Z:Heap→Nat→Prop}{Q:Value→Shared→Prop}(hh:A.handled=none)(hl:s.heap.IsList l items)
  (beg:∀ h':Heap,(∀ b o,s.heap.get? b=some o→h'.get? b=some o)→h'.get? s.heap.objs.size=some (set0 w)→Z h' 0)
  (stay:∀ h h' i,Z h i→(∀ b o,b≤s.heap.objs.size→h.get? b=some o→h'.get? b=some o)→Z h' i)
  (step:∀(A':Around)(i:Nat)(v:Value)(s':Shared)(Q:Bool→Shared→Prop)(E:Value→Shared→Prop),A'.units≤A.units+8→items[i]?=some v→Z s'.heap i→(∀ b h' tk,Heap.SameBut s.heap.objs.size s'.heap h'→Z h' (i+1)→Q b { s' with heap:=h',toks:=tk })→wpAny (model prog w) A' (setAdd s.heap.objs.size v) Q E s')
  (h:∀ h' tk,Z h' items.size→(∀ b o,s.heap.get? b=some o→h'.get? b=some o)→Q (.ref s.heap.objs.size) { s with heap:=h',toks:=tk }) :
  wpAny (model prog w) A (call (.type "set") [.ref l]) Q E s:=by
 have cs:=PySem.F.called_set
 obtain⟨c,tl,hmro⟩:=cs.mro
 have hmade:=cs.made
 have hsub:=cs.sub
 refine wpAny_call (codeAny_of_tree ?_)
 show wpAny _ _ (callAny (.type "set") ⟨[.ref l],[]⟩) _ _ _
 refine wpAny_pure ⟨Code.quiet_builtin _ (by decide +kernel),codeAny_builtin F.entry_type_call ?_⟩
 rw[Around.under_plain (weight_type_call_type "set" [.ref l] []) rfl]
 have h1:=cs.notType
 have h2:=cs.canCreate
 have hct:=PySem.F.typeCall_set_1 (.ref l)
 repeat (any_goals (first | assumption | wp_step))
 refine codeAny_mono (set_new (.ref l) (E:=E) (Q₁:=fun ob s₁=>ob=.ref s.heap.objs.size∧s₁={ s with heap:=s.heap.push (set0 w) }) ⟨rfl,rfl⟩) fun r s₁ hr=>?_
 cases r with
 | error e=>exact hr
 | ok fl =>
  cases fl with
  | ret obj =>
   obtain⟨rfl,rfl⟩:=hr
   have hS:(s.heap.push (set0 w)).get? s.heap.objs.size=some (set0 w):=Heap.get?_push_size _ rfl
   have hT:Shared.TypeIs { s with heap:=s.heap.push (set0 w) } (.ref s.heap.objs.size) "set" := ⟨_,hS,rfl⟩
   have hli:=cs.init.lookup
   have hbi:=cs.init.bind (.ref s.heap.objs.size)
   repeat (any_goals (first | assumption | wp_step))
   refine codeAny_mono (codeAny_call_builtin (R:=wants (fun r s₂=>r=.none∧∃ h' tk,s₂={ s with heap:=h',toks:=tk }∧Z h' items.size∧∀ b o,s.heap.get? b=some o→h'.get? b=some o) E) cs.init.plain PySem.F.entry_set_init (check_set_init_1 hT ?_)) fun r₂ s₂ hr₂=>?_
   ·obtain⟨ol,hol,hcl,nl,hdl⟩:=hl
    obtain⟨oc,od,odt,osl⟩:=ol
    simp only at hcl hdl
    subst hcl hdl
    have hol':=Heap.get?_push_of_some (set0 w) hol
    have hl1:(s.heap.push (set0 w)).IsList l items:=⟨_,hol',rfl,nl,rfl⟩
    have q1:=PySem.F.sub_list_set
    have q2:=PySem.F.sub_list_frozenset
    have q3:(Value.type "list" == Value.type "dict")=false:=by decide
    unfold Builtin.«set.__init__» noKeywords Builtin.Frozenset.updateFrom
    generalize eP:pyIter=PI
    wp_walk
    subst eP
    refine wpAny_pyIter_list hl1 (wpAny_bind (wpAny_runValue ?_))
    have lS:l < s.heap.objs.size:=Heap.lt_size hol
    have sz:(s.heap.push (set0 w)).objs.size=s.heap.objs.size+1:=Heap.size_push _ _
    have nI:l≠(s.heap.push (set0 w)).objs.size:=by rw[sz];exact Nat.ne_of_lt (Nat.lt_succ_of_lt lS)
    have nS:s.heap.objs.size≠(s.heap.push (set0 w)).objs.size:=by rw[sz];exact Nat.ne_of_lt (Nat.lt_succ_self _)
    have x0:Z ((s.heap.push (set0 w)).push { cls:=.type "list_iterator", data:=.fields #[.ref l,.int 0 0] }) 0:=beg _ (fun b o e=>Heap.get?_push_of_some _ (Heap.get?_push_of_some _ e)) (Heap.get?_push_of_some _ hS)
    refine set_loop (Z:=Z) (items:=items) (by simp[hh]) nI lS (by rw[sz];exact Nat.lt_succ_self _) stay (fun i v s' Q E=>step _ i v s' Q E ?_) items.size 0 _ rfl (Nat.zero_le _) ⟨⟨_,Heap.get?_push_size _ rfl,rfl,rfl⟩,hl1.push _⟩ x0 fun h' tk kp x'=>?_
    ·simp only[Around.in1_units]
     omega
    refine wpAny_pure (wpAny_pure ⟨rfl,h',tk,rfl,x',fun b o e=>?_⟩)
    ·have bl:=Heap.lt_size e
     exact kp b o (Nat.ne_of_lt bl) (by rw[sz];exact Nat.ne_of_lt (Nat.lt_succ_of_lt bl)) (Heap.get?_push_of_some _ (Heap.get?_push_of_some _ e))
   ·cases r₂ with
    | error e=>exact hr₂
    | ok f2 =>
     cases f2 with
     | ret r =>
      obtain⟨rfl,h',tk,rfl,x,kp⟩:=hr₂
      repeat (any_goals (first | assumption | wp_step))
      exact h h' tk x kp
     | _=>exact hr₂.elim
  | _=>exact hr.elim
end
end L2
namespace L2
open PySem
theorem slot_it:Slot "set_iterator" "__next__" "set_iterator.__next__" := by
 refine Slot.of (owner := "set_iterator") (n := "__next__") ?_ (by decide +kernel) (by decide +kernel) (by decide +kernel) ?_ ?_
 ·rw[typeLookup_type,builtinLookup_eq_fast];kernel_rfl
 ·first | exact Or.inl (by decide +kernel) | exact Or.inr (by decide +kernel)
 ·rw[isSubtype_type];kernel_rfl
theorem ent_it:entryFor table "set_iterator.__next__" = some Builtin.«set_iterator.__next__»:=by refine entryFor_of_tree ?_;kernel_rfl
theorem ent_iter:entryFor table "set.__iter__" = some Builtin.«frozenset.__iter__»:=by
 refine entryFor_alias (id' := "frozenset.__iter__") ?_ rfl ?_ ?_
 ·kernel_rfl
 ·decide +kernel
 ·kernel_rfl
theorem arg_it(a:Value):argsOk "set_iterator.__next__" ⟨[a],[]⟩:=by unfold argsOk;kernel_rfl
section
variable {prog:Program}{w:World}{A:Around}{E:Value→Shared→Prop}{s:Shared}
theorem wp_choose{src:Source}{n:Nat}{Q:Nat→Shared→Prop}(hn:n≠0)(h:∀ i,i < n→Q i { s with drawn:=s.drawn.bump src }):wpAny (model prog w) A (choose src n) Q E s:=fun _ _ _=>⟨hn,h _ (Nat.mod_lt _ (Nat.pos_of_ne_zero hn))⟩
theorem perm_erase{α:Type}:∀{l:List α}{i:Nat}{x:α},l[i]?=some x→l.Perm (x::l.eraseIdx i)
 | [],i,x,h=>by simp at h
 | y::l,0,x,h=>by
  cases h
  exact List.Perm.refl _
 | y::l,i+1,x,h=>(List.Perm.cons y (perm_erase (l:=l) (i:=i) h)).trans (List.Perm.swap x y _)
theorem draw_ok:∀(n:Nat)(xs:List Nat)(s:Shared)(Q:List Nat→Shared→Prop),xs.length=n→(∀ d ys,ys.Perm xs→Q ys { s with drawn:=d })→wpAny (model prog w) A (drawOrder n xs) Q E s
 | 0,xs,s,Q,hn,h=>by
  have:xs=[]:=List.eq_nil_of_length_eq_zero hn
  subst this
  exact wpAny_pure (h s.drawn [] (List.Perm.refl _))
 | n+1,[],s,Q,hn,h=>by cases hn
 | n+1,x::xs,s,Q,hn,h=>by
  show wpAny _ _ (choose .order (x::xs).length >>= _) _ _ s
  refine wpAny_bind (wp_choose (by simp) fun i hi=>?_)
  have hx:(x::xs)[i]?=some ((x::xs)[i]):=List.getElem?_eq_getElem hi
  rw[hx]
  have pe:=perm_erase hx
  generalize (x::xs)[i]=y at pe
  refine wpAny_bind (draw_ok n _ _ _ (by rw[List.length_eraseIdx,if_pos hi];omega) fun d ys pm=>wpAny_pure (h d (y::ys) ?_))
  exact (List.Perm.cons y pm).trans pe.symm
theorem pick_go{α:Type}(next:Nat→Nat):∀(f k:Nat)(left:List α)(out:Array α),left.length=f→(pickOrder.go next f k left out).toList.Perm (out.toList++left)
 | 0,k,left,out,h=>by
  have:left=[]:=List.eq_nil_of_length_eq_zero h
  subst this
  show out.toList.Perm _
  rw[List.append_nil]
 | f+1,k,left,out,h=>by
  have hl:next k % left.length < left.length:=Nat.mod_lt _ (by omega)
  have hx:left[next k % left.length]?=some left[next k % left.length]:=List.getElem?_eq_getElem hl
  have pe:=perm_erase hx
  unfold pickOrder.go
  rw[hx]
  generalize left[next k % left.length]=y at pe
  refine (pick_go next f (k+1) _ _ (by rw[List.length_eraseIdx,if_pos hl];omega)).trans ?_
  rw[Array.toList_push,List.append_assoc]
  exact List.Perm.append_left _ pe.symm
theorem pick_perm{α:Type}(next:Nat→Nat)(xs:Array α):(pickOrder next xs).toList.Perm xs.toList:=by
 have:=pick_go next xs.size 0 xs.toList #[] (Array.length_toList)
 simpa [pickOrder] using this
abbrev itO(f:Value)(i:Nat)(S:Addr)(n ep:Nat):Obj:={ cls:=.type "set_iterator", data:=.fields #[f,.int i 0,.ref S,.int n 0,.int ep 0] }
variable {S:Addr}{es:Array (Int×Value)}{ep:Nat}{t:SetTable}
theorem SetW.drawn{Q:Bool→Shared→Prop}(x:SetW s.heap S (!byT w) es ep t)(h:Q (!byT w && (!t.plain && decide (es.size > 1))) s):wpAny (model prog w) A (setDrawn S) Q E s:=by
 unfold setDrawn
 refine wpAny_bind (wpAny_setState_of x.at' rfl x.fit (wpAny_bind ?_))
 exact wpAny_bind (wpAny_askSetting (wpAny_pure (wpAny_pure h)))
theorem iter_set{Q:Value→Shared→Prop}(x:SetW s.heap S (!byT w) es ep t)
  (h1:(!byT w && (!t.plain && decide (es.size > 1)))=false→Q (.ref s.heap.objs.size) { s with heap:=s.heap.push (itO (.int 0 0) 0 S es.size ep) })
  (h2:(!byT w && (!t.plain && decide (es.size > 1)))=true→∀ d (ys:List Nat),ys.Perm (List.range es.size)→Q (.ref (s.heap.objs.size+1)) { s with heap:=(s.heap.push { cls:=.type "tuple", data:=.seq (ys.map fun i:Nat=>rawInt i).toArray }).push (itO (.ref s.heap.objs.size) 0 S es.size ep),drawn:=d }) :
  wpAny (model prog w) A (pyIter (.ref S)) Q E s:=by
 have hT:s.TypeIs (.ref S) "set" := ⟨_,x.at',rfl⟩
 refine wpAny_pyIter_slot hT PySem.F.slot_set_iter (wpAny_call_entry PySem.F.slot_set_iter hT ent_iter ?_ (PySem.F.args_set_iter_1 _))
 unfold Builtin.«frozenset.__iter__» Builtin.Frozenset.slot0 slotArgs
 simp only[List.isEmpty_nil,Bool.not_true,Bool.false_eq_true,↓reduceIte,bind_assoc,List.length_nil,bne_self_eq_false]
 unfold Builtin.Frozenset.addrOf Builtin.Frozenset.sizeOf
 refine wpAny_bind (wpAny_pure (wpAny_bind (wpAny_pure (wpAny_bind (wpAny_bind (wpAny_setEntries_of x.at' rfl x.fit (wpAny_pure ?_)))))))
 refine wpAny_bind (x.drawn ?_)
 by_cases c:(!byT w && (!t.plain && decide (es.size > 1)))=true
 ·rw[if_pos c]
  refine wpAny_bind (draw_ok _ _ _ _ List.length_range fun d ys pm=>?_)
  have hl:ys.length < 100:=by
   rw[pm.length_eq,List.length_range]
   exact x.sz
  refine wpAny_bind (wpAny_newTuple ?_ (by rw[List.length_map];rw[sizeLine_eq];omega))
  have k1:=Heap.get?_push_of_some { cls:=.type "tuple", data:=.seq (ys.map fun i:Nat=>rawInt i).toArray } x.at'
  refine wpAny_bind (wpAny_setEpoch_of (s:={ s with heap:=_,drawn:=d }) k1 rfl x.fit ?_)
  refine wpAny_bind (wpAny_newObj_type (wpAny_pure ⟨_,rfl, "set_iterator", _,⟨_,Heap.get?_push_size _ rfl,rfl⟩,slot_it.lookup,?_⟩))
  have e:(s.heap.push { cls:=.type "tuple", data:=.seq (ys.map fun i:Nat=>rawInt i).toArray }).objs.size=s.heap.objs.size+1:=Heap.size_push _ _
  have:=h2 c d ys pm
  rw[← e] at this
  exact this
 ·rw[if_neg c]
  refine wpAny_bind (wpAny_pure (wpAny_bind (wpAny_setEpoch_of x.at' rfl x.fit ?_)))
  exact wpAny_bind (wpAny_newObj_type (wpAny_pure ⟨_,rfl, "set_iterator", _,⟨_,Heap.get?_push_size _ rfl,rfl⟩,slot_it.lookup,h1 (by simpa using c)⟩))
end
end L2
namespace L2
open PySem
section
variable {prog:Program}{w:World}{A:Around}{E:Value→Shared→Prop}{s:Shared}{S:Addr}{es:Array (Int×Value)}{ep:Nat}{t:SetTable}
theorem next_text{sl i:Nat}{Q:Option (Value×Nat)→Shared→Prop}(x:SetW s.heap S (!byT w) es ep t)(hb:byT w=true)(h:Q (((pickOrder (w.params.setOrder S ep) es)[i]?).map fun e=>(e.2,sl)) s):wpAny (model prog w) A (setNext S sl i ep) Q E s:=by
 unfold setNext
 refine wpAny_bind (wpAny_setState_of x.at' rfl x.fit ?_)
 refine wpAny_bind (wpAny_bind (wpAny_askSetting (wpAny_pure ?_)))
 show wpAny _ _ (if byT w=true then _ else _) _ _ _
 rw[if_pos hb]
 show wpAny _ _ (if (ep != ep)=true then _ else _) _ _ _
 rw[if_neg (by simp)]
 unfold setWalk
 refine wpAny_bind (wpAny_bind (wpAny_setState_of x.at' rfl x.fit ?_))
 refine wpAny_bind (wpAny_bind (wpAny_askSetting (wpAny_pure ?_)))
 show wpAny _ _ (if byT w=true then _ else _) _ _ _
 rw[if_pos hb]
 exact wpAny_bind (wpAny_askSetting (wpAny_pure (wpAny_pure h)))
theorem next_plain{i:Nat}{Q:Option (Value×Nat)→Shared→Prop}(x:SetW s.heap S (!byT w) es ep t)(hb:byT w=false)(hd:(!t.plain && decide (es.size > 1))=false)(hi:i≤es.size)(h:Q ((es[i]?).map fun e=>(e.2,stand t.place (i+1))) s):wpAny (model prog w) A (setNext S (stand t.place i) i ep) Q E s:=by
 have led:t.led=true:=by rw[x.tab.led,hb];rfl
 have ps:t.place.size=es.size:=by
  have:=x.fit
  unfold SetTable.fits at this
  rw[Bool.and_eq_true,beq_iff_eq] at this
  exact this.1
 unfold setNext
 refine wpAny_bind (wpAny_setState_of x.at' rfl x.fit ?_)
 refine wpAny_bind (wpAny_bind (wpAny_askSetting (wpAny_pure ?_)))
 show wpAny _ _ (if byT w=true then _ else _) _ _ _
 rw[if_neg (by rw[hb];exact Bool.false_ne_true)]
 show wpAny _ _ (if (!t.plain && decide (es.size > 1))=true then _ else _) _ _ _
 rw[if_neg (by rw[hd];exact Bool.false_ne_true)]
 refine wpAny_bind ?_
 show wpAny _ _ (if (!t.led && !es.isEmpty)=true then _ else pure ()) _ _ _
 rw[if_neg (by rw[led];simp)]
 refine wpAny_pure (wpAny_pure ?_)
 rw[below_stand x.tab.ris (by omega)]
 by_cases c:i < es.size
 ·have c2:i < t.place.size:=by omega
  have e1:es[i]?=some es[i]:=Array.getElem?_eq_getElem c
  have e2:t.place[i]?=some t.place[i]:=Array.getElem?_eq_getElem c2
  rw[e1] at h
  rw[e1,e2]
  have e3:stand t.place (i+1)=t.place[i]+1:=by
   show t.place.getD i 0+1=_
   simp[Array.getD,c2]
  rw[e3] at h
  exact h
 ·have e1:es[i]?=none:=Array.getElem?_eq_none (by omega)
  rw[e1] at h ⊢
  exact h
theorem next_drawn{p:Nat}{e:Int×Value}{Q:Value→Shared→Prop}(x:SetW s.heap S (!byT w) es ep t)(hp:es[p]?=some e)(h:Q e.2 s):wpAny (model prog w) A (setNextDrawn S p ep) Q E s:=by
 unfold setNextDrawn
 refine wpAny_bind (wpAny_setState_of x.at' rfl x.fit ?_)
 show wpAny _ _ (if (ep != ep)=true then _ else _) _ _ _
 rw[if_neg (by simp),hp]
 exact wpAny_pure h
def Md(w:World)(h:Heap)(S:Addr)(es:Array (Int×Value))(ep:Nat)(t:SetTable)(first:Nat→Value)(ord:List Value):Prop :=
 (byT w=true∧(∀ i,first i=.int 0 0)∧ord=(pickOrder (w.params.setOrder S ep) es).toList.map (·.2))
 ∨ (byT w=false∧(!t.plain && decide (es.size > 1))=false∧(∀ i,first i=.int (stand t.place i) 0)∧ord=es.toList.map (·.2))
 ∨ ∃(tp:Addr)(ys:List Nat),h.get? tp=some { cls:=.type "tuple", data:=.seq (ys.map fun i:Nat=>rawInt i).toArray }∧ys.Perm (List.range es.size)∧(∀ i,first i=.ref tp)∧ord=ys.map fun p=>(es.toList.getD p (0,.none)).2
theorem perm_map_getD{α β:Type}(g:α→β)(d:α)(l:List α){ys:List Nat}(h:ys.Perm (List.range l.length)):(ys.map fun p=>g (l.getD p d)).Perm (l.map g):=by
 refine (h.map _).trans (List.Perm.of_eq ?_)
 apply List.ext_getElem?
 intro i
 rw[List.getElem?_map,List.getElem?_map]
 by_cases c:i < l.length
 ·rw[List.getElem?_range c,List.getElem?_eq_getElem c]
  simp[List.getD_eq_getElem?_getD,c]
 ·rw[List.getElem?_eq_none (by rw[List.length_range];omega),List.getElem?_eq_none (by omega)]
  rfl
theorem Md.perm{h:Heap}{first:Nat→Value}{ord:List Value}(m:Md w h S es ep t first ord):ord.Perm (es.toList.map (·.2)):=by
 rcases m with ⟨_,_,rfl⟩ | ⟨_,_,_,rfl⟩ | ⟨tp,ys,_,pm,_,rfl⟩
 ·exact (pick_perm _ es).map _
 ·exact List.Perm.refl _
 ·exact perm_map_getD _ _ _ (by rw[Array.length_toList];exact pm)
theorem Md.to{h h':Heap}{first:Nat→Value}{ord:List Value}(m:Md w h S es ep t first ord)(k:∀ a o,first 0=.ref a→h.get? a=some o→h'.get? a=some o):Md w h' S es ep t first ord:=by
 rcases m with m | m | ⟨tp,ys,h1,pm,h2,h3⟩
 ·exact .inl m
 ·exact .inr (.inl m)
 ·exact .inr (.inr ⟨tp,ys,k _ _ (h2 0) h1,pm,h2,h3⟩)
theorem fields_of{a:Addr}{o:Obj}{vs:Array Value}{Q:Array Value→Shared→Prop}(ho:s.heap.get? a=some o)(hd:o.data=.fields vs)(h:Q vs s):wpAny (model prog w) A (fieldsOf (.ref a)) Q E s:=by
 unfold fieldsOf
 refine wpAny_bind (wpAny_load ho ?_)
 rw[hd]
 exact wpAny_pure h
theorem next_item{I:Addr}{i:Nat}{first:Nat→Value}{ord:List Value}{Q:Option Value→Shared→Prop}(x:SetW s.heap S (!byT w) es ep t)(m:Md w s.heap S es ep t first ord)(hI:s.heap.get? I=some (itO (first i) i S es.size ep))(nS:S≠I)(hi:i < es.size)
  (h:∀ h' v,ord[i]?=some v→h'.get? I=some (itO (first (i+1)) (i+1) S es.size ep)→Heap.SameBut I s.heap h'→Q (some v) { s with heap:=h' }):wpAny (model prog w) A (pyNext (.ref I)) Q E s:=by
 have hT:s.TypeIs (.ref I) "set_iterator" := ⟨_,hI,rfl⟩
 unfold pyNext
 refine wpAny_bind (wpAny_attempt (wpAny_callSpecial?_slot (name:=Str.ofString "__next__") hT slot_it (wpAny_call_entry slot_it hT ent_it ?_ (arg_it _))))
 unfold Builtin.«set_iterator.__next__» slotArgs
 simp only[List.isEmpty_nil,Bool.not_true,Bool.false_eq_true,↓reduceIte,bind_assoc,List.length_nil,bne_self_eq_false]
 refine wpAny_bind (wpAny_pure (wpAny_bind (fields_of hI rfl ?_)))
 dsimp only
 refine wpAny_bind (wpAny_setEntries_of x.at' rfl x.fit ?_)
 rw[if_neg (by simp)]
 rcases m with ⟨hb,hf,rfl⟩ | ⟨hb,hd,hf,rfl⟩ | ⟨tp,ys,ht,pm,hf,rfl⟩
 ·have el:i < ((pickOrder (w.params.setOrder S ep) es).toList.map (·.2)).length:=by
   rw[List.length_map,(pick_perm _ es).length_eq,Array.length_toList]
   exact hi
  rw[hf i] at hI ⊢
  rw[hf (i+1)] at h
  refine wpAny_bind (next_text (i:=i) (sl:=0) x hb ?_)
  have el2:i < (pickOrder (w.params.setOrder S ep) es).size:=by rwa [List.length_map,Array.length_toList] at el
  have e1:(pickOrder (w.params.setOrder S ep) es)[i]?=some (pickOrder (w.params.setOrder S ep) es)[i]:=Array.getElem?_eq_getElem el2
  simp only[Int.toNat_natCast]
  rw[e1]
  have h:=fun h'=>h h' (pickOrder (w.params.setOrder S ep) es)[i].2 (by simp[el2])
  generalize (pickOrder (w.params.setOrder S ep) es)[i]=e at h
  refine wpAny_bind (wpAny_setField_rec hI (by simp) fun h1 g1 b1=>?_)
  refine wpAny_bind (wpAny_setField_rec (s:={ s with heap:=h1 }) g1 (by simp) fun h2 g2 b2=>?_)
  exact wpAny_pure ⟨_,rfl,wpAny_pure (h h2 g2 (b1.trans b2))⟩
 ·rw[hf i] at hI ⊢
  rw[hf (i+1)] at h
  refine wpAny_bind (next_plain (i:=i) x hb hd (Nat.le_of_lt hi) ?_)
  have e1:es[i]?=some es[i]:=Array.getElem?_eq_getElem hi
  rw[e1]
  have h:=fun h'=>h h' es[i].2 (by simp[hi])
  refine wpAny_bind (wpAny_setField_rec hI (by simp) fun h1 g1 b1=>?_)
  refine wpAny_bind (wpAny_setField_rec (s:={ s with heap:=h1 }) g1 (by simp) fun h2 g2 b2=>?_)
  exact wpAny_pure ⟨_,rfl,wpAny_pure (h h2 g2 (b1.trans b2))⟩
 ·have yl:ys.length=es.size:=by rw[pm.length_eq,List.length_range]
  have iy:i < ys.length:=by omega
  have pl:ys[i] < es.size:=List.mem_range.mp (pm.mem_iff.mp (List.getElem_mem iy))
  rw[hf i] at hI ⊢
  rw[hf (i+1)] at h
  refine wpAny_bind (wpAny_seqItems ht rfl ?_)
  have e1:((ys.map fun i:Nat=>rawInt i).toArray)[((i:Nat):Int).toNat]?=some (rawInt (ys[i]:Nat)):=by
   rw[Int.toNat_natCast]
   simp[iy]
  dsimp only
  rw[e1]
  have e2:es[ys[i]]?=some es[ys[i]]:=Array.getElem?_eq_getElem pl
  refine wpAny_bind (next_drawn (p:=ys[i]) x e2 ?_)
  have h:=fun h'=>h h' es[ys[i]].2 (by simp[iy,pl])
  refine wpAny_bind (wpAny_setField_rec hI (by simp) fun h1 g1 b1=>?_)
  exact wpAny_pure ⟨_,rfl,wpAny_pure (h h1 g1 b1)⟩
theorem stop_raise{Q:Option Value→Shared→Prop}{R:Fin→Shared→Prop}(hh:A.handled=none)(h:∀ h',(∀ b o,s.heap.get? b=some o→h'.get? b=some o)→Q none { s with heap:=h' }) :
  wpAny (model prog w) A.in1 (newExc (Value.type "StopIteration") [] >>= fun e=>raiseNew e) R (fun e s'=>wpAny (model prog w) A (isInstance e (Value.type "StopIteration") >>= fun b=>if b=true then pure none else throw e) Q E s') s:=by
 refine wpAny_bind ?_
 unfold newExc newTuple
 refine wpAny_bind (wpAny_newObj_type ?_ (by size_fits))
 refine wpAny_bind (m:=firstArgMember _ _) (wpAny_of_eq (a:=Value.none) ?_ ?_)
 ·first | rfl | (simp only[firstArgMember];rfl)
 refine wpAny_newObj_type ?_ (by size_fits)
 unfold raiseNew
 refine wpAny_bind (wpAny_handled ?_)
 have h1:A.in1.handled=none:=hh
 rw[h1]
 refine wpAny_bind (wpAny_pure (wpAny_throw ?_))
 refine wpAny_bind (wpAny_isInstance (T := "StopIteration") (b:=true) ⟨_,Heap.get?_push_size _ rfl,rfl⟩ isSubtype_stop ?_)
 exact wpAny_pure (h _ fun b o e=>Heap.get?_push_of_some _ (Heap.get?_push_of_some _ e))
theorem next_end{I:Addr}{first:Nat→Value}{ord:List Value}{Q:Option Value→Shared→Prop}(hh:A.handled=none)(x:SetW s.heap S (!byT w) es ep t)(m:Md w s.heap S es ep t first ord)(hI:s.heap.get? I=some (itO (first es.size) es.size S es.size ep))
  (h:∀ h',(∀ b o,b≠I→s.heap.get? b=some o→h'.get? b=some o)→Q none { s with heap:=h' }):wpAny (model prog w) A (pyNext (.ref I)) Q E s:=by
 have hT:s.TypeIs (.ref I) "set_iterator" := ⟨_,hI,rfl⟩
 unfold pyNext
 refine wpAny_bind (wpAny_attempt (wpAny_callSpecial?_slot (name:=Str.ofString "__next__") hT slot_it (wpAny_call_entry slot_it hT ent_it ?_ (arg_it _))))
 unfold Builtin.«set_iterator.__next__» slotArgs
 simp only[List.isEmpty_nil,Bool.not_true,Bool.false_eq_true,↓reduceIte,bind_assoc,List.length_nil,bne_self_eq_false]
 refine wpAny_bind (wpAny_pure (wpAny_bind (fields_of hI rfl ?_)))
 dsimp only
 refine wpAny_bind (wpAny_setEntries_of x.at' rfl x.fit ?_)
 rw[if_neg (by simp)]
 have kb:∀(h1:Heap),Heap.SameBut I s.heap h1→∀ b o,b≠I→s.heap.get? b=some o→h1.get? b=some o:=fun h1 sb b o nb e=>by
  rw[sb.2 b nb]
  exact e
 rcases m with ⟨hb,hf,rfl⟩ | ⟨hb,hd,hf,rfl⟩ | ⟨tp,ys,ht,pm,hf,rfl⟩
 ·rw[hf] at hI ⊢
  refine wpAny_bind (next_text (i:=es.size) (sl:=0) x hb ?_)
  have e1:(pickOrder (w.params.setOrder S ep) es)[es.size]?=none:=by
   have:=(pick_perm (w.params.setOrder S ep) es).length_eq
   rw[Array.length_toList,Array.length_toList] at this
   exact Array.getElem?_eq_none (by omega)
  simp only[Int.toNat_natCast]
  rw[e1]
  refine wpAny_bind (wpAny_setField_rec hI (by simp) fun h1 g1 b1=>?_)
  exact stop_raise hh fun h' k=>h h' fun b o nb e=>k b o (kb h1 b1 b o nb e)
 ·rw[hf] at hI ⊢
  refine wpAny_bind (next_plain (i:=es.size) x hb hd (Nat.le_refl _) ?_)
  have e1:es[es.size]?=none:=Array.getElem?_eq_none (Nat.le_refl _)
  rw[e1]
  refine wpAny_bind (wpAny_setField_rec hI (by simp) fun h1 g1 b1=>?_)
  exact stop_raise hh fun h' k=>h h' fun b o nb e=>k b o (kb h1 b1 b o nb e)
 ·have yl:ys.length=es.size:=by rw[pm.length_eq,List.length_range]
  rw[hf] at hI ⊢
  refine wpAny_bind (wpAny_seqItems ht rfl ?_)
  have e1:((ys.map fun i:Nat=>rawInt i).toArray)[((es.size:Nat):Int).toNat]?=none:=by
   rw[Int.toNat_natCast]
   simp[yl]
  dsimp only
  rw[e1]
  refine wpAny_bind (wpAny_setField_rec hI (by simp) fun h1 g1 b1=>?_)
  refine wpAny_bind (wpAny_setField_rec (s:={ s with heap:=h1 }) g1 (by simp) fun h2 g2 b2=>?_)
  exact stop_raise hh fun h' k=>h h' fun b o nb e=>k b o (kb h2 (b1.trans b2) b o nb e)
end
end L2
namespace L2
open PySem
section
variable {prog:Program}{w:World}{A:Around}{E:Value→Shared→Prop}{s:Shared}{S:Addr}{es:Array (Int×Value)}{ep:Nat}{t:SetTable}
abbrev lstO(xs:Array Value)(c:Nat):Obj:={ cls:=.type "list", data:=.seq xs c }
theorem hint_set{Q:Bool→Shared→Prop}(hT:s.TypeIs (.ref S) "set")(h:Q false s):wpAny (model prog w) A (Builtin.List.listLengthHint (.ref S)) Q E s:=by
 unfold Builtin.List.listLengthHint
 refine wpAny_bind (wpAny_specialOf hT PySem.F.slot_set_len.lookup ?_)
 generalize e0:("set.__len__" : String)=i0
 wp_delta
 have e1:splitId i0=some ("set", "__len__"):=by subst e0;decide +kernel
 rw[e1]
 subst e0
 refine wpAny_bind (wpAny_isInstance (T := "set") (b:=true) hT sub_set_self ?_)
 refine wpAny_ite_split (fun z=>absurd z (by decide)) (fun _=>wpAny_ite_split (fun _=>?_) (fun z=>absurd (by decide +kernel) z))
 exact wpAny_bind (wpAny_typeOf hT (wpAny_pure h))
theorem ext_loop{R:Result→Shared→Prop}{I D:Addr}{first:Nat→Value}{ord:List Value}{res:Value}(hh:A.in1.handled=none)(nSI:S≠I)(nDS:D≠S)(nDI:D≠I)(nf:first 0≠.ref D)(nf2:first 0≠.ref I) :
  ∀(m i:Nat)(s:Shared)(acc:Array Value)(c:Nat),es.size - i=m→i≤es.size→SetW s.heap S (!byT w) es ep t→Md w s.heap S es ep t first ord→s.heap.get? I=some (itO (first i) i S es.size ep)→s.heap.get? D=some (lstO acc c)→acc.toList=ord.take i →
   (∀ h' acc' c',(∀ b o,b≠D→b≠I→s.heap.get? b=some o→h'.get? b=some o)→h'.get? D=some (lstO acc' c')→acc'.toList=ord→R (.ok (.ret res)) { s with heap:=h' }) →
   codeAny (model prog w) A (.builtin "list.extend.loop" ⟨[.ref D,.ref I,res],[]⟩) R s:=by
 intro m
 induction m with
 | zero =>
  intro i s acc c hm hi x md hI hD ha hR
  have e:i=es.size:=by omega
  subst e
  have ol:ord.length=es.size:=by rw[md.perm.length_eq,List.length_map,Array.length_toList]
  refine codeAny_builtin PySem.F.entry_extend_loop ?_
  rw[Around.under_plainId PySem.F.plain_extend_loop]
  show wpAny _ A.in1 (pyNext (.ref I) >>= _) _ _ _
  refine wpAny_bind (next_end hh x md hI fun h' k=>wpAny_pure (hR h' acc c (fun b o _ b2 e=>k b o b2 e) (k D _ nDI hD) ?_))
  rw[ha,← ol,List.take_length]
 | succ m ih =>
  intro i s acc c hm hi x md hI hD ha hR
  have hlt:i < es.size:=by omega
  have z:=x.sz
  have ol:ord.length=es.size:=by rw[md.perm.length_eq,List.length_map,Array.length_toList]
  have al:acc.size=i:=by
   have:=congrArg List.length ha
   rw[Array.length_toList,List.length_take] at this
   omega
  refine codeAny_builtin PySem.F.entry_extend_loop ?_
  rw[Around.under_plainId PySem.F.plain_extend_loop]
  show wpAny _ A.in1 (pyNext (.ref I) >>= _) _ _ _
  refine wpAny_bind (next_item x md hI nSI hlt fun h1 v hv g1 b1=>?_)
  have k1:∀ b o,b≠I→s.heap.get? b=some o→h1.get? b=some o:=fun b o nb e=>by
   rw[b1.2 b nb]
   exact e
  have hD1:=k1 D _ nDI hD
  show wpAny _ A.in1 (updateSeq D (·.push v) >>= _) _ _ _
  refine wpAny_bind (wpAny_updateSeq (s:={ s with heap:=h1 }) hD1 rfl ?_ (by rw[al,sizeLine_eq];omega) (by rw[Array.size_push,al,sizeLine_eq];omega))
  have k2:∀ b o,b≠D→h1.get? b=some o→(h1.update D (Obj.mapSeq (·.push v))).get? b=some o:=fun b o nb e=>(Heap.get?_update_other _ _ (Ne.symm nb)).trans e
  have hD2:=Heap.get?_update_self (Obj.mapSeq (·.push v)) hD1 rfl
  refine wpAny_pure ⟨plainId_quiet PySem.F.plain_extend_loop _,ih (i+1) _ (acc.push v) _ (by omega) hlt (x.to fun o e=>k2 S o (Ne.symm nDS) (k1 S o nSI e)) (md.to fun a o ea e=>k2 a o (fun q=>nf (by rw[ea,q])) (k1 a o (fun q=>nf2 (by rw[ea,q])) e)) (k2 I _ (Ne.symm nDI) g1) hD2 ?_ fun h' acc' c' kk hD' ha'=>?_⟩
  ·rw[Array.toList_push,ha]
   have hl:i < ord.length:=by omega
   rw[List.take_succ_eq_append_getElem hl]
   rw[List.getElem?_eq_getElem hl] at hv
   cases hv
   rfl
  ·exact hR h' acc' c' (fun b o b1 b2 e=>kk b o b1 b2 (k2 b o b1 (k1 b o b2 e))) hD' ha'
theorem grow_set{R:Result→Shared→Prop}{D:Addr}{res:Value}{c:Nat}(hh:A.in1.handled=none)(x:SetW s.heap S (!byT w) es ep t)(hD:s.heap.get? D=some (lstO #[] c))(nDS:D≠S)
  (hR:∀ h' d acc' c',(∀ b o,b≠D→s.heap.get? b=some o→h'.get? b=some o)→h'.get? D=some (lstO acc' c')→acc'.toList.Perm (es.toList.map (·.2))→R (.ok (.ret res)) { s with heap:=h',drawn:=d }) :
  wpAny (model prog w) A.in1 (Builtin.List.listExtendWith (.ref D) (.ref S) res)
   (fun fin s'=>match fin with | .done f=>R (.ok f) s' | .again c'=>c'.quiet=true∧codeAny (model prog w) A c' R s') (fun e s'=>R (.error e) s') s:=by
 have hT:s.TypeIs (.ref S) "set" := ⟨_,x.at',rfl⟩
 have ds:=Heap.lt_size hD
 have ss:=Heap.lt_size x.at'
 have go:∀(h1:Heap)(d:Drawn)(I:Addr)(first:Nat→Value)(ord:List Value),s.heap.objs.size≤I→(∀ b o,s.heap.get? b=some o→h1.get? b=some o)→h1.get? I=some (itO (first 0) 0 S es.size ep)→Md w h1 S es ep t first ord→(∀ a,first 0=.ref a→s.heap.objs.size≤a∧a≠I) →
   wpAny (model prog w) A.in1 (holding [Value.ref I] (Builtin.List.listLengthHint (.ref S)) >>= fun room=>if (room || ["set", "frozenset", "dict", "dict_keys", "dict_values", "dict_items"].any (Value.type "set" == .type ·))=true then (rule "list.extend.makes-room" >>= fun _=>Builtin.List.listTouch (.ref D) >>= fun _=>again (.builtin "list.extend.loop" ⟨[.ref D,.ref I,res],[]⟩)) else again (.builtin "list.extend.loop" ⟨[.ref D,.ref I,res],[]⟩))
    (fun fin s'=>match fin with | .done f=>R (.ok f) s' | .again c'=>c'.quiet=true∧codeAny (model prog w) A c' R s') (fun e s'=>R (.error e) s') { s with heap:=h1,drawn:=d }:=by
  intro h1 d I first ord hI0 k1 hI md hf
  have nSI:S≠I:=Nat.ne_of_lt (Nat.lt_of_lt_of_le ss hI0)
  have nDI:D≠I:=Nat.ne_of_lt (Nat.lt_of_lt_of_le ds hI0)
  have nf:first 0≠.ref D:=fun z=>absurd (hf D z).1 (Nat.not_le.mpr ds)
  have nf2:first 0≠.ref I:=fun z=>(hf I z).2 rfl
  have hT1:({ s with heap:=h1,drawn:=d }:Shared).TypeIs (.ref S) "set" := ⟨_,k1 _ _ x.at',rfl⟩
  refine wpAny_bind (wpAny_holding (hint_set hT1 ?_))
  rw[if_pos (by decide)]
  refine wpAny_bind (wpAny_rule (wpAny_bind ?_))
  show wpAny _ _ (updateSeq D (·.push .none) >>= fun _=>updateSeq D (·.pop)) _ _ _
  refine wpAny_bind (wpAny_updateSeq (s:={ s with heap:=h1,drawn:=d }) (k1 _ _ hD) rfl ?_)
  have g2:=Heap.get?_update_self (Obj.mapSeq (·.push Value.none)) (k1 _ _ hD) rfl
  refine wpAny_updateSeq (s:={ s with heap:=h1.update D (Obj.mapSeq (·.push Value.none)),drawn:=d }) (hz:=by seq_fits) g2 rfl ?_
  have g3:=Heap.get?_update_self (Obj.mapSeq (·.pop)) g2 rfl
  have k3:∀ b o,b≠D→h1.get? b=some o→((h1.update D (Obj.mapSeq (·.push Value.none))).update D (Obj.mapSeq (·.pop))).get? b=some o:=fun b o nb e=>(Heap.get?_update_other _ _ (Ne.symm nb)).trans ((Heap.get?_update_other _ _ (Ne.symm nb)).trans e)
  refine wpAny_pure ⟨plainId_quiet PySem.F.plain_extend_loop _,ext_loop hh nSI nDS nDI nf nf2 es.size 0 _ #[] _ rfl (Nat.zero_le _) (x.to fun o e=>k3 S o (Ne.symm nDS) (k1 S o e)) (md.to fun a o ea e=>k3 a o (fun q=>nf (by rw[ea,q])) e) (k3 I _ (Ne.symm nDI) hI) g3 rfl fun h' acc' c' kk hD' ha'=>?_⟩
  refine hR h' d acc' c' (fun b o nb e=>kk b o nb (Nat.ne_of_lt (Nat.lt_of_lt_of_le (Heap.lt_size e) hI0)) (k3 b o nb (k1 b o e))) hD' ?_
  rw[ha']
  exact md.perm
 unfold Builtin.List.listExtendWith
 refine wpAny_bind (wpAny_typeOf (T := "set") hT ?_)
 have n1:Builtin.List.listSameRef (.ref D) (.ref S)=false:=by simp[Builtin.List.listSameRef,nDS]
 have n2:(Value.type "set" == Value.type "list")=false:=by decide
 have n3:(Value.type "set" == Value.type "tuple")=false:=by decide
 simp only[n1,n2,n3,Bool.or_false,Bool.false_eq_true,if_false]
 refine wpAny_bind (iter_set x (fun hc=>?_) (fun hc d ys pm=>?_))
 ·by_cases hb:byT w=true
  ·exact go _ s.drawn _ (fun _=>.int 0 0) _ (Nat.le_refl _) (fun b o e=>Heap.get?_push_of_some _ e) (Heap.get?_push_size _ rfl) (.inl ⟨hb,fun _=>rfl,rfl⟩) fun a z=>by cases z
  ·have hb':byT w=false:=by simpa using hb
   exact go _ s.drawn _ (fun i=>.int (stand t.place i) 0) _ (Nat.le_refl _) (fun b o e=>Heap.get?_push_of_some _ e) (Heap.get?_push_size _ rfl) (.inr (.inl ⟨hb',by rw[hb'] at hc;simpa using hc,fun _=>rfl,rfl⟩)) fun a z=>by cases z
 ·have e1:(s.heap.push { cls:=.type "tuple", data:=.seq (ys.map fun i:Nat=>rawInt i).toArray }).objs.size=s.heap.objs.size+1:=Heap.size_push _ _
  have gt:=Heap.get?_push_size s.heap (o:={ cls:=.type "tuple", data:=.seq (ys.map fun i:Nat=>rawInt i).toArray }) rfl
  have gi:=Heap.get?_push_size (s.heap.push { cls:=.type "tuple", data:=.seq (ys.map fun i:Nat=>rawInt i).toArray }) (o:=itO (.ref s.heap.objs.size) 0 S es.size ep) rfl
  rw[e1] at gi
  exact go _ d _ (fun _=>.ref s.heap.objs.size) _ (Nat.le_succ _) (fun b o e=>Heap.get?_push_of_some _ (Heap.get?_push_of_some _ e)) gi (.inr (.inr ⟨_,ys,Heap.get?_push_of_some _ gt,pm,fun _=>rfl,rfl⟩)) fun a z=>by
   cases z
   exact⟨Nat.le_refl _,Nat.ne_of_lt (Nat.lt_succ_self _)⟩
theorem collect_set{Q:List Value→Shared→Prop}(hh:A.handled=none)(x:SetW s.heap S (!byT w) es ep t)(h:∀ h' d vs,s.heap.objs.size < h'.objs.size→(∀ b o,s.heap.get? b=some o→h'.get? b=some o)→vs.Perm (es.toList.map (·.2))→Q vs { s with heap:=h',drawn:=d }):wpAny (model prog w) A (collect (.ref S)) Q E s:=by
 have ss:=Heap.lt_size x.at'
 unfold collect
 refine wpAny_bind (wpAny_runValue (codeAny_builtin PyProof.Rows.entry_proto_collect' ?_))
 rw[Around.under_plainId PySem.F.plain_proto_collect]
 show wpAny _ A.in1 (newList [] >>= fun l=>again (.builtin "list.__iadd__" ⟨[l,.ref S],[]⟩)) _ _ _
 refine wpAny_bind (wpAny_newObj_type (wpAny_pure ⟨plainId_quiet PySem.F.plain_list_iadd _,codeAny_builtin PyProof.Rows.entry_list_iadd' ?_⟩))
 rw[Around.under_plainId PySem.F.plain_list_iadd]
 show wpAny _ A.in1 (Builtin.List.listExtendWith (.ref s.heap.objs.size) (.ref S) (.ref s.heap.objs.size)) _ _ _
 have key:=grow_set (prog:=prog) (A:=A) (s:={ s with heap:=s.heap.push (lstO #[] 0) }) (D:=s.heap.objs.size) (res:=.ref s.heap.objs.size) (c:=0)
  (R:=fun q s'=>∃ h' d acc' c',q=.ok (.ret (.ref s.heap.objs.size))∧s'={ s with heap:=h',drawn:=d }∧(∀ b o,s.heap.get? b=some o→h'.get? b=some o)∧h'.get? s.heap.objs.size=some (lstO acc' c')∧acc'.toList.Perm (es.toList.map (·.2)))
  hh (x.to fun o e=>Heap.get?_push_of_some _ e) (Heap.get?_push_size _ rfl) (Nat.ne_of_gt ss) fun h' d acc' c' k hD pm=>⟨h',d,acc',c',rfl,rfl,fun b o e=>k b o (Nat.ne_of_lt (Heap.lt_size e)) (Heap.get?_push_of_some _ e),hD,pm⟩
 refine wpAny_mono key (fun fin s' q=>?_) fun e s' q=>?_
 ·cases fin with
  | done f =>
   obtain⟨h',d,acc',c',e,rfl,k,hD,pm⟩:=q
   cases e
   show wpAny _ A (load s.heap.objs.size >>= _) _ _ _
   exact wpAny_bind (wpAny_load hD (wpAny_pure (h h' d _ (Heap.lt_size hD) k pm)))
  | again c₁ =>
   refine⟨q.1,codeAny_mono q.2 fun r s₂ y=>?_⟩
   obtain⟨h',d,acc',c',rfl,rfl,k,hD,pm⟩:=y
   show wpAny _ A (load s.heap.objs.size >>= _) _ _ _
   exact wpAny_bind (wpAny_load hD (wpAny_pure (h h' d _ (Heap.lt_size hD) k pm)))
 ·obtain⟨_,_,_,_,e',_⟩:=q
  cases e'
end
end L2
namespace L2
open PySem
theorem bt_set:bootBuiltins "set" = some (.type "set"):=by decide +kernel
section
variable {X:Cx}{e:Expr}{te:TE}{p1 p2 p3 p4:Pos}
end
end L2
namespace L2
open PySem PySem.Spec PyProof.Rows
section
variable {X:Cx}{e:Expr}{te:TE}{p1 p2 p3 p4:Pos}
end
end L2
namespace L2
open PySem PyProof.Rows PySem.SeqAt
section
variable {X:Cx}
end
end L2
namespace L2
open PySem PyProof.Rows PySem.SeqAt
section
variable {X:Cx}
def rInT:R2:=fun x y H Q=>∃(a p:Addr)(ts:List Int)(js:List Nat)(f:Nat→Addr)(g:Nat→List Int),x=.ref a∧y=.ref p∧H a=some (.tup (ts.map V.int))∧H p=some (.lst (js.map fun i=>V.ref (f i)))∧(∀ i∈js,H (f i)=some (.tup ((g i).map V.int)))∧Q (.bl (js.any fun i=>decide (g i=ts))) H
end
end L2
namespace HT
open PySem PySem.Spec PyProof.Rows
section
variable {prog:Program}{w:World}{A:Around}{E:Value→Shared→Prop}{s:Shared}
end
end HT
namespace L2
open PySem PySem.Spec PyProof.Rows
section
variable {X:Cx}
end
end L2
namespace Z3
open PySem PySem.Spec PyProof.Rows
theorem tc(a b c:Value):checkTypeCall "zip" ⟨[a,b,c],[]⟩=pure ():=by kernel_rfl
theorem ac(a b c d:Value):argsOk "object.__init__" ⟨[a,b,c,d],[]⟩:=by
 unfold argsOk
 rw[signature?_of (id := "object.__init__")
  (n:=['_','_','t','i','n','i','_','_'])
  (o:=['t','c','e','j','b','o'])
  (by kernel_rfl) PySem.F.owner_object]
 kernel_rfl
structure Ap(n l1 l2 l3:Nat):Prop where
 a1:l1 < n
 a2:l2 < n
 a3:l3 < n
section
variable {prog:Program}{w:World}{A:Around}{E:Value→Shared→Prop}{s:Shared}
abbrev hp1(h:Heap)(l1:Addr):Heap:=h.push { cls:=.type "list_iterator", data:=.fields #[.ref l1,.int 0 0] }
abbrev hp2(h:Heap)(l1 l2:Addr):Heap:=hp1 (hp1 h l1) l2
abbrev hp3(h:Heap)(l1 l2 l3:Addr):Heap:=hp1 (hp2 h l1 l2) l3
abbrev hp4(h:Heap)(l1 l2 l3:Addr):Heap:=(hp3 h l1 l2 l3).push { cls:=.type "tuple", data:=.seq #[.ref h.objs.size,.ref (hp1 h l1).objs.size,.ref (hp2 h l1 l2).objs.size] }
end
end Z3
namespace L2
open PySem PySem.Spec PyProof.Rows Z3
section
variable {X:Cx}
end
end L2
namespace L2
open PySem PySem.Spec PyProof.Rows
end L2
namespace ZT
open PySem PySem.Spec PyProof.Rows
theorem tc(a b:Value):checkTypeCall "zip" ⟨[a,b],[]⟩=pure ():=by kernel_rfl
theorem ac(a b d:Value):argsOk "object.__init__" ⟨[a,b,d],[]⟩:=by
 unfold argsOk
 rw[signature?_of (id := "object.__init__")
  (n:=['_','_','t','i','n','i','_','_'])
  (o:=['t','c','e','j','b','o'])
  (by kernel_rfl) PySem.F.owner_object]
 kernel_rfl
structure Ap(n l1 l2:Nat):Prop where
 a1:l1 < n
 a2:l2 < n
section
variable {prog:Program}{w:World}{A:Around}{E:Value→Shared→Prop}{s:Shared}
abbrev hp1(h:Heap)(l1:Addr):Heap:=h.push { cls:=.type "tuple_iterator", data:=.fields #[.ref l1,.int 0 0] }
abbrev hp2(h:Heap)(l1 l2:Addr):Heap:=hp1 (hp1 h l1) l2
abbrev hp4(h:Heap)(l1 l2:Addr):Heap:=(hp2 h l1 l2).push { cls:=.type "tuple", data:=.seq #[.ref h.objs.size,.ref (hp1 h l1).objs.size] }
end
end ZT
namespace L2
open PySem PySem.Spec PyProof.Rows ZT
section
variable {X:Cx}
end
end L2
namespace L2
open PySem PySem.Spec PyProof.Rows
end L2
namespace L2
open PySem PySem.Spec PyProof.Rows
end L2
namespace L2
open PySem PySem.Spec PyProof.Rows
theorem qe_iS{X:Cx}{a b:Expr}{ta tb:TE}{pos:Pos}(ha:QE X a ta)(hb:QE X b tb)(hs:PlainIx b:=by exact fun _ _=>rfl):QE X (.Subscript a b pos) (tOp rIxF ta tb):=qe_ix ix_seqA ha hb hs
section
variable {X:Cx}{elt iter tg:Expr}{ifs:List Expr}{scope:Scope}{pos spos py:Pos}{wi:TI}{g:TG}{tt:TT}{te:TE}
theorem qe_cp(own:List Str)(fr:List (Str×Nat))(hi:QI X tg iter wi)
  (hgx:GExt g own.length) (hB:∀ cl C fp s2 H2,QG (X.comp (own++fr.map (·.1)) scope cl C fp s2 H2) tg g∧QF (X.comp (own++fr.map (·.1)) scope cl C fp s2 H2) ifs tt∧QE (X.comp (own++fr.map (·.1)) scope cl C fp s2 H2) elt te) (hc:X.calm=true:=by rfl)
  (hkind:scope.kind=.function:=by rfl) (hcell:∀ y∈scope.names,y.2≠.cell:=by decide +kernel) (hnames:∀ y∈scope.names,y.2=.local→scope.names.lookup y.1=some .local:=by decide +kernel)
  (hfree:∀ y∈scope.names,y.2=.free→X.env.kindOf y.1=some .cell∨X.env.kindOf y.1=some .free:=by exact free_of (by rfl))
  (hfr:∀ p∈fr,X.N[p.2]?=some p.1∧(X.env.kindOf p.1=some .cell∨X.env.kindOf p.1=some .free)∧(p.1,NameKind.free)∈scope.names∧((relabel scope X.env).names.lookup p.1=some .cell∨(relabel scope X.env).names.lookup p.1=some .free):=by exact fr_of (by rfl))
  (hs:∀ x,foldedSetIterable iter X.env x=pure x:=by intro _;rfl):QE X (.ListComp elt [⟨tg,iter,ifs,0⟩] scope pos) (tComp own.length (fr.map (·.2)) wi g tt te):=qe_comp own fr hc hi hgx hB hkind hcell hnames hfree hfr hs
theorem qs_setP{k:Nat}{y:Str}(own:List Str)(fr:List (Str×Nat))(hNd:X.N.Nodup)(hi:QI X tg iter wi)
  (hgx:GExt g own.length) (hB:∀ cl C fp s2 H2,QG (X.comp (own++fr.map (·.1)) scope cl C fp s2 H2) tg g∧QF (X.comp (own++fr.map (·.1)) scope cl C fp s2 H2) ifs tt∧QE (X.comp (own++fr.map (·.1)) scope cl C fp s2 H2) elt te) (hk:X.N[k]?=some y:=by rfl) (hy:X.env.scope.names.lookup y=some .local:=by rfl) (hc:X.calm=true:=by rfl)
  (hkind:scope.kind=.function:=by rfl) (hcell:∀ y∈scope.names,y.2≠.cell:=by decide +kernel) (hnames:∀ y∈scope.names,y.2=.local→scope.names.lookup y.1=some .local:=by decide +kernel)
  (hfree:∀ y∈scope.names,y.2=.free→X.env.kindOf y.1=some .cell∨X.env.kindOf y.1=some .free:=by exact free_of (by rfl))
  (hfr:∀ p∈fr,X.N[p.2]?=some p.1∧(X.env.kindOf p.1=some .cell∨X.env.kindOf p.1=some .free)∧(p.1,NameKind.free)∈scope.names∧((relabel scope X.env).names.lookup p.1=some .cell∨(relabel scope X.env).names.lookup p.1=some .free):=by exact fr_of (by rfl))
  (hsw:swapsWith (.ListComp elt [⟨tg,iter,ifs,0⟩] scope pos) (some (.Name y py)) spos.line X.env=pure true:=by rfl)
  (hs:∀ x,foldedSetIterable iter X.env x=pure x:=by intro _;rfl):QS X (.Assign [.Name y py] (.ListComp elt [⟨tg,iter,ifs,0⟩] scope pos) spos) (tAsg (tComp own.length (fr.map (·.2)) wi g tt te) (gName k)):=qs_setC own fr hNd hk hy hc hi hgx hB hkind hcell hnames hfree hfr hsw hs
end
section
variable {X:Cx}{e:Expr}{es:List Expr}{te:TE}{t:TA}{pos p:Pos}{x:Str}
theorem qs_sL(i:Nat){pos':Pos}(hN:X.N.Nodup)(he:QE X e te)(hi:X.N[i]?=some x:=by rfl)(hx:Loc X.env.scope x:=by exact Or.inl rfl)(hs:swapsWith e (some (.Name x pos')) pos.line X.env=pure false:=by rfl)(hf:X.fn x=true∨X.env.scope.names.lookup x=some .local:=by first | exact .inl rfl | exact .inr rfl | assumption) :
  QS X (.Assign [.Name x pos'] e pos) (tAsg te (gName i)):=qs_set hN hi hx he hs hf
theorem qe_f{CX:CXT}{k:Nat}{ps:List Str}{sp:Sp}{E:XK}(d:DefOk X.prog X.w X.K X.mg X.base CX k x ps sp)(hr:Room k X.A)(hx:Passes CX X E)(ha:QA X (e::es) t)(hg:Gl X x:=by rfl)
  (hdb:(x == ("__debug__" : Str))=false:=by decide) (he:starEach (e::es) X.env=(false,eval e X.env)::starEach es X.env:=by rfl) (hpl:(backTo pos (starEach es X.env)).any (·.1)=false:=by rfl) :
  QE X (.Call (.Name x p) (e::es) [] pos) (tD sp E t):=qe_d d hr hx hg ha hdb he hpl
theorem qe_g{k:Nat}{ps:List Str}{sp:Sp}(d:DefOk X.prog X.w X.K X.mg X.base CX0 k x ps sp)(ha:QA X (e::es) t)(hr:Room k X.A:=by exact Room.le (by assumption))(hg:Gl X x:=by rfl)
  (hdb:(x == ("__debug__" : Str))=false:=by decide) (he:starEach (e::es) X.env=(false,eval e X.env)::starEach es X.env:=by rfl) (hpl:(backTo pos (starEach es X.env)).any (·.1)=false:=by rfl) :
  QE X (.Call (.Name x p) (e::es) [] pos) (tD sp E0 t):=qe_d d hr pass0 hg ha hdb he hpl
end
section
variable {X:Cx}{a b c:Expr}{ta tb tc:TE}
theorem qa_1(ha:QE X a ta)(h1:starEach [a] X.env=(false,eval a X.env)::starEach [] X.env:=by rfl):QA X [a] (tCons ta tNil):=qa_cons ha qa_nil h1
theorem qa_2(ha:QE X a ta)(hb:QE X b tb)(h1:starEach [a,b] X.env=(false,eval a X.env)::starEach [b] X.env:=by rfl)(h2:starEach [b] X.env=(false,eval b X.env)::starEach [] X.env:=by rfl):QA X [a,b] (tCons ta (tCons tb tNil)):=qa_cons ha (qa_1 hb h2) h1
theorem qa_3(ha:QE X a ta)(hb:QE X b tb)(hc:QE X c tc)(h1:starEach [a,b,c] X.env=(false,eval a X.env)::starEach [b,c] X.env:=by rfl)(h2:starEach [b,c] X.env=(false,eval b X.env)::starEach [c] X.env:=by rfl)(h3:starEach [c] X.env=(false,eval c X.env)::starEach [] X.env:=by rfl):QA X [a,b,c] (tCons ta (tCons tb (tCons tc tNil))):=qa_cons ha (qa_2 hb hc h2 h3) h1
end
end L2
namespace L2
open PySem PySem.Spec PyProof.Rows
section
variable {κ:Type}[DecidableEq κ]
def valV(kvs:List (κ×V))(k:κ):Option V:=(kvs.find? fun kv=>decide (kv.1=k)).map (·.2)
def putK(kvs:List (κ×V))(k:κ)(v:V):List (κ×V) :=
 if (kvs.any fun kv=>decide (kv.1=k))=true then kvs.map (fun kv=>if kv.1=k then (kv.1,v) else kv) else kvs++[(k,v)]
def dropK(kvs:List (κ×V))(k:κ):List (κ×V):=kvs.filter fun kv=>decide (kv.1≠k)
theorem valV_pos{p:κ×V}{r:List (κ×V)}{k:κ}(e:p.1=k):valV (p::r) k=some p.2:=by simp[valV,List.find?_cons,e]
theorem valV_neg{p:κ×V}{r:List (κ×V)}{k:κ}(e:¬ p.1=k):valV (p::r) k=valV r k:=by simp[valV,List.find?_cons,e]
theorem KV.val{kvs:List (κ×V)}{vs:List (κ×Value)}(r:KV kvs vs)(k:κ):RelO (valV kvs k) (valueAt vs k):=by
 unfold KV at r
 induction r with
 | nil=>exact True.intro
 | @cons p q ps qs h t ih =>
  obtain⟨h1,h2⟩:=h
  by_cases e:p.1=k
  ·have e':q.1=k:=h1.symm.trans e
   have b:valueAt (q::qs) k=some q.2:=by simp[valueAt,List.find?_cons,e']
   rw[valV_pos e,b];exact h2
  ·have e':¬ q.1=k:=fun z=>e (h1.trans z)
   have b:valueAt (q::qs) k=valueAt qs k:=by simp[valueAt,List.find?_cons,e']
   rw[valV_neg e,b];exact ih
end
theorem kV_is{P:Program}{w:World}{k:Key}{u:Value}(r:RelV (kV k) u):(mixKind P w).is k u=true:=by
 cases k with
 | inl i=>obtain⟨t,e⟩:=(show ∃ t,u=Value.int i t from r);subst e;exact mixKind_int P w i t
 | inr x=>obtain⟨t,e⟩:=(show ∃ t,u=Value.str x t from r);subst e;exact mixKind_str P w x t
abbrev KT(H:Hp):List (List Key×V)→List (List Key×Addr×Value)→Prop:=Paired fun p q=>p.1=q.1∧H q.2.1=some (.tup (p.1.map kV))∧RelV p.2 q.2.2
section
variable {P:Program}{w:World}{H:Hp}{h:Heap}{a:Addr}
end
section
variable {X:Cx}{pins:List (Addr×Obj)}{σ:St}{H:Hp}{s:Shared}{a:Addr}{y v:V}{u r:Value}{o:Option V}{A:Around}{E:Value→Shared→Prop}
end
section
variable {X:Cx}{pins:List (Addr×Obj)}{σ:St}{H:Hp}{s:Shared}{a:Addr}{kvs:List (Key×V)}{k:Key}{u:Value}{A:Around}{E:Value→Shared→Prop}
end
def NoSl(i:Expr):Prop:=∀ ov iv,subscripted i false ov iv=operate [ov,iv] (getItem ov iv)
theorem subD_of{prog:Program}{w:World}{A:Around}{E:Value→Shared→Prop}{s:Shared}{env:Env}{value slice:Expr}{pos:Pos}{T id:String}{Q:Value→Shared→Prop}
  (hl:typeLookup (.type T) "__getitem__" = pure (some (.builtin id))) (hs:NoSl slice)
  (h:wpAny (model prog w) A (eval value env) (fun o s₁=>wpAny (model prog w) A (eval slice env) (fun i s₂=>s₂.TypeIs o T∧wpAny (model prog w) A (getItem o i) Q E s₂) E s₁) E s) :
  wpAny (model prog w) A (eval (.Subscript value slice pos) env) Q E s:=by
 refine Subscript_ (wpAny_mono h (fun o s₁ h₁=>wpAny_mono h₁ (fun i s₂ h₂=>?_) fun _ _ x=>x) fun _ _ x=>x)
 obtain⟨hT,h₂⟩:=h₂
 unfold subscriptTail
 refine wpAny_bind ?_
 rw[getitemInPython_of_ne hT.not_modules]
 refine wpAny_bind (wpAny_specialOf hT hl ?_)
 have fin:wpAny (model prog w) A (subscripted slice false o i) (fun r s₃=>wpAny (model prog w) A (letTemporaryGo value o r >>= fun _=>pure r) Q E s₃) E s₂:=by
  rw[hs o i]
  exact wpAny_operating (wpAny_mono h₂ (fun r s₃ h₃=>wpAny_bind (wpAny_letTemporaryGo (wpAny_pure h₃))) fun _ _ x=>x)
 first
  | exact wpAny_pure (wpAny_bind fin)
  | exact wpAny_bind (wpAny_pure (wpAny_bind fin))
  | exact wpAny_bind fin
section
variable {X:Cx}{o i e value:Expr}{pos pos' tpos:Pos}{td ty tv:TE}
end
section
variable {X:Cx}{pos:Pos}
end
structure M1(X:Cx)(o:Expr)(m:Str)(apos:Pos)(e:Expr)(cpos:Pos):Prop where
 base:attributeBase o m X.env (eval o X.env)=eval o X.env
 few:((backTo cpos (starEach [e] X.env)).all (fun x=>!x.1) && (backToKw cpos (keywordEach [] X.env)).all (fun x=>x.1.isSome)
  && decide (([e]:List Expr).length+([]:List Keyword).length+(if ([]:List Keyword).isEmpty then 0 else 1) < 30))=true
 line:(apos.endLine == cpos.line)=true
 trees:backTo cpos (starEach [e] X.env)=[(false,eval e X.env)]
structure M2(X:Cx)(o:Expr)(m:Str)(apos:Pos)(e f:Expr)(cpos:Pos):Prop where
 base:attributeBase o m X.env (eval o X.env)=eval o X.env
 few:((backTo cpos (starEach [e,f] X.env)).all (fun x=>!x.1) && (backToKw cpos (keywordEach [] X.env)).all (fun x=>x.1.isSome)
  && decide (([e,f]:List Expr).length+([]:List Keyword).length+(if ([]:List Keyword).isEmpty then 0 else 1) < 30))=true
 line:(apos.endLine == cpos.line)=true
 trees:backTo cpos (starEach [e,f] X.env)=[(false,eval e X.env),(false,eval f X.env)]
section
variable {X:Cx}{pins:List (Addr×Obj)}{σ:St}{H:Hp}{s:Shared}{a:Addr}{y d:V}{u r:Value}{o:Option V}{A:Around}{E:Value→Shared→Prop}
end
section
variable {X:Cx}{o e f:Expr}{apos cpos:Pos}{td ty tx:TE}
end
section
variable {X:Cx}{pins:List (Addr×Obj)}{σ:St}{H:Hp}{s:Shared}{a:Addr}{kvs:List (Key×V)}{A:Around}{E:Value→Shared→Prop}
end
section
variable {X:Cx}{pins:List (Addr×Obj)}{σ:St}{H:Hp}{s:Shared}{a:Addr}{y:V}{u:Value}{A:Around}{E:Value→Shared→Prop}
end
end L2
namespace L2
open PySem PySem.Spec PyProof.Rows
section
variable {X:Cx}
end
end L2
namespace L2
open PySem PySem.Spec PyProof.Rows
section
variable {X:Cx}
end
end L2
namespace ZL
open PySem PySem.Spec PyProof.Rows ZT
section
variable {prog:Program}{w:World}{A:Around}{E:Value→Shared→Prop}{s:Shared}
abbrev hp1(h:Heap)(l1:Addr):Heap:=h.push { cls:=.type "tuple_iterator", data:=.fields #[.ref l1,.int 0 0] }
abbrev hp2(h:Heap)(l1 l2:Addr):Heap:=(hp1 h l1).push { cls:=.type "list_iterator", data:=.fields #[.ref l2,.int 0 0] }
abbrev hp4(h:Heap)(l1 l2:Addr):Heap:=(hp2 h l1 l2).push { cls:=.type "tuple", data:=.seq #[.ref h.objs.size,.ref (hp1 h l1).objs.size] }
end
end ZL
namespace L2
open PySem PySem.Spec PyProof.Rows ZT ZL
section
variable {X:Cx}
end
end L2
namespace L2
open PySem PySem.Spec PyProof.Rows
end L2
namespace L2
open PySem PySem.Spec PyProof.Rows
abbrev kvS(p:Str×V):Key×V:=(Sum.inr p.1,p.2)
structure KDict(P:Params)(K:PySem.W.Frag)(d:Addr)(D:List (Str×V)):Prop where
 lo:(d == sysModules)=false
 nd:(D.map (·.1)).Nodup
 few:D.length≤1000
 at':∃(o:Obj)(es:Array DictEntry)(ep:Nat),K.lookup d=some o∧o.ExactDict∧o.data=.dict es ep∧Paired (fun (p:Str×V) (e:DictEntry)=>e.hash=PyData.keyHash P p.1∧(∃ t,e.key=.str p.1 t)∧RelV p.2 e.val) D es.toList
theorem kd_pairs{prog:Program}{w:World}:∀ {D:List (Str×V)} {es:List DictEntry},Paired (fun (p:Str×V) (e:DictEntry)=>e.hash=PyData.keyHash w.params p.1∧(∃ t,e.key=.str p.1 t)∧RelV p.2 e.val) D es →
  ∃ vs:List (Key×Value),KV (D.map kvS) vs∧Pairs (mixKind prog w) es vs∧vs.map (·.1)=D.map (fun p=>(Sum.inr p.1:Key))∧∀ e∈es,∃ k,(mixKind prog w).is k e.key=true∧e.hash=(mixKind prog w).hash k
 | [],_,.nil=>⟨[],.nil,.nil,rfl,fun e h=>by cases h⟩
 | p::D,e::es,.cons ⟨h1,⟨t,h2⟩,h3⟩ r=>by
  obtain⟨vs,a1,a2,a3,a4⟩:=kd_pairs (prog:=prog) r
  have k1:(mixKind prog w).is (.inr p.1) e.key=true:=by rw[h2];exact mixKind_str prog w p.1 t
  refine⟨(.inr p.1,e.val)::vs,.cons ⟨rfl,h3⟩ a1,.cons k1 rfl a2,by rw[List.map_cons,List.map_cons,a3],fun x hx=>?_⟩
  rcases List.mem_cons.mp hx with rfl | hx
  ·exact⟨.inr p.1,k1,h1⟩
  ·exact a4 x hx
theorem KDict.of{prog:Program}{w:World}{K:PySem.W.Frag}{d:Addr}{D:List (Str×V)}{h:Heap}(x:KDict w.params K d D)(X:K.In h):∃ vs,KV (D.map kvS) vs∧h.DictOf (mixKind prog w) d vs:=by
 obtain⟨o,es,ep,a1,a2,a3,a4⟩:=x.at'
 obtain⟨vs,b1,b2,b3,b4⟩:=kd_pairs (prog:=prog) a4
 refine⟨vs,b1,o,es,ep,X _ _ a1,a2,a3,fun e he=>b4 e (Array.mem_toList_iff.mpr he),b2,?_⟩
 rw[b3]
 have:=x.nd
 rw[List.nodup_iff_pairwise_ne,List.pairwise_map] at this ⊢
 exact this.imp fun h z=>h (Sum.inr.inj z)
section
variable {X:Cx}
theorem valV_kvS{D:List (Str×V)}{z:Str}{v:V}(h:D.lookup z=some v):valV (D.map kvS) (Sum.inr z)=some v:=by
 induction D with
 | nil=>cases h
 | cons p D ih =>
  unfold valV
  rw[List.map_cons,List.find?_cons]
  rw[List.lookup_cons] at h
  by_cases e:z=p.1
  ·have e':decide ((kvS p).1=Sum.inr z)=true:=decide_eq_true (by rw[e])
   rw[e']
   have:(z == p.1)=true:=by rw[e];exact beq_self_eq_true _
   rw[this] at h
   exact h
  ·have e':decide ((kvS p).1=Sum.inr z)=false:=decide_eq_false fun q=>e (Sum.inr.inj q).symm
   rw[e']
   have:(z == p.1)=false:=beq_eq_false_iff_ne.mpr e
   rw[this] at h
   exact ih h
def rIsiT:List V→Hp→VK→Prop:=fun xs H Q=>∃ a q,xs=[.ref a,.ref q]∧H q=some (.tup [.ty "list", .ty "tuple"])∧((∃ ys,H a=some (.tup ys))∨∃ ys,H a=some (.lst ys))∧Q (.bl true) H
theorem kit_lt(K:PySem.W.Frag):PySem.W.kitAny K (.type "list") [.type "list", .type "tuple"]=some true:=by
 unfold PySem.W.kitAny
 rw[show PySem.W.kitOne K (.type "list") (.type "list")=some true from rfl]
theorem kit_tl(K:PySem.W.Frag):PySem.W.kitAny K (.type "tuple") [.type "list", .type "tuple"]=some true:=by
 unfold PySem.W.kitAny
 rw[kit_of K "tuple" (by decide) "list" (by decide)]
 show PySem.W.kitAny K (.type "tuple") [.type "tuple"]=some true
 unfold PySem.W.kitAny
 rw[show PySem.W.kitOne K (.type "tuple") (.type "tuple")=some true from rfl]
theorem call_isiT:CallR X (.builtin "isinstance") rIsiT:=by
 intro pins s σ H xs us Q I r h
 obtain⟨a,q,rfl,hq,ha,k⟩:=h
 obtain⟨u,v,rfl,ru,rv⟩:=r.two
 cases rv
 cases ru
 obtain⟨its,rt,pt,_⟩:=I.tuple (SqT.of hq)
 obtain⟨a1,a2,e1,r1,r2⟩:=rt.two
 cases r1
 cases r2
 subst e1
 obtain⟨o,ho,hc,n,hd⟩:=pt
 obtain⟨oc,od,odt,osl⟩:=o
 simp only at hc hd
 subst hc hd
 rcases ha with ⟨ys,ea⟩ | ⟨ys,ea⟩
 ·obtain⟨_,_,_,p⟩:=(show ObjOk X.prog X.w H s.heap a (.tup ys) from I.hok a _ ea)
  obtain⟨o',h1,h2,_⟩:=p
  exact PySem.W.kia_tup PySem.W.kitx_tuple I.kIn ⟨o',h1,h2⟩ ho (kit_tl X.K) (fun z=>nomatch z) fun tk=>⟨.bl true,H,I.tok tk,rfl,k⟩
 ·obtain⟨_,_,n',_,h1⟩:=(show ObjOk X.prog X.w H s.heap a (.lst ys) from I.hok a _ ea)
  exact PySem.W.kia_tup PySem.W.kitx_list I.kIn ⟨_,h1,rfl⟩ ho (kit_lt X.K) (fun z=>nomatch z) fun tk=>⟨.bl true,H,I.tok tk,rfl,k⟩
end
theorem rec0{P:Program}{w:World}{K:PySem.W.Frag}{mg:Str→Option Value}{base:Heap}{CX:CXT}{k:Nat}{x:Str}{st:Stmt}{f:Addr}{fd:FuncData}{ps:List Str}{sp:Sp}(D:DefAt K mg x st f fd)(b:Binds K fd ps [])(hn:∀ vs H Q E,¬ sp vs H Q E):DefOk P w K mg base CX k x ps sp :=
 D.ok ⟨fun _ _ _ _ h=>(hn _ _ _ _ h).elim,fun _ _ _ _ _ _ _ _ _ _ _ _ _ h=>(hn _ _ _ _ h).elim⟩ b
section
variable {H:Hp}{Q:VK}{σ:St}
theorem i_tIf{t:TT}{ta tb:TE}(h:t σ H fun c H1=>if c=true then ta σ H1 Q else tb σ H1 Q):tIf t ta tb σ H Q:=h
end
theorem qe_globR{X:Cx}{x:Str}{d:Addr}{pos:Pos}(hg:Gl X x)(hm:X.mg x=some (.ref d))(hd:(x == ("__debug__" : Str))=false:=by decide):QE X (.Name x pos) (tC (.ref d)):=⟨pe_glob hg hm rfl hd⟩
end L2
namespace L2
open PySem
def adv(m:Nat)(p:SetTable.Probe):SetTable.Probe :=
 if p.more > 0 then { p with j:=p.j+1,more:=p.more - 1 } else
 { p with j:=(SetTable.leap m p.i p.perturb).1,more:=SetTable.runEnd m (SetTable.leap m p.i p.perturb).1 - (SetTable.leap m p.i p.perturb).1,i:=(SetTable.leap m p.i p.perturb).1,perturb:=(SetTable.leap m p.i p.perturb).2 }
theorem adv_eq(t:SetTable)(p:SetTable.Probe):t.advance p=adv t.mask p:=rfl
def lps(m:Nat)(h:Int):Nat→Nat×Nat
 | 0=>(SetTable.bits h % (m+1),SetTable.bits h)
 | n+1=>SetTable.leap m (lps m h n).1 (lps m h n).2
def run(m i:Nat):Nat:=SetTable.runEnd m i - i
theorem run_le(m i:Nat):run m i≤9:=by
 unfold run SetTable.runEnd
 split<;>omega
def pbs(m:Nat)(h:Int)(n k:Nat):SetTable.Probe:={ j:=(lps m h n).1+k,more:=run m (lps m h n).1 - k,i:=(lps m h n).1,perturb:=(lps m h n).2,dummy:=none }
def pth(m:Nat)(h:Int):Nat→SetTable.Probe
 | 0=>pbs m h 0 0
 | n+1=>adv m (pth m h n)
def idx(m:Nat)(h:Int):Nat→Nat
 | 0=>0
 | n+1=>idx m h n+run m (lps m h n).1+1
theorem idx_le(m:Nat)(h:Int):∀ n,idx m h n≤10*n
 | 0=>Nat.le_refl _
 | n+1=>by
  have:=idx_le m h n
  have:=run_le m (lps m h n).1
  show idx m h n+run m (lps m h n).1+1≤_
  omega
theorem pth_run{m:Nat}{h:Int}{n:Nat}(e:pth m h (idx m h n)=pbs m h n 0):∀ k,k≤run m (lps m h n).1→pth m h (idx m h n+k)=pbs m h n k
 | 0,_=>e
 | k+1,hk=>by
  show adv m (pth m h (idx m h n+k))=_
  rw[pth_run e k (by omega)]
  unfold adv
  rw[if_pos (show (pbs m h n k).more > 0 by show run m (lps m h n).1 - k > 0;omega)]
  unfold pbs
  simp only[SetTable.Probe.mk.injEq,and_true]
  constructor<;>omega
theorem pth_idx(m:Nat)(h:Int):∀ n,pth m h (idx m h n)=pbs m h n 0
 | 0=>rfl
 | n+1=>by
  show adv m (pth m h (idx m h n+run m (lps m h n).1))=_
  rw[pth_run (pth_idx m h n) _ (Nat.le_refl _)]
  unfold adv
  rw[if_neg (show ¬ (pbs m h n _).more > 0 by show ¬ run m (lps m h n).1 - run m (lps m h n).1 > 0;omega)]
  rfl
theorem pth_at(m:Nat)(h:Int)(n k:Nat)(hk:k≤run m (lps m h n).1):(pth m h (idx m h n+k)).j=(lps m h n).1+k:=by
 rw[pth_run (pth_idx m h n) k hk]
 rfl
theorem pth_dummy(m:Nat)(h:Int):∀ n,(pth m h n).dummy=none
 | 0=>rfl
 | n+1=>by
  show (adv m (pth m h n)).dummy=none
  unfold adv
  split<;>exact pth_dummy m h n
theorem lps_low(m:Nat)(h:Int):∀ n,(lps m h n).2=SetTable.bits h / 32 ^ n
 | 0=>by simp[lps]
 | n+1=>by
  show (lps m h n).2 / 32=_
  rw[lps_low m h n,Nat.div_div_eq_div_mul,Nat.pow_succ]
theorem bits_lt(h:Int):SetTable.bits h < 2 ^ 64:=by
 unfold SetTable.bits
 have:0≤h % (2 ^ 64:Int):=Int.emod_nonneg _ (by decide)
 have:h % (2 ^ 64:Int) < 2 ^ 64:=Int.emod_lt_of_pos _ (by decide)
 omega
theorem lps_z{m:Nat}{h:Int}{n:Nat}(hn:13≤n):(lps m h n).2=0:=by
 rw[lps_low]
 refine Nat.div_eq_of_lt (Nat.lt_of_lt_of_le (bits_lt h) ?_)
 exact Nat.le_trans (by decide:2 ^ 64≤32 ^ 13) (Nat.pow_le_pow_right (by decide) hn)
theorem lps_lt(m:Nat)(h:Int):∀ n,(lps m h n).1 < m+1
 | 0=>Nat.mod_lt _ (Nat.succ_pos _)
 | n+1=>Nat.mod_lt _ (Nat.succ_pos _)
def itr(m:Nat):Nat→Nat→Nat
 | 0,i=>i
 | k+1,i=>(itr m k i*5+1) % (m+1)
theorem lps_itr(m:Nat)(h:Int)(n:Nat)(hn:13≤n):∀ k,(lps m h (n+k)).1=itr m k (lps m h n).1
 | 0=>rfl
 | k+1=>by
  show ((lps m h (n+k)).1*5+1+(lps m h (n+k)).2 / 32) % (m+1)=_
  rw[lps_z (by omega),lps_itr m h n hn k]
  rfl
def Msk(m:Nat):Prop:=m=7∨m=31
theorem itr7:∀ i,i < 8→∀ e,e < 8→∃ k,k < 8∧itr 7 k i=e:=by decide +kernel
theorem itr31:∀ i,i < 32→∀ e,e < 32→∃ k,k < 32∧itr 31 k i=e:=by decide +kernel
theorem lps_all{m:Nat}(hm:Msk m)(h:Int){e:Nat}(he:e≤m):∃ n,n < SetTable.turns m∧(lps m h n).1=e:=by
 have hi:=lps_lt m h 13
 obtain⟨k,hk,ek⟩:∃ k,k < m+1∧itr m k (lps m h 13).1=e:=by
  rcases hm with rfl | rfl
  ·exact itr7 _ hi _ (by omega)
  ·exact itr31 _ hi _ (by omega)
 refine⟨13+k,?_,?_⟩
 ·unfold SetTable.turns;omega
 ·rw[lps_itr m h 13 (Nat.le_refl _),ek]
theorem pth_all{m:Nat}(hm:Msk m)(h:Int){e:Nat}(he:e≤m):∃ n,n < 10*SetTable.turns m∧(pth m h n).j=e:=by
 obtain⟨n,hn,e1⟩:=lps_all hm h he
 refine⟨idx m h n,?_,?_⟩
 ·have:=idx_le m h n;omega
 ·have:=pth_at m h n 0 (Nat.zero_le _)
  rw[Nat.add_zero,Nat.add_zero] at this
  rw[this,e1]
theorem least{P:Nat→Prop}:∀ B,(∃ n,n < B∧P n)→∃ N,N < B∧P N∧∀ M,M < N→¬ P M
 | 0,⟨n,hn,_⟩=>absurd hn (Nat.not_lt_zero _)
 | B+1,⟨n,hn,hp⟩=>by
  by_cases c:∃ n,n < B∧P n
  ·obtain⟨N,a,b,d⟩:=least B c
   exact⟨N,by omega,b,d⟩
  ·have:n=B:=by
    by_cases z:n=B
    ·exact z
    ·exact absurd ⟨n,by omega,hp⟩ c
   subst this
   exact⟨n,by omega,hp,fun M hM hP=>c ⟨M,hM,hP⟩⟩
theorem all_in:∀(n:Nat)(l:List Nat),(∀ e,e < n→e∈l)→n≤l.length
 | 0,_,_=>Nat.zero_le _
 | n+1,l,h=>by
  have hm:=h n (Nat.lt_succ_self _)
  have:=all_in n (l.erase n) fun e he=>(List.mem_erase_of_ne (Nat.ne_of_lt he)).mpr (h e (by omega))
  rw[List.length_erase_of_mem hm] at this
  have:=List.length_pos_of_mem hm
  omega
theorem hole{m:Nat}{l:List Nat}(h:l.length≤m):∃ e,e≤m∧e∉l:=by
 by_cases c:∃ e,e≤m∧e∉l
 ·exact c
 ·have:=all_in (m+1) l fun e he=>by
   by_cases z:e∈l
   ·exact z
   ·exact absurd ⟨e,by omega,z⟩ c
  omega
theorem pth_hole{m:Nat}(hm:Msk m)(h:Int){l:List Nat}(hl:l.length≤m):∃ N,N < 10*SetTable.turns m∧(pth m h N).j∉l∧∀ M,M < N→(pth m h M).j∈l:=by
 obtain⟨e,he,hn⟩:=hole hl
 obtain⟨n,h1,h2⟩:=pth_all hm h he
 obtain⟨N,a,b,c⟩:=least (P:=fun n=>(pth m h n).j∉l) _ ⟨n,h1,by rw[h2];exact hn⟩
 exact⟨N,a,b,fun M hM=>by
  by_cases z:(pth m h M).j∈l
  ·exact z
  ·exact absurd z (c M hM)⟩
theorem ris_mem{xs:Array Nat}(h:Ris xs){j i:Nat}(e:xs[i]?=some j):SetTable.below xs j=i:=by
 obtain⟨h1,h2,h3⟩:=below_ok h j
 have hi:i < xs.size:=(Array.getElem?_eq_some_iff.mp e).1
 have ei:xs.getD i 0=j:=by simp[Array.getD,hi,(Array.getElem?_eq_some_iff.mp e).2]
 generalize SetTable.below xs j=p at h1 h2 h3
 by_cases c:i < p
 ·have:=h2 i c;omega
 ·by_cases d:p=i
  ·exact d
  ·have:=h3 p (Nat.le_refl _) (by omega)
   have:=h.lt hi (by omega:p < i)
   omega
theorem slot_live{t:SetTable}(h:Ris t.place){j i:Nat}(e:t.place[i]?=some j):t.slot j=.live i:=by
 unfold SetTable.slot
 rw[ris_mem h e]
 dsimp only
 rw[e]
 simp
theorem slot_none{t:SetTable}(h:Ris t.place)(hd:t.dummies=#[]){j:Nat}(e:j∉t.place.toList):t.slot j=.empty:=by
 unfold SetTable.slot
 rw[hd,has_nil]
 have:t.place[SetTable.below t.place j]?≠some j:=fun z=>e (by
  obtain⟨a,b⟩:=Array.getElem?_eq_some_iff.mp z
  rw[← b]
  simp)
 simp[this]
theorem in_place{xs:Array Nat}{j:Nat}(h:j∈xs.toList):∃ i:Nat,xs[i]?=some j:=by
 obtain⟨i,hi,e⟩:=List.getElem_of_mem h
 exact⟨i,by rw[← Array.getElem?_toList,List.getElem?_eq_getElem hi,e]⟩
theorem place_in{xs:Array Nat}{j i:Nat}(h:xs[i]?=some j):j∈xs.toList:=by
 rw[← Array.getElem?_toList] at h
 exact List.mem_of_getElem? h
theorem probe_way{t:SetTable}(hr:Ris t.place)(hd:t.dummies=#[])(hash:Nat→Int)(h:Int){N:Nat}(hN:(pth t.mask h N).j∉t.place.toList) :
  ∀(f n:Nat),n≤N→N < n+f→(∀ M,n≤M→M < N→(pth t.mask h M).j∈t.place.toList) →
   (∃ k i,n≤k∧k < N∧t.place[i]?=some (pth t.mask h k).j∧hash i=h∧(∀ M i,n≤M→M < k→t.place[i]?=some (pth t.mask h M).j→hash i≠h)∧SetTable.probe.go t hash h f (pth t.mask h n)=some (.candidate (pth t.mask h k).j i (pth t.mask h (k+1))))
   ∨ ((∀ M i,n≤M→M < N→t.place[i]?=some (pth t.mask h M).j→hash i≠h)∧SetTable.probe.go t hash h f (pth t.mask h n)=some (.empty (pth t.mask h N).j none))
 | 0,n,h1,h2,_=>absurd h2 (by omega)
 | f+1,n,h1,h2,h3=>by
  unfold SetTable.probe.go
  by_cases c:n=N
  ·subst c
   rw[slot_none hr hd hN]
   refine .inr ⟨fun M i a b=>absurd b (by omega),?_⟩
   show some (SetTable.Met.empty _ (pth t.mask h n).dummy)=_
   rw[pth_dummy]
  ·obtain⟨i,hi⟩:=in_place (h3 n (Nat.le_refl _) (by omega))
   rw[slot_live hr hi]
   dsimp only
   by_cases d:hash i=h
   ·refine .inl ⟨n,i,Nat.le_refl _,by omega,hi,d,fun M i a b=>absurd b (by omega),?_⟩
    rw[if_pos (by rw[d];exact beq_self_eq_true _),adv_eq]
    rfl
   ·rw[if_neg (by simpa using d),adv_eq]
    have un:∀ i',t.place[i']?=some (pth t.mask h n).j→hash i'≠h:=fun i' e=>by
     have a:=ris_mem hr e
     have b:=ris_mem hr hi
     rw[← a,b];exact d
    rcases probe_way hr hd hash h hN f (n+1) (by omega) (by omega) (fun M a b=>h3 M (by omega) b) with ⟨k,i',a1,a2,a3,a4,a5,a6⟩ | ⟨a1,a2⟩
    ·refine .inl ⟨k,i',by omega,a2,a3,a4,fun M i'' b1 b2 b3=>?_,a6⟩
     by_cases z:M=n
     ·subst z;exact un _ b3
     ·exact a5 M i'' (by omega) b2 b3
    ·refine .inr ⟨fun M i'' b1 b2 b3=>?_,a2⟩
     by_cases z:M=n
     ·subst z;exact un _ b3
     ·exact a1 M i'' (by omega) b2 b3
end L2
namespace L2
open PySem
def Fre(ow:Array (Option Nat))(j:Nat):Prop:=(ow.getD j (some 0)).isNone=true
theorem Fre.at{ow:Array (Option Nat)}{j:Nat}(h:Fre ow j):ow[j]?=some none:=by
 unfold Fre at h
 by_cases c:j < ow.size
 ·have:ow.getD j (some 0)=ow[j]:=by simp[Array.getD,c]
  rw[this] at h
  rw[Array.getElem?_eq_getElem c]
  cases e:ow[j] with
  | none=>rfl
  | some a=>rw[e] at h;cases h
 ·have:ow.getD j (some 0)=some 0:=by simp[Array.getD,c]
  rw[this] at h
  cases h
theorem Fre.of{ow:Array (Option Nat)}{j:Nat}(h:ow[j]?=some none):Fre ow j:=by
 obtain⟨c,e⟩:=Array.getElem?_eq_some_iff.mp h
 unfold Fre
 simp[Array.getD,c,e]
theorem free_way{m:Nat}{ow:Array (Option Nat)}{h:Int}:∀(f n j:Nat),SetTable.layClean.free m ow f (lps m h n).1 (lps m h n).2=some j→(∀ M,M < idx m h n→¬ Fre ow (pth m h M).j)→∃ N,(pth m h N).j=j∧Fre ow j∧∀ M,M < N→¬ Fre ow (pth m h M).j
 | 0,n,j,e,_=>by cases e
 | f+1,n,j,e,hM=>by
  unfold SetTable.layClean.free at e
  have er:SetTable.runEnd m (lps m h n).1+1 - (lps m h n).1=run m (lps m h n).1+1:=by
   unfold run SetTable.runEnd
   split<;>omega
  rw[er] at e
  cases hf:(List.range (run m (lps m h n).1+1)).find? fun k=>(ow.getD ((lps m h n).1+k) (some 0)).isNone with
  | some k =>
   rw[hf] at e
   cases e
   obtain⟨h1,h2,h3⟩:=List.find?_range_eq_some.mp hf
   have hk:k≤run m (lps m h n).1:=by have:=List.mem_range.mp h2;omega
   refine⟨idx m h n+k,pth_at m h n k hk,h1,fun M hM' z=>?_⟩
   by_cases c:M < idx m h n
   ·exact hM M c z
   ·obtain⟨d,rfl⟩:∃ d,M=idx m h n+d:=⟨M - idx m h n,by omega⟩
    have:=h3 d (by omega)
    rw[pth_at m h n d (by omega)] at z
    unfold Fre at z
    rw[z] at this
    cases this
  | none =>
   rw[hf] at e
   have hn:=List.find?_range_eq_none.mp hf
   refine free_way f (n+1) j e fun M hM' z=>?_
   by_cases c:M < idx m h n
   ·exact hM M c z
   ·obtain⟨d,rfl⟩:∃ d,M=idx m h n+d:=⟨M - idx m h n,by omega⟩
    have hd:d < run m (lps m h n).1+1:=by
     have:idx m h (n+1)=idx m h n+run m (lps m h n).1+1:=rfl
     omega
    have:=hn d hd
    rw[pth_at m h n d (by omega)] at z
    unfold Fre at z
    rw[z] at this
    cases this
theorem free_some{m:Nat}{ow:Array (Option Nat)}{h:Int}:∀(f n:Nat),(∃ k,k < f∧Fre ow (lps m h (n+k)).1)→∃ j,SetTable.layClean.free m ow f (lps m h n).1 (lps m h n).2=some j
 | 0,n,⟨k,hk,_⟩=>absurd hk (Nat.not_lt_zero _)
 | f+1,n,⟨k,hk,hF⟩=>by
  unfold SetTable.layClean.free
  cases hf:(List.range (SetTable.runEnd m (lps m h n).1+1 - (lps m h n).1)).find? fun k=>(ow.getD ((lps m h n).1+k) (some 0)).isNone with
  | some d=>exact⟨_,rfl⟩
  | none =>
   have hn:=List.find?_range_eq_none.mp hf
   cases k with
   | zero =>
    have:=hn 0 (by unfold SetTable.runEnd;split<;>omega)
    rw[Nat.add_zero] at this
    unfold Fre at hF
    rw[Nat.add_zero] at hF
    rw[hF] at this
    cases this
   | succ k=>exact free_some f (n+1) ⟨k,by omega,by rw[show n+1+k=n+(k+1) by omega];exact hF⟩
structure OwnOk(m:Nat)(hs:List Int)(ow:Array (Option Nat))(k:Nat)(pos:Nat→Nat):Prop where
 sz:ow.size=m+1
 «at»:∀ a,a < k→ow[pos a]?=some (some a)
 only:∀ j a,ow[j]?=some (some a)→a < k∧j=pos a
 way:∀ a,a < k→∃ N,(pth m (hs.getD a 0) N).j=pos a∧∀ M,M < N→¬ Fre ow (pth m (hs.getD a 0) M).j
def layF(m:Nat)(acc:Option (Array (Option Nat)×Nat))(h:Int):Option (Array (Option Nat)×Nat):=do
  let (owner,k) ← acc
  let j ← SetTable.layClean.free m owner (SetTable.turns m) (SetTable.bits h % (m+1)) (SetTable.bits h)
  pure (owner.setIfInBounds j (some k),k+1)
theorem lay_step{m:Nat}(hm:Msk m){hs:List Int}{ow:Array (Option Nat)}{k:Nat}{pos:Nat→Nat}(x:OwnOk m hs ow k pos)(hk:k≤m){h:Int}(hh:hs[k]?=some h):∃ ow' pos',layF m (some (ow,k)) h=some (ow',k+1)∧OwnOk m hs ow' (k+1) pos':=by
 obtain⟨e,he,hne⟩:=hole (m:=m) (l:=(List.range k).map pos) (by rw[List.length_map,List.length_range];exact hk)
 have fe:Fre ow e:=by
  have hlt:e < ow.size:=by rw[x.sz];omega
  cases q:ow[e] with
  | none=>exact Fre.of (by rw[Array.getElem?_eq_getElem hlt,q])
  | some a =>
   obtain⟨a1,a2⟩:=x.only e a (by rw[Array.getElem?_eq_getElem hlt,q])
   exact absurd (List.mem_map.mpr ⟨a,List.mem_range.mpr a1,a2.symm⟩) hne
 obtain⟨n,hn,en⟩:=lps_all hm h he
 obtain⟨j,ej⟩:=free_some (m:=m) (ow:=ow) (h:=h) (SetTable.turns m) 0 ⟨n,hn,by rw[Nat.zero_add,en];exact fe⟩
 obtain⟨N,b1,b2,b3⟩:=free_way _ 0 j ej fun M hM=>absurd hM (Nat.not_lt_zero _)
 have hj:j < ow.size:=(Array.getElem?_eq_some_iff.mp b2.at).1
 have sj:(ow.setIfInBounds j (some k))[j]?=some (some k):=by simp[hj]
 have sn:∀ i,i≠j→(ow.setIfInBounds j (some k))[i]?=ow[i]?:=fun i hi=>by
  rw[Array.getElem?_setIfInBounds_ne (Ne.symm hi)]
 have nf:∀ i,¬ Fre ow i→¬ Fre (ow.setIfInBounds j (some k)) i:=fun i hi z=>by
  by_cases c:i=j
  ·subst c;exact hi b2
  ·have:=z.at
   rw[sn i c] at this
   exact hi (Fre.of this)
 have pj:∀ a,a < k→pos a≠j:=fun a ha z=>by
  have:=x.at a ha
  rw[z,b2.at] at this
  cases this
 refine⟨ow.setIfInBounds j (some k),fun a=>if a=k then j else pos a,?_,?_,?_,?_,?_⟩
 ·unfold layF
  show ((SetTable.layClean.free m ow (SetTable.turns m) (lps m h 0).1 (lps m h 0).2) >>= fun j=>pure (ow.setIfInBounds j (some k),k+1))=_
  rw[ej]
  rfl
 ·rw[Array.size_setIfInBounds];exact x.sz
 ·intro a ha
  by_cases c:a=k
  ·subst c;simp only[if_true];exact sj
  ·simp only[if_neg c]
   rw[sn _ (pj a (by omega))]
   exact x.at a (by omega)
 ·intro i a hi
  by_cases c:i=j
  ·subst c
   rw[sj] at hi
   cases hi
   exact⟨Nat.lt_succ_self _,by simp⟩
  ·rw[sn i c] at hi
   obtain⟨a1,a2⟩:=x.only i a hi
   exact⟨by omega,by rw[if_neg (by omega)];exact a2⟩
 ·intro a ha
  by_cases c:a=k
  ·subst c
   have:hs.getD a 0=h:=by rw[List.getD_eq_getElem?_getD,hh];rfl
   rw[this]
   simp only[if_true]
   exact⟨N,b1,fun M hM=>nf _ (b3 M hM)⟩
  ·obtain⟨N',c1,c2⟩:=x.way a (by omega)
   simp only[if_neg c]
   exact⟨N',c1,fun M hM=>nf _ (c2 M hM)⟩
theorem lay_fold{m:Nat}(hm:Msk m){hs:List Int}(hl:hs.length≤m):∀(rest:List Int)(k:Nat) (ow:Array (Option Nat)) (pos:Nat→Nat),hs.drop k=rest→OwnOk m hs ow k pos→k≤hs.length→∃ ow' pos',rest.foldl (layF m) (some (ow,k))=some (ow',hs.length)∧OwnOk m hs ow' hs.length pos'
 | [],k,ow,pos,e,x,hk=>by
  have:k=hs.length:=by
   have:=congrArg List.length e
   rw[List.length_drop] at this
   simp at this
   omega
  subst this
  exact⟨ow,pos,rfl,x⟩
 | h::rest,k,ow,pos,e,x,hk=>by
  have hh:hs[k]?=some h:=by
   have:(hs.drop k)[0]?=some h:=by rw[e];rfl
   rw[List.getElem?_drop,Nat.add_zero] at this
   exact this
  have hlt:k < hs.length:=(List.getElem?_eq_some_iff.mp hh).1
  obtain⟨ow',pos',e1,x1⟩:=lay_step hm x (by omega) hh
  rw[List.foldl_cons,e1]
  refine lay_fold hm hl rest (k+1) ow' pos' ?_ x1 hlt
  have:hs.drop (k+1)=(hs.drop k).drop 1:=by rw[List.drop_drop]
  rw[this,e]
  rfl
theorem rep_no{m j a:Nat}(h:(Array.replicate (m+1) (none:Option Nat))[j]?=some (some a)):False:=by
 rw[Array.getElem?_replicate] at h
 split at h<;>cases h
theorem fm_congr{α β:Type}{f g:α→Option β}:∀{l:List α},(∀ a∈l,f a=g a)→l.filterMap f=l.filterMap g
 | [],_=>rfl
 | a::l,h=>by rw[List.filterMap_cons,List.filterMap_cons,h a List.mem_cons_self,fm_congr fun b hb=>h b (List.mem_cons_of_mem _ hb)]
theorem pth_bnd(m:Nat)(h:Int):∀ n,(pth m h n).j+(pth m h n).more≤m
 | 0=>by
  have:=lps_lt m h 0
  show (lps m h 0).1+0+(run m (lps m h 0).1 - 0)≤m
  unfold run SetTable.runEnd
  split<;>omega
 | n+1=>by
  have ih:=pth_bnd m h n
  show (adv m (pth m h n)).j+(adv m (pth m h n)).more≤m
  unfold adv
  split
  ·show (pth m h n).j+1+((pth m h n).more - 1)≤m
   omega
  ·have:(SetTable.leap m (pth m h n).i (pth m h n).perturb).1 < m+1:=Nat.mod_lt _ (Nat.succ_pos _)
   generalize (SetTable.leap m (pth m h n).i (pth m h n).perturb).1=i at this
   show i+(SetTable.runEnd m i - i)≤m
   unfold SetTable.runEnd
   split<;>omega
structure Way(t:SetTable)(es:Array (Int×Value)):Prop where
 msk:Msk t.mask
 fit:t.place.size=es.size
 pln:t.plain=true
 way:∀ q,q∈es.toList.zip t.place.toList→∃ N,(pth t.mask q.1.1 N).j=q.2∧∀ M,M < N→(pth t.mask q.1.1 M).j∈t.place.toList
theorem relaid_ok{L:Bool}{t:SetTable}(ht:TabOk L t)(hp:t.plain=true)(es:Array (Int×Value))(n:Nat)(hm:Msk (SetTable.sizeAbove n - 1))(hl:es.size≤SetTable.sizeAbove n - 1) :
  ∃ t' order,t.relaid (es.map (·.1)) n=some (t',order)∧t'.mask=SetTable.sizeAbove n - 1∧TabOk L t'∧(order.filterMap (es[·]?)).size=es.size∧(order.filterMap (es[·]?)).toList.Perm es.toList∧Way t' (order.filterMap (es[·]?)):=by
 generalize hM:SetTable.sizeAbove n - 1=m at hm hl
 have hle:(es.map (·.1)).toList.length=es.size:=by simp
 obtain⟨ow,pos,e1,x⟩:=lay_fold hm (hs:=(es.map (·.1)).toList) (by rw[hle];exact hl) (es.map (·.1)).toList 0 (Array.replicate (m+1) none) (fun _=>0) rfl
  ⟨by simp,fun a ha=>absurd ha (Nat.not_lt_zero _),fun j a h=>(rep_no h).elim,fun a ha=>absurd ha (Nat.not_lt_zero _)⟩ (Nat.zero_le _)
 rw[hle] at e1 x
 have lc:SetTable.layClean m (es.map (·.1))=some ow:=by
  unfold SetTable.layClean
  rw[← Array.foldl_toList]
  show Option.map (·.1) (List.foldl (layF m) _ _)=_
  rw[e1]
  rfl
 generalize hv:(List.range (m+1)).filterMap (fun j=>(ow.getD j none).map (j,·))=live
 have mem:∀ q:Nat×Nat,q∈live↔q.2 < es.size∧q.1=pos q.2:=fun q=>by
  rw[← hv,List.mem_filterMap]
  constructor
  ·rintro ⟨j,hj,hq⟩
   rw[List.mem_range] at hj
   obtain⟨a,ha,rfl⟩:=Option.map_eq_some_iff.mp hq
   refine x.only j a ?_
   have:j < ow.size:=by rw[x.sz];exact hj
   have e:ow.getD j none=ow[j]:=by simp[Array.getD,this]
   rw[e] at ha
   rw[Array.getElem?_eq_getElem this,ha]
  ·rintro ⟨h1,h2⟩
   have a:=x.at q.2 h1
   obtain⟨b,c⟩:=Array.getElem?_eq_some_iff.mp a
   refine⟨pos q.2,List.mem_range.mpr (by rw[← x.sz];exact b),?_⟩
   have e:ow.getD (pos q.2) none=some q.2:=by simp[Array.getD,b,c]
   rw[e,← h2]
   rfl
 have pwj:live.Pairwise fun a b=>a.1 < b.1:=by
  rw[← hv]
  refine List.Pairwise.filterMap (R:=(· < ·)) _ (fun a b hab c hc d hd=>?_) List.pairwise_lt_range
  simp only[Option.map_eq_some_iff] at hc hd
  obtain⟨_,_,rfl⟩:=hc
  obtain⟨_,_,rfl⟩:=hd
  exact hab
 have nd2:(live.map (·.2)).Nodup:=by
  refine List.pairwise_map.mpr ?_
  refine List.Pairwise.imp_of_mem (fun {a b} ha hb hab z=>?_) pwj
  have h1:=((mem a).mp ha).2
  have h2:=((mem b).mp hb).2
  rw[z] at h1
  omega
 have pm:(live.map (·.2)).Perm (List.range es.size):=by
  refine (List.perm_ext_iff_of_nodup nd2 List.nodup_range).mpr fun a=>?_
  rw[List.mem_map,List.mem_range]
  constructor
  ·rintro ⟨q,hq,rfl⟩
   exact ((mem q).mp hq).1
  ·intro ha
   exact⟨(pos a,a),(mem _).mpr ⟨ha,rfl⟩,rfl⟩
 have rng:(List.range es.size).filterMap (es[·]?)=es.toList:=by
  apply List.ext_getElem?
  intro i
  have:(List.range es.size).filterMap (es[·]?)=(List.range es.size).map fun i=>es.toList.getD i (0,.none):=by
   rw[← List.filterMap_eq_map]
   refine fm_congr fun a ha=>?_
   have:=List.mem_range.mp ha
   simp[List.getD_eq_getElem?_getD,this]
  rw[this,List.getElem?_map]
  by_cases c:i < es.size
  ·rw[List.getElem?_range c]
   simp[List.getD_eq_getElem?_getD,c]
  ·rw[List.getElem?_eq_none (by rw[List.length_range];omega)]
   simp[c]
 have eo:((live.map (·.2)).toArray.filterMap (es[·]?)).toList=live.map fun q=>es.toList.getD q.2 (0,.none):=by
  rw[Array.toList_filterMap,List.toList_toArray,List.filterMap_map,← List.filterMap_eq_map]
  refine fm_congr fun q hq=>?_
  have:=((mem q).mp hq).1
  simp[List.getD_eq_getElem?_getD,this]
 have pe:((live.map (·.2)).toArray.filterMap (es[·]?)).toList.Perm es.toList:=by
  rw[Array.toList_filterMap,List.toList_toArray]
  exact (pm.filterMap _).trans (List.Perm.of_eq rng)
 have sz:((live.map (·.2)).toArray.filterMap (es[·]?)).size=es.size:=by
  have:=pe.length_eq
  rwa [Array.length_toList,Array.length_toList] at this
 refine⟨{ mask:=m,place:=(live.map (·.1)).toArray,dummies:=#[],finger:=t.finger,led:=t.led,moves:=t.movedTo m,plain:=t.plain },(live.map (·.2)).toArray,?_,rfl,⟨?_,rfl,ht.led⟩,sz,pe,hm,?_,hp,?_⟩
 ·unfold SetTable.relaid SetTable.laid
  rw[hM,lc]
  show some _=some _
  rw[hv]
 ·unfold Ris
  rw[List.toList_toArray]
  exact List.Pairwise.map _ (fun a b hab=>hab) pwj
 ·rw[sz,← (pm.length_eq.trans List.length_range)]
  simp
 ·intro q hq
  rw[eo,List.toList_toArray,List.zip_map'] at hq
  obtain⟨r,hr,rfl⟩:=List.mem_map.mp hq
  obtain⟨h1,h2⟩:=(mem r).mp hr
  obtain⟨N,a1,a2⟩:=x.way r.2 h1
  have eh:(es.map (·.1)).toList.getD r.2 0=(es.toList.getD r.2 (0,.none)).1:=by
   simp[List.getD_eq_getElem?_getD,h1]
  rw[eh] at a1 a2
  dsimp only
  refine⟨N,by rw[a1,h2],fun M hM=>?_⟩
  have nf:=a2 M hM
  rw[List.toList_toArray]
  have lt:(pth m (es.toList.getD r.2 (0,.none)).1 M).j < ow.size:=by
   have:=pth_bnd m (es.toList.getD r.2 (0,.none)).1 M
   rw[x.sz]
   omega
  generalize (pth m (es.toList.getD r.2 (0,.none)).1 M).j=J at nf lt
  cases q:ow[J] with
  | none=>exact absurd (Fre.of (by rw[Array.getElem?_eq_getElem lt,q])) nf
  | some a =>
   obtain⟨b1,b2⟩:=x.only J a (by rw[Array.getElem?_eq_getElem lt,q])
   exact List.mem_map.mpr ⟨(J,a),(mem _).mpr ⟨b1,b2⟩,rfl⟩
end L2
namespace L2
open PySem
section
variable {prog:Program}{w:World}{A:Around}{E:Value→Shared→Prop}{s:Shared}{S:Addr}{L:Bool}{es:Array (Int×Value)}{ep:Nat}{t:SetTable}{key:Value→List Int}
abbrev TKey(prog:Program)(w:World)(h:Heap)(ks:List Int)(a:Addr):Prop:=IsTupleKey (intKind prog w) h ks a
abbrev tkh(prog:Program)(w:World)(ks:List Int):Int:=tupleKeyHash (intKind prog w) ks
structure SetT(prog:Program)(w:World)(key:Value→List Int)(h:Heap)(S:Addr)(L:Bool)(es:Array (Int×Value))(ep:Nat)(t:SetTable):Prop extends SetW h S L es ep t where
 wy:Way t es
 cap:t.mask=7∧es.size≤4∨t.mask=31∧es.size≤18
 sh:∀ e∈es.toList,∃ a,e=(tkh prog w (key e.2),.ref a)∧TKey prog w h (key e.2) a∧a < S
 nd:(es.toList.map fun e=>key e.2).Nodup
theorem TKey.to{h h':Heap}{ks:List Int}{a:Addr}(x:TKey prog w h ks a)(k:∀ o,h.get? a=some o→h'.get? a=some o):TKey prog w h' ks a:=by
 obtain⟨o,items,n,ho,r⟩:=x
 exact⟨o,items,n,k _ ho,r⟩
theorem SetT.to{h h':Heap}(x:SetT prog w key h S L es ep t)(k:∀ b o,b≤S→h.get? b=some o→h'.get? b=some o):SetT prog w key h' S L es ep t :=
 ⟨x.toSetW.to fun o e=>k S o (Nat.le_refl _) e,x.wy,x.cap,fun e he=>let ⟨a,e1,e2,e3⟩:=x.sh e he;⟨a,e1,TKey.to e2 fun o q=>k a o (Nat.le_of_lt e3) q,e3⟩,x.nd⟩
theorem stmt_tuple{ks:List Int}{a:Addr}{Q:Bool→Shared→Prop}(hk:TKey prog w s.heap ks a)(h:Q false s):wpAny (model prog w) A (ofAClassStatement 8 (.ref a)) Q E s:=by
 have hT:=hk.typeIs
 obtain⟨o,items,n,ho,_,hd,hi⟩:=hk
 unfold ofAClassStatement
 refine wpAny_bind (wpAny_typeOf hT ?_)
 dsimp only
 rw[if_pos (by decide)]
 refine wpAny_bind (wpAny_pure ?_)
 simp only[Bool.not_true,Bool.false_eq_true,if_false]
 refine wpAny_bind (wpAny_seqItems ho hd ?_)
 refine wpAny_bind ?_
 show wpAny _ _ (forIn items _ _) _ _ s
 rw[← Array.forIn_toList]
 have hv:=hi.byValue
 refine wpAny_forIn_list _ (fun rest r s'=>r.1=none∧s'=s∧∀ v∈rest,carriedByValue v=true) _ ?_ ?_ _ _ ⟨rfl,rfl,hv⟩
 ·rintro v rest r s' ⟨hr,rfl,hall⟩
  have hc:=hall v List.mem_cons_self
  have e:ofAClassStatement 7 v=pure false:=by
   cases v with
   | ref a=>simp[carriedByValue] at hc
   | _=>rfl
  rw[e]
  refine wpAny_bind (wpAny_pure ?_)
  simp only[Bool.false_eq_true,if_false]
  exact wpAny_pure ⟨rfl,rfl,fun u hu'=>hall u (List.mem_cons_of_mem _ hu')⟩
 ·rintro ⟨r1,r2⟩ s' ⟨hr,rfl,_⟩
  simp only at hr
  subst hr
  exact wpAny_pure h
theorem seen_tuple{ks:List Int}{a:Addr}{l:List Value}{Q:Bool→Shared→Prop}(hk:TKey prog w s.heap ks a)(hl:∀ y∈l,∃ b js,y=.ref b∧TKey prog w s.heap js b)(h:Q false s):wpAny (model prog w) A (searchCouldBeSeen (.ref a) l) Q E s:=by
 unfold searchCouldBeSeen
 refine wpAny_bind ?_
 refine wpAny_forIn_list _ (fun rest r s'=>r.1=none∧s'=s∧∀ y∈rest,∃ b js,y=.ref b∧TKey prog w s.heap js b) _ ?_ ?_ _ _ ⟨rfl,rfl,hl⟩
 ·rintro y rest r s' ⟨hr,rfl,hall⟩
  obtain⟨b,js,rfl,hb⟩:=hall y List.mem_cons_self
  have more:∀ u∈rest,∃ b js,u=.ref b∧TKey prog w s'.heap js b:=fun u hu=>hall u (List.mem_cons_of_mem _ hu)
  dsimp only
  split
  ·exact wpAny_pure ⟨rfl,rfl,more⟩
  ·refine wpAny_bind (wpAny_eqIsQuiet_tuple hk ?_)
   simp only[Bool.not_true,Bool.false_eq_true,if_false]
   refine wpAny_bind (wpAny_eqIsQuiet_tuple hb ?_)
   simp only[Bool.not_true,Bool.false_eq_true,if_false]
   refine wpAny_bind (stmt_tuple hk ?_)
   simp only[Bool.false_eq_true,if_false]
   refine wpAny_bind (stmt_tuple hb ?_)
   simp only[Bool.false_eq_true,if_false]
   exact wpAny_pure ⟨rfl,rfl,more⟩
 ·rintro ⟨r1,r2⟩ s' ⟨hr,rfl,_⟩
  simp only at hr
  subst hr
  exact wpAny_pure h
theorem byVal_tuple{ks:List Int}{a:Addr}{Q:Bool→Shared→Prop}(hk:TKey prog w s.heap ks a)(h:Q true s):wpAny (model prog w) A (hashByValue 8 (.ref a)) Q E s:=by
 have hT:=hk.typeIs
 obtain⟨o,items,n,ho,_,hd,hi⟩:=hk
 unfold hashByValue
 refine wpAny_bind (wpAny_specialOf hT F.slot_tuple_hash.lookup ?_)
 dsimp only
 refine wpAny_bind (wpAny_seqItems ho hd ?_)
 refine wpAny_bind ?_
 show wpAny _ _ (forIn items _ _) _ _ s
 rw[← Array.forIn_toList]
 refine wpAny_forIn_list _ (fun rest r s'=>r.1=none∧s'=s∧∃ js,ItemsAre (intKind prog w) js rest) _ ?_ ?_ _ _ ⟨rfl,rfl,_,hi⟩
 ·rintro v rest r s' ⟨hr,rfl,js,hj⟩
  cases hj with
  | cons h1 h2 =>
   obtain⟨tk,rfl⟩:=Value.isInt_shape h1
   have e:∀ k tk,hashByValue 7 (.int k tk)=pure true:=fun _ _=>rfl
   rw[e]
   refine wpAny_bind (wpAny_pure ?_)
   simp only[Bool.not_true,Bool.false_eq_true,if_false]
   exact wpAny_pure ⟨rfl,rfl,_,h2⟩
 ·rintro ⟨r1,r2⟩ s' ⟨hr,rfl,_⟩
  simp only at hr
  subst hr
  exact wpAny_pure h
theorem zip_at{α β:Type}{l:List α}{r:List β}{i:Nat}{a:α}{b:β}(h1:l[i]?=some a)(h2:r[i]?=some b):(a,b)∈l.zip r:=List.mem_of_getElem? (i:=i) (by
 rw[List.getElem?_zip_eq_some]
 exact⟨h1,h2⟩)
theorem search_ok{b:Addr}{Q:SetFound→Shared→Prop}(x:SetT prog w key s.heap S L es ep t)(hu:A.units < cLine)(hk:TKey prog w s.heap (key (.ref b)) b)
  (h0:key (.ref b)∈es.toList.map (fun e=>key e.2)→Q (.there none) s)
  (h1:key (.ref b)∉es.toList.map (fun e=>key e.2)→∀ N,(pth t.mask (tkh prog w (key (.ref b))) N).j∉t.place.toList→(∀ M,M < N→(pth t.mask (tkh prog w (key (.ref b))) M).j∈t.place.toList)→Q (.free (pth t.mask (tkh prog w (key (.ref b))) N).j false) s) :
  wpAny (model prog w) A (setSearch S (.ref b) (tkh prog w (key (.ref b))) true) Q E s:=by
 generalize hh:tkh prog w (key (.ref b))=h at h1
 have ps:t.place.size=es.size:=x.wy.fit
 have pl:t.place.toList.length≤t.mask:=by
  rw[Array.length_toList,ps]
  rcases x.cap with ⟨a,b⟩ | ⟨a,b⟩<;>omega
 obtain⟨N,hN,hf,hb⟩:=pth_hole x.wy.msk h pl
 have gw:t.gaveWay=false:=by
  unfold SetTable.gaveWay
  rcases x.wy.msk with e | e<;>rw[e]<;>rfl
 have hN2:N < 100000:=by
  have:10*SetTable.turns t.mask≤1000:=by
   unfold SetTable.turns
   rcases x.wy.msk with e | e<;>rw[e]<;>decide
  omega
 have es_at:∀ i j,t.place[i]?=some j→∃ e,es[i]?=some e:=fun i j e=>by
  have:i < t.place.size:=(Array.getElem?_eq_some_iff.mp e).1
  exact⟨_,Array.getElem?_eq_getElem (by omega)⟩
 unfold setSearch
 have go:∀(d n fuel:Nat)(stand:Option SetTable.Probe),N - n=d→n≤N→d < fuel→stand.getD (t.probeStart h)=pth t.mask h n→(∀(M i:Nat)(e:Int×Value),M < n→t.place[i]?=some (pth t.mask h M).j→es[i]?=some e→e.1=h→key e.2≠key (.ref b)) →
   wpAny (model prog w) A (setSearchFrom S (.ref b) h true fuel stand) Q E s:=by
  intro d
  induction d using Nat.strongRecOn with
  | ind d ih =>
   intro n fuel stand hd hn hfu hst hno
   cases fuel with
   | zero=>exact absurd hfu (Nat.not_lt_zero _)
   | succ fuel =>
    unfold setSearchFrom
    refine wpAny_bind (wpAny_setState_of x.at' rfl x.fit ?_)
    dsimp only
    rw[gw,hst]
    simp only[Bool.false_eq_true,if_false]
    rcases probe_way x.tab.ris x.tab.dum (fun i=>(es[i]?.map (·.1)).getD 0) h hf (10*SetTable.turns t.mask) n hn (by omega) (fun M _ hM=>hb M hM) with ⟨k,i,k1,k2,k3,k4,k5,k6⟩ | ⟨k1,k2⟩
    ·have k6':t.probe (fun i=>(es[i]?.map (·.1)).getD 0) h (pth t.mask h n)=some (.candidate (pth t.mask h k).j i (pth t.mask h (k+1))):=k6
     generalize hp:SetTable.probe t _ h (pth t.mask h n)=met
     obtain rfl:met=_:=hp.symm.trans k6'
     dsimp only
     obtain⟨e,he⟩:=es_at i _ k3
     have hmem:e∈es.toList:=List.mem_of_getElem? (i:=i) (by rw[Array.getElem?_toList];exact he)
     obtain⟨a,ea,ta,la⟩:=x.sh e hmem
     have hhe:e.1=h:=by
      have:(es[i]?.map (·.1)).getD 0=h:=k4
      rw[he] at this
      exact this
     have rest:wpAny (model prog w) A (do
       let some (_,y):=es[i]? | unsupported "internal:set-entry"
       let equal ← holding [y] (eqBool y (.ref b))
       let (es',_,t') ← setState S
       if true && equal then return .there none
       let some same:=t'.sameMemory t.moves t.mask | unsupported "set.changed-during-lookup:is-the-new-block-at-the-old-address"
       let still ← match (if same then t'.slot (pth t.mask h k).j else .empty) with
        | .live i'=>match es'[i']? with
         | some (_,y')=>do pure (if ← isSame y' y then some i' else none)
         | none=>pure none
        | _=>pure none
       match still with
       | none=>rule "set.search.anew"; setSearchFrom S (.ref b) h true fuel none
       | some i'=>if equal then return .there (some i') else setSearchFrom S (.ref b) h true fuel (some (pth t.mask h (k+1)))) Q E s:=by
      rw[he,ea]
      dsimp only
      have te:key e.2=key (.ref a):=by rw[ea]
      refine wpAny_bind (wpAny_holding (wpAny_eqBool_tuple hu ta hk ?_))
      refine wpAny_bind (wpAny_setState_of x.at' rfl x.fit ?_)
      dsimp only
      by_cases c:key e.2=key (.ref b)
      ·rw[decide_eq_true c]
       simp only[Bool.and_self,if_true]
       exact wpAny_pure (h0 (List.mem_map.mpr ⟨e,hmem,c⟩))
      ·rw[decide_eq_false c]
       simp only[Bool.and_false,Bool.false_eq_true,if_false]
       have sm:t.sameMemory t.moves t.mask=some true:=by
        unfold SetTable.sameMemory
        rw[if_pos (beq_self_eq_true _)]
       rw[sm]
       dsimp only
       simp only[if_true]
       rw[slot_live x.tab.ris k3]
       dsimp only
       rw[he,ea]
       dsimp only
       refine wpAny_bind (wpAny_isSame_ref_self (wpAny_bind (wpAny_pure ?_)))
       simp only[if_true]
       refine ih (N - (k+1)) (by omega) (k+1) fuel (some _) rfl (by omega) (by omega) rfl fun M i' e' hM hpp he' hq=>?_
       by_cases z:M < n
       ·exact hno M i' e' z hpp he' hq
       ·by_cases y:M=k
        ·subst y
         have i1:=ris_mem x.tab.ris hpp
         have i2:=ris_mem x.tab.ris k3
         rw[i1] at i2
         subst i2
         rw[he] at he'
         cases he'
         exact c
        ·have:=k5 M i' (by omega) (by omega) hpp
         exact absurd (by show (es[i']?.map (·.1)).getD 0=h;rw[he'];exact hq) this
     split
     ·refine wpAny_bind (seen_tuple hk (fun y hy=>?_) ?_)
      ·obtain⟨e',he',rfl⟩:=List.mem_map.mp hy
       have:e'∈es.toList:=by
        have:=he'
        simp at this
        simpa using this.1
       obtain⟨a',ea',ta',la'⟩:=x.sh e' this
       exact⟨a',_,by rw[ea'],ta'⟩
      ·simp only[Bool.false_eq_true,if_false]
       exact rest
     ·exact rest
    ·have k6':t.probe (fun i=>(es[i]?.map (·.1)).getD 0) h (pth t.mask h n)=some (.empty (pth t.mask h N).j none):=k2
     generalize hp:SetTable.probe t _ h (pth t.mask h n)=met
     obtain rfl:met=_:=hp.symm.trans k6'
     dsimp only
     refine wpAny_pure (h1 (fun hm=>?_) N hf hb)
     obtain⟨e,he,ek⟩:=List.mem_map.mp hm
     obtain⟨i,hi,ei⟩:=List.getElem_of_mem he
     have hi':es[i]?=some e:=by rw[← Array.getElem?_toList,List.getElem?_eq_getElem hi,ei]
     obtain⟨a,ea,ta,la⟩:=x.sh e he
     have hhe:e.1=h:=by rw[ea];show tkh prog w (key e.2)=h;rw[ek];exact hh
     have hip:i < t.place.size:=by rw[ps];rw[Array.length_toList] at hi;exact hi
     have hpl:t.place[i]?=some t.place[i]:=Array.getElem?_eq_getElem hip
     obtain⟨N',n1,n2⟩:=x.wy.way (e,t.place[i]) (zip_at (i:=i) (by rw[Array.getElem?_toList];exact hi') (by rw[Array.getElem?_toList];exact hpl))
     dsimp only at n1 n2
     rw[hhe] at n1 n2
     have lt:N' < N:=by
      rcases Nat.lt_trichotomy N' N with z | z | z
      ·exact z
      ·subst z;exact absurd (by rw[n1];exact place_in hpl) hf
      ·exact absurd (n2 N z) hf
     rw[← n1] at hpl
     by_cases z:N' < n
     ·exact hno N' i e z hpl hi' hhe ek
     ·exact k1 N' i (by omega) lt hpl (by show (es[i]?.map (·.1)).getD 0=h;rw[hi'];exact hhe)
 exact go (N - 0) 0 100000 none rfl (Nat.zero_le _) (by omega) rfl fun M i e hM=>absurd hM (Nat.not_lt_zero _)
theorem zip_ins{α β:Type}{l:List α}{r:List β}(p:Nat)(a:α)(b:β)(h:l.length=r.length):∀ q,q∈(l.take p++a::l.drop p).zip (r.take p++b::r.drop p)→q=(a,b)∨q∈l.zip r:=fun q hq=>by
 rw[List.zip_append (by rw[List.length_take,List.length_take,h])] at hq
 have e:l.zip r=(l.take p).zip (r.take p)++(l.drop p).zip (r.drop p):=by
  rw[← List.zip_append (by rw[List.length_take,List.length_take,h]),List.take_append_drop,List.take_append_drop]
 rw[e]
 rcases List.mem_append.mp hq with z | z
 ·exact .inr (List.mem_append_left _ z)
 ·rcases List.mem_cons.mp z with z | z
  ·exact .inl z
  ·exact .inr (List.mem_append_right _ z)
theorem ins_perm{α:Type}(xs:Array α)(p:Nat)(x:α):(SetTable.insertAt xs p x).toList.Perm (xs.toList++[x]):=by
 rw[ins_list]
 have h:(xs.toList.take p++x::xs.toList.drop p).Perm (x::(xs.toList.take p++xs.toList.drop p)):=List.perm_middle
 rw[List.take_append_drop] at h
 exact h.trans (List.perm_append_singleton x _).symm
theorem add_tuple{b:Addr}{Q:Bool→Shared→Prop}(x:SetT prog w key s.heap S L es ep t)(hz:es.size < 18)(hu:A.units < cLine)(hk:TKey prog w s.heap (key (.ref b)) b)(hb:b < S)
  (h0:key (.ref b)∈es.toList.map (fun e=>key e.2)→Q false s)
  (h1:key (.ref b)∉es.toList.map (fun e=>key e.2)→∀ h' es' ep' t',Heap.SameBut S s.heap h'→SetT prog w key h' S L es' ep' t'→es'.toList.Perm (es.toList++[(tkh prog w (key (.ref b)),.ref b)])→Q true { s with heap:=h' }) :
  wpAny (model prog w) A (setAddHashed S (.ref b) (tkh prog w (key (.ref b)))) Q E s:=by
 unfold setAddHashed setAddHashedIn
 refine wpAny_holding (wpAny_bind (wpAny_setState_of x.at' rfl x.fit ?_))
 dsimp only
 have bs:byScan (.ref b) es=false:=rfl
 rw[bs]
 simp only[Bool.false_eq_true,if_false]
 refine wpAny_bind (search_ok x hu hk (fun hm=>wpAny_pure (h0 hm)) fun hn N hf hb'=>?_)
 have fin:=h1 hn
 clear h0 h1
 generalize hh:tkh prog w (key (.ref b))=h at hf hb'
 dsimp only
 refine wpAny_bind (wpAny_setState_of x.at' rfl x.fit ?_)
 generalize hj:(pth t.mask h N).j=j at hf
 have ps:t.place.size=es.size:=x.wy.fit
 have np:t.place[SetTable.below t.place j]?≠some j:=fun z=>hf (place_in z)
 generalize hp:t.put j=tp
 have e1:tp.2=SetTable.below t.place j:=by rw[← hp];rfl
 have e2:tp.1={ t with place:=SetTable.insertAt t.place (SetTable.below t.place j) j }:=by
  rw[← hp]
  show ({ t with place:=_,dummies:=if SetTable.has t.dummies j=true then _ else t.dummies }:SetTable)=_
  rw[x.tab.dum,has_nil]
  simp
 obtain⟨t1,p⟩:=tp
 dsimp only at e1 e2
 subst e1
 dsimp only
 have tb1:TabOk L t1:=by
  subst e2
  exact⟨x.tab.ris.put np,x.tab.dum,x.tab.led⟩
 have m1:t1.mask=t.mask:=by rw[e2]
 have pl1:t1.plain=true:=by rw[e2];exact x.wy.pln
 have pp:=ins_perm es (SetTable.below t.place j) (h,Value.ref b)
 have pj:=ins_list t.place (SetTable.below t.place j) j
 have pe:=ins_list es (SetTable.below t.place j) (h,Value.ref b)
 have pt:t1.place.toList=t.place.toList.take (SetTable.below t.place j)++j::t.place.toList.drop (SetTable.below t.place j):=by rw[e2];exact pj
 have sub:∀ a,a∈t.place.toList→a∈t1.place.toList:=fun a ha=>by
  rw[pt]
  rw[← List.take_append_drop (SetTable.below t.place j) t.place.toList] at ha
  rcases List.mem_append.mp ha with z | z
  ·exact List.mem_append_left _ z
  ·exact List.mem_append_right _ (List.mem_cons_of_mem _ z)
 generalize SetTable.insertAt es (SetTable.below t.place j) (h,Value.ref b)=es1 at pp pe
 have sz1:es1.size=es.size+1:=by
  have:=pp.length_eq
  rw[List.length_append,Array.length_toList,Array.length_toList] at this
  exact this
 have fz:t1.place.size=es1.size:=by
  have a:=congrArg List.length pt
  have b:=congrArg List.length pe
  simp only[List.length_append,List.length_cons,List.length_take,List.length_drop,Array.length_toList] at a b
  rw[ps] at a
  omega
 have wy1:Way t1 es1:=by
  refine⟨by rw[m1];exact x.wy.msk,fz,pl1,fun q hq=>?_⟩
  rw[pe,pt] at hq
  rw[m1]
  rcases zip_ins (SetTable.below t.place j) (h,Value.ref b) j (by rw[Array.length_toList,Array.length_toList,ps]) q hq with rfl | z
  ·exact⟨N,hj,fun M hM=>sub _ (hb' M hM)⟩
  ·obtain⟨N',a1,a2⟩:=x.wy.way q z
   exact⟨N',a1,fun M hM=>sub _ (a2 M hM)⟩
 have keyp:(es1.toList.map fun e=>key e.2).Perm ((es.toList.map fun e=>key e.2)++[key (.ref b)]):=by
  have:=pp.map fun e:Int×Value=>key e.2
  rwa [List.map_append] at this
 have nd1:(es1.toList.map fun e=>key e.2).Nodup:=keyp.nodup_iff.mpr (List.nodup_append.mpr ⟨x.nd,by simp,fun a ha c hc z=>hn (by rw[← List.mem_singleton.mp hc,← z];exact ha)⟩)
 have sh1:∀ h',Heap.SameBut S s.heap h'→∀ e∈es1.toList,∃ a,e=(tkh prog w (key e.2),.ref a)∧TKey prog w h' (key e.2) a∧a < S:=fun h' sb e he=>by
  have kp:∀ a o,a < S→s.heap.get? a=some o→h'.get? a=some o:=fun a o ha q=>by rw[sb.2 a (Nat.ne_of_lt ha)];exact q
  rcases List.mem_append.mp (pp.mem_iff.mp he) with z | z
  ·obtain⟨a,a1,a2,a3⟩:=x.sh e z
   exact⟨a,a1,TKey.to a2 fun o q=>kp a o a3 q,a3⟩
  ·rw[List.mem_singleton.mp z]
   exact⟨b,by rw[hh],TKey.to hk fun o q=>kp b o hb q,hb⟩
 rw[if_pos pl1]
 refine wpAny_bind (byVal_tuple hk ?_)
 simp only[if_true]
 refine wpAny_bind (wpAny_storeSet_of x.at' rfl ?_ (by rw[sizeLine_eq];omega))
 have o1:=set_put (es':=es1) (t':=t1) x.at'
 have b1:=Heap.SameBut.update s.heap S (Obj.putSet es1 t1)
 have dm1:t1.dummies=#[]:=tb1.dum
 have fl1:t1.fill=es1.size:=by
  unfold SetTable.fill
  rw[dm1,fz]
  rfl
 have ft1:t1.fits es1.size=true:=by
  unfold SetTable.fits
  rw[fl1,fz,m1]
  rcases x.cap with ⟨a,c⟩ | ⟨a,c⟩<;>rw[a]<;>simp<;>omega
 simp only[Bool.not_false,Bool.true_and]
 have tf:t1.tooFull=decide (t1.mask=7∧es1.size=5):=by
  unfold SetTable.tooFull
  rw[fl1,m1]
  rcases x.cap with ⟨a,c⟩ | ⟨a,c⟩<;>rw[a]
  ·by_cases z:es1.size=5
   ·rw[z];decide
   ·have:¬ es1.size*5 ≥ 7*3:=by omega
    simp[z,this]
  ·have:¬ es1.size*5 ≥ 31*3:=by omega
   simp[this]
 by_cases c:t1.mask=7∧es1.size=5
 ·rw[tf,decide_eq_true c,if_pos rfl]
  unfold setRelay
  have sa:SetTable.sizeAbove (SetTable.grown (es.size+1))=32:=by
   rw[← sz1,c.2]
   decide
  refine wpAny_bind (wpAny_bind (wpAny_setState_of (s:={ s with heap:=_ }) o1 rfl ft1 ?_))
  dsimp only
  rw[sa,if_neg (by decide)]
  obtain⟨t2,order,r1,r2,r3,r4,r5,r6⟩:=relaid_ok tb1 pl1 es1 (SetTable.grown (es.size+1)) (by rw[sa];exact .inr rfl) (by rw[sa,c.2];decide)
  rw[r1]
  refine wpAny_bind ?_
  show wpAny _ _ (if ((order.filterMap (es1[·]?)).size != es1.size)=true then _ else pure (order.filterMap (es1[·]?),t2)) _ _ _
  rw[if_neg (by rw[r4];simp)]
  refine wpAny_pure ?_
  dsimp only
  generalize order.filterMap (es1[·]?)=es2 at r4 r5 r6
  refine wpAny_storeSet_of (s:={ s with heap:=_ }) o1 rfl ?_ (by rw[r4,sizeLine_eq];omega)
  have o2:=set_put (es':=es2) (t':=t2) o1
  have b2:=b1.trans (Heap.SameBut.update (s.heap.update S (Obj.putSet es1 t1)) S (Obj.putSet es2 t2))
  have m2:t2.mask=31:=by rw[r2,sa]
  have ft2:t2.fits es2.size=true:=by
   unfold SetTable.fits SetTable.fill
   rw[r3.dum,r6.fit,m2]
   have:es2.size=5:=by rw[r4];exact c.2
   rw[this]
   decide
  refine wpAny_pure (fin _ es2 _ t2 b2 ⟨⟨o2,by omega,ft2,r3⟩,r6,.inr ⟨m2,by omega⟩,fun e he=>sh1 _ b2 e (r5.mem_iff.mp he),((r5.map _).nodup_iff).mpr nd1⟩ (r5.trans (by rw[hh];exact pp)))
 ·rw[tf,decide_eq_false c,if_neg Bool.false_ne_true]
  refine wpAny_pure (fin _ es1 _ t1 b1 ⟨⟨o1,by omega,ft1,tb1⟩,wy1,?_,sh1 _ b1,nd1⟩ (by rw[hh];exact pp))
  rw[m1]
  rw[m1] at c
  rcases x.cap with ⟨a,d⟩ | ⟨a,d⟩
  ·exact .inl ⟨a,by omega⟩
  ·exact .inr ⟨a,by omega⟩
end
end L2
namespace L2
open PySem PySem.W PyProof.Rows
inductive Ev (c:Nat→Nat→Bool) (N:Nat) {α:Type}:KasT α→α→Prop
 | ret (a:α):Ev c N (.ret a) a
 | ask {i j:Nat} {k:Bool→KasT α} {a:α}:i < N→j < N→Ev c N (k (c i j)) a→Ev c N (.ask i j k) a
theorem Ev.bind{c:Nat→Nat→Bool}{N:Nat}{α β:Type}{f:α→KasT β}{b:β}:∀{t:KasT α}{a:α},Ev c N t a→Ev c N (f a) b→Ev c N (t.bind f) b
 | _,_,.ret a,h=>h
 | _,_,.ask h1 h2 e,h=>.ask h1 h2 (e.bind h)
theorem Ev.wp{c:Nat→Nat→Bool}{N:Nat}{α:Type}{cmp:Nat→Nat→(Bool→Shared→Prop)→Shared→Prop}{Q:α→Shared→Prop}{s:Shared}(hc:∀ i j (C:Bool→Shared→Prop),i < N→j < N→C (c i j) s→cmp i j C s):∀{t:KasT α}{a:α},Ev c N t a→Q a s→t.kasWp cmp Q s
 | _,_,.ret a,h=>h
 | _,_,.ask h1 h2 e,h=>hc _ _ _ h1 h2 (e.wp hc h)
structure Ord(c:Nat→Nat→Bool)(N:Nat):Prop where
 tot:∀ i j,i < N→j < N→i≠j→c i j=!c j i
 tr:∀ i j k,i < N→j < N→k < N→c i j=true→c j k=true→c i k=true
section
variable {c:Nat→Nat→Bool}{N:Nat}
def Pm(N:Nat)(p:Array Nat):Prop:=p.toList.Perm (List.range N)
abbrev nth(p:Array Nat)(i:Nat):Nat:=p.getD i 0
theorem Pm.sz{p:Array Nat}(h:Pm N p):p.size=N:=by
 have:=h.length_eq
 rwa [Array.length_toList,List.length_range] at this
theorem Pm.lt{p:Array Nat}(h:Pm N p){i:Nat}(hi:i < N):nth p i < N:=by
 have hs:i < p.size:=by rw[h.sz];exact hi
 have:nth p i=p[i]:=by simp[nth,Array.getD,hs]
 rw[this]
 exact List.mem_range.mp (h.mem_iff.mp (by simp))
theorem Pm.inj{p:Array Nat}(h:Pm N p){i j:Nat}(hi:i < N)(hj:j < N)(e:nth p i=nth p j):i=j:=by
 have nd:p.toList.Nodup:=h.nodup_iff.mpr List.nodup_range
 have h1:i < p.toList.length:=by rw[Array.length_toList,h.sz];exact hi
 have h2:j < p.toList.length:=by rw[Array.length_toList,h.sz];exact hj
 have e1:nth p i=p.toList[i]:=by rw[Array.length_toList] at h1;simp[nth,Array.getD,h1]
 have e2:nth p j=p.toList[j]:=by rw[Array.length_toList] at h2;simp[nth,Array.getD,h2]
 rw[e1,e2] at e
 exact (List.getElem_inj nd).mp e
def Up(c:Nat→Nat→Bool)(p:Array Nat)(k:Nat):Prop:=∀ i j,i < j→j < k→c (nth p i) (nth p j)=true
theorem Up.of{p:Array Nat}(o:Ord c N)(h:Pm N p){k:Nat}(hk:k≤N)(hs:∀ i,i+1 < k→c (nth p i) (nth p (i+1))=true):Up c p k:=by
 intro i j
 induction j with
 | zero=>intro a;omega
 | succ j ih =>
  intro a b
  by_cases z:i=j
  ·subst z;exact hs i b
  ·exact o.tr _ _ _ (h.lt (by omega)) (h.lt (by omega)) (h.lt (by omega)) (ih (by omega) (by omega)) (hs j b)
theorem asc_ok(o:Ord c N){p:Array Nat}(h:Pm N p):∀(f m:Nat),1≤m→m+f≤N→∃ r,Ev c N (kas_asc p f m) r∧m≤r∧r≤m+f∧(∀ k,m≤k→k < r→c (nth p (k - 1)) (nth p k)=true)∧(r < m+f→c (nth p r) (nth p (r - 1))=true)
 | 0,m,h1,h2=>⟨m,.ret m,Nat.le_refl _,Nat.le_refl _,fun k a b=>absurd b (by omega),fun z=>absurd z (by omega)⟩
 | f+1,m,h1,h2=>by
  have l1:=h.lt (i:=m) (by omega)
  have l2:=h.lt (i:=m - 1) (by omega)
  by_cases z:c (nth p m) (nth p (m - 1))=true
  ·refine⟨m,.ask l1 l2 ?_,Nat.le_refl _,by omega,fun k a b=>absurd b (by omega),fun _=>z⟩
   rw[z]
   exact .ret m
  ·obtain⟨r,a1,a2,a3,a4,a5⟩:=asc_ok o h f (m+1) (by omega) (by omega)
   have z':c (nth p m) (nth p (m - 1))=false:=by simpa using z
   refine⟨r,.ask l1 l2 ?_,by omega,by omega,fun k b1 b2=>?_,fun b=>a5 (by omega)⟩
   ·rw[z']
    exact a1
   ·by_cases y:k=m
    ·subst y
     rw[o.tot _ _ l2 l1 fun e=>by have:=h.inj (by omega) (by omega) e;omega,z']
     rfl
    ·exact a4 k (by omega) b2
theorem desc_ok(o:Ord c N){p:Array Nat}(h:Pm N p):∀(f m:Nat),1≤m→m+f≤N→∃ r,Ev c N (kas_desc f p m 0) (p,r,0)∧m≤r∧r≤m+f∧∀ k,m≤k→k < r→c (nth p k) (nth p (k - 1))=true
 | 0,m,h1,h2=>⟨m,.ret _,Nat.le_refl _,Nat.le_refl _,fun k a b=>absurd b (by omega)⟩
 | f+1,m,h1,h2=>by
  have l1:=h.lt (i:=m) (by omega)
  have l2:=h.lt (i:=m - 1) (by omega)
  by_cases z:c (nth p m) (nth p (m - 1))=true
  ·obtain⟨r,a1,a2,a3,a4⟩:=desc_ok o h f (m+1) (by omega) (by omega)
   refine⟨r,.ask l1 l2 ?_,by omega,by omega,fun k b1 b2=>?_⟩
   ·rw[z]
    exact a1
   ·by_cases y:k=m
    ·subst y;exact z
    ·exact a4 k (by omega) b2
  ·have z':c (nth p m) (nth p (m - 1))=false:=by simpa using z
   have z2:c (nth p (m - 1)) (nth p m)=true:=by
    rw[o.tot _ _ l2 l1 fun e=>by have:=h.inj (by omega) (by omega) e;omega,z']
    rfl
   refine⟨m,.ask l1 l2 ?_,Nat.le_refl _,by omega,fun k a b=>absurd b (by omega)⟩
   rw[z']
   refine .ask l2 l1 ?_
   rw[z2]
   exact .ret _
theorem Pm.rev{p:Array Nat}(h:Pm N p)(i j:Nat):Pm N (kas_rev p i j):=(mirror_perm p i j _).toList.trans h
theorem nth_rev{p:Array Nat}{m k:Nat}(hm:m≤p.size):nth (kas_rev p 0 m) k=if k < m then nth p (m - 1 - k) else nth p k:=by
 have e:=getElem?_mirror_all (i:=0) hm k
 have g:∀(q:Array Nat)(i:Nat),nth q i=(q[i]?).getD 0:=fun q i=>by simp[nth,Array.getD_eq_getD_getElem?]
 unfold kas_rev
 rw[g,e]
 by_cases z:k < m
 ·rw[if_pos ⟨Nat.zero_le _,z⟩,if_pos z,g,Nat.zero_add]
 ·rw[if_neg (fun q=>z q.2),if_neg z,g]
theorem count_ok(o:Ord c N){p:Array Nat}(h:Pm N p)(hN:2≤N):∃ r q,Ev c N (kas_count N p) (r,q)∧1≤r∧r≤N∧Pm N q∧Up c q r:=by
 obtain⟨r,a1,a2,a3,a4,a5⟩:=asc_ok o h (N - 1) 1 (Nat.le_refl _) (by omega)
 have up:Up c p r:=Up.of o h (by omega) fun i hi=>a4 (i+1) (by omega) hi
 by_cases z:r=N
 ·refine⟨r,p,a1.bind ?_,by omega,by omega,h,up⟩
  rw[if_pos (by rw[z];exact beq_self_eq_true _)]
  exact .ret _
 ·have nz:¬ (r == N)=true:=by simpa using z
  by_cases y:r > 1
  ·refine⟨r,p,a1.bind ?_,by omega,by omega,h,up⟩
   rw[if_neg nz,if_pos y]
   refine .ask (h.lt (by omega)) (h.lt (by omega)) ?_
   rw[up 0 (r - 1) (by omega) (by omega)]
   exact .ret _
  ·have r1:r=1:=by omega
   subst r1
   have d0:=a5 (by omega)
   obtain⟨m,b1,b2,b3,b4⟩:=desc_ok o h (N - 2) 2 (by omega) (by omega)
   have hr:Pm N (kas_rev p 0 m):=h.rev 0 m
   have hm:m≤p.size:=by rw[h.sz];omega
   obtain⟨r,c1,c2,c3,c4,c5⟩:=asc_ok o hr (N - m) m (by omega) (by omega)
   refine⟨r,kas_rev p 0 m,a1.bind ?_,by omega,by omega,hr,Up.of o hr (by omega) fun i hi=>?_⟩
   ·rw[if_neg nz,if_neg y]
    refine Ev.bind b1 ?_
    rw[if_neg (Nat.lt_irrefl 0)]
    exact c1.bind (.ret _)
   ·by_cases q:i+1 < m
    ·rw[nth_rev hm,nth_rev hm,if_pos (by omega),if_pos q]
     by_cases q0:m - 1 - i=1
     ·have:m - 1 - (i+1)=0:=by omega
      rw[q0,this]
      exact d0
     ·have:=b4 (m - 1 - i) (by omega) (by omega)
      have e:m - 1 - i - 1=m - 1 - (i+1):=by omega
      rw[e] at this
      exact this
    ·exact c4 (i+1) (by omega) hi
theorem place_ok(o:Ord c N){p:Array Nat}(h:Pm N p){k:Nat}(hk:k < N)(up:Up c p k):∀(f l r:Nat),r - l≤f→l≤r→r≤k→(∀ i,i < l→c (nth p i) (nth p k)=true)→(∀ i,r≤i→i < k→c (nth p k) (nth p i)=true) →
  ∃ d,Ev c N (kas_place p k f l r) d∧d≤k∧(∀ i,i < d→c (nth p i) (nth p k)=true)∧∀ i,d≤i→i < k→c (nth p k) (nth p i)=true
 | 0,l,r,h1,h2,h3,a,b=>by
  have:l=r:=by omega
  subst this
  exact⟨l,.ret l,h3,a,b⟩
 | f+1,l,r,h1,h2,h3,a,b=>by
  unfold kas_place
  by_cases z:l ≥ r
  ·rw[if_pos z]
   have:l=r:=by omega
   subst this
   exact⟨l,.ret l,h3,a,b⟩
  ·rw[if_neg z]
   have l1:=h.lt hk
   have l2:=h.lt (i:=(l+r) / 2) (by omega)
   by_cases y:c (nth p k) (nth p ((l+r) / 2))=true
   ·obtain⟨d,d1,d2⟩:=place_ok o h hk up f l ((l+r) / 2) (by omega) (by omega) (by omega) a fun i i1 i2=>by
     by_cases q:i=(l+r) / 2
     ·subst q;exact y
     ·exact o.tr _ _ _ l1 l2 (h.lt (by omega)) y (up _ _ (by omega) (by omega))
    refine⟨d,.ask l1 l2 ?_,d2⟩
    rw[y]
    exact d1
   ·have y':c (nth p k) (nth p ((l+r) / 2))=false:=by simpa using y
    have y2:c (nth p ((l+r) / 2)) (nth p k)=true:=by
     rw[o.tot _ _ l2 l1 fun e=>by have:=h.inj (by omega) (by omega) e;omega,y']
     rfl
    obtain⟨d,d1,d2⟩:=place_ok o h hk up f ((l+r) / 2+1) r (by omega) (by omega) h3 (fun i i1=>by
     by_cases q:i=(l+r) / 2
     ·subst q;exact y2
     ·exact o.tr _ _ _ (h.lt (by omega)) l2 l1 (up _ _ (by omega) (by omega)) y2) b
    refine⟨d,.ask l1 l2 ?_,d2⟩
    rw[y']
    exact d1
theorem nth_bub{p:Array Nat}{k d i:Nat}(hk:k < p.size)(hd:d≤k):nth (bubble p k (k - d)) i=if i=d then nth p k else if d < i∧i≤k then nth p (i - 1) else nth p i:=by
 have e:=getElem?_bubble hk (k - d) (by omega) i
 have g:∀(q:Array Nat)(i:Nat),nth q i=(q[i]?).getD 0:=fun q i=>by simp[nth,Array.getD_eq_getD_getElem?]
 have z:k - (k - d)=d:=by omega
 rw[z] at e
 rw[g,e]
 by_cases h1:i=d
 ·rw[if_pos h1,if_pos h1,g]
 ·rw[if_neg h1,if_neg h1]
  by_cases h2:d < i∧i≤k
  ·rw[if_pos h2,if_pos h2,g]
  ·rw[if_neg h2,if_neg h2,g]
theorem bin_ok(o:Ord c N):∀(f:Nat)(p:Array Nat)(k:Nat),k+f=N→Pm N p→Up c p k→∃ q,Ev c N (kas_bin f p k) q∧Pm N q∧Up c q N
 | 0,p,k,e,h,up=>⟨p,.ret p,h,by rw[← e];exact up⟩
 | f+1,p,k,e,h,up=>by
  obtain⟨d,d1,d2,d3,d4⟩:=place_ok o h (by omega) up k 0 k (by omega) (Nat.zero_le _) (Nat.le_refl _) (fun i hi=>absurd hi (Nat.not_lt_zero _)) fun i i1 i2=>absurd i1 (by omega)
  have hb:Pm N (bubble p k (k - d)):=(bubble_perm p k _).toList.trans h
  have ks:k < p.size:=by rw[h.sz];omega
  obtain⟨q,q1,q2⟩:=bin_ok o f (bubble p k (k - d)) (k+1) (by omega) hb fun i j h1 h2=>by
   rw[nth_bub ks d2,nth_bub ks d2]
   by_cases a:i=d
   ·rw[if_pos a,if_neg (by omega),if_pos (by omega)]
    exact d4 _ (by omega) (by omega)
   ·rw[if_neg a]
    by_cases b:j=d
    ·rw[if_pos b,if_neg (by omega)]
     exact d3 _ (by omega)
    ·rw[if_neg b]
     by_cases a2:d < i∧i≤k
     ·rw[if_pos a2,if_pos (by omega)]
      exact up _ _ (by omega) (by omega)
     ·rw[if_neg a2]
      by_cases b2:d < j∧j≤k
      ·rw[if_pos b2]
       exact up _ _ (by omega) (by omega)
      ·rw[if_neg b2]
       exact up _ _ h1 (by omega)
  exact⟨q,d1.bind q1,q2⟩
theorem sort_ok(o:Ord c N)(hN:2≤N):∃ q,Ev c N (kas_sort N) q∧Pm N q∧Up c q N:=by
 obtain⟨r,p,e,r1,r2,hp,up⟩:=count_ok o (p:=List.toArray (List.range N)) (by show (List.toArray (List.range N)).toList.Perm _;rw[List.toList_toArray]) hN
 by_cases z:r < N
 ·have m1:max r 1=r:=by omega
  obtain⟨q,q1,q2⟩:=bin_ok o (N - r) p r (by omega) hp up
  refine⟨q,e.bind ?_,q2⟩
  rw[if_pos z,m1]
  exact q1
 ·have:r=N:=by omega
  subst this
  refine⟨p,e.bind ?_,hp,up⟩
  rw[if_neg z]
  exact .ret _
end
end L2
namespace L2
open PySem
theorem lex_irr:∀ a:List Int,HT.lexLt a a=false
 | []=>rfl
 | x::a=>by rw[HT.lexLt_cons,if_pos rfl];exact lex_irr a
theorem lex_tot:∀ a b:List Int,a≠b→HT.lexLt a b=!HT.lexLt b a
 | [],[],h=>absurd rfl h
 | [],_::_,_=>rfl
 | _::_,[],_=>rfl
 | x::a,y::b,h=>by
  rw[HT.lexLt_cons,HT.lexLt_cons]
  by_cases e:x=y
  ·subst e
   rw[if_pos rfl,if_pos rfl]
   exact lex_tot a b fun z=>h (by rw[z])
  ·rw[if_neg e,if_neg (Ne.symm e)]
   by_cases l:x < y
   ·have:¬ y < x:=by omega
    simp[l,this]
   ·have:y < x:=by omega
    simp[l,this]
theorem lex_tr:∀ a b c:List Int,HT.lexLt a b=true→HT.lexLt b c=true→HT.lexLt a c=true
 | [],[],c,h,_=>by cases h
 | _,_::_,[],_,h=>by cases h
 | [],_::_,_::_,_,_=>rfl
 | _::_,[],_,h,_=>by cases h
 | x::a,y::b,z::c,h1,h2=>by
  rw[HT.lexLt_cons] at h1 h2 ⊢
  by_cases e:x=y
  ·subst e
   rw[if_pos rfl] at h1
   by_cases e2:x=z
   ·rw[if_pos e2] at h2 ⊢
    exact lex_tr a b c h1 h2
   ·rw[if_neg e2] at h2 ⊢
    exact h2
  ·rw[if_neg e] at h1
   have l1:=of_decide_eq_true h1
   by_cases e2:y=z
   ·subst e2
    rw[if_neg e]
    exact h1
   ·rw[if_neg e2] at h2
    have l2:=of_decide_eq_true h2
    rw[if_neg (by omega)]
    exact decide_eq_true (by omega)
section
variable {prog:Program}{w:World}{A:Around}{E:Value→Shared→Prop}{s:Shared}{S:Addr}{L:Bool}{es:Array (Int×Value)}{ep:Nat}{t:SetTable}{key:Value→List Int}
theorem kat_ints{fin:Bool}{Q:Bool→Shared→Prop}:∀(us vs:List Value)(a b:List Int)(i:Nat),PyProof.Rows.IntsAre us a→PyProof.Rows.IntsAre vs b→fin=decide (a.length < b.length)→Q (HT.lexLt a b) s→PySem.W.KatLex prog w A true fin Q (us.zip vs) i s
 | _,_,_,_,i,.nil,.nil,hf,h=>by subst hf;exact h
 | _,_,_,_,i,.nil,.cons y t r,hf,h=>by subst hf;exact h
 | _,_,_,_,i,.cons x t r,.nil,hf,h=>by subst hf;exact h
 | _,_,_,_,i,.cons x t r,.cons y u r',hf,h=>by
  refine PySem.W.kat_cons (wpAny_eqBool_int ?_)
  rw[HT.lexLt_cons] at h
  by_cases e:x=y
  ·rw[if_pos e] at h
   rw[show (x == y)=true by simpa using e]
   exact PySem.W.kat_yes (kat_ints _ _ _ _ (i+1) r r' (by rw[hf];simp) h)
  ·rw[if_neg e] at h
   rw[show (x == y)=false by simpa using e]
   refine PySem.W.kat_no ?_
   cases (true && i == 0) with
   | true=>exact PyProof.Rows.oneLt_int h
   | false=>exact PySem.W.kat_one _ _ (PyProof.Rows.lt_int h)
theorem TKey.ints{h:Heap}{ks:List Int}{a:Addr}(x:TKey prog w h ks a):∃ o items n,h.get? a=some o∧o.cls=.type "tuple" ∧ o.data=.seq items n∧PyProof.Rows.IntsAre items.toList ks:=by
 obtain⟨o,items,n,h1,h2,h3,h4⟩:=x
 refine⟨o,items,n,h1,h2,h3,?_⟩
 generalize items.toList=l at h4
 clear h3
 induction h4 with
 | nil=>exact .nil
 | cons h1 _ ih =>
  obtain⟨tk,rfl⟩:=Value.isInt_shape h1
  exact .cons _ tk ih
theorem TKey.of{h:Heap}{ks:List Int}{a:Addr}{its:List Value}(x:PyProof.Rows.IsTup h a its.toArray)(hi:PyProof.Rows.IntsAre its ks):TKey prog w h ks a:=by
 obtain⟨o,h1,h2,n,h3⟩:=x
 refine⟨o,_,n,h1,h2,h3,?_⟩
 rw[List.toList_toArray]
 clear h3
 induction hi with
 | nil=>exact .nil
 | cons k tk _ ih=>exact .cons (intKind_is prog w k tk) ih
def ZTup(prog:Program)(w:World)(key:Value→List Int)(S:Addr)(L:Bool)(its:List Value)(h:Heap)(i:Nat):Prop :=
 (∀ v∈its,∃ a,v=.ref a∧TKey prog w h (key v) a∧a < S)∧∃ es ep t,SetT prog w key h S L es ep t∧es.size≤i∧(∀ k,k∈es.toList.map (fun e=>key e.2)↔k∈(its.take i).map key)∧∀ e∈es.toList,e.2∈its
theorem set_of_tuples{l:Addr}{its:List Value}{Q:Value→Shared→Prop}(hh:A.handled=none)(hu:A.units+16 < cLine)(hl:s.heap.IsList l its.toArray)(hk:∀ v∈its,∃ a,v=.ref a∧TKey prog w s.heap (key v) a)(h18:its.length≤18)
  (h:∀ h' tk es ep t,SetT prog w key h' s.heap.objs.size (!byT w) es ep t→(∀ k,k∈es.toList.map (fun e=>key e.2)↔k∈its.map key)→es.size≤its.length→(∀ e∈es.toList,e.2∈its)→(∀ b o,s.heap.get? b=some o→h'.get? b=some o)→Q (.ref s.heap.objs.size) { s with heap:=h',toks:=tk }) :
  wpAny (model prog w) A (call (.type "set") [.ref l]) Q E s:=by
 refine set_of_listZ (Z:=ZTup prog w key s.heap.objs.size (!byT w) its) hh hl (fun h' kp e=>⟨fun v hv=>?_,#[],0,_,⟨⟨e,by decide,rfl,TabOk.fresh⟩,⟨.inl rfl,rfl,rfl,fun q hq=>by simp at hq⟩,.inl ⟨rfl,by decide⟩,(fun e he=>by simp at he),List.Pairwise.nil⟩,Nat.le_refl _,fun k=>by simp,fun e he=>by simp at he⟩) (fun h h' i z k=>⟨fun v hv=>?_,?_⟩) (fun A' i v s' Q E hu' pv z hq=>?_) fun h' tk z kp=>?_
 ·obtain⟨a,rfl,ta⟩:=hk v hv
  obtain⟨o,_,_,ho,_⟩:=id ta
  exact⟨a,rfl,TKey.to ta fun o q=>kp a o q,Heap.lt_size ho⟩
 ·obtain⟨a,e1,ta,la⟩:=z.1 v hv
  exact⟨a,e1,TKey.to ta fun o q=>k a o (Nat.le_of_lt la) q,la⟩
 ·obtain⟨es,ep,t,x,r⟩:=z.2
  exact⟨es,ep,t,x.to k,r⟩
 ·obtain⟨zi,es,ep,t,x,hz,hkk,hin⟩:=z
  have hlt:i < its.length:=by
   have:=(Array.getElem?_eq_some_iff.mp pv).1
   simpa using this
  have pv':its[i]?=some v:=by simpa using pv
  have hm:v∈its:=List.mem_of_getElem? pv'
  have tk':its.take (i+1)=its.take i++[v]:=by
   rw[List.take_succ_eq_append_getElem hlt]
   congr 2
   rw[List.getElem?_eq_getElem hlt] at pv'
   exact Option.some.inj pv'
  have zi':∀ h2,Heap.SameBut s.heap.objs.size s'.heap h2→∀ v∈its,∃ a,v=.ref a∧TKey prog w h2 (key v) a∧a < s.heap.objs.size:=fun h2 sb v hv=>by
   obtain⟨a,e1,ta,la⟩:=zi v hv
   exact⟨a,e1,TKey.to ta fun o q=>by rw[sb.2 a (Nat.ne_of_lt la)];exact q,la⟩
  obtain⟨b,rfl,tb,lb⟩:=zi v hm
  unfold setAdd
  refine wpAny_holding (wpAny_bind (wpAny_pyHash_tuple (by omega) tb ?_))
  refine add_tuple (s:={ s' with toks:=_ }) x (by omega) (by omega) tb lb (fun hmm=>?_) fun hmm h2 es2 ep2 t2 sb x2 pm=>?_
  ·refine hq false s'.heap _ ⟨rfl,fun _ _=>rfl⟩ ⟨zi,es,ep,t,x,by omega,fun k=>?_,hin⟩
   rw[hkk,tk',List.map_append,List.mem_append]
   constructor
   ·exact .inl
   ·rintro (z | z)
    ·exact z
    ·rw[List.mem_singleton.mp z]
     exact (hkk _).mp hmm
  ·have sz2:es2.size=es.size+1:=by
    have:=pm.length_eq
    rw[List.length_append,Array.length_toList,Array.length_toList] at this
    exact this
   refine hq true h2 _ sb ⟨zi' h2 sb,es2,ep2,t2,x2,by omega,fun k=>?_,fun e he=>?_⟩
   ·rw[(pm.map fun e:Int×Value=>key e.2).mem_iff,List.map_append,List.mem_append,hkk,tk',List.map_append,List.mem_append]
    rfl
   ·rcases List.mem_append.mp (pm.mem_iff.mp he) with z | z
    ·exact hin e z
    ·rw[List.mem_singleton.mp z]
     exact hm
 ·obtain⟨zi,es,ep,t,x,hz,hkk,hin⟩:=z
  exact h h' tk es ep t x (fun k=>by rw[hkk];simp) (by simpa using hz) hin kp
theorem tups_of{h:Heap}:∀{vs:List Value},(∀ v∈vs,∃ b,v=.ref b∧TKey prog w h (key v) b∧key v≠[])→∃ fs,PySem.W.KatTups h vs fs∧fs.length=vs.length∧∀ f∈fs,∃ k tk,f=Value.int k tk
 | [],_=>⟨[],trivial,rfl,fun f hf=>by cases hf⟩
 | v::vs,hv=>by
  obtain⟨fs,h1,h2,h3⟩:=tups_of fun u hu=>hv u (List.mem_cons_of_mem _ hu)
  obtain⟨b,rfl,tb,ne⟩:=hv v List.mem_cons_self
  obtain⟨o,items,n,ho,hc,hd,hi⟩:=tb.ints
  generalize key (.ref b)=ks at hi ne
  cases e:items.toList with
  | nil=>rw[e] at hi;cases hi;exact absurd rfl ne
  | cons f r =>
   rw[e] at hi
   cases hi with
   | cons k tk hr=>exact⟨.int k tk::fs,PySem.W.KatTups.cons ho hc hd (by rw[← Array.getElem?_toList,e];rfl) h1,by rw[List.length_cons,List.length_cons,h2],fun f hf=>(List.mem_cons.mp hf).elim (fun z=>⟨k,tk,z⟩) (h3 f)⟩
theorem list_sort_tups{a:Addr}{vs:List Value}{n:Nat}{P:PySem.Fin→Shared→Prop}(ho:s.heap.get? a=some (PyProof.Rows.seqObj "list" vs.toArray n))(h64:vs.length < 64)(hk:∀ v∈vs,∃ b,v=.ref b∧b≠a∧TKey prog w s.heap (key v) b∧key v≠[])(nd:(vs.map key).Nodup)
  (h:∀ out:List Value,out.Perm vs→(out.map key).Pairwise (fun a b=>HT.lexLt a b=true)→P (.done (.ret .none)) { s with heap:=PyProof.Rows.sortedHeap s.heap a vs out.toArray }) :
  wpAny (model prog w) A (Builtin.«list.sort» ⟨[.ref a],[]⟩) P E s:=by
 by_cases h2:vs.length < 2
 ·refine list_sort_one ho h2 (h vs (List.Perm.refl _) ?_)
  match vs,h2 with
  | [],_=>exact List.Pairwise.nil
  | [v],_=>exact List.pairwise_singleton _ _
 ·have gk:∀ i,i < vs.length→key (vs.getD i Value.none)=(vs.map key).getD i []:=fun i hi=>by simp[List.getD_eq_getElem?_getD,hi]
  have od:Ord (fun i j=>HT.lexLt (key (vs.getD i Value.none)) (key (vs.getD j Value.none))) vs.length:=by
   refine⟨fun i j hi hj ne=>lex_tot _ _ fun z=>ne ?_,fun i j k _ _ _=>lex_tr _ _ _⟩
   rw[gk i hi,gk j hj] at z
   have hi':i < (vs.map key).length:=by simpa using hi
   have hj':j < (vs.map key).length:=by simpa using hj
   rw[List.getD_eq_getElem?_getD,List.getD_eq_getElem?_getD,List.getElem?_eq_getElem hi',List.getElem?_eq_getElem hj'] at z
   exact (List.getElem_inj nd).mp z
  obtain⟨q,ev,pm,up⟩:=sort_ok od (by omega)
  have pmv:(q.toList.map fun i=>vs.getD i Value.none).Perm vs:=by
   have:=perm_map_getD (fun v:Value=>v) Value.none vs pm
   simpa using this
  have qs:q.size=vs.length:=pm.sz
  refine list_sort_by (κ:=PyProof.Rows.tuples' (Value.type "int" != Value.type "tuple")) (out:=(q.toList.map fun i=>vs.getD i Value.none).toArray) ho (by omega) (by omega) (by simp[qs]) (fun s' kp Q hQ=>?_) (fun s' kp=>?_) (h _ pmv ?_)
  ·obtain⟨fs,f1,f2,f3⟩:=tups_of (prog:=prog) (w:=w) (key:=key) (h:=s'.heap) (vs:=vs) fun v hv=>let ⟨b,e,nb,tb,ne⟩:=hk v hv;⟨b,e,TKey.to tb fun o q=>kp b o nb q,ne⟩
   refine PySem.W.kat_kind f1 (by omega) (fun f hf=>?_) rfl hQ
   obtain⟨k,tk,rfl⟩:=f3 f hf
   exact PySem.W.Looks.of_pure rfl
  ·refine PySem.W.kat_run (ks:=vs) (G:=fun p s''=>p=q∧s''=s') (Q:=fun st s''=>s''=s'∧((PyProof.Rows.arrOf st).map (·.2)=(q.toList.map fun i=>vs.getD i Value.none).toArray∧PyProof.Rows.failedOf st=none)) rfl (by omega) h64 (fun p st' s'' h1 h2 h3 h4=>?_) (ev.wp (fun i j C hi hj hC=>?_) ⟨rfl,rfl⟩)
   ·obtain⟨rfl,rfl⟩:=h4
    exact⟨rfl,PySem.W.kat_snds rfl h2,h3⟩
   ·have gi:∀ i,i < vs.length→∃ b,vs.getD i Value.none=.ref b∧TKey prog w s'.heap (key (vs.getD i Value.none)) b:=fun i hi=>by
     have e:vs.getD i Value.none=vs[i]:=by simp[List.getD_eq_getElem?_getD,hi]
     obtain⟨b,e1,nb,tb,ne⟩:=hk vs[i] (List.getElem_mem hi)
     rw[e]
     exact⟨b,e1,TKey.to tb fun o q=>kp b o nb q⟩
    obtain⟨b,eb,tb⟩:=gi i hi
    obtain⟨d,ed,td⟩:=gi j hj
    unfold PySem.W.kas_ask
    generalize key (vs.getD i Value.none)=kb at hC tb
    generalize key (vs.getD j Value.none)=kd at hC td
    rw[eb,ed]
    obtain⟨o1,i1,n1,a1,a2,a3,a4⟩:=tb.ints
    obtain⟨o2,i2,n2,b1,b2,b3,b4⟩:=td.ints
    have l1:=PyProof.Rows.IntsAre.length a4
    have l2:=PyProof.Rows.IntsAre.length b4
    rw[Array.length_toList] at l1 l2
    exact PySem.W.kat_lt (b:=true) a1 a3 b1 b3 (kat_ints _ _ _ _ 0 a4 b4 (by rw[l1,l2]) hC)
  ·rw[List.map_map]
   refine List.pairwise_iff_getElem.mpr fun i j hi hj hij=>?_
   rw[List.length_map] at hi hj
   rw[Array.length_toList,qs] at hi hj
   have:=up i j hij hj
   have g:∀ i,i < vs.length→∀ hl,(q.toList.map (key ∘ fun i=>vs.getD i Value.none))[i]'hl=key (vs.getD (nth q i) Value.none):=fun i hi hl=>by
    have hq:i < q.size:=by omega
    simp[nth,Array.getD,hq]
   rw[g i hi,g j hj]
   exact this
theorem sorted_tups{Q:Value→Shared→Prop}(hh:A.handled=none)(x:SetT prog w key s.heap S (!byT w) es ep t)(hne:∀ e∈es.toList,key e.2≠[])(h:∀ h' d D out c,s.heap.objs.size≤D→(∀ b o,s.heap.get? b=some o→h'.get? b=some o)→h'.get? D=some (lstO out c)→out.toList.Perm (es.toList.map (·.2))→(out.toList.map key).Pairwise (fun a b=>HT.lexLt a b=true)→Q (.ref D) { s with heap:=h',drawn:=d }) :
  wpAny (model prog w) A (call (.builtin "sorted") [.ref S]) Q E s:=by
 refine Calls.call_function_entry PyProof.Rows.kind_sorted PyProof.Rows.plain_sorted PyProof.Rows.entry_sorted (PyProof.Rows.args_sorted1 _) ?_
 unfold Builtin.«sorted»
 refine wpAny_bind (m:=checkCount "sorted" 1 1 _) (wpAny_pure (wpAny_bind (collect_set hh x.toSetW fun h1 d vs sz0 k pm=>?_)))
 have e18:es.size≤18:=by rcases x.cap with ⟨_,b⟩ | ⟨_,b⟩<;>omega
 have vl:vs.length < 64:=by
  rw[pm.length_eq,List.length_map,Array.length_toList]
  omega
 refine wpAny_bind (wpAny_newList ?_ (by rw[sizeLine_eq];omega))
 have g0:(h1.push (lstO vs.toArray 0)).get? h1.objs.size=some (lstO vs.toArray 0):=Heap.get?_push_size _ rfl
 have nd:(vs.map key).Nodup:=by
  refine (pm.map key).nodup_iff.mpr ?_
  rw[List.map_map]
  exact x.nd
 refine wpAny_bind (wpAny_holding (wpAny_call_entry PyProof.Rows.slot_list_sort (s:={ s with heap:=h1.push (lstO vs.toArray 0),drawn:=d }) ⟨_,g0,rfl⟩ PyProof.Rows.entry_list_sort (list_sort_tups (key:=key) g0 vl (fun v hv=>?_) nd fun out po pw=>⟨_,rfl,?_⟩) (PyProof.Rows.args_list_sort _)))
 ·obtain⟨e,he,rfl⟩:=List.mem_map.mp (pm.mem_iff.mp hv)
  obtain⟨a,ea,ta,la⟩:=x.sh e he
  obtain⟨o,_,_,ho,_⟩:=id ta
  refine⟨a,by rw[ea],Nat.ne_of_lt (Nat.lt_trans (Heap.lt_size ho) sz0),TKey.to ta fun o q=>Heap.get?_push_of_some _ (k _ _ q),hne e he⟩
 ·obtain⟨c,g1⟩:=PyProof.Rows.sortedHeap_at (out:=out.toArray) g0
  refine wpAny_pure ⟨_,rfl,h _ d _ out.toArray c (Nat.le_of_lt sz0) (fun b o e=>?_) g1 (by rw[List.toList_toArray];exact po.trans pm) (by rw[List.toList_toArray];exact pw)⟩
  have bl:=Heap.lt_size (k b o e)
  rw[PyProof.Rows.sortedHeap_old (Nat.ne_of_lt bl) (by rw[Heap.size_push];exact Nat.lt_succ_of_lt bl)]
  exact Heap.get?_push_of_some _ (k b o e)
end
end L2
namespace L2
open PySem
def TupsAt(H:Hp)(vs:List V)(ks:List (List Int)):Prop:=Paired (fun v k=>∃ a,v=V.ref a∧H a=some (.tup (k.map V.int))) vs ks
def tSrtT(te:TE):TE:=fun σ H Q=>te σ H fun v H1=>∃(l:Addr)(vs:List V) (ks:List (List Int)),v=.ref l∧H1 l=some (.lst vs)∧TupsAt H1 vs ks∧vs.length≤18∧(∀ k∈ks,k≠[]) ∧
 ∀(p:Addr)(us:List V) (zs:List (List Int)),TupsAt H1 us zs→zs.Pairwise (fun a b=>HT.lexLt a b=true)→(∀ k,k∈zs↔k∈ks)→H1 p=none→Q (.ref p) (upd H1 p (.lst us))
def tLenS(te:TE):TE:=fun σ H Q=>te σ H fun v H1=>∃(l:Addr)(vs:List V) (ks:List (List Int)),v=.ref l∧H1 l=some (.lst vs)∧TupsAt H1 vs ks∧vs.length≤18 ∧
 ∀ zs:List (List Int),zs.Nodup→(∀ k,k∈zs↔k∈ks)→Q (.int (zs.length:Nat)) H1
def keyV(h:Heap):Value→List Int
 | .ref a=>match h.get? a with
  | some o=>match o.data with
   | .seq items _=>items.toList.map PyProof.Rows.numOf
   | _=>[]
  | none=>[]
 | _=>[]
theorem keyV_of{h:Heap}{a:Addr}{its:List Value}{ks:List Int}(x:PyProof.Rows.IsTup h a its.toArray)(hi:PyProof.Rows.IntsAre its ks):keyV h (.ref a)=ks:=by
 obtain⟨o,h1,h2,n,h3⟩:=x
 simp only[keyV,h1,h3]
 exact PyProof.Rows.IntsAre.nums hi
theorem TKey.any{prog prog':Program}{w w':World}{h:Heap}{ks:List Int}{a:Addr}(x:TKey prog w h ks a):TKey prog' w' h ks a:=by
 obtain⟨o,items,n,h1,h2,h3,h4⟩:=x.ints
 exact TKey.of (its:=items.toList) ⟨o,h1,h2,n,h3⟩ h4
section
variable {X:Cx}{pins:List (Addr×Obj)}{s:Shared}{σ:St}{H:Hp}
theorem Inv.tups(I:Inv X pins σ H s):∀{vs:List V} {ks:List (List Int)} {its:List Value},TupsAt H vs ks→Vals vs its→(∀ v∈its,∃ a,v=Value.ref a∧TKey X.prog X.w s.heap (keyV s.heap v) a∧H a=some (.tup ((keyV s.heap v).map V.int)))∧its.map (keyV s.heap)=ks
 | _,_,_,.nil,.nil=>⟨fun v hv=>(nomatch hv),rfl⟩
 | _,_,_,.cons ⟨a,e1,e2⟩ t,.cons r rs=>by
  subst e1
  cases r
  obtain⟨h1,h2⟩:=I.tups t rs
  obtain⟨us,ru,pt,_⟩:=I.tuple (SqT.of e2)
  have hi:=ints_of_vals ru
  have ek:=keyV_of pt hi
  refine⟨fun v hv=>?_,by rw[List.map_cons,ek,h2]⟩
  rcases List.mem_cons.mp hv with rfl | hv
  ·exact⟨a,rfl,by rw[ek];exact TKey.of pt hi,by rw[ek];exact e2⟩
  ·exact h1 v hv
theorem tups_back{key:Value→List Int}:∀{out:List Value},(∀ v∈out,∃ a,v=Value.ref a∧H a=some (.tup ((key v).map V.int)))→∃ us,Vals us out∧TupsAt H us (out.map key)
 | [],_=>⟨[],.nil,.nil⟩
 | v::out,h=>by
  obtain⟨us,h1,h2⟩:=tups_back fun u hu=>h u (List.mem_cons_of_mem _ hu)
  obtain⟨a,rfl,ha⟩:=h v List.mem_cons_self
  exact⟨.ref a::us,.cons rfl h1,.cons ⟨a,rfl,ha⟩ h2⟩
variable {e:Expr}{te:TE}{p1 p2 p3 p4:Pos}
theorem pe_srtT(hu:X.A.units+64 < cLine)(hc:X.calm=true)(he:PE X e te)(hg1:Gl X "sorted")(hm1:X.mg "sorted" = none)(hv1:bootBuiltins "sorted" = some (.builtin "sorted"))(hg2:Gl X "set")(hm2:X.mg "set" = none)(hv2:bootBuiltins "set" = some (.type "set"))
  (s1:starEach [.Call (.Name "set" p2) [e] [] p3] X.env=[(false,eval (.Call (.Name "set" p2) [e] [] p3) X.env)]:=by rfl) (s2:starEach [e] X.env=[(false,eval e X.env)]:=by rfl) :
  PE X (.Call (.Name "sorted" p1) [.Call (.Name "set" p2) [e] [] p3] [] p4) (tSrtT te):=by
 intro pins s σ H Q I h
 refine wpAny_Call_Name_kw (ld_blt I hg1 hm1 hv1 ?_ (by decide) (by decide))
 refine PyProof.Rows.callWith_builtin1 (e:=.Call (.Name "set" p2) [e] [] p3) (rest:=[]) ?_ s1 rfl
 rw[s1]
 refine Calls.spliced_cons ?_
 refine wpAny_Call_Name_kw (ld_blt I hg2 hm2 hv2 ?_ (by decide) (by decide))
 refine PyProof.Rows.callWith_type1 (e:=e) (rest:=[]) ?_ s2 rfl
 rw[s2]
 refine Calls.spliced_cons (thn (he pins s σ H _ I h) fun u st1 ⟨v,H1,I1,rv,l,vs,ks,ev,hl,ht,h18,hne,hq⟩=>Calls.spliced_nil ?_)
 subst ev
 cases rv
 obtain⟨its,rl,pl,hz⟩:=I1.list (SqL.of hl)
 obtain⟨t1,t2⟩:=I1.tups ht rl
 have il:its.length=vs.length:=rl.length.symm
 have hh:=I1.ok.hd hc
 refine set_of_tuples (key:=keyV st1.heap) hh (by omega) pl.isList (fun v hv=>let ⟨a,b,c,_⟩:=t1 v hv;⟨a,b,c⟩) (by omega) fun h2 tk es ep t x hk hsz hin kp=>Calls.spliced_nil ?_
 refine sorted_tups (s:={ st1 with heap:=h2,toks:=tk }) hh x (fun e he=>?_) fun h3 d D out c hD k3 gD pm pw=>?_
 ·have:keyV st1.heap e.2∈its.map (keyV st1.heap):=(hk _).mp (List.mem_map.mpr ⟨e,he,rfl⟩)
  rw[t2] at this
  exact hne _ this
 ·have S0:st1.heap.objs.size≤D:=Nat.le_trans (Nat.le_of_lt (Heap.lt_size x.at')) hD
  have kk:∀ b o,st1.heap.get? b=some o→h3.get? b=some o:=fun b o e=>k3 b o (kp b o e)
  have hn:H1 D=none:=I1.hok.fresh S0
  obtain⟨us,u1,u2⟩:=tups_back (H:=H1) (key:=keyV st1.heap) (out:=out.toList) fun v hv=>by
   obtain⟨e,he,rfl⟩:=List.mem_map.mp (pm.mem_iff.mp hv)
   obtain⟨a,b,_,d⟩:=t1 e.2 (hin e he)
   exact⟨a,b,d⟩
  have ul:us.length=es.size:=by
   rw[u1.length,pm.length_eq,List.length_map,Array.length_toList]
  have zl:us.length≤sizeLine:=by
   rw[ul,sizeLine_eq]
   omega
  have new:ObjOk X.prog X.w (upd H1 D (.lst us)) h3 D (.lst us):=⟨zl,out.toList,c,u1,gD⟩
  refine⟨.ref D,upd H1 D (.lst us),?_,rfl,hq D us _ u2 pw (fun k=>?_) hn⟩
  ·exact I1.call' (s':={ st1 with heap:=h3,toks:=tk,drawn:=d }) (ch:=[]) rfl (Un.laid kk S0 hn) (I1.hok.laid kk S0 new) I1.bare fun b hb=>by cases hb
  ·rw[← t2,← hk,(pm.map (keyV st1.heap)).mem_iff,List.map_map]
   rfl
theorem pe_lenS(hu:X.A.units+64 < cLine)(hc:X.calm=true)(he:PE X e te)(hg1:Gl X "len")(hm1:X.mg "len" = none)(hv1:bootBuiltins "len" = some (.builtin "len"))(hg2:Gl X "set")(hm2:X.mg "set" = none)(hv2:bootBuiltins "set" = some (.type "set"))
  (s1:starEach [.Call (.Name "set" p2) [e] [] p3] X.env=[(false,eval (.Call (.Name "set" p2) [e] [] p3) X.env)]:=by rfl) (s2:starEach [e] X.env=[(false,eval e X.env)]:=by rfl) :
  PE X (.Call (.Name "len" p1) [.Call (.Name "set" p2) [e] [] p3] [] p4) (tLenS te):=by
 intro pins s σ H Q I h
 refine wpAny_Call_Name_kw (ld_blt I hg1 hm1 hv1 ?_ (by decide) (by decide))
 refine PyProof.Rows.callWith_builtin1 (e:=.Call (.Name "set" p2) [e] [] p3) (rest:=[]) ?_ s1 rfl
 rw[s1]
 refine Calls.spliced_cons ?_
 refine wpAny_Call_Name_kw (ld_blt I hg2 hm2 hv2 ?_ (by decide) (by decide))
 refine PyProof.Rows.callWith_type1 (e:=e) (rest:=[]) ?_ s2 rfl
 rw[s2]
 refine Calls.spliced_cons (thn (he pins s σ H _ I h) fun u st1 ⟨v,H1,I1,rv,l,vs,ks,ev,hl,ht,h18,hq⟩=>Calls.spliced_nil ?_)
 subst ev
 cases rv
 obtain⟨its,rl,pl,hz⟩:=I1.list (SqL.of hl)
 obtain⟨t1,t2⟩:=I1.tups ht rl
 have il:its.length=vs.length:=rl.length.symm
 have hh:=I1.ok.hd hc
 refine set_of_tuples (key:=keyV st1.heap) hh (by omega) pl.isList (fun v hv=>let ⟨a,b,c,_⟩:=t1 v hv;⟨a,b,c⟩) (by omega) fun h2 tk es ep t x hk hsz hin kp=>Calls.spliced_nil ?_
 have e18:es.size≤18:=by omega
 refine call_len_set (s:={ st1 with heap:=h2,toks:=tk }) x.at' ⟨rfl,rfl,rfl⟩ rfl x.fit (Int.lt_of_le_of_lt (Int.ofNat_le.mpr e18) (by decide)) ?_
 refine⟨.int (es.size:Nat),H1,?_,⟨_,rfl⟩,?_⟩
 ·exact I1.call' (s':={ st1 with heap:=h2,toks:=tk+1+1 }) (ch:=[]) rfl (Un.kept kp) (I1.hok.kept kp) I1.bare fun b hb=>by cases hb
 ·have:=hq (es.toList.map fun e=>keyV st1.heap e.2) x.nd fun k=>by rw[hk,t2]
  rwa [List.length_map,Array.length_toList] at this
def rIndexT:V→List V→Hp→VK→Prop:=fun x vs H Q=>∃(l a:Addr)(us:List V) (zs:List (List Int)) (k:List Int),x=.ref l∧vs=[.ref a]∧H l=some (.lst us)∧TupsAt H us zs∧us.length≤60∧H a=some (.tup (k.map V.int))∧k∈zs∧Q (.int (zs.idxOf k:Nat)) H
open PyProof.Rows PySem.SeqAt in
theorem mt_indexT(hu:X.A.units+64 < cLine):MtM X "list.index" rIndexT:=by
 intro pins s σ H x vs v us Q I rx rv h
 obtain⟨l,a,ul,zs,k,rfl,rfl,hH,ht,hn,ha,hk,q⟩:=h
 cases rx
 obtain⟨u,rfl,ru⟩:=rv.one
 cases ru
 obtain⟨its,rv',pl,hz⟩:=I.list (SqL.of hH)
 obtain⟨t1,t2⟩:=I.tups ht rv'
 have hlen:its.length=zs.length:=by rw[← t2,List.length_map]
 have hil:its.length=ul.length:=rv'.length.symm
 have hj:zs.idxOf k < zs.length:=List.idxOf_lt_length_iff.mpr hk
 obtain⟨tus,rt,pt,_⟩:=I.tuple (SqT.of ha)
 have ti:TKey X.prog X.w s.heap k a:=TKey.of pt (ints_of_vals rt)
 obtain⟨⟨cls,dd,data,sl⟩,ho,hc,n,hd⟩:=pl.isList
 simp only at hc hd
 subst hc hd
 have at':∀ i (hi:i < its.length),keyV s.heap its[i]=zs[i]'(by omega):=fun i hi=>by
  have:(its.map (keyV s.heap))[i]?=zs[i]?:=by rw[t2]
  rw[List.getElem?_map,List.getElem?_eq_getElem hi,List.getElem?_eq_getElem (by omega)] at this
  exact Option.some.inj this
 refine call_meets PySem.F.slot_list_index ⟨_,ho,rfl⟩ PySem.F.entry_list_index (PySem.F.args_list_index_2 _ _)
  (list_indexAt l its.toArray n dd sl (.ref a) (fun y=>decide (keyV s.heap y=k)) (zs.idxOf k) (by simpa [hlen] using hj) (by omega) ?_ ?_) ⟨ho,fun y hy=>?_,⟨.int (zs.idxOf k:Nat),H,I.tok _,⟨_,rfl⟩,q⟩⟩
 ·show decide (keyV s.heap its[zs.idxOf k]=k)=true
  rw[at' _ (by omega)]
  exact decide_eq_true (List.getElem_idxOf hj)
 ·intro j hjs hlt
  show decide (keyV s.heap its[j]=k)=false
  rw[at' j (by simpa using hjs)]
  refine decide_eq_false fun z=>?_
  have:=List.not_of_lt_findIdx (p:=(· == k)) (xs:=zs) (i:=j) (by exact hlt)
  simp[z] at this
 ·obtain⟨b,rfl,tb,_⟩:=t1 y (by simpa using hy)
  have hu1:X.A.in1.units < cLine:=by
   have e1:X.A.in1.units=X.A.units+1:=rfl
   omega
  exact fun prog w E Q hq=>wpAny_eqBool_tuple hu1 (TKey.any tb) (TKey.any ti) hq
def rLtQ:R2:=fun x y H Q=>∃ a b ns ms,x=.ref a∧y=.ref b∧H a=some (.tup (ns.map V.int))∧H b=some (.tup (ms.map V.int))∧Q (.bl (HT.lexLt ns ms)) H
theorem op_ltQ(hu:X.A.units+64 < cLine):OpR X (compareOp .Lt) rLtQ:=by
 intro pins s σ H x y v u Q I rx ry h
 obtain⟨a,b,ns,ms,rfl,rfl,ha,hb,q⟩:=h
 exact op_ltT (by omega) pins s σ H _ _ v u Q I rx ry ⟨a,b,ns,ms,rfl,rfl,SqT.of ha,SqT.of hb,q⟩
def rDGetK(pr:Params)(K:PySem.W.Frag)(x:V)(Q:VK):VK:=fun y H2=>∃ d D z v,x=.ref d∧y=.str z∧KDict pr K d D∧D.lookup z=some v∧Q v H2
def tDGetK(pr:Params)(K:PySem.W.Frag)(td ty:TE):TE:=fun σ H Q=>td σ H fun x H1=>ty σ H1 (rDGetK pr K x Q)
theorem pe_dgetK{o i:Expr}{td ty:TE}{pos:Pos}(ho:PE X o td)(hi:PE X i ty)(hs:NoSl i:=by exact fun _ _=>rfl):PE X (.Subscript o i pos) (tDGetK X.w.params X.K td ty):=by
 intro pins s σ H Q I h
 refine subD_of PySem.F.slot_dict_getitem.lookup hs (thn (ho pins s σ H _ I h) fun u s1 ⟨x,H1,I1,rx,q1⟩=>thn (hi pins s1 σ H1 _ I1 q1) fun iv s2 ⟨y,H2,I2,ry,d,D,z,v,ex,ey,hD,hz,q2⟩=>?_)
 subst ex
 subst ey
 obtain rfl:u=Value.ref d:=rx
 obtain⟨vs,kv,dd⟩:=hD.of (prog:=X.prog) (w:=X.w) I2.kIn
 obtain⟨w',hw,rw'⟩:=RelO.some_of (v:=v) (o:=valueAt vs (Sum.inr z)) (by rw[← valV_kvS hz];exact kv.val (Sum.inr z))
 exact⟨dd.typeIs,wpAny_getItem_of (k:=Sum.inr z) (kV_is ry) dd.mapOf hw ⟨v,H2,I2.tok _,rw',q2⟩⟩
theorem qe_dgetK{pr:Params}{K:PySem.W.Frag}{o i:Expr}{td ty:TE}{pos:Pos}(hp:X.w.params=pr)(hK:X.K=K)(ho:QE X o td)(hi:QE X i ty)(hs:NoSl i:=by exact fun _ _=>rfl):QE X (.Subscript o i pos) (tDGetK pr K td ty):=by
 subst hp hK
 exact⟨pe_dgetK ho.p hi.p hs⟩
theorem qe_srtT(hu:X.A.units+64 < cLine)(hc:X.calm=true)(he:QE X e te)(hg1:Gl X "sorted")(hm1:X.mg "sorted" = none)(hv1:bootBuiltins "sorted" = some (.builtin "sorted"))(hg2:Gl X "set")(hm2:X.mg "set" = none)(hv2:bootBuiltins "set" = some (.type "set"))
  (s1:starEach [.Call (.Name "set" p2) [e] [] p3] X.env=[(false,eval (.Call (.Name "set" p2) [e] [] p3) X.env)]:=by rfl) (s2:starEach [e] X.env=[(false,eval e X.env)]:=by rfl) :
  QE X (.Call (.Name "sorted" p1) [.Call (.Name "set" p2) [e] [] p3] [] p4) (tSrtT te):=⟨pe_srtT hu hc he.p hg1 hm1 hv1 hg2 hm2 hv2 s1 s2⟩
theorem qe_lenS(hu:X.A.units+64 < cLine)(hc:X.calm=true)(he:QE X e te)(hg1:Gl X "len")(hm1:X.mg "len" = none)(hv1:bootBuiltins "len" = some (.builtin "len"))(hg2:Gl X "set")(hm2:X.mg "set" = none)(hv2:bootBuiltins "set" = some (.type "set"))
  (s1:starEach [.Call (.Name "set" p2) [e] [] p3] X.env=[(false,eval (.Call (.Name "set" p2) [e] [] p3) X.env)]:=by rfl) (s2:starEach [e] X.env=[(false,eval e X.env)]:=by rfl) :
  QE X (.Call (.Name "len" p1) [.Call (.Name "set" p2) [e] [] p3] [] p4) (tLenS te):=⟨pe_lenS hu hc he.p hg1 hm1 hv1 hg2 hm2 hv2 s1 s2⟩
end
section
variable {σ:St}{H:Hp}{Q:VK}{te:TE}
theorem i_tSrtT(h:te σ H fun v H1=>∃(l:Addr)(vs:List V) (ks:List (List Int)),v=.ref l∧H1 l=some (.lst vs)∧TupsAt H1 vs ks∧vs.length≤18∧(∀ k∈ks,k≠[]) ∧
 ∀(p:Addr)(us:List V) (zs:List (List Int)),TupsAt H1 us zs→zs.Pairwise (fun a b=>HT.lexLt a b=true)→(∀ k,k∈zs↔k∈ks)→H1 p=none→Q (.ref p) (upd H1 p (.lst us))):tSrtT te σ H Q:=h
theorem i_tLenS(h:te σ H fun v H1=>∃(l:Addr)(vs:List V) (ks:List (List Int)),v=.ref l∧H1 l=some (.lst vs)∧TupsAt H1 vs ks∧vs.length≤18 ∧
 ∀ zs:List (List Int),zs.Nodup→(∀ k,k∈zs↔k∈ks)→Q (.int (zs.length:Nat)) H1):tLenS te σ H Q:=h
theorem i_tDGetK{pr:Params}{K:PySem.W.Frag}{td ty:TE}(h:td σ H fun x H1=>ty σ H1 (rDGetK pr K x Q)):tDGetK pr K td ty σ H Q:=h
theorem TupsAt.to{H H':Hp}(k:∀ a xs,H a=some (.tup xs)→H' a=some (.tup xs)):∀{vs:List V} {ks:List (List Int)},TupsAt H vs ks→TupsAt H' vs ks
 | _,_,.nil=>.nil
 | _,_,.cons ⟨a,e,h⟩ t=>.cons ⟨a,e,k _ _ h⟩ (TupsAt.to k t)
theorem TupsAt.snoc{H:Hp}{v:V}{k:List Int}(h:∃ a,v=V.ref a∧H a=some (.tup (k.map V.int))):∀{vs:List V} {ks:List (List Int)},TupsAt H vs ks→TupsAt H (vs++[v]) (ks++[k])
 | _,_,.nil=>.cons h .nil
 | _,_,.cons r t=>.cons r (TupsAt.snoc h t)
theorem TupsAt.len{H:Hp}{vs:List V}{ks:List (List Int)}(h:TupsAt H vs ks):vs.length=ks.length:=Paired.length h
theorem TupsAt.get{H:Hp}:∀{vs:List V} {ks:List (List Int)} {i:Nat} {v:V},TupsAt H vs ks→vs[i]?=some v→∃ a k,v=.ref a∧ks[i]?=some k∧H a=some (.tup (k.map V.int))
 | _,_,_,_,.nil,h=>by simp at h
 | _,_,0,_,.cons ⟨a,e,h⟩ _,hv=>by
  cases hv
  exact⟨a,_,e,rfl,h⟩
 | _,_,i+1,v,.cons _ t,hv=>TupsAt.get (i:=i) t hv
end
end L2
set_option maxHeartbeats 4000000
namespace Toy
open PySem L2
open PySem.Builtin.Int (intBits)
def top(i:Nat):Stmt:=PySem.Challenge.pw_keelbond_k32_ranks_told.main.body.getD i (.Pass ⟨0,0,0,0⟩)
abbrev s_standing:Stmt:=top 2
theorem sc_standing:FnScope ["word", "moment"] ["word", "moment"] (defScope s_standing):=⟨rfl,rfl,rfl,by decide +kernel,rfl,by decide +kernel,by decide +kernel⟩
abbrev s_ranked:Stmt:=top 3
theorem sc_ranked:FnScope ["kinds", "standings", "steps"] ["kinds"] (defScope s_ranked):=⟨rfl,rfl,rfl,by decide +kernel,rfl,by decide +kernel,by decide +kernel⟩
abbrev s__law_bag:Stmt:=top 5
theorem sc__law_bag:FnScope ["_law_script", "_law_salt", "_law_one"] ["_law_script"] (defScope s__law_bag):=⟨rfl,rfl,rfl,by decide +kernel,rfl,by decide +kernel,by decide +kernel⟩
abbrev s__law_pull:Stmt:=top 6
theorem sc__law_pull:FnScope ["_law_bag_here", "_law_many", "_law_seed", "_law_mixed", "_law_drawn"] ["_law_bag_here", "_law_many"] (defScope s__law_pull):=⟨rfl,rfl,rfl,by decide +kernel,rfl,by decide +kernel,by decide +kernel⟩
abbrev s__law_whole:Stmt:=top 7
theorem sc__law_whole:FnScope ["_law_found"] ["_law_found"] (defScope s__law_whole):=⟨rfl,rfl,rfl,by decide +kernel,rfl,by decide +kernel,by decide +kernel⟩
abbrev s__law_key:Stmt:=top 8
theorem sc__law_key:FnScope ["_law_word", "_law_moment"] ["_law_word", "_law_moment"] (defScope s__law_key):=⟨rfl,rfl,rfl,by decide +kernel,rfl,by decide +kernel,by decide +kernel⟩
abbrev s__law_ranked:Stmt:=top 9
theorem sc__law_ranked:FnScope ["_law_kinds", "_law_keys"] ["_law_kinds"] (defScope s__law_ranked):=⟨rfl,rfl,rfl,by decide +kernel,rfl,by decide +kernel,by decide +kernel⟩
abbrev s__law_alike:Stmt:=top 10
theorem sc__law_alike:FnScope ["_law_found", "_law_due"] ["_law_found", "_law_due"] (defScope s__law_alike):=⟨rfl,rfl,rfl,by decide +kernel,rfl,by decide +kernel,by decide +kernel⟩
abbrev s_law:Stmt:=top 11
theorem sc_law:FnScope ["_law_script", "_law_bag_here", "_law_row", "_law_scale", "_law_k", "_law_given", "_law_found"] ["_law_script"] (defScope s_law):=⟨rfl,rfl,rfl,by decide +kernel,rfl,by decide +kernel,by decide +kernel⟩
def At_ORDER(pr:Params)(K:PySem.W.Frag)(d:Addr):Prop:=KDict pr K d [("wage", .int 0),("loan", .int 1),("rescue", .int 1),("old", .int 2),("owner", .int 3)]
structure Txt(pr:Params)(K:PySem.W.Frag)(mg:Str→Option Value)(cx:Str→Addr):Prop where
 n_sorted:mg "sorted" = none
 n_set:mg "set" = none
 n_list:mg "list" = none
 n_len:mg "len" = none
 n_isinstance:mg "isinstance" = none
 n_bool:mg "bool" = none
 n_int:mg "int" = none
 n_all:mg "all" = none
 n_range:mg "range" = none
 n_tuple:mg "tuple" = none
 n_str:mg "str" = none
 g_ORDER:∃ d,mg "ORDER" = some (.ref d)∧At_ORDER pr K d
def kdS:Nat→Str
 | 0 => "wage"
 | 1 => "loan"
 | 2 => "rescue"
 | 3 => "old"
 | _ => "owner"
def rk(j:Nat)(m:Int):List Int:=match j with
 | 0=>[0,0]
 | 1=>[1,-m]
 | 2=>[1,-m]
 | 3=>[2,-m]
 | _=>[3,0]
theorem rk_two(j:Nat)(m:Int):∃ a b,rk j m=[a,b]:=by
 unfold rk
 split<;>exact⟨_,_,rfl⟩
def KdAt(H:Hp)(vs:List V)(rows:List (Nat×Int)):Prop:=Paired (fun v r=>∃ a,v=V.ref a∧r.1 < 5∧H a=some (.tup [.str (kdS r.1),.int r.2])) vs rows
theorem KdAt.get{H:Hp}:∀{vs:List V} {rows:List (Nat×Int)} {i:Nat} {v:V},KdAt H vs rows→vs[i]?=some v→∃ a r,v=.ref a∧rows[i]?=some r∧r.1 < 5∧H a=some (.tup [.str (kdS r.1),.int r.2])
 | _,_,_,_,.nil,h=>by simp at h
 | _,_,0,_,.cons ⟨a,e,h⟩ _,hv=>by
  cases hv
  exact⟨a,_,e,rfl,h⟩
 | _,_,i+1,v,.cons _ t,hv=>KdAt.get (i:=i) t hv
theorem KdAt.to{H H':Hp}(k:∀ a xs,H a=some (.tup xs)→H' a=some (.tup xs)):∀{vs:List V} {rows:List (Nat×Int)},KdAt H vs rows→KdAt H' vs rows
 | _,_,.nil=>.nil
 | _,_,.cons ⟨a,e,l,h⟩ t=>.cons ⟨a,e,l,k _ _ h⟩ (KdAt.to k t)
theorem KdAt.snoc{H:Hp}{v:V}{r:Nat×Int}(h:∃ a,v=V.ref a∧r.1 < 5∧H a=some (.tup [.str (kdS r.1),.int r.2])):∀{vs:List V} {rows:List (Nat×Int)},KdAt H vs rows→KdAt H (vs++[v]) (rows++[r])
 | _,_,.nil=>.cons h .nil
 | _,_,.cons r t=>.cons r (KdAt.snoc h t)
theorem KdAt.len{H:Hp}{vs:List V}{rows:List (Nat×Int)}(h:KdAt H vs rows):vs.length=rows.length:=Paired.length h
def rkL(rows:List (Nat×Int)):List (List Int):=rows.map fun r=>rk r.1 r.2
def RkOk(ks:List (List Int))(ns:List Int):Prop:=ns.length=ks.length∧∀(i:Nat) k,ks[i]?=some k→∃ zs:List (List Int),zs.Nodup∧(∀ x,x∈zs↔x∈ks∧HT.lexLt x k=true)∧ns[i]?=some ((zs.length:Nat):Int)
theorem RkOk.uniq{ks:List (List Int)}{ns ms:List Int}(a:RkOk ks ns)(b:RkOk ks ms):ns=ms:=by
 apply List.ext_getElem?
 intro i
 by_cases h:i < ks.length
 ·obtain⟨zs,n1,m1,e1⟩:=a.2 i _ (List.getElem?_eq_getElem h)
  obtain⟨ys,n2,m2,e2⟩:=b.2 i _ (List.getElem?_eq_getElem h)
  have p:zs.Perm ys:=(List.perm_ext_iff_of_nodup n1 n2).mpr fun x=>by rw[m1,m2]
  rw[e1,e2,p.length_eq]
 ·rw[List.getElem?_eq_none (by rw[a.1];omega),List.getElem?_eq_none (by rw[b.1];omega)]
theorem idx_below{zs:List (List Int)}(pw:zs.Pairwise fun a b=>HT.lexLt a b=true){k:List Int}(hk:k∈zs):(zs.take (zs.idxOf k)).Nodup∧(∀ x,x∈zs.take (zs.idxOf k)↔x∈zs∧HT.lexLt x k=true)∧(zs.take (zs.idxOf k)).length=zs.idxOf k:=by
 have hj:zs.idxOf k < zs.length:=List.idxOf_lt_length_iff.mpr hk
 have ek:zs[zs.idxOf k]=k:=List.getElem_idxOf hj
 have pg:=List.pairwise_iff_getElem.mp pw
 have nd:zs.Nodup:=pw.imp fun {a b} h z=>by rw[z,lex_irr] at h;cases h
 refine⟨nd.sublist (List.take_sublist _ _),fun x=>⟨fun hx=>?_,fun ⟨hx,hl⟩=>?_⟩,by rw[List.length_take];omega⟩
 ·obtain⟨i,hi,rfl⟩:=List.getElem_of_mem hx
  rw[List.length_take] at hi
  rw[List.getElem_take]
  refine⟨List.getElem_mem _,?_⟩
  have:=pg i (zs.idxOf k) (by omega) hj (by omega)
  rw[ek] at this
  exact this
 ·obtain⟨i,hi,rfl⟩:=List.getElem_of_mem hx
  by_cases c:i < zs.idxOf k
  ·exact List.mem_iff_getElem.mpr ⟨i,by rw[List.length_take];omega,List.getElem_take⟩
  ·exfalso
   by_cases d:i=zs.idxOf k
   ·have:zs[i]=k:=by
     subst d
     exact ek
    rw[this,lex_irr] at hl
    cases hl
   ·have:=pg (zs.idxOf k) i hj hi (by omega)
    rw[ek] at this
    have t:=lex_tr _ _ _ this hl
    rw[lex_irr] at t
    cases t
theorem rk_ne{rows:List (Nat×Int)}:∀ k∈rkL rows,k≠[]:=fun k hk z=>by
 obtain⟨r,_,rfl⟩:=List.mem_map.mp hk
 obtain⟨a,b,e⟩:=rk_two r.1 r.2
 rw[e] at z
 cases z
inductive AlD:Nat→Dt→Prop
 | int (n:Nat) (i:Int):AlD (n+1) (.int i)
 | lst (n:Nat) (l:List Dt):l.length≤1000→(∀ d∈l,AlD n d)→AlD (n+1) (.lst l)
theorem ty_lst{H:Hp}{t:Addr}{xs:List V}(h:H t=some (.lst xs)):tyNm (.ref t) H=some "list" := by
 unfold tyNm
 simp only[h]
def kdD(r:Nat×Int):Dt:=.tup [.str (kdS r.1),.int r.2]
theorem KdAt.dens{H:Hp}:∀{vs:List V} {rows:List (Nat×Int)},KdAt H vs rows→Dens H (rows.map kdD) vs
 | _,_,.nil=>dens0
 | _,_,.cons ⟨a,e,_,h⟩ t=>by
  subst e
  exact dens1 (den_tup h (dens1 rfl (dens1 rfl dens0))) (KdAt.dens t)
theorem kd_cmp(r:Nat×Int):Cmp 7 (kdD r) (kdD r):=by
 intro j d e h1 h2
 match j,h1,h2 with
 | 0,h1,h2=>cases h1;cases h2;exact trivial
 | 1,h1,h2=>cases h1;cases h2;exact trivial
 | j+2,h1,h2=>simp at h1
open Classical in
theorem dec_rfl(d:Dt):decide (d=d)=true:=decide_eq_true rfl
inductive sp__law_bag (K:PySem.W.Frag) (cx:Str→Addr) (vs:List V) (H:Hp) (Q:VK) (E:XK):Prop
 | mk:∀ a ns,(vs=[.ref a])→(SqL K H a (List.map V.int ns))→(ns.length≤63)→(∀ B L H',Same H H'→H B=none→BagAt H' B L→Q (.ref B) H')→sp__law_bag K cx vs H Q E
inductive sp__law_pull (vs:List V) (H:Hp) (Q:VK) (E:XK):Prop
 | mk:∀ B m L,(vs=[.ref B,.int m])→(BagAt H B L)→(0 < m)→(Sz 9000 m)→(∀ d H',0≤d→d < m→BagAt H' B L→Fr1 B H H'→Q (.int d) H')→sp__law_pull vs H Q E
abbrev sp__law_whole:Sp:=fun vs H Q _=>∃ n:Int,vs=[.int n]∧Q (.bl true) H
inductive sp_standing (vs:List V) (H:Hp) (Q:VK) (E:XK):Prop
 | mk:∀(j:Nat)(m:Int),(vs=[.str (kdS j),.int m])→(j < 5)→(∀ p H',Same H H'→H' p=some (.tup ((rk j m).map V.int))→Q (.ref p) H')→sp_standing vs H Q E
inductive sp__law_key (vs:List V) (H:Hp) (Q:VK) (E:XK):Prop
 | mk:∀(j:Nat)(m:Int),(vs=[.str (kdS j),.int m])→(j < 5)→(∀ p H',Same H H'→H' p=some (.tup ((rk j m).map V.int))→Q (.ref p) H')→sp__law_key vs H Q E
inductive sp_ranked (vs:List V) (H:Hp) (Q:VK) (E:XK):Prop
 | mk:∀(R:Addr)(us:List V) (rows:List (Nat×Int)),(vs=[.ref R])→(H R=some (.lst us))→(KdAt H us rows)→(rows.length≤16)→(∀ F ns H',Same H H'→H' F=some (.lst (ns.map V.int))→RkOk (rkL rows) ns→Q (.ref F) H')→sp_ranked vs H Q E
inductive sp__law_ranked (vs:List V) (H:Hp) (Q:VK) (E:XK):Prop
 | mk:∀(R:Addr)(us:List V) (rows:List (Nat×Int)),(vs=[.ref R])→(H R=some (.lst us))→(KdAt H us rows)→(rows.length≤16)→(∀ F ns H',Same H H'→H' F=some (.lst (ns.map V.int))→RkOk (rkL rows) ns→Q (.ref F) H')→sp__law_ranked vs H Q E
abbrev sp__law_alike(n:Nat):Sp:=fun vs H Q _=>∃ d x y,vs=[x,y]∧Den H d x∧Den H d y∧AlD n d∧∀ H',Same H H'→Q (.bl true) H'
theorem no__law_alike:∀ vs H Q E,¬ sp__law_alike 0 vs H Q E:=fun vs H Q E ⟨_,_,_,_,_,_,h,_⟩=>by cases h
abbrev sp_law(K:PySem.W.Frag)(cx:Str→Addr):Sp:=fun vs H Q _=>∃ a ns,vs=[.ref a]∧SqL K H a (List.map V.int ns)∧ns.length≤63∧∀ H',Q (.bl true) H'
local macro_rules | `(tactic| k_extra "rd")=>`(tactic| simp only[tSeq_ap,tIfS_ap,tNext_ap,tDrop_ap,tRet_ap,tRetN_ap,tVar_ap,tC_ap,tB_ap,tTest_ap,tOp_ap,tUn_ap,tCB_ap,tNil_ap,tCons_ap,tTup_ap,tLst_ap,tAsg_ap,gName_ap,gSub_ap,tPar_ap,tAugS_ap,rI_ap,rI0_ap,rU_ap,rEq_ap,rNe_ap,  scal_ii,scal_bb,scal_ss,scal_nn,tAnd_ap,tOr_ap,tNot_ap,tAndV_ap,tOrV_ap,tNotV_ap,tIf_ap,tChain_ap,tD_ap,Hold_ap,Brk_t,Brk_f,tIsN_ap,tNotN_ap,ipI_ap,
 rIxF_ap,rLenF_ap,rGetF_ap,rSetL_ap,rIsi_ap,tyNm,isiN_int,isiN_bool,isiN_list,isiN_tuple,isiN_str,isi_ii,isi_ib,isi_bb,isi_bi,isi_tt,isi_ll,isi_nt,isi_ni,rListF_ap,rTupF_ap,rSumF_ap,rAllF_ap,rAnyF_ap,tBM_ap,rAppend_ap,compSt_ap,join_somz,tRev_ap,rInsert_ap,tPart_ap,tNoPart_ap,Int.reduceEq,  sizeLine_0,sizeLine_8,sizeLine_10,L2.start,CMulB,CDivB,CPow,tCallX_ap,tTry_ap,tRaise_ap,sp__law_whole,
 List.getElem?_cons_zero,List.getElem?_cons_succ,List.set_cons_zero,List.set_cons_succ,List.map_cons,List.map_nil,List.cons_append,List.nil_append,List.length_cons,List.length_nil,List.length_map,Nat.reduceAdd,Nat.reduceSub,Nat.zero_add,Nat.sub_self,List.replicate_succ,List.replicate_zero,
 Option.some.injEq,V.int.injEq,V.bl.injEq,V.ref.injEq,V.ty.injEq,V.str.injEq,HO.lst.injEq,HO.tup.injEq,List.cons.injEq,reduceCtorEq,exists_eq_left',exists_eq_left,exists_eq_right',exists_eq_right,exists_and_left,and_assoc,and_true,true_and,and_self,eq_self,decide_true,decide_false,decide_eq_true_eq,Bool.not_eq_true',decide_eq_false_iff_not,Bool.true_eq_false,Bool.false_eq_true,if_true,if_false,Bool.not_false,Bool.not_true,Bool.true_and,Bool.false_and,Bool.and_true,Bool.and_false,Bool.true_or,Bool.false_or,not_true_eq_false,ne_eq,not_false_eq_true,atI_0,atI_1,atI_2,atI_3,ixN_4_0,ixN_4_1,ixN_4_2,ixN_4_3,seqAt,upd_same,upd_ne,sizeLine_1,sizeLine_2,sizeLine_3,sizeLine_4,sizeLine_5,sizeLine_6,sizeLine_7,int_01,int_c2,pow_ok,Int.reduceLE,Int.reduceLT,Int.reduceAdd,Int.reduceSub,Int.reduceMul,Int.reduceNeg,Int.reducePow,Int.reduceToNat, *])
local macro_rules | `(tactic| k_extra "rx")=>`(tactic| repeat (first
 | (with_reducible refine i_tSeq ?_) | (with_reducible refine i_tIf ?_) | (with_reducible refine i_tSrtT ?_) | (with_reducible refine i_tLenS ?_) | (with_reducible refine i_tDGetK ?_) | (with_reducible refine i_tAsg ?_) | (with_reducible refine i_gName ?_) | ((with_reducible apply i_tVar);(exact rfl)) | (with_reducible refine i_tC ?_) | (with_reducible refine i_tOp ?_) | (with_reducible refine i_tIfS ?_) | (with_reducible refine i_tTest ?_) | (with_reducible refine i_tB ?_) | (with_reducible refine i_exB ?_)
 | (with_reducible refine i_rI0 ?_) | (with_reducible refine i_tUn ?_) | (with_reducible refine i_rU ?_) | (with_reducible refine i_tCons ?_) | (with_reducible refine i_tNil ?_) | (with_reducible refine i_tD ?_) | (with_reducible refine i_tCB ?_) | (with_reducible refine i_tRet ?_) | (with_reducible refine i_tNext ?_) | (with_reducible refine i_tDrop ?_) | (with_reducible refine i_gSub ?_) | (with_reducible refine i_tAugS ?_) | (with_reducible refine i_tNot ?_) | (with_reducible refine i_tAnd ?_) | (with_reducible refine i_tOr ?_) | (with_reducible refine i_ipI ?_) | (with_reducible refine i_brkT ?_) | (with_reducible refine i_brkF ?_) | (with_reducible refine i_tTup ?_) | (with_reducible refine i_tLst ?_)
 | ((with_reducible refine i_rI ?_ ?_);(first | (exact Sz.ok (by assumption) (by assumption) (by decide)) | (exact⟨by assumption,by assumption⟩) | (exact⟨by decide,by decide⟩) | (show (0:Int) < _;first | decide | assumption) | (exact mul_mod_ok) | (exact Sz.okR (k:=31) (by decide) (by decide)) | (exact (⟨by decide,by decide,by decide⟩:CPow _ _))))
 | refine i_ixL (by assumption) rfl ?_ | refine i_ixT (by assumption) rfl ?_ | refine i_ixL (by assumption) (by assumption) ?_ | refine i_lenL (by assumption) ?_ | refine i_getL (by assumption) (by decide) rfl ?_))
section
variable {P:Program}{w:World}{K:PySem.W.Frag}{mg:Str→Option Value}{base:Heap}{cx:Str→Addr}{f:Addr}{fd:FuncData}
theorem ok__law_bag(D:DefAt K mg "_law_bag" s__law_bag f fd)(T:Txt w.params K mg cx):DefOk P w K mg base CX0 1 "_law_bag" ["_law_script"] (sp__law_bag K cx):=by
 refine D.ok (D.q sc__law_bag (fun vs H Q E h=>?_) (fun cdv A outer s H vs Q E hr h=>?_)) (D.fn.binds fun _ _ _ _ _ _ us hl=>match us,hl with | [_],_=>rfl)
 ·obtain⟨_,_,rfl,_⟩:=h
  rfl
 obtain⟨a,ns,rfl,hS,hl,hQ⟩:=h
 have hc:cutV (List.map V.int ns) none (some (63:Int))=List.map V.int ns:=cutV_all (k:=63) (by rw[List.length_map];exact hl)
 refine⟨_,(qss_cons (qs_sL 1 sc__law_bag.nd (qe_callB call_lenF (by rfl) T.n_len bt_len (qa_1 (qe_slice sl_list (qv 0) qo_none (qo_some qe_int)))))
   (qss_cons (qs_for PassesOwn.never rfl (qi_listK (K:=K) rfl (qe_slice sl_list (qv 0) qo_none (qo_some qe_int))) (qg_name (i:=2) sc__law_bag.nd rfl (Or.inl rfl)) (qss_one (qs_sL 1 sc__law_bag.nd (qe_op op_mod (qe_op op_add (qe_op op_mulB (qv 1) qe_int) (qv 2)) qe_int))))
   (qss_one (qs_ret (qe_lst (qa_cons (qe_callTy call_listF (by rfl) T.n_list bt_list (qa_1 (qe_slice sl_list (qv 0) qo_none (qo_some qe_int)))) (qa_cons qe_int (qa_cons qe_int (qa_cons (qv 1) qa_nil))))))))),?_⟩
 refine⟨_,rfl,_,rfl,a,_,rfl,hS,fun p hp=>?_⟩
 rw[hc]
 refine⟨p,_,rfl,by unfold seqAt;rw[upd_same],?_⟩
 have s1:Same H (upd H p (.lst (List.map V.int ns))):=Same.new hp
 refine⟨_,rfl,_,rfl,a,_,rfl,s1.seq hS,fun p2 hp2=>?_⟩
 rw[hc]
 have s2:Same H (upd (upd H p (.lst (List.map V.int ns))) p2 (.lst (List.map V.int ns))):=s1.trans (Same.new hp2)
 refine⟨p2,rfl,⟨_,SqL.of upd_same⟩,for_list (K:=K) (a:=p2) (xs:=List.map V.int ns) (fun i σ H2=>∃(z:Int)(v:Option V),σ=[some (.ref a),some (.int z),v]∧Same H H2∧SqL K H2 p2 (List.map V.int ns)) ⟨_,_,rfl,s2,SqL.of upd_same⟩ (fun i σ H2 _ ⟨_,_,_,_,q⟩=>q) ?_ ?_⟩
 ·rintro i y σ H2 hy ⟨z,v,rfl,s3,hp3⟩
  obtain⟨k,rfl⟩:∃ k,y=V.int k:=by
   rw[List.getElem?_map] at hy
   cases e:ns[i]? with
   | none=>rw[e] at hy;cases hy
   | some k=>rw[e] at hy;exact⟨k,(Option.some.inj hy).symm⟩
  k_extra "rd"
  exact⟨Sz.okR (k:=10) (by decide) (by decide),_,rfl⟩
 ·rintro σ H2 ⟨z,v,rfl,s3,hp3⟩
  refine⟨_,rfl,_,rfl,a,_,rfl,s3.seq hS,fun p4 hp4=>?_⟩
  rw[hc]
  refine⟨p4,_,rfl,by unfold seqAt;rw[upd_same],fun L hL=>?_⟩
  k_extra "rd"
  intro B hB
  have s5:=(s3.trans (Same.new (o:=.lst (List.map V.int ns)) hp4)).trans (Same.new (o:=.lst (List.map V.int ns)) hL)
  have nBL:L≠B:=fun e=>by rw[← e,upd_same] at hB;cases hB
  refine hQ B L _ (s5.trans (Same.new hB)) (s5.free hB) ⟨ns,0,0,z,upd_same,?_,by omega⟩
  rw[upd_ne nBL,upd_same]
theorem ok__law_pull(D:DefAt K mg "_law_pull" s__law_pull f fd)(T:Txt w.params K mg cx):DefOk P w K mg base CX0 1 "_law_pull" ["_law_bag_here","_law_many"] sp__law_pull:=by
 refine D.ok (D.q sc__law_pull (fun vs H Q E h=>?_) (fun cdv A outer s H vs Q E hr h=>?_)) (D.fn.binds fun _ _ _ _ _ _ us hl=>match us,hl with | [_,_],_=>rfl)
 ·obtain⟨_,_,_,rfl,_⟩:=h
  rfl
 obtain⟨B,m,L,rfl,⟨ns,i,r,salt,hB,hL,hi⟩,hm,hz,hQ⟩:=h
 have nLB:L≠B:=ne_of hL hB (by intro e;cases ns<;>cases e)
 refine⟨_,(qss_cons (qs_if (qt_cmpR op_le (qe_iS (qv 0) qe_int) qe_int (nomark _)) (qss_cons (qs_augS (qv 0) qe_int get_list qe_int ip_add set_list)
   (qss_cons (qs_sL 2 sc__law_pull.nd (qe_iS (qv 0) qe_int))
   (qss_cons (qs_if (qt_cmpR op_le (qe_iS (qv 0) qe_int) (qe_callB call_lenF (by rfl) T.n_len bt_len (qa_1 (qe_iS (qv 0) qe_int))) (nomark _)) (qss_one (qs_sL 2 sc__law_pull.nd (qe_iS (qe_iS (qv 0) qe_int) (qe_op op_sub (qe_iS (qv 0) qe_int) qe_int)))) qss_nil)
   (qss_cons (qs_if (qw_or (qt_cmpR op_gt (qe_iS (qv 0) qe_int) (qe_callB call_lenF (by rfl) T.n_len bt_len (qa_1 (qe_iS (qv 0) qe_int))) (nomark _)) (qw_or1 (qt_cmpR op_lt (qv 2) (qe_op op_pow qe_int qe_int) (nomark _)))).pt (qss_cons (qs_sL 3 sc__law_pull.nd (qe_op op_mod (qe_op op_add (qe_op op_add (qe_op op_mulB (qv 2) qe_int) (qe_op op_mulB (qe_iS (qv 0) qe_int) qe_int)) qe_int) qe_int))
   (qss_cons (qs_sL 3 sc__law_pull.nd (qe_op op_mod (qe_op op_mulB (qv 3) (qv 3)) qe_int))
   (qss_one (qs_ret (qe_op op_mod (qe_op op_fdivB (qe_op op_mod (qe_op op_mulB (qe_op op_add (qv 3) (qe_iS (qv 0) qe_int)) qe_int) qe_int) qe_int) (qv 1)))))) qss_nil)
   (qss_one (qs_asg (qv 2) (qg_sub (qv 0) qe_int set_list))))))) qss_nil)
   (qss_cons (qs_sL 4 sc__law_pull.nd (qe_op op_mod (qe_iS (qv 0) qe_int) (qv 1)))
   (qss_cons (qs_asg (qe_op op_fdivB (qe_iS (qv 0) qe_int) (qv 1)) (qg_sub (qv 0) qe_int set_list))
   (qss_one (qs_ret (qv 4)))))),?_⟩
 refine seq_cut (fun σ' H'=>∃ i' r' v2 v3,σ'=[some (.ref B),some (.int m),v2,v3,none]∧H' B=some (.lst [.ref L,.int i',.int r',.int salt])∧0≤i'∧Fr1 B H H') ?_ fun tb' key=>?_
 ·rintro σ H1 ⟨i',r',v2,v3,rfl,hB1,hi1,f1⟩
  clear hB
  k_extra "rx"
  refine i_setN hB1 rfl rfl fun H2 hB2 f2=>?_
  k_extra "rx"
  exact hQ _ _ (Int.emod_nonneg _ (Int.ne_of_gt hm)) (Int.emod_lt_of_pos _ hm) ⟨ns,i',_,salt,hB2,f2 _ _ nLB (f1 _ _ nLB hL),hi1⟩ (f1.trans f2)
 k_extra "rx"
 refine brkD (fun h1=>?_) (fun h1=>?_)
 ·k_extra "rx"
  refine i_setN hB rfl rfl fun H1 s1 f1=>?_
  have hL1:=f1 _ _ nLB hL
  have i1:0≤i+1:=Int.le_add_one hi
  clear hB
  k_extra "rx"
  refine brkD (fun h2=>?_) (fun h2=>?_)
  ·obtain⟨v,e,hv⟩:=atI_lt (xs:=List.map V.int ns) (i:=i+1 - 1) (by omega) (by omega)
   obtain⟨z,_,rfl⟩:=List.mem_map.mp hv
   k_extra "rx"
   refine i_brkN (by omega) ?_
   k_extra "rx"
   refine brkD (fun h4=>?_) (fun h4=>?_)
   ·k_extra "rx"
    exact hQ _ _ (Int.emod_nonneg _ (Int.ne_of_gt hm)) (Int.emod_lt_of_pos _ hm) ⟨ns,_,_,salt,s1,hL1,i1⟩ f1
   ·k_extra "rx"
    refine i_setN s1 rfl rfl fun H2 s2 f2=>?_
    exact key _ _ ⟨_,_,_,_,rfl,s2,i1,f1.trans f2⟩
  ·k_extra "rx"
   refine i_brkP (by omega) ?_
   k_extra "rx"
   exact hQ _ _ (Int.emod_nonneg _ (Int.ne_of_gt hm)) (Int.emod_lt_of_pos _ hm) ⟨ns,_,_,salt,s1,hL1,i1⟩ f1
 ·k_extra "rx"
  exact key _ _ ⟨_,_,_,_,rfl,hB,hi,Fr1.refl⟩
theorem ok__law_whole(D:DefAt K mg "_law_whole" s__law_whole f fd)(T:Txt w.params K mg cx):DefOk P w K mg base CX0 1 "_law_whole" ["_law_found"] sp__law_whole:=by
 refine D.ok (D.q sc__law_whole (fun vs H Q E h=>?_) (fun cdv A outer s H vs Q E hr h=>?_)) (D.fn.binds fun _ _ _ _ _ _ us hl=>match us,hl with | [_],_=>rfl)
 ·obtain⟨_,rfl,_⟩:=h
  rfl
 obtain⟨n,rfl,hQ⟩:=h
 refine⟨_,(qss_one (qs_ret (qe_and (qe_callB call_isi (by rfl) T.n_isinstance bt_isinstance (qa_2 (qv 0) (qe_bltn (v:=.ty "int") (by rfl) T.n_int bt_int rfl))) (qe_one (qe_not (qe_callB call_isi (by rfl) T.n_isinstance bt_isinstance (qa_2 (qv 0) (qe_bltn (v:=.ty "bool") (by rfl) T.n_bool bt_bool rfl)))))))),?_⟩
 k_extra "rd"
theorem ok_standing(D:DefAt K mg "standing" s_standing f fd)(T:Txt w.params K mg cx):DefOk P w K mg base CX0 1 "standing" ["word","moment"] sp_standing:=by
 refine D.ok (D.q sc_standing (fun vs H Q E h=>?_) (fun cdv A outer s H vs Q E hr h=>?_)) (D.fn.binds fun _ _ _ _ _ _ us hl=>match us,hl with | [_,_],_=>rfl)
 ·obtain⟨_,_,rfl,_⟩:=h
  rfl
 obtain⟨j,m,rfl,hj,hQ⟩:=h
 obtain⟨dd,hd_ORDER,hD⟩:=T.g_ORDER
 refine⟨_,(qss_cons (qs_if (qw_or (qt_cmpR op_eq (qv 0) qe_str (nomark _)) (qw_or1 (qt_cmpR op_eq (qv 0) qe_str (nomark _)))).pt (qss_one (qs_ret (qe_tup (qa_2 (qe_dgetK (pr:=w.params) (K:=K) rfl rfl (qe_globR (by rfl) hd_ORDER) (qv 0)) qe_int)))) qss_nil)
   (qss_one (qs_ret (qe_tup (qa_2 (qe_dgetK (pr:=w.params) (K:=K) rfl rfl (qe_globR (by rfl) hd_ORDER) (qv 0)) (qe_un un_neg (qv 1))))))),?_⟩
 have:j=0∨j=1∨j=2∨j=3∨j=4:=by omega
 have lk:∀ v,([("wage", .int 0),("loan", .int 1),("rescue", .int 1),("old", .int 2),("owner", .int 3)]:List (Str×V)).lookup (kdS j)=some v→∀(Q:VK) H1,Q v H1→rDGetK w.params K (.ref dd) Q (.str (kdS j)) H1:=fun v hv Q H1 q=>⟨dd,_,_,v,rfl,rfl,hD,hv,q⟩
 rcases this with rfl | rfl | rfl | rfl | rfl
 ·k_extra "rx"
  refine⟨rfl,?_⟩
  refine⟨_,rfl,brkD (fun h1=>?_) (fun h1=>absurd rfl h1)⟩
  k_extra "rx"
  refine lk (.int 0) (by decide +kernel) _ _ ?_
  k_extra "rx"
  exact i_NewO (Nat.le_of_ble_eq_true rfl) fun p H1 np s1 hp=>hQ p H1 s1 hp
 ·k_extra "rx"
  refine⟨rfl,?_⟩
  refine⟨_,rfl,brkD (fun h1=>absurd (V.str.inj h1) (by decide +kernel)) (fun _=>?_)⟩
  k_extra "rx"
  refine⟨rfl,?_⟩
  refine⟨_,rfl,brkD (fun h1=>absurd (V.str.inj h1) (by decide +kernel)) (fun _=>?_)⟩
  refine i_tNext ?_
  k_extra "rx"
  refine lk (.int 1) (by decide +kernel) _ _ ?_
  k_extra "rx"
  exact i_NewO (Nat.le_of_ble_eq_true rfl) fun p H1 np s1 hp=>hQ p H1 s1 hp
 ·k_extra "rx"
  refine⟨rfl,?_⟩
  refine⟨_,rfl,brkD (fun h1=>absurd (V.str.inj h1) (by decide +kernel)) (fun _=>?_)⟩
  k_extra "rx"
  refine⟨rfl,?_⟩
  refine⟨_,rfl,brkD (fun h1=>absurd (V.str.inj h1) (by decide +kernel)) (fun _=>?_)⟩
  refine i_tNext ?_
  k_extra "rx"
  refine lk (.int 1) (by decide +kernel) _ _ ?_
  k_extra "rx"
  exact i_NewO (Nat.le_of_ble_eq_true rfl) fun p H1 np s1 hp=>hQ p H1 s1 hp
 ·k_extra "rx"
  refine⟨rfl,?_⟩
  refine⟨_,rfl,brkD (fun h1=>absurd (V.str.inj h1) (by decide +kernel)) (fun _=>?_)⟩
  k_extra "rx"
  refine⟨rfl,?_⟩
  refine⟨_,rfl,brkD (fun h1=>absurd (V.str.inj h1) (by decide +kernel)) (fun _=>?_)⟩
  refine i_tNext ?_
  k_extra "rx"
  refine lk (.int 2) (by decide +kernel) _ _ ?_
  k_extra "rx"
  exact i_NewO (Nat.le_of_ble_eq_true rfl) fun p H1 np s1 hp=>hQ p H1 s1 hp
 ·k_extra "rx"
  refine⟨rfl,?_⟩
  refine⟨_,rfl,brkD (fun h1=>absurd (V.str.inj h1) (by decide +kernel)) (fun _=>?_)⟩
  k_extra "rx"
  refine⟨rfl,?_⟩
  refine⟨_,rfl,brkD (fun h1=>?_) (fun h1=>absurd rfl h1)⟩
  k_extra "rx"
  refine lk (.int 3) (by decide +kernel) _ _ ?_
  k_extra "rx"
  exact i_NewO (Nat.le_of_ble_eq_true rfl) fun p H1 np s1 hp=>hQ p H1 s1 hp
theorem ok__law_key(D:DefAt K mg "_law_key" s__law_key f fd)(T:Txt w.params K mg cx):DefOk P w K mg base CX0 1 "_law_key" ["_law_word","_law_moment"] sp__law_key:=by
 refine D.ok (D.q sc__law_key (fun vs H Q E h=>?_) (fun cdv A outer s H vs Q E hr h=>?_)) (D.fn.binds fun _ _ _ _ _ _ us hl=>match us,hl with | [_,_],_=>rfl)
 ·obtain⟨_,_,rfl,_⟩:=h
  rfl
 obtain⟨j,m,rfl,hj,hQ⟩:=h
 refine⟨_,(qss_cons (qs_if (qt_cmpR op_eq (qv 0) qe_str (nomark _)) (qss_one (qs_ret (qe_tup (qa_2 qe_int qe_int)))) qss_nil)
   (qss_cons (qs_if (qt_cmpR op_eq (qv 0) qe_str (nomark _)) (qss_one (qs_ret (qe_tup (qa_2 qe_int (qe_un un_neg (qv 1)))))) qss_nil)
   (qss_cons (qs_if (qt_cmpR op_eq (qv 0) qe_str (nomark _)) (qss_one (qs_ret (qe_tup (qa_2 qe_int qe_int)))) qss_nil)
   (qss_one (qs_ret (qe_tup (qa_2 qe_int (qe_un un_neg (qv 1))))))))),?_⟩
 have:j=0∨j=1∨j=2∨j=3∨j=4:=by omega
 rcases this with rfl | rfl | rfl | rfl | rfl
 ·k_extra "rx"
  refine⟨rfl,?_⟩
  refine⟨_,rfl,brkD (fun h1=>?_) (fun h1=>absurd rfl h1)⟩
  k_extra "rx"
  k_extra "rx"
  exact i_NewO (Nat.le_of_ble_eq_true rfl) fun p H1 np s1 hp=>hQ p H1 s1 hp
 ·k_extra "rx"
  refine⟨rfl,?_⟩
  refine⟨_,rfl,brkD (fun h1=>absurd (V.str.inj h1) (by decide +kernel)) (fun _=>?_)⟩
  refine i_tNext ?_
  k_extra "rx"
  refine⟨rfl,?_⟩
  refine⟨_,rfl,brkD (fun h1=>absurd (V.str.inj h1) (by decide +kernel)) (fun _=>?_)⟩
  refine i_tNext ?_
  k_extra "rx"
  refine⟨rfl,?_⟩
  refine⟨_,rfl,brkD (fun h1=>absurd (V.str.inj h1) (by decide +kernel)) (fun _=>?_)⟩
  refine i_tNext ?_
  k_extra "rx"
  exact i_NewO (Nat.le_of_ble_eq_true rfl) fun p H1 np s1 hp=>hQ p H1 s1 hp
 ·k_extra "rx"
  refine⟨rfl,?_⟩
  refine⟨_,rfl,brkD (fun h1=>absurd (V.str.inj h1) (by decide +kernel)) (fun _=>?_)⟩
  refine i_tNext ?_
  k_extra "rx"
  refine⟨rfl,?_⟩
  refine⟨_,rfl,brkD (fun h1=>absurd (V.str.inj h1) (by decide +kernel)) (fun _=>?_)⟩
  refine i_tNext ?_
  k_extra "rx"
  refine⟨rfl,?_⟩
  refine⟨_,rfl,brkD (fun h1=>absurd (V.str.inj h1) (by decide +kernel)) (fun _=>?_)⟩
  refine i_tNext ?_
  k_extra "rx"
  exact i_NewO (Nat.le_of_ble_eq_true rfl) fun p H1 np s1 hp=>hQ p H1 s1 hp
 ·k_extra "rx"
  refine⟨rfl,?_⟩
  refine⟨_,rfl,brkD (fun h1=>absurd (V.str.inj h1) (by decide +kernel)) (fun _=>?_)⟩
  refine i_tNext ?_
  k_extra "rx"
  refine⟨rfl,?_⟩
  refine⟨_,rfl,brkD (fun h1=>?_) (fun h1=>absurd rfl h1)⟩
  k_extra "rx"
  k_extra "rx"
  exact i_NewO (Nat.le_of_ble_eq_true rfl) fun p H1 np s1 hp=>hQ p H1 s1 hp
 ·k_extra "rx"
  refine⟨rfl,?_⟩
  refine⟨_,rfl,brkD (fun h1=>absurd (V.str.inj h1) (by decide +kernel)) (fun _=>?_)⟩
  refine i_tNext ?_
  k_extra "rx"
  refine⟨rfl,?_⟩
  refine⟨_,rfl,brkD (fun h1=>absurd (V.str.inj h1) (by decide +kernel)) (fun _=>?_)⟩
  refine i_tNext ?_
  k_extra "rx"
  refine⟨rfl,?_⟩
  refine⟨_,rfl,brkD (fun h1=>?_) (fun h1=>absurd rfl h1)⟩
  k_extra "rx"
  k_extra "rx"
  exact i_NewO (Nat.le_of_ble_eq_true rfl) fun p H1 np s1 hp=>hQ p H1 s1 hp
theorem ok_ranked(D:DefAt K mg "ranked" s_ranked f fd)(T:Txt w.params K mg cx)(d_standing:DefOk P w K mg base CX0 1 "standing" ["word","moment"] sp_standing):DefOk P w K mg base CX0 2 "ranked" ["kinds"] sp_ranked:=by
 refine D.ok (D.q sc_ranked (fun vs H Q E h=>?_) (fun cdv A outer s H vs Q E hr h=>?_)) (D.fn.binds fun _ _ _ _ _ _ us hl=>match us,hl with | [_],_=>rfl)
 ·obtain⟨_,_,_,rfl,_⟩:=h
  rfl
 obtain⟨R,us,rows,rfl,hR,kd,h16,hQ⟩:=h
 refine⟨_,(qss_cons (qs_setP (k:=1) ["word","moment"] [] sc_ranked.nd (qi_listK (K:=K) rfl (qv 0)) (gext_tup2 (by decide) (by decide)) (fun _ _ _ _ _=>⟨(qg_tupK (K:=K) (n:=2) rfl rfl (qgs_cons (qg_name (i:=0) (show (["word","moment"]:List Str).Nodup by decide +kernel) rfl (Or.inl rfl)) (qgs_cons (qg_name (i:=1) (show (["word","moment"]:List Str).Nodup by decide +kernel) rfl (Or.inl rfl)) qgs_nil))),qf_nil,(qe_g d_standing (qa_2 (qv 0) (qv 1)))⟩))
   (qss_cons (qs_set (i:=2) sc_ranked.nd rfl (Or.inr rfl) (qe_srtT hr.units rfl (qv 1) (by rfl) T.n_sorted bt_sorted (by rfl) T.n_set bt_set))
   (qss_one (qs_ret (qe_cp ["found"] [("steps", 2)] (qi_listK (K:=K) rfl (qv 1)) (gext_name (by decide)) (fun _ _ _ _ _=>⟨(qg_name (i:=0) (show (["found","steps"]:List Str).Nodup by decide +kernel) rfl (Or.inl rfl)),qf_nil,(qe_bmK (K:=K) rfl PySem.F.plainAttrs_list PySem.F.slot_list_index PySem.F.type_list_index (mt_indexT hr.units) (qv 1) (qa_1 (qv 0)))⟩)))))),?_⟩
 have ul:=kd.len
 k_extra "rx"
 refine⟨_,rfl,R,rfl,⟨_,SqL.of hR⟩,fun l hl=>?_⟩
 refine comp_listR (K:=K) (a:=R) (xs:=us) (fun i acc H2=>Same H H2∧H2 l=some (.lst acc)∧TupsAt H2 acc ((rkL rows).take i)) ⟨Same.new hl,upd_same,.nil⟩ (fun j acc H1 _ ⟨s1,_⟩=>SqL.of (s1 _ _ hR)) ?_ ?_
 ·rintro i y acc H2 hy ⟨s2,hl2,ht⟩
  obtain⟨a,r,rfl,er,r5,ha⟩:=kd.get hy
  have hi:i < rows.length:=(List.getElem?_eq_some_iff.mp er).1
  have al:=ht.len
  rw[List.length_take] at al
  refine⟨a,_,rfl,SqT.of (s2 _ _ ha),rfl,_,_,rfl,_,_,rfl,rfl,?_⟩
  dsimp only
  simp only[tYes,if_true]
  k_extra "rx"
  refine⟨r.1,r.2,rfl,r5,fun p H3 s3 hp=>?_⟩
  have hl3:=s3 _ _ hl2
  refine⟨hl3,small1000 (by omega),(same_put hl (s2.trans s3)),upd_same,?_⟩
  have e:(rkL rows).take (i+1)=(rkL rows).take i++[rk r.1 r.2]:=by
   have hk:i < (rkL rows).length:=by rw[rkL,List.length_map];exact hi
   rw[List.take_succ_eq_append_getElem hk]
   congr 2
   have er':rows[i]=r:=Option.some.inj ((List.getElem?_eq_getElem hi).symm.trans er)
   simp[rkL,er']
  have ts:TS H3 (upd H3 l (.lst (acc++[.ref p]))):=TS.lst hl3
  rw[e]
  exact TupsAt.snoc ⟨p,rfl,ts _ _ hp⟩ ((ht.to fun a xs h=>s3 _ _ h).to fun a xs h=>ts _ _ h)
 rintro acc H2 ⟨s2,hl2,ht⟩
 have kl:(rkL rows).length=rows.length:=by rw[rkL,List.length_map]
 rw[ul,← kl,List.take_length] at ht
 have al:=ht.len
 k_extra "rx"
 refine⟨l,acc,rkL rows,rfl,hl2,ht,by omega,rk_ne,fun p zu zs tz pw mem hp=>?_⟩
 have s3:=Same.new (o:=.lst zu) hp
 have hp3:upd H2 p (.lst zu) p=some (.lst zu):=upd_same
 have hl3:=s3 _ _ hl2
 have ht3:TupsAt (upd H2 p (.lst zu)) acc (rkL rows):=ht.to fun a xs h=>s3 _ _ h
 have tz3:TupsAt (upd H2 p (.lst zu)) zu zs:=tz.to fun a xs h=>s3 _ _ h
 generalize upd H2 p (.lst zu)=H3 at s3 hp3 hl3 ht3 tz3 ⊢
 have zl:zu.length≤60:=by
  have nd:zs.Nodup:=pw.imp fun {a b} h z=>by rw[z,lex_irr] at h;cases h
  have:=nd.length_le_of_subset (l₂:=rkL rows) fun x hx=>(mem x).mp hx
  rw[tz.len]
  omega
 k_extra "rx"
 refine⟨_,rfl,l,rfl,⟨_,SqL.of hl3⟩,fun F hF=>?_⟩
 refine comp_listR (K:=K) (a:=l) (xs:=acc) (fun i ac H4=>Same H3 H4∧H4 F=some (.lst ac)∧ac=((rkL rows).take i).map fun k=>V.int ((zs.idxOf k:Nat):Int)) ⟨Same.new hF,upd_same,rfl⟩ (fun j ac H1 _ ⟨s1,_⟩=>SqL.of (s1 _ _ hl3)) ?_ ?_
 ·rintro i y ac H4 hy ⟨s4,hF4,rfl⟩
  obtain⟨a,k,rfl,ek,ha⟩:=ht3.get hy
  have hi:i < (rkL rows).length:=(List.getElem?_eq_some_iff.mp ek).1
  have ek':(rkL rows)[i]=k:=Option.some.inj ((List.getElem?_eq_getElem hi).symm.trans ek)
  simp only[gName_ap,tYes,if_true]
  refine i_tBM ?_
  k_extra "rx"
  refine⟨.inl ⟨rfl,_,SqL.of (s4 _ _ hp3)⟩,?_⟩
  k_extra "rx"
  refine⟨p,a,zu,zs,k,rfl,rfl,s4 _ _ hp3,tz3.to fun a xs h=>s4 _ _ h,zl,s4 _ _ ha,(mem k).mpr (List.mem_of_getElem? ek),?_⟩
  refine⟨hF4,small1000 (by rw[List.length_map,List.length_take];omega),same_put hF s4,upd_same,?_⟩
  rw[List.take_succ_eq_append_getElem hi,ek',List.map_append]
  rfl
 ·rintro ac H4 ⟨s4,hF4,rfl⟩
  rw[al,List.take_length] at hF4
  refine hQ F ((rkL rows).map fun k=>((zs.idxOf k:Nat):Int)) H4 ((s2.trans s3).trans s4) (by rw[List.map_map];exact hF4) ⟨by rw[List.length_map],fun i k hk=>?_⟩
  obtain⟨q1,q2,q3⟩:=idx_below pw ((mem k).mpr (List.mem_of_getElem? hk))
  refine⟨_,q1,fun x=>by rw[q2,mem],?_⟩
  rw[q3,List.getElem?_map,hk]
  rfl
theorem ok__law_ranked(D:DefAt K mg "_law_ranked" s__law_ranked f fd)(T:Txt w.params K mg cx)(d__law_key:DefOk P w K mg base CX0 1 "_law_key" ["_law_word","_law_moment"] sp__law_key):DefOk P w K mg base CX0 2 "_law_ranked" ["_law_kinds"] sp__law_ranked:=by
 refine D.ok (D.q sc__law_ranked (fun vs H Q E h=>?_) (fun cdv A outer s H vs Q E hr h=>?_)) (D.fn.binds fun _ _ _ _ _ _ us hl=>match us,hl with | [_],_=>rfl)
 ·obtain⟨_,_,_,rfl,_⟩:=h
  rfl
 obtain⟨R,us,rows,rfl,hR,kd,h16,hQ⟩:=h
 refine⟨_,(qss_cons (qs_set (i:=1) sc__law_ranked.nd rfl (Or.inr rfl) (qe_cp ["_law_word","_law_moment"] [] (qi_listK (K:=K) rfl (qv 0)) (gext_tup2 (by decide) (by decide)) (fun _ _ _ _ _=>⟨(qg_tupK (K:=K) (n:=2) rfl rfl (qgs_cons (qg_name (i:=0) (show (["_law_word","_law_moment"]:List Str).Nodup by decide +kernel) rfl (Or.inl rfl)) (qgs_cons (qg_name (i:=1) (show (["_law_word","_law_moment"]:List Str).Nodup by decide +kernel) rfl (Or.inl rfl)) qgs_nil))),qf_nil,(qe_g d__law_key (qa_2 (qv 0) (qv 1)))⟩)))
   (qss_one (qs_ret (qe_comp1 "_law_key_here" ["_law_key_here"] [("_law_keys", 1)] rfl (qi_listK (K:=K) rfl (qv 1)) (gext_name (by decide)) (fun c0 cl C fp s2 H2=>⟨(qg_name (i:=0) (show (["_law_key_here","_law_keys"]:List Str).Nodup by decide +kernel) rfl (Or.inr rfl)),qf_nil,(qe_lenS hr.units rfl (qe_cp ["_law_other"] [("_law_key_here", 0)] (qi_listK (K:=K) rfl (qv 1)) (gext_name (by decide)) (fun _ _ _ _ _=>⟨(qg_name (i:=0) (show (["_law_other","_law_key_here"]:List Str).Nodup by decide +kernel) rfl (Or.inl rfl)),(qf_one (qt_cmpR (op_ltQ hr.units) (qv 0) (qv 1) (nomark _))),(qv 0)⟩)) (by rfl) T.n_len bt_len (by rfl) T.n_set bt_set)⟩) rfl (by decide +kernel) (by decide) (fun _ _=>rfl) (fun _=>rfl) (by decide +kernel) (free_of (by rfl)) (fr_of (by rfl)))))),?_⟩
 have ul:=kd.len
 k_extra "rx"
 refine⟨_,rfl,R,rfl,⟨_,SqL.of hR⟩,fun l hl=>?_⟩
 refine comp_listR (K:=K) (a:=R) (xs:=us) (fun i acc H2=>Same H H2∧H2 l=some (.lst acc)∧TupsAt H2 acc ((rkL rows).take i)) ⟨Same.new hl,upd_same,.nil⟩ (fun j acc H1 _ ⟨s1,_⟩=>SqL.of (s1 _ _ hR)) ?_ ?_
 ·rintro i y acc H2 hy ⟨s2,hl2,ht⟩
  obtain⟨a,r,rfl,er,r5,ha⟩:=kd.get hy
  have hi:i < rows.length:=(List.getElem?_eq_some_iff.mp er).1
  have al:=ht.len
  rw[List.length_take] at al
  refine⟨a,_,rfl,SqT.of (s2 _ _ ha),rfl,_,_,rfl,_,_,rfl,rfl,?_⟩
  dsimp only
  simp only[tYes,if_true]
  k_extra "rx"
  refine⟨r.1,r.2,rfl,r5,fun p H3 s3 hp=>?_⟩
  have hl3:=s3 _ _ hl2
  refine⟨hl3,small1000 (by omega),(same_put hl (s2.trans s3)),upd_same,?_⟩
  have e:(rkL rows).take (i+1)=(rkL rows).take i++[rk r.1 r.2]:=by
   have hk:i < (rkL rows).length:=by rw[rkL,List.length_map];exact hi
   rw[List.take_succ_eq_append_getElem hk]
   congr 2
   have er':rows[i]=r:=Option.some.inj ((List.getElem?_eq_getElem hi).symm.trans er)
   simp[rkL,er']
  have ts:TS H3 (upd H3 l (.lst (acc++[.ref p]))):=TS.lst hl3
  rw[e]
  exact TupsAt.snoc ⟨p,rfl,ts _ _ hp⟩ ((ht.to fun a xs h=>s3 _ _ h).to fun a xs h=>ts _ _ h)
 rintro acc H2 ⟨s2,hl2,ht⟩
 have kl:(rkL rows).length=rows.length:=by rw[rkL,List.length_map]
 rw[ul,← kl,List.take_length] at ht
 have al:=ht.len
 k_extra "rx"
 refine⟨_,rfl,l,rfl,⟨_,SqL.of hl2⟩,fun F hF=>?_⟩
 refine comp_listR (K:=K) (a:=l) (xs:=acc) (fun i ac H4=>Same H2 H4∧H4 F=some (.lst ac)∧∃ ns:List Int,ac=ns.map V.int∧ns.length=i∧∀(j:Nat) k,j < i→(rkL rows)[j]?=some k→∃ zs:List (List Int),zs.Nodup∧(∀ x,x∈zs↔x∈rkL rows∧HT.lexLt x k=true)∧ns[j]?=some ((zs.length:Nat):Int)) ⟨Same.new hF,upd_same,[],rfl,rfl,fun j k h=>by omega⟩ (fun j ac H1 _ ⟨s1,_⟩=>SqL.of (s1 _ _ hl2)) ?_ ?_
 ·rintro i y ac H4 hy ⟨s4,hF4,ns,rfl,nl,inv⟩
  obtain⟨a,k,rfl,ek,ha⟩:=ht.get hy
  have hi:i < (rkL rows).length:=(List.getElem?_eq_some_iff.mp ek).1
  simp only[gName_ap,tYes,if_true]
  refine i_tLenS ?_
  have hl4:=s4 _ _ hl2
  have ht4:TupsAt H4 acc (rkL rows):=ht.to fun a xs h=>s4 _ _ h
  have ha4:=s4 _ _ ha
  refine⟨_,rfl,l,rfl,⟨_,SqL.of hl4⟩,fun G hG=>?_⟩
  refine comp_listR (K:=K) (a:=l) (xs:=acc) (fun i ac H5=>Same H4 H5∧H5 G=some (.lst ac)∧TupsAt H5 ac (((rkL rows).take i).filter fun x=>HT.lexLt x k)) ⟨Same.new hG,upd_same,.nil⟩ (fun j ac H1 _ ⟨s1,_⟩=>SqL.of (s1 _ _ hl4)) ?_ ?_
  ·rintro j y2 ac H5 hy2 ⟨s5,hG5,ht5⟩
   obtain⟨b,k2,rfl,ek2,hb⟩:=ht4.get hy2
   have hj:j < (rkL rows).length:=(List.getElem?_eq_some_iff.mp ek2).1
   have ek2':(rkL rows)[j]=k2:=Option.some.inj ((List.getElem?_eq_getElem hj).symm.trans ek2)
   have l5:=ht5.len
   have l6:=List.length_filter_le (fun x=>HT.lexLt x k) ((rkL rows).take j)
   rw[List.length_take] at l6
   refine i_gName ?_
   k_extra "rx"
   refine⟨b,a,k2,k,rfl,rfl,s5 _ _ hb,s5 _ _ ha4,_,rfl,?_⟩
   rw[List.take_succ_eq_append_getElem hj,ek2',List.filter_append]
   cases hc:HT.lexLt k2 k with
   | true =>
    rw[if_pos rfl]
    k_extra "rx"
    have ts:TS H5 (upd H5 G (.lst (ac++[.ref b]))):=TS.lst hG5
    refine⟨hG5,small1000 (by omega),same_put hG s5,upd_same,?_⟩
    rw[List.filter_cons_of_pos (p:=fun x=>HT.lexLt x k) hc,List.filter_nil]
    exact TupsAt.snoc ⟨b,rfl,ts _ _ (s5 _ _ hb)⟩ (ht5.to fun a xs h=>ts _ _ h)
   | false =>
    rw[if_neg Bool.false_ne_true]
    refine⟨s5,hG5,?_⟩
    rw[List.filter_cons_of_neg (p:=fun x=>HT.lexLt x k) (by rw[hc];exact Bool.false_ne_true),List.filter_nil,List.append_nil]
    exact ht5
  ·rintro ac H5 ⟨s5,hG5,ht5⟩
   rw[al,List.take_length] at ht5
   have l5:=ht5.len
   have l6:=List.length_filter_le (fun x=>HT.lexLt x k) (rkL rows)
   refine⟨G,ac,_,rfl,hG5,ht5,by omega,fun zs nd mem=>?_⟩
   refine⟨s5 _ _ hF4,small1000 (by rw[List.length_map];omega),same_put hF (s4.trans s5),upd_same,ns++[((zs.length:Nat):Int)],by rw[List.map_append];rfl,by rw[List.length_append,nl];rfl,fun j k' hj hk'=>?_⟩
   by_cases e:j < i
   ·obtain⟨zs',a1,a2,a3⟩:=inv j k' e hk'
    exact⟨zs',a1,a2,by rw[List.getElem?_append_left (by omega)];exact a3⟩
   ·obtain rfl:j=i:=by omega
    rw[ek] at hk'
    cases hk'
    exact⟨zs,nd,fun x=>by rw[mem,List.mem_filter],by rw[List.getElem?_append_right (by omega),nl,Nat.sub_self];rfl⟩
 ·rintro ac H4 ⟨s4,hF4,ns,rfl,nl,inv⟩
  exact hQ F ns H4 (s2.trans s4) hF4 ⟨by omega,fun i k hk=>inv i k (by rw[al];exact (List.getElem?_eq_some_iff.mp hk).1) hk⟩
theorem ok__law_alike{n:Nat}(D:DefAt K mg "_law_alike" s__law_alike f fd)(T:Txt w.params K mg cx)(d__law_whole:DefOk P w K mg base CX0 1 "_law_whole" ["_law_found"] sp__law_whole)(d__law_alike:DefOk P w K mg base CX0 (2+n) "_law_alike" ["_law_found","_law_due"] (sp__law_alike n)):DefOk P w K mg base CX0 (2+n+1) "_law_alike" ["_law_found","_law_due"] (sp__law_alike (n+1)):=by
 refine D.ok (D.q sc__law_alike (fun vs H Q E h=>?_) (fun cdv A outer s H vs Q E hr h=>?_)) (D.fn.binds fun _ _ _ _ _ _ us hl=>match us,hl with | [_,_],_=>rfl)
 ·obtain⟨_,_,_,rfl,_⟩:=h
  rfl
 obtain⟨d,x,y,rfl,hx,hy,al,hQ⟩:=h
 refine⟨_,(qss_cons (qs_if (qt_isN ((qv 1))) (qss_one (qs_ret (qe_isN ((qv 0))))) qss_nil)
   (qss_cons (qs_if (qt_val (qe_callB call_isi (by rfl) T.n_isinstance bt_isinstance (qa_2 (qv 1) (qe_bltn (v:=.ty "bool") (by rfl) T.n_bool bt_bool rfl)))) (qss_one (qs_ret (qe_and (qe_callB call_isi (by rfl) T.n_isinstance bt_isinstance (qa_2 (qv 0) (qe_bltn (v:=.ty "bool") (by rfl) T.n_bool bt_bool rfl))) (qe_one (qe_cmpR op_eq (qv 0) (qv 1) (nomark _)))))) qss_nil)
   (qss_cons (qs_if (qt_val (qe_callB call_isi (by rfl) T.n_isinstance bt_isinstance (qa_2 (qv 1) (qe_bltn (v:=.ty "int") (by rfl) T.n_int bt_int rfl)))) (qss_one (qs_ret (qe_and (qe_f d__law_whole (hr.le (by omega)) pass0 (qa_1 (qv 0))) (qe_one (qe_cmpR op_eq (qv 0) (qv 1) (nomark _)))))) qss_nil)
   (qss_cons (qs_if (qt_val (qe_callB call_isi (by rfl) T.n_isinstance bt_isinstance (qa_2 (qv 1) (qe_bltn (v:=.ty "str") (by rfl) T.n_str bt_str rfl)))) (qss_one (qs_ret (qe_and (qe_callB call_isi (by rfl) T.n_isinstance bt_isinstance (qa_2 (qv 0) (qe_bltn (v:=.ty "str") (by rfl) T.n_str bt_str rfl))) (qe_one (qe_cmpR op_eq (qv 0) (qv 1) (nomark _)))))) qss_nil)
   (qss_cons (qs_if (qw_or (qt_cmpR op_ne (qe_callB call_isi (by rfl) T.n_isinstance bt_isinstance (qa_2 (qv 1) (qe_bltn (v:=.ty "list") (by rfl) T.n_list bt_list rfl))) (qe_callB call_isi (by rfl) T.n_isinstance bt_isinstance (qa_2 (qv 0) (qe_bltn (v:=.ty "list") (by rfl) T.n_list bt_list rfl))) (nomark _)) (qw_or1 (qt_cmpR op_ne (qe_callB call_isi (by rfl) T.n_isinstance bt_isinstance (qa_2 (qv 1) (qe_bltn (v:=.ty "tuple") (by rfl) T.n_tuple bt_tuple rfl))) (qe_callB call_isi (by rfl) T.n_isinstance bt_isinstance (qa_2 (qv 0) (qe_bltn (v:=.ty "tuple") (by rfl) T.n_tuple bt_tuple rfl))) (nomark _)))).pt (qss_one (qs_ret qe_bl)) qss_nil)
   (qss_cons (qs_if (qw_or (qt_not (qt_val (qe_callB call_isiT (by rfl) T.n_isinstance bt_isinstance (qa_2 (qv 0) (qe_tup (qa_2 (qe_bltn (v:=.ty "list") (by rfl) T.n_list bt_list rfl) (qe_bltn (v:=.ty "tuple") (by rfl) T.n_tuple bt_tuple rfl))))))) (qw_or1 (qt_cmpR op_ne (qe_callB call_lenF (by rfl) T.n_len bt_len (qa_1 (qv 0))) (qe_callB call_lenF (by rfl) T.n_len bt_len (qa_1 (qv 1))) (nomark _)))).pt (qss_one (qs_ret qe_bl)) qss_nil)
   (qss_one (qs_ret (qe_callB (call_allF rfl) (by rfl) T.n_all bt_all (qa_1 (qe_cp ["_law_at"] [("_law_found", 0),("_law_due", 1)] (qi_range1 (by rfl) T.n_range (qa_1 (qe_callB call_lenF (by rfl) T.n_len bt_len (qa_1 (qv 1))))) (gext_name (by decide)) (fun _ _ _ _ _=>⟨(qg_name (i:=0) (show (["_law_at","_law_found","_law_due"]:List Str).Nodup by decide +kernel) rfl (Or.inl rfl)),qf_nil,(qe_f d__law_alike hr pass0 (qa_2 (qe_iS (qv 1) (qv 0)) (qe_iS (qv 2) (qv 0))))⟩)))))))))))),?_⟩
 cases al with
 | int _ i =>
  have hx:x=.int i:=hx
  have hy:y=.int i:=hy
  subst hx hy
  k_extra "rx"
  rw[tIsN_ap]
  refine⟨_,rfl,?_⟩
  refine⟨_,rfl,brk (fun z=>nomatch z) (fun _=>?_)⟩
  k_extra "rx"
  refine⟨_,_,_,rfl,by decide,rfl,?_⟩
  refine⟨_,rfl,i_brkF ?_⟩
  k_extra "rx"
  refine⟨_,_,_,rfl,by decide,rfl,?_⟩
  refine⟨_,rfl,i_brkT ?_⟩
  k_extra "rx"
  refine i_tAndV ?_
  k_extra "rx"
  refine⟨i,rfl,?_⟩
  refine⟨_,rfl,i_brkT ?_⟩
  k_extra "rx"
  refine⟨rfl,?_⟩
  rw[decide_eq_true rfl]
  exact hQ _ (Same.refl _)
 | lst _ l hl ih =>
  obtain⟨a,xs,rfl,ha,hX⟩:=hx
  obtain⟨b,ys,rfl,hb,hY⟩:=hy
  k_extra "rx"
  rw[tIsN_ap]
  refine⟨_,rfl,?_⟩
  refine⟨_,rfl,brk (fun z=>nomatch z) (fun _=>?_)⟩
  k_extra "rx"
  refine⟨_,_,_,rfl,by decide,ty_lst hb,?_⟩
  refine⟨_,rfl,i_brkF ?_⟩
  k_extra "rx"
  refine⟨_,_,_,rfl,by decide,ty_lst hb,?_⟩
  refine⟨_,rfl,i_brkF ?_⟩
  k_extra "rx"
  refine⟨_,_,_,rfl,by decide,ty_lst hb,?_⟩
  refine⟨_,rfl,i_brkF ?_⟩
  k_extra "rx"
  refine⟨_,_,_,rfl,by decide,ty_lst hb,?_⟩
  k_extra "rx"
  refine⟨_,_,_,rfl,by decide,ty_lst ha,?_⟩
  k_extra "rx"
  refine⟨rfl,?_⟩
  refine⟨_,rfl,i_brkF ?_⟩
  k_extra "rx"
  refine⟨_,_,_,rfl,by decide,ty_lst hb,?_⟩
  k_extra "rx"
  refine⟨_,_,_,rfl,by decide,ty_lst ha,?_⟩
  k_extra "rx"
  refine⟨rfl,?_⟩
  refine⟨_,rfl,i_brkF ?_⟩
  k_extra "rx"
  refine i_NewO (Nat.le_of_ble_eq_true rfl) fun q H1 nq s1 gq=>?_
  have ha1:=s1 _ _ ha
  have hb1:=s1 _ _ hb
  have xl:=hX.length
  have yl:=hY.length
  k_extra "rx"
  refine⟨a,q,rfl,gq,.inr ⟨_,ha1⟩,?_⟩
  refine⟨_,rfl,i_brkF ?_⟩
  k_extra "rx"
  refine⟨rfl,?_⟩
  rw[decide_eq_true (show V.int (xs.length:Nat)=V.int (ys.length:Nat) by rw[← xl,← yl])]
  refine⟨_,rfl,i_brkF ?_⟩
  k_extra "rx"
  refine⟨_,rfl,b,_,rfl,seqAt_lst hb1,_,rfl,by omega,by omega,fun F hF=>?_⟩
  refine comp_rangeR (fun i acc H2=>Same H1 H2∧H2 F=some (.lst acc)∧acc=(List.replicate i true).map V.bl) ⟨Same.new hF,upd_same,rfl⟩ ?_ ?_
  ·rintro i acc H2 hi ⟨s2,hF2,rfl⟩
   have hi:i < l.length:=by omega
   obtain⟨u,eu,hu⟩:=hX.get (List.getElem?_eq_getElem hi)
   obtain⟨v,ev,hv⟩:=hY.get (List.getElem?_eq_getElem hi)
   have e1:atI xs (0+(i:Int))=some u:=by rw[Int.zero_add];exact atI_nat eu
   have e2:atI ys (0+(i:Int))=some v:=by rw[Int.zero_add];exact atI_nat ev
   have ha2:=s2 _ _ ha1
   have hb2:=s2 _ _ hb1
   simp only[gName_ap,tYes,if_true]
   k_extra "rx"
   refine⟨l[i],u,v,rfl,Den.same (s1.trans s2) hu,Den.same (s1.trans s2) hv,ih _ (List.getElem_mem hi),fun H3 s3=>?_⟩
   refine⟨s3 _ _ hF2,small1000 (by rw[List.length_map,List.length_replicate];omega),same_put hF (s2.trans s3),upd_same,?_⟩
   rw[List.replicate_succ',List.map_append]
   rfl
  ·rintro acc H2 ⟨s2,hF2,rfl⟩
   refine⟨F,_,rfl,hF2,?_⟩
   have e:∀ n,(List.replicate n true).all id=true:=fun n=>by simp
   rw[e]
   exact hQ _ (s1.trans s2)
theorem sc_at:∀ d:Nat,d < 3→∃ n:Int,atI [V.int 3,V.int 12,V.int 2000] (d:Int)=some (.int n)∧0 < n∧n≤2000
 | 0,_=>⟨3,rfl,by decide,by decide⟩
 | 1,_=>⟨12,rfl,by decide,by decide⟩
 | 2,_=>⟨2000,rfl,by decide,by decide⟩
 | d+3,h=>by omega
theorem mn_at:∀ d:Nat,d < 7→∃ n:Nat,atI [V.int 5,V.int 3,V.int 8,V.int 1,V.int 0,V.int 16,V.int 2] (d:Int)=some (.int (n:Int))∧n≤16
 | 0,_=>⟨5,rfl,by decide⟩
 | 1,_=>⟨3,rfl,by decide⟩
 | 2,_=>⟨8,rfl,by decide⟩
 | 3,_=>⟨1,rfl,by decide⟩
 | 4,_=>⟨0,rfl,by decide⟩
 | 5,_=>⟨16,rfl,by decide⟩
 | 6,_=>⟨2,rfl,by decide⟩
 | d+7,h=>by omega
theorem wd_at:∀ d:Nat,d < 5→atI [V.str "wage", V.str "loan", V.str "rescue", V.str "old", V.str "owner"] (d:Int)=some (.str (kdS d))
 | 0,_=>rfl
 | 1,_=>rfl
 | 2,_=>rfl
 | 3,_=>rfl
 | 4,_=>rfl
 | d+5,h=>by omega
theorem ok_law(D:DefAt K mg "law" s_law f fd)(T:Txt w.params K mg cx)(d__law_bag:DefOk P w K mg base CX0 1 "_law_bag" ["_law_script"] (sp__law_bag K cx))(d_ranked:DefOk P w K mg base CX0 2 "ranked" ["kinds"] sp_ranked)(d__law_pull:DefOk P w K mg base CX0 1 "_law_pull" ["_law_bag_here","_law_many"] sp__law_pull)(d__law_alike:DefOk P w K mg base CX0 4 "_law_alike" ["_law_found","_law_due"] (sp__law_alike 2))(d__law_ranked:DefOk P w K mg base CX0 2 "_law_ranked" ["_law_kinds"] sp__law_ranked):FnOk P w K mg base CX0 5 f fd ["_law_script"] (sp_law K cx):=by
 refine D.q sc_law (fun vs H Q E h=>?_) (fun cdv A outer s H vs Q E hr h=>?_)
 ·obtain⟨_,_,rfl,_⟩:=h
  rfl
 obtain⟨a,ns,rfl,hS,hl,hQ⟩:=h
 have hQt:Q (.bl true)=fun _=>True:=by funext H';exact eq_true (hQ H')
 clear hQ
 refine⟨_,(qss_cons (qs_sL 1 sc_law.nd (qe_g d__law_bag (qa_1 (qv 0))))
   (qss_cons (qs_sL 2 sc_law.nd (qe_lst qa_nil))
   (qss_cons (qs_sL 3 sc_law.nd (qe_iS (qe_lst (qa_3 qe_int qe_int qe_int)) (qe_g d__law_pull (qa_2 (qv 1) qe_int))))
   (qss_cons (qs_for PassesOwn.never rfl (qi_range1 (by rfl) T.n_range (qa_1 (qe_iS (qe_lst (qa_cons qe_int (qa_cons qe_int (qa_cons qe_int (qa_cons qe_int (qa_cons qe_int (qa_cons qe_int (qa_cons qe_int qa_nil)))))))) (qe_g d__law_pull (qa_2 (qv 1) qe_int))))) (qg_name (i:=4) sc_law.nd rfl (Or.inl rfl)) (qss_one (qs_expr (qe_bmK (K:=K) rfl PySem.F.plainAttrs_list PySem.F.slot_list_append PySem.F.type_list_append mt_append (qv 2) (qa_1 (qe_tup (qa_2 (qe_iS (qe_lst (qa_cons qe_str (qa_cons qe_str (qa_cons qe_str (qa_cons qe_str (qa_cons qe_str qa_nil)))))) (qe_g d__law_pull (qa_2 (qv 1) qe_int))) (qe_g d__law_pull (qa_2 (qv 1) (qv 3))))))))))
   (qss_cons (qs_sL 5 sc_law.nd (qe_callTy call_listF (by rfl) T.n_list bt_list (qa_1 (qv 2))))
   (qss_cons (qs_sL 6 sc_law.nd (qe_g d_ranked (qa_1 (qv 5))))
   (qss_one (qs_ret (qe_and (qe_g d__law_alike (qa_2 (qv 6) (qe_g d__law_ranked (qa_1 (qv 2))))) (qe_one (qe_cmpR (op_eqD hr.units) (qv 5) (qv 2) (nomark _)))))))))))),?_⟩
 k_extra "rx"
 refine⟨a,ns,rfl,hS,hl,fun B L H1 s1 nB b1=>?_⟩
 k_extra "rx"
 refine i_NewO (Nat.le_of_ble_eq_true rfl) fun R H2 nR s2 hR=>?_
 have RB:=b1.ne nR
 have RL:=b1.neL nR
 have b2:=b1.keep s2
 clear hS hl s1 nB b1 s2
 k_extra "rx"
 refine i_NewO (Nat.le_of_ble_eq_true rfl) fun X1 H3 nX s3 hX=>?_
 have X1B:=b2.ne nX
 have b3:=b2.keep s3
 have hR3:=s3 _ _ hR
 k_extra "rx"
 refine⟨B,3,L,rfl,b3,by decide,by decide,fun d H4 d0 d1 b4 f4=>?_⟩
 obtain⟨d,rfl⟩:=Int.eq_ofNat_of_zero_le d0
 obtain⟨sc,es,sc0,sc1⟩:=sc_at d (by omega)
 refine i_ixL (f4 _ _ X1B hX) es ?_
 have hR4:=f4 _ _ RB hR3
 clear f4 es hX X1B b3 hR3 s3 hR b2 nX nR
 k_extra "rx"
 unfold tFor iRng1
 k_extra "rx"
 refine i_NewO (Nat.le_of_ble_eq_true rfl) fun X2 H5 nX s5 hX=>?_
 have X2B:=b4.ne nX
 have b5:=b4.keep s5
 have hR5:=s5 _ _ hR4
 k_extra "rx"
 refine⟨B,7,L,rfl,b5,by decide,by decide,fun e H6 e0 e1 b6 f6=>?_⟩
 obtain⟨e,rfl⟩:=Int.eq_ofNat_of_zero_le e0
 obtain⟨mn,em,m16⟩:=mn_at e (by omega)
 refine i_ixL (f6 _ _ X2B hX) em ?_
 have hR6:=f6 _ _ RB hR5
 clear f6 em hX X2B b5 hR5 s5 hR4 b4 nX
 k_extra "rx"
 refine⟨mn,rfl,by omega,by omega,for_rangeN (lo:=0) (n:=mn) (fun i σ H7=>∃ v4 us rows,σ=[some (.ref a),some (.ref B),some (.ref R),some (.int sc),v4,none,none]∧BagAt H7 B L∧H7 R=some (.lst us)∧KdAt H7 us rows∧rows.length=i) ⟨_,[],[],rfl,b6,hR6,.nil,rfl⟩ ?_ ?_⟩
 ·rintro i σ H7 NN BB hi ⟨v4,us,rows,rfl,b7,hR7,kd7,rl⟩ kN kB
  clear kB b6 hR6
  have ul:=kd7.len
  refine i_gName ?_
  k_extra "rx"
  refine i_tBM ?_
  k_extra "rx"
  refine⟨.inl ⟨rfl,_,SqL.of hR7⟩,?_⟩
  k_extra "rx"
  refine i_NewO (Nat.le_of_ble_eq_true rfl) fun X3 H8 nX s8 hX=>?_
  have X3B:=b7.ne nX
  have b8:=b7.keep s8
  k_extra "rx"
  refine⟨B,5,L,rfl,b8,by decide,by decide,fun j H9 j0 j1 b9 f9=>?_⟩
  obtain⟨j,rfl⟩:=Int.eq_ofNat_of_zero_le j0
  refine i_ixL (f9 _ _ X3B hX) (wd_at j (by omega)) ?_
  k_extra "rx"
  refine⟨B,sc,L,rfl,b9,sc0,(show Sz 9000 2000 by decide).le (by omega),fun m H10 m0 m1 b10 f10=>?_⟩
  k_extra "rx"
  refine i_NewO (Nat.le_of_ble_eq_true rfl) fun t H11 nt s11 ht=>?_
  k_extra "rx"
  have hR11:=s11 _ _ (f10 _ _ RB (f9 _ _ RB (s8 _ _ hR7)))
  have kd11:KdAt H11 us rows:=((kd7.to fun a xs h=>TS.fr b8 f9 _ _ (s8 _ _ h)).to fun a xs h=>TS.fr b9 f10 _ _ h).to fun a xs h=>s11 _ _ h
  refine i_app hR11 (by omega) fun H12 g12 f12=>?_
  have ts:=TS.frl hR11 f12
  exact kN _ _ ⟨_,us++[.ref t],rows++[(j,m)],rfl,(b10.keep s11).frm f12 RB RL,g12,KdAt.snoc ⟨t,rfl,by omega,ts _ _ ht⟩ (kd11.to fun a xs h=>ts _ _ h),by rw[List.length_append,rl];rfl⟩
 ·rintro σ H7 ⟨v4,us,rows,rfl,b7,hR7,kd7,rl⟩
  clear b6 hR6
  k_extra "rx"
  refine⟨R,us,rfl,seqAt_lst hR7,fun G nG=>?_⟩
  have s8:=Same.new (o:=.lst us) nG
  have hG8:upd H7 G (.lst us) G=some (.lst us):=upd_same
  have hR8:=s8 _ _ hR7
  have kd8:KdAt (upd H7 G (.lst us)) us rows:=kd7.to fun a xs h=>s8 _ _ h
  generalize upd H7 G (.lst us)=H8 at s8 hG8 hR8 kd8 ⊢
  clear b7 hR7 kd7 s8 nG
  k_extra "rx"
  refine⟨G,us,rows,rfl,hG8,kd8,by omega,fun F ns H9 s9 hF ok=>?_⟩
  have hG9:=s9 _ _ hG8
  have hR9:=s9 _ _ hR8
  have kd9:KdAt H9 us rows:=kd8.to fun a xs h=>s9 _ _ h
  k_extra "rx"
  refine i_tAndV ?_
  k_extra "rx"
  refine⟨R,us,rows,rfl,hR9,kd9,by omega,fun F2 ns2 H10 s10 hF2 ok2=>?_⟩
  obtain rfl:=ok.uniq ok2
  have nl:ns.length≤1000:=by
   have:=ok.1
   rw[rkL,List.length_map] at this
   omega
  refine⟨.lst (ns.map Dt.int),.ref F,.ref F2,rfl,den_lst (s10 _ _ hF) (ints_dens ns),den_lst hF2 (ints_dens ns),.lst 1 _ (by rw[List.length_map];exact nl) (fun d hd=>?_),fun H11 s11=>?_⟩
  ·obtain⟨i,_,rfl⟩:=List.mem_map.mp hd
   exact .int 0 i
  have kd11:KdAt H11 us rows:=(kd9.to fun a xs h=>s10 _ _ h).to fun a xs h=>s11 _ _ h
  refine⟨_,rfl,i_brkT ?_⟩
  k_extra "rx"
  refine⟨.lst (rows.map kdD),.lst (rows.map kdD),den_lst (s11 _ _ (s10 _ _ hG9)) kd11.dens,den_lst (s11 _ _ (s10 _ _ hR9)) kd11.dens,cmp_lst fun d hd=>?_,?_⟩
  ·obtain⟨r,_,rfl⟩:=List.mem_map.mp hd
   exact kd_cmp r
  ·rw[dec_rfl]
   show Q (.bl true) H11
   rw[hQt]
   trivial
def FnA(K:PySem.W.Frag)(x:Str)(s:Stmt):Prop:=∃ f fd,Fun K x x s f fd∧PySem.W.nsIn K mainGlobals x=some (some (.ref f))
end
theorem FnA.mk{K:PySem.W.Frag}{x:Str}{s:Stmt}{f:Addr}{oc:Value}{od:Option Addr}{kV dc pm:Value}{an:Option Addr}{cd ct:Value}{sl:Array (Option Value)}(a:PySem.W.nsIn K mainGlobals x=some (some (.ref f)))(l:K.lookup f=some ⟨oc,od,.func (PySem.W.fnOf x x (defArgs s) (defBody s) (defScope s) .none kV dc pm an cd ct),sl⟩)(c:PySem.W.codeIn K cd x=true)(k:PySem.W.keepIn K (.ref f)=true):FnA K x s:=⟨f,_,fun_mk (st:=s) l c k,a⟩
theorem FnA.def{K:PySem.W.Frag}{h:Heap}{mg:Str→Option Value}{x:Str}{s:Stmt}(a:FnA K x s)(X:K.In h)(G:h.Ns mainGlobals mg):∃ f fd,DefAt K mg x s f fd:=by
 obtain⟨f,fd,u,a⟩:=a
 exact⟨f,fd,u,PySem.W.mg_of X G a⟩
theorem all_mk{l:PySem.W.OpenLaw}{w:World}{K:PySem.W.Frag}{h:Heap}{mg:Str→Option Value}{fa  : Addr}(X:K.In h)(G:h.Ns mainGlobals mg)(hfa:mg "law" = some (.ref fa))
  (a0:FnA K "standing" s_standing)
  (a1:FnA K "ranked" s_ranked)
  (a2:FnA K "_law_bag" s__law_bag)
  (a3:FnA K "_law_pull" s__law_pull)
  (a4:FnA K "_law_whole" s__law_whole)
  (a5:FnA K "_law_key" s__law_key)
  (a6:FnA K "_law_ranked" s__law_ranked)
  (a7:FnA K "_law_alike" s__law_alike)
  (a8:FnA K "law" s_law)
  (z0:PySem.W.nsIn K mainGlobals "sorted" = some none)
  (z1:PySem.W.nsIn K mainGlobals "set" = some none)
  (z2:PySem.W.nsIn K mainGlobals "list" = some none)
  (z3:PySem.W.nsIn K mainGlobals "len" = some none)
  (z4:PySem.W.nsIn K mainGlobals "isinstance" = some none)
  (z5:PySem.W.nsIn K mainGlobals "bool" = some none)
  (z6:PySem.W.nsIn K mainGlobals "int" = some none)
  (z7:PySem.W.nsIn K mainGlobals "all" = some none)
  (z8:PySem.W.nsIn K mainGlobals "range" = some none)
  (z9:PySem.W.nsIn K mainGlobals "tuple" = some none)
  (z10:PySem.W.nsIn K mainGlobals "str" = some none)
  {gd_ORDER:Addr} {ge_ORDER:Nat} {gk_ORDER0 gk_ORDER1 gk_ORDER2 gk_ORDER3 gk_ORDER4:Tok} {gv_ORDER0 gv_ORDER1 gv_ORDER2 gv_ORDER3 gv_ORDER4:Tok} (gUORDER:PySem.W.nsIn K mainGlobals "ORDER" = some (some (.ref gd_ORDER))) (gVORDER:K.lookup gd_ORDER=some { cls:=.type "dict", data:=.dict #[⟨PyData.keyHash w.params "wage", .str "wage" gk_ORDER0,.int 0 gv_ORDER0⟩,⟨PyData.keyHash w.params "loan", .str "loan" gk_ORDER1,.int 1 gv_ORDER1⟩,⟨PyData.keyHash w.params "rescue", .str "rescue" gk_ORDER2,.int 1 gv_ORDER2⟩,⟨PyData.keyHash w.params "old", .str "old" gk_ORDER3,.int 2 gv_ORDER3⟩,⟨PyData.keyHash w.params "owner", .str "owner" gk_ORDER4,.int 3 gv_ORDER4⟩] ge_ORDER }) (gLORDER:(gd_ORDER == sysModules)=false)
  : ∃ fd:FuncData,(∀(s:Shared)(v:Value),BindsTo s fd ⟨[v],[]⟩ [("_law_script", v)])∧∀ base:Heap,K.In base→base.Ns mainGlobals mg→FnOk l.prog w K mg base CX0 5 fa fd ["_law_script"] (sp_law K (fun _=>0)):=by
 obtain⟨_,_,D8⟩:=a8.def X G
 have e:=hfa.symm.trans D8.mg
 cases e
 obtain⟨oc,od,kV,dc,pm,an,cd,ct,sl,rfl,_,_⟩:=id D8.fn.ex
 have T:Txt w.params K mg (fun _=>0):=⟨PySem.W.mg_none_of X G z0,PySem.W.mg_none_of X G z1,PySem.W.mg_none_of X G z2,PySem.W.mg_none_of X G z3,PySem.W.mg_none_of X G z4,PySem.W.mg_none_of X G z5,PySem.W.mg_none_of X G z6,PySem.W.mg_none_of X G z7,PySem.W.mg_none_of X G z8,PySem.W.mg_none_of X G z9,PySem.W.mg_none_of X G z10,⟨_,PySem.W.mg_of X G gUORDER,⟨gLORDER,show (["wage", "loan", "rescue", "old", "owner"]:List Str).Nodup by decide +kernel,show 5≤1000 by decide,_,_,_,gVORDER,⟨rfl,rfl,rfl⟩,rfl,(.cons ⟨rfl,⟨_,rfl⟩,⟨_,rfl⟩⟩ (.cons ⟨rfl,⟨_,rfl⟩,⟨_,rfl⟩⟩ (.cons ⟨rfl,⟨_,rfl⟩,⟨_,rfl⟩⟩ (.cons ⟨rfl,⟨_,rfl⟩,⟨_,rfl⟩⟩ (.cons ⟨rfl,⟨_,rfl⟩,⟨_,rfl⟩⟩ .nil)))))⟩⟩⟩
 obtain⟨_,_,D0⟩:=a0.def X G
 obtain⟨_,_,D1⟩:=a1.def X G
 obtain⟨_,_,D2⟩:=a2.def X G
 obtain⟨_,_,D3⟩:=a3.def X G
 obtain⟨_,_,D4⟩:=a4.def X G
 obtain⟨_,_,D5⟩:=a5.def X G
 obtain⟨_,_,D6⟩:=a6.def X G
 obtain⟨_,_,D7⟩:=a7.def X G
 refine⟨PySem.W.fnOf "law" "law" (defArgs s_law) (defBody s_law) (defScope s_law) .none kV dc pm an cd ct,fun s v=>.of_eq rfl,fun base _ _=>?_⟩
 have d__law_bag:=ok__law_bag (P:=l.prog) (w:=w) (base:=base) D2 T
 have d_standing:=ok_standing (P:=l.prog) (w:=w) (base:=base) D0 T
 have d_ranked:=ok_ranked D1 T d_standing
 have d__law_pull:=ok__law_pull (P:=l.prog) (w:=w) (base:=base) D3 T
 have d__law_whole:=ok__law_whole (P:=l.prog) (w:=w) (base:=base) D4 T
 have d__law_alike0:DefOk l.prog w K mg base CX0 2 "_law_alike" ["_law_found", "_law_due"] (sp__law_alike 0):=rec0 D7 (D7.fn.binds fun _ _ _ _ _ _ us hl=>match us,hl with | [_,_],_=>rfl) no__law_alike
 have d__law_alike1:=ok__law_alike (n:=0) D7 T d__law_whole d__law_alike0
 have d__law_alike:=ok__law_alike (n:=1) D7 T d__law_whole d__law_alike1
 have d__law_key:=ok__law_key (P:=l.prog) (w:=w) (base:=base) D5 T
 have d__law_ranked:=ok__law_ranked D6 T d__law_key
 have d_law:=ok_law D8 T d__law_bag d_ranked d__law_pull d__law_alike d__law_ranked
 exact d_law
theorem walk{l:PySem.W.OpenLaw}{q:Program}{loose:List Str}{XP:(Str→Option Value)→Heap→Prop}{YP:World→Heap→Prop}{d:DefRec}{K:Params→PySem.W.Frag}(hn:l.most=some 63)(hdf:d.params.defaults=[])
  (hY:∀(w:World)(h:Heap),YP w h→(K w.params).In h)
  (F:∀(w:World)(mg:Str→Option Value)(fa:Addr)(h:Heap),(K w.params).In h→h.Ns mainGlobals mg→mg d.name=some (.ref fa) →
   ∃ fd:FuncData,(∀(s:Shared)(u:Value),BindsTo s fd ⟨[u],[]⟩ [("_law_script", u)])∧∀ base:Heap,(K w.params).In base→base.Ns mainGlobals mg→FnOk l.prog w (K w.params) mg base CX0 5 fa fd ["_law_script"] (sp_law (K w.params) (fun _=>0))) :
  PySem.W.WalkO q loose XP YP l.row.toRowW d [] (fun f vs=>PySem.call f vs) :=
 L2.walk_of (n:=63) (k:=5) (x := "_law_script") (CX:=fun _=>CX0) (sp:=fun w=>sp_law (K w.params) (fun _=>0)) hn (by decide) hdf ⟨rfl,by decide,by decide⟩ hY F (fun _ _ a ns hl _ hS=>⟨a,ns,rfl,hS,hl,fun _=>rfl⟩) fun _ _ _ _ _ z=>z
end Toy
open PySem PySem.W PyProof.Rows
set_option maxRecDepth 100000 in
set_option maxHeartbeats 0 in
theorem PySem.Challenge.cw_keelbond_k32_ranks_told_holds : PySem.Challenge.rw_keelbond_k32_ranks_told.Holds := by
 w_on;o_law;k_head;(case hw=>w_witness2)
 k_fill
 refine Toy.walk (l:=PySem.Challenge.rw_keelbond_k32_ranks_told) rfl rfl (fun w h Y=>PySem.W.kIn_of Y) ?F
 case F =>
  intro w mg fa h KX G hmg
  refine' Toy.all_mk KX G hmg ?_ ?_ ?_ ?_ ?_ ?_ ?_ ?_ ?_ ?_ ?_ ?_ ?_ ?_ ?_ ?_ ?_ ?_ ?_ ?_ ?_ ?_ ?_
  any_goals first | (refine' Toy.FnA.mk ?aa ?bb ?cc ?dd;(case aa=>k_is);(case bb=>k_is);(case cc=>k_is);(case dd=>k_is)) | k_exc | k_is | decide
