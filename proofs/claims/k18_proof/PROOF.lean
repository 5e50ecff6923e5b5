import PyProof.Rows.All
import Wide.All
import OpenK.AllK
import Wide.FinOn
import Lean
import PyProof.EqAt
import PyProof.EqKinds
import PyProof.TupleCall
import PyProof.Rows.SortRuns
import PyProof.Rows.SortShell
import PySem.Challenge.RW_keelbond_k18_papers_judged
set_option Elab.async false
set_option linter.all false
set_option maxRecDepth 100000
namespace L2
open PySem PySem.Spec PyProof.Rows
abbrev Key:=Sum Int Str
def keyIs:Key→Value→Bool
 | .inl k,v=>Value.isInt k v
 | .inr x,v=>Value.isStrOf x v
def keyH(w:World):Key→Int
 | .inl k=>hashInt k
 | .inr x=>hashStr w x
theorem keyIs_shape:∀{k:Key}{v:Value},keyIs k v=true→(∃ i t,k=Sum.inl i∧v=Value.int i t)∨(∃ x t,k=Sum.inr x∧v=Value.str x t)
 | .inl i,v,h=>by
  obtain⟨t,e⟩:=Value.isInt_shape (k:=i) (v:=v) h
  exact .inl ⟨i,t,rfl,e⟩
 | .inr x,v,h=>by
  obtain⟨t,e⟩:=Value.isStrOf_shape (x:=x) (v:=v) h
  exact .inr ⟨x,t,rfl,e⟩
theorem key_ll(a b:Int):decide ((Sum.inl a:Key)=Sum.inl b)=(a == b):=by
 by_cases e:a=b
 ·subst e;simp
 ·have h:¬ (Sum.inl a:Key)=Sum.inl b:=fun q=>e (Sum.inl.inj q)
  rw[decide_eq_false h]
  exact (beq_eq_false_iff_ne.mpr e).symm
theorem key_rr(a b:Str):decide ((Sum.inr a:Key)=Sum.inr b)=decide (a=b):=by
 by_cases e:a=b
 ·subst e;simp
 ·have h:¬ (Sum.inr a:Key)=Sum.inr b:=fun q=>e (Sum.inr.inj q)
  rw[decide_eq_false h,decide_eq_false e]
theorem key_lr(a:Int)(b:Str):decide ((Sum.inl a:Key)=Sum.inr b)=false:=decide_eq_false (fun q=>nomatch q)
theorem key_rl(a:Str)(b:Int):decide ((Sum.inr a:Key)=Sum.inl b)=false:=decide_eq_false (fun q=>nomatch q)
def mixKind(prog:Program)(w:World):PySem.KeyKind prog w Key where
 is:=keyIs
 hash:=keyH w
 inj:=fun v a b ha hb=>by
  rcases keyIs_shape ha with ⟨i,t,rfl,rfl⟩ | ⟨x,t,rfl,rfl⟩
  ·rcases keyIs_shape hb with ⟨j,u,rfl,e⟩ | ⟨y,u,rfl,e⟩
   ·injection e with e1 _;rw[e1]
   ·exact nomatch e
  ·rcases keyIs_shape hb with ⟨j,u,rfl,e⟩ | ⟨y,u,rfl,e⟩
   ·exact nomatch e
   ·injection e with e1 _;rw[e1]
 byValue:=fun k v h=>by
  rcases keyIs_shape h with ⟨i,t,rfl,rfl⟩ | ⟨x,t,rfl,rfl⟩<;>rfl
 pyHash:=fun hv h=>by
  rcases keyIs_shape hv with ⟨i,t,rfl,rfl⟩ | ⟨x,t,rfl,rfl⟩
  ·exact wpAny_pyHash_int h
  ·exact wpAny_pyHash_str h
 eqBool:=fun hu hv h=>by
  rcases keyIs_shape hu with ⟨i,t,rfl,rfl⟩ | ⟨x,t,rfl,rfl⟩
  ·rcases keyIs_shape hv with ⟨j,u,rfl,rfl⟩ | ⟨y,u,rfl,rfl⟩
   ·rw[key_ll] at h;exact wpAny_eqBool_int h
   ·rw[key_lr] at h;exact SeqAt.EqAt.int_str i t y u _ _ _ _ h
  ·rcases keyIs_shape hv with ⟨j,u,rfl,rfl⟩ | ⟨y,u,rfl,rfl⟩
   ·rw[key_rl] at h;exact SeqAt.EqAt.str_int x t j u _ _ _ _ h
   ·rw[key_rr] at h;exact wpAny_eqBool_str h
 «strs»:=fun k x t v h=>by
  rcases keyIs_shape h with ⟨i,u,rfl,e⟩ | ⟨y,u,rfl,e⟩
  ·exact nomatch e
  ·injection e with e1 _
   subst e1
   cases v<;>rfl
end L2
namespace L2
open PySem PySem.Spec PyProof.Rows
inductive V where
 | non | bl (b:Bool) | int (i:Int) | str (x:Str) | byt (b:Array UInt8) | flt (b:UInt64) | ref (a:Addr) | ty (n:String)
 deriving DecidableEq
def RelV:V→Value→Prop
 | .non,u=>u=Value.none
 | .bl b,u=>u=Value.bool b
 | .int i,u=>∃ t,u=Value.int i t
 | .str x,u=>∃ t,u=Value.str x t
 | .byt b,u=>∃ t,u=Value.bytes b t
 | .flt b,u=>∃ t,u=Value.float b t
 | .ref a,u=>u=Value.ref a
 | .ty n,u=>u=Value.type n
abbrev Vals:List V→List Value→Prop:=Paired RelV
theorem Vals.length{xs:List V}{us:List Value}(r:Vals xs us):xs.length=us.length:=Paired.length r
theorem Vals.get:∀{xs:List V}{us:List Value}{i:Nat}{x:V},Vals xs us→xs[i]?=some x→∃ u,us[i]?=some u∧RelV x u
 | _,_,_,_,.nil,e=>by simp at e
 | _,_,0,_,.cons r _,e=>by simp at e;subst e;exact⟨_,rfl,r⟩
 | _,_,i+1,x,.cons _ t,e=>by
  obtain⟨u,h1,h2⟩:=Vals.get (i:=i) (x:=x) t (by simpa using e)
  exact⟨u,by simpa using h1,h2⟩
theorem Vals.set{x:V}{u:Value}(r:RelV x u):∀{xs:List V}{us:List Value}(i:Nat),Vals xs us→Vals (xs.set i x) (us.set i u)
 | _,_,_,.nil=>.nil
 | _,_,0,.cons _ t=>.cons r t
 | _,_,i+1,.cons q t=>.cons q (Vals.set r i t)
theorem Vals.append:∀{xs ys:List V}{us ws:List Value},Vals xs us→Vals ys ws→Vals (xs++ys) (us++ws)
 | _,_,_,_,.nil,s=>s
 | _,_,_,_,.cons r t,s=>.cons r (Vals.append t s)
theorem Vals.take:∀{xs:List V}{us:List Value}(n:Nat),Vals xs us→Vals (xs.take n) (us.take n)
 | _,_,0,_=>.nil
 | _,_,_+1,.nil=>.nil
 | _,_,n+1,.cons r t=>.cons r (Vals.take n t)
theorem Vals.drop:∀{xs:List V}{us:List Value}(n:Nat),Vals xs us→Vals (xs.drop n) (us.drop n)
 | _,_,0,r=>r
 | _,_,_+1,.nil=>.nil
 | _,_,n+1,.cons _ t=>Vals.drop n t
def RelO:Option V→Option Value→Prop
 | some v,some u=>RelV v u
 | none,none=>True
 | _,_=>False
def KV{κ:Type}:List (κ×V)→List (κ×Value)→Prop:=Paired fun (p:κ×V) (q:κ×Value)=>p.1=q.1∧RelV p.2 q.2
def kV:Key→V
 | .inl i=>.int i
 | .inr x=>.str x
inductive HO where
 | lst (xs:List V)
 | tup (xs:List V)
 | dK (kvs:List (Key×V)) | dT (kvs:List (List Key×V))
 | set (S:Int→Bool) (n:Nat)
 | ins (C dx:Addr) (fs:List (Str×V))
 | own (x:Addr)
 | xd (fs:List (Str×V))
 | met (f x:Addr)
 | rng (lo hi:Int)
 | frz (o:Obj) (u:HO)
 | tbl (ps:Array Value)
 | ext (φ:Heap→Prop)
abbrev Hp:=Addr→Option HO
def upd(H:Hp)(a:Addr)(o:HO):Hp:=fun b=>if b=a then some o else H b
theorem upd_same{H:Hp}{a:Addr}{o:HO}:upd H a o a=some o:=by unfold upd;rw[if_pos rfl]
theorem upd_ne{H:Hp}{a b:Addr}{o:HO}(h:b≠a):upd H a o b=H b:=by unfold upd;rw[if_neg h]
theorem upd_upd{H:Hp}{a:Addr}{o u:HO}:upd (upd H a o) a u=upd H a u:=by
 funext b;unfold upd;split<;>rfl
theorem ne_of{H:Hp}{a b:Addr}{o u:HO}(h:H a=some o)(h':H b=some u)(d:o≠u):a≠b:=by
 intro e;subst e;rw[h] at h';exact d (Option.some.inj h')
theorem ne_of_none{H:Hp}{a b:Addr}{o:HO}(h:H a=some o)(h':H b=none):a≠b:=by
 intro e;subst e;rw[h] at h';cases h'
section
variable (P:Program)(w:World)
def ObjOk(H:Hp)(h:Heap)(a:Addr):HO→Prop
 | .lst xs=>xs.length≤sizeLine∧∃(its:List Value)(n:Nat),Vals xs its∧h.get? a=some { cls:=.type "list", data:=.seq its.toArray n }
 | .tup xs=>xs.length≤sizeLine∧∃ its:List Value,Vals xs its∧IsTup h a its.toArray
 | .dK kvs=>kvs.length≤sizeLine∧(a == sysModules)=false∧∃ vs,KV kvs vs∧h.DictOf (mixKind P w) a vs
 | .dT kvs=>kvs.length≤sizeLine∧(a == sysModules)=false∧∃ xs:List (List Key×Addr×Value),
   Paired (fun (p:List Key×V) (q:List Key×Addr×Value)=>p.1=q.1∧H q.2.1=some (.tup (p.1.map kV))∧RelV p.2 q.2.2) kvs xs ∧
   ∃ o es ep,h.get? a=some o∧o.ExactDict∧o.data=.dict es ep∧es.toList=xs.map (entryOfKey (tupleKind (mixKind P w)))∧(xs.map (·.1)).Nodup
 | .set S n=>h.SetOf (intKind P w) a S n
 | .ins C dx fs=>H dx=some (.own a)∧fs.length≤1000∧dx≠a∧h.get? a=some (PySem.W.instObj C dx) ∧
   ∃ mA,h.Ns1 dx mA∧(∀ f,RelO (fs.lookup f) (mA f))∧PySem.Within mA (fs.map (·.1))
 | .own _=>∃ o,h.get? a=some o
 | .xd fs=>∃ mA,h.Ns1 a mA∧∀ f,RelO (fs.lookup f) (mA f)
 | .rng lo hi=>∃ t u v,h.get? a=some { cls:=.type "range", data:=.fields #[.int lo t,.int hi u,.int 1 v] }
 | .frz o u=>h.get? a=some o∧ObjOk H h a u
 | .tbl ps=>h.get? a=some { cls:=.none,data:=.fields ps }
 | .met f x=>h.get? a=some (PySem.W.methodObj (.ref f) (.ref x))
 | .ext φ=>φ h∧(∃ o,h.get? a=some o)∧∀ h1 h2:Heap,φ h1→(∀ o,h1.get? a=some o→h2.get? a=some o)→φ h2
def HOk(H:Hp)(h:Heap):Prop:=∀ a o,H a=some o→ObjOk P w H h a o
end
section
variable {P:Program}{w:World}{H H':Hp}{h h':Heap}{a:Addr}{o:HO}
theorem ObjOk.lt(x:ObjOk P w H h a o):a < h.objs.size:=by
 cases o with
 | lst xs=>obtain⟨_,_,_,_,e⟩:=x;exact Heap.lt_size e
 | tup xs=>obtain⟨_,_,_,p⟩:=x;exact p.lt
 | dK kvs=>obtain⟨_,_,_,_,o,_,_,e,_⟩:=x;exact Heap.lt_size e
 | dT kvs=>obtain⟨_,_,_,_,o,_,_,e,_⟩:=x;exact Heap.lt_size e
 | set S n=>obtain⟨o,_,_,_,e,_⟩:=x;exact Heap.lt_size e
 | ins C dx fs=>obtain⟨_,_,_,e,_⟩:=x;exact Heap.lt_size e
 | own y=>obtain⟨_,e⟩:=x;exact Heap.lt_size e
 | xd fs=>obtain⟨_,⟨_,_,_,e,_⟩,_⟩:=x;exact Heap.lt_size e
 | rng lo hi=>obtain⟨_,_,_,e⟩:=x;exact Heap.lt_size e
 | frz ob u=>obtain⟨e,_⟩:=x;exact Heap.lt_size e
 | tbl ps=>exact Heap.lt_size (show h.get? a=some _ from x)
 | met f y=>exact Heap.lt_size (show h.get? a=some _ from x)
 | ext φ=>obtain⟨_,⟨_,e⟩,_⟩:=x;exact Heap.lt_size e
theorem Paired.mapP{α β:Type}{F G:α→β→Prop}:∀{l₁:List α}{l₂:List β},Paired F l₁ l₂→(∀ a b,F a b→G a b)→Paired G l₁ l₂
 | _,_,.nil,_=>.nil
 | _,_,.cons r t,f=>.cons (f _ _ r) (Paired.mapP t f)
theorem ObjOk.stay(x:ObjOk P w H h a o)(k:∀ b u,(b=a∨H b=some (.own a))→h.get? b=some u→h'.get? b=some u)
  (ho:∀ b,H b=some (.own a)→H' b=some (.own a)) (ht:∀ b xs,H b=some (.tup xs)→H' b=some (.tup xs)):ObjOk P w H' h' a o:=by
 induction o with
 | lst xs=>obtain⟨z,its,n,r,e⟩:=x;exact⟨z,its,n,r,k _ _ (.inl rfl) e⟩
 | tup xs=>obtain⟨z,its,r,ob,e,c⟩:=x;exact⟨z,its,r,ob,k _ _ (.inl rfl) e,c⟩
 | dK kvs=>obtain⟨z,y,vs,r,ob,es,ep,e,c⟩:=x;exact⟨z,y,vs,r,ob,es,ep,k _ _ (.inl rfl) e,c⟩
 | dT kvs =>
  obtain⟨z,y,xs,r,ob,es,ep,e,c⟩:=x
  exact⟨z,y,xs,Paired.mapP r fun p q z=>⟨z.1,ht _ _ z.2.1,z.2.2⟩,ob,es,ep,k _ _ (.inl rfl) e,c⟩
 | set S n=>obtain⟨ob,es,ep,t,e,c⟩:=x;exact⟨ob,es,ep,t,k _ _ (.inl rfl) e,c⟩
 | ins C dx fs =>
  obtain⟨d,z,ne,e,mA,⟨od,es,ep,e2,c⟩,r⟩:=x
  exact⟨ho _ d,z,ne,k _ _ (.inl rfl) e,mA,⟨od,es,ep,k _ _ (.inr d) e2,c⟩,r⟩
 | own y=>obtain⟨ob,e⟩:=x;exact⟨ob,k _ _ (.inl rfl) e⟩
 | xd fs=>obtain⟨mA,⟨od,es,ep,e,c⟩,r⟩:=x;exact⟨mA,⟨od,es,ep,k _ _ (.inl rfl) e,c⟩,r⟩
 | rng lo hi=>obtain⟨t,u,v,e⟩:=x;exact⟨t,u,v,k _ _ (.inl rfl) e⟩
 | frz ob u ih=>obtain⟨e,q⟩:=x;exact⟨k _ _ (.inl rfl) e,ih q⟩
 | tbl ps =>
  have e:h.get? a=some { cls:=.none,data:=.fields ps }:=x
  show h'.get? a=some { cls:=.none,data:=.fields ps }
  exact k a _ (.inl rfl) e
 | met f y =>
  have e:h.get? a=some (PySem.W.methodObj (.ref f) (.ref y)):=x
  show h'.get? a=some (PySem.W.methodObj (.ref f) (.ref y))
  exact k a _ (.inl rfl) e
 | ext φ=>obtain⟨p,⟨o,e⟩,st⟩:=x;exact⟨st _ _ p fun o q=>k _ _ (.inl rfl) q,⟨o,k _ _ (.inl rfl) e⟩,st⟩
theorem HOk.lt(x:HOk P w H h)(e:H a=some o):a < h.objs.size:=(x a o e).lt
theorem HOk.fresh(x:HOk P w H h)(e:h.objs.size≤a):H a=none:=by
 cases q:H a with
 | none=>rfl
 | some u=>exact absurd (Nat.lt_of_lt_of_le (x.lt q) e) (Nat.lt_irrefl _)
theorem HOk.kept(x:HOk P w H h)(k:∀ b u,h.get? b=some u→h'.get? b=some u):HOk P w H h':=fun a o e =>
 (x a o e).stay (fun b u _ q=>k b u q) (fun _ q=>q) fun _ _ q=>q
theorem HOk.laid(x:HOk P w H h)(k:∀ b u,h.get? b=some u→h'.get? b=some u)(hp:h.objs.size≤a)(new:ObjOk P w (upd H a o) h' a o):HOk P w (upd H a o) h':=fun b u e=>by
 have hn:=x.fresh hp
 by_cases hb:b=a
 ·subst hb;rw[upd_same] at e;cases e;exact new
 ·rw[upd_ne hb] at e
  exact (x b u e).stay (fun c v _ q=>k c v q) (fun c q=>by rw[upd_ne (ne_of_none q hn)];exact q) fun c xs q=>by rw[upd_ne (ne_of_none q hn)];exact q
end
def Rd(H:Hp)(a:Addr)(u:HO):Prop:=H a=some u∨∃ o,H a=some (.frz o u)
theorem Rd.ok{P:Program}{w:World}{H:Hp}{h:Heap}{a:Addr}{u:HO}(r:Rd H a u)(x:HOk P w H h):ObjOk P w H h a u:=by
 rcases r with r | ⟨o,r⟩
 ·exact x a u r
 ·obtain⟨_,q⟩:=x a _ r
  exact q
def Mut:Option HO→Prop
 | some (.lst _)=>True
 | some (.dK _)=>True
 | some (.dT _)=>True
 | some (.set _ _)=>True
 | some (.ins _ _ _)=>True
 | some (.ext _)=>True
 | _=>False
section
variable {P:Program}{w:World}{H:Hp}{h h':Heap}{x e:Addr}{o':HO}
theorem HOk.write(ok:HOk P w H h)(mu:Mut (H x))(he:e=x∨H e=some (.own x))(k:∀ b u,b≠e→h.get? b=some u→h'.get? b=some u)(heo:∃ u,h'.get? e=some u)
  (new:ObjOk P w (upd H x o') h' x o'):HOk P w (upd H x o') h':=fun b u q=>by
 have nown:∀ c y,H c=some (.own y)→c≠x:=fun c y r z=>by subst z;rw[r] at mu;exact mu
 have ntup:∀ c xs,H c=some (.tup xs)→c≠x:=fun c xs r z=>by subst z;rw[r] at mu;exact mu
 by_cases hb:b=x
 ·subst hb;rw[upd_same] at q;cases q;exact new
 ·rw[upd_ne hb] at q
  by_cases hbe:b=e
  ·have q':H b=some (.own x):=by
    rcases he with z | z
    ·exact absurd (hbe.trans z) hb
    ·rw[hbe];exact z
   rw[q] at q';cases q'
   obtain⟨v,hv⟩:=heo
   exact⟨v,by rw[hbe];exact hv⟩
  ·refine (ok b u q).stay (fun c v hc r=>k c v ?_ r) (fun c r=>by rw[upd_ne (nown c b r)];exact r) fun c xs r=>by rw[upd_ne (ntup c xs r)];exact r
   rcases hc with rfl | hc
   ·exact hbe
   ·rintro rfl
    rcases he with z | z
    ·exact nown c b hc z
    ·rw[hc] at z;cases z;exact hb rfl
end
structure Un(fs ex:List Addr)(H H':Hp)(h h':Heap):Prop where
 keep:∀ b o,h.get? b=some o→H b=none→b∉fs→b∉ex→h'.get? b=some o
 slot:∀ b o,h.get? b=some o→H b=none→b∈fs→b∉ex→∃ sl,h'.get? b=some { o with slots:=sl }
 free:∀ b o,h.get? b=some o→H b=none→b∉ex→H' b=none
 there:∀ b o,h.get? b=some o→b∉ex→∃ o',h'.get? b=some o'
 tups:∀ b xs,H b=some (.tup xs)→H' b=some (.tup xs)
 frzs:∀ b o u,H b=some (.frz o u)→H' b=some (.frz o u)
 tbls:∀ b ps,H b=some (.tbl ps)→∃ more,H' b=some (.tbl (ps++more))
section
variable {fs fs' ex ex':List Addr}{H H1 H2:Hp}{h h1 h2 h':Heap}{a x e:Addr}{o:HO}
theorem Un.any(u:Un fs ex H H1 h h1){b:Addr}{ob:Obj}(q:h.get? b=some ob)(n:H b=none)(hx:b∉ex):∃ sl,h1.get? b=some { ob with slots:=sl }:=by
 by_cases hb:b∈fs
 ·exact u.slot b ob q n hb hx
 ·exact⟨ob.slots,u.keep b ob q n hb hx⟩
theorem Un.kept(k:∀ b u,h.get? b=some u→h'.get? b=some u):Un fs ex H H h h' :=
 ⟨fun b ob q _ _ _=>k b ob q,fun b ob q _ _ _=>⟨ob.slots,k b ob q⟩,fun _ _ _ n _=>n,fun b ob q _=>⟨ob,k b ob q⟩,fun _ _ q=>q,fun _ _ _ q=>q,fun _ ps q=>⟨#[],by rw[q];simp⟩⟩
theorem Un.refl:Un fs ex H H h h:=Un.kept fun _ _ q=>q
theorem Un.laid(k:∀ b u,h.get? b=some u→h'.get? b=some u)(hp:h.objs.size≤a)(hn:H a=none):Un fs ex H (upd H a o) h h' where
 keep:=fun b u q _ _ _=>k b u q
 slot:=fun b u q _ _ _=>⟨u.slots,k b u q⟩
 free:=fun b u q n _=>by rw[upd_ne (Nat.ne_of_lt (Nat.lt_of_lt_of_le (Heap.lt_size q) hp))];exact n
 there:=fun b u q _=>⟨u,k b u q⟩
 tups:=fun b xs q=>by rw[upd_ne (ne_of_none q hn)];exact q
 frzs:=fun b u xs q=>by rw[upd_ne (ne_of_none q hn)];exact q
 tbls:=fun b ps q=>⟨#[],by rw[upd_ne (ne_of_none q hn),q];simp⟩
theorem Un.write(mu:Mut (H x))(he:e=x∨H e=some (.own x))(k:∀ b u,b≠e→h.get? b=some u→h'.get? b=some u)(heo:∃ u,h'.get? e=some u):Un fs ex H (upd H x o) h h':=by
 have hx:∀ b,H b=none→b≠x:=fun b n z=>by subst z;rw[n] at mu;exact mu
 have hb:∀ b,H b=none→b≠e:=fun b n z=>by
  subst z
  rcases he with r | r
  ·exact hx b n r
  ·rw[n] at r;cases r
 have hm:∀ b u,H b=some u→¬ Mut (some u)→b≠x:=fun b u q nm z=>by subst z;rw[q] at mu;exact nm mu
 refine⟨fun b u q n _ _=>k b u (hb b n) q,fun b u q n _ _=>⟨u.slots,k b u (hb b n) q⟩,fun b u q n _=>by rw[upd_ne (hx b n)];exact n,fun b u q _=>?_,
  fun b xs q=>by rw[upd_ne (hm b _ q fun z=>z)];exact q,fun b u xs q=>by rw[upd_ne (hm b _ q fun z=>z)];exact q,fun b ps q=>⟨#[],by rw[upd_ne (hm b _ q fun z=>z),q];simp⟩⟩
 by_cases hbe:b=e
 ·subst hbe;exact heo
 ·exact⟨u,k b u hbe q⟩
end
def trk(h:Heap)(H:Hp):List Addr:=(List.range h.objs.size).filter fun a=>(H a).isSome
def hidT(h:Heap)(H:Hp):Heap:=PySem.W.hideAll h (trk h H)
theorem hidT_size(h:Heap)(H:Hp):(hidT h H).objs.size=h.objs.size:=PySem.W.hideAll_size _ _
theorem hidT_get{h:Heap}{H:Hp}{b:Addr}{o:Obj}(e:h.get? b=some o)(n:H b=none):(hidT h H).get? b=some o :=
 PySem.W.hideAll_get _ e fun hm=>by
  have q:(H b).isSome=true:=(List.mem_filter.mp hm).2
  rw[n] at q;simp at q
theorem of_hidT{h:Heap}{H:Hp}{b:Addr}{o:Obj}(e:(hidT h H).get? b=some o):h.get? b=some o∧H b=none:=by
 have e':h.get? b=some o:=PySem.W.of_hideAll (trk h H) e
 refine⟨e',?_⟩
 cases q:H b with
 | none=>rfl
 | some x =>
  have hm:b∈trk h H:=List.mem_filter.mpr ⟨List.mem_range.mpr (Heap.lt_size e'),by simp[q]⟩
  have z:(hidT h H).get? b=none:=PySem.W.hideAll_none (trk h H) hm
  rw[z] at e;cases e
def allNews(g h:Heap)(L:Addr):List (Addr×Obj):=(List.range h.objs.size).filterMap fun a=>if a=L∨(g.get? a).isSome=true then none else (h.get? a).map fun o=>(a,o)
def rest(g h:Heap)(L d:Addr):List (Addr×Obj):=(allNews g h L).filter fun p=>decide (p.1≠d)
end L2
namespace L2
open PySem PySem.Spec PyProof.Rows
structure Mod(K:PySem.W.Frag)(mg:Str→Option Value)(base:Heap):Prop where
 kin:K.In base
 glob:base.Ns mainGlobals mg
 blt:∃ mb,base.Ns builtinsNs mb∧∀ x:Str,x ≠ "__name__" → mb x=bootBuiltins x
 nolimit:base.NoLimit
structure Cx where
 prog:Program
 w:World
 K:PySem.W.Frag
 mg:Str→Option Value
 base:Heap
 A:Around
 N:List Str
 s₀:Shared
 H₀:Hp
 env:Env
 outer:List Env
 stack:List Env
 ex:List Addr
 fn:Str→Bool
 calm:Bool
 pn:List (Addr×Obj)
 xe:Value→Shared→Prop
def frs(l:List Env):List Addr:=l.filterMap (·.frame)
abbrev Cx.fs(X:Cx):List Addr:=frs X.outer
def Vis(sc:Scope)(x:Str):Prop:=sc.names.lookup x=some .local∨sc.names.lookup x=some .cell∨sc.names.lookup x=some .free
def Loc(sc:Scope)(x:Str):Prop:=sc.names.lookup x=some .local∨sc.names.lookup x=some .cell
def Look(env:Env)(h:Heap)(m:Str→Option Value)(x:Str)(u:Value):Prop :=
 (env.kindOf x=some .local∧m x=some u)∨((env.kindOf x=some .cell∨env.kindOf x=some .free)∧∃ c,env.cells.lookup x=some c∧h.IsCell c (some u))
structure Cx.Ok(X:Cx):Prop where
 mod:Mod X.K X.mg X.base
 kind:X.env.scope.kind=.function
 glob:X.env.globals=mainGlobals
 blt:X.env.builtins=builtinsNs
 above:X.s₀.heap.objs.size≤X.env.locals
 inj:∀ x y c,X.env.cells.lookup x=some c→X.env.cells.lookup y=some c→x=y
 has:∀ x,(X.env.kindOf x=some .cell∨X.env.kindOf x=some .free)→∃ c,X.env.cells.lookup x=some c
 cab:∀ x c,X.fn x=true→X.env.cells.lookup x=some c→X.s₀.heap.objs.size≤c
 hd:X.calm=true→X.A.handled=none
 frames:X.A.frames=some X.stack
 stk:X.stack=X.outer∨(X.stack=X.env::X.outer∧X.env.frame=some X.env.locals)
 exf:∀ b∈X.ex,b≠X.env.locals∧∀ x c,X.env.cells.lookup x=some c→c≠b
 bs:∀ b o,X.base.get? b=some o→X.s₀.heap.get? b=some o∧X.H₀ b=none
 bsz:X.base.objs.size≤X.s₀.heap.objs.size
 noex:∀ b o,X.base.get? b=some o→b∉X.ex
 exfs:∀ b∈X.ex,b∉X.fs
 funs:X.s₀.heap.FunFrames X.base X.outer
 frf:∀ b∈X.fs,X.H₀ b=none
structure Inv(X:Cx)(pins:List (Addr×Obj))(σ:List (Option V))(H:Hp)(s:Shared):Prop where
 ok:X.Ok
 os:s.os=X.s₀.os
 bare:AllBare s.gens
 base:Un X.fs X.ex X.H₀ H X.s₀.heap s.heap
 loc:∃ m,s.heap.Ns X.env.locals m∧∀(i:Nat)(x:Str)(v:V),X.N[i]?=some x→σ[i]?=some (some v)→Vis X.env.scope x→∃ u,RelV v u∧Look X.env s.heap m x u
 cell:∀ x c,X.env.cells.lookup x=some c→∃ v,s.heap.IsCell c v
 free:H X.env.locals=none
 freeC:∀ x c,X.env.cells.lookup x=some c→H c=none
 pin:∀ p∈X.pn++pins,s.heap.get? p.1=some p.2∧H p.1=none∧p.1≠X.env.locals∧p.1∉X.fs∧∀ v,p.2.data≠.cell v
 hok:HOk X.prog X.w H s.heap
 len:σ.length=X.N.length
section
variable {X:Cx}{pins:List (Addr×Obj)}{σ:List (Option V)}{H H':Hp}{s:Shared}{h':Heap}
theorem Cx.Ok.nofr(ok:X.Ok){b:Addr}{o:Obj}(e:X.base.get? b=some o):b∉X.fs:=fun hb=>by
 have:=(ok.funs.mem hb).1
 rw[e] at this;cases this
theorem Inv.bs(I:Inv X pins σ H s):∀ b o,X.base.get? b=some o→s.heap.get? b=some o∧H b=none:=fun b o e =>
 ⟨I.base.keep b o (I.ok.bs b o e).1 (I.ok.bs b o e).2 (I.ok.nofr e) (I.ok.noex b o e),I.base.free b o (I.ok.bs b o e).1 (I.ok.bs b o e).2 (I.ok.noex b o e)⟩
theorem Inv.bk(I:Inv X pins σ H s):∀ b o,X.base.get? b=some o→s.heap.get? b=some o:=fun b o e=>(I.bs b o e).1
theorem Inv.mod(I:Inv X pins σ H s):Mod X.K X.mg X.base:=I.ok.mod
theorem Inv.kIn(I:Inv X pins σ H s):X.K.In s.heap:=I.ok.mod.kin.keeps I.bk
theorem Inv.lt(I:Inv X pins σ H s):X.env.locals < s.heap.objs.size:=let ⟨_,hn,_⟩:=I.loc;hn.lt
theorem Inv.sz(I:Inv X pins σ H s):X.s₀.heap.objs.size≤s.heap.objs.size:=Nat.le_trans I.ok.above (Nat.le_of_lt I.lt)
theorem Inv.nofs(I:Inv X pins σ H s){a:Addr}(h:s.heap.objs.size≤a):a∉X.fs:=fun hb=>by
 obtain⟨_,o,ho,_⟩:=I.ok.funs.mem hb
 exact absurd (Nat.lt_of_lt_of_le (Heap.lt_size ho) (Nat.le_trans I.sz h)) (Nat.lt_irrefl _)
theorem Inv.cne(I:Inv X pins σ H s):∀ x c,X.env.cells.lookup x=some c→c≠X.env.locals:=fun x c e z=>by
 obtain⟨v,o,ho,hd⟩:=I.cell x c e
 obtain⟨m,⟨o',es,ep,ho',hd',_⟩,_⟩:=I.loc
 rw[z,ho'] at ho;cases ho;rw[hd'] at hd;cases hd
theorem Inv.funs(I:Inv X pins σ H s):s.heap.FunFrames X.base X.outer:=by
 have all:∀(l:List Env),(∀ b∈frs l,b∈X.fs)→X.s₀.heap.FunFrames X.base l→s.heap.FunFrames X.base l:=by
  intro l
  induction l with
  | nil=>intro _ _;trivial
  | cons env r ih =>
   intro hs hl
   obtain⟨hk,⟨L,o,hf,hn,ho,hd⟩,hr⟩:=hl
   have hL:L∈X.fs:=hs L (by unfold frs;rw[List.filterMap_cons,hf];exact List.mem_cons_self)
   obtain⟨sl,e⟩:=I.base.slot L o ho (I.ok.frf L hL) hL fun z=>I.ok.exfs L z hL
   exact⟨hk,⟨L,_,hf,hn,e,hd⟩,ih (fun b hb=>hs b (by unfold frs;rw[List.filterMap_cons,hf];exact List.mem_cons_of_mem _ hb)) hr⟩
 exact all X.outer (fun _ hb=>hb) I.ok.funs
theorem Inv.stack(I:Inv X pins σ H s):s.heap.FunFrames X.base X.stack:=by
 rcases I.ok.stk with e | ⟨e,hf⟩
 ·rw[e];exact I.funs
 ·rw[e]
  obtain⟨m,hn,_⟩:=I.loc
  refine .cons (by rw[I.ok.kind];decide) hf hn ?_ I.funs
  exact Heap.get?_none_of_le (Nat.le_trans I.ok.bsz I.ok.above)
theorem Inv.stkSub(I:Inv X pins σ H s):∀ b∈frs X.stack,b∈X.env.locals::X.fs:=fun b hb=>by
 rcases I.ok.stk with e | ⟨e,hf⟩
 ·rw[e] at hb;exact List.mem_cons_of_mem _ hb
 ·rw[e] at hb
  unfold frs at hb
  rw[List.filterMap_cons,hf] at hb
  exact hb
theorem Inv.stkFree(I:Inv X pins σ H s):∀ b∈frs X.stack,H b=none:=fun b hb=>by
 rcases List.mem_cons.mp (I.stkSub b hb) with e | hb
 ·rw[e];exact I.free
 ·obtain⟨_,o,ho,_⟩:=I.ok.funs.mem hb
  exact I.base.free b o ho (I.ok.frf b hb) fun z=>I.ok.exfs b z hb
theorem Inv.step{g':Array GenState}{t':Nat}{d':Drawn}{ch:List Addr}(I:Inv X pins σ H s)
  (hch:∀ b∈ch,(b∈X.ex∨X.s₀.heap.objs.size≤b)∧b≠X.env.locals∧(∀ x c,X.env.cells.lookup x=some c→c≠b)∧∀ p∈X.pn++pins,p.1≠b)
  (keep:∀ b o,b≠X.env.locals→b∉X.fs→b∉ch→s.heap.get? b=some o→H b=none→h'.get? b=some o)
  (slot:∀ b o,b≠X.env.locals→b∈X.fs→b∉ch→s.heap.get? b=some o→H b=none→∃ sl,h'.get? b=some { o with slots:=sl }) (free:∀ b o,b∉ch→s.heap.get? b=some o→H b=none→H' b=none)
  (there:∀ b o,b∉ch→s.heap.get? b=some o→∃ o',h'.get? b=some o')
  (tups:∀ b xs,H b=some (.tup xs)→H' b=some (.tup xs)) (frzs:∀ b o u,H b=some (.frz o u)→H' b=some (.frz o u)) (tbls:∀ b ps,H b=some (.tbl ps)→∃ more,H' b=some (.tbl (ps++more)))
  (ns:∀ m,s.heap.Ns X.env.locals m→h'.Ns X.env.locals m) (hok:HOk X.prog X.w H' h') (hg:AllBare g') :
  Inv X pins σ H' { s with heap:=h',gens:=g',drawn:=d',toks:=t' }:=by
 have neL:∀ b o,X.s₀.heap.get? b=some o→b≠X.env.locals:=fun b o e=>Nat.ne_of_lt (Nat.lt_of_lt_of_le (Heap.lt_size e) I.ok.above)
 have neC:∀ b o,X.s₀.heap.get? b=some o→b∉X.ex→b∉ch:=fun b o e hx hb=>by
  rcases (hch b hb).1 with z | z
  ·exact hx z
  ·exact absurd (Nat.lt_of_lt_of_le (Heap.lt_size e) z) (Nat.lt_irrefl _)
 have cellK:∀ x c,X.env.cells.lookup x=some c→∀ v,s.heap.IsCell c v→h'.IsCell c v:=fun x c e v ⟨o,ho,hd⟩=>by
  have nch:c∉ch:=fun z=>(hch c z).2.2.1 x c e rfl
  by_cases hc:c∈X.fs
  ·obtain⟨sl,q⟩:=slot c o (I.cne x c e) hc nch ho (I.freeC x c e)
   exact⟨_,q,hd⟩
  ·exact⟨o,keep c o (I.cne x c e) hc nch ho (I.freeC x c e),hd⟩
 refine⟨I.ok,I.os,hg,⟨fun b o e n hb hx=>?_,fun b o e n hb hx=>?_,fun b o e n hx=>?_,fun b o e hx=>?_,fun b xs e=>tups b xs (I.base.tups b xs e),fun b o xs e=>frzs b o xs (I.base.frzs b o xs e),fun b ps e=>?_⟩,?_,fun x c e=>?_,?_,fun x c e=>?_,fun p hp=>?_,hok,I.len⟩
 ·exact keep b o (neL b o e) hb (neC b o e hx) (I.base.keep b o e n hb hx) (I.base.free b o e n hx)
 ·obtain⟨sl,e1⟩:=I.base.slot b o e n hb hx
  obtain⟨sl',e2⟩:=slot b _ (neL b o e) hb (neC b o e hx) e1 (I.base.free b o e n hx)
  exact⟨sl',e2⟩
 ·obtain⟨o',e1⟩:=I.base.there b o e hx
  exact free b o' (neC b o e hx) e1 (I.base.free b o e n hx)
 ·obtain⟨o',e1⟩:=I.base.there b o e hx
  exact there b o' (neC b o e hx) e1
 ·obtain⟨m1,e1⟩:=I.base.tbls b ps e
  obtain⟨m2,e2⟩:=tbls b _ e1
  exact⟨m1++m2,by rw[e2,Array.append_assoc]⟩
 ·obtain⟨m,hn,hl⟩:=I.loc
  refine⟨m,ns m hn,fun i x v e1 e2 e3=>?_⟩
  obtain⟨u,r,l⟩:=hl i x v e1 e2 e3
  refine⟨u,r,?_⟩
  rcases l with l | ⟨k,c,e,z⟩
  ·exact .inl l
  ·exact .inr ⟨k,c,e,cellK x c e _ z⟩
 ·obtain⟨v,z⟩:=I.cell x c e
  exact⟨v,cellK x c e v z⟩
 ·obtain⟨m,⟨o,_,_,ho,_⟩,_⟩:=I.loc
  exact free _ o (fun z=>(hch _ z).2.1 rfl) ho I.free
 ·obtain⟨v,o,ho,hd⟩:=I.cell x c e
  exact free c o (fun z=>(hch c z).2.2.1 x c e rfl) ho (I.freeC x c e)
 ·obtain⟨e,n,ne,nf,d⟩:=I.pin p hp
  have nch:p.1∉ch:=fun z=>(hch p.1 z).2.2.2 p hp rfl
  exact⟨keep p.1 p.2 ne nf nch e n,free p.1 p.2 nch e n,ne,nf,d⟩
theorem Inv.un{t':Nat}(I:Inv X pins σ H s)(u:Un X.fs [] H H' s.heap h')(hok:HOk X.prog X.w H' h'):Inv X pins σ H' { s with heap:=h',toks:=t' }:=by
 obtain⟨m,⟨o,es,ep,ho,r⟩,_⟩:=id I.loc
 obtain⟨sl,hL⟩:=u.any ho I.free (by simp)
 exact I.step (g':=s.gens) (d':=s.drawn) (ch:=[]) (fun _ z=>nomatch z) (fun b o _ hb _ e n=>u.keep b o e n hb (by simp)) (fun b o _ hb _ e n=>u.slot b o e n hb (by simp)) (fun b o _ e n=>u.free b o e n (by simp)) (fun b o _ e=>u.there b o e (by simp)) u.tups u.frzs u.tbls (fun m' hm=>by
  obtain⟨o',es',ep',ho',r'⟩:=hm
  rw[ho] at ho';cases ho'
  exact⟨_,es',ep',hL,r'⟩) hok I.bare
theorem Inv.call{g':Array GenState}{t':Nat}{d':Drawn}{ch:List Addr}(I:Inv X pins σ H s)(u:Un (frs X.stack) ch H H' s.heap h')(hok:HOk X.prog X.w H' h')(hg:AllBare g')
  (hch:∀ b∈ch,(b∈X.ex∨X.s₀.heap.objs.size≤b)∧b≠X.env.locals∧(∀ x c,X.env.cells.lookup x=some c→c≠b)∧∀ p∈X.pn++pins,p.1≠b) :
  Inv X pins σ H' { s with heap:=h',gens:=g',drawn:=d',toks:=t' }:=by
 obtain⟨m,⟨o,es,ep,ho,r⟩,_⟩:=id I.loc
 obtain⟨sl,hL⟩:=u.any ho I.free fun z=>(hch _ z).2.1 rfl
 exact I.step (ch:=ch) hch (fun b o hL hb hc e n=>u.keep b o e n (fun z=>(List.mem_cons.mp (I.stkSub b z)).elim hL hb) hc) (fun b o _ _ hc e n=>u.any e n hc) (fun b o hc e n=>u.free b o e n hc) (fun b o hc e=>u.there b o e hc) u.tups u.frzs u.tbls (fun m' hm=>by
  obtain⟨o',es',ep',ho',r'⟩:=hm
  rw[ho] at ho';cases ho'
  exact⟨_,es',ep',hL,r'⟩) hok hg
theorem Inv.turned{t':Nat}{it:Addr}(I:Inv X pins σ H s)(k:∀ b o,b≠it→s.heap.get? b=some o→h'.get? b=some o)(hn:H it=none)(hL:it≠X.env.locals)
  (h1:it∈X.ex∨X.s₀.heap.objs.size≤it) (h2:∀ x c,X.env.cells.lookup x=some c→c≠it) (h3:∀ p∈X.pn++pins,p.1≠it):Inv X pins σ H { s with heap:=h',toks:=t' }:=by
 have nit:∀ b u,H b=some u→b≠it:=fun b u e z=>by rw[z,hn] at e;cases e
 refine I.step (g':=s.gens) (d':=s.drawn) (ch:=[it]) (fun b hb=>?_) (fun b o _ _ hc e _=>k b o (fun z=>hc (by simp[z])) e) (fun b o _ _ hc e _=>⟨o.slots,k b o (fun z=>hc (by simp[z])) e⟩) (fun _ _ _ _ n=>n)
  (fun b o hc e=>⟨o,k b o (fun z=>hc (by simp[z])) e⟩) (fun _ _ e=>e) (fun _ _ _ e=>e) (fun b ps e=>⟨#[],by rw[e];simp⟩) (fun m hm=>?_) (fun b u e=>?_) I.bare
 ·have e:b=it:=by simpa using hb
  subst e
  exact⟨h1,hL,h2,h3⟩
 ·obtain⟨o,es,ep,ho,r⟩:=hm
  exact⟨o,es,ep,k _ o (Ne.symm hL) ho,r⟩
 ·refine (I.hok b u e).stay (fun c v hc q=>k c v ?_ q) (fun _ q=>q) fun _ _ q=>q
  rcases hc with z | z
  ·rw[z];exact nit b u e
  ·exact nit c _ z
theorem Inv.tok(I:Inv X pins σ H s)(t:Nat):Inv X pins σ H { s with toks:=t }:=I.un (h':=s.heap) (t':=t) Un.refl I.hok
theorem Inv.kept{t':Nat}(I:Inv X pins σ H s)(k:∀ b u,s.heap.get? b=some u→h'.get? b=some u):Inv X pins σ H { s with heap:=h',toks:=t' }:=I.un (Un.kept k) (I.hok.kept k)
theorem Inv.laid{a:Addr}{o:HO}{t':Nat}(I:Inv X pins σ H s)(k:∀ b u,s.heap.get? b=some u→h'.get? b=some u)(hp:s.heap.objs.size≤a)(new:ObjOk X.prog X.w (upd H a o) h' a o) :
  Inv X pins σ (upd H a o) { s with heap:=h',toks:=t' }:=I.un (Un.laid k hp (I.hok.fresh hp)) (I.hok.laid k hp new)
theorem Inv.write{x e:Addr}{o:HO}{t':Nat}(I:Inv X pins σ H s)(mu:Mut (H x))(he:e=x∨H e=some (.own x))(k:∀ b u,b≠e→s.heap.get? b=some u→h'.get? b=some u)(heo:∃ u,h'.get? e=some u)
  (new:ObjOk X.prog X.w (upd H x o) h' x o):Inv X pins σ (upd H x o) { s with heap:=h',toks:=t' }:=I.un (Un.write mu he k heo) (I.hok.write mu he k heo new)
theorem Inv.weak{σ':List (Option V)}(I:Inv X pins σ H s)(hl:σ'.length=σ.length)(w:∀(i:Nat) v,σ'[i]?=some (some v)→σ[i]?=some (some v)):Inv X pins σ' H s :=
 ⟨I.ok,I.os,I.bare,I.base,let ⟨m,hn,hl'⟩:=I.loc;⟨m,hn,fun i x v e1 e2 e3=>hl' i x v e1 (w i v e2) e3⟩,I.cell,I.free,I.freeC,I.pin,I.hok,hl.trans I.len⟩
theorem Inv.pins_of{pins':List (Addr×Obj)}(I:Inv X pins σ H s)(h:∀ p∈pins',s.heap.get? p.1=some p.2∧H p.1=none∧p.1≠X.env.locals∧p.1∉X.fs∧∀ v,p.2.data≠.cell v):Inv X pins' σ H s :=
 ⟨I.ok,I.os,I.bare,I.base,I.loc,I.cell,I.free,I.freeC,fun p hp=>(List.mem_append.mp hp).elim (fun z=>I.pin p (List.mem_append_left _ z)) (h p),I.hok,I.len⟩
theorem nodup_ix{N:List Str}(hN:N.Nodup){i j:Nat}{x:Str}(a:N[i]?=some x)(b:N[j]?=some x):i=j:=by
 obtain⟨h1,e1⟩:=List.getElem?_eq_some_iff.mp a
 obtain⟨h2,e2⟩:=List.getElem?_eq_some_iff.mp b
 exact (List.getElem_inj hN).mp (e1.trans e2.symm)
theorem store_ok2{M:Model}{A:Around}{E:Value→Shared→Prop}{i:Nat}{x:Str}{v:V}{u:Value}{Q:Unit→Shared→Prop}(I:Inv X pins σ H s)(hN:X.N.Nodup)(hi:X.N[i]?=some x)(hx:Loc X.env.scope x)(r:RelV v u)
  (h:∀ s',Inv X pins (σ.set i (some v)) H s'→(∃ a,Heap.SameBut a s.heap s'.heap∧(a=X.env.locals∨X.env.cells.lookup x=some a))→Q () s') (hf:X.fn x=true∨X.env.scope.names.lookup x=some .local:=by first | exact .inl rfl | exact .inr rfl | assumption):wpAny M A (storeName X.env x u) Q E s:=by
 obtain⟨m,hn,hl⟩:=id I.loc
 have hcls:(X.env.scope.kind == .class || (X.env.scope.kind == .module && X.env.locals != X.env.globals))=false:=by rw[I.ok.kind];rfl
 have hiσ:i < σ.length:=by rw[I.len];exact (List.getElem?_eq_some_iff.mp hi).1
 have cne:=I.cne
 have tracked:∀{a:Addr}{h':Heap},(∃ o,s.heap.get? a=some o∧H a=none)→Heap.SameBut a s.heap h'→HOk X.prog X.w H h':=fun {a h'} ha hs b ob e=>by
  obtain⟨_,_,hfree⟩:=ha
  refine (I.hok b ob e).stay (fun c w' hc q=>(hs.2 c ?_).trans q) (fun _ q=>q) fun _ _ q=>q
  rintro rfl
  rcases hc with rfl | hc
  ·rw[hfree] at e;cases e
  ·rw[hfree] at hc;cases hc
 rcases hx with hk | hk
 ·refine wpAny_storeName_local hk hn (fun h' hn' hs=>?_) hcls
  obtain⟨oL,_,_,hoL,_⟩:=id hn
  refine h _ ⟨I.ok,I.os,I.bare,⟨fun b o e n hb hx=>?_,fun b o e n hb hx=>?_,I.base.free,fun b o e hx=>?_,I.base.tups,I.base.frzs,I.base.tbls⟩,⟨_,hn',fun j y v' e1 e2 e3=>?_⟩,fun y c e=>?_,I.free,I.freeC,fun p hp=>?_,tracked ⟨oL,hoL,I.free⟩ hs,by simpa using I.len⟩ ⟨_,hs,.inl rfl⟩
  ·exact (hs.2 b (Nat.ne_of_lt (Nat.lt_of_lt_of_le (Heap.lt_size e) I.ok.above))).trans (I.base.keep b o e n hb hx)
  ·obtain⟨sl,e1⟩:=I.base.slot b o e n hb hx
   exact⟨sl,(hs.2 b (Nat.ne_of_lt (Nat.lt_of_lt_of_le (Heap.lt_size e) I.ok.above))).trans e1⟩
  ·obtain⟨o',e1⟩:=I.base.there b o e hx
   exact⟨o',(hs.2 b (Nat.ne_of_lt (Nat.lt_of_lt_of_le (Heap.lt_size e) I.ok.above))).trans e1⟩
  ·by_cases hj:j=i
   ·subst hj
    rw[hi] at e1;cases e1
    rw[List.getElem?_set_self hiσ] at e2
    cases e2
    exact⟨u,r,.inl ⟨hk,by simp⟩⟩
   ·rw[List.getElem?_set_ne (Ne.symm hj)] at e2
    obtain⟨u',r',q⟩:=hl j y v' e1 e2 e3
    refine⟨u',r',?_⟩
    rcases q with ⟨k,e⟩ | ⟨k,c,e,z⟩
    ·refine .inl ⟨k,?_⟩
     have:y≠x:=fun e=>hj (nodup_ix hN e1 (e▸hi))
     simp[this,e]
    ·exact .inr ⟨k,c,e,z.sameBut hs (cne y c e)⟩
  ·obtain⟨w',z⟩:=I.cell y c e
   exact⟨w',z.sameBut hs (cne y c e)⟩
  ·obtain⟨e,n,ne,nf,d⟩:=I.pin p hp
   exact⟨(hs.2 p.1 ne).trans e,n,ne,nf,d⟩
 ·have hfn:X.fn x=true:=by
   rcases hf with z | z
   ·exact z
   ·rw[z] at hk;cases hk
  obtain⟨c,hc⟩:=I.ok.has x (.inl hk)
  obtain⟨w',z⟩:=I.cell x c hc
  refine wpAny_storeName_cell I.ok.kind hk hc z (fun h' hc' hs=>?_)
  obtain⟨oc,hoc,hocd⟩:=id z
  refine h { s with heap:=h' } ⟨I.ok,I.os,I.bare,⟨fun b o e n hb hx=>?_,fun b o e n hb hx=>?_,I.base.free,fun b o e hx=>?_,I.base.tups,I.base.frzs,I.base.tbls⟩,⟨m,hn.sameBut hs (Ne.symm (cne x c hc)),fun j y v' e1 e2 e3=>?_⟩,fun y c' e=>?_,I.free,I.freeC,fun p hp=>?_,tracked ⟨oc,hoc,I.freeC x c hc⟩ hs,by simpa using I.len⟩ ⟨c,hs,.inr hc⟩
  ·exact (hs.2 b (Nat.ne_of_lt (Nat.lt_of_lt_of_le (Heap.lt_size e) (I.ok.cab x c hfn hc)))).trans (I.base.keep b o e n hb hx)
  ·obtain⟨sl,e1⟩:=I.base.slot b o e n hb hx
   exact⟨sl,(hs.2 b (Nat.ne_of_lt (Nat.lt_of_lt_of_le (Heap.lt_size e) (I.ok.cab x c hfn hc)))).trans e1⟩
  ·obtain⟨o',e1⟩:=I.base.there b o e hx
   exact⟨o',(hs.2 b (Nat.ne_of_lt (Nat.lt_of_lt_of_le (Heap.lt_size e) (I.ok.cab x c hfn hc)))).trans e1⟩
  ·by_cases hj:j=i
   ·subst hj
    rw[hi] at e1;cases e1
    rw[List.getElem?_set_self hiσ] at e2
    cases e2
    exact⟨u,r,.inr ⟨.inl hk,c,hc,hc'⟩⟩
   ·rw[List.getElem?_set_ne (Ne.symm hj)] at e2
    obtain⟨u',r',q⟩:=hl j y v' e1 e2 e3
    refine⟨u',r',?_⟩
    rcases q with q | ⟨k,c',e,z'⟩
    ·exact .inl q
    ·refine .inr ⟨k,c',e,z'.sameBut hs ?_⟩
     rintro rfl
     exact hj (nodup_ix hN e1 (I.ok.inj _ _ _ e hc▸hi))
  ·by_cases hcc:c'=c
   ·subst hcc;exact⟨_,hc'⟩
   ·obtain⟨w2,z2⟩:=I.cell y c' e
    exact⟨w2,z2.sameBut hs hcc⟩
  ·obtain⟨e,n,ne,nf,d⟩:=I.pin p hp
   refine⟨(hs.2 p.1 ?_).trans e,n,ne,nf,d⟩
   intro q
   rw[q,hoc] at e
   have q':oc=p.2:=Option.some.inj e
   exact d w' (by rw[← q'];exact hocd)
theorem store_ok{M:Model}{A:Around}{E:Value→Shared→Prop}{i:Nat}{x:Str}{v:V}{u:Value}{Q:Unit→Shared→Prop}(I:Inv X pins σ H s)(hN:X.N.Nodup)(hi:X.N[i]?=some x)(hx:Loc X.env.scope x)(r:RelV v u)
  (h:∀ s',Inv X pins (σ.set i (some v)) H s'→Q () s') (hf:X.fn x=true∨X.env.scope.names.lookup x=some .local:=by first | exact .inl rfl | exact .inr rfl | assumption):wpAny M A (storeName X.env x u) Q E s :=
 store_ok2 I hN hi hx r (fun s' I' _=>h s' I') hf
theorem Inv.call'{s':Shared}{ch:List Addr}(I:Inv X pins σ H s)(ho:s'.os=s.os)(u:Un (frs X.stack) ch H H' s.heap s'.heap)(hok:HOk X.prog X.w H' s'.heap)(hg:AllBare s'.gens)
  (hch:∀ b∈ch,(b∈X.ex∨X.s₀.heap.objs.size≤b)∧b≠X.env.locals∧(∀ x c,X.env.cells.lookup x=some c→c≠b)∧∀ p∈X.pn++pins,p.1≠b):Inv X pins σ H' s':=by
 obtain⟨h',g',d',t',o'⟩:=s'
 have e:o'=s.os:=ho
 subst e
 exact I.call (g':=g') (t':=t') (d':=d') u hok hg hch
end
abbrev XK:=Value→Option Addr→Hp→Prop
abbrev St:=List (Option V)
abbrev VK:=V→Hp→Prop
abbrev TE:=St→Hp→VK→Prop
abbrev TT:=St→Hp→(Bool→Hp→Prop)→Prop
abbrev TA:=St→Hp→(List V→Hp→Prop)→Prop
structure Ends where
 nx:St→Hp→Prop
 rt:VK
 bk:St→Hp→Prop:=fun _ _=>False
 ct:St→Hp→Prop:=fun _ _=>False
abbrev TS:=Ends→St→Hp→Prop
def EP(X:Cx)(pins:List (Addr×Obj))(σ:St)(Q:VK)(u:Value)(s':Shared):Prop:=∃ v H',Inv X pins σ H' s'∧RelV v u∧Q v H'
def TP(X:Cx)(pins:List (Addr×Obj))(σ:St)(Q:Bool→Hp→Prop)(b:Bool)(s':Shared):Prop:=∃ H',Inv X pins σ H' s'∧Q b H'
def AP(X:Cx)(pins:List (Addr×Obj))(σ:St)(Q:List V→Hp→Prop)(us:List Value)(s':Shared):Prop:=∃ vs H',Inv X pins σ H' s'∧Vals vs us∧Q vs H'
def SP(X:Cx)(pins:List (Addr×Obj))(D:Ends)(f:Flow)(s':Shared):Prop :=
 match f with
 | .next=>∃ σ' H',Inv X pins σ' H' s'∧D.nx σ' H'
 | .brk=>∃ σ' H',Inv X pins σ' H' s'∧D.bk σ' H'
 | .cont=>∃ σ' H',Inv X pins σ' H' s'∧D.ct σ' H'
 | .ret u=>∃ v σ' H',Inv X pins σ' H' s'∧RelV v u∧D.rt v H'
def PE(X:Cx)(e:Expr)(t:TE):Prop :=
 ∀ (pins:List (Addr×Obj)) (s:Shared) (σ:St) (H:Hp) (Q:VK),Inv X pins σ H s→t σ H Q→wpAny (model X.prog X.w) X.A (eval e X.env) (EP X pins σ Q) X.xe s
def PT(X:Cx)(e:Expr)(t:TT):Prop :=
 ∀ (pins:List (Addr×Obj)) (s:Shared) (σ:St) (H:Hp) (Q:Bool→Hp→Prop),Inv X pins σ H s→t σ H Q→wpAny (model X.prog X.w) X.A (isTrue e X.env (eval e X.env)) (TP X pins σ Q) X.xe s
def PW(X:Cx)(e:Expr)(t:TT):Prop :=
 ∀(whole:Sem Value) (pins:List (Addr×Obj)) (s:Shared) (σ:St) (H:Hp) (Q:Bool→Hp→Prop),Inv X pins σ H s→t σ H Q→wpAny (model X.prog X.w) X.A (isTrue e X.env whole) (TP X pins σ Q) X.xe s
theorem PW.pt{X:Cx}{e:Expr}{t:TT}(h:PW X e t):PT X e t:=h _
def PA(X:Cx)(es:List Expr)(t:TA):Prop :=
 ∀(pos:Pos) (pins:List (Addr×Obj)) (s:Shared) (σ:St) (H:Hp) (Q:List V→Hp→Prop),Inv X pins σ H s→t σ H Q→wpAny (model X.prog X.w) X.A (spliced (backTo pos (starEach es X.env))) (AP X pins σ Q) X.xe s
def PS(X:Cx)(st:Stmt)(t:TS):Prop :=
 ∀ (pins:List (Addr×Obj)) (s:Shared) (σ:St) (H:Hp) (D:Ends),Inv X pins σ H s→t D σ H→wpAny (model X.prog X.w) X.A (exec st X.env) (SP X pins D) X.xe s
def PSs(X:Cx)(st:List Stmt)(t:TS):Prop :=
 ∀ (pins:List (Addr×Obj)) (s:Shared) (σ:St) (H:Hp) (D:Ends),Inv X pins σ H s→t D σ H→wpAny (model X.prog X.w) X.A (execs st X.env) (SP X pins D) X.xe s
theorem thn{α:Type}{t:Sem α}{Q Q':α→Shared→Prop}{M:Model}{A:Around}{E:Value→Shared→Prop}{s:Shared}(h:wpAny M A t Q E s)(hQ:∀ a s,Q a s→Q' a s):wpAny M A t Q' E s:=wpAny_mono h hQ fun _ _ x=>x
end L2
namespace L2
open PySem PySem.Spec PyProof.Rows
section
variable {X:Cx}
def tVar(i:Nat):TE:=fun σ H Q=>∃ v,σ[i]?=some (some v)∧Q v H
def tC(v:V):TE:=fun _ H Q=>Q v H
theorem pe_var{i:Nat}{x:Str}{pos:Pos}(hN:X.N[i]?=some x)(hv:Vis X.env.scope x)(hd:(x == ("__debug__" : Str))=false:=by decide)(hcd:(x == ("__classdict__" : Str))=false:=by decide):PE X (.Name x pos) (tVar i):=by
 intro pins s σ H Q I h
 obtain⟨v,e,h⟩:=h
 obtain⟨m,hn,hl⟩:=I.loc
 obtain⟨u,r,l⟩:=hl i x v hN e hv
 have fin:EP X pins σ Q u s:=⟨v,H,I,r,h⟩
 rcases l with ⟨hk,hm⟩ | ⟨hk,c,hc,hcell⟩
 ·exact wpAny_Name (wpAny_loadName_local I.ok.kind hk hn hm fin) hd
 ·rcases hk with hk | hk
  ·exact wpAny_Name (wpAny_loadName_cell I.ok.kind hk hc hcell fin) hd
  ·exact wpAny_Name (wpAny_loadName_free I.ok.kind hk hc hcell fin hcd) hd
theorem pe_int{i j pos}:PE X (.Constant (.int i) j pos) (tC (.int i)):=fun _ _ _ H _ I h=>wpAny_Constant_int ⟨.int i,H,I.tok _,⟨_,rfl⟩,h⟩
theorem pe_bl{b j pos}:PE X (.Constant (.bool b) j pos) (tC (.bl b)):=fun _ _ _ H _ I h=>Constant_bool ⟨.bl b,H,I,rfl,h⟩
theorem pe_str{x j pos}:PE X (.Constant (.str x) j pos) (tC (.str x)):=fun _ _ _ H _ I h=>Calls.Constant_str ⟨.str x,H,I.tok _,⟨_,rfl⟩,h⟩
def Gl(X:Cx)(x:Str):Prop:=X.env.kindOf x=some .globalImplicit
theorem ld_glob{E:Value→Shared→Prop}{pins:List (Addr×Obj)}{s:Shared}{σ:St}{H:Hp}{x:Str}{u:Value}{pos:Pos}{Q:Value→Shared→Prop}(I:Inv X pins σ H s)(hg:Gl X x)(hm:X.mg x=some u)(h:Q u s)
  (hd:(x == ("__debug__" : Str))=false:=by decide):wpAny (model X.prog X.w) X.A (eval (.Name x pos) X.env) Q E s :=
 Calls.Name_function_global I.ok.kind hg (Calls.loadGlobal_global (by rw[I.ok.glob];exact I.mod.glob.keeps I.bk) hm h) hd
theorem ld_blt{E:Value→Shared→Prop}{pins:List (Addr×Obj)}{s:Shared}{σ:St}{H:Hp}{x:Str}{u:Value}{pos:Pos}{Q:Value→Shared→Prop}(I:Inv X pins σ H s)(hg:Gl X x)(hm:X.mg x=none)(hv:bootBuiltins x=some u)(h:Q u s)
  (hn:x ≠ "__name__" := by decide) (hd:(x == ("__debug__" : Str))=false:=by decide):wpAny (model X.prog X.w) X.A (eval (.Name x pos) X.env) Q E s:=by
 obtain⟨mb,h1,h2⟩:=I.mod.blt
 exact Calls.Name_function_global I.ok.kind hg (Calls.loadGlobal_builtin (by rw[I.ok.glob];exact I.mod.glob.keeps I.bk) hm (by rw[I.ok.blt];exact h1.keeps I.bk) ((h2 x hn).trans hv) h) hd
theorem pe_bltn{x:Str}{v:V}{u:Value}{pos:Pos}(hg:Gl X x)(hm:X.mg x=none)(hv:bootBuiltins x=some u)(r:RelV v u)(hn:x ≠ "__name__" := by decide)(hd:(x == ("__debug__" : Str))=false:=by decide):PE X (.Name x pos) (tC v) :=
 fun _ _ _ H _ I h=>ld_blt I hg hm hv ⟨v,H,I,r,h⟩ hn hd
variable {a b:Expr}{ta tb:TE}{pos:Pos}
def tIsN(ta:TE):TE:=fun σ H Q=>ta σ H fun x H1=>Q (.bl (decide (x=.non))) H1
def tNotN(ta:TE):TE:=fun σ H Q=>ta σ H fun x H1=>Q (.bl (!decide (x=.non))) H1
def tB(t:TE):TT:=fun σ H Q=>t σ H fun x H1=>∃ c,x=.bl c∧Q c H1
theorem pt_val{e:Expr}{t:TE}(h:PE X e t)(he:∀ whole,isTrue e X.env whole=(do let v ← whole;standAt e.pos;holding [v] (truthy v)):=by intro _;rfl):PT X e (tB t):=by
 intro pins s σ H Q I hw
 refine isTrue_plain (thn (h pins s σ H _ I hw) fun v s1 ⟨x,H1,I1,r1,q1⟩=>?_) (he _)
 obtain⟨d,rfl,q⟩:=q1
 cases r1
 exact wpAny_truthy_bool ⟨H1,I1,q⟩
variable {tA tB':TT}{rest:List Expr}
def tAnd(t u:TT):TT:=fun σ H Q=>t σ H fun c H1=>if c=true then u σ H1 Q else Q false H1
def tOr(t u:TT):TT:=fun σ H Q=>t σ H fun c H1=>if c=true then Q true H1 else u σ H1 Q
def tNot(t:TT):TT:=fun σ H Q=>t σ H fun c H1=>Q (!c) H1
theorem pw_and1(ha:PT X a tA):PW X (.BoolOp .And [a] pos) tA:=by
 intro wh pins s σ H Q I h
 refine isTrue_and (thn (ha pins s σ H Q I h) fun c s1 e=>?_)
 cases c with
 | true=>exact isTrue_and_nil e
 | false=>exact e
theorem pw_or1(ha:PT X a tA):PW X (.BoolOp .Or [a] pos) tA:=by
 intro wh pins s σ H Q I h
 refine isTrue_or (thn (ha pins s σ H Q I h) fun c s1 e=>?_)
 cases c with
 | false=>exact isTrue_or_nil e
 | true=>exact e
theorem pw_and(ha:PT X a tA)(hb:PW X (.BoolOp .And (b::rest) pos) tB'):PW X (.BoolOp .And (a::b::rest) pos) (tAnd tA tB'):=by
 intro wh pins s σ H Q I h
 refine isTrue_and (thn (ha pins s σ H _ I h) fun c s1 ⟨H1,I1,q1⟩=>?_)
 cases c with
 | true=>exact hb wh pins s1 σ H1 Q I1 q1
 | false=>exact⟨H1,I1,q1⟩
theorem pw_or(ha:PT X a tA)(hb:PW X (.BoolOp .Or (b::rest) pos) tB'):PW X (.BoolOp .Or (a::b::rest) pos) (tOr tA tB'):=by
 intro wh pins s σ H Q I h
 refine isTrue_or (thn (ha pins s σ H _ I h) fun c s1 ⟨H1,I1,q1⟩=>?_)
 cases c with
 | true=>exact⟨H1,I1,q1⟩
 | false=>exact hb wh pins s1 σ H1 Q I1 q1
theorem pt_not(ha:PT X a tA):PT X (.UnaryOp .Not a pos) (tNot tA):=by
 intro pins s σ H Q I h
 exact isTrue_not (ha pins s σ H (fun c H1=>Q (!c) H1) I h)
def tAndV(ta tb:TE):TE:=fun σ H Q=>ta σ H fun x H1=>∃ c,x=.bl c∧if c=true then tb σ H1 Q else Q (.bl false) H1
def tOrV(ta tb:TE):TE:=fun σ H Q=>ta σ H fun x H1=>∃ c,x=.bl c∧if c=true then Q (.bl true) H1 else tb σ H1 Q
def tNotV(ta:TE):TE:=fun σ H Q=>ta σ H fun x H1=>∃ c,x=.bl c∧Q (.bl (!c)) H1
theorem pe_one{op}{t:TE}(h:PE X a t):PE X (.BoolOp op [a] pos) t:=fun pins s σ H Q I hw=>BoolOp_one (h pins s σ H Q I hw)
theorem pe_and(ha:PE X a ta)(hb:PE X (.BoolOp .And (b::rest) pos) tb):PE X (.BoolOp .And (a::b::rest) pos) (tAndV ta tb):=by
 intro pins s σ H Q I h
 refine BoolOp_and (thn (ha pins s σ H _ I h) fun v s1 ⟨x,H1,I1,r1,q1⟩=>?_)
 obtain⟨c,rfl,q1⟩:=q1
 cases r1
 refine wpAny_truthy_bool ?_
 cases c with
 | true=>exact hb pins s1 σ H1 Q I1 q1
 | false=>exact⟨.bl false,H1,I1,rfl,q1⟩
theorem pe_not(ha:PE X a ta):PE X (.UnaryOp .Not a pos) (tNotV ta):=by
 intro pins s σ H Q I h
 refine UnaryOp_ (thn (ha pins s σ H _ I h) fun v s1 ⟨x,H1,I1,r1,q1⟩=>?_)
 obtain⟨c,rfl,q1⟩:=q1
 cases r1
 exact not_of (wpAny_truthy_bool ⟨.bl (!c),H1,I1,rfl,q1⟩)
def tIf(t:TT)(ta tb:TE):TE:=fun σ H Q=>t σ H fun c H1=>if c=true then ta σ H1 Q else tb σ H1 Q
end
end L2
namespace L2
open PySem PySem.Spec PyProof.Rows
def SqL(K:PySem.W.Frag)(H:Hp)(a:Addr)(xs:List V):Prop :=
 Rd H a (.lst xs) ∨
  ∃(o:Obj)(its:Array Value)(n:Nat),K.lookup a=some o∧o.cls=.type "list" ∧ o.dict=none∧o.data=.seq its n∧its.size≤sizeLine∧Vals xs its.toList
def SqT(K:PySem.W.Frag)(H:Hp)(a:Addr)(xs:List V):Prop :=
 Rd H a (.tup xs) ∨
  ∃(o:Obj)(its:Array Value)(n:Nat),K.lookup a=some o∧o.cls=.type "tuple" ∧ o.data=.seq its n∧its.size≤sizeLine∧Vals xs its.toList
def absV:Value→Option V
 | .none=>some .non
 | .bool b=>some (.bl b)
 | .int i _=>some (.int i)
 | .str x _=>some (.str x)
 | .bytes b _=>some (.byt b)
 | .float b _=>some (.flt b)
 | .ref a=>some (.ref a)
 | .type n=>some (.ty n)
 | _=>none
theorem RelV.abs{x:V}{u:Value}(r:RelV x u):absV u=some x:=by
 cases x with
 | non=>cases r;rfl
 | bl _=>cases r;rfl
 | int _=>obtain⟨t,rfl⟩:=r;rfl
 | str _=>obtain⟨t,rfl⟩:=r;rfl
 | byt _=>obtain⟨t,rfl⟩:=r;rfl
 | flt _=>obtain⟨t,rfl⟩:=r;rfl
 | ref _=>cases r;rfl
 | ty _=>cases r;rfl
theorem RelV.inj{x y:V}{u:Value}(r:RelV x u)(q:RelV y u):x=y:=Option.some.inj (r.abs.symm.trans q.abs)
theorem Vals.inj:∀{xs ys:List V}{us:List Value},Vals xs us→Vals ys us→xs=ys
 | _,_,_,.nil,.nil=>rfl
 | _,_,_,.cons r t,.cons r' t'=>by rw[r.inj r',Vals.inj t t']
section
variable {X:Cx}{pins:List (Addr×Obj)}{σ:St}{H:Hp}{s:Shared}{a:Addr}{xs ys:List V}
theorem SqL.of{K:PySem.W.Frag}(h:H a=some (.lst xs)):SqL K H a xs:=.inl (.inl h)
theorem SqT.of{K:PySem.W.Frag}(h:H a=some (.tup xs)):SqT K H a xs:=.inl (.inl h)
theorem Inv.list(I:Inv X pins σ H s)(h:SqL X.K H a xs):∃ its:List Value,Vals xs its∧PlainL s.heap a its.toArray∧xs.length≤sizeLine:=by
 rcases h with h | ⟨o,its,n,hk,hc,hd,hs,hz,r⟩
 ·obtain⟨z,its,n,r,e⟩:=h.ok I.hok
  exact⟨its,r,⟨_,n,e,rfl,rfl,rfl⟩,z⟩
 ·refine⟨its.toList,r,⟨o,n,I.kIn a o hk,hc,hd,by simpa using hs⟩,?_⟩
  have e:=r.length
  simp only[Array.length_toList] at e
  omega
theorem Inv.tuple(I:Inv X pins σ H s)(h:SqT X.K H a xs):∃ its:List Value,Vals xs its∧IsTup s.heap a its.toArray∧xs.length≤sizeLine:=by
 rcases h with h | ⟨o,its,n,hk,hc,hs,hz,r⟩
 ·obtain⟨z,its,r,p⟩:=h.ok I.hok
  exact⟨its,r,p,z⟩
 ·refine⟨its.toList,r,⟨o,I.kIn a o hk,hc,n,by simpa using hs⟩,?_⟩
  have e:=r.length
  simp only[Array.length_toList] at e
  omega
theorem Inv.list_inj(I:Inv X pins σ H s)(h:SqL X.K H a xs)(h':SqL X.K H a ys):xs=ys:=by
 obtain⟨its,r,⟨o,n,e,_,_,d⟩,_⟩:=I.list h
 obtain⟨its',r',⟨o',n',e',_,_,d'⟩,_⟩:=I.list h'
 rw[e] at e';cases e'
 rw[d] at d'
 injection d' with d1 _
 have:its=its':=by simpa using congrArg Array.toList d1
 subst this
 exact r.inj r'
theorem Inv.tuple_inj(I:Inv X pins σ H s)(h:SqT X.K H a xs)(h':SqT X.K H a ys):xs=ys:=by
 obtain⟨its,r,⟨o,e,_,n,d⟩,_⟩:=I.tuple h
 obtain⟨its',r',⟨o',e',_,n',d'⟩,_⟩:=I.tuple h'
 rw[e] at e';cases e'
 rw[d] at d'
 injection d' with d1 _
 have:its=its':=by simpa using congrArg Array.toList d1
 subst this
 exact r.inj r'
end
abbrev Cx.wish(X:Cx)(E:Value→Shared→Prop):Cx:={ X with xe:=E }
abbrev Cx.nox(X:Cx):Cx:=X.wish fun _ _=>False
theorem Cx.Ok.wish{X:Cx}(ok:X.Ok)(E:Value→Shared→Prop):(X.wish E).Ok :=
 ⟨ok.mod,ok.kind,ok.glob,ok.blt,ok.above,ok.inj,ok.has,ok.cab,ok.hd,ok.frames,ok.stk,ok.exf,ok.bs,ok.bsz,ok.noex,ok.exfs,ok.funs,ok.frf⟩
theorem Cx.Ok.unwish{X:Cx}{E:Value→Shared→Prop}(ok:(X.wish E).Ok):X.Ok :=
 ⟨ok.mod,ok.kind,ok.glob,ok.blt,ok.above,ok.inj,ok.has,ok.cab,ok.hd,ok.frames,ok.stk,ok.exf,ok.bs,ok.bsz,ok.noex,ok.exfs,ok.funs,ok.frf⟩
section
variable {X:Cx}{pins:List (Addr×Obj)}{σ:St}{H:Hp}{s:Shared}{E:Value→Shared→Prop}
theorem Inv.wish(I:Inv X pins σ H s)(E:Value→Shared→Prop):Inv (X.wish E) pins σ H s:=⟨I.ok.wish E,I.os,I.bare,I.base,I.loc,I.cell,I.free,I.freeC,I.pin,I.hok,I.len⟩
theorem Inv.unwish(I:Inv (X.wish E) pins σ H s):Inv X pins σ H s:=⟨I.ok.unwish,I.os,I.bare,I.base,I.loc,I.cell,I.free,I.freeC,I.pin,I.hok,I.len⟩
theorem SP.unwish{D:Ends}{f:Flow}{s':Shared}(h:SP (X.wish E) pins D f s'):SP X pins D f s':=by
 cases f with
 | next=>obtain⟨σ',H',I,q⟩:=h;exact⟨σ',H',I.unwish,q⟩
 | brk=>obtain⟨σ',H',I,q⟩:=h;exact⟨σ',H',I.unwish,q⟩
 | cont=>obtain⟨σ',H',I,q⟩:=h;exact⟨σ',H',I.unwish,q⟩
 | ret u=>obtain⟨v,σ',H',I,r,q⟩:=h;exact⟨v,σ',H',I.unwish,r,q⟩
theorem PSs.nox{st:List Stmt}{t:TS}(h:PSs X.nox st t):PSs X st t:=fun pins s σ H D I hw =>
 wpAny_mono (h pins s σ H D (I.wish _) hw) (fun _ _ q=>q.unwish) fun _ _ z=>False.elim z
end
section
variable {X:Cx}{st:Stmt}{rest:List Stmt}{t u:TS}{e:Expr}{te:TE}{pos:Pos}
def tNext:TS:=fun D σ H=>D.nx σ H
def tSeq(t u:TS):TS:=fun D σ H=>t { D with nx:=u D } σ H
theorem pss_nil:PSs X [] tNext:=fun _ _ σ H _ I h=>wpAny_execs_nil ⟨σ,H,I,h⟩
theorem pss_cons(h1:PS X st t)(h2:PSs X rest u):PSs X (st::rest) (tSeq t u):=by
 intro pins s σ H D I h
 refine wpAny_execs_cons (thn (h1 pins s σ H { D with nx:=u D } I h) fun f s1 q=>?_)
 cases f with
 | next =>
  obtain⟨σ',H',I',q⟩:=q
  exact h2 pins s1 σ' H' D I' q
 | ret v=>exact q
 | brk=>exact q
 | cont=>exact q
theorem pss_one(h1:PS X st t):PSs X [st] t:=by
 intro pins s σ H D I h
 refine wpAny_execs_cons (thn (h1 pins s σ H D I h) fun f s1 q=>?_)
 cases f with
 | next=>exact wpAny_execs_nil q
 | ret v=>exact q
 | brk=>exact q
 | cont=>exact q
theorem Inv.quiet{pins:List (Addr×Obj)}{σ:St}{H:Hp}{s:Shared}(I:Inv X pins σ H s):interactive X.env=false:=by simp[interactive,I.ok.kind]
def tDrop(te:TE):TS:=fun D σ H=>te σ H fun _ H1=>D.nx σ H1
theorem ps_expr(he:PE X e te)(hs:swapsWith e none pos.line X.env=pure false:=by rfl):PS X (.Expr e pos) (tDrop te):=by
 intro pins s σ H D I h
 exact wpAny_Expr_any (thn (he pins s σ H _ I h) fun v s1 ⟨x,H1,I1,r1,q1⟩=>⟨σ,H1,I1,q1⟩) I.quiet hs
def tRet(te:TE):TS:=fun D σ H=>te σ H D.rt
theorem ps_ret(he:PE X e te):PS X (.Return (some e) pos) (tRet te):=by
 intro pins s σ H D I h
 exact wpAny_Return_some (thn (he pins s σ H _ I h) fun v s1 ⟨x,H1,I1,r1,q1⟩=>⟨x,σ,H1,I1,r1,q1⟩)
def tRetN:TS:=fun D _ H=>D.rt .non H
def tIfS(c:TT)(t u:TS):TS:=fun D σ H=>c σ H fun b H1=>if b=true then t D σ H1 else u D σ H1
theorem ps_if{c:Expr}{a b:List Stmt}{tc:TT}(hc:PT X c tc)(ha:PSs X a t)(hb:PSs X b u):PS X (.If c a b pos) (tIfS tc t u):=by
 intro pins s σ H D I h
 refine wpAny_If (thn (hc pins s σ H _ I h) fun d s1 ⟨H1,I1,q1⟩=>?_)
 cases d with
 | true=>exact ha pins s1 σ H1 D I1 q1
 | false=>exact hb pins s1 σ H1 D I1 q1
end
abbrev TG:=V→St→Hp→(St→Hp→Prop)→Prop
abbrev TGs:=List V→St→Hp→(St→Hp→Prop)→Prop
def PG(X:Cx)(target:Expr)(t:TG):Prop :=
 ∀ (pins:List (Addr×Obj)) (s:Shared) (σ:St) (H:Hp) (v:V) (u:Value) (Q:St→Hp→Prop),Inv X pins σ H s→RelV v u→t v σ H Q →
  wpAny (model X.prog X.w) X.A (assign target X.env u) (fun _ s'=>∃ σ' H',Inv X pins σ' H' s'∧Q σ' H') X.xe s
def PGs(X:Cx)(ts:List Expr)(t:TGs):Prop :=
 ∀ (pins:List (Addr×Obj)) (s:Shared) (σ:St) (H:Hp) (vs:List V) (us:List Value) (Q:St→Hp→Prop),Inv X pins σ H s→Vals vs us→t vs σ H Q →
  wpAny (model X.prog X.w) X.A (assignInOrder ((assignEach ts X.env).map (·.2)) us) (fun _ s'=>∃ σ' H',Inv X pins σ' H' s'∧Q σ' H') X.xe s
abbrev TSet:=V→V→V→Hp→(Hp→Prop)→Prop
def PSet(X:Cx)(t:TSet):Prop :=
 ∀ (pins:List (Addr×Obj)) (s:Shared) (σ:St) (H:Hp) (o i v:V) (ov iv u:Value) (Q:Hp→Prop),Inv X pins σ H s→RelV o ov→RelV i iv→RelV v u→t o i v H Q →
  wpAny (model X.prog X.w) X.A (setItem ov iv u) (fun _ s'=>∃ H',Inv X pins σ H' s'∧Q H') X.xe s
abbrev TIp:=V→V→Hp→VK→Prop
def PIp(X:Cx)(op:Operator)(t:TIp):Prop :=
 ∀ (pins:List (Addr×Obj)) (s:Shared) (σ:St) (H:Hp) (x y:V) (v u:Value) (Q:VK),Inv X pins σ H s→RelV x v→RelV y u→t x y H Q →
  wpAny (model X.prog X.w) X.A (inplaceOp op v u) (EP X pins σ Q) X.xe s
section
variable {X:Cx}{pos:Pos}
def gName(i:Nat):TG:=fun v σ H Q=>Q (σ.set i (some v)) H
theorem pg_name{i:Nat}{x:Str}(hN:X.N.Nodup)(hi:X.N[i]?=some x)(hx:Loc X.env.scope x)(hf:X.fn x=true∨X.env.scope.names.lookup x=some .local:=by first | exact .inl rfl | exact .inr rfl | assumption):PG X (.Name x pos) (gName i):=by
 intro pins s σ H v u Q I r h
 exact wpAny_assign_Name (store_ok I hN hi hx r (fun s' I'=>⟨_,H,I',h⟩) hf)
def gNil:TGs:=fun vs σ H Q=>vs=[]∧Q σ H
def gCons(t:TG)(u:TGs):TGs:=fun vs σ H Q=>∃ v r,vs=v::r∧t v σ H fun σ' H'=>u r σ' H' Q
theorem pgs_nil:PGs X [] gNil:=by
 intro pins s σ H vs us Q I r h
 obtain⟨e,h⟩:=h
 subst e
 cases r
 exact assignInOrder_nil ⟨σ,H,I,h⟩
theorem pgs_cons{e:Expr}{es:List Expr}{t:TG}{u:TGs}(h1:PG X e t)(h2:PGs X es u)
  (hs:(assignEach (e::es) X.env).map (·.2)=assign e X.env::(assignEach es X.env).map (·.2):=by rfl):PGs X (e::es) (gCons t u):=by
 intro pins s σ H vs us Q I r h
 obtain⟨v,vr,e1,h⟩:=h
 subst e1
 cases r with
 | cons r rr =>
  rw[hs]
  refine assignInOrder_cons (thn (h1 pins s σ H _ _ _ I r h) fun _ s1 ⟨σ1,H1,I1,q1⟩=>?_)
  exact h2 pins s1 σ1 H1 _ _ Q I1 rr q1
def gTup(K:PySem.W.Frag)(n:Nat)(t:TGs):TG:=fun v σ H Q=>∃ a xs,v=.ref a∧SqT K H a xs∧xs.length=n∧t xs σ H Q
theorem pg_tup{es:List Expr}{k:Nat}{t:TGs}{n:Nat}(hc:X.calm=true)(h:PGs X es t)
  (hn:(assignEach es X.env).length=n:=by rfl) (hst:(assignEach es X.env).findIdx? (·.1)=none:=by rfl):PG X (.Tuple es k pos) (gTup X.K n t):=by
 intro pins s σ H v u Q I r hw
 obtain⟨a,xs,e1,hq,hl,hw⟩:=hw
 subst e1
 cases r
 obtain⟨its,rv,ht,hz⟩:=I.tuple hq
 refine assign_Tuple_tuple (I.ok.hd hc) ht (by simp[hn,← hl,rv.length]) hst fun h' hx=>?_
 have I1:Inv X pins σ H { s with heap:=h' }:=I.kept (t':=s.toks) fun b o e=>hx b o (Nat.ne_of_lt (Heap.lt_size e)) e
 exact h pins _ σ H xs _ Q I1 (by simpa using rv) hw
def gSub(to ti:TE)(t:TSet):TG:=fun v σ H Q=>to σ H fun o H1=>ti σ H1 fun i H2=>t o i v H2 fun H3=>Q σ H3
theorem pg_sub{o i:Expr}{to ti:TE}{t:TSet}(ho:PE X o to)(hi:PE X i ti)(hs:PSet X t)
  (ha:∀ v,assign (.Subscript o i pos) X.env v=(do
   let ov ← holding [v] (eval o X.env)
   let iv ← holding [v,ov] (eval i X.env)
   standAt pos
   holding [v,ov,iv] (setItem ov iv v)
   release [v,ov,iv] []):=by intro _;rfl):PG X (.Subscript o i pos) (gSub to ti t):=by
 intro pins s σ H v u Q I r h
 rw[ha]
 refine wpAny_bind (wpAny_holding (thn (ho pins s σ H _ I h) fun ov s1 ⟨x,H1,I1,r1,q1⟩=>?_))
 refine wpAny_bind (wpAny_holding (thn (hi pins s1 σ H1 _ I1 q1) fun iv s2 ⟨y,H2,I2,r2,q2⟩=>?_))
 refine wpAny_bind (wpAny_standAt (wpAny_bind (wpAny_holding (thn (hs pins s2 σ H2 x y v ov iv u _ I2 r1 r2 r q2) fun _ s3 ⟨H3,I3,q3⟩=>?_))))
 exact wpAny_release ⟨σ,H3,I3,q3⟩
def tAsg(te:TE)(g:TG):TS:=fun D σ H=>te σ H fun x H1=>g x σ H1 D.nx
theorem ps_asg{tg e:Expr}{te:TE}{g:TG}(he:PE X e te)(hg:PG X tg g)(hs:swapsWithSole [tg] e pos.line X.env=pure false:=by rfl)(hw:swappedStores [tg] e X.env=pure none:=by rfl)
  (h1:(assignEach [tg] X.env).map (·.2)=[assign tg X.env]:=by rfl):PS X (.Assign [tg] e pos) (tAsg te g):=by
 intro pins s σ H D I h
 refine wpAny_Assign_stores (thn (he pins s σ H _ I h) fun v s1 ⟨x,H1,I1,r1,q1⟩=>?_) hs hw
 rw[h1]
 exact thn (hg pins s1 σ H1 x v _ I1 r1 q1) fun _ s2 q=>q
theorem ps_set{i:Nat}{x:Str}{e:Expr}{te:TE}{pos':Pos}(hN:X.N.Nodup)(hi:X.N[i]?=some x)(hx:Loc X.env.scope x)(he:PE X e te)(hs:swapsWith e (some (.Name x pos')) pos.line X.env=pure false:=by rfl)(hf:X.fn x=true∨X.env.scope.names.lookup x=some .local:=by first | exact .inl rfl | exact .inr rfl | assumption) :
  PS X (.Assign [.Name x pos'] e pos) (tAsg te (gName i)):=by
 intro pins s σ H D I h
 refine wpAny_Assign_Name (thn (he pins s σ H _ I h) fun v s1 ⟨y,H1,I1,r1,q1⟩=>?_) hs
 exact store_ok I1 hN hi hx r1 (fun s2 I2=>⟨_,H1,I2,q1⟩) hf
def tPar(i j:Nat)(ta:TA):TS:=fun D σ H=>ta σ H fun vs H1=>∃ v w,vs=[v,w]∧D.nx ((σ.set i (some v)).set j (some w)) H1
theorem ps_par{i j:Nat}{x y:Str}{a b:Expr}{ta:TA}{px py pt:Pos}{kt k2 pt2}(hc:X.calm=true)(hN:X.N.Nodup)(hi:X.N[i]?=some x)(hj:X.N[j]?=some y)(hij:i≠j)
  (hx:X.env.scope.names.lookup x=some .local) (hy:X.env.scope.names.lookup y=some .local) (ha:PA X [a,b] ta)
  (hw:swappedStores [.Tuple [.Name x px,.Name y py] kt pt] (.Tuple [a,b] k2 pt2) X.env=pure (some [x,y]))
  (hs:swapsWithSole [.Tuple [.Name x px,.Name y py] kt pt] (.Tuple [a,b] k2 pt2) pos.line X.env=pure false:=by rfl) :
  PS X (.Assign [.Tuple [.Name x px,.Name y py] kt pt] (.Tuple [a,b] k2 pt2) pos) (tPar i j ta):=by
 intro pins s σ H D I h
 rw[exec_Assign_arm]
 refine wpAny_bind (wpAny_standAt ?_)
 rw[hs]
 refine wpAny_bind (wpAny_pure ?_)
 rw[if_neg (by decide)]
 refine wpAny_bind (Tuple_ (thn (ha _ pins s σ H _ I h) fun us s1 ⟨vs,H1,I1,r1,q1⟩=>?_))
 obtain⟨v,w,e1,q1⟩:=q1
 subst e1
 obtain⟨u1,u2,rfl,rv,rw'⟩:∃ u1 u2,us=[u1,u2]∧RelV v u1∧RelV w u2:=by
  cases r1 with
  | cons p q =>
   cases q with
   | cons p' q' =>
    cases q'
    exact⟨_,_,rfl,p,p'⟩
 refine wpAny_newObj_type ?_ (by show 2≤sizeLine;decide)
 have I2:Inv X pins σ H1 { s1 with heap:=s1.heap.push { cls:=.type "tuple", data:=.seq [u1,u2].toArray } }:=I1.kept (t':=s1.toks) fun b o e=>Heap.get?_push_of_some _ e
 rw[hw]
 refine wpAny_bind (wpAny_pure ?_)
 show wpAny (model X.prog X.w) X.A (do rule "assign.swapped-stores"; let items ← unpackItems (.ref s1.heap.objs.size) 2 none;assignInOrder [fun v=>bindName X.env y v,fun v=>bindName X.env x v] items.reverse;pure Flow.next) _ _ _
 refine wpAny_bind (wpAny_rule (wpAny_bind (unpackItems_tuple (items:=#[u1,u2]) (I.ok.hd hc) (IsTup.new s1.heap _) fun h' hx'=>?_)))
 have I3:=I2.kept (h':=h') (t':=s1.toks) fun b o e=>hx' b o (Nat.ne_of_lt (Heap.lt_size e)) e
 show wpAny _ _ (assignInOrder [fun v=>bindName X.env y v,fun v=>bindName X.env x v] [u2,u1] >>= fun _=>pure Flow.next) _ _ _
 refine wpAny_bind (assignInOrder_cons (wpAny_bindName (store_ok I3 hN hj (.inl hy) rw' (fun s2 I4=>?_) (.inr hy))))
 refine assignInOrder_cons (wpAny_bindName (store_ok I4 hN hi (.inl hx) rv (fun s3 I5=>assignInOrder_nil (wpAny_pure ?_)) (.inr hx)))
 rw[List.set_comm _ _ (Ne.symm hij)] at I5
 exact⟨_,H1,I5,q1⟩
def tAugS(to ti te:TE)(tget:V→V→Hp→VK→Prop)(tip:TIp)(tset:TSet):TS:=fun D σ H=>to σ H fun o H1=>ti σ H1 fun i H2=>tget o i H2 fun x H3=>te σ H3 fun y H4=>tip x y H4 fun z H5=>tset o i z H5 fun H6=>D.nx σ H6
def PGet(X:Cx)(t:V→V→Hp→VK→Prop):Prop :=
 ∀ (pins:List (Addr×Obj)) (s:Shared) (σ:St) (H:Hp) (o i:V) (ov iv:Value) (Q:VK),Inv X pins σ H s→RelV o ov→RelV i iv→t o i H Q →
  wpAny (model X.prog X.w) X.A (getItem ov iv) (EP X pins σ Q) X.xe s
theorem ps_augS{o i e:Expr}{to ti te:TE}{tget:V→V→Hp→VK→Prop}{tip:TIp}{tset:TSet}{op:Operator}{tpos:Pos}(ho:PE X o to)(hi:PE X i ti)(hg:PGet X tget)(he:PE X e te)(hp:PIp X op tip)(hs:PSet X tset)
  (ha:∀ ov iv new,augStore i ov iv new=(do holding [new,ov,iv] (setItem ov iv new);release [new,ov,iv] [];pure .next):=by intros;rfl):PS X (.AugAssign (.Subscript o i tpos) op e pos) (tAugS to ti te tget tip tset):=by
 intro pins s σ H D I h
 refine wpAny_AugAssign_SubscriptAny (thn (ho pins s σ H _ I h) fun ov s1 ⟨x1,H1,I1,r1,q1⟩=>?_) ha
 refine thn (hi pins s1 σ H1 _ I1 q1) fun iv s2 ⟨x2,H2,I2,r2,q2⟩=>?_
 refine thn (hg pins s2 σ H2 x1 x2 ov iv _ I2 r1 r2 q2) fun old s3 ⟨x3,H3,I3,r3,q3⟩=>?_
 refine thn (he pins s3 σ H3 _ I3 q3) fun v s4 ⟨x4,H4,I4,r4,q4⟩=>?_
 refine thn (hp pins s4 σ H4 x3 x4 old v _ I4 r3 r4 q4) fun new s5 ⟨x5,H5,I5,r5,q5⟩=>?_
 exact thn (hs pins s5 σ H5 x1 x2 x5 ov iv new _ I5 r1 r2 r5 q5) fun _ s6 ⟨H6,I6,q6⟩=>⟨σ,H6,I6,q6⟩
def ipI(f:Int→Int→Int):TIp:=fun x y H Q=>∃ i j,x=.int i∧y=.int j∧Q (.int (f i j)) H
theorem ip_add:PIp X .Add (ipI fun i j=>i+j):=by
 intro pins s σ H x y v u Q I r1 r2 h
 obtain⟨i,j,e1,e2,q⟩:=h
 subst e1;subst e2
 obtain⟨t,rfl⟩:=r1
 obtain⟨t',rfl⟩:=r2
 exact iadd_int ⟨.int _,H,I.tok _,⟨_,rfl⟩,q⟩
end
section
variable {X:Cx}{pos:Pos}
def tWhile(c:TT)(tb:TS):TS:=fun D σ H=>∃ W:Nat→St→Hp→Prop,(∃ m,W m σ H)∧∀ m σ H,W m σ H →
 c σ H fun b H1=>if b=true then ∃ N:St→Hp→Prop,(∀ σ' H',N σ' H'→∃ m',m' < m∧W m' σ' H')∧tb { D with nx:=N,ct:=N,bk:=D.nx } σ H1 else D.nx σ H1
theorem ps_while{c:Expr}{body:List Stmt}{tc:TT}{tb:TS}(hp:PassesOwn (model X.prog X.w) X.A X.env X.xe)(hc:PT X c tc)(hb:PSs X body tb):PS X (.While c body [] pos) (tWhile tc tb):=by
 intro pins s σ H D I h
 obtain⟨W,⟨m0,w0⟩,turn⟩:=h
 refine wpAny_While (codeAny_whileLoop (fun n s'=>∃ σ' H',Inv X pins σ' H' s'∧W n σ' H') ?_ m0 ⟨σ,H,I,w0⟩)
 rintro n s1 ⟨σ1,H1,I1,w1⟩
 refine wpAny_passesOwn hp (thn (hc pins s1 σ1 H1 _ I1 (turn n σ1 H1 w1)) fun b s2 ⟨H2,I2,q2⟩=>?_)
 cases b with
 | true =>
  obtain⟨N,hN,q2⟩:=q2
  rw[if_pos rfl]
  refine wpAny_passesOwn hp (thn (hb pins s2 σ1 H2 _ I2 q2) fun f s3 q3=>?_)
  cases f with
  | next =>
   obtain⟨σ3,H3,I3,n3⟩:=q3
   obtain⟨m',hm,w3⟩:=hN σ3 H3 n3
   exact⟨m',hm,σ3,H3,I3,w3⟩
  | cont =>
   obtain⟨σ3,H3,I3,n3⟩:=q3
   obtain⟨m',hm,w3⟩:=hN σ3 H3 n3
   exact⟨m',hm,σ3,H3,I3,w3⟩
  | brk=>exact q3
  | ret v=>exact q3
 | false =>
  rw[if_neg Bool.false_ne_true]
  exact wpAny_execs_nil ⟨σ1,H2,I2,q2⟩
end
structure It where
 go:Nat→Hp→Prop
 yld:Nat→Hp→V→Hp→Prop
 stop:Nat→Hp→Prop
def FpOk(X:Cx)(pins:List (Addr×Obj))(H:Hp)(b:Addr):Prop :=
 H b=none∧b≠X.env.locals∧b∉X.fs∧(b∈X.ex∨X.s₀.heap.objs.size≤b)∧(∀ x c,X.env.cells.lookup x=some c→c≠b)∧∀ p∈X.pn++pins,p.1≠b
theorem Inv.fpOk{X:Cx}{pins:List (Addr×Obj)}{σ:St}{H H':Hp}{s:Shared}{b:Addr}(I:Inv X pins σ H s)(hb:s.heap.objs.size≤b)(hn:H' b=none):FpOk X pins H' b:=by
 refine⟨hn,Nat.ne_of_gt (Nat.lt_of_lt_of_le I.lt hb),I.nofs hb,.inr (Nat.le_trans I.sz hb),fun x c e z=>?_,fun p hp z=>?_⟩
 ·obtain⟨v,q⟩:=I.cell x c e
  exact absurd (Nat.lt_of_lt_of_le q.lt (by rw[z];exact hb)) (Nat.lt_irrefl _)
 ·exact absurd (Nat.lt_of_lt_of_le (Heap.lt_size (I.pin p hp).1) (by rw[z];exact hb)) (Nat.lt_irrefl _)
structure Turn(P:Program)(w:World)(K:PySem.W.Frag)(tg:Expr)(J:It)(fp:List Addr)(it:Addr)(tn:Nat→Heap→Prop):Prop where
 mem:it∈fp
 obj:∀ i h,tn i h→∀ b∈fp,∃ o,h.get? b=some o∧∀ v,o.data≠.cell v
 keep:∀ i h h',tn i h→(∀ b∈fp,∀ o,h.get? b=some o→h'.get? b=some o)→tn i h'
 item:∀(X:Cx),X.prog=P→X.w=w→X.K=K→X.calm=true→∀(i:Nat) (pins:List (Addr×Obj)) (s:Shared) (σ:St) (H:Hp) (E:Value→Shared→Prop),Inv X pins σ H s→(∀ b∈fp,FpOk X pins H b)→tn i s.heap→J.go i H →
  wpAny (model P w) X.A (pyNext (.ref it)) (fun r s1=>∃ u,r=some u ∧
   wpAny (model P w) X.A (letOwnedTupleGo tg (.ref it) u) (fun _ s2=>∃ x H',Inv X pins σ H' s2∧RelV x u∧J.yld i H x H'∧tn (i+1) s2.heap∧∀ b∈fp,H' b=none) E s1) E s
 done:∀(X:Cx),X.prog=P→X.w=w→X.K=K→X.calm=true→∀(i:Nat) (pins:List (Addr×Obj)) (s:Shared) (σ:St) (H:Hp) (E:Value→Shared→Prop),Inv X pins σ H s→(∀ b∈fp,FpOk X pins H b)→tn i s.heap→J.stop i H →
  wpAny (model P w) X.A (pyNext (.ref it)) (fun r s1=>r=none∧Inv X pins σ H s1) E s
 self:∀(A:Around)(i:Nat)(s:Shared)(Q:Value→Shared→Prop)(E:Value→Shared→Prop),tn i s.heap→Q (.ref it) s→wpAny (model P w) A (pyIter (.ref it)) Q E s
abbrev TI:=St→Hp→(It→Hp→Prop)→Prop
def PIE(X:Cx)(pins:List (Addr×Obj))(σ:St)(tg:Expr)(R:It→Hp→Prop)(itv:Value)(s2:Shared):Prop :=
 ∃(it:Addr)(fp:List Addr)(tn:Nat→Heap→Prop)(J:It)(H':Hp),itv=.ref it∧Inv X pins σ H' s2∧Turn X.prog X.w X.K tg J fp it tn∧tn 0 s2.heap∧(∀ b∈fp,FpOk X pins H' b)∧R J H'
def PI(X:Cx)(tg iter:Expr)(wi:TI):Prop :=
 ∀ (pins:List (Addr×Obj)) (s:Shared) (σ:St) (H:Hp) (R:It→Hp→Prop),Inv X pins σ H s→wi σ H R →
  wpAny (model X.prog X.w) X.A (eval iter X.env) (fun v s1=>wpAny (model X.prog X.w) X.A (pyIter v) (PIE X pins σ tg R) X.xe s1) X.xe s
theorem go_of{M:Model}{A:Around}{E:Value→Shared→Prop}{s:Shared}{tg:Expr}{it:Addr}{u:Value}{o:Obj}{n:String}{vs:Array Value}{Q:Unit→Shared→Prop}(ho:s.heap.get? it=some o)(hc:o.cls=.type n)(hd:o.data=.fields vs)
  (hn:["enumerate", "zip", "dict_itemiterator", "dict_reverseitemiterator", "odict_iterator", "itertools.zip_longest", "itertools.pairwise"].contains n=false) (hQ:Q () s):wpAny M A (letOwnedTupleGo tg (.ref it) u) Q E s:=by
 unfold letOwnedTupleGo
 cases tg<;>first
  | exact wpAny_pure hQ
  | (cases u<;>first
    | exact wpAny_pure hQ
    | (refine wpAny_bind (wpAny_load ho ?_)
       rw[hc,hd]
       show wpAny M A (if (["enumerate", "zip", "dict_itemiterator", "dict_reverseitemiterator", "odict_iterator", "itertools.zip_longest", "itertools.pairwise"].contains n && vs[0]? == some (rawInt _))=true then _ else _) Q E s
       rw[if_neg (by intro h;rw[hn,Bool.false_and] at h;cases h)]
       exact wpAny_pure hQ))
def Itl(K:PySem.W.Frag)(a:Addr):It :=
 ⟨fun i H=>∃ xs x,SqL K H a xs∧xs[i]?=some x,fun i H x H'=>H'=H∧∀ xs,SqL K H a xs→xs[i]?=some x,fun i H=>∃ xs,SqL K H a xs∧xs.length≤i⟩
def Itt(K:PySem.W.Frag)(a:Addr):It :=
 ⟨fun i H=>∃ xs x,SqT K H a xs∧xs[i]?=some x,fun i H x H'=>H'=H∧∀ xs,SqT K H a xs→xs[i]?=some x,fun i H=>∃ xs,SqT K H a xs∧xs.length≤i⟩
def Itr(lo:Int)(n:Nat):It:=⟨fun i _=>i < n,fun i H x H'=>H'=H∧x=.int (lo+i),fun i _=>n≤i⟩
theorem turn_list{P:Program}{w:World}{K:PySem.W.Frag}{tg:Expr}(a it:Addr):Turn P w K tg (Itl K a) [it] it (fun i h=>h.IsListIter it a i) where
 mem:=by simp
 obj:=fun i h st b hb=>by
  have e:b=it:=by simpa using hb
  subst e
  obtain⟨o,e,c,d⟩:=st
  exact⟨o,e,fun v z=>by rw[d] at z;cases z⟩
 keep:=fun i h h' st k=>st.at fun o e=>k it (by simp) o e
 item:=by
  intro X hP hw hK hc i pins s σ H E I hf st hg
  subst hP hw hK
  obtain⟨xs,x,hq,hx⟩:=hg
  obtain⟨its,rv,p,hz⟩:=I.list hq
  obtain⟨u,hu,ru⟩:=rv.get hx
  obtain⟨f0,f1,f2,f3,f4,f5⟩:=hf it (by simp)
  refine wpAny_pyNext_list_item st p.isList (x:=u) (by simpa using hu) fun h' st' sb=>?_
  have I1:Inv X pins σ H { s with heap:=h' }:=I.turned (t':=s.toks) (fun b o hb e=>(sb.2 b hb).trans e) f0 f1 f3 f4 f5
  obtain⟨o,e,c,d⟩:=id st'
  exact⟨u,rfl,go_of (s:={ s with heap:=h' }) e c d (by decide) ⟨x,H,I1,ru,⟨rfl,fun ys hy=>by rw[I.list_inj hy hq];exact hx⟩,st',fun b hb=>(hf b hb).1⟩⟩
 done:=by
  intro X hP hw hK hc i pins s σ H E I hf st hg
  subst hP hw hK
  obtain⟨xs,hq,hx⟩:=hg
  obtain⟨its,rv,p,hz⟩:=I.list hq
  obtain⟨f0,f1,f2,f3,f4,f5⟩:=hf it (by simp)
  have hl:=rv.length
  exact wpAny_pyNext_list_end (I.ok.hd hc) st p.isList (by simp;omega) fun h' eb=>⟨rfl,I.turned (t':=s.toks) (fun b o hb e=>eb b o hb e) f0 f1 f3 f4 f5⟩
 self:=fun _ _ _ _ _ st h=>wpAny_pyIter_listiter st h
theorem turn_tuple{P:Program}{w:World}{K:PySem.W.Frag}{tg:Expr}(a it:Addr):Turn P w K tg (Itt K a) [it] it (fun i h=>h.IsTupleIter it a i) where
 mem:=by simp
 obj:=fun i h st b hb=>by
  have e:b=it:=by simpa using hb
  subst e
  obtain⟨o,e,c,d⟩:=st
  exact⟨o,e,fun v z=>by rw[d] at z;cases z⟩
 keep:=fun i h h' st k=>st.at fun o e=>k it (by simp) o e
 item:=by
  intro X hP hw hK hc i pins s σ H E I hf st hg
  subst hP hw hK
  obtain⟨xs,x,hq,hx⟩:=hg
  obtain⟨its,rv,p,hz⟩:=I.tuple hq
  obtain⟨u,hu,ru⟩:=rv.get hx
  obtain⟨f0,f1,f2,f3,f4,f5⟩:=hf it (by simp)
  refine wpAny_pyNext_tuple_item st (show s.heap.IsTuple a its.toArray from p) (x:=u) (by simpa using hu) fun h' st' sb=>?_
  have I1:Inv X pins σ H { s with heap:=h' }:=I.turned (t':=s.toks) (fun b o hb e=>(sb.2 b hb).trans e) f0 f1 f3 f4 f5
  obtain⟨o,e,c,d⟩:=id st'
  exact⟨u,rfl,go_of (s:={ s with heap:=h' }) e c d (by decide) ⟨x,H,I1,ru,⟨rfl,fun ys hy=>by rw[I.tuple_inj hy hq];exact hx⟩,st',fun b hb=>(hf b hb).1⟩⟩
 done:=by
  intro X hP hw hK hc i pins s σ H E I hf st hg
  subst hP hw hK
  obtain⟨xs,hq,hx⟩:=hg
  obtain⟨its,rv,p,hz⟩:=I.tuple hq
  obtain⟨f0,f1,f2,f3,f4,f5⟩:=hf it (by simp)
  have hl:=rv.length
  exact wpAny_pyNext_tuple_end (I.ok.hd hc) st (show s.heap.IsTuple a its.toArray from p) (by simp;omega) fun h' eb=>⟨rfl,I.turned (t':=s.toks) (fun b o hb e=>eb b o hb e) f0 f1 f3 f4 f5⟩
 self:=fun _ _ _ _ _ st h=>wpAny_pyIter_tupleiter st h
theorem turn_range{P:Program}{w:World}{K:PySem.W.Frag}{tg:Expr}(it:Addr)(lo:Int)(n:Nat):Turn P w K tg (Itr lo n) [it] it (fun i h=>IsRangeIter h it (lo+(i:Nat)*1) ((n:Int) - (i:Nat)) 1) where
 mem:=by simp
 obj:=fun i h st b hb=>by
  have e:b=it:=by simpa using hb
  subst e
  exact⟨_,st,fun v z=>by
   have z':Data.fields _=Data.cell v:=z
   cases z'⟩
 keep:=fun i h h' st k=>k it (by simp) _ st
 item:=by
  intro X hP hw hK hc i pins s σ H E I hf st hg
  subst hP hw hK
  obtain⟨f0,f1,f2,f3,f4,f5⟩:=hf it (by simp)
  have W:=Walks.range (prog:=X.prog) (w:=X.w) (I.ok.hd hc) it lo 1 n
  refine W.item i s _ _ hg st fun v h' tk hv st' kk=>?_
  obtain⟨t,rfl⟩:=hv
  have I1:Inv X pins σ H { s with heap:=h',toks:=tk }:=I.turned (fun b o hb e=>kk b o (by simpa using hb) e) f0 f1 f3 f4 f5
  refine⟨_,rfl,go_of (s:={ s with heap:=h',toks:=tk }) (n := "range_iterator") st' rfl rfl (by decide) ⟨.int (lo+i),H,I1,⟨t,?_⟩,⟨rfl,rfl⟩,st',fun b hb=>(hf b hb).1⟩⟩
  rw[Int.mul_one]
 done:=by
  intro X hP hw hK hc i pins s σ H E I hf st hg
  subst hP hw hK
  obtain⟨f0,f1,f2,f3,f4,f5⟩:=hf it (by simp)
  exact wpAny_pyNext_range_end (I.ok.hd hc) st (by have:n≤i:=hg;omega) fun h' eb=>⟨rfl,I.turned (t':=s.toks) (fun b o hb e=>eb b o hb e) f0 f1 f3 f4 f5⟩
 self:=fun _ _ _ _ _ st h=>wpAny_pyIter_rangeiter st h
end L2
namespace L2
open PySem PySem.Spec PyProof.Rows
section
variable {X:Cx}{tg:Expr}
def iList(K:PySem.W.Frag)(tl:TE):TI:=fun σ H R=>tl σ H fun x H1=>∃ a,x=.ref a∧(∃ xs,SqL K H1 a xs)∧R (Itl K a) H1
def iTup(K:PySem.W.Frag)(tl:TE):TI:=fun σ H R=>tl σ H fun x H1=>∃ a,x=.ref a∧(∃ xs,SqT K H1 a xs)∧R (Itt K a) H1
theorem pi_list{l:Expr}{tl:TE}(hl:PE X l tl):PI X tg l (iList X.K tl):=by
 intro pins s σ H R I h
 refine thn (hl pins s σ H _ I h) fun v s1 ⟨x,H1,I1,r1,q1⟩=>?_
 obtain⟨a,e,⟨xs,hq⟩,q⟩:=q1
 subst e
 cases r1
 obtain⟨its,rv,p,hz⟩:=I1.list hq
 refine wpAny_pyIter_list p.isList ?_
 refine⟨s1.heap.objs.size,[s1.heap.objs.size],_,_,H1,rfl,I1.kept (t':=s1.toks) fun b o e=>Heap.get?_push_of_some _ e,turn_list a _,⟨_,Heap.get?_push_size _ rfl,rfl,rfl⟩,fun b hb=>?_,q⟩
 have e:b=s1.heap.objs.size:=by simpa using hb
 subst e
 exact I1.fpOk (Nat.le_refl _) (I1.hok.fresh (Nat.le_refl _))
theorem pi_tup{l:Expr}{tl:TE}(hl:PE X l tl):PI X tg l (iTup X.K tl):=by
 intro pins s σ H R I h
 refine thn (hl pins s σ H _ I h) fun v s1 ⟨x,H1,I1,r1,q1⟩=>?_
 obtain⟨a,e,⟨xs,hq⟩,q⟩:=q1
 subst e
 cases r1
 obtain⟨its,rv,p,hz⟩:=I1.tuple hq
 refine wpAny_pyIter_tuple (show s1.heap.IsTuple a its.toArray from p) ?_
 refine⟨s1.heap.objs.size,[s1.heap.objs.size],_,_,H1,rfl,I1.kept (t':=s1.toks) fun b o e=>Heap.get?_push_of_some _ e,turn_tuple a _,⟨_,Heap.get?_push_size _ rfl,rfl,rfl⟩,fun b hb=>?_,q⟩
 have e:b=s1.heap.objs.size:=by simpa using hb
 subst e
 exact I1.fpOk (Nat.le_refl _) (I1.hok.fresh (Nat.le_refl _))
theorem range_it{pins:List (Addr×Obj)}{σ:St}{H:Hp}{s:Shared}{R:It→Hp→Prop}{E:Value→Shared→Prop}{lo hi:Int}{t u v:Tok}{tk:Nat}(I:Inv X pins σ H s)(h1:-(2 ^ 62)≤lo)(h2:lo < 2 ^ 62)(h3:-(2 ^ 62)≤hi)(h4:hi < 2 ^ 62)
  (q:R (Itr lo (hi - lo).toNat) H):wpAny (model X.prog X.w) X.A (pyIter (.ref s.heap.objs.size)) (PIE X pins σ tg R) E { s with heap:=s.heap.push { cls:=.type "range", data:=.fields #[.int lo t,.int hi u,.int 1 v] },toks:=tk }:=by
 refine wpAny_pyIter_range (IsRange.new ..) (small_one h1 h2 h3 h4) ?_
 have I1:Inv X pins σ H { s with heap:=s.heap.push { cls:=.type "range", data:=.fields #[.int lo t,.int hi u,.int 1 v] },toks:=tk }:=I.kept fun b o e=>Heap.get?_push_of_some _ e
 refine⟨(s.heap.push { cls:=.type "range", data:=.fields #[.int lo t,.int hi u,.int 1 v] }).objs.size,[(s.heap.push { cls:=.type "range", data:=.fields #[.int lo t,.int hi u,.int 1 v] }).objs.size],_,_,H,rfl,
  I1.kept (t':=tk) fun b o e=>Heap.get?_push_of_some _ e,turn_range _ lo (hi - lo).toNat,?_,fun b hb=>?_,q⟩
 ·have e1:lo+((0:Nat):Int)*1=lo:=by simp
  have e2:(((hi - lo).toNat:Nat):Int) - ((0:Nat):Int)=Builtin.Range.rangeSize lo hi 1:=by rw[rangeSize_one];split<;>omega
  show IsRangeIter _ _ (lo+((0:Nat):Int)*1) ((((hi - lo).toNat:Nat):Int) - ((0:Nat):Int)) 1
  rw[e1,e2]
  exact Heap.get?_push_size _ rfl
 ·have e:b=(s.heap.push { cls:=.type "range", data:=.fields #[.int lo t,.int hi u,.int 1 v] }).objs.size:=by simpa using hb
  subst e
  exact I1.fpOk (Nat.le_refl _) (I1.hok.fresh (Nat.le_refl _))
def iRng1(ta:TA):TI:=fun σ H R=>ta σ H fun vs H1=>∃ j:Int,vs=[.int j]∧-(2 ^ 62)≤j∧j < 2 ^ 62∧R (Itr 0 j.toNat) H1
theorem pi_range1{a:Expr}{ta:TA}{p pos:Pos}(hg:Gl X "range")(hm:X.mg "range" = none)(ha:PA X [a] ta)(hs:starEach [a] X.env=[(false,eval a X.env)]:=by rfl):PI X tg (.Call (.Name "range" p) [a] [] pos) (iRng1 ta):=by
 intro pins s σ H R I h
 refine Call_ (ld_blt I hg hm boot_range (PyProof.Rows.callWith_type1 (thn (ha pos pins s σ H _ I h) fun us s1 ⟨vs,H1,I1,r1,q1⟩=>?_) hs rfl))
 obtain⟨j,e,q1,q2,q⟩:=q1
 subst e
 cases r1 with
 | cons r rr =>
  cases rr
  obtain⟨t,rfl⟩:=r
  exact call_range_1 (range_it I1 (by omega) (by omega) q1 q2 (by simpa using q))
def tFor(wi:TI)(g:TG)(tb:TS):TS:=fun D σ H=>wi σ H fun J H1=>∃ W:Nat→Nat→St→Hp→Prop,(∃ m,W 0 m σ H1)∧∀ i m σ H,W i m σ H →
 (J.stop i H∧D.nx σ H)∨(J.go i H∧∃ N:St→Hp→Prop,(∀ σ' H',N σ' H'→∃ m',m' < m∧W (i+1) m' σ' H')∧∀ x H',J.yld i H x H'→g x σ H' fun σ2 H2=>tb { D with nx:=N,ct:=N,bk:=D.nx } σ2 H2)
def pinsAt(fp:List Addr)(h:Heap):List (Addr×Obj):=fp.filterMap fun b=>(h.get? b).map fun o=>(b,o)
theorem mem_pinsAt{fp:List Addr}{h:Heap}{b:Addr}{o:Obj}(hb:b∈fp)(e:h.get? b=some o):(b,o)∈pinsAt fp h:=List.mem_filterMap.mpr ⟨b,hb,by rw[e];rfl⟩
theorem of_pinsAt{fp:List Addr}{h:Heap}{p:Addr×Obj}(hp:p∈pinsAt fp h):p.1∈fp∧h.get? p.1=some p.2:=by
 obtain⟨b,hb,e⟩:=List.mem_filterMap.mp hp
 cases q:h.get? b with
 | none=>rw[q] at e;cases e
 | some o =>
  rw[q] at e
  have e':(b,o)=p:=Option.some.inj e
  subst e'
  exact⟨hb,q⟩
theorem Inv.pinned{pins:List (Addr×Obj)}{σ:St}{H:Hp}{s:Shared}{fp:List Addr}(I:Inv X pins σ H s)(hf:∀ b∈fp,FpOk X pins H b)(ho:∀ b∈fp,∃ o,s.heap.get? b=some o∧∀ v,o.data≠.cell v):Inv X (pins++pinsAt fp s.heap) σ H s :=
 I.pins_of fun p hp=>(List.mem_append.mp hp).elim (fun z=>I.pin p (List.mem_append_right _ z)) fun z=>by
  obtain⟨hb,e⟩:=of_pinsAt z
  obtain⟨f0,f1,f2,_⟩:=hf p.1 hb
  obtain⟨o,e',d⟩:=ho p.1 hb
  rw[e] at e';cases e'
  exact⟨e,f0,f1,f2,d⟩
theorem Inv.unpinned{pins pl:List (Addr×Obj)}{σ:St}{H:Hp}{s:Shared}(I:Inv X (pins++pl) σ H s):Inv X pins σ H s:=I.pins_of fun p hp=>I.pin p (List.mem_append_right _ (List.mem_append_left _ hp))
theorem ps_for{iter:Expr}{body:List Stmt}{wi:TI}{g:TG}{tb:TS}{pos:Pos}(hp:PassesOwn (model X.prog X.w) X.A X.env X.xe)(hc:X.calm=true)(hi:PI X tg iter wi)(hg:PG X tg g)(hb:PSs X body tb)
  (hs:∀ x,foldedSetIterable iter X.env x=pure x:=by intro _;rfl):PS X (.For tg iter body [] pos) (tFor wi g tb):=by
 intro pins s σ H D I h
 refine wpAny_For (thn (hi pins s σ H _ I h) fun v s1 h1=>thn h1 fun itv s2 h2=>?_) hs
 obtain⟨it,fp,tn,J,H2,e,I2,T,st2,f2,W,⟨m0,w0⟩,turn⟩:=h2
 subst e
 have stat:∀{H':Hp},(∀ b∈fp,H' b=none)→∀ b∈fp,FpOk X pins H' b:=fun hn b hb=>⟨hn b hb,(f2 b hb).2⟩
 refine codeAny_forLoop_any (fun n s'=>∃ i σ' H',Inv X pins σ' H' s'∧tn i s'.heap∧(∀ b∈fp,H' b=none)∧W i n σ' H') ?_ m0 ⟨0,σ,H2,I2,st2,fun b hb=>(f2 b hb).1,w0⟩
 rintro n s3 ⟨i,σ3,H3,I3,st3,fr3,w3⟩
 rcases turn i n σ3 H3 w3 with ⟨stop,qn⟩ | ⟨go,N,hN,step⟩
 ·refine wpAny_passesOwn hp (thn (T.done X rfl rfl rfl hc i pins s3 σ3 H3 X.xe I3 (stat fr3) st3 stop) fun r s4 ⟨hr,I4⟩=>?_)
  subst hr
  exact wpAny_execs_nil ⟨σ3,H3,I4,qn⟩
 ·refine wpAny_passesOwn hp (thn (T.item X rfl rfl rfl hc i pins s3 σ3 H3 X.xe I3 (stat fr3) st3 go) fun r s4 ⟨u,hr,h4⟩=>?_)
  subst hr
  refine wpAny_passesOwn hp (thn h4 fun _ s5 ⟨x,H5,I5,r5,y5,st5,fr5⟩=>?_)
  have I5':=I5.pinned (stat fr5) (T.obj _ _ st5)
  refine wpAny_passesOwn hp (thn (hg _ s5 σ3 H5 x u _ I5' r5 (step x H5 y5)) fun _ s6 ⟨σ6,H6,I6,q6⟩=>?_)
  refine wpAny_passesOwn hp (thn (hb _ s6 σ6 H6 _ I6 q6) fun f s7 q7=>?_)
  have again:∀{σ7:St}{H7:Hp},Inv X (pins++pinsAt fp s5.heap) σ7 H7 s7→N σ7 H7→∃ m,m < n∧∃ i σ' H',Inv X pins σ' H' s7∧tn i s7.heap∧(∀ b∈fp,H' b=none)∧W i m σ' H':=fun {σ7 H7} I7 n7=>by
   obtain⟨m',hm,w7⟩:=hN σ7 H7 n7
   refine⟨m',hm,i+1,σ7,H7,I7.unpinned,T.keep _ _ _ st5 fun b hb o e=>(I7.pin (b,o) (List.mem_append_right _ (List.mem_append_right _ (mem_pinsAt hb e)))).1,fun b hb=>?_,w7⟩
   obtain⟨o,e,d⟩:=T.obj _ _ st5 b hb
   exact (I7.pin (b,o) (List.mem_append_right _ (List.mem_append_right _ (mem_pinsAt hb e)))).2.1
  cases f with
  | next=>obtain⟨σ7,H7,I7,n7⟩:=q7;exact again I7 n7
  | cont=>obtain⟨σ7,H7,I7,n7⟩:=q7;exact again I7 n7
  | brk=>obtain⟨σ7,H7,I7,q7⟩:=q7;exact⟨σ7,H7,I7.unpinned,q7⟩
  | ret v=>obtain⟨x7,σ7,H7,I7,r7,q7⟩:=q7;exact⟨x7,σ7,H7,I7.unpinned,r7,q7⟩
end
theorem for_list{K:PySem.W.Frag}{a:Addr}{xs:List V}{g:TG}{tb:TS}{D:Ends}{σ:St}{H:Hp}(Pv:Nat→St→Hp→Prop)(h0:Pv 0 σ H)(hl:∀ i σ H,i≤xs.length→Pv i σ H→SqL K H a xs)
  (hs:∀ i x σ H,xs[i]?=some x→Pv i σ H→g x σ H fun σ2 H2=>tb { D with nx:=Pv (i+1),ct:=Pv (i+1),bk:=D.nx } σ2 H2) (hd:∀ σ H,Pv xs.length σ H→D.nx σ H) :
  ∃ W:Nat→Nat→St→Hp→Prop,(∃ m,W 0 m σ H)∧∀ i m σ H,W i m σ H →
   ((Itl K a).stop i H∧D.nx σ H)∨((Itl K a).go i H∧∃ N:St→Hp→Prop,(∀ σ' H',N σ' H'→∃ m',m' < m∧W (i+1) m' σ' H')∧∀ x H',(Itl K a).yld i H x H'→g x σ H' fun σ2 H2=>tb { D with nx:=N,ct:=N,bk:=D.nx } σ2 H2):=by
 refine⟨fun i m σ H=>m=xs.length - i∧i≤xs.length∧Pv i σ H,⟨xs.length,by simp,Nat.zero_le _,h0⟩,?_⟩
 rintro i m σ H ⟨rfl,hi,p⟩
 have q:=hl i σ H hi p
 by_cases hlt:i < xs.length
 ·refine .inr ⟨⟨xs,xs[i],q,by simp[hlt]⟩,Pv (i+1),fun σ' H' p'=>⟨xs.length - (i+1),by omega,rfl,hlt,p'⟩,fun x H' y=>?_⟩
  obtain⟨e,y⟩:=y
  subst e
  exact hs i x σ _ (y xs q) p
 ·have e:i=xs.length:=by omega
  subst e
  exact .inl ⟨⟨xs,q,Nat.le_refl _⟩,hd σ H p⟩
theorem for_tup{K:PySem.W.Frag}{a:Addr}{xs:List V}{g:TG}{tb:TS}{D:Ends}{σ:St}{H:Hp}(Pv:Nat→St→Hp→Prop)(h0:Pv 0 σ H)(hl:∀ i σ H,i≤xs.length→Pv i σ H→SqT K H a xs)
  (hs:∀ i x σ H,xs[i]?=some x→Pv i σ H→g x σ H fun σ2 H2=>tb { D with nx:=Pv (i+1),ct:=Pv (i+1),bk:=D.nx } σ2 H2) (hd:∀ σ H,Pv xs.length σ H→D.nx σ H) :
  ∃ W:Nat→Nat→St→Hp→Prop,(∃ m,W 0 m σ H)∧∀ i m σ H,W i m σ H →
   ((Itt K a).stop i H∧D.nx σ H)∨((Itt K a).go i H∧∃ N:St→Hp→Prop,(∀ σ' H',N σ' H'→∃ m',m' < m∧W (i+1) m' σ' H')∧∀ x H',(Itt K a).yld i H x H'→g x σ H' fun σ2 H2=>tb { D with nx:=N,ct:=N,bk:=D.nx } σ2 H2):=by
 refine⟨fun i m σ H=>m=xs.length - i∧i≤xs.length∧Pv i σ H,⟨xs.length,by simp,Nat.zero_le _,h0⟩,?_⟩
 rintro i m σ H ⟨rfl,hi,p⟩
 have q:=hl i σ H hi p
 by_cases hlt:i < xs.length
 ·refine .inr ⟨⟨xs,xs[i],q,by simp[hlt]⟩,Pv (i+1),fun σ' H' p'=>⟨xs.length - (i+1),by omega,rfl,hlt,p'⟩,fun x H' y=>?_⟩
  obtain⟨e,y⟩:=y
  subst e
  exact hs i x σ _ (y xs q) p
 ·have e:i=xs.length:=by omega
  subst e
  exact .inl ⟨⟨xs,q,Nat.le_refl _⟩,hd σ H p⟩
theorem for_range{lo:Int}{n:Nat}{g:TG}{tb:TS}{D:Ends}{σ:St}{H:Hp}(Pv:Nat→St→Hp→Prop)(h0:Pv 0 σ H)
  (hs:∀ i σ H,i < n→Pv i σ H→g (.int (lo+i)) σ H fun σ2 H2=>tb { D with nx:=Pv (i+1),ct:=Pv (i+1),bk:=D.nx } σ2 H2) (hd:∀ σ H,Pv n σ H→D.nx σ H) :
  ∃ W:Nat→Nat→St→Hp→Prop,(∃ m,W 0 m σ H)∧∀ i m σ H,W i m σ H →
   ((Itr lo n).stop i H∧D.nx σ H)∨((Itr lo n).go i H∧∃ N:St→Hp→Prop,(∀ σ' H',N σ' H'→∃ m',m' < m∧W (i+1) m' σ' H')∧∀ x H',(Itr lo n).yld i H x H'→g x σ H' fun σ2 H2=>tb { D with nx:=N,ct:=N,bk:=D.nx } σ2 H2):=by
 refine⟨fun i m σ H=>m=n - i∧i≤n∧Pv i σ H,⟨n,by simp,Nat.zero_le _,h0⟩,?_⟩
 rintro i m σ H ⟨rfl,hi,p⟩
 by_cases hlt:i < n
 ·refine .inr ⟨hlt,Pv (i+1),fun σ' H' p'=>⟨n - (i+1),by omega,rfl,hlt,p'⟩,fun x H' y=>?_⟩
  obtain⟨e,y⟩:=y
  subst e y
  exact hs i σ _ hlt p
 ·have e:i=n:=by omega
  subst e
  exact .inl ⟨Nat.le_refl _,hd σ H p⟩
end L2
namespace L2
open PySem PySem.Spec PyProof.Rows
abbrev R2:=V→V→Hp→VK→Prop
def OpR(X:Cx)(f:Value→Value→Sem Value)(r:R2):Prop :=
 ∀ (pins:List (Addr×Obj)) (s:Shared) (σ:St) (H:Hp) (x y:V) (v u:Value) (Q:VK),Inv X pins σ H s→RelV x v→RelV y u→r x y H Q →
  wpAny (model X.prog X.w) X.A (f v u) (EP X pins σ Q) X.xe s
def UnR(X:Cx)(f:Value→Sem Value)(r:V→Hp→VK→Prop):Prop :=
 ∀ (pins:List (Addr×Obj)) (s:Shared) (σ:St) (H:Hp) (x:V) (v:Value) (Q:VK),Inv X pins σ H s→RelV x v→r x H Q →
  wpAny (model X.prog X.w) X.A (f v) (EP X pins σ Q) X.xe s
def CallR(X:Cx)(f:Value)(r:List V→Hp→VK→Prop):Prop :=
 ∀ (pins:List (Addr×Obj)) (s:Shared) (σ:St) (H:Hp) (xs:List V) (us:List Value) (Q:VK),Inv X pins σ H s→Vals xs us→r xs H Q →
  wpAny (model X.prog X.w) X.A (call f us) (EP X pins σ Q) X.xe s
def tOp(r:R2)(ta tb:TE):TE:=fun σ H Q=>ta σ H fun x H1=>tb σ H1 fun y H2=>r x y H2 Q
def tUn(r:V→Hp→VK→Prop)(ta:TE):TE:=fun σ H Q=>ta σ H fun x H1=>r x H1 Q
def rI(C:Int→Int→Prop)(g:Int→Int→V):R2:=fun x y H Q=>∃ i j,x=.int i∧y=.int j∧C i j∧Q (g i j) H
def rI0(g:Int→Int→V):R2:=fun x y H Q=>∃ i j,x=.int i∧y=.int j∧Q (g i j) H
def rU(g:Int→V):V→Hp→VK→Prop:=fun x H Q=>∃ i,x=.int i∧Q (g i) H
section
variable {X:Cx}{a b c:Expr}{ta tb tc:TE}{pos:Pos}
theorem binT(ha:PE X a ta)(hb:PE X b tb){pins:List (Addr×Obj)}{s:Shared}{σ:St}{H:Hp}{R:V→V→Hp→Prop}(I:Inv X pins σ H s)
  (h:ta σ H fun x H1=>tb σ H1 fun y H2=>R x y H2) {Q:Value→Shared→Prop} {f:Value→Value→Sem Value}
  (hf:∀ v u s2 x y H2,Inv X pins σ H2 s2→RelV x v→RelV y u→R x y H2→wpAny (model X.prog X.w) X.A (f v u) Q X.xe s2) :
  wpAny (model X.prog X.w) X.A (eval a X.env) (fun v s₁=>wpAny (model X.prog X.w) X.A (eval b X.env) (fun u s₂=>wpAny (model X.prog X.w) X.A (f v u) Q X.xe s₂) X.xe s₁) X.xe s:=by
 refine thn (ha pins s σ H _ I h) fun v s1 ⟨x,H1,I1,r1,q1⟩=>?_
 refine thn (hb pins s1 σ H1 _ I1 q1) fun u s2 ⟨y,H2,I2,r2,q2⟩=>?_
 exact hf v u s2 x y H2 I2 r1 r2 q2
theorem pe_op{op:Operator}{r:R2}(ho:OpR X (binaryOp op) r)(ha:PE X a ta)(hb:PE X b tb):PE X (.BinOp a op b pos) (tOp r ta tb):=by
 intro pins s σ H Q I h
 exact wpAny_BinOp (binT ha hb I h fun v u s2 x y H2 I2 rx ry q=>ho pins s2 σ H2 x y v u Q I2 rx ry q)
theorem pe_un{op:UnaryOp}{r:V→Hp→VK→Prop}(ho:UnR X (unaryOp op) r)(ha:PE X a ta):PE X (.UnaryOp op a pos) (tUn r ta):=by
 intro pins s σ H Q I h
 exact UnaryOp_ (thn (ha pins s σ H _ I h) fun v s1 ⟨x,H1,I1,r1,q1⟩=>ho pins s1 σ H1 x v Q I1 r1 q1)
theorem opI{f:Value→Value→Sem Value}{C:Int→Int→Prop}{g:Int→Int→Int}
  (rule:∀(i j:Int)(t u:Tok)(s:Shared)(Q:Value→Shared→Prop)(E:Value→Shared→Prop),C i j→Q (.int (g i j) s.toks) { s with toks:=s.toks+1 }→wpAny (model X.prog X.w) X.A (f (.int i t) (.int j u)) Q E s) :
  OpR X f (rI C fun i j=>.int (g i j)):=by
 intro pins s σ H x y v u Q I rx ry h
 obtain⟨i,j,rfl,rfl,hc,q⟩:=h
 obtain⟨t,rfl⟩:=rx
 obtain⟨t',rfl⟩:=ry
 exact rule i j t t' s _ _ hc ⟨.int (g i j),H,I.tok _,⟨_,rfl⟩,q⟩
theorem opI0{f:Value→Value→Sem Value}{g:Int→Int→Int}
  (rule:∀(i j:Int)(t u:Tok)(s:Shared)(Q:Value→Shared→Prop)(E:Value→Shared→Prop),Q (.int (g i j) s.toks) { s with toks:=s.toks+1 }→wpAny (model X.prog X.w) X.A (f (.int i t) (.int j u)) Q E s) :
  OpR X f (rI0 fun i j=>.int (g i j)):=by
 intro pins s σ H x y v u Q I rx ry h
 obtain⟨i,j,rfl,rfl,q⟩:=h
 obtain⟨t,rfl⟩:=rx
 obtain⟨t',rfl⟩:=ry
 exact rule i j t t' s _ _ ⟨.int (g i j),H,I.tok _,⟨_,rfl⟩,q⟩
theorem opB0{f:Value→Value→Sem Value}{g:Int→Int→Bool}
  (rule:∀(i j:Int)(t u:Tok)(s:Shared)(Q:Value→Shared→Prop)(E:Value→Shared→Prop),Q (.bool (g i j)) s→wpAny (model X.prog X.w) X.A (f (.int i t) (.int j u)) Q E s) :
  OpR X f (rI0 fun i j=>.bl (g i j)):=by
 intro pins s σ H x y v u Q I rx ry h
 obtain⟨i,j,rfl,rfl,q⟩:=h
 obtain⟨t,rfl⟩:=rx
 obtain⟨t',rfl⟩:=ry
 exact rule i j t t' s _ _ ⟨.bl (g i j),H,I,rfl,q⟩
def CPow(i j:Int):Prop:=0≤j∧j≤1000000∧i.natAbs < 2 ^ 64
def CMul(i j:Int):Prop:=(-(2 ^ 64) < i∧i < 2 ^ 64)∨(-(2 ^ 64) < j∧j < 2 ^ 64)
theorem op_add:OpR X (binaryOp .Add) (rI0 fun i j=>.int (i+j)):=opI0 fun _ _ _ _ _ _ _ q=>add_int q
theorem op_sub:OpR X (binaryOp .Sub) (rI0 fun i j=>.int (i - j)):=opI0 fun _ _ _ _ _ _ _ q=>sub_int q
theorem op_mod:OpR X (binaryOp .Mod) (rI (fun _ j=>0 < j) fun i j=>.int (i % j)):=opI fun i j _ _ _ _ _ hc q=>by
 have h1:(0:Int) < j:=hc
 exact mod_int' (by omega) (by rw[Int.fmod_eq_emod_of_nonneg i (by omega)];exact q)
theorem op_pow:OpR X (binaryOp .Pow) (rI CPow fun i j=>.int (i ^ j.toNat)):=opI fun _ _ _ _ _ _ _ hc q=>pow_int_small hc.1 hc.2.1 hc.2.2 q
theorem unI{f:Value→Sem Value}{g:Int→Int}
  (rule:∀(i:Int)(t:Tok)(s:Shared)(Q:Value→Shared→Prop)(E:Value→Shared→Prop),Q (.int (g i) s.toks) { s with toks:=s.toks+1 }→wpAny (model X.prog X.w) X.A (f (.int i t)) Q E s) :
  UnR X f (rU fun i=>.int (g i)):=by
 intro pins s σ H x v Q I rx h
 obtain⟨i,rfl,q⟩:=h
 obtain⟨t,rfl⟩:=rx
 exact rule i t s _ _ ⟨.int (g i),H,I.tok _,⟨_,rfl⟩,q⟩
theorem un_neg:UnR X (unaryOp .USub) (rU fun i=>.int (-i)):=unI fun _ _ _ _ _ q=>neg_int q
end
def scal:V→V→Bool
 | .non,.non=>true | .non,.int _=>true | .int _,.non=>true | .non,.bl _=>true | .bl _,.non=>true | .non,.str _=>true | .str _,.non=>true
 | .int _,.int _=>true | .bl _,.bl _=>true | .str _,.str _=>true | .byt _,.byt _=>true
 | .int _,.str _=>true | .str _,.int _=>true | .bl _,.str _=>true | .str _,.bl _=>true
 | _,_=>false
def rEq:R2:=fun x y H Q=>scal x y=true∧Q (.bl (decide (x=y))) H
def rNe:R2:=fun x y H Q=>scal x y=true∧Q (.bl (!decide (x=y))) H
theorem dec_int{i j:Int}:decide (V.int i=V.int j)=(i == j):=by
 rw[Bool.eq_iff_iff]
 simp
theorem dec_bl{i j:Bool}:decide (V.bl i=V.bl j)=(i == j):=by
 rw[Bool.eq_iff_iff]
 simp
theorem dec_str{i j:Str}:decide (V.str i=V.str j)=(i == j):=by
 rw[Bool.eq_iff_iff]
 simp
theorem dec_byt{i j:Array UInt8}:decide (V.byt i=V.byt j)=(i.toList == j.toList):=by
 rw[Bool.eq_iff_iff]
 cases i
 cases j
 simp
section
variable {X:Cx}{a b c:Expr}{ta tb tc:TE}{pos:Pos}
theorem fin_bl{pins:List (Addr×Obj)}{σ:St}{H:Hp}{s:Shared}{Q:VK}{k k':Bool}(I:Inv X pins σ H s)(q:Q (.bl k) H)(e:k=k'):EP X pins σ Q (.bool k') s:=by
 subst e
 exact⟨.bl k,H,I,rfl,q⟩
theorem op_eq:OpR X (compareOp .Eq) rEq:=by
 intro pins s σ H x y v u Q I rx ry h
 obtain⟨hs,q⟩:=h
 cases x with
 | non =>
  cases rx
  cases y with
  | non=>cases ry;exact PySem.EqNone.eq_none_none (fin_bl I q (by simp))
  | bl j=>cases ry;exact PySem.EqNone.eq_none_bool (fin_bl I q (by simp))
  | int j=>obtain⟨t',rfl⟩:=ry;exact PySem.EqNone.eq_none_int (fin_bl I q (by simp))
  | str j=>obtain⟨t',rfl⟩:=ry;exact PySem.EqNone.eq_none_str (fin_bl I q (by simp))
  | _=>exact absurd (show false=true from hs) Bool.false_ne_true
 | bl i =>
  cases rx
  cases y with
  | non=>cases ry;exact PySem.EqNone.eq_bool_none (fin_bl I q (by simp))
  | bl j=>cases ry;exact eq_bool (fin_bl I q dec_bl)
  | str j=>obtain⟨t',rfl⟩:=ry;exact PySem.EqMixed.eq_bool_str (fin_bl I q (by simp))
  | _=>exact absurd (show false=true from hs) Bool.false_ne_true
 | int i =>
  obtain⟨t,rfl⟩:=rx
  cases y with
  | non=>cases ry;exact PySem.EqNone.eq_int_none (fin_bl I q (by simp))
  | int j=>obtain⟨t',rfl⟩:=ry;exact eq_int (fin_bl I q dec_int)
  | str j=>obtain⟨t',rfl⟩:=ry;exact PySem.EqMixed.eq_int_str (fin_bl I q (by simp))
  | _=>exact absurd (show false=true from hs) Bool.false_ne_true
 | str i =>
  obtain⟨t,rfl⟩:=rx
  cases y with
  | non=>cases ry;exact PySem.EqNone.eq_str_none (fin_bl I q (by simp))
  | bl j=>cases ry;exact PySem.EqMixed.eq_str_bool (fin_bl I q (by simp))
  | int j=>obtain⟨t',rfl⟩:=ry;exact PySem.EqMixed.eq_str_int (fin_bl I q (by simp))
  | str j=>obtain⟨t',rfl⟩:=ry;exact eq_str (fin_bl I q dec_str)
  | _=>exact absurd (show false=true from hs) Bool.false_ne_true
 | byt i =>
  obtain⟨t,rfl⟩:=rx
  cases y with
  | byt j=>obtain⟨t',rfl⟩:=ry;exact PySem.W.eq_bytes (fin_bl I q dec_byt)
  | _=>exact absurd (show false=true from hs) Bool.false_ne_true
 | _=>cases y<;>exact absurd (show false=true from hs) Bool.false_ne_true
theorem op_ne:OpR X (compareOp .NotEq) rNe:=by
 intro pins s σ H x y v u Q I rx ry h
 obtain⟨hs,q⟩:=h
 cases x with
 | non =>
  cases rx
  cases y with
  | non=>cases ry;exact PySem.EqNone.ne_none_none (fin_bl I q (by simp))
  | bl j=>cases ry;exact PySem.EqNone.ne_none_bool (fin_bl I q (by simp))
  | int j=>obtain⟨t',rfl⟩:=ry;exact PySem.EqNone.ne_none_int (fin_bl I q (by simp))
  | str j=>obtain⟨t',rfl⟩:=ry;exact PySem.EqNone.ne_none_str (fin_bl I q (by simp))
  | _=>exact absurd (show false=true from hs) Bool.false_ne_true
 | bl i =>
  cases rx
  cases y with
  | non=>cases ry;exact PySem.EqNone.ne_bool_none (fin_bl I q (by simp))
  | bl j=>cases ry;exact ne_bool (fin_bl I q (congrArg not dec_bl))
  | str j=>obtain⟨t',rfl⟩:=ry;exact PySem.EqMixed.ne_bool_str (fin_bl I q (by simp))
  | _=>exact absurd (show false=true from hs) Bool.false_ne_true
 | int i =>
  obtain⟨t,rfl⟩:=rx
  cases y with
  | non=>cases ry;exact PySem.EqNone.ne_int_none (fin_bl I q (by simp))
  | int j=>obtain⟨t',rfl⟩:=ry;exact ne_int (fin_bl I q (congrArg not dec_int))
  | str j=>obtain⟨t',rfl⟩:=ry;exact PySem.EqMixed.ne_int_str (fin_bl I q (by simp))
  | _=>exact absurd (show false=true from hs) Bool.false_ne_true
 | str i =>
  obtain⟨t,rfl⟩:=rx
  cases y with
  | non=>cases ry;exact PySem.EqNone.ne_str_none (fin_bl I q (by simp))
  | bl j=>cases ry;exact PySem.EqMixed.ne_str_bool (fin_bl I q (by simp))
  | int j=>obtain⟨t',rfl⟩:=ry;exact PySem.EqMixed.ne_str_int (fin_bl I q (by simp))
  | str j=>obtain⟨t',rfl⟩:=ry;exact ne_str (fin_bl I q (congrArg not dec_str))
  | _=>exact absurd (show false=true from hs) Bool.false_ne_true
 | byt i =>
  obtain⟨t,rfl⟩:=rx
  cases y with
  | byt j=>obtain⟨t',rfl⟩:=ry;exact PySem.W.ne_bytes (fin_bl I q (congrArg not dec_byt))
  | _=>exact absurd (show false=true from hs) Bool.false_ne_true
 | _=>cases y<;>exact absurd (show false=true from hs) Bool.false_ne_true
theorem op_lt:OpR X (compareOp .Lt) (rI0 fun i j=>.bl (decide (i < j))):=opB0 fun _ _ _ _ _ _ _ q=>lt_int q
theorem op_le:OpR X (compareOp .LtE) (rI0 fun i j=>.bl (decide (i≤j))):=opB0 fun _ _ _ _ _ _ _ q=>le_int q
theorem op_gt:OpR X (compareOp .Gt) (rI0 fun i j=>.bl (decide (j < i))):=opB0 fun _ _ _ _ _ _ _ q=>gt_int q
theorem nomark(b:Expr){op:CmpOp}(h:op≠.In:=by decide)(h2:op≠.NotIn:=by decide):behindInMarks op b=false:=by
 have e1:(op == CmpOp.In)=false:=by cases op<;>first | rfl | exact absurd rfl h
 have e2:(op == CmpOp.NotIn)=false:=by cases op<;>first | rfl | exact absurd rfl h2
 cases b<;>simp[behindInMarks,e1,e2]
theorem pe_cmpR{op:CmpOp}{r:R2}(ho:OpR X (compareOp op) r)(ha:PE X a ta)(hb:PE X b tb)(hm:behindInMarks op b=false):PE X (.Compare a [op] [b] pos) (tOp r ta tb):=by
 intro pins s σ H Q I h
 exact wpAny_Compare1 (binT ha hb I h fun v u s2 x y H2 I2 rx ry q=>ho pins s2 σ H2 x y v u Q I2 rx ry q) hm
def tTest(t:TE):TT:=fun σ H Q=>t σ H fun x H'=>∃ k,x=.bl k∧Q k H'
theorem pt_cmpR{op:CmpOp}{r:R2}(ho:OpR X (compareOp op) r)(ha:PE X a ta)(hb:PE X b tb)(hm:behindInMarks op b=false):PT X (.Compare a [op] [b] pos) (tTest (tOp r ta tb)):=by
 intro pins s σ H Q I h
 refine wpAny_isTrue_Compare1 (thn (ha pins s σ H _ I h) fun v s1 ⟨x,H1,I1,r1,q1⟩=>thn (hb pins s1 σ H1 _ I1 q1) fun u s2 ⟨y,H2,I2,r2,q2⟩ =>
  thn (ho pins s2 σ H2 x y v u _ I2 r1 r2 q2) fun c s3 ⟨z,H3,I3,r3,k,e,q3⟩=>?_) hm
 subst e
 cases r3
 exact wpAny_truthy_bool ⟨H3,I3,q3⟩
def tChain(r r':R2)(ta tb tc:TE):TE:=fun σ H Q=>ta σ H fun x H1=>tb σ H1 fun y H2=>r x y H2 fun z H3=>∃ k,z=.bl k ∧
 (if k=true then tc σ H3 fun w' H4=>r' y w' H4 Q else Q (.bl false) H3)
theorem line63:(sizeLine:Nat) < 2 ^ 63:=by rw[sizeLine_eq];decide
theorem vals1{x:V}{us:List Value}(r:Vals [x] us):∃ u,us=[u]∧RelV x u:=by
 cases r with
 | cons r1 r2=>cases r2;exact⟨_,rfl,r1⟩
theorem vals2{x y:V}{us:List Value}(r:Vals [x,y] us):∃ u w',us=[u,w']∧RelV x u∧RelV y w':=by
 cases r with
 | cons r1 r2 =>
  cases r2 with
  | cons r3 r4=>cases r4;exact⟨_,_,rfl,r1,r3⟩
theorem call_abs:CallR X (.builtin "abs") (fun xs H Q=>∃ i,xs=[.int i]∧Q (.int (if i < 0 then -i else i)) H):=by
 intro pins s σ H xs us Q I r h
 obtain⟨i,rfl,q⟩:=h
 obtain⟨u,rfl,t,rfl⟩:=vals1 r
 exact call_abs_int fun u tk=>⟨.int (if i < 0 then -i else i),H,I.tok _,⟨_,rfl⟩,q⟩
theorem call_min2(hc:X.calm=true):CallR X (.builtin "min") (fun xs H Q=>∃ i j,xs=[.int i,.int j]∧Q (.int (if j < i then j else i)) H):=by
 intro pins s σ H xs us Q I r h
 obtain⟨i,j,rfl,q⟩:=h
 obtain⟨u,w',rfl,⟨t,rfl⟩,⟨t',rfl⟩⟩:=vals2 r
 refine min_two_ints (I.ok.hd hc) fun h' tk k=>⟨_,H,I.kept k,?_,q⟩
 by_cases hj:j < i
 ·rw[if_pos hj,if_pos hj];exact⟨_,rfl⟩
 ·rw[if_neg hj,if_neg hj];exact⟨_,rfl⟩
end
end L2
namespace L2
open PySem PySem.Spec PyProof.Rows
structure ObjM(h:Heap)(x dx C:Addr)(mA:Str→Option Value):Prop where
 obj:h.get? x=some (PySem.W.instObj C dx)
 ns:h.Ns1 dx mA
 ne:dx≠x
theorem lookIn_ns{h:Heap}{dx:Addr}{mA:Str→Option Value}(n:h.Ns1 dx mA):∃ od,h.get? dx=some od∧∀ name,PySem.W.lookIn name od=some (mA name):=by
 obtain⟨o,es,ep,ho,hd,hk,_,hm⟩:=n
 refine⟨o,ho,fun name=>?_⟩
 have e:=hm name
 unfold nsFind findBy at e
 rw[← Array.find?_toList] at e
 unfold PySem.W.lookIn
 rw[hd]
 dsimp only
 split
 ·rename_i y q
  rw[q] at e
  exact congrArg some e
 ·rename_i q
  rw[q] at e
  have a:es.toList.any (·.refKey)=false:=by
   rw[List.any_eq_false]
   intro y hy
   obtain⟨z,t,hkey⟩:=hk y (Array.mem_toList_iff.mp hy)
   simp[DictEntry.refKey,hkey]
  have a':¬ es.toList.any (·.refKey)=true:=by rw[a];exact Bool.false_ne_true
  rw[if_neg a']
  exact congrArg some e
theorem ObjM.look{h:Heap}{x dx C:Addr}{mA:Str→Option Value}(I:ObjM h x dx C mA):∃ od,PySem.W.InstAt h x (PySem.W.instObj C dx) C (some od)∧∀ name,PySem.W.lookIn name od=some (mA name) :=
 let ⟨od,ho,hl⟩:=lookIn_ns I.ns
 ⟨od,⟨I.obj,rfl,rfl,ho⟩,hl⟩
section
variable {prog:Program}{w:World}{A:Around}{E:Value→Shared→Prop}{s:Shared}{K:PySem.W.Frag}{x dx C f:Addr}{mA:Str→Option Value}{name:Str}{v:Value}
theorem set_map{ns:List Str}{Q:Unit→Shared→Prop}(X:K.In s.heap)(I:ObjM s.heap x dx C mA)
  (hs:PySem.W.findIn K (.ref C) "__setattr__" = some (some (.builtin "object.__setattr__"))) (hp:PySem.W.plainOver K C=true) (ht:PySem.W.takerIn K C name=some none) (hh:PySem.W.hasDictIn K C=true)
  (hw:PySem.Within mA ns) (hsz:ns.length≤sizeLine)
  (h:∀ h',ObjM h' x dx C (fun y=>if y=name then some v else mA y)→Heap.SameBut dx s.heap h'→Q () { s with heap:=h',toks:=s.toks+2 }) :
  wpAny (model prog w) A (setAttr (.ref x) name v) Q E s:=by
 obtain⟨od,J,hl⟩:=I.look
 refine PySem.W.set_plain X J hs (PySem.W.osa_open (s:={ s with toks:=s.toks+1 }) (r:=none) X J hp ht fun b=>?_)
 obtain⟨cd,hc,hd'⟩:=PySem.W.any_some hh
 have hx:s.heap.get? x=some ⟨.ref C,some dx,.plain,#[]⟩:=I.obj
 refine wpAny_bind (wpAny_pure (wpAny_bind (wpAny_bind (wpAny_loadPart hx (wpAny_bind (PySem.W.Looks.here (s:={ s with toks:=s.toks+1 }) (PySem.W.looks_clsIn X hc) ?_))))))
 rw[hd']
 refine wpAny_pure (a:=some dx) (wpAny_bind (wpAny_pure (wpAny_bind ?_)))
 refine wpAny_nsSet1 (s:={ s with toks:=s.toks+1 }) I.ns fun h' hn2 hs2=>?_
 obtain⟨oD,esD,epD,hoD,hdD,hcD⟩:=hn2.count (PySem.Within.cons name v hw)
 refine wpAny_bind (wpAny_lookBehind hoD (by rw[hdD];exact pastItsLine_dict (Nat.le_trans hcD (by rw[List.length_cons];omega))) ?_)
 exact wpAny_pure (h _ ⟨(hs2.2 _ (Ne.symm I.ne)).trans I.obj,hn2,I.ne⟩ hs2)
end
section
variable {P:Program}{w:World}{H H':Hp}{h h':Heap}{a C dx:Addr}{fs fs':List (Str×V)}
theorem ins_get(hok:HOk P w H h)(e:H a=some (.ins C dx fs)):∃ mA,ObjM h a dx C mA∧(∀ f,RelO (fs.lookup f) (mA f))∧PySem.Within mA (fs.map (·.1))∧fs.length≤1000∧H dx=some (.own a):=by
 obtain⟨d,z,ne,ob,mA,n,r,q⟩:=(show ObjOk P w H h a (.ins C dx fs) from hok a _ e)
 exact⟨mA,⟨ob,n,ne⟩,r,q,z,d⟩
end
structure Cls(K:PySem.W.Frag)(C:Addr):Prop where
 pg:PySem.W.plainGet K C Str.empty=true
 hd:PySem.W.hasDictIn K C=true
 po:PySem.W.plainOver K C=true
 sa:PySem.W.findIn K (.ref C) "__setattr__" = some (some (.builtin "object.__setattr__"))
theorem Cls.get{K:PySem.W.Frag}{C:Addr}(c:Cls K C)(f:Str):PySem.W.plainGet K C f=true:=c.pg
structure Con(K:PySem.W.Frag)(C:Addr)(f:Str)(v:V)(u:Value):Prop where
 at_:PySem.W.findIn K (.ref C) f=some (some u)
 rel:RelV v u
 get:PySem.W.specialIn K u "__get__" = some none
 cp:PySem.W.copiedNames.contains f=false
structure Meth(K:PySem.W.Frag)(C:Addr)(m:Str)(f:Addr):Prop where
 at_:PySem.W.findIn K (.ref C) m=some (some (.ref f))
 fn:PySem.W.isFn K (.ref f)=true
 kp:PySem.W.keepIn K (.ref f)=true
section
variable {X:Cx}{pins:List (Addr×Obj)}{σ:St}{H:Hp}{s:Shared}{a C dx:Addr}{fs:List (Str×V)}{f:Str}{v:V}{A:Around}{E:Value→Shared→Prop}
end
section
variable {X:Cx}{o e value:Expr}{f:Str}{pos pos' tpos:Pos}{ta tv:TE}
end
section
variable {X:Cx}{pins:List (Addr×Obj)}{σ:St}{H:Hp}{s:Shared}{A:Around}{E:Value→Shared→Prop}{Q:Value→Shared→Prop}{c:Value}{b:Bool}
inductive TyOf (K:PySem.W.Frag) (H:Hp):V→Value→Prop where
 | non:TyOf K H .non (.type "NoneType")
 | bl (x:Bool):TyOf K H (.bl x) (.type "bool")
 | int (i:Int):TyOf K H (.int i) (.type "int")
 | str (x:Str):TyOf K H (.str x) (.type "str")
 | flt (x:UInt64):TyOf K H (.flt x) (.type "float")
 | lst {a:Addr} {xs:List V} (e:H a=some (.lst xs)):TyOf K H (.ref a) (.type "list")
 | frz {a:Addr} {o:Obj} {xs:List V} (e:H a=some (.frz o (.lst xs))):TyOf K H (.ref a) (.type "list")
 | tup {a:Addr} {xs:List V} (e:H a=some (.tup xs)):TyOf K H (.ref a) (.type "tuple")
 | dK {a:Addr} {kvs:List (Key×V)} (e:H a=some (.dK kvs)):TyOf K H (.ref a) (.type "dict")
 | dT {a:Addr} {kvs:List (List Key×V)} (e:H a=some (.dT kvs)):TyOf K H (.ref a) (.type "dict")
 | ins {a C dx:Addr} {fs:List (Str×V)} (e:H a=some (.ins C dx fs)) (cl:Cls K C) (ha:PySem.W.findIn K (.ref C) "__class__" = some (some (.builtin "object.__class__")))
   (hn:PySem.W.specialIn K (.builtin "object.__class__") "__get__" = some (some (.builtin "getset_descriptor.__get__"))) (htk:PySem.W.takesIn K (.builtin "object.__class__")=some true)
   (hm:PySem.W.mroIn K C (.type "object")=some true):TyOf K H (.ref a) (.ref C)
theorem isinst_ok{x:V}{u t:Value}(I:Inv X pins σ H s)(rx:RelV x u)(ty:TyOf X.K H x t)(e:PySem.W.kitOne X.K t c=some b)(h:∀ tk,Q (.bool b) { s with toks:=tk }) :
  wpAny (model X.prog X.w) A (call (.builtin "isinstance") [u,c]) Q E s:=by
 cases ty with
 | non=>cases (show u=Value.none from rx);exact PySem.W.kia_one PySem.W.kitx_none I.kIn True.intro e (fun z=>nomatch z) h
 | bl y=>cases (show u=Value.bool y from rx);exact PySem.W.kia_one PySem.W.kitx_bool I.kIn True.intro e (fun z=>nomatch z) h
 | int i=>obtain⟨t,q⟩:=(show ∃ t,u=Value.int i t from rx);cases q;exact PySem.W.kia_one PySem.W.kitx_int I.kIn True.intro e (fun z=>nomatch z) h
 | str y=>obtain⟨t,q⟩:=(show ∃ t,u=Value.str y t from rx);cases q;exact PySem.W.kia_one PySem.W.kitx_str I.kIn True.intro e (fun z=>nomatch z) h
 | flt y=>obtain⟨t,q⟩:=(show ∃ t,u=Value.float y t from rx);cases q;exact PySem.W.kia_one PySem.W.kitx_float I.kIn True.intro e (fun z=>nomatch z) h
 | @lst a xs ea =>
  cases (show u=Value.ref a from rx)
  obtain⟨_,_,n,_,h1⟩:=(show ObjOk X.prog X.w H s.heap a (.lst xs) from I.hok a _ ea)
  exact PySem.W.kia_one PySem.W.kitx_list I.kIn ⟨_,h1,rfl⟩ e (fun z=>nomatch z) h
 | @frz a ob xs ea =>
  cases (show u=Value.ref a from rx)
  obtain⟨_,_,_,n,_,h1⟩:=(show ObjOk X.prog X.w H s.heap a (.frz ob (.lst xs)) from I.hok a _ ea)
  exact PySem.W.kia_one PySem.W.kitx_list I.kIn ⟨_,h1,rfl⟩ e (fun z=>nomatch z) h
 | @tup a xs ea =>
  cases (show u=Value.ref a from rx)
  obtain⟨_,_,_,p⟩:=(show ObjOk X.prog X.w H s.heap a (.tup xs) from I.hok a _ ea)
  obtain⟨o,h1,h2,_⟩:=p
  exact PySem.W.kia_one PySem.W.kitx_tuple I.kIn ⟨o,h1,h2⟩ e (fun z=>nomatch z) h
 | @dK a kvs ea =>
  cases (show u=Value.ref a from rx)
  obtain⟨_,_,vs,_,p⟩:=(show ObjOk X.prog X.w H s.heap a (.dK kvs) from I.hok a _ ea)
  obtain⟨o,es,ep,h1,h2,_⟩:=p
  exact PySem.W.kia_one PySem.W.kitx_dict I.kIn ⟨o,h1,h2.1⟩ e (fun z=>nomatch z) h
 | @dT a kvs ea =>
  cases (show u=Value.ref a from rx)
  obtain⟨_,_,xs,_,o,es,ep,h1,h2,_⟩:=(show ObjOk X.prog X.w H s.heap a (.dT kvs) from I.hok a _ ea)
  exact PySem.W.kia_one PySem.W.kitx_dict I.kIn ⟨o,h1,h2.1⟩ e (fun z=>nomatch z) h
 | @ins a C dx fs ea cl ha hn htk hm =>
  cases (show u=Value.ref a from rx)
  obtain⟨mA,O,_⟩:=ins_get I.hok ea
  obtain⟨od,J,_⟩:=O.look
  exact PySem.W.kia_one (PySem.W.kitx_own (cl.get _) cl.hd ha hn htk hm) I.kIn J e (fun z=>nomatch z) h
end
end L2
namespace L2
open PySem PySem.Spec PyProof.Rows
structure Room(k:Nat)(A:Around):Prop where
 hd:A.handled=none
 dp:A.depth+3*k+5 < recursionLimit
 un:A.units+16*k+200 < cLine
theorem Room.mono{j k:Nat}{A:Around}(r:Room k A)(h:j≤k):Room j A:=⟨r.hd,by have:=r.dp;omega,by have:=r.un;omega⟩
theorem Room.deeper{k:Nat}{A:Around}(r:Room (k+1) A)(env:Env):Room k (A.deeper env) :=
 ⟨r.hd,by have:=r.dp;show A.depth+1+3*k+5 < _;omega,by have:=r.un;show A.units+3+16*k+200 < _;omega⟩
theorem Room.depth{k:Nat}{A:Around}(r:Room k A):A.depth < recursionLimit:=by have:=r.dp;omega
theorem Room.units{k:Nat}{A:Around}(r:Room k A):A.units+64 < cLine:=by have:=r.un;omega
def tNil:TA:=fun _ H Q=>Q [] H
def tCons(ta:TE)(tr:TA):TA:=fun σ H Q=>ta σ H fun x H1=>tr σ H1 fun xs H2=>Q (x::xs) H2
section
variable {X:Cx}{e:Expr}{es:List Expr}{te:TE}{t:TA}{pos:Pos}
theorem pa_nil:PA X [] tNil:=fun _ _ _ _ H Q I h=>Calls.spliced_nil ⟨[],H,I,.nil,h⟩
theorem pa_cons(ha:PE X e te)(hr:PA X es t)(hs:starEach (e::es) X.env=(false,eval e X.env)::starEach es X.env:=by rfl):PA X (e::es) (tCons te t):=by
 intro pos pins s σ H Q I h
 rw[hs]
 show wpAny _ _ (spliced ((false,eval e X.env)::backTo pos (starEach es X.env))) _ _ s
 refine Calls.spliced_cons (thn (ha pins s σ H _ I h) fun u s1 ⟨x,H1,I1,r1,q1⟩=>?_)
 exact thn (hr pos pins s1 σ H1 _ I1 q1) fun us s2 ⟨xs,H2,I2,r2,q2⟩=>⟨x::xs,H2,I2,.cons r1 r2,q2⟩
def tTup(t:TA):TE:=fun σ H Q=>t σ H fun xs H1=>xs.length≤sizeLine∧∀ p,H1 p=none→Q (.ref p) (upd H1 p (.tup xs))
def tLst(t:TA):TE:=fun σ H Q=>t σ H fun xs H1=>xs.length≤sizeLine∧∀ p,H1 p=none→Q (.ref p) (upd H1 p (.lst xs))
theorem pe_tup{x1}(h:PA X es t):PE X (.Tuple es x1 pos) (tTup t):=by
 intro pins s σ H Q I hq
 refine wpAny_Tuple_spliced (thn (h pos pins s σ H _ I hq) fun us s1 ⟨xs,H1,I1,r,z,q⟩=>⟨by rw[← r.length];exact z,?_⟩)
 have hf:H1 s1.heap.objs.size=none:=I1.hok.fresh (Nat.le_refl _)
 refine⟨.ref s1.heap.objs.size,upd H1 s1.heap.objs.size (.tup xs),I1.laid (t':=s1.toks) (fun b u e=>Heap.get?_push_of_some _ e) (Nat.le_refl _) ?_,rfl,q _ hf⟩
 exact⟨z,us,r,⟨_,Heap.get?_push_size _ rfl,rfl,_,rfl⟩⟩
theorem pe_lst(h:PA X es t):PE X (.List es pos) (tLst t):=by
 intro pins s σ H Q I hq
 refine wpAny_List_spliced (thn (h pos pins s σ H _ I hq) fun us s1 ⟨xs,H1,I1,r,z,q⟩=>⟨by rw[← r.length];exact z,?_⟩)
 have hf:H1 s1.heap.objs.size=none:=I1.hok.fresh (Nat.le_refl _)
 refine⟨.ref s1.heap.objs.size,upd H1 s1.heap.objs.size (.lst xs),I1.laid (t':=s1.toks) (fun b u e=>Heap.get?_push_of_some _ e) (Nat.le_refl _) ?_,rfl,q _ hf⟩
 exact⟨z,us,0,r,Heap.get?_push_size _ rfl⟩
end
abbrev Sp:=List V→Hp→VK→XK→Prop
abbrev CXT:=List Env→Hp→Shared→XK→Value→Shared→Prop
structure Env0(P:Program)(w:World)(K:PySem.W.Frag)(mg:Str→Option Value)(base:Heap)(A:Around)(outer:List Env)(s:Shared)(H:Hp):Prop where
 frames:A.frames=some outer
 mod:Mod K mg base
 bs:∀ b o,base.get? b=some o→s.heap.get? b=some o∧H b=none
 bsz:base.objs.size≤s.heap.objs.size
 funs:s.heap.FunFrames base outer
 frf:∀ b∈frs outer,H b=none
 hok:HOk P w H s.heap
 bare:AllBare s.gens
def CE(outer:List Env)(P:Program)(w:World)(H:Hp)(s:Shared)(Q:VK)(u:Value)(s':Shared):Prop :=
 ∃ v H',s'.os=s.os∧AllBare s'.gens∧Un (frs outer) [] H H' s.heap s'.heap∧HOk P w H' s'.heap∧RelV v u∧Q v H'
def CR(CX:CXT)(outer:List Env)(P:Program)(w:World)(H:Hp)(s:Shared)(Q:VK)(E:XK)(r:Result)(s':Shared):Prop :=
 match r with
 | .ok (.ret u)=>CE outer P w H s Q u s'
 | .ok _=>False
 | .error e=>CX outer H s E e s'
structure FnOk(P:Program)(w:World)(K:PySem.W.Frag)(mg:Str→Option Value)(base:Heap)(CX:CXT)(k:Nat)(f:Addr)(fd:FuncData)(ps:List Str)(sp:Sp):Prop where
 len:∀ vs H Q E,sp vs H Q E→vs.length=ps.length
 run:∀(A:Around)(outer:List Env)(s:Shared)(H:Hp)(args:Args)(us:List Value)(vs:List V)(Q:VK)(E:XK),Room k A→Env0 P w K mg base A outer s H→BindsTo s fd args (ps.zip us)→Vals vs us→sp vs H Q E →
  codeAny (model P w) A (.call (.ref f) args) (CR CX outer P w H s Q E) s
section
variable {X:Cx}{pins:List (Addr×Obj)}{σ:St}{H:Hp}{s s':Shared}
theorem Inv.env0(I:Inv X pins σ H s):Env0 X.prog X.w X.K X.mg X.base X.A X.stack s H :=
 ⟨I.ok.frames,I.ok.mod,I.bs,Nat.le_trans I.ok.bsz I.sz,I.stack,I.stkFree,I.hok,I.bare⟩
theorem Inv.after{Q:VK}{u:Value}(I:Inv X pins σ H s)(h:CE X.stack X.prog X.w H s Q u s'):EP X pins σ Q u s':=by
 obtain⟨v,H',os,bare,un,hok,r,q⟩:=h
 obtain⟨hh,g,d,t,os'⟩:=s'
 obtain rfl:os'=s.os:=os
 exact⟨v,H',I.call (h':=hh) (g':=g) (d':=d) (t':=t) (ch:=[]) un hok bare (fun b z=>absurd z (by simp)),r,q⟩
end
def tCall(sp:Sp)(dvs:List V)(E:XK)(t:TA):TE:=fun σ H Q=>t σ H fun vs H1=>sp (vs++dvs) H1 Q E
def Binds(K:PySem.W.Frag)(fd:FuncData)(ps:List Str)(ds:List Value):Prop :=
 ∀(s:Shared)(us:List Value),K.In s.heap→(us++ds).length=ps.length→BindsTo s fd ⟨us,[]⟩ (ps.zip (us++ds))
theorem Binds.all{K:PySem.W.Frag}{fd:FuncData}{ps:List Str}(h:∀ us:List Value,us.length=ps.length→bindArgs fd ⟨us,[]⟩=pure (ps.zip us)):Binds K fd ps []:=fun s us _ hl=>by
 rw[List.append_nil] at hl ⊢
 exact .of_eq (h us hl)
def Passes(CX:CXT)(X:Cx)(E:XK):Prop:=∀ (pins:List (Addr×Obj)) (σ:St) (H:Hp) (s:Shared) (e:Value) (s':Shared),Inv X pins σ H s→CX X.stack H s E e s'→X.xe e s'
section
variable {X:Cx}{CX:CXT}{k:Nat}{f C:Addr}{fd:FuncData}{ps:List Str}{sp:Sp}{dvs:List V}{ds:List Value}{E:XK}{x m:Str}{p pos apos:Pos}{e o:Expr}{es:List Expr}{ta:TE}{t:TA}
theorem run_fn{pins:List (Addr×Obj)}{σ:St}{H:Hp}{s:Shared}{Q:VK}{us:List Value}{vs:List V}(F:FnOk X.prog X.w X.K X.mg X.base CX k f fd ps sp)(hr:Room k X.A)(hb:Binds X.K fd ps ds)(hd:Vals dvs ds)(hx:Passes CX X E)
  (I:Inv X pins σ H s) (r:Vals vs us) (h:sp (vs++dvs) H Q E):wpAny (model X.prog X.w) X.A (call (.ref f) us) (EP X pins σ Q) X.xe s:=by
 have r2:Vals (vs++dvs) (us++ds):=r.append hd
 have hl:(us++ds).length=ps.length:=by rw[← r2.length];exact F.len _ _ _ _ h
 refine wpAny_call (codeAny_mono (F.run X.A X.stack s H ⟨us,[]⟩ (us++ds) (vs++dvs) Q E hr I.env0 (hb s us I.kIn hl) r2 h) fun r s' hq=>?_)
 cases r with
 | error e=>exact hx pins σ H s e s' I hq
 | ok fl =>
  cases fl with
  | ret u=>exact I.after hq
  | next=>exact False.elim hq
  | brk=>exact False.elim hq
  | cont=>exact False.elim hq
theorem pe_call(F:FnOk X.prog X.w X.K X.mg X.base CX k f fd ps sp)(hr:Room k X.A)(hg:Gl X x)(hm:X.mg x=some (.ref f))(hk:PySem.W.keepIn X.K (.ref f)=true)(hb:Binds X.K fd ps ds)(hd:Vals dvs ds)(hx:Passes CX X E)
  (ha:PA X (e::es) t) (hdb:(x == ("__debug__" : Str))=false:=by decide) (he:starEach (e::es) X.env=(false,eval e X.env)::starEach es X.env:=by rfl) (hpl:(backTo pos (starEach es X.env)).any (·.1)=false:=by rfl) :
  PE X (.Call (.Name x p) (e::es) [] pos) (tCall sp dvs E t):=by
 intro pins s σ H Q I h
 refine wpAny_Call_Name_kw (ld_glob I hg hm ?_ hdb)
 refine PySem.W.callWith_K (h₀:=X.base) I.ok.mod.kin hk (thn (ha pos pins s σ H _ I h) fun us s1 ⟨vs,H1,I1,r,q⟩=>⟨I1.kIn,?_⟩) he hpl
 exact run_fn F hr hb hd hx I1 r q
structure Mk(K:PySem.W.Frag)(C f:Addr):Prop where
 makes:PySem.W.makesIn K C=true
 init:PySem.W.findIn K (.ref C) "__init__" = some (some (.ref f))
 fn:PySem.W.isFn K (.ref f)=true
 kp:PySem.W.keepIn K (.ref C)=true
end
section
variable {X:Cx}{CX:CXT}{k:Nat}{f C:Addr}{fd:FuncData}{ps ks:List Str}{sp:Sp}{E:XK}{x m:Str}{p pos apos kpos:Pos}{e o:Expr}{es:List Expr}{kws:List Keyword}{te ta:TE}{t tk:TA}{nm:Option Str}
structure KBinds(K:PySem.W.Frag)(fd:FuncData)(ps ks:List Str)(g:List Value→List Value→List Value)(gV:List V→List V→List V):Prop where
 to:∀(s:Shared)(us ws:List Value),K.In s.heap→(g us ws).length=ps.length→BindsTo s fd ⟨us,ks.zip ws⟩ (ps.zip (g us ws))
 rel:∀{vs:List V}{us:List Value}{zs:List V}{ws:List Value},Vals vs us→Vals zs ws→Vals (gV vs zs) (g us ws)
variable {g:List Value→List Value→List Value}{gV:List V→List V→List V}
end
structure FnScope(N P:List Str)(sc:Scope):Prop where
 kind:sc.kind=.function
 co:sc.isCoroutine=false
 gen:sc.isGenerator=false
 nd:N.Nodup
 pre:N.take P.length=P
 par:∀ x∈P,sc.names.lookup x=some .local∨sc.names.lookup x=some .cell
 nofree:∀ y∈sc.names,y.2≠.free
theorem bindL_out{kindOf:Str→Option NameKind}{x:Str}:∀ {binds:List (Str×Value)} {m:Str→Option Value},(∀ v,(x,v)∉binds)→bindL kindOf binds m x=m x
 | [],_,_=>rfl
 | (n,v)::r,m,h=>by
  unfold bindL
  rw[bindL_out fun w hw=>h w (List.mem_cons_of_mem _ hw)]
  split
  ·have:x≠n:=by rintro rfl;exact h v List.mem_cons_self
   simp[this]
  ·rfl
theorem bindC_out{kindOf:Str→Option NameKind}{x:Str}:∀ {binds:List (Str×Value)} {m:Str→Option Value},(∀ v,(x,v)∉binds)→bindC kindOf binds m x=m x
 | [],_,_=>rfl
 | (n,v)::r,m,h=>by
  unfold bindC
  rw[bindC_out fun w hw=>h w (List.mem_cons_of_mem _ hw)]
  split
  ·rfl
  ·have:x≠n:=by rintro rfl;exact h v List.mem_cons_self
   simp[this]
theorem bindL_get{kindOf:Str→Option NameKind}{x:Str}{v:Value}:∀{P:List Str}{vs:List Value}{i:Nat}{m:Str→Option Value},P.Nodup→P[i]?=some x→vs[i]?=some v→kindOf x=some .local →
  bindL kindOf (P.zip vs) m x=some v
 | [],_,_,_,_,h,_,_=>by simp at h
 | _::_,[],_,_,_,_,h,_=>by simp at h
 | p::P,w::vs,0,m,nd,h1,h2,hk=>by
  simp at h1 h2;subst h1;subst h2
  show bindL kindOf ((p,w)::P.zip vs) m p=_
  unfold bindL
  rw[bindL_out fun v hv=>(List.nodup_cons.mp nd).1 (List.of_mem_zip hv).1,if_pos hk]
  simp
 | p::P,w::vs,i+1,m,nd,h1,h2,hk=>by
  show bindL kindOf ((p,w)::P.zip vs) m x=_
  unfold bindL
  exact bindL_get (i:=i) (List.nodup_cons.mp nd).2 (by simpa using h1) (by simpa using h2) hk
theorem bindC_get{kindOf:Str→Option NameKind}{x:Str}{v:Value}:∀{P:List Str}{vs:List Value}{i:Nat}{m:Str→Option Value},P.Nodup→P[i]?=some x→vs[i]?=some v→kindOf x≠some .local →
  bindC kindOf (P.zip vs) m x=some v
 | [],_,_,_,_,h,_,_=>by simp at h
 | _::_,[],_,_,_,_,h,_=>by simp at h
 | p::P,w::vs,0,m,nd,h1,h2,hk=>by
  simp at h1 h2;subst h1;subst h2
  show bindC kindOf ((p,w)::P.zip vs) m p=_
  unfold bindC
  rw[bindC_out fun v hv=>(List.nodup_cons.mp nd).1 (List.of_mem_zip hv).1,if_neg hk]
  simp
 | p::P,w::vs,i+1,m,nd,h1,h2,hk=>by
  show bindC kindOf ((p,w)::P.zip vs) m x=_
  unfold bindC
  exact bindC_get (i:=i) (List.nodup_cons.mp nd).2 (by simpa using h1) (by simpa using h2) hk
def start(N:List Str)(vs:List V):St:=vs.map some++List.replicate (N.length - vs.length) none
def cxOf(CX:CXT)(P:Program)(w:World)(K:PySem.W.Frag)(mg:Str→Option Value)(base:Heap)(N:List Str)(qual:Str)(scope:Scope)(f:Addr)(cd:Value)(A:Around)(outer:List Env)(s:Shared)(H:Hp)(E:XK):Cx where
 prog:=P
 w:=w
 K:=K
 mg:=mg
 base:=base
 A:=A.deeper (envOfC qual scope s.heap.objs.size f cd)
 N:=N
 s₀:=s
 H₀:=H
 env:=envOfC qual scope s.heap.objs.size f cd
 outer:=outer
 stack:=envOfC qual scope s.heap.objs.size f cd::outer
 ex:=[]
 calm:=true
 fn:=fun _=>true
 pn:=[]
 xe:=fun e s'=>wpAny (model P w) (A.deeper (envOfC qual scope s.heap.objs.size f cd)) (leaving (envOfC qual scope s.heap.objs.size f cd) e) (fun _ s''=>CX outer H s E e s'') (fun e' s''=>CX outer H s E e' s'') s'
theorem cell_has{sc:Scope}{n:Nat}{x:Str}(h:sc.names.lookup x=some .cell):∃ c,(cellsFrom n sc.names []).lookup x=some c:=by
 have q:=PySem.W.cellsFrom_some sc.names n [] (.inl h)
 exact Option.isSome_iff_exists.mp q
theorem inv_start{CX:CXT}{P:Program}{w:World}{K:PySem.W.Frag}{mg:Str→Option Value}{base:Heap}{N ps:List Str}{qual:Str}{scope:Scope}{f:Addr}{cd:Value}{A:Around}{outer:List Env}{s s1:Shared}{H:Hp}{E:XK}{us:List Value}{vs:List V}
  (S:FnScope N ps scope) (hd:A.handled=none) (e0:Env0 P w K mg base A outer s H) (hl:vs.length=ps.length) (r:Vals vs us)
  (x:InCallC s s.heap.objs.size (bindL (envOfC qual scope s.heap.objs.size f cd).kindOf (ps.zip us) fun _=>none) (cellsFrom (s.heap.objs.size+1) scope.names []) (bindC (envOfC qual scope s.heap.objs.size f cd).kindOf (ps.zip us) fun _=>none) s1) :
  Inv (cxOf CX P w K mg base N qual scope f cd A outer s H E) [] (start N vs) H s1:=by
 have hpl:ps.length≤N.length:=by have:=congrArg List.length S.pre;rw[List.length_take] at this;omega
 obtain⟨h1,tk,rfl,hk⟩:=x.done
 have noA:∀ b:Addr,b∉(cxOf CX P w K mg base N qual scope f cd A outer s H E).ex:=fun b z=>absurd (show b∈([]:List Addr) from z) (by simp)
 refine⟨⟨e0.mod,S.kind,rfl,rfl,Nat.le_refl _,fun y z c h1 h2=>?_,fun y hy=>?_,fun y c _ h=>?_,fun _=>hd,Around.frames_deeper e0.frames,.inr ⟨rfl,rfl⟩,fun b z=>absurd z (noA b),e0.bs,e0.bsz,fun b _ _=>noA b,fun b z=>absurd z (noA b),e0.funs,e0.frf⟩,
  rfl,e0.bare,Un.kept hk,⟨_,x.toInCall.ns,fun i y v h1 h2 h3=>?_⟩,fun y c h=>⟨_,x.cell y c h⟩,e0.hok.fresh (Nat.le_refl _),fun y c h=>?_,fun p hp=>absurd (show p∈([]:List (Addr×Obj)) from hp) (by simp),e0.hok.kept hk,?_⟩
 ·exact name_of_addr x.apart (PySem.mem_of_lookup h1) (PySem.mem_of_lookup h2)
 ·have hy:scope.names.lookup y=some .cell∨scope.names.lookup y=some .free:=hy
  rcases hy with hy | hy
  ·exact cell_has hy
  ·exact absurd rfl (S.nofree _ (PySem.mem_of_lookup hy))
 ·exact Nat.le_of_lt (x.above y c (PySem.mem_of_lookup h))
 ·have hi:i < vs.length:=by
   unfold start at h2
   by_cases hi:i < vs.length
   ·exact hi
   ·rw[List.getElem?_append_right (by simpa using hi)] at h2
    rw[List.getElem?_replicate] at h2
    split at h2<;>cases h2
  have ha:vs[i]?=some v:=by
   unfold start at h2
   rw[List.getElem?_append_left (by simpa using hi),List.getElem?_map] at h2
   cases e:vs[i]? with
   | none=>rw[e] at h2;cases h2
   | some a=>rw[e] at h2;cases h2;rfl
  obtain⟨u,hu,rv⟩:=r.get ha
  have hp:ps[i]?=some y:=by
   rw[← S.pre,List.getElem?_take_of_lt (by omega)];exact h1
  have ndP:ps.Nodup:=by rw[← S.pre];exact S.nd.sublist (List.take_sublist _ _)
  refine⟨u,rv,?_⟩
  rcases S.par y (List.mem_of_getElem? hp) with k | k
  ·exact .inl ⟨k,bindL_get ndP hp hu k⟩
  ·obtain⟨c,e⟩:=cell_has (n:=s.heap.objs.size+1) k
   refine .inr ⟨.inl k,c,e,?_⟩
   have q:=x.cell y c e
   rw[bindC_get ndP hp hu (by show scope.names.lookup y≠_;rw[k];decide)] at q
   exact q
 ·exact e0.hok.fresh (Nat.le_of_lt (x.above y c (PySem.mem_of_lookup h)))
 ·unfold start
  show _=N.length
  rw[List.length_append,List.length_map,List.length_replicate]
  omega
theorem fn_of{CX:CXT}{P:Program}{w:World}{K:PySem.W.Frag}{mg:Str→Option Value}{base:Heap}{k:Nat}{f:Addr}{name qual:Str}{params:Arguments}{body:List Stmt}{scope:Scope}{dV kV doc pm cdv ct oc:Value}{an od:Option Addr}
  {osl:Array (Option Value)} {N ps:List Str} {sp:Sp} (lk:K.lookup f=some ⟨oc,od,.func (PySem.W.fnOf name qual params body scope dV kV doc pm an cdv ct),osl⟩) (hcd:PySem.W.codeIn K cdv qual=true) (S:FnScope N ps scope)
  (len:∀ vs H Q E,sp vs H Q E→vs.length=ps.length)
  (hbody:∀(A:Around)(outer:List Env)(s:Shared)(H:Hp)(vs:List V)(Q:VK)(E:XK),Room k (A.deeper (envOfC qual scope s.heap.objs.size f cdv))→sp vs H Q E →
   ∃ t,PSs (cxOf CX P w K mg base N qual scope f cdv A outer s H E) body t∧t { nx:=fun _ H'=>Q .non H',rt:=Q } (start N vs) H) :
  FnOk P w K mg base CX (k+1) f (PySem.W.fnOf name qual params body scope dV kV doc pm an cdv ct) ps sp:=by
 refine⟨len,fun A outer s H args us vs Q E hr e0 hb r hsp=>?_⟩
 have hl:=len _ _ _ _ hsp
 have KX:K.In s.heap:=e0.mod.kin.keeps fun b o e=>(e0.bs b o e).1
 have lim:s.heap.NoLimit:=e0.mod.nolimit.keeps fun b o e=>(e0.bs b o e).1
 have hkind:∀ y∈ps.zip us,scope.names.lookup y.1=some .local∨(scope.names.lookup y.1=some .cell∧((cellsFrom (s.heap.objs.size+1) scope.names []).lookup y.1).isSome=true):=fun ⟨n,v⟩ hy=>by
  rcases S.par n (List.of_mem_zip hy).1 with q | q
  ·exact .inl q
  ·exact .inr ⟨q,PySem.W.cellsFrom_some _ _ _ (.inl q)⟩
 refine codeAny_call_function hr.depth (KX _ _ lk) rfl S.co S.gen rfl (PySem.W.codeRec_of KX hcd) (hb _ _ _ _ ?_)
 refine wpAny_newFunctionEnv_cells S.kind hkind fun env he s1 x=>?_
 subst he
 refine⟨lim.keeps x.toInCall.keep,codeAny_func ?_⟩
 obtain⟨t,ht,hq⟩:=hbody A outer s H vs Q E (hr.deeper _) hsp
 have I:Inv (cxOf CX P w K mg base N qual scope f cdv A outer s H E) [] (start N vs) H s1:=inv_start S hr.hd e0 hl r x
 refine wpAny_mono (ht [] s1 (start N vs) H _ I hq) (fun fl s' hs=>?_) fun e s' hs=>hs
 have fin:∀{σ':St}{H':Hp}{v:V}{u:Value},Inv (cxOf CX P w K mg base N qual scope f cdv A outer s H E) [] σ' H' s'→RelV v u→Q v H'→CE outer P w H s Q u s' :=
  fun {σ' H' v u} J rv q=>⟨v,H',J.os,J.bare,J.base,J.hok,rv,q⟩
 cases fl with
 | ret u =>
  obtain⟨v,σ',H',J,rv,q⟩:=hs
  exact fin J rv q
 | next =>
  obtain⟨σ',H',J,q⟩:=hs
  exact fin (v:=V.non) (u:=Value.none) J rfl q
 | brk =>
  obtain⟨_,_,_,q⟩:=hs
  exact False.elim q
 | cont =>
  obtain⟨_,_,_,q⟩:=hs
  exact False.elim q
end L2
namespace L2
open PySem PySem.Spec PyProof.Rows
section
variable {X:Cx}{x:Str}{p pos:Pos}{e:Expr}{es:List Expr}{t:TA}{id T:String}{r:List V→Hp→VK→Prop}
def tCB(r:List V→Hp→VK→Prop)(t:TA):TE:=fun σ H Q=>t σ H fun vs H1=>r vs H1 Q
theorem pe_callB(hc:CallR X (.builtin id) r)(hg:Gl X x)(hm:X.mg x=none)(hv:bootBuiltins x=some (.builtin id))(ha:PA X (e::es) t)(hn:x ≠ "__name__" := by decide)(hdb:(x == ("__debug__" : Str))=false:=by decide)
  (he:starEach (e::es) X.env=(false,eval e X.env)::starEach es X.env:=by rfl) (hpl:(backTo pos (starEach es X.env)).any (·.1)=false:=by rfl):PE X (.Call (.Name x p) (e::es) [] pos) (tCB r t):=by
 intro pins s σ H Q I h
 refine wpAny_Call_Name_kw (ld_blt I hg hm hv ?_ hn hdb)
 exact PyProof.Rows.callWith_builtin1 (thn (ha pos pins s σ H _ I h) fun us s1 ⟨vs,H1,I1,r1,q1⟩=>hc pins s1 σ H1 vs us Q I1 r1 q1) he hpl
theorem pe_callTy(hc:CallR X (.type T) r)(hg:Gl X x)(hm:X.mg x=none)(hv:bootBuiltins x=some (.type T))(ha:PA X (e::es) t)(hn:x ≠ "__name__" := by decide)(hdb:(x == ("__debug__" : Str))=false:=by decide)
  (he:starEach (e::es) X.env=(false,eval e X.env)::starEach es X.env:=by rfl) (hpl:(backTo pos (starEach es X.env)).any (·.1)=false:=by rfl):PE X (.Call (.Name x p) (e::es) [] pos) (tCB r t):=by
 intro pins s σ H Q I h
 refine wpAny_Call_Name_kw (ld_blt I hg hm hv ?_ hn hdb)
 exact PyProof.Rows.callWith_type1 (thn (ha pos pins s σ H _ I h) fun us s1 ⟨vs,H1,I1,r1,q1⟩=>hc pins s1 σ H1 vs us Q I1 r1 q1) he hpl
end
end L2
namespace HT
open PySem PyProof.Rows
def lexLt:List Int→List Int→Bool
 | [],[]=>false
 | [],_::_=>true
 | _::_,[]=>false
 | x::xs,y::ys=>if x=y then lexLt xs ys else decide (x < y)
theorem lexLt_cons(x y:Int)(xs ys:List Int):lexLt (x::xs) (y::ys)=if x=y then lexLt xs ys else decide (x < y):=rfl
theorem lexLt_nil_nil:lexLt [] []=false:=rfl
theorem lexLt_nil_cons(y:Int)(ys:List Int):lexLt [] (y::ys)=true:=rfl
theorem lexLt_cons_nil(x:Int)(xs:List Int):lexLt (x::xs) []=false:=rfl
theorem eqAt_int(A:Around)(s:Shared)(a:Int)(t:Tok)(c:Int)(u:Tok):∃ e,SeqAt.EqAt A s (.int a t) (.int c u) e∧(e=true↔a=c) :=
 ⟨(a == c),SeqAt.EqAt.int_int a t c u,by simp⟩
theorem rcLt_int(A:Around)(s:Shared)(a:Int)(t:Tok)(c:Int)(u:Tok)(prog:Program)(w:World)(E:Value→Shared→Prop)(Q:Value→Shared→Prop)(h:Q (.bool (decide (a < c))) s) :
  wpAny (model prog w) A (richCompare .Lt (.int a t) (.int c u)) Q E s :=
 (PyProof.Rows.lt_int h:wpAny (model prog w) A (compareOp .Lt (.int a t) (.int c u)) Q E s)
section
open PySem.SeqAt
open PySem.AutoSeq1 (wpAny_loadPart')
open PySem.MeetsSeq PySem.MeetsSeq2 PySem.MeetsSeq3
theorem tuple_lt_ints(l b:Addr)(items items2:Array Value)(n n2:Nat)(dd dd2:Option Addr)(sl sl2:Array (Option Value))(ns ms:List Int)(hi:IntsAre items.toList ns)(hj:IntsAre items2.toList ms) :
  Meets (Builtin.«tuple.__lt__» ⟨[.ref l,.ref b],[]⟩)
   (fun _ R s=>s.heap.get? l=some { cls:=.type "tuple", dict:=dd,data:=.seq items n,slots:=sl }∧s.heap.get? b=some { cls:=.type "tuple", dict:=dd2,data:=.seq items2 n2,slots:=sl2 } ∧
    R (.ok (.ret (.bool (lexLt ns ms)))) s) :=
 .of_wp fun prog w A R s h=>by
  obtain⟨hp,g,d,tk,os⟩:=s;obtain⟨hl,hb,h⟩:=h
  have f2:=AutoSeq1.sub_tuple_tuple
  have z1:items.size=ns.length:=by rw[← hi.length];simp
  have z2:items2.size=ms.length:=by rw[← hj.length];simp
  wp_walk using wpAny_loadPart' hl,wpAny_loadPart' hb,wpAny_forIn_list _ (fun rest b s'=>b.1=none∧s'=⟨hp,g,d,tk,os⟩∧∃(vs ws:List Value)(ns' ms':List Int),rest=vs.zip ws ∧
   IntsAre vs ns'∧IntsAre ws ms'∧ns'.length+items2.size=ms'.length+items.size∧R (.ok (.ret (.bool (lexLt ns' ms')))) ⟨hp,g,d,tk,os⟩) _
  case turn =>
   rintro ⟨y,x⟩ rest b s' ⟨hb',rfl,vs,ws,ns',ms',hz,hvi,hwi,hlen,hR⟩
   cases hvi with
   | nil=>rw[List.zip_nil_left] at hz;cases hz
   | cons a t hvi' =>
    cases hwi with
    | nil=>rw[List.zip_nil_right] at hz;cases hz
    | cons c u hwi' =>
     rw[List.zip_cons_cons] at hz
     injection hz with hyx hrest
     injection hyx with hy hx
     subst hy hx
     rw[lexLt_cons] at hR
     simp only[List.length_cons] at hlen
     obtain⟨e,he,hiff⟩:=eqAt_int A.in1 ⟨hp,g,d,tk,os⟩ a t c u
     refine wpAny_bind (he prog w _ _ ?_)
     cases e with
     | true =>
      rw[if_pos (hiff.mp rfl)] at hR
      wp_walk
      exact⟨rfl,rfl,_,_,_,_,hrest,hvi',hwi',by omega,hR⟩
     | false =>
      rw[if_neg (fun q=>absurd (hiff.mpr q) Bool.false_ne_true)] at hR
      have hri:=rcLt_int A.in1 ⟨hp,g,d,tk,os⟩ a t c u prog w
      wp_walk using hri
      exact⟨_,rfl,by simpa using hR⟩
  case fin =>
   rintro ⟨b1,b2⟩ s' ⟨hb',rfl,vs,ws,ns',ms',hz,hvi,hwi,hlen,hR⟩
   simp only at hb'
   subst hb'
   have hv:lexLt ns' ms'=decide (items.size < items2.size):=by
    cases hvi with
    | nil =>
     cases hwi with
     | nil =>
      simp only[List.length_nil] at hlen
      rw[lexLt_nil_nil]
      exact (decide_eq_false (by omega)).symm
     | cons c u hw =>
      simp only[List.length_nil,List.length_cons] at hlen
      rw[lexLt_nil_cons]
      exact (decide_eq_true (by omega)).symm
    | cons a t hv =>
     cases hwi with
     | nil =>
      simp only[List.length_nil,List.length_cons] at hlen
      rw[lexLt_cons_nil]
      exact (decide_eq_false (by omega)).symm
     | cons c u hw =>
      rw[List.zip_cons_cons] at hz
      cases hz
   rw[hv] at hR
   wp_walk
   exact⟨_,rfl,by simpa [Builtin.Tuple.tupleCompareSizes] using hR⟩
  case h =>
   exact⟨rfl,rfl,items.toList,items2.toList,ns,ms,rfl,hi,hj,by omega,h⟩
end
section
variable {prog:Program}{w:World}{A:Around}{E:Value→Shared→Prop}{s:Shared}
theorem cat_tup{t b:Addr}{vs ws:List Value}{Q:Value→Shared→Prop}(ht:IsTup s.heap t vs.toArray)(hb:IsTup s.heap b ws.toArray)(hv:vs≠[])
  (h1:ws=[]→Q (.ref t) s) (h2:ws≠[]→Q (.ref s.heap.objs.size) { s with heap:=s.heap.push { cls:=.type "tuple", data:=.seq (vs++ws).toArray } })
  (hsz:vs.length+ws.length≤sizeLine):wpAny (model prog w) A (binaryOp .Add (.ref t) (.ref b)) Q E s:=by
 obtain⟨⟨cls,dd,data,sl⟩,ho,hc,n,hd⟩:=id ht
 obtain⟨⟨cls2,dd2,data2,sl2⟩,ho2,hc2,n2,hd2⟩:=id hb
 simp only at hc hd hc2 hd2
 subst hc hd hc2 hd2
 have e:vs.toArray++ws.toArray=(vs++ws).toArray:=by simp
 by_cases hw:ws=[]
 ·exact concat_meets ⟨_,ho,rfl⟩ ⟨_,ho2,rfl⟩ noFill_tuple_add seq_tuple_add PySem.F.slot_tuple_add PySem.F.entry_tuple_add (PySem.F.args_tuple_add_2 _ _)
   (tuple_addW1 t b vs.toArray ws.toArray n n2 dd dd2 sl sl2 (by simpa using hv) (by simp[hw])) ⟨ho,ho2,h1 hw⟩
 ·refine concat_meets ⟨_,ho,rfl⟩ ⟨_,ho2,rfl⟩ noFill_tuple_add seq_tuple_add PySem.F.slot_tuple_add PySem.F.entry_tuple_add (PySem.F.args_tuple_add_2 _ _)
   (tuple_addW2 t b vs.toArray ws.toArray n n2 dd dd2 sl sl2 (by simpa using hv) (by simpa using hw) (by rw[List.size_toArray,List.size_toArray];exact hsz)) ⟨ho,ho2,?_⟩
  rw[e]
  exact h2 hw
def sIx(n d:Nat):Option Int→Nat
 | none=>d
 | some v=>if v < 0 then (v+(n:Int)).toNat else min v.toNat n
theorem sIx_none(n d:Nat):sIx n d none=d:=rfl
theorem sIx_nat(n d k:Nat):sIx n d (some (k:Int))=min k n:=by
 show (if (k:Int) < 0 then ((k:Int)+(n:Int)).toNat else min (k:Int).toNat n)=min k n
 rw[if_neg (by omega),Int.toNat_natCast]
theorem sIx_le(n d:Nat)(hd:d≤n)(o:Option Int):sIx n d o≤n:=by
 cases o with
 | none=>exact hd
 | some v =>
  show (if v < 0 then (v+(n:Int)).toNat else min v.toNat n)≤n
  by_cases hv:v < 0
  ·rw[if_pos hv];omega
  ·rw[if_neg hv];exact Nat.min_le_right _ _
theorem clip_eq(v:Int)(n d:Nat):(if v < 0 then max (v+(n:Int)) 0 else min v (n:Int))=((sIx n d (some v):Nat):Int):=by
 show (if v < 0 then max (v+(n:Int)) 0 else min v (n:Int))=(((if v < 0 then (v+(n:Int)).toNat else min v.toNat n):Nat):Int)
 by_cases hv:v < 0
 ·simp only[if_pos hv];omega
 ·simp only[if_neg hv];omega
theorem adjust_gen(lo hi:Option Int)(n:Nat):Builtin.Slice.sliceAdjust lo hi 1 (n:Int)=(((sIx n 0 lo:Nat):Int),((sIx n n hi:Nat):Int)):=by
 have h1:¬ ((1:Int) < 0):=by omega
 unfold Builtin.Slice.sliceAdjust
 simp only[h1,if_false]
 refine Prod.ext ?_ ?_
 ·cases lo with
  | none=>rfl
  | some v=>exact clip_eq v n 0
 ·cases hi with
  | none=>rfl
  | some v=>exact clip_eq v n n
theorem places_gen(i j:Nat):Builtin.Slice.slicePlaces (i:Int) (j:Int) 1=j - i:=by
 unfold Builtin.Slice.slicePlaces
 have h1:(1:Int) > 0:=by omega
 simp only[h1,if_true,Int.ediv_one]
 split<;>omega
theorem slicePart_{v:Value}{o:Option Int}{Q:Option Int→Shared→Prop}(p:IsPart v o)(h:Q o s):wpAny (model prog w) A (Builtin.Slice.slicePartIndex v) Q E s:=by
 cases p with
 | none=>exact slicePart_none h
 | int i t=>exact slicePart_int h
theorem sliceApplied_gen{sl:Addr}{vl vu:Value}{lo hi:Option Int}{n:Nat}{Q:Int×Int×Nat→Shared→Prop}(hs:s.heap.IsSliceOf sl vl vu .none)(pl:IsPart vl lo)(pu:IsPart vu hi)
  (h:Q (((sIx n 0 lo:Nat):Int),1,sIx n n hi - sIx n 0 lo) s):wpAny (model prog w) A (Builtin.Slice.sliceApplied (.ref sl) (pure (n:Int))) Q E s:=by
 obtain⟨os,hos,hcs,hds⟩:=id hs
 unfold Builtin.Slice.sliceApplied Builtin.Slice.sliceFields
 refine wpAny_bind (wpAny_bind (wpAny_field hos hds (x:=vl) rfl (wpAny_bind (wpAny_field hos hds (x:=vu) rfl (wpAny_bind (wpAny_field hos hds (x:=.none) rfl (wpAny_pure ?_)))))))
 refine wpAny_bind (slicePart_none ?_)
 show wpAny _ _ (if ((1:Int) == 0)=true then _ else _) _ _ s
 rw[if_neg (by decide)]
 refine wpAny_bind (slicePart_ pl (wpAny_bind (slicePart_ pu (wpAny_bind (wpAny_pure ?_)))))
 show wpAny _ _ (match Builtin.Slice.sliceAdjust lo hi 1 (n:Int) with | (lo,hi)=>pure (lo,(1:Int),Builtin.Slice.slicePlaces lo hi 1)) _ _ s
 rw[adjust_gen lo hi n]
 show wpAny _ _ (pure (((sIx n 0 lo:Nat):Int),(1:Int),Builtin.Slice.slicePlaces ((sIx n 0 lo:Nat):Int) ((sIx n n hi:Nat):Int) 1)) _ _ s
 rw[places_gen]
 exact wpAny_pure h
theorem pick_gen(xs:Array Value)(i k:Nat):((List.range k).filterMap fun (m:Nat)=>xs[((i:Int)+(m:Int)*1).toNat]?).toArray=((xs.toList.drop i).take k).toArray:=by
 have e:(fun (m:Nat)=>xs[((i:Int)+(m:Int)*1).toNat]?)=fun m=>xs[i+m]?:=by
  funext m
  have:((i:Int)+(m:Int)*1).toNat=i+m:=by omega
  rw[this]
 rw[e]
 have:=pick_run xs i k
 rw[List.filterMap_map] at this
 have e2:((fun x=>xs[x]?) ∘ fun x=>i+x)=fun m=>xs[i+m]?:=rfl
 rw[e2] at this
 rw[this]
theorem getItem_tuple_cut{t sl:Addr}{items:Array Value}{vl vu:Value}{lo hi:Option Int}{Q:Value→Shared→Prop}(ht:IsTup s.heap t items)(hs:s.heap.IsSliceOf sl vl vu .none)(pl:IsPart vl lo)(pu:IsPart vu hi)
  (hw:¬ (sIx items.size 0 lo=0∧sIx items.size items.size hi=items.size))
  (h:Q (.ref s.heap.objs.size) { s with heap:=s.heap.push { cls:=.type "tuple", data:=.seq ((items.toList.drop (sIx items.size 0 lo)).take (sIx items.size items.size hi - sIx items.size 0 lo)).toArray } })
  (hsz:items.size≤sizeLine):wpAny (model prog w) A (getItem (.ref t) (.ref sl)) Q E s:=by
 have htake:sizeOk (.seq ((items.toList.drop (sIx items.size 0 lo)).take (sIx items.size items.size hi - sIx items.size 0 lo)).toArray):=by
  show ((items.toList.drop (sIx items.size 0 lo)).take (sIx items.size items.size hi - sIx items.size 0 lo)).toArray.size≤sizeLine
  rw[List.size_toArray,List.length_take,List.length_drop,Array.length_toList]
  omega
 have hj:sIx items.size items.size hi≤items.size:=sIx_le _ _ (Nat.le_refl _) hi
 obtain⟨os,hos,hcs,hds⟩:=id hs
 have hTs:s.TypeIs (.ref sl) "slice" := ⟨os,hos,hcs⟩
 unfold getItem
 try with_reducible refine wpAny_holding ?_
 first | refine wpAny_bind (wpAny_pure ?_) | skip
 refine wpAny_bind (wpAny_sequenceKey ht.typeIs (by decide) ?_)
 refine wpAny_bind (wpAny_callSpecial?_slot (name:=Str.ofString "__getitem__") ht.typeIs PyProof.Rows.slot_tuple_getitem
  (wpAny_call_entry PyProof.Rows.slot_tuple_getitem ht.typeIs entry_tuple_getitem ?_ (args_tuple_getitem _ _)))
 show wpAny _ _ (Builtin.Tuple.tupleItemsOf (.ref t) >>= _) _ _ s
 refine wpAny_bind (tupleItemsOf_ ht ?_)
 refine wpAny_bind (wpAny_typeOf hTs ?_)
 rw[if_pos (by decide)]
 refine wpAny_bind (sliceApplied_gen hs pl pu ?_)
 have hno:¬ ((((sIx items.size 0 lo:Nat):Int) == 0 && (1:Int) == 1 && (sIx items.size items.size hi - sIx items.size 0 lo) == items.size)=true):=by
  intro q
  rw[Bool.and_eq_true,Bool.and_eq_true] at q
  have q1:((sIx items.size 0 lo:Nat):Int)=0:=eq_of_beq q.1.1
  have q2:sIx items.size items.size hi - sIx items.size 0 lo=items.size:=eq_of_beq q.2
  exact hw ⟨by omega,by omega⟩
 show wpAny _ _ (if (((sIx items.size 0 lo:Nat):Int) == 0 && (1:Int) == 1 && (sIx items.size items.size hi - sIx items.size 0 lo) == items.size)=true then _ else _) _ _ s
 rw[if_neg hno,pick_gen]
 first
  | exact wpAny_bind (m:=Builtin.Tuple.tupleExact _) (wpAny_newObj_type (wpAny_pure ⟨_,rfl,wpAny_pure h⟩) htake)
  | exact wpAny_bind (m:=Builtin.Tuple.tupleExact _) (wpAny_newObj_type (wpAny_bind (wpAny_pure (wpAny_pure ⟨_,rfl,wpAny_pure h⟩))) htake)
  | exact wpAny_bind (wpAny_bind (m:=Builtin.Tuple.tupleExact _) (wpAny_newObj_type (wpAny_pure (wpAny_pure ⟨_,rfl,wpAny_pure h⟩)) htake))
  | exact wpAny_bind (wpAny_bind (m:=Builtin.Tuple.tupleExact _) (wpAny_newObj_type (wpAny_pure ⟨_,rfl,wpAny_pure h⟩) htake))
end
end HT
namespace L2
open PySem PySem.Spec PyProof.Rows
abbrev TO:=St→Hp→(Option Int→Hp→Prop)→Prop
def PO(X:Cx)(e:Option Expr)(t:TO):Prop :=
 ∀ (pins:List (Addr×Obj)) (s:Shared) (σ:St) (H:Hp) (Q:Option Int→Hp→Prop),Inv X pins σ H s→t σ H Q →
  wpAny (model X.prog X.w) X.A (evalPart e X.env) (fun u s'=>∃ o H',Inv X pins σ H' s'∧IsPart u o∧Q o H') X.xe s
def tNoPart:TO:=fun _ H Q=>Q none H
def tPart(t:TE):TO:=fun σ H Q=>t σ H fun x H1=>∃ i,x=.int i∧Q (some i) H1
section
variable {X:Cx}{e:Expr}{te:TE}{lo hi:Option Expr}{tl th:TO}{pos p2:Pos}
theorem po_none:PO X none tNoPart:=by
 intro pins s σ H Q I h
 rw[evalPart_none]
 exact wpAny_pure ⟨none,H,I,.none,h⟩
theorem po_some(h:PE X e te):PO X (some e) (tPart te):=by
 intro pins s σ H Q I hw
 rw[evalPart_some]
 refine thn (h pins s σ H _ I hw) fun u s1 ⟨x,H1,I1,r1,q1⟩=>?_
 obtain⟨i,rfl,q⟩:=q1
 obtain⟨t,rfl⟩:=r1
 exact⟨some i,H1,I1,.int i t,q⟩
def SlR(X:Cx)(r:V→Option Int→Option Int→Hp→VK→Prop):Prop :=
 ∀ (pins:List (Addr×Obj)) (s:Shared) (σ:St) (H:Hp) (x:V) (v vl vu:Value) (lo hi:Option Int) (sl:Addr) (Q:VK),Inv X pins σ H s→RelV x v→s.heap.IsSliceOf sl vl vu .none→IsPart vl lo→IsPart vu hi→r x lo hi H Q →
  ∃ T id,typeLookup (.type T) "__getitem__" = pure (some (.builtin id))∧s.TypeIs v T∧wpAny (model X.prog X.w) X.A (getItem v (.ref sl)) (EP X pins σ Q) X.xe s
def tSl(r:V→Option Int→Option Int→Hp→VK→Prop)(te:TE)(tl th:TO):TE:=fun σ H Q=>te σ H fun x H1=>tl σ H1 fun l H2=>th σ H2 fun u H3=>r x l u H3 Q
theorem pe_slice{r:V→Option Int→Option Int→Hp→VK→Prop}(hr:SlR X r)(he:PE X e te)(hl:PO X lo tl)(hu:PO X hi th):PE X (.Subscript e (.Slice lo hi none p2) pos) (tSl r te tl th):=by
 intro pins s σ H Q I h
 refine Subscript_ (thn (he pins s σ H _ I h) fun v s1 ⟨x,H1,I1,r1,q1⟩=>?_)
 refine wpAny_Slice (thn (hl pins s1 σ H1 _ I1 q1) fun vl s2 ⟨l,H2,I2,pl,q2⟩=>thn (hu pins s2 σ H2 _ I2 q2) fun vu s3 ⟨u,H3,I3,pu,q3⟩=>?_)
 rw[evalPart_none]
 refine wpAny_pure ?_
 have I4:Inv X pins σ H3 { s3 with heap:=s3.heap.push { cls:=.type "slice", data:=.fields #[vl,vu,.none] } }:=I3.kept (t':=s3.toks) fun b ob q=>Heap.get?_push_of_some _ q
 obtain⟨T,id,hT,ht,hg⟩:=hr pins { s3 with heap:=s3.heap.push { cls:=.type "slice", data:=.fields #[vl,vu,.none] } } σ H3 x v vl vu l u s3.heap.objs.size Q I4 r1 (Heap.IsSliceOf.new ..) pl pu q3
 show wpAny (model X.prog X.w) X.A (subscriptTail e (.Slice lo hi none p2) v (.ref s3.heap.objs.size)) (EP X pins σ Q) X.xe { s3 with heap:=s3.heap.push { cls:=.type "slice", data:=.fields #[vl,vu,.none] } }
 exact tail_any (ops:=[.ref s3.heap.objs.size,v]) ht hT hg (by with_unfolding_all rfl)
def cutV(xs:List V)(lo hi:Option Int):List V:=(xs.drop (HT.sIx xs.length 0 lo)).take (HT.sIx xs.length xs.length hi - HT.sIx xs.length 0 lo)
theorem cutV_length(xs:List V)(lo hi:Option Int):(cutV xs lo hi).length≤xs.length:=by
 unfold cutV
 rw[List.length_take,List.length_drop]
 omega
def rSlT(K:PySem.W.Frag):V→Option Int→Option Int→Hp→VK→Prop:=fun x lo hi H Q=>∃ a xs,x=.ref a∧SqT K H a xs ∧
 ¬ (HT.sIx xs.length 0 lo=0∧HT.sIx xs.length xs.length hi=xs.length)∧∀ p,H p=none→Q (.ref p) (upd H p (.tup (cutV xs lo hi)))
theorem sl_tup:SlR X (rSlT X.K):=by
 intro pins s σ H x v vl vu lo hi sl Q I rx hs pl pu h
 obtain⟨a,xs,rfl,hx,hw,q⟩:=h
 cases rx
 obtain⟨its,r,ht,hz⟩:=I.tuple hx
 have hlen:its.toArray.size=xs.length:=by rw[List.size_toArray];exact r.length.symm
 refine⟨"tuple", _,PyProof.Rows.slot_tuple_getitem.lookup,ht.typeIs,?_⟩
 refine HT.getItem_tuple_cut ht hs pl pu (by rw[hlen];exact hw) ?_ (by rw[hlen];exact hz)
 rw[hlen]
 refine⟨.ref s.heap.objs.size,_,I.laid (t':=s.toks) (o:=.tup (cutV xs lo hi)) (fun b ob q=>Heap.get?_push_of_some _ q) (Nat.le_refl _) ?_,rfl,q _ (I.hok.fresh (Nat.le_refl _))⟩
 exact⟨Nat.le_trans (cutV_length xs lo hi) hz,_,(r.drop (HT.sIx xs.length 0 lo)).take (HT.sIx xs.length xs.length hi - HT.sIx xs.length 0 lo),IsTup.new _ _⟩
def rCatT(K:PySem.W.Frag):R2:=fun x y H Q=>∃ a b xs ys,x=.ref a∧y=.ref b∧SqT K H a xs∧SqT K H b ys∧xs≠[]∧xs.length+ys.length≤sizeLine ∧
 (ys=[]→Q (.ref a) H)∧(ys≠[]→∀ p,H p=none→Q (.ref p) (upd H p (.tup (xs++ys))))
theorem Vals.nil_iff{xs:List V}{us:List Value}(r:Vals xs us):us=[]↔xs=[]:=by
 cases r with
 | nil=>simp
 | cons _ _=>simp
theorem op_catT:OpR X (binaryOp .Add) (rCatT X.K):=by
 intro pins s σ H x y v u Q I rx ry h
 obtain⟨a,b,xs,ys,rfl,rfl,ha,hb,hx,hz,q1,q2⟩:=h
 cases rx
 cases ry
 obtain⟨its,r1,p1,_⟩:=I.tuple ha
 obtain⟨its2,r2,p2,_⟩:=I.tuple hb
 refine HT.cat_tup p1 p2 (fun z=>hx (r1.nil_iff.mp z)) (fun z=>⟨.ref a,H,I,rfl,q1 (r2.nil_iff.mp z)⟩) (fun z=>?_) (by rw[← r1.length,← r2.length];exact hz)
 refine⟨.ref s.heap.objs.size,_,I.laid (t':=s.toks) (o:=.tup (xs++ys)) (fun b ob q=>Heap.get?_push_of_some _ q) (Nat.le_refl _) ?_,rfl,q2 (fun w=>z (r2.nil_iff.mpr w)) _ (I.hok.fresh (Nat.le_refl _))⟩
 exact⟨by rw[List.length_append];exact hz,_,r1.append r2,IsTup.new _ _⟩
end
end L2
namespace L2
open PySem PySem.Spec PyProof.Rows
def ixN(n:Nat)(i:Int):Option Nat:=if 0≤i then (if i < n then some i.toNat else none) else if -(n:Int)≤i then some (i+n).toNat else none
def atI{α:Type}(xs:List α)(i:Int):Option α:=(ixN xs.length i).bind fun j=>xs[j]?
theorem ixN_seq{n:Nat}{i:Int}{j:Nat}(h:ixN n i=some j):seqIndex? i n=some j∧j < n∧-(n:Int)≤i∧i < n:=by
 unfold ixN at h
 by_cases h0:0≤i
 ·rw[if_pos h0] at h
  by_cases h1:i < n
  ·rw[if_pos h1] at h
   have e:i.toNat=j:=Option.some.inj h
   exact⟨by rw[seqIndex_of h0 h1,e],by omega,by omega,h1⟩
  ·rw[if_neg h1] at h;cases h
 ·rw[if_neg h0] at h
  by_cases h1:-(n:Int)≤i
  ·rw[if_pos h1] at h
   have e:(i+n).toNat=j:=Option.some.inj h
   exact⟨by rw[seqIndex_neg (by omega) h1,e],by omega,h1,by omega⟩
  ·rw[if_neg h1] at h;cases h
theorem atI_get{α:Type}{xs:List α}{i:Int}{v:α}(h:atI xs i=some v):∃ j,seqIndex? i xs.length=some j∧xs[j]?=some v∧j < xs.length∧-(xs.length:Int)≤i∧i < xs.length:=by
 unfold atI at h
 cases e:ixN xs.length i with
 | none=>rw[e] at h;cases h
 | some j =>
  rw[e] at h
  obtain⟨h1,h2,h3,h4⟩:=ixN_seq e
  exact⟨j,h1,h,h2,h3,h4⟩
theorem atI_nat{α:Type}{xs:List α}{j:Nat}{v:α}(h:xs[j]?=some v):atI xs (j:Int)=some v:=by
 have hj:j < xs.length:=(List.getElem?_eq_some_iff.mp h).1
 have e:ixN xs.length (j:Int)=some j:=by
  unfold ixN
  rw[if_pos (by omega),if_pos (by omega)];simp
 unfold atI;rw[e];exact h
def PlainIx(b:Expr):Prop:=∀ o i,subscripted b false o i=operate [o,i] (getItem o i)
def IxR(X:Cx)(r:R2):Prop :=
 ∀(value slice:Expr) (pins:List (Addr×Obj)) (s:Shared) (σ:St) (H:Hp) (x y:V) (v u:Value) (Q:VK),Inv X pins σ H s→RelV x v→RelV y u→r x y H Q →
  subscripted slice false v u=operate [v,u] (getItem v u)→wpAny (model X.prog X.w) X.A (subscriptTail value slice v u) (EP X pins σ Q) X.xe s
def MtR(X:Cx)(id:String)(r:V→List V→Hp→VK→Prop):Prop :=
 ∀ (pins:List (Addr×Obj)) (s:Shared) (σ:St) (H:Hp) (x:V) (xs:List V) (v:Value) (us:List Value) (Q:VK),Inv X pins σ H s→RelV x v→Vals xs us→r x xs H Q →
  wpAny (model X.prog X.w) X.A (call (.builtin id) (v::us)) (EP X pins σ Q) X.xe s
section
variable {X:Cx}{a b:Expr}{ta tb:TE}{pos:Pos}
theorem pe_ix{r:R2}(hr:IxR X r)(ha:PE X a ta)(hb:PE X b tb)(hs:PlainIx b):PE X (.Subscript a b pos) (tOp r ta tb):=by
 intro pins s σ H Q I h
 exact Subscript_ (binT ha hb I h fun v u s2 x y H2 I2 rx ry q=>hr a b pins s2 σ H2 x y v u Q I2 rx ry q (hs _ _))
def rIxL(K:PySem.W.Frag):R2:=fun x y H Q=>∃ p xs i v,x=.ref p∧y=.int i∧SqL K H p xs∧atI xs i=some v∧Q v H
def rIxT(K:PySem.W.Frag):R2:=fun x y H Q=>∃ p xs i v,x=.ref p∧y=.int i∧SqT K H p xs∧atI xs i=some v∧Q v H
theorem ix_list:IxR X (rIxL X.K):=by
 intro value slice pins s σ H x y v u Q I rx ry h hs
 obtain⟨p,xs,i,z,rfl,rfl,hq,he,q⟩:=h
 cases rx
 obtain⟨t,rfl⟩:=ry
 obtain⟨its,r,pl,hz⟩:=I.list hq
 obtain⟨j,h1,h2,h3,h4,h5⟩:=atI_get he
 obtain⟨w,ew,rw'⟩:=r.get h2
 have hl:=r.length
 have hn:=line63
 have fin:EP X pins σ Q w s:=⟨z,H,I,rw',q⟩
 by_cases h0:0≤i
 ·have hj:i.toNat=j:=by
   rw[seqIndex_of h0 h5] at h1
   exact Option.some.inj h1
  exact item_listR pl.isList h0 (by omega) (by rw[hj];simpa using ew) fin hs
 ·have hj:(i+(its.toArray.size:Int)).toNat=j:=by
   rw[seqIndex_neg (by omega) h4] at h1
   rw[List.size_toArray,← hl]
   exact Option.some.inj h1
  exact subscriptTail_builtinR (x:=w) pl.isList.typeIs slot_list_getitem.lookup
   (wpAny_getItem_list_neg (Q:=fun r s'=>r=w∧EP X pins σ Q r s') pl.isList (by omega) (by rw[List.size_toArray]<;>omega) (by omega) (by rw[hj];simpa using ew) ⟨rfl,fin⟩) hs
theorem ix_tup:IxR X (rIxT X.K):=by
 intro value slice pins s σ H x y v u Q I rx ry h hs
 obtain⟨p,xs,i,z,rfl,rfl,hq,he,q⟩:=h
 cases rx
 obtain⟨t,rfl⟩:=ry
 obtain⟨its,r,pl,hz⟩:=I.tuple hq
 obtain⟨j,h1,h2,h3,h4,h5⟩:=atI_get he
 obtain⟨w,ew,rw'⟩:=r.get h2
 have hl:=r.length
 have hn:=line63
 have fin:EP X pins σ Q w s:=⟨z,H,I,rw',q⟩
 exact subscriptTail_builtinR (x:=w) pl.typeIs slot_tuple_getitem.lookup
  (getItem_tuple (j:=j) (Q:=fun r s'=>r=w∧EP X pins σ Q r s') pl (by omega) (by omega) (by rw[List.size_toArray,← hl];exact h1) (by simpa using ew) ⟨rfl,fin⟩) hs
theorem mapSeq_set(its:List Value)(n j:Nat)(u:Value):Obj.mapSeq (·.setIfInBounds j u) { cls:=.type "list", data:=.seq its.toArray n }={ cls:=.type "list", data:=.seq (its.set j u).toArray n }:=by
 simp[Obj.mapSeq]
theorem Inv.lst{pins:List (Addr×Obj)}{σ:St}{H:Hp}{s:Shared}{p:Addr}{xs:List V}(I:Inv X pins σ H s)(h:H p=some (.lst xs)) :
  ∃(its:List Value)(n:Nat),Vals xs its∧s.heap.get? p=some { cls:=.type "list", data:=.seq its.toArray n }∧xs.length≤sizeLine:=by
 obtain⟨z,its,n,r,e⟩:=I.hok p _ h
 exact⟨its,n,r,e,z⟩
theorem Inv.lstUpd{pins:List (Addr×Obj)}{σ:St}{H:Hp}{s:Shared}{p:Addr}{xs ys:List V}{its its':List Value}{n n':Nat}{f:Obj→Obj}(I:Inv X pins σ H s)(h:H p=some (.lst xs))
  (ho:s.heap.get? p=some { cls:=.type "list", data:=.seq its.toArray n }) (hf:f { cls:=.type "list", data:=.seq its.toArray n }={ cls:=.type "list", data:=.seq its'.toArray n' }) (r:Vals ys its') (hz:ys.length≤sizeLine) (t:Nat) :
  Inv X pins σ (upd H p (.lst ys)) { s with heap:=s.heap.update p f,toks:=t }:=by
 have e:(s.heap.update p f).get? p=some { cls:=.type "list", data:=.seq its'.toArray n' }:=by
  rw[Heap.get?_update_self f ho (by rw[hf]<;>rfl),hf]
 refine I.write (x:=p) (e:=p) (by rw[h];trivial) (.inl rfl) (fun b u hb q=>(Heap.get?_update_other _ _ (Ne.symm hb)).trans q) ⟨_,e⟩ ?_
 exact⟨hz,its',n',r,e⟩
def rSetL:V→V→V→Hp→(Hp→Prop)→Prop:=fun o i v H Q=>∃ p xs k j,o=.ref p∧i=.int k∧H p=some (.lst xs)∧ixN xs.length k=some j∧Q (upd H p (.lst (xs.set j v)))
theorem set_list:PSet X rSetL:=by
 intro pins s σ H o i v ov iv u Q I ro ri rv h
 obtain⟨p,xs,k,j,rfl,rfl,hp,hj,q⟩:=h
 cases ro
 obtain⟨t,rfl⟩:=ri
 obtain⟨its,n,r,ho,hz⟩:=I.lst hp
 obtain⟨h1,h2,h3,h4⟩:=ixN_seq hj
 have hl:=r.length
 have hn:=line63
 have I':Inv X pins σ (upd H p (.lst (xs.set j v))) { s with heap:=s.heap.update p (Obj.mapSeq (·.setIfInBounds j u)) } :=
  I.lstUpd hp ho (mapSeq_set its n j u) (r.set rv j) (by rw[List.length_set];exact hz) s.toks
 by_cases h0:0≤k
 ·have hk:k.toNat=j:=by
   rw[seqIndex_of h0 h4] at h1
   exact Option.some.inj h1
  exact PySem.W.ki_setAt ho h0 (by omega) (by rw[List.size_toArray,← hl];exact h4) (by rw[hk];exact⟨_,I',q⟩)
 ·have hk:(k+(its.toArray.size:Int)).toNat=j:=by
   rw[seqIndex_neg (by omega) h3] at h1
   rw[List.size_toArray,← hl]
   exact Option.some.inj h1
  exact PySem.W.ki_setBack ho (by omega) (by rw[List.size_toArray,← hl];exact h3) (by omega) (by rw[hk];exact⟨_,I',q⟩)
theorem slice_bounds(lo hi:Option Int)(n:Nat):(sliceBounds lo hi none n).1=((HT.sIx n 0 lo:Nat):Int)∧(sliceBounds lo hi none n).2.1=((HT.sIx n n hi:Nat):Int)∧(sliceBounds lo hi none n).2.2=1:=by
 refine⟨?_,?_,rfl⟩
 ·cases lo with
  | none=>simp[sliceBounds,HT.sIx]
  | some i =>
   simp only[sliceBounds,HT.sIx,Option.getD_none,show (1:Int) > 0 by decide,if_true]
   by_cases h:i < 0
   ·simp only[h,if_true]<;>omega
   ·simp only[h,if_false]<;>omega
 ·cases hi with
  | none=>simp[sliceBounds,HT.sIx]
  | some i =>
   simp only[sliceBounds,HT.sIx,Option.getD_none,show (1:Int) > 0 by decide,if_true]
   by_cases h:i < 0
   ·simp only[h,if_true]<;>omega
   ·simp only[h,if_false]<;>omega
theorem slicePick_cut(its:List Value)(lo hi:Option Int):slicePick its.toArray lo hi none=((its.drop (HT.sIx its.length 0 lo)).take (HT.sIx its.length its.length hi - HT.sIx its.length 0 lo)).toArray:=by
 obtain⟨h1,h2,h3⟩:=slice_bounds lo hi its.toArray.size
 unfold slicePick
 rw[h1,h2,h3]
 simp only[sliceRange_one,pick_run,List.size_toArray]<;>rfl
def rSlL(K:PySem.W.Frag):V→Option Int→Option Int→Hp→VK→Prop:=fun x lo hi H Q=>∃ a xs,x=.ref a∧SqL K H a xs∧∀ p,H p=none→Q (.ref p) (upd H p (.lst (cutV xs lo hi)))
theorem sl_list:SlR X (rSlL X.K):=by
 intro pins s σ H x v vl vu lo hi sl Q I rx hs pl pu h
 obtain⟨a,xs,rfl,hx,q⟩:=h
 cases rx
 obtain⟨its,r,ht,hz⟩:=I.list hx
 have hlen:=r.length
 refine⟨"list", _,slot_list_getitem.lookup,ht.isList.typeIs,?_⟩
 refine wpAny_getItem_list_slice ht.isList hs pl pu .none (by simp) ?_ (by rw[List.size_toArray]<;>omega)
 rw[slicePick_cut,← hlen]
 refine⟨.ref s.heap.objs.size,_,I.laid (t':=s.toks) (o:=.lst (cutV xs lo hi)) (fun b ob q=>Heap.get?_push_of_some _ q) (Nat.le_refl _) ?_,rfl,q _ (I.hok.fresh (Nat.le_refl _))⟩
 exact⟨Nat.le_trans (cutV_length xs lo hi) hz,_,0,(r.drop (HT.sIx xs.length 0 lo)).take (HT.sIx xs.length xs.length hi - HT.sIx xs.length 0 lo),Heap.get?_push_size _ rfl⟩
def flatV:V→Bool
 | .non=>true
 | .bl _=>true
 | .int _=>true
 | .str _=>true
 | _=>false
def eqV:V→V→Bool
 | .non,.non=>true
 | .bl a,.bl b=>a == b
 | .bl a,.int b=>(if a then 1 else 0) == b
 | .int a,.bl b=>a == (if b then 1 else 0)
 | .int a,.int b=>a == b
 | .str a,.str b=>a == b
 | _,_=>false
theorem eqAt_V{A:Around}{s:Shared}{y x:V}{u v:Value}(ry:RelV y u)(rx:RelV x v)(fy:flatV y=true)(fx:flatV x=true):SeqAt.EqAt A s u v (eqV y x):=by
 cases y with
 | non =>
  cases ry
  cases x with
  | non=>cases rx;exact SeqAt.EqAt.same _
  | bl b=>cases rx;exact SeqAt.EqAt.none_bool b
  | int b=>obtain⟨t,rfl⟩:=rx;exact SeqAt.EqAt.none_int b t
  | str b=>obtain⟨t,rfl⟩:=rx;exact SeqAt.EqAt.none_str b t
  | _=>exact absurd (show false=true from fx) Bool.false_ne_true
 | bl a =>
  cases ry
  cases x with
  | non=>cases rx;exact SeqAt.EqAt.bool_none a
  | bl b=>cases rx;exact SeqAt.EqAt.bool_bool a b
  | int b=>obtain⟨t,rfl⟩:=rx;exact SeqAt.EqAt.bool_int a b t
  | str b=>obtain⟨t,rfl⟩:=rx;exact SeqAt.EqAt.bool_str a b t
  | _=>exact absurd (show false=true from fx) Bool.false_ne_true
 | int a =>
  obtain⟨t',rfl⟩:=ry
  cases x with
  | non=>cases rx;exact SeqAt.EqAt.int_none a t'
  | bl b=>cases rx;exact SeqAt.EqAt.int_bool a t' b
  | int b=>obtain⟨t,rfl⟩:=rx;exact SeqAt.EqAt.int_int a t' b t
  | str b=>obtain⟨t,rfl⟩:=rx;exact SeqAt.EqAt.int_str a t' b t
  | _=>exact absurd (show false=true from fx) Bool.false_ne_true
 | str a =>
  obtain⟨t',rfl⟩:=ry
  cases x with
  | non=>cases rx;exact SeqAt.EqAt.str_none a t'
  | bl b=>cases rx;exact SeqAt.EqAt.str_bool a t' b
  | int b=>obtain⟨t,rfl⟩:=rx;exact SeqAt.EqAt.str_int a t' b t
  | str b=>obtain⟨t,rfl⟩:=rx;exact SeqAt.EqAt.str_str a t' b t
  | _=>exact absurd (show false=true from fx) Bool.false_ne_true
 | _=>exact absurd (show false=true from fy) Bool.false_ne_true
def eqU(x:V)(u:Value):Bool:=match u with
 | .none=>eqV .non x
 | .bool b=>eqV (.bl b) x
 | .int i _=>eqV (.int i) x
 | .str z _=>eqV (.str z) x
 | _=>false
theorem eqU_of{x y:V}{u:Value}(r:RelV y u)(f:flatV y=true):eqU x u=eqV y x:=by
 cases y with
 | non=>cases r;rfl
 | bl b=>cases r;rfl
 | int i=>obtain⟨t,rfl⟩:=r;rfl
 | str z=>obtain⟨t,rfl⟩:=r;rfl
 | _=>exact absurd (show false=true from f) Bool.false_ne_true
theorem any_eqU{x:V}:∀{xs:List V}{us:List Value},Vals xs us→xs.all flatV=true→us.any (eqU x)=xs.any fun y=>eqV y x
 | _,_,.nil,_=>rfl
 | y::xs,u::us,.cons r t,f=>by
  rw[List.all_cons,Bool.and_eq_true] at f
  rw[List.any_cons,List.any_cons,eqU_of r f.1,any_eqU t f.2]
theorem mem_eqAt{A:Around}{s:Shared}{x:V}{v:Value}(rx:RelV x v)(fx:flatV x=true):∀{xs:List V}{us:List Value},Vals xs us→xs.all flatV=true→∀ u∈us,SeqAt.EqAt A s u v (eqU x u)
 | _,_,.nil,_=>fun u hu=>by cases hu
 | y::xs,u::us,.cons r t,f=>fun u' hu=>by
  rw[List.all_cons,Bool.and_eq_true] at f
  rcases List.mem_cons.mp hu with rfl | hu
  ·rw[eqU_of r f.1];exact eqAt_V r rx f.1 fx
  ·exact mem_eqAt rx fx t f.2 u' hu
def inV(x:V)(xs:List V):Bool:=xs.any fun y=>eqV y x
def rIn(K:PySem.W.Frag)(neg:Bool):R2:=fun x y H Q=>∃ p xs,y=.ref p∧(SqL K H p xs∨SqT K H p xs)∧flatV x=true∧xs.all flatV=true∧Q (.bl (if neg then !inV x xs else inV x xs)) H
theorem op_in_seq:OpR X (compareOp .In) (rIn X.K false):=by
 intro pins s σ H x y v u Q I rx ry h
 obtain⟨p,xs,rfl,hq,fx,fs,q⟩:=h
 cases ry
 rcases hq with hq | hq
 ·obtain⟨its,r,pl,hz⟩:=I.list hq
  refine SeqAt.in_listAt (eqU x) pl.isList (fun w hw=>mem_eqAt rx fx r fs w (by simpa using hw)) ⟨.bl _,H,I,rfl,?_⟩
  rw[show its.toArray.any (eqU x)=its.any (eqU x) by simp,any_eqU r fs]
  exact q
 ·obtain⟨its,r,pl,hz⟩:=I.tuple hq
  refine SeqAt.in_tupleAt (eqU x) pl (fun w hw=>mem_eqAt rx fx r fs w (by simpa using hw)) ⟨.bl _,H,I,rfl,?_⟩
  rw[show its.toArray.any (eqU x)=its.any (eqU x) by simp,any_eqU r fs]
  exact q
theorem op_notIn_seq:OpR X (compareOp .NotIn) (rIn X.K true):=by
 intro pins s σ H x y v u Q I rx ry h
 obtain⟨p,xs,rfl,hq,fx,fs,q⟩:=h
 cases ry
 rcases hq with hq | hq
 ·obtain⟨its,r,pl,hz⟩:=I.list hq
  refine SeqAt.notIn_listAt (eqU x) pl.isList (fun w hw=>mem_eqAt rx fx r fs w (by simpa using hw)) ⟨.bl _,H,I,rfl,?_⟩
  rw[show its.toArray.any (eqU x)=its.any (eqU x) by simp,any_eqU r fs]
  exact q
 ·obtain⟨its,r,pl,hz⟩:=I.tuple hq
  refine SeqAt.notIn_tupleAt (eqU x) pl (fun w hw=>mem_eqAt rx fx r fs w (by simpa using hw)) ⟨.bl _,H,I,rfl,?_⟩
  rw[show its.toArray.any (eqU x)=its.any (eqU x) by simp,any_eqU r fs]
  exact q
theorem call_len_seq:CallR X (.builtin "len") (fun xs H Q=>∃ p ys,xs=[.ref p]∧(SqL X.K H p ys∨SqT X.K H p ys)∧Q (.int ys.length) H):=by
 intro pins s σ H xs us Q I r h
 obtain⟨p,ys,rfl,hq,q⟩:=h
 obtain⟨u,rfl,rx⟩:=vals1 r
 cases rx
 have hn:=line63
 rcases hq with hq | hq
 ·obtain⟨its,r',pl,hz⟩:=I.list hq
  have hlen:=r'.length
  exact Calls.call_len_list pl.isList (by simp only[List.size_toArray]<;>omega) ⟨.int ys.length,H,I.tok _,⟨s.toks+1,by rw[List.size_toArray,hlen]⟩,q⟩
 ·obtain⟨its,r',pl,hz⟩:=I.tuple hq
  have hlen:=r'.length
  exact len_tuple pl (by simp only[List.size_toArray]<;>omega) ⟨.int ys.length,H,I.tok _,⟨s.toks+1,by rw[List.size_toArray,hlen]⟩,q⟩
theorem call_list_of:CallR X (.type "list") (fun xs H Q=>∃ p ys,xs=[.ref p]∧(SqL X.K H p ys∨SqT X.K H p ys)∧∀ l,H l=none→Q (.ref l) (upd H l (.lst ys))):=by
 intro pins s σ H xs us Q I r h
 obtain⟨p,ys,rfl,hq,q⟩:=h
 obtain⟨u,rfl,rx⟩:=vals1 r
 cases rx
 have fin:∀(its:List Value),Vals ys its→ys.length≤sizeLine→∀(h':Heap)(c':Nat),(∀ b o',s.heap.get? b=some o'→h'.get? b=some o') →
   h'.get? s.heap.objs.size=some { cls:=.type "list", dict:=none,data:=.seq its.toArray c',slots:=#[] }→EP X pins σ Q (.ref s.heap.objs.size) { s with heap:=h' }:=fun its r' hz h' c' kp e =>
  ⟨.ref s.heap.objs.size,_,I.laid (t':=s.toks) kp (Nat.le_refl _) (show ObjOk X.prog X.w _ h' _ (.lst ys) from ⟨hz,its,c',r',e⟩),rfl,q _ (I.hok.fresh (Nat.le_refl _))⟩
 rcases hq with hq | hq
 ·obtain⟨its,r',pl,hz⟩:=I.list hq
  have hlen:=r'.length
  obtain⟨o,ho,hc,n,hd⟩:=pl.isList
  exact call_list_seq p (.inl rfl) ho hc hd (fun h' c' kp e=>fin its r' hz h' c' kp e) (by simp only[List.size_toArray]<;>omega)
 ·obtain⟨its,r',pl,hz⟩:=I.tuple hq
  have hlen:=r'.length
  obtain⟨o,ho,hc,n,hd⟩:=pl
  exact call_list_seq p (.inr rfl) ho hc hd (fun h' c' kp e=>fin its r' hz h' c' kp e) (by simp only[List.size_toArray]<;>omega)
theorem call_tuple_of:CallR X (.type "tuple") (fun xs H Q=>∃ p ys,xs=[.ref p]∧((SqL X.K H p ys∧∀ l,H l=none→Q (.ref l) (upd H l (.tup ys)))∨(SqT X.K H p ys∧Q (.ref p) H))):=by
 intro pins s σ H xs us Q I r h
 obtain⟨p,ys,rfl,h⟩:=h
 obtain⟨u,rfl,rx⟩:=vals1 r
 cases rx
 rcases h with ⟨hq,q⟩ | ⟨hq,q⟩
 ·obtain⟨its,r',pl,hz⟩:=I.list hq
  have hlen:=r'.length
  refine call_tuple_list pl.isList (fun h' kp=>?_) (by simp only[List.size_toArray]<;>omega)
  have I1:Inv X pins σ H { s with heap:=h' }:=I.kept (t':=s.toks) kp
  have I2:Inv X pins σ (upd H h'.objs.size (.tup ys)) { s with heap:=h'.push { cls:=.type "tuple", data:=.seq its.toArray } } :=
   I1.laid (t':=s.toks) (fun b o e=>Heap.get?_push_of_some _ e) (Nat.le_refl _) (show ObjOk X.prog X.w _ _ _ (.tup ys) from ⟨hz,its,r',IsTup.new _ _⟩)
  exact⟨.ref h'.objs.size,_,I2,rfl,q _ (I1.hok.fresh (Nat.le_refl _))⟩
 ·obtain⟨its,r',pl,hz⟩:=I.tuple hq
  exact call_tuple_same pl ⟨.ref p,H,I,rfl,q⟩
def tyV(K:PySem.W.Frag)(T:String)(x:V)(H:Hp):Prop:=match x with
 | .str _=>T = "str"
 | .int _=>T = "int"
 | .ref p=>(T = "list" ∧ ∃ xs,SqL K H p xs)∨(T = "tuple" ∧ ∃ o,K.lookup p=some o∧o.cls=.type "tuple" ∧ o.dict=none) ∨
   (T = "dict" ∧ ((∃ kvs,H p=some (.dK kvs))∨∃ kvs,H p=some (.dT kvs)))∨(T = "set" ∧ ∃ S n,H p=some (.set S n))
 | _=>False
theorem tyV_is{pins:List (Addr×Obj)}{σ:St}{H:Hp}{s:Shared}{T:String}{x:V}{v:Value}(I:Inv X pins σ H s)(r:RelV x v)(ty:tyV X.K T x H) :
  s.TypeIs v T∧∀ a,v=.ref a→∃ ob,s.heap.get? a=some ob∧ob.dict=none:=by
 cases x with
 | str z =>
  obtain⟨t,rfl⟩:=r
  cases (show T = "str" from ty)
  exact⟨typeIs_str s z t,fun _ e=>nomatch e⟩
 | int i =>
  obtain⟨t,rfl⟩:=r
  cases (show T = "int" from ty)
  exact⟨typeIs_int s i t,fun _ e=>nomatch e⟩
 | ref p =>
  cases r
  rcases ty with ⟨rfl,xs,hq⟩ | ⟨rfl,o,hk,hc,hd⟩ | ⟨rfl,hk⟩ | ⟨rfl,S,n,hk⟩
  ·obtain⟨its,_,pl,_⟩:=I.list hq
   refine⟨pl.isList.typeIs,fun a e=>?_⟩
   cases e
   obtain⟨o,n,e,c,hd,_⟩:=pl
   exact⟨o,e,hd⟩
  ·refine⟨⟨o,I.kIn p o hk,hc⟩,fun a e=>?_⟩
   cases e
   exact⟨o,I.kIn _ o hk,hd⟩
  ·have z:∃ o,s.heap.get? p=some o∧o.ExactDict:=by
    rcases hk with ⟨kvs,hk⟩ | ⟨kvs,hk⟩
    ·obtain⟨_,_,_,_,o,_,_,e,ex,_⟩:=I.hok p _ hk
     exact⟨o,e,ex⟩
    ·obtain⟨_,_,_,_,o,_,_,e,ex,_⟩:=I.hok p _ hk
     exact⟨o,e,ex⟩
   obtain⟨o,e,ex⟩:=z
   refine⟨⟨o,e,ex.1⟩,fun a e2=>?_⟩
   cases e2
   exact⟨o,e,ex.2.1⟩
  ·obtain⟨o,_,_,_,e,ex,_⟩:=I.hok p _ hk
   refine⟨⟨o,e,ex.1⟩,fun a e2=>?_⟩
   cases e2
   exact⟨o,e,ex.2.1⟩
 | _=>exact False.elim ty
def tBM(K:PySem.W.Frag)(T:String)(r:V→List V→Hp→VK→Prop)(to:TE)(t:TA):TE:=fun σ H Q=>to σ H fun x H1=>tyV K T x H1∧t σ H1 fun xs H2=>r x xs H2 Q
variable {o e:Expr}{es:List Expr}{to:TE}{t:TA}{name:Str}{apos cpos:Pos}{T id:String}{r:V→List V→Hp→VK→Prop}
theorem pe_bm(pa:PlainAttrs T)(slot:Slot T name id)(hty:typeOf (.builtin id)=pure (.type "method_descriptor"))(hm:MtR X id r)(ho:PE X o to)(ha:PA X (e::es) t)
  (hbase:attributeBase o name X.env (eval o X.env)=eval o X.env:=by rfl)
  (hfew:((backTo cpos (starEach (e::es) X.env)).all (fun x=>!x.1) && (backToKw cpos (keywordEach [] X.env)).all (fun x=>x.1.isSome)
   && decide ((e::es).length+([]:List Keyword).length+(if ([]:List Keyword).isEmpty then 0 else 1) < 30))=true:=by rfl)
  (hline:(apos.endLine == cpos.line)=true:=by rfl) (hs:starEach (e::es) X.env=(false,eval e X.env)::starEach es X.env:=by rfl) (hplain:(backTo cpos (starEach es X.env)).any (·.1)=false:=by rfl) :
  PE X (.Call (.Attribute o name apos) (e::es) [] cpos) (tBM X.K T r to t):=by
 intro pins s σ H Q I h
 refine wpAny_Call_method_late hbase hfew hline rfl (thn (ho pins s σ H _ I h) fun v s1 ⟨x,H1,I1,r1,ty,q1⟩=>?_)
 obtain⟨h1,h2⟩:=tyV_is I1 r1 ty
 refine⟨T,id,pa,slot,hty,h1,h2,?_⟩
 have hA:=ha cpos pins s1 σ H1 _ I1 q1
 rw[hs] at hA ⊢
 refine Calls.callWith_builtin (by show (false || (backTo cpos (starEach es X.env)).any (·.1))=false;rw[hplain]<;>rfl) (Calls.evalArgs_plain ?_)
 exact thn hA fun us s2 ⟨vs,H2,I2,r2,q2⟩=>hm pins s2 σ H2 x vs v us Q I2 r1 r2 q2
end
end L2
namespace L2
open PySem PySem.Spec PyProof.Rows
def MtM(X:Cx)(id:String)(r:V→List V→Hp→VK→Prop):Prop :=
 ∀ (pins:List (Addr×Obj)) (s:Shared) (σ:St) (H:Hp) (x:V) (xs:List V) (v:Value) (us:List Value) (Q:VK),Inv X pins σ H s→RelV x v→Vals xs us→r x xs H Q →
  wpAny (model X.prog X.w) X.A (call (.builtin id) (v::us)) (EP X pins σ Q) X.xe s
theorem Vals.one:∀{x:V}{us:List Value},Vals [x] us→∃ u,us=[u]∧RelV x u
 | _,_,.cons r .nil=>⟨_,rfl,r⟩
theorem Vals.two:∀{x y:V}{us:List Value},Vals [x,y] us→∃ u v,us=[u,v]∧RelV x u∧RelV y v
 | _,_,_,.cons r (.cons q .nil)=>⟨_,_,rfl,r,q⟩
theorem Vals.reverse{xs:List V}{us:List Value}(h:Vals xs us):Vals xs.reverse us.reverse:=by
 induction h with
 | nil=>exact .nil
 | cons r t ih=>rw[List.reverse_cons,List.reverse_cons];exact Vals.append ih (.cons r .nil)
section
variable {X:Cx}{pins:List (Addr×Obj)}{σ:St}{H:Hp}{s:Shared}{l b:Addr}{xs ys zs:List V}
theorem Inv.lset{its its':List Value}{n:Nat}{f:Array Value→Array Value}{t':Nat}(I:Inv X pins σ H s)(hH:H l=some (.lst xs))
  (e:s.heap.get? l=some { cls:=.type "list", data:=.seq its.toArray n }) (hf:f its.toArray=its'.toArray) (hv:Vals ys its') (hz:ys.length≤sizeLine) :
  Inv X pins σ (upd H l (.lst ys)) { s with heap:=s.heap.update l (Obj.mapSeq f),toks:=t' }:=by
 have q:=PySem.IsL.update e f
 rw[hf] at q
 refine I.write (x:=l) (e:=l) (by rw[hH];exact trivial) (.inl rfl) (fun b' u hb hu=>(Heap.get?_update_other s.heap (Obj.mapSeq f) (Ne.symm hb)).trans hu) ⟨_,q⟩ ?_
 exact⟨hz,its',_,hv,q⟩
theorem Inv.lnew{its:List Value}{t':Nat}(I:Inv X pins σ H s)(hv:Vals ys its)(hz:ys.length≤sizeLine) :
  Inv X pins σ (upd H s.heap.objs.size (.lst ys)) { s with heap:=s.heap.push { cls:=.type "list", data:=.seq its.toArray },toks:=t' } :=
 I.laid (fun _ _ q=>Heap.get?_push_of_some _ q) (Nat.le_refl _) ⟨hz,its,0,hv,Heap.get?_push_size _ rfl⟩
theorem Inv.fresh(I:Inv X pins σ H s):H s.heap.objs.size=none:=I.hok.fresh (Nat.le_refl _)
theorem Inv.lstM(I:Inv X pins σ H s)(hH:H l=some (.lst xs)):xs.length≤sizeLine∧∃(its:List Value)(n:Nat),Vals xs its∧xs.length=its.length∧s.heap.get? l=some { cls:=.type "list", data:=.seq its.toArray n }:=by
 obtain⟨z,its,n,r,e⟩:=I.hok l _ hH
 exact⟨z,its,n,r,r.length,e⟩
end
section
variable {X:Cx}
def rAppend:V→List V→Hp→VK→Prop:=fun x vs H Q=>∃ l xs y,x=.ref l∧vs=[y]∧H l=some (.lst xs)∧xs.length < sizeLine∧Q .non (upd H l (.lst (xs++[y])))
theorem mt_append:MtM X "list.append" rAppend:=by
 intro pins s σ H x vs v us Q I rx rv h
 obtain⟨l,xs,y,rfl,rfl,hH,hz,q⟩:=h
 cases rx
 obtain⟨u,rfl,ru⟩:=rv.one
 obtain⟨z,its,n,r,hl,e⟩:=I.lstM hH
 refine call_meets F.slot_list_append ⟨_,e,rfl⟩ F.entry_list_append (F.args_list_append_2 _ _) (PySem.list_append l its.toArray n u (by rw[List.size_toArray];omega)) ⟨e,?_⟩
 refine⟨.non,_,I.lset (its':=its++[u]) hH e (by simp) (r.append (.cons ru .nil)) ?_,rfl,q⟩
 rw[List.length_append,List.length_singleton]
 omega
def rCat:R2:=fun x y H Q=>∃ l b xs zs,x=.ref l∧y=.ref b∧H l=some (.lst xs)∧H b=some (.lst zs)∧xs.length+zs.length≤sizeLine∧∀ p,H p=none→Q (.ref p) (upd H p (.lst (xs++zs)))
theorem op_cat:OpR X (binaryOp .Add) rCat:=by
 intro pins s σ H x y v u Q I rx ry h
 obtain⟨l,b,xs,zs,rfl,rfl,hH,hB,hz,q⟩:=h
 cases rx
 cases ry
 obtain⟨z,its,n,r,hl,e⟩:=I.lstM hH
 obtain⟨z2,its2,n2,r2,hl2,e2⟩:=I.lstM hB
 refine PySem.P.add_list e e2 ?_ (by rw[List.size_toArray,List.size_toArray];omega)
 have ea:its.toArray++its2.toArray=(its++its2).toArray:=by simp
 rw[ea]
 exact⟨.ref _,_,I.lnew (t':=s.toks) (r.append r2) (by rw[List.length_append];omega),rfl,q _ I.fresh⟩
end
section
variable {prog:Program}{w:World}{A:Around}{E:Value→Shared→Prop}{s:Shared}
end
section
variable {X:Cx}
end
end L2
namespace Att
open PySem PySem.W PySem.Calls PyProof.Rows
theorem ints_of_wellAll{P:Params}{h:Heap}:∀(ns:List Int)(vs:List Value),WellAll P h vs (ns.map WData.int)→IntsAre vs ns:=by
 intro ns
 induction ns with
 | nil =>
  intro vs w
  rw[List.map_nil] at w
  cases w
  exact .nil
 | cons n ns ih =>
  intro vs w
  rw[List.map_cons] at w
  cases w with
  | cons a b =>
   cases a
   exact .cons _ _ (ih _ b)
theorem script_of{l:OpenLaw}{n:Nat}(hn:l.most=some n){P:Params}{h:Heap}{args:List WData}{vals:List Value}
  (hpre:l.row.toRowW.claim.pre args=true) (hwl:WellAll P h vals args) :
  ∃ a vs ns,vals=[Value.ref a]∧args=[WData.list (ns.map WData.int)]∧h.get? a=some { cls:=.type "list", data:=.seq vs.toArray }∧IntsAre vs ns∧ns.length≤n:=by
 have hsh:WShape.hasAll [] args [.list .int]=true:=(pre_splitW hpre).1
 have hc:l.pre.holds [] { args:=args }=true:=(pre_splitW hpre).2
 obtain⟨d,r,rfl,h1,h2⟩:=hasAllW_cons hsh
 obtain rfl:=hasAllW_nil h2
 obtain⟨xs,rfl,h3⟩:=hasW_list h1
 obtain⟨ns,rfl⟩:=items_int h3
 have hlen:ns.length≤n:=by
  unfold OpenLaw.pre at hc
  have h4:(WTm.not (.lt (.lit (.int (n:Int))) (.len (.arg 0)))).holds [] { args:=[.list (ns.map .int)] }=true:=by
   have h4:=(holds_andW hc).1
   rw[hn] at h4
   exact h4
  have h5:=condW_of h4 (w_not (w_lt w_lit (w_len_list (w_arg rfl))))
  rw[List.length_map] at h5
  refine Nat.le_of_not_lt fun q=>?_
  have q':(n:Int) < ((ns.length:Nat):Int):=by omega
  first
   | (rw[decide_eq_true q'] at h5;exact absurd h5 (by decide))
   | (simp at h5;omega)
 cases hwl with
 | cons w1 w2 =>
  cases w2
  cases w1 with
  | list ho hall=>exact⟨_,_,ns,rfl,rfl,ho,ints_of_wellAll ns _ hall,hlen⟩
theorem post_true(l:OpenLaw)(args:List WData):l.row.toRowW.claim.post args (.bool true) args=true :=
 postW_of (r:=l.row.toRowW) (X:=(true == true))
  (show WShape.has [] (.bool true) .bool=true by first | rfl | decide | simp[WShape.has,WShape.arms,WShape.armsAll])
  (show (WTm.eq .res (.lit (.bool true))).value [] { args:=args,res:=some (.bool true),after:=args }=some (.bool (true == true)) from w_eq_bool (w_res rfl) w_lit) rfl
theorem attach_call{l:OpenLaw}{n:Nat}{q:Program}{loose:List Str}{XP:(Str→Option Value)→Heap→Prop}{YP:World→Heap→Prop}{d:DefRec}
  (hn:l.most=some n) (hdf:d.params.defaults=[])
  (call:∀(w:World)(s₀ s₁:Shared)(mg mb:Str→Option Value)(fa:Addr)(o:Obj)(pm cd doc:Value)(a:Addr)(vs:List Value)(ns:List Int),
   Ground q loose [] XP w s₀ mg mb s₁.heap→YP w s₁.heap →
   s₁.heap.get? fa=some o→o.data=.func (docDef d.name d.params d.body d.scope pm cd doc)→s₁.heap.CodeRec cd d.name→mg d.name=some (.ref fa) →
   s₁.heap.get? a=some { cls:=.type "list", data:=.seq vs.toArray }→IntsAre vs ns→ns.length≤n→s₁.gens=#[] →
   codeAny (model l.prog w) callerA (.call (.ref fa) ⟨[.ref a],[]⟩) (fun r s'=>r=.ok (.ret (.bool true))∧OldK s₁.heap s'.heap∧s'.os=s₁.os∧AllBare s'.gens) s₁) :
  WalkO q loose XP YP l.row.toRowW d [] (fun f vs=>PySem.call f vs):=by
 intro w s₀ s₁ mg mb G Y fa o pm cd doc dV kV ho hd hcd hD hmg hg args vals as hpre hlay hrd hwl hlo
 obtain rfl:dV=.none:=Dflts.none hD hdf
 obtain rfl:kV=.none:=Dflts.noKw hD
 obtain⟨a,vs,ns,rfl,rfl,hobj,hints,hlen⟩:=script_of hn hpre hwl
 refine enter_call (codeAny_mono (call w s₀ s₁ mg mb fa o pm cd doc a vs ns G Y ho (fd_plain hd) hcd hmg hobj hints hlen hg) fun r s' hq=>?_)
 obtain⟨rfl,h2,h3,h4⟩:=hq
 exact⟨.inl ⟨.bool true,.bool true,[],rfl,fun _=>rfl,.bool true,post_true l _,fun _=>⟨List.Pairwise.nil,fun _ hm=>(nomatch hm)⟩⟩,h2,h3,h4⟩
section
variable {prog:Program}{w:World}{A:Around}{E:Value→Shared→Prop}{s:Shared}{K:Frag}
end
end Att
namespace L2
open PySem PySem.Spec PyProof.Rows
theorem vals_ints:∀{vs:List Value}{ns:List Int},IntsAre vs ns→Vals (ns.map V.int) vs
 | _,_,.nil=>.nil
 | _,_,.cons n t h=>.cons ⟨t,rfl⟩ (vals_ints h)
def Only(H:Hp):Prop:=∀ b,H b=none∨∃ o xs,H b=some (.frz o (.lst xs))
theorem law_call{P:Program}{w:World}{K:PySem.W.Frag}{mg mb:Str→Option Value}{CX:CXT}{k:Nat}{fa a:Addr}{fd:FuncData}{x:Str}{sp:Sp}{s₁:Shared}{vs:List Value}{ns:List Int}
  (KX:K.In s₁.heap) (hns:s₁.heap.Ns mainGlobals mg) (hb:s₁.heap.Ns builtinsNs mb) (hbb:∀ x:Str,x ≠ "__name__" → mb x=bootBuiltins x) (hlim:s₁.heap.NoLimit) (hg:s₁.gens=#[])
  (ha:s₁.heap.get? a=some { cls:=.type "list", data:=.seq vs.toArray }) (hi:IntsAre vs ns) (hl:ns.length≤sizeLine) (hr:Room k callerA)
  (F:∀ base:Heap,K.In base→base.Ns mainGlobals mg→FnOk P w K mg base CX k fa fd [x] sp) (hbind:∀(s:Shared)(u:Value),BindsTo s fd ⟨[u],[]⟩ [(x,u)])
  (hsp:∀ H:Hp,Only H→SqL K H a (ns.map V.int)→sp [.ref a] H (fun v _=>v=.bl true) fun _ _ _=>False)
  (hCX:∀ H e s',CX [] H s₁ (fun _ _ _=>False) e s'→False) :
  codeAny (model P w) callerA (.call (.ref fa) ⟨[.ref a],[]⟩) (fun r s'=>r=.ok (.ret (.bool true))∧OldK s₁.heap s'.heap∧s'.os=s₁.os∧AllBare s'.gens) s₁:=by
 have rv:=vals_ints hi
 have lenV:=hi.length
 have core:∀ H:Hp,Only H→SqL K H a (ns.map V.int)→HOk P w H s₁.heap→(∀ b,H b≠none→b=a)→(H a≠none→K.lookup a=none) →
   codeAny (model P w) callerA (.call (.ref fa) ⟨[.ref a],[]⟩) (fun r s'=>r=.ok (.ret (.bool true))∧OldK s₁.heap s'.heap∧s'.os=s₁.os∧AllBare s'.gens) s₁:=by
  intro H hO hS hok hA hK
  have base_of:∀{b:Addr}{o:Obj},s₁.heap.get? b=some o→H b=none→(hidT s₁.heap H).get? b=some o:=fun e n=>hidT_get e n
  have noA:∀{b:Addr}{o:Obj}{es:Array DictEntry}{ep:Nat},s₁.heap.get? b=some o→o.data=.dict es ep→H b=none:=fun {b o es ep} e d=>by
   cases q:H b with
   | none=>rfl
   | some u =>
    have e':b=a:=hA b (by rw[q];simp)
    subst e'
    rw[ha] at e;cases e
    have d':Data.seq vs.toArray _=Data.dict es ep:=d
    cases d'
  have nsK:∀{b:Addr}{m:Str→Option Value},s₁.heap.Ns b m→(hidT s₁.heap H).Ns b m:=fun {b m} ⟨o,es,ep,e,d,r⟩=>⟨o,es,ep,base_of e (noA e d),d,r⟩
  have hKb:K.In (hidT s₁.heap H):=fun b o e=>base_of (KX b o e) (by
   cases q:H b with
   | none=>rfl
   | some u =>
    have e':b=a:=hA b (by rw[q];simp)
    subst e'
    rw[hK (by rw[q];simp)] at e;cases e)
  have hM:Mod K mg (hidT s₁.heap H):=⟨hKb,nsK hns,⟨mb,nsK hb,hbb⟩,let ⟨mc,h1,h2⟩:=hlim;⟨mc,nsK h1,h2⟩⟩
  have e0:Env0 P w K mg (hidT s₁.heap H) callerA [] s₁ H:=⟨rfl,hM,fun b o e=>of_hidT e,Nat.le_of_eq (hidT_size _ _),trivial,fun b hb=>absurd (show b∈([]:List Addr) from hb) (by simp),hok,.of_eq hg⟩
  refine codeAny_mono ((F _ hKb (nsK hns)).run callerA [] s₁ H ⟨[.ref a],[]⟩ [.ref a] [.ref a] _ _ hr e0 (hbind s₁ (.ref a)) (.cons rfl .nil) (hsp H hO hS)) fun r s' h=>?_
  cases r with
  | error e=>exact (hCX H e s' h).elim
  | ok fl =>
   cases fl with
   | next=>exact False.elim h
   | brk=>exact False.elim h
   | cont=>exact False.elim h
   | ret u =>
    obtain⟨v,H',os,bare,un,hok',r',q⟩:=h
    have q':v=.bl true:=q
    subst q'
    obtain rfl:u=Value.bool true:=r'
    refine⟨rfl,OldK.of_keep fun b o e=>?_,os,bare⟩
    cases q:H b with
    | none=>exact un.keep b o e q (by intro z;exact absurd (show b∈([]:List Addr) from z) (by simp)) (by simp)
    | some u =>
     rcases hO b with z | ⟨ob,xs,z⟩
     ·rw[q] at z;cases z
     ·have z2:=un.frzs b ob _ z
      obtain⟨e1,_⟩:=hok b _ z
      obtain⟨e2,_⟩:=hok' b _ z2
      rw[e] at e1;cases e1
      exact e2
 cases hk:K.lookup a with
 | some o =>
  have e:=KX a o hk
  rw[ha] at e
  cases e
  refine core (fun _=>none) (fun _=>.inl rfl) (.inr ⟨_,vs.toArray,_,hk,rfl,rfl,rfl,by rw[List.size_toArray,lenV];exact hl,by simpa using rv⟩) (fun b u z=>by have z':(none:Option HO)=some u:=z;cases z') (fun b z=>absurd rfl z) fun z=>absurd rfl z
 | none =>
  refine core (fun b=>if b=a then some (.frz { cls:=.type "list", data:=.seq vs.toArray } (.lst (ns.map V.int))) else none) (fun b=>?_) (.inl (.inr ⟨{ cls:=.type "list", data:=.seq vs.toArray },if_pos rfl⟩)) (fun b u z=>?_) (fun b z=>?_) fun _=>hk
  ·by_cases hb:b=a
   ·exact .inr ⟨_,_,if_pos hb⟩
   ·exact .inl (if_neg hb)
  ·by_cases hb:b=a
   ·have z':=(if_pos hb).symm.trans z
    cases z'
    subst hb
    exact⟨ha,by rw[List.length_map];exact hl,vs,_,rv,ha⟩
   ·have z':=(if_neg hb).symm.trans z
    cases z'
  ·by_cases hb:b=a
   ·exact hb
   ·exact absurd (if_neg hb) z
end L2
namespace L2
open PySem PySem.Spec PyProof.Rows
theorem walk_of{l:PySem.W.OpenLaw}{n k:Nat}{q:Program}{loose:List Str}{XP:(Str→Option Value)→Heap→Prop}{YP:World→Heap→Prop}{d:DefRec}{K:Params→PySem.W.Frag}{CX:World→CXT}{sp:World→Sp}{x:Str}
  (hn:l.most=some n) (hn2:n≤sizeLine) (hdf:d.params.defaults=[]) (hr:Room k callerA)
  (hY:∀(w:World)(h:Heap),YP w h→(K w.params).In h)
  (F:∀(w:World)(mg:Str→Option Value)(fa:Addr)(h:Heap),(K w.params).In h→h.Ns mainGlobals mg→mg d.name=some (.ref fa) →
   ∃ fd:FuncData,(∀(s:Shared)(u:Value),BindsTo s fd ⟨[u],[]⟩ [(x,u)]) ∧
    ∀ base:Heap,(K w.params).In base→base.Ns mainGlobals mg→FnOk l.prog w (K w.params) mg base (CX w) k fa fd [x] (sp w))
  (hsp:∀(w:World)(H:Hp)(a:Addr)(ns:List Int),ns.length≤n→Only H→SqL (K w.params) H a (ns.map V.int)→sp w [.ref a] H (fun v _=>v=.bl true) fun _ _ _=>False)
  (hCX:∀(w:World)(H:Hp)(s:Shared)(e:Value)(s':Shared),CX w [] H s (fun _ _ _=>False) e s'→False) :
  PySem.W.WalkO q loose XP YP l.row.toRowW d [] (fun f vs=>PySem.call f vs):=by
 refine Att.attach_call hn hdf fun w s₀ s₁ mg mb fa o pm cd doc a vs ns G Y ho hd hcd hmg hobj hints hlen hg=>?_
 have KX:=hY w _ Y
 obtain⟨fd,hb,hF⟩:=F w mg fa _ KX G.T.g hmg
 exact law_call KX G.T.g G.T.b G.T.builtins G.T.nolimit hg hobj hints (Nat.le_trans hlen hn2) hr hF hb (fun H hO hS=>hsp w H a ns hlen hO hS) fun H e s'=>hCX w H s₁ e s'
end L2
namespace L2
open PySem PySem.Spec PyProof.Rows
def defArgs(s:Stmt):Arguments:=match s with
 | .FunctionDef _ a _ _ _ _ _ _ _ _=>a
 | _=>{ posonlyargs:=[],args:=[],vararg:=none,kwonlyargs:=[],kw_defaults:=[],kwarg:=none,defaults:=[] }
def defBody(s:Stmt):List Stmt:=match s with
 | .FunctionDef _ _ b _ _ _ _ _ _ _=>b
 | _=>[]
def defScope(s:Stmt):Scope:=match s with
 | .FunctionDef _ _ _ _ _ _ sc _ _ _=>sc
 | _=>{ kind:=.function,names:=[],isGenerator:=false,isCoroutine:=false }
abbrev CX0:CXT:=fun _ _ _ _ _ _=>False
abbrev E0:XK:=fun _ _ _=>False
theorem pass0{X:Cx}:Passes CX0 X E0:=fun _ _ _ _ _ _ _ h=>h.elim
structure Fun(K:PySem.W.Frag)(x qual:Str)(st:Stmt)(f:Addr)(fd:FuncData):Prop where
 ex:∃(oc:Value)(od:Option Addr)(kV doc pm:Value)(an:Option Addr)(cdv ct:Value) (osl:Array (Option Value)),
  fd=PySem.W.fnOf x qual (defArgs st) (defBody st) (defScope st) .none kV doc pm an cdv ct∧K.lookup f=some ⟨oc,od,.func fd,osl⟩∧PySem.W.codeIn K cdv qual=true
 kp:PySem.W.keepIn K (.ref f)=true
section
variable {P:Program}{w:World}{K:PySem.W.Frag}{mg:Str→Option Value}{base:Heap}
theorem Fun.ok{x qual:Str}{st:Stmt}{f:Addr}{fd:FuncData}{N ps:List Str}{k:Nat}{sp:Sp}(F:Fun K x qual st f fd)(S:FnScope N ps (defScope st))(len:∀ vs H Q E,sp vs H Q E→vs.length=ps.length)
  (hbody:∀(cdv:Value)(A:Around)(outer:List Env)(s:Shared)(H:Hp)(vs:List V)(Q:VK)(E:XK),Room k (A.deeper (envOfC qual (defScope st) s.heap.objs.size f cdv))→sp vs H Q E →
   ∃ t,PSs (cxOf CX0 P w K mg base N qual (defScope st) f cdv A outer s H E).nox (defBody st) t∧t { nx:=fun _ H'=>Q .non H',rt:=Q } (start N vs) H):FnOk P w K mg base CX0 (k+1) f fd ps sp:=by
 obtain⟨oc,od,kV,doc,pm,an,cdv,ct,osl,rfl,lk,hcd⟩:=F.ex
 refine fn_of lk hcd S len fun A outer s H vs Q E hr hsp=>?_
 obtain⟨t,h,q⟩:=hbody cdv A outer s H vs Q E hr hsp
 exact⟨t,h.nox,q⟩
theorem Fun.binds{x qual:Str}{st:Stmt}{f:Addr}{fd:FuncData}{ps:List Str}(F:Fun K x qual st f fd)
  (h:∀(kV doc pm:Value)(an:Option Addr)(cdv ct:Value)(us:List Value),us.length=ps.length→bindArgs (PySem.W.fnOf x qual (defArgs st) (defBody st) (defScope st) .none kV doc pm an cdv ct) ⟨us,[]⟩=pure (ps.zip us)):Binds K fd ps []:=by
 obtain⟨oc,od,kV,doc,pm,an,cdv,ct,osl,rfl,lk,hcd⟩:=F.ex
 exact .all (h kV doc pm an cdv ct)
theorem fun_mk{x qual:Str}{st:Stmt}{f:Addr}{oc:Value}{od an:Option Addr}{osl:Array (Option Value)}{kV doc pm cdv ct:Value}(l:K.lookup f=some ⟨oc,od,.func (PySem.W.fnOf x qual (defArgs st) (defBody st) (defScope st) .none kV doc pm an cdv ct),osl⟩)
  (c:PySem.W.codeIn K cdv qual=true) (k:PySem.W.keepIn K (.ref f)=true):Fun K x qual st f (PySem.W.fnOf x qual (defArgs st) (defBody st) (defScope st) .none kV doc pm an cdv ct):=⟨⟨oc,od,kV,doc,pm,an,cdv,ct,osl,rfl,l,c⟩,k⟩
end
theorem small1000{n:Nat}(h:n≤1000):n < sizeLine:=Nat.lt_of_le_of_lt h (by decide)
section
variable {X:Cx}
theorem pv(i:Nat){x:Str}{pos:Pos}(hN:X.N[i]?=some x:=by rfl)(hv:Vis X.env.scope x:=by first | exact Or.inl rfl | exact Or.inr (Or.inl rfl) | exact Or.inr (Or.inr rfl))(hd:(x == ("__debug__" : Str))=false:=by decide)
  (hcd:(x == ("__classdict__" : Str))=false:=by decide):PE X (.Name x pos) (tVar i):=pe_var hN hv hd hcd
end
theorem ite2{c A B:Prop}[Decidable c](h1:c→A)(h2:¬ c→B):if c then A else B:=by
 by_cases h:c
 ·rw[if_pos h]
  exact h1 h
 ·rw[if_neg h]
  exact h2 h
def Same(H H':Hp):Prop:=∀ b o,H b=some o→H' b=some o
theorem Same.refl(H:Hp):Same H H:=fun _ _ h=>h
theorem Same.trans{H H1 H2:Hp}(a:Same H H1)(b:Same H1 H2):Same H H2:=fun c o h=>b c o (a c o h)
theorem Same.free{H H':Hp}(e:Same H H'){l:Addr}(h:H' l=Option.none):H l=Option.none:=by
 cases q:H l with
 | none=>rfl
 | some o =>
  rw[e l o q] at h
  cases h
theorem Same.seq{K:PySem.W.Frag}{H H':Hp}{a:Addr}{xs:List V}(e:Same H H')(h:SqL K H a xs):SqL K H' a xs:=by
 rcases h with (h | ⟨o,h⟩) | h
 ·exact .inl (.inl (e _ _ h))
 ·exact .inl (.inr ⟨o,e _ _ h⟩)
 ·exact .inr h
end L2
namespace L2
open PySem PySem.Spec PyProof.Rows
section
variable {P:Program}{w:World}{H H':Hp}{h h':Heap}{a:Addr}{o:HO}
theorem ObjOk.there(x:ObjOk P w H h a o):∃ ob,h.get? a=some ob:=by
 induction o with
 | lst xs=>obtain⟨_,its,n,_,e⟩:=x;exact⟨_,e⟩
 | tup xs=>obtain⟨_,its,_,ob,e,_⟩:=x;exact⟨_,e⟩
 | dK kvs=>obtain⟨_,_,vs,_,ob,es,ep,e,_⟩:=x;exact⟨_,e⟩
 | dT kvs=>obtain⟨_,_,xs,_,ob,es,ep,e,_⟩:=x;exact⟨_,e⟩
 | set S n=>obtain⟨ob,es,ep,tb,e,_⟩:=(x:h.SetOf (intKind P w) a S n);exact⟨_,e⟩
 | ins C dx fs=>obtain⟨_,_,_,e,_⟩:=x;exact⟨_,e⟩
 | own x'=>exact x
 | xd fs=>obtain⟨mA,⟨ob,es,ep,e,_⟩,_⟩:=x;exact⟨_,e⟩
 | met f y=>exact⟨_,x⟩
 | rng lo hi=>obtain⟨t,u,v,e⟩:=x;exact⟨_,e⟩
 | frz ob u ih=>exact⟨_,x.1⟩
 | tbl ps=>exact⟨_,x⟩
 | ext φ=>exact x.2.1
theorem HOk.stays(x:HOk P w H h)(k:∀ b u,H b≠none→h.get? b=some u→h'.get? b=some u):HOk P w H h':=fun a o e =>
 (x a o e).stay (fun b u hb q=>k b u (by
  rcases hb with z | z
  ·rw[z,e];exact Option.some_ne_none _
  ·rw[z];exact Option.some_ne_none _) q) (fun _ q=>q) fun _ _ q=>q
end
def Fly(outer:List Env)(H':Hp)(h₀ h':Heap)(e:Addr)(cls:Value):Prop :=
 ∃ B a0,Heap.FlyingW B outer e cls a0 h'∧∀ b o,h'.get? b=some o→(H' b≠none∨∃ o₀,h₀.get? b=some o₀)→b∉frs outer→B.get? b=some o
def CXR(P:Program)(w:World):CXT:=fun outer H s E e s'=>∃ ea cls H',e=.ref ea∧s'.os=s.os∧AllBare s'.gens∧Un (frs outer) [] H H' s.heap s'.heap∧HOk P w H' s'.heap∧Fly outer H' s.heap s'.heap ea cls∧E cls none H'
theorem frs_cons{env:Env}{l:List Env}{L:Addr}(hf:env.frame=some L){b:Addr}:b∈frs (env::l)↔b=L∨b∈frs l:=by
 unfold frs
 rw[List.filterMap_cons,hf]
 exact List.mem_cons
theorem Un.onSlots{fs fs':List Addr}{H H1:Hp}{h h1 h2:Heap}(u:Un fs [] H H1 h h1)(hsub:∀ b o,h.get? b=some o→b∈fs'→b∈fs)
  (k:∀ b o,(∃ o₀,h.get? b=some o₀)→h1.get? b=some o→b∉fs'→h2.get? b=some o) (sl:∀ b o,h1.get? b=some o→b∈fs'→∃ sl,h2.get? b=some { o with slots:=sl }):Un fs [] H H1 h h2 where
 keep:=fun b o e n hb hx=>k b o ⟨o,e⟩ (u.keep b o e n hb hx) fun z=>hb (hsub b o e z)
 slot:=fun b o e n hb hx=>by
  obtain⟨s1,e1⟩:=u.slot b o e n hb hx
  by_cases z:b∈fs'
  ·obtain⟨s2,e2⟩:=sl b _ e1 z
   exact⟨s2,e2⟩
  ·exact⟨s1,k b _ ⟨o,e⟩ e1 z⟩
 free:=u.free
 there:=fun b o e hx=>by
  obtain⟨o1,e1⟩:=u.there b o e hx
  by_cases z:b∈fs'
  ·obtain⟨s2,e2⟩:=sl b _ e1 z
   exact⟨_,e2⟩
  ·exact⟨_,k b _ ⟨o,e⟩ e1 z⟩
 tups:=u.tups
 frzs:=u.frzs
 tbls:=u.tbls
section
variable {P:Program}{w:World}{K:PySem.W.Frag}{mg:Str→Option Value}{base:Heap}{N:List Str}{qual:Str}{scope:Scope}{f:Addr}{cd:Value}{A:Around}{outer:List Env}{s:Shared}{H:Hp}{E:XK}
abbrev cxR(P:Program)(w:World)(K:PySem.W.Frag)(mg:Str→Option Value)(base:Heap)(N:List Str)(qual:Str)(scope:Scope)(f:Addr)(cd:Value)(A:Around)(outer:List Env)(s:Shared)(H:Hp)(E:XK):Cx :=
 cxOf (CXR P w) P w K mg base N qual scope f cd A outer s H E
theorem frame_slots{l:List Env}{B h h':Heap}(hl:h.FunFrames B l)(k:h.UpToSlots h'){b:Addr}{o:Obj}(hb:b∈frs l)(e:h.get? b=some o):∃ sl,h'.get? b=some { o with slots:=sl }:=by
 obtain⟨_,o',e',nf⟩:=hl.mem hb
 rw[e] at e'
 cases e'
 exact k b o e nf
theorem raised_xe{pins:List (Addr×Obj)}{σ:St}{H1:Hp}{s1:Shared}{h2:Heap}{e:Addr}{cls:Value}{vs:List Value}
  (I:Inv (cxR P w K mg base N qual scope f cd A outer s H E) pins σ H1 s1) (hx:Heap.MadeExcOf s1.heap h2 e cls vs) (hE:E cls none H1) :
  (cxR P w K mg base N qual scope f cd A outer s H E).xe (.ref e) { s1 with heap:=h2 }:=by
 have hF:=I.stack
 have hin:∀ env∈(envOfC qual scope s.heap.objs.size f cd::outer),∀ b,env.frame=some b→b∈(envOfC qual scope s.heap.objs.size f cd::outer).filterMap (·.frame):=fun env he b hb=>List.mem_filterMap.mpr ⟨env,he,hb⟩
 have hfr:(envOfC qual scope s.heap.objs.size f cd).frame=some s.heap.objs.size:=rfl
 refine wpAny_leaves_madeW (s:={ s1 with heap:=h2 }) (base:=PySem.W.hideAll s1.heap ((envOfC qual scope s.heap.objs.size f cd::outer).filterMap (·.frame))) (h:=s1.heap) I.ok.frames hfr (fun b o q=>PySem.W.of_hideAll _ q) (PySem.W.funFrames_hide hF hin) hx fun h' t x1 x2 x3 x4=>?_
 have k1:∀ b o,s1.heap.get? b=some o→b∉frs (envOfC qual scope s.heap.objs.size f cd::outer)→h'.get? b=some o:=fun b o q n=>x1.1 b o (PySem.W.hideAll_get _ q n)
 have hF2:h2.FunFrames base (envOfC qual scope s.heap.objs.size f cd::outer):=hF.of_keeps fun b o q _=>⟨o,hx.keeps b o q,rfl⟩
 have k2:∀ b o,s1.heap.get? b=some o→b∈frs (envOfC qual scope s.heap.objs.size f cd::outer)→∃ sl,h'.get? b=some { o with slots:=sl }:=fun b o q n=>frame_slots hF2 x4 n (hx.keeps b o q)
 have old:∀ b o,s.heap.get? b=some o→b∈frs (envOfC qual scope s.heap.objs.size f cd::outer)→b∈frs outer:=fun b o q z=>by
  rcases (frs_cons hfr).mp z with z | z
  ·rw[z] at q
   exact absurd (Heap.lt_size q) (Nat.lt_irrefl _)
  ·exact z
 have un:Un (frs outer) [] H H1 s.heap h':=Un.onSlots (show Un (frs outer) [] H H1 s.heap s1.heap from I.base) old (fun b o _=>k1 b o) k2
 refine⟨e,cls,H1,rfl,I.os,I.bare,un,I.hok.stays fun b u n q=>k1 b u q fun z=>n (I.stkFree b z),⟨_,_,x1,fun b o q hb hn=>?_⟩,hE⟩
 have hs:b∉frs (envOfC qual scope s.heap.objs.size f cd::outer):=fun z=>by
  rcases hb with hb | ⟨o₀,hb⟩
  ·exact hb (I.stkFree b z)
  ·exact hn (old b o₀ hb z)
 have h1:∃ o1,s1.heap.get? b=some o1:=by
  rcases hb with hb | ⟨o₀,hb⟩
  ·cases q':H1 b with
   | none=>exact absurd q' hb
   | some u=>exact (I.hok b u q').there
  ·exact I.base.there b o₀ hb (by intro z;exact absurd (show b∈([]:List Addr) from z) (by simp))
 obtain⟨o1,h1⟩:=h1
 have:=k1 b o1 h1 hs
 rw[q] at this
 cases this
 exact PySem.W.hideAll_get _ h1 hs
theorem fly_on{X:Cx}{pins:List (Addr×Obj)}{σ:St}{H1 H2:Hp}{s1:Shared}{h2 h3 B:Heap}{e:Addr}{cls a0:Value}(I:Inv X pins σ H1 s1)(u:Un (frs X.stack) [] H1 H2 s1.heap h2)(hok:HOk X.prog X.w H2 h2)
  (fl:Heap.FlyingW B X.stack e cls a0 h2) (hB:∀ b o,h2.get? b=some o→(H2 b≠none∨∃ o₀,s1.heap.get? b=some o₀)→b∉frs X.stack→B.get? b=some o) (st:B.StaysIn h3) (sm:h2.UpToSlots h3) :
  Un (frs X.stack) [] H1 H2 s1.heap h3∧HOk X.prog X.w H2 h3:=by
 have fr2:∀ b∈frs X.stack,H2 b=none:=fun b hb=>by
  obtain⟨_,o,q,_⟩:=I.stack.mem hb
  exact u.free b o q (I.stkFree b hb) (by simp)
 refine⟨Un.onSlots u (fun _ _ _ z=>z) (fun b o h0 q n=>st b o (hB b o q (.inr h0) n)) fun b o q n=>frame_slots fl.2.2.1 sm n q,hok.stays fun b v n q=>st b v (hB b v q (.inl n) fun z=>n (fr2 b z))⟩
theorem passR:Passes (CXR P w) (cxR P w K mg base N qual scope f cd A outer s H E) E:=by
 intro pins σ H1 s1 e s2 I hc
 obtain⟨ea,cls,H2,rfl,os,bare,u,hok,⟨B,a0,fl,hB⟩,hE⟩:=hc
 have hfr:(envOfC qual scope s.heap.objs.size f cd).frame=some s.heap.objs.size:=rfl
 refine wpAny_leaves_onW I.ok.frames hfr fl fun h' x1 x2=>?_
 obtain⟨u',hok'⟩:=fly_on I u hok fl hB x1.1 x2
 have old:∀ b o,s.heap.get? b=some o→b∈frs (envOfC qual scope s.heap.objs.size f cd::outer)→b∈frs outer:=fun b o q z=>by
  rcases (frs_cons hfr).mp z with z | z
  ·rw[z] at q
   exact absurd (Heap.lt_size q) (Nat.lt_irrefl _)
  ·exact z
 have ib:Un (frs outer) [] H H1 s.heap s1.heap:=I.base
 have hs2:∀ b,(∃ o₀,s.heap.get? b=some o₀)→∃ o1,s1.heap.get? b=some o1:=fun b ⟨o₀,q⟩=>ib.there b o₀ q (by simp)
 have un:Un (frs outer) [] H H2 s.heap h' :=
  {keep:=fun b o q n hb hx=>u'.keep b o (ib.keep b o q n hb hx) (ib.free b o q n hx) (fun z=>hb (old b o q z)) hx
   slot:=fun b o q n hb hx=>by
    obtain⟨s3,e3⟩:=ib.slot b o q n hb hx
    obtain⟨s4,e4⟩:=u'.slot b _ e3 (ib.free b o q n hx) ((frs_cons hfr).mpr (.inr hb)) hx
    exact⟨s4,e4⟩
   free:=fun b o q n hx=>by
    obtain⟨o1,e1⟩:=ib.there b o q hx
    exact u'.free b o1 e1 (ib.free b o q n hx) hx
   there:=fun b o q hx=>by
    obtain⟨o1,e1⟩:=ib.there b o q hx
    exact u'.there b o1 e1 hx
   tups:=fun b xs q=>u'.tups b xs (ib.tups b xs q)
   frzs:=fun b o v q=>u'.frzs b o v (ib.frzs b o v q)
   tbls:=fun b ps q=>by
    obtain⟨m1,q1⟩:=ib.tbls b ps q
    obtain⟨m2,q2⟩:=u'.tbls b _ q1
    exact⟨m1++m2,by rw[q2,Array.append_assoc]⟩ }
 refine⟨ea,cls,H2,rfl,os.trans I.os,bare,un,hok',⟨B,a0,x1,fun b o q hb hn=>?_⟩,hE⟩
 have fr2:∀ b∈frs (envOfC qual scope s.heap.objs.size f cd::outer),H2 b=none:=fun b hb=>by
  obtain⟨_,o,q,_⟩:=I.stack.mem hb
  exact u.free b o q (I.stkFree b hb) (by simp)
 have hs:b∉frs (envOfC qual scope s.heap.objs.size f cd::outer):=fun z=>by
  rcases hb with hb | ⟨o₀,hb⟩
  ·exact hb (fr2 b z)
  ·exact hn (old b o₀ hb z)
 have h1:∃ o2,s2.heap.get? b=some o2:=by
  rcases hb with hb | hb
  ·cases q':H2 b with
   | none=>exact absurd q' hb
   | some v=>exact (hok b v q').there
  ·obtain⟨o1,e1⟩:=hs2 b hb
   exact u.there b o1 e1 (by simp)
 obtain⟨o2,e2⟩:=h1
 have hBb:=hB b o2 e2 (hb.imp id (hs2 b)) hs
 have:=x1.1 b o2 hBb
 rw[q] at this
 cases this
 exact hBb
theorem passR0{X:Cx}:Passes (CXR P w) X E0:=fun _ _ _ _ _ _ _ h=>by
 obtain⟨_,_,_,_,_,_,_,_,_,z⟩:=h
 exact z.elim
end
abbrev veTail:List Value:=[.type "ValueError", .type "Exception", .type "BaseException", .type "object"]
structure Exc(K:PySem.W.Frag)(mg:Str→Option Value)(x:Str)(C:Addr):Prop where
 bound:mg x=some (.ref C)
 isIn:PySem.W.excIn K C veTail "ValueError.__new__" = true
theorem Exc.obj{K:PySem.W.Frag}{mg:Str→Option Value}{x:Str}{C:Addr}{h:Heap}(O:Exc K mg x C)(X:K.In h) :
  ∃ bm N nm q bs hdct sn sub ab col dd k0 k1 k2 k3 k5 mN,h.get? C=some (excClassObj nm q C N bs bm hdct sn sub ab col dd k0 k1 k2 k3 k5 "ValueError.__new__")∧h.Ns N mN∧mN "__init__" = none∧OwnTail h veTail bm:=by
 have q:=O.isIn
 unfold PySem.W.excIn at q
 split at q
 case h_2=>cases q
 rename_i dd cd sl ho
 split at q
 case h_2=>cases q
 rename_i C' bm k0 k1 k2 k3 n k5 hm hs
 simp only[Bool.and_eq_true,beq_iff_eq,Bool.not_eq_true'] at q
 obtain⟨⟨⟨⟨⟨e1,e2⟩,hdel⟩,ht⟩,hok⟩,hni⟩:=q
 subst e1;subst e2
 cases cd with
 | mk nm bs mro ns qn hd sn sub ab col del =>
  dsimp only at hm hdel hok hni
  subst hm;subst hdel
  obtain rfl:sl=#[k0,k1,k2,k3,some (.builtin "ValueError.__new__"),k5]:=by
   cases sl with
   | mk l=>exact congrArg Array.mk hs
  exact⟨bm,ns,nm,qn,bs,hd,sn,sub,ab,col,dd,k0,k1,k2,k3,k5,_,X _ _ ho,.of_isNs (PySem.W.isNs_of_in X hok),PySem.W.nsMap_none_of_in X hok hni,PySem.W.tail_of_in X ht⟩
def Raises(X:Cx)(E:XK):Prop:=∀ (pins:List (Addr×Obj)) (σ:St) (H:Hp) (s:Shared) (h':Heap) (e:Addr) (cls:Value) (vs:List Value),Inv X pins σ H s→Heap.MadeExcOf s.heap h' e cls vs→E cls none H→X.xe (.ref e) { s with heap:=h' }
theorem raisesR{P:Program}{w:World}{K:PySem.W.Frag}{mg:Str→Option Value}{base:Heap}{N:List Str}{qual:Str}{scope:Scope}{f:Addr}{cd:Value}{A:Around}{outer:List Env}{s:Shared}{H:Hp}{E:XK} :
  Raises (cxR P w K mg base N qual scope f cd A outer s H E) E:=fun _ _ _ _ _ _ _ _ I hx hE=>raised_xe I hx hE
def tRaise(C:Addr)(E:XK)(t:TA):TS:=fun _ σ H=>t σ H fun vs H1=>vs.length≤sizeLine∧E (.ref C) none H1
theorem ps_raise{X:Cx}{E:XK}{x:Str}{C:Addr}{np cpos pos:Pos}{e:Expr}{es:List Expr}{t:TA}(hR:Raises X E)(O:Exc X.K X.mg x C)(hc:X.calm=true)(hg:Gl X x)(ha:PA X (e::es) t)
  (hdb:(x == ("__debug__" : Str))=false:=by decide) (he:starEach (e::es) X.env=(false,eval e X.env)::starEach es X.env:=by rfl) (hpl:(backTo cpos (starEach es X.env)).any (·.1)=false:=by rfl) :
  PS X (.Raise (some (.Call (.Name x np) (e::es) [] cpos)) none pos) (tRaise C E t):=by
 intro pins s σ H D I h
 obtain⟨tl,Nn,nm,q,bs,hdct,sn,sub,ab,col,dd,k0,k1,k2,k3,k5,mN,hC,hN,hni,T⟩:=O.obj I.ok.mod.kin
 refine wpAny_Raise_call_subT (C:=C) (nm:=nm) (q:=q) (N:=Nn) (bs:=bs) (bm:=tl) (hdct:=hdct) (sn:=sn) (sub:=sub) (ab:=ab) (col:=col) (dd:=dd) (k0:=k0) (k1:=k1) (k2:=k2) (k3:=k3) (k5:=k5)
  PySem.F.excBase_ValueError (mN:=mN) (T.hasType PySem.F.excBase_ValueError.hasBase) (I.ok.hd hc) (by rw[he];show (false || (backTo cpos (starEach es X.env)).any (·.1))=false;rw[hpl];rfl) hni (ld_glob I hg O.bound ⟨rfl,?_⟩ hdb)
 have hp:=ha cpos pins s σ H _ I h
 rw[he] at hp ⊢
 refine Calls.evalArgs_plain (thn hp fun us s2 ⟨vs,H1,I1,r,hl,hE⟩=>⟨rfl,?_,I1.bk _ _ hC,hN.keeps I1.bk,T.keeps I1.bk,fun h' e' hm=>hR pins σ H1 s2 h' e' _ us I1 hm hE⟩)
 show us.length≤sizeLine
 rw[← r.length]
 exact hl
abbrev XEx:=Value→St→Hp→Prop
abbrev Cx.pinned(X:Cx)(pn:List (Addr×Obj)):Cx:={ X with pn:=pn }
def tCallX(sp:Sp)(EX:XEx)(t:TA):TE:=fun σ H Q=>t σ H fun vs H1=>sp vs H1 Q fun cls _ H2=>EX cls σ H2
def tTry(C:Addr)(tb:XEx→TS)(th:TS):TS:=fun D σ H=>tb (fun cls σ' H'=>cls=.ref C∧th D σ' H') D σ H
theorem Fun.okR{P:Program}{w:World}{K:PySem.W.Frag}{mg:Str→Option Value}{base:Heap}{x qual:Str}{st:Stmt}{f:Addr}{fd:FuncData}{N ps:List Str}{k:Nat}{sp:Sp}(F:Fun K x qual st f fd)(S:FnScope N ps (defScope st))(len:∀ vs H Q E,sp vs H Q E→vs.length=ps.length)
  (hbody:∀(cdv:Value)(A:Around)(outer:List Env)(s:Shared)(H:Hp)(vs:List V)(Q:VK)(E:XK),Room k (A.deeper (envOfC qual (defScope st) s.heap.objs.size f cdv))→sp vs H Q E →
   ∃ t,PSs (cxR P w K mg base N qual (defScope st) f cdv A outer s H E) (defBody st) t∧t { nx:=fun _ H'=>Q .non H',rt:=Q } (start N vs) H):FnOk P w K mg base (CXR P w) (k+1) f fd ps sp:=by
 obtain⟨oc,od,kV,doc,pm,an,cdv,ct,osl,rfl,lk,hcd⟩:=F.ex
 exact fn_of lk hcd S len fun A outer s H vs Q E hr hsp=>hbody cdv A outer s H vs Q E hr hsp
end L2
namespace L2
open PySem PySem.Spec PyProof.Rows
theorem closure_ex{env:Env}:∀ (names:List (Str×NameKind)) (cs:List (Str×Addr)),(∀ y∈names,y.2=.free→∃ c,env.cells.lookup y.1=some c)→(∀ y c,cs.lookup y=some c→env.cells.lookup y=some c) →
  ∃ cl:List (Str×Addr),(forIn names cs fun (x:Str×NameKind) (r:List (Str×Addr))=>(if (x.2 == NameKind.free)=true then (cellOf env x.1 >>= fun a=>(pure (ForInStep.yield ((x.1,a)::r)):Sem _)) else pure (ForInStep.yield r)))=(pure cl:Sem (List (Str×Addr))) ∧
   (∀ y c,cl.lookup y=some c→env.cells.lookup y=some c)∧(∀ y c,cs.lookup y=some c→∃ c',cl.lookup y=some c')∧∀ y∈names,y.2=.free→∃ c,cl.lookup y.1=some c
 | [],cs,_,h2=>⟨cs,rfl,h2,fun y c e=>⟨c,e⟩,fun _ z=>nomatch z⟩
 | (n,k)::r,cs,h1,h2=>by
  have h1':∀ y∈r,y.2=.free→∃ c,env.cells.lookup y.1=some c:=fun y hy=>h1 y (List.mem_cons_of_mem _ hy)
  by_cases hk:k=.free
  ·subst hk
   obtain⟨c,hc⟩:=h1 (n,.free) List.mem_cons_self rfl
   obtain⟨cl,e,a1,a2,a3⟩:=closure_ex r ((n,c)::cs) h1' (fun y c' hy=>by
    rw[List.lookup_cons] at hy
    split at hy
    ·rename_i hyn
     have:y=n:=by simpa using hyn
     subst this
     cases hy
     exact hc
    ·exact h2 y c' hy)
   refine⟨cl,?_,a1,fun y c' hy=>?_,fun y hy hf=>?_⟩
   ·rw[List.forIn_cons]
    have e1:cellOf env n=(pure c:Sem Addr):=by unfold cellOf;rw[hc]
    simp only[beq_self_eq_true,if_true,e1,pure_bind]
    exact e
   ·by_cases hyn:(y == n)=true
    ·exact a2 y c (by rw[List.lookup_cons,hyn])
    ·exact a2 y c' (by rw[List.lookup_cons];simp only[hyn];exact hy)
   ·rcases List.mem_cons.mp hy with rfl | hy
    ·exact a2 n c (by rw[List.lookup_cons];simp)
    ·exact a3 y hy hf
  ·obtain⟨cl,e,a1,a2,a3⟩:=closure_ex r cs h1' h2
   refine⟨cl,?_,a1,a2,fun y hy hf=>?_⟩
   ·rw[List.forIn_cons]
    have hb:(k == NameKind.free)=false:=by simpa using hk
    simp only[hb,Bool.false_eq_true,if_false,pure_bind]
    exact e
   ·rcases List.mem_cons.mp hy with rfl | hy
    ·exact absurd hf hk
    ·exact a3 y hy hf
theorem closure_of{env:Env}{scope:Scope}(h:∀ y∈scope.names,y.2=.free→∃ c,env.cells.lookup y.1=some c) :
  ∃ cl,closureFor scope env=pure cl∧(∀ y c,cl.lookup y=some c→env.cells.lookup y=some c)∧∀ y∈scope.names,y.2=.free→∃ c,cl.lookup y.1=some c:=by
 obtain⟨cl,e,a1,_,a3⟩:=closure_ex (env:=env) scope.names [] h (fun y c z=>by simp at z)
 refine⟨cl,?_,a1,a3⟩
 unfold closureFor
 refine Eq.trans (congrArg (fun z=>z >>= fun (r:List (Str×Addr))=>(pure r:Sem (List (Str×Addr)))) ?_) (by rw[pure_bind])
 exact e
abbrev Cx.comp(X:Cx)(N':List Str)(scope:Scope)(cl:List (Str×Addr))(C:Addr)(fp:List Addr)(s2:Shared)(H2:Hp):Cx :=
 { X with N:=N',s₀:=s2,H₀:=H2,env:=compEnvC scope cl C X.env,outer:=X.stack,ex:=fp,fn:=fun _=>false,pn:=[],xe:=fun _ _=>False }
def PFs(X:Cx)(ifs:List Expr)(t:TT):Prop :=
 ∀ (pins:List (Addr×Obj)) (s:Shared) (σ:St) (H:Hp) (Q:Bool→Hp→Prop),Inv X pins σ H s→t σ H Q →
  wpAny (model X.prog X.w) X.A (forIn ifs true fun c r=>if r=true then do let ok ← isTrue c X.env (eval c X.env);pure (ForInStep.yield ok) else pure (ForInStep.yield r)) (TP X pins σ Q) X.xe s
def tYes:TT:=fun _ H Q=>Q true H
theorem pf_nil{X:Cx}:PFs X [] tYes:=fun _ _ _ H _ I h=>wpAny_tests_nil ⟨H,I,h⟩
theorem pf_one{X:Cx}{c:Expr}{t:TT}(h:PT X c t):PFs X [c] t:=fun pins s σ H Q I q=>wpAny_tests_one (h pins s σ H Q I q)
def compSt(n:Nat)(js:List Nat)(σ:St):St:=List.replicate n none++js.map fun j=>(σ[j]?).join
def Ext(σ σ':St):Prop:=σ.length=σ'.length∧∀(i:Nat) v,σ[i]?=some (some v)→σ'[i]?=some (some v)
def GExt(g:TG)(n:Nat):Prop:=∀(r:St) x H Q,g x (List.replicate n none++r) H Q→g x (List.replicate n none++r) H fun σ2 H2=>Ext (List.replicate n none++r) σ2∧Q σ2 H2
theorem ext_set{n k:Nat}(hk:k < n)(r:St){σ:St}(e:Ext (List.replicate n none++r) σ)(v:V):Ext (List.replicate n none++r) (σ.set k (some v)):=by
 refine⟨by rw[List.length_set];exact e.1,fun i w h=>?_⟩
 by_cases hi:i=k
 ·subst hi
  rw[List.getElem?_append_left (by simpa using hk),List.getElem?_replicate] at h
  split at h<;>cases h
 ·rw[List.getElem?_set_ne (fun z=>hi z.symm)]
  exact e.2 i w h
theorem Ext.refl(σ:St):Ext σ σ:=⟨rfl,fun _ _ h=>h⟩
theorem gext_name{n k:Nat}(hk:k < n):GExt (gName k) n:=fun r x H Q h=>⟨ext_set hk r (Ext.refl _) x,h⟩
def tComp(n:Nat)(js:List Nat)(wi:TI)(g:TG)(tt:TT)(te:TE):TE:=fun σ H Q=>wi σ H fun J H1=>∀ l,H1 l=none→∃ W:Nat→Nat→List V→Hp→Prop,(∃ m,W 0 m [] (upd H1 l (.lst [])))∧∀ i m acc H,W i m acc H →
 (J.stop i H∧Q (.ref l) H)∨(J.go i H∧∃ N:List V→Hp→Prop,(∀ acc' H',N acc' H'→∃ m',m' < m∧W (i+1) m' acc' H') ∧
  ∀ x H',J.yld i H x H'→g x (compSt n js σ) H' fun σ2 H2=>tt σ2 H2 fun b H3=>if b=true then te σ2 H3 fun y H4=>H4 l=some (.lst acc)∧acc.length < sizeLine∧N (acc++[y]) (upd H4 l (.lst (acc++[y]))) else N acc H3)
section
variable {prog:Program}{w:World}{A:Around}{R:Result→Shared→Prop}{s:Shared}
theorem compLoop_any{elt tg iter:Expr}{ifs:List Expr}{scope:Scope}{pos:Pos}{it acc:Value}{env:Env}(I:Nat→Shared→Prop){E:Value→Shared→Prop}(hE:∀ e s',E e s'→False)
  (turn:∀ n s,I n s→wpAny (model prog w) A (pyNext it) (fun r s₁=>match r with
   | none=>R (.ok .next) s₁
   | some v=>wpAny (model prog w) A (letOwnedTupleGo tg it v) (fun _ s₁=>wpAny (model prog w) A (assign tg env v) (fun _ s₂ =>
     wpAny (model prog w) A (forIn ifs true fun c r=>if r=true then do let ok ← isTrue c env (eval c env);pure (ForInStep.yield ok) else pure (ForInStep.yield r)) (fun ok s₃ =>
      if ok=true then wpAny (model prog w) A (eval elt env) (fun x s₄=>wpAny (model prog w) A (call (.builtin "list.append") [acc,x]) (fun _ s₅=>∃ m,m < n∧I m s₅) E s₄) E s₃
      else ∃ m,m < n∧I m s₃) E s₂) E s₁) E s₁) E s)
  (n:Nat) (h:I n s):codeAny (model prog w) A (.compLoop (.ListComp elt [⟨tg,iter,ifs,0⟩] scope pos) 0 it acc env) R s:=by
 refine codeAny_loop rfl I (fun n s hI=>?_) n h
 show wpAny _ A ((compTurn (.ListComp elt [⟨tg,iter,ifs,0⟩] scope pos) 0 it acc env).onRaise (fun x=>do noteFrame x env;theTreesLotGoes x)) _ _ s
 refine wpAny_noted ?_
 rw[compTurn_list]
 have up:∀{α:Type}{t:Sem α}{Q:α→Shared→Prop}{E':Value→Shared→Prop}{s:Shared},wpAny (model prog w) A t Q E s→wpAny (model prog w) A t Q E' s:=fun h=>wpAny_mono h (fun _ _ z=>z) fun _ _ z=>(hE _ _ z).elim
 refine wpAny_bind (wpAny_standAt (wpAny_bind (up (wpAny_mono (turn n s hI) (fun r s₁ h₁=>?_) fun _ _ z=>z))))
 cases r with
 | none=>exact wpAny_pure h₁
 | some v =>
  refine wpAny_bind (up (thn h₁ fun _ s₂ h₂=>wpAny_bind (up (thn h₂ fun _ s₃ h₃=>wpAny_bind (up (thn h₃ fun ok s₄ h₄=>?_))))))
  cases ok with
  | false=>exact wpAny_pure ⟨rfl,h₄⟩
  | true=>exact wpAny_bind (wpAny_bind (up (thn h₄ fun x s₅ h₅=>wpAny_bind (up (thn h₅ fun _ s₆ h₆=>wpAny_pure (wpAny_pure ⟨rfl,h₆⟩))))))
end
section
variable {X:Cx}
theorem Inv.fpComp{pins:List (Addr×Obj)}{σ:St}{H H':Hp}{s:Shared}{fp:List Addr}{N':List Str}{scope:Scope}{cl:List (Str×Addr)}{C:Addr}(I:Inv X pins σ H s)(f:∀ b∈fp,FpOk X pins H b)
  (hb:∀ b∈fp,b < s.heap.objs.size) (hC:s.heap.objs.size≤C) (hcl:∀ y c,cl.lookup y=some c→X.env.cells.lookup y=some c) (hn:∀ b∈fp,H' b=none) :
  ∀ b∈fp,FpOk (X.comp N' scope cl C fp s H) [] H' b:=fun b z=>by
 obtain⟨_,f1,f2,f3,f4,f5⟩:=f b z
 exact⟨hn b z,Nat.ne_of_lt (Nat.lt_of_lt_of_le (hb b z) hC),fun q=>(List.mem_cons.mp (I.stkSub b q)).elim f1 f2,.inl z,fun x c e=>f4 x c (hcl x c e),fun p hp=>absurd (show p∈([]:List (Addr×Obj))++[] from hp) (by simp)⟩
theorem Inv.comp{pins:List (Addr×Obj)}{σ:St}{H:Hp}{s s4:Shared}{fp:List Addr}{own:List Str}{fr:List (Str×Nat)}{scope:Scope}{cl:List (Str×Addr)}{C D:Addr}(I:Inv X pins σ H s)(f:∀ b∈fp,FpOk X pins H b)
  (hb:∀ b∈fp,b < s.heap.objs.size) (hkind:scope.kind=.function) (hcell:∀ y∈scope.names,y.2≠.cell)
  (hcl:∀ y c,cl.lookup y=some c→X.env.cells.lookup y=some c) (hcl2:∀ y∈scope.names,y.2=.free→∃ c,cl.lookup y.1=some c)
  (hfr:∀ p∈fr,X.N[p.2]?=some p.1∧(X.env.kindOf p.1=some .cell∨X.env.kindOf p.1=some .free)∧(p.1,NameKind.free)∈scope.names∧((relabel scope X.env).names.lookup p.1=some .cell∨(relabel scope X.env).names.lookup p.1=some .free))
  (hD:s.heap.objs.size≤D) (hC:s.heap.objs.size≤C) (hCD:C≠D) (hns:s4.heap.Ns C (fun _=>none)) (k:∀ b o,s.heap.get? b=some o→s4.heap.get? b=some o) (hl:s4.heap.get? D=some { cls:=.type "list", data:=.seq ([]:List Value).toArray })
  (os:s4.os=s.os) (bare:AllBare s4.gens):Inv (X.comp (own++fr.map (·.1)) scope cl C fp s H) [] (compSt own.length (fr.map (·.2)) σ) (upd H D (.lst [])) s4:=by
 have fresh:∀ b,s.heap.objs.size≤b→H b=none:=fun b h=>I.hok.fresh h
 have cellLt:∀ y c,X.env.cells.lookup y=some c→c < s.heap.objs.size:=fun y c e=>by
  obtain⟨v,q⟩:=I.cell y c e
  exact q.lt
 have relK:∀ y,((relabel scope X.env).names.lookup y=some .cell∨(relabel scope X.env).names.lookup y=some .free)→∃ z∈scope.names,z.1=y∧z.2=.free:=fun y h=>by
  have mem:∃ kk,(y,kk)∈(relabel scope X.env).names∧(kk=.cell∨kk=.free):=by
   rcases h with h | h
   ·exact⟨_,PySem.mem_of_lookup h,.inl rfl⟩
   ·exact⟨_,PySem.mem_of_lookup h,.inr rfl⟩
  obtain⟨kk,hm,hk⟩:=mem
  obtain⟨⟨n,k0⟩,hz,e⟩:=List.mem_map.mp hm
  refine⟨(n,k0),hz,?_,?_⟩
  ·dsimp only at e
   split at e<;>cases e<;>rfl
  ·dsimp only at e ⊢
   split at e
   ·rename_i hc
    simp only[Bool.and_eq_true,beq_iff_eq] at hc
    exact hc.1.1
   ·cases e
    rcases hk with hk | hk
    ·exact absurd hk (hcell _ hz)
    ·exact hk
 have ok:(X.comp (own++fr.map (·.1)) scope cl C fp s H).Ok :=
  {mod:=I.ok.mod
   kind:=hkind
   glob:=I.ok.glob
   blt:=I.ok.blt
   above:=hC
   inj:=fun x y c e1 e2=>I.ok.inj x y c (hcl x c e1) (hcl y c e2)
   has:=fun y hy=>by
    obtain⟨z,hz,rfl,hf⟩:=relK y hy
    exact hcl2 z hz hf
   cab:=fun x c z=>by cases (show false=true from z)
   hd:=I.ok.hd
   frames:=I.ok.frames
   stk:=.inl rfl
   exf:=fun b z=>⟨Nat.ne_of_lt (Nat.lt_of_lt_of_le (hb b z) hC),fun x c e=>(f b z).2.2.2.2.1 x c (hcl x c e)⟩
   bs:=fun b o e=>I.bs b o e
   bsz:=Nat.le_trans I.ok.bsz I.sz
   noex:=fun b o e z=>by
    obtain⟨_,_,_,h4,_⟩:=f b z
    rcases h4 with h4 | h4
    ·exact I.ok.noex b o e h4
    ·exact absurd (Heap.lt_size (I.ok.bs b o e).1) (Nat.not_lt.mpr h4)
   exfs:=fun b z q=>(List.mem_cons.mp (I.stkSub b q)).elim (f b z).2.1 (f b z).2.2.1
   funs:=I.stack
   frf:=I.stkFree }
 refine⟨ok,os,bare,Un.laid k hD (fresh D hD),⟨fun _=>none,hns,fun i x v h1 h2 h3=>?_⟩,fun x c e=>?_,?_,fun x c e=>?_,fun p hp=>absurd (show p∈([]:List (Addr×Obj))++[] from hp) (by simp),I.hok.laid k hD ⟨Nat.zero_le _,[],0,.nil,hl⟩,?_⟩
 ·-- a closed-over name
  have h2':(compSt own.length (fr.map (·.2)) σ)[i]?=some (some v):=h2
  have h1':(own++fr.map (·.1))[i]?=some x:=h1
  unfold compSt at h2'
  by_cases hi:i < own.length
  ·rw[List.getElem?_append_left (by simpa using hi),List.getElem?_replicate] at h2'
   split at h2'<;>cases h2'
  ·rw[List.getElem?_append_right (by simpa using hi),List.length_replicate,List.getElem?_map,List.getElem?_map] at h2'
   rw[List.getElem?_append_right (by omega),List.getElem?_map] at h1'
   cases e:fr[i - own.length]? with
   | none=>rw[e] at h1';cases h1'
   | some p =>
    rw[e] at h1' h2'
    have hx:p.1=x:=Option.some.inj h1'
    have hv:(σ[p.2]?).join=some v:=Option.some.inj h2'
    have hv':σ[p.2]?=some (some v):=by
     cases q:σ[p.2]? with
     | none=>rw[q] at hv;cases hv
     | some o=>rw[q] at hv;rw[show o=some v from hv]
    obtain⟨hN,hkx,hmem,hrel⟩:=hfr p (List.mem_of_getElem? e)
    obtain⟨m,hn,hl2⟩:=I.loc
    obtain⟨u,r,lk⟩:=hl2 p.2 p.1 v hN hv' (hkx.elim (fun z=>.inr (.inl z)) fun z=>.inr (.inr z))
    rcases lk with ⟨lk,_⟩ | ⟨_,c,hc,hcell'⟩
    ·rcases hkx with z | z
     ·rw[lk] at z;cases z
     ·rw[lk] at z;cases z
    ·subst hx
     obtain⟨c',hc'⟩:=hcl2 _ hmem rfl
     have:=hcl _ _ hc'
     rw[hc] at this
     cases this
     refine⟨u,r,.inr ⟨hrel,c,hc',?_⟩⟩
     obtain⟨ob,e1,e2⟩:=hcell'
     exact⟨ob,k _ _ e1,e2⟩
 ·obtain⟨v,ob,e1,e2⟩:=I.cell x c (hcl x c e)
  exact⟨v,ob,k _ _ e1,e2⟩
 ·show upd H D (.lst []) C=none
  rw[upd_ne hCD]
  exact fresh C hC
 ·rw[upd_ne (Nat.ne_of_lt (Nat.lt_of_lt_of_le (cellLt x c (hcl x c e)) hD))]
  exact I.freeC x c (hcl x c e)
 ·show (compSt own.length (fr.map (·.2)) σ).length=(own++fr.map (·.1)).length
  unfold compSt
  simp
theorem pe_comp{elt iter tg:Expr}{ifs:List Expr}{scope:Scope}{pos:Pos}{wi:TI}{g:TG}{tt:TT}{te:TE}(own:List Str)(fr:List (Str×Nat))(hc:X.calm=true)(hi:PI X tg iter wi)
  (hgx:GExt g own.length) (hB:∀ cl C fp s2 H2,PG (X.comp (own++fr.map (·.1)) scope cl C fp s2 H2) tg g∧PFs (X.comp (own++fr.map (·.1)) scope cl C fp s2 H2) ifs tt∧PE (X.comp (own++fr.map (·.1)) scope cl C fp s2 H2) elt te)
  (hkind:scope.kind=.function) (hcell:∀ y∈scope.names,y.2≠.cell) (hnames:∀ y∈scope.names,y.2=.local→scope.names.lookup y.1=some .local)
  (hfree:∀ y∈scope.names,y.2=.free→X.env.kindOf y.1=some .cell∨X.env.kindOf y.1=some .free)
  (hfr:∀ p∈fr,X.N[p.2]?=some p.1∧(X.env.kindOf p.1=some .cell∨X.env.kindOf p.1=some .free)∧(p.1,NameKind.free)∈scope.names∧((relabel scope X.env).names.lookup p.1=some .cell∨(relabel scope X.env).names.lookup p.1=some .free))
  (hs:∀ x,foldedSetIterable iter X.env x=pure x:=by intro _;rfl):PE X (.ListComp elt [⟨tg,iter,ifs,0⟩] scope pos) (tComp own.length (fr.map (·.2)) wi g tt te):=by
 intro pins s σ H Q I h
 obtain⟨cl,hclos,hcl,hcl2⟩:=closure_of (env:=X.env) (scope:=scope) fun y hy hf=>I.ok.has y.1 (hfree y hy hf)
 rw[eval_ListComp]
 refine wpAny_comprehension_free (use:=none) rfl hs hclos hkind hnames (thn (hi pins s σ H _ I h) fun v s1 h1=>thn h1 fun itv s2 h2=>?_)
 obtain⟨it,fp,tn,J,H2,e,I2,T,st2,f2,h3⟩:=h2
 subst e
 obtain⟨W,⟨m0,w0⟩,turn⟩:=h3 s2.heap.objs.size I2.fresh
 have hb:∀ b∈fp,b < s2.heap.objs.size:=fun b z=>by
  obtain⟨o,e,_⟩:=T.obj _ _ st2 b z
  exact Heap.lt_size e
 refine wpAny_newObj_type (wpAny_newFunctionEnv hcell (by intro y hy;simp at hy) (fun h₁ hns₁ hsb₁=>?_) hkind)
 dsimp only at hns₁ hsb₁ ⊢
 generalize hH2:s2.heap.push { cls:=.type "list", dict:=none,data:=.seq ([]:List Value).toArray }=G at hns₁ hsb₁ ⊢
 have hCs:G.objs.size=s2.heap.objs.size+1:=by rw[← hH2,Heap.size_push]
 have old:∀ b o,s2.heap.get? b=some o→h₁.get? b=some o:=fun b o e=>hsb₁.extBut b o (Nat.ne_of_lt (by rw[hCs];exact Nat.lt_succ_of_lt (Heap.lt_size e))) (Heap.get?_push_of_some _ (hH2▸Heap.get?_push_of_some _ e))
 have hD:h₁.get? s2.heap.objs.size=some { cls:=.type "list", data:=.seq ([]:List Value).toArray }:=hsb₁.extBut _ _ (Nat.ne_of_lt (by rw[hCs];exact Nat.lt_succ_self _)) (Heap.get?_push_of_some _ (hH2▸Heap.get?_push_size _ rfl))
 generalize hC:G.objs.size=C at hns₁ hsb₁ hCs ⊢
 have hns':h₁.Ns C (fun _=>none):=by
  have e:(fun x=>(([]:List (Str×Value)).reverse.lookup x))=fun _=>(none:Option Value):=by funext x;rfl
  rw[← e]
  exact hns₁
 have hle:s2.heap.objs.size≤C:=by rw[hCs];exact Nat.le_succ _
 have hne:C≠s2.heap.objs.size:=Nat.ne_of_gt (by rw[hCs];exact Nat.lt_succ_self _)
 let Y:Cx:=X.comp (own++fr.map (·.1)) scope cl C fp s2 H2
 have stat:∀{H':Hp},(∀ b∈fp,H' b=none)→∀ b∈fp,FpOk Y [] H' b:=fun hn=>Inv.fpComp I2 f2 hb hle hcl hn
 obtain⟨gY,pY,eY⟩:=hB cl C fp s2 H2
 have IY:Inv Y [] (compSt own.length (fr.map (·.2)) σ) (upd H2 s2.heap.objs.size (.lst [])) { s2 with heap:=h₁,toks:=s2.toks+([]:List (Str×Value)).length } :=
  Inv.comp (D:=s2.heap.objs.size) I2 f2 hb hkind hcell hcl hcl2 hfr (Nat.le_refl _) hle hne hns' old hD rfl I2.bare
 have loop:codeAny (model X.prog X.w) X.A (.compLoop (.ListComp elt [⟨tg,iter,ifs,0⟩] scope pos) 0 (.ref it) (.ref s2.heap.objs.size) (compEnvC scope cl C X.env)) (compPost (model X.prog X.w) X.A X.xe none (EP X pins σ Q) (.ref s2.heap.objs.size) C)
   { s2 with heap:=h₁,toks:=s2.toks+([]:List (Str×Value)).length }:=by
  refine compLoop_any (E:=fun _ _=>False) (fun n s'=>∃ i acc H',Inv Y [] (compSt own.length (fr.map (·.2)) σ) H' s'∧tn i s'.heap∧(∀ b∈fp,H' b=none)∧W i n acc H') (fun _ _ z=>z) ?_ m0
   ⟨0,[],_,IY,T.keep _ _ _ st2 fun b _ o e=>old b o e,fun b z=>by rw[upd_ne (Nat.ne_of_lt (hb b z))];exact (f2 b z).1,w0⟩
  rintro n s3 ⟨i,acc,H3,I3,st3,fr3,w3⟩
  rcases turn i n acc H3 w3 with ⟨stop,q⟩ | ⟨go,Nn,hN,step⟩
  ·refine thn (T.done Y rfl rfl rfl hc i [] s3 _ H3 _ I3 (stat fr3) st3 stop) fun r s4 ⟨hr,I4⟩=>?_
   subst hr
   obtain⟨m4,hn4,_⟩:=I4.loc
   refine⟨m4,hn4,fun h' hs'=>?_⟩
   have kb:∀ b o,b≠C→s4.heap.get? b=some o→h'.get? b=some o:=fun b o hne e=>hs'.extBut b o hne e
   have hok':HOk X.prog X.w H3 h':=HOk.stays (show HOk X.prog X.w H3 s4.heap from I4.hok) fun b u hn e=>kb b u (fun z=>hn (by rw[z];exact I4.free)) e
   have bI:Un (frs X.stack) fp H2 H3 s2.heap s4.heap:=I4.base
   have lt:∀ b o,s2.heap.get? b=some o→b≠C:=fun b o e=>Nat.ne_of_lt (Nat.lt_of_lt_of_le (Heap.lt_size e) hle)
   have un:Un (frs X.stack) fp H2 H3 s2.heap h' :=
    {keep:=fun b o e n hb hx=>kb b o (lt b o e) (bI.keep b o e n hb hx)
     slot:=fun b o e n hb hx=>by
      obtain⟨sl,e1⟩:=bI.slot b o e n hb hx
      exact⟨sl,kb b _ (lt b o e) e1⟩
     free:=bI.free
     there:=fun b o e hx=>by
      obtain⟨o1,e1⟩:=bI.there b o e hx
      exact⟨o1,kb b _ (lt b o e) e1⟩
     tups:=bI.tups
     frzs:=bI.frzs
     tbls:=bI.tbls }
   exact⟨.ref s2.heap.objs.size,H3,I2.call' (s':={ s4 with heap:=h' }) (ch:=fp) I4.os un hok' I4.bare (fun b z=>⟨(f2 b z).2.2.2.1,(f2 b z).2.1,(f2 b z).2.2.2.2.1,(f2 b z).2.2.2.2.2⟩),rfl,q⟩
  ·refine thn (T.item Y rfl rfl rfl hc i [] s3 _ H3 _ I3 (stat fr3) st3 go) fun r s4 ⟨u,hr,h4⟩=>?_
   subst hr
   refine thn h4 fun _ s5 ⟨x,H5,I5,r5,y5,st5,fr5⟩=>?_
   have I5':=I5.pinned (stat fr5) (T.obj _ _ st5)
   refine thn (gY _ s5 _ H5 x u _ I5' r5 (hgx _ x H5 _ (step x H5 y5))) fun _ s6 ⟨σ6,H6,I6,ex6,q6⟩=>?_
   refine thn (pY _ s6 σ6 H6 _ I6 q6) fun ok s7 ⟨H7,I7,q7⟩=>?_
   have again:∀{acc':List V}{H8:Hp}{s8:Shared},Inv Y ([]++pinsAt fp s5.heap) σ6 H8 s8→Nn acc' H8→∃ m,m < n∧∃ i acc H',Inv Y [] (compSt own.length (fr.map (·.2)) σ) H' s8∧tn i s8.heap∧(∀ b∈fp,H' b=none)∧W i m acc H':=fun {acc' H8 s8} I8 n8=>by
    obtain⟨m',hm,w8⟩:=hN acc' H8 n8
    refine⟨m',hm,i+1,acc',H8,I8.unpinned.weak ex6.1 ex6.2,T.keep _ _ _ st5 fun b hb o e=>(I8.pin (b,o) (List.mem_append_right _ (List.mem_append_right _ (mem_pinsAt hb e)))).1,fun b hb=>?_,w8⟩
    obtain⟨o,e,d⟩:=T.obj _ _ st5 b hb
    exact (I8.pin (b,o) (List.mem_append_right _ (List.mem_append_right _ (mem_pinsAt hb e)))).2.1
   cases ok with
   | false=>exact again I7 (by simpa using q7)
   | true =>
    have q7':=(by simpa using q7:te σ6 H7 _)
    refine thn (eY _ s7 σ6 H7 _ I7 q7') fun xv s8 ⟨y,H8,I8,r8,hl8,hz8,n8⟩=>?_
    refine thn (mt_append (X:=Y) _ s8 σ6 H8 (.ref s2.heap.objs.size) [y] (.ref s2.heap.objs.size) [xv] (fun v H9=>v=.non∧H9=upd H8 s2.heap.objs.size (.lst (acc++[y]))) I8 rfl (.cons r8 .nil) ⟨_,acc,y,rfl,rfl,hl8,hz8,rfl,rfl⟩) fun _ s9 ⟨v9,H9,I9,_,_,e9⟩=>?_
    subst e9
    exact again I9 n8
 exact codeAny_compStart_list loop (T.self X.A 0 _ _ _ (T.keep _ _ _ st2 fun b _ o e=>old b o e) loop)
theorem ps_setC{elt iter tg:Expr}{ifs:List Expr}{scope:Scope}{pos spos py:Pos}{wi:TI}{g:TG}{tt:TT}{te:TE}{k:Nat}{y:Str}(own:List Str)(fr:List (Str×Nat))(hNd:X.N.Nodup)(hk:X.N[k]?=some y)(hy:X.env.scope.names.lookup y=some .local)(hc:X.calm=true)(hi:PI X tg iter wi)
  (hgx:GExt g own.length) (hB:∀ cl C fp s2 H2,PG (X.comp (own++fr.map (·.1)) scope cl C fp s2 H2) tg g∧PFs (X.comp (own++fr.map (·.1)) scope cl C fp s2 H2) ifs tt∧PE (X.comp (own++fr.map (·.1)) scope cl C fp s2 H2) elt te)
  (hkind:scope.kind=.function) (hcell:∀ y∈scope.names,y.2≠.cell) (hnames:∀ y∈scope.names,y.2=.local→scope.names.lookup y.1=some .local)
  (hfree:∀ y∈scope.names,y.2=.free→X.env.kindOf y.1=some .cell∨X.env.kindOf y.1=some .free)
  (hfr:∀ p∈fr,X.N[p.2]?=some p.1∧(X.env.kindOf p.1=some .cell∨X.env.kindOf p.1=some .free)∧(p.1,NameKind.free)∈scope.names∧((relabel scope X.env).names.lookup p.1=some .cell∨(relabel scope X.env).names.lookup p.1=some .free))
  (hsw:swapsWith (.ListComp elt [⟨tg,iter,ifs,0⟩] scope pos) (some (.Name y py)) spos.line X.env=pure true:=by rfl)
  (hs:∀ x,foldedSetIterable iter X.env x=pure x:=by intro _;rfl):PS X (.Assign [.Name y py] (.ListComp elt [⟨tg,iter,ifs,0⟩] scope pos) spos) (tAsg (tComp own.length (fr.map (·.2)) wi g tt te) (gName k)):=by
 intro pins s σ H DD I h
 obtain⟨cl,hclos,hcl,hcl2⟩:=closure_of (env:=X.env) (scope:=scope) fun y hy hf=>I.ok.has y.1 (hfree y hy hf)
 rw[exec_Assign_Name_used _ _ _ _ hsw]
 refine wpAny_bind (wpAny_standAt (wpAny_bind ?_))
 refine wpAny_bind (thn (wpAny_comprehension_free (M:=model X.prog X.w) (A:=X.A) (E:=X.xe) (e:=.ListComp elt [⟨tg,iter,ifs,0⟩] scope pos) (first:=eval iter X.env) (newAcc:=newList []) (use:=some (assign (.Name y py) X.env)) (Q:=fun _ s'=>SP X pins DD .next s') rfl hs hclos hkind hnames
  (thn (hi pins s σ H _ I h) fun v s1 h1=>thn h1 fun itv s2 h2=>?_)) fun _ s' hq=>wpAny_pure (wpAny_pure hq))
 obtain⟨it,fp,tn,J,H2,e,I2,T,st2,f2,h3⟩:=h2
 subst e
 obtain⟨W,⟨m0,w0⟩,turn⟩:=h3 s2.heap.objs.size I2.fresh
 have hb:∀ b∈fp,b < s2.heap.objs.size:=fun b z=>by
  obtain⟨o,e,_⟩:=T.obj _ _ st2 b z
  exact Heap.lt_size e
 refine wpAny_newObj_type (wpAny_newFunctionEnv hcell (by intro y hy;simp at hy) (fun h₁ hns₁ hsb₁=>?_) hkind)
 dsimp only at hns₁ hsb₁ ⊢
 generalize hH2:s2.heap.push { cls:=.type "list", dict:=none,data:=.seq ([]:List Value).toArray }=G at hns₁ hsb₁ ⊢
 have hCs:G.objs.size=s2.heap.objs.size+1:=by rw[← hH2,Heap.size_push]
 have old:∀ b o,s2.heap.get? b=some o→h₁.get? b=some o:=fun b o e=>hsb₁.extBut b o (Nat.ne_of_lt (by rw[hCs];exact Nat.lt_succ_of_lt (Heap.lt_size e))) (Heap.get?_push_of_some _ (hH2▸Heap.get?_push_of_some _ e))
 have hD:h₁.get? s2.heap.objs.size=some { cls:=.type "list", data:=.seq ([]:List Value).toArray }:=hsb₁.extBut _ _ (Nat.ne_of_lt (by rw[hCs];exact Nat.lt_succ_self _)) (Heap.get?_push_of_some _ (hH2▸Heap.get?_push_size _ rfl))
 generalize hC:G.objs.size=C at hns₁ hsb₁ hCs ⊢
 have hns':h₁.Ns C (fun _=>none):=by
  have e:(fun x=>(([]:List (Str×Value)).reverse.lookup x))=fun _=>(none:Option Value):=by funext x;rfl
  rw[← e]
  exact hns₁
 have hle:s2.heap.objs.size≤C:=by rw[hCs];exact Nat.le_succ _
 have hne:C≠s2.heap.objs.size:=Nat.ne_of_gt (by rw[hCs];exact Nat.lt_succ_self _)
 let Y:Cx:=X.comp (own++fr.map (·.1)) scope cl C fp s2 H2
 have stat:∀{H':Hp},(∀ b∈fp,H' b=none)→∀ b∈fp,FpOk Y [] H' b:=fun hn=>Inv.fpComp I2 f2 hb hle hcl hn
 obtain⟨gY,pY,eY⟩:=hB cl C fp s2 H2
 have IY:Inv Y [] (compSt own.length (fr.map (·.2)) σ) (upd H2 s2.heap.objs.size (.lst [])) { s2 with heap:=h₁,toks:=s2.toks+([]:List (Str×Value)).length } :=
  Inv.comp (D:=s2.heap.objs.size) I2 f2 hb hkind hcell hcl hcl2 hfr (Nat.le_refl _) hle hne hns' old hD rfl I2.bare
 have loop:codeAny (model X.prog X.w) X.A (.compLoop (.ListComp elt [⟨tg,iter,ifs,0⟩] scope pos) 0 (.ref it) (.ref s2.heap.objs.size) (compEnvC scope cl C X.env)) (compPost (model X.prog X.w) X.A X.xe (some (assign (.Name y py) X.env)) (fun _ s'=>SP X pins DD .next s') (.ref s2.heap.objs.size) C)
   { s2 with heap:=h₁,toks:=s2.toks+([]:List (Str×Value)).length }:=by
  refine compLoop_any (E:=fun _ _=>False) (fun n s'=>∃ i acc H',Inv Y [] (compSt own.length (fr.map (·.2)) σ) H' s'∧tn i s'.heap∧(∀ b∈fp,H' b=none)∧W i n acc H') (fun _ _ z=>z) ?_ m0
   ⟨0,[],_,IY,T.keep _ _ _ st2 fun b _ o e=>old b o e,fun b z=>by rw[upd_ne (Nat.ne_of_lt (hb b z))];exact (f2 b z).1,w0⟩
  rintro n s3 ⟨i,acc,H3,I3,st3,fr3,w3⟩
  rcases turn i n acc H3 w3 with ⟨stop,q⟩ | ⟨go,Nn,hN,step⟩
  ·refine thn (T.done Y rfl rfl rfl hc i [] s3 _ H3 _ I3 (stat fr3) st3 stop) fun r s4 ⟨hr,I4⟩=>?_
   subst hr
   obtain⟨m4,hn4,_⟩:=I4.loc
   have IX:Inv X pins σ H3 s4:=I2.call' (s':=s4) (ch:=fp) I4.os (show Un (frs X.stack) fp H2 H3 s2.heap s4.heap from I4.base) I4.hok I4.bare (fun b z=>⟨(f2 b z).2.2.2.1,(f2 b z).2.1,(f2 b z).2.2.2.2.1,(f2 b z).2.2.2.2.2⟩)
   have hCL:C≠X.env.locals:=Nat.ne_of_gt (Nat.lt_of_lt_of_le I2.lt hle)
   show wpAny _ _ (assign (.Name y py) X.env (.ref s2.heap.objs.size)) _ _ s4
   have cellLt:∀ z c,X.env.cells.lookup z=some c→c < C:=fun z c e=>by
    obtain⟨v,q'⟩:=I2.cell z c e
    exact Nat.lt_of_lt_of_le q'.lt hle
   refine wpAny_assign_Name (store_ok2 IX hNd hk (Or.inl hy) (v:=.ref s2.heap.objs.size) (u:=.ref s2.heap.objs.size) rfl (fun s5 I5 k5=>?_) (Or.inr hy))
   obtain⟨a5,sb5,ha5⟩:=k5
   have hCa:C≠a5:=by
    rcases ha5 with z | z
    ·rw[z];exact hCL
    ·exact Nat.ne_of_gt (cellLt _ _ z)
   refine⟨m4,Heap.Ns.sameBut hn4 sb5 hCa,fun h' hs'=>?_⟩
   refine⟨σ.set k (some (.ref s2.heap.objs.size)),H3,?_,q⟩
   refine I5.turned (it:=C) (t':=s5.toks) (fun b o hne e=>hs'.extBut b o hne e) I4.free hCL (.inr (Nat.le_trans I2.sz hle)) (fun z c e=>Nat.ne_of_lt (cellLt z c e)) fun p hp=>?_
   exact Nat.ne_of_lt (Nat.lt_of_lt_of_le (Heap.lt_size (I2.pin p hp).1) hle)
  ·refine thn (T.item Y rfl rfl rfl hc i [] s3 _ H3 _ I3 (stat fr3) st3 go) fun r s4 ⟨u,hr,h4⟩=>?_
   subst hr
   refine thn h4 fun _ s5 ⟨x,H5,I5,r5,y5,st5,fr5⟩=>?_
   have I5':=I5.pinned (stat fr5) (T.obj _ _ st5)
   refine thn (gY _ s5 _ H5 x u _ I5' r5 (hgx _ x H5 _ (step x H5 y5))) fun _ s6 ⟨σ6,H6,I6,ex6,q6⟩=>?_
   refine thn (pY _ s6 σ6 H6 _ I6 q6) fun ok s7 ⟨H7,I7,q7⟩=>?_
   have again:∀{acc':List V}{H8:Hp}{s8:Shared},Inv Y ([]++pinsAt fp s5.heap) σ6 H8 s8→Nn acc' H8→∃ m,m < n∧∃ i acc H',Inv Y [] (compSt own.length (fr.map (·.2)) σ) H' s8∧tn i s8.heap∧(∀ b∈fp,H' b=none)∧W i m acc H':=fun {acc' H8 s8} I8 n8=>by
    obtain⟨m',hm,w8⟩:=hN acc' H8 n8
    refine⟨m',hm,i+1,acc',H8,I8.unpinned.weak ex6.1 ex6.2,T.keep _ _ _ st5 fun b hb o e=>(I8.pin (b,o) (List.mem_append_right _ (List.mem_append_right _ (mem_pinsAt hb e)))).1,fun b hb=>?_,w8⟩
    obtain⟨o,e,d⟩:=T.obj _ _ st5 b hb
    exact (I8.pin (b,o) (List.mem_append_right _ (List.mem_append_right _ (mem_pinsAt hb e)))).2.1
   cases ok with
   | false=>exact again I7 (by simpa using q7)
   | true =>
    have q7':=(by simpa using q7:te σ6 H7 _)
    refine thn (eY _ s7 σ6 H7 _ I7 q7') fun xv s8 ⟨y,H8,I8,r8,hl8,hz8,n8⟩=>?_
    refine thn (mt_append (X:=Y) _ s8 σ6 H8 (.ref s2.heap.objs.size) [y] (.ref s2.heap.objs.size) [xv] (fun v H9=>v=.non∧H9=upd H8 s2.heap.objs.size (.lst (acc++[y]))) I8 rfl (.cons r8 .nil) ⟨_,acc,y,rfl,rfl,hl8,hz8,rfl,rfl⟩) fun _ s9 ⟨v9,H9,I9,_,_,e9⟩=>?_
    subst e9
    exact again I9 n8
 exact codeAny_compStart_list loop (T.self X.A 0 _ _ _ (T.keep _ _ _ st2 fun b _ o e=>old b o e) loop)
end
theorem comp_list{K:PySem.W.Frag}{a l:Addr}{xs:List V}{n:Nat}{js:List Nat}{g:TG}{tt:TT}{te:TE}{σ:St}{H1:Hp}{Q:VK}(Pv:Nat→List V→Hp→Prop)(h0:Pv 0 [] (upd H1 l (.lst [])))(hl:∀ i acc H,i≤xs.length→Pv i acc H→SqL K H a xs)
  (hs:∀ i x acc H,xs[i]?=some x→Pv i acc H→g x (compSt n js σ) H fun σ2 H2=>tt σ2 H2 fun b H3=>if b=true then te σ2 H3 fun y H4=>H4 l=some (.lst acc)∧acc.length < sizeLine∧Pv (i+1) (acc++[y]) (upd H4 l (.lst (acc++[y]))) else Pv (i+1) acc H3)
  (hd:∀ acc H,Pv xs.length acc H→Q (.ref l) H) :
  ∃ W:Nat→Nat→List V→Hp→Prop,(∃ m,W 0 m [] (upd H1 l (.lst [])))∧∀ i m acc H,W i m acc H →
   ((Itl K a).stop i H∧Q (.ref l) H)∨((Itl K a).go i H∧∃ N:List V→Hp→Prop,(∀ acc' H',N acc' H'→∃ m',m' < m∧W (i+1) m' acc' H') ∧
    ∀ x H',(Itl K a).yld i H x H'→g x (compSt n js σ) H' fun σ2 H2=>tt σ2 H2 fun b H3=>if b=true then te σ2 H3 fun y H4=>H4 l=some (.lst acc)∧acc.length < sizeLine∧N (acc++[y]) (upd H4 l (.lst (acc++[y]))) else N acc H3):=by
 refine⟨fun i m acc H=>m=xs.length - i∧i≤xs.length∧Pv i acc H,⟨xs.length,by simp,Nat.zero_le _,h0⟩,?_⟩
 rintro i m acc H ⟨rfl,hi,p⟩
 have q:=hl i acc H hi p
 by_cases hlt:i < xs.length
 ·refine .inr ⟨⟨xs,xs[i],q,by simp[hlt]⟩,Pv (i+1),fun acc' H' p'=>⟨xs.length - (i+1),by omega,rfl,hlt,p'⟩,fun x H' y=>?_⟩
  obtain⟨e,y⟩:=y
  subst e
  exact hs i x acc _ (y xs q) p
 ·have e:i=xs.length:=by omega
  subst e
  exact .inl ⟨⟨xs,q,Nat.le_refl _⟩,hd acc H p⟩
theorem comp_tup{K:PySem.W.Frag}{a l:Addr}{xs:List V}{n:Nat}{js:List Nat}{g:TG}{tt:TT}{te:TE}{σ:St}{H1:Hp}{Q:VK}(Pv:Nat→List V→Hp→Prop)(h0:Pv 0 [] (upd H1 l (.lst [])))(hl:∀ i acc H,i≤xs.length→Pv i acc H→SqT K H a xs)
  (hs:∀ i x acc H,xs[i]?=some x→Pv i acc H→g x (compSt n js σ) H fun σ2 H2=>tt σ2 H2 fun b H3=>if b=true then te σ2 H3 fun y H4=>H4 l=some (.lst acc)∧acc.length < sizeLine∧Pv (i+1) (acc++[y]) (upd H4 l (.lst (acc++[y]))) else Pv (i+1) acc H3)
  (hd:∀ acc H,Pv xs.length acc H→Q (.ref l) H) :
  ∃ W:Nat→Nat→List V→Hp→Prop,(∃ m,W 0 m [] (upd H1 l (.lst [])))∧∀ i m acc H,W i m acc H →
   ((Itt K a).stop i H∧Q (.ref l) H)∨((Itt K a).go i H∧∃ N:List V→Hp→Prop,(∀ acc' H',N acc' H'→∃ m',m' < m∧W (i+1) m' acc' H') ∧
    ∀ x H',(Itt K a).yld i H x H'→g x (compSt n js σ) H' fun σ2 H2=>tt σ2 H2 fun b H3=>if b=true then te σ2 H3 fun y H4=>H4 l=some (.lst acc)∧acc.length < sizeLine∧N (acc++[y]) (upd H4 l (.lst (acc++[y]))) else N acc H3):=by
 refine⟨fun i m acc H=>m=xs.length - i∧i≤xs.length∧Pv i acc H,⟨xs.length,by simp,Nat.zero_le _,h0⟩,?_⟩
 rintro i m acc H ⟨rfl,hi,p⟩
 have q:=hl i acc H hi p
 by_cases hlt:i < xs.length
 ·refine .inr ⟨⟨xs,xs[i],q,by simp[hlt]⟩,Pv (i+1),fun acc' H' p'=>⟨xs.length - (i+1),by omega,rfl,hlt,p'⟩,fun x H' y=>?_⟩
  obtain⟨e,y⟩:=y
  subst e
  exact hs i x acc _ (y xs q) p
 ·have e:i=xs.length:=by omega
  subst e
  exact .inl ⟨⟨xs,q,Nat.le_refl _⟩,hd acc H p⟩
theorem comp_range{lo:Int}{k:Nat}{l:Addr}{n:Nat}{js:List Nat}{g:TG}{tt:TT}{te:TE}{σ:St}{H1:Hp}{Q:VK}(Pv:Nat→List V→Hp→Prop)(h0:Pv 0 [] (upd H1 l (.lst [])))
  (hs:∀ i acc H,i < k→Pv i acc H→g (.int (lo+i)) (compSt n js σ) H fun σ2 H2=>tt σ2 H2 fun b H3=>if b=true then te σ2 H3 fun y H4=>H4 l=some (.lst acc)∧acc.length < sizeLine∧Pv (i+1) (acc++[y]) (upd H4 l (.lst (acc++[y]))) else Pv (i+1) acc H3)
  (hd:∀ acc H,Pv k acc H→Q (.ref l) H) :
  ∃ W:Nat→Nat→List V→Hp→Prop,(∃ m,W 0 m [] (upd H1 l (.lst [])))∧∀ i m acc H,W i m acc H →
   ((Itr lo k).stop i H∧Q (.ref l) H)∨((Itr lo k).go i H∧∃ N:List V→Hp→Prop,(∀ acc' H',N acc' H'→∃ m',m' < m∧W (i+1) m' acc' H') ∧
    ∀ x H',(Itr lo k).yld i H x H'→g x (compSt n js σ) H' fun σ2 H2=>tt σ2 H2 fun b H3=>if b=true then te σ2 H3 fun y H4=>H4 l=some (.lst acc)∧acc.length < sizeLine∧N (acc++[y]) (upd H4 l (.lst (acc++[y]))) else N acc H3):=by
 refine⟨fun i m acc H=>m=k - i∧i≤k∧Pv i acc H,⟨k,by simp,Nat.zero_le _,h0⟩,?_⟩
 rintro i m acc H ⟨rfl,hi,p⟩
 by_cases hlt:i < k
 ·refine .inr ⟨hlt,Pv (i+1),fun acc' H' p'=>⟨k - (i+1),by omega,rfl,hlt,p'⟩,fun x H' y=>?_⟩
  obtain⟨e,y⟩:=y
  subst e y
  exact hs i acc _ hlt p
 ·have e:i=k:=by omega
  subst e
  exact .inl ⟨Nat.le_refl _,hd acc H p⟩
theorem comp_listR{K:PySem.W.Frag}{a l:Addr}{xs:List V}{n:Nat}{js:List Nat}{g:TG}{tt:TT}{te:TE}{σ:St}{H1:Hp}{R:Hp→Prop}(Pv:Nat→List V→Hp→Prop)(h0:Pv 0 [] (upd H1 l (.lst [])))(hl:∀ i acc H,i≤xs.length→Pv i acc H→SqL K H a xs)
  (hs:∀ i x acc H,xs[i]?=some x→Pv i acc H→g x (compSt n js σ) H fun σ2 H2=>tt σ2 H2 fun b H3=>if b=true then te σ2 H3 fun y H4=>H4 l=some (.lst acc)∧acc.length < sizeLine∧Pv (i+1) (acc++[y]) (upd H4 l (.lst (acc++[y]))) else Pv (i+1) acc H3)
  (hd:∀ acc H,Pv xs.length acc H→R H) :
  ∃ W:Nat→Nat→List V→Hp→Prop,(∃ m,W 0 m [] (upd H1 l (.lst [])))∧∀ i m acc H,W i m acc H →
   ((Itl K a).stop i H∧R H)∨((Itl K a).go i H∧∃ N:List V→Hp→Prop,(∀ acc' H',N acc' H'→∃ m',m' < m∧W (i+1) m' acc' H') ∧
    ∀ x H',(Itl K a).yld i H x H'→g x (compSt n js σ) H' fun σ2 H2=>tt σ2 H2 fun b H3=>if b=true then te σ2 H3 fun y H4=>H4 l=some (.lst acc)∧acc.length < sizeLine∧N (acc++[y]) (upd H4 l (.lst (acc++[y]))) else N acc H3):=comp_list (Q:=fun _ H=>R H) Pv h0 hl hs hd
theorem comp_tupR{K:PySem.W.Frag}{a l:Addr}{xs:List V}{n:Nat}{js:List Nat}{g:TG}{tt:TT}{te:TE}{σ:St}{H1:Hp}{R:Hp→Prop}(Pv:Nat→List V→Hp→Prop)(h0:Pv 0 [] (upd H1 l (.lst [])))(hl:∀ i acc H,i≤xs.length→Pv i acc H→SqT K H a xs)
  (hs:∀ i x acc H,xs[i]?=some x→Pv i acc H→g x (compSt n js σ) H fun σ2 H2=>tt σ2 H2 fun b H3=>if b=true then te σ2 H3 fun y H4=>H4 l=some (.lst acc)∧acc.length < sizeLine∧Pv (i+1) (acc++[y]) (upd H4 l (.lst (acc++[y]))) else Pv (i+1) acc H3)
  (hd:∀ acc H,Pv xs.length acc H→R H) :
  ∃ W:Nat→Nat→List V→Hp→Prop,(∃ m,W 0 m [] (upd H1 l (.lst [])))∧∀ i m acc H,W i m acc H →
   ((Itt K a).stop i H∧R H)∨((Itt K a).go i H∧∃ N:List V→Hp→Prop,(∀ acc' H',N acc' H'→∃ m',m' < m∧W (i+1) m' acc' H') ∧
    ∀ x H',(Itt K a).yld i H x H'→g x (compSt n js σ) H' fun σ2 H2=>tt σ2 H2 fun b H3=>if b=true then te σ2 H3 fun y H4=>H4 l=some (.lst acc)∧acc.length < sizeLine∧N (acc++[y]) (upd H4 l (.lst (acc++[y]))) else N acc H3):=comp_tup (Q:=fun _ H=>R H) Pv h0 hl hs hd
theorem comp_rangeR{lo:Int}{k:Nat}{l:Addr}{n:Nat}{js:List Nat}{g:TG}{tt:TT}{te:TE}{σ:St}{H1:Hp}{R:Hp→Prop}(Pv:Nat→List V→Hp→Prop)(h0:Pv 0 [] (upd H1 l (.lst [])))
  (hs:∀ i acc H,i < k→Pv i acc H→g (.int (lo+i)) (compSt n js σ) H fun σ2 H2=>tt σ2 H2 fun b H3=>if b=true then te σ2 H3 fun y H4=>H4 l=some (.lst acc)∧acc.length < sizeLine∧Pv (i+1) (acc++[y]) (upd H4 l (.lst (acc++[y]))) else Pv (i+1) acc H3)
  (hd:∀ acc H,Pv k acc H→R H) :
  ∃ W:Nat→Nat→List V→Hp→Prop,(∃ m,W 0 m [] (upd H1 l (.lst [])))∧∀ i m acc H,W i m acc H →
   ((Itr lo k).stop i H∧R H)∨((Itr lo k).go i H∧∃ N:List V→Hp→Prop,(∀ acc' H',N acc' H'→∃ m',m' < m∧W (i+1) m' acc' H') ∧
    ∀ x H',(Itr lo k).yld i H x H'→g x (compSt n js σ) H' fun σ2 H2=>tt σ2 H2 fun b H3=>if b=true then te σ2 H3 fun y H4=>H4 l=some (.lst acc)∧acc.length < sizeLine∧N (acc++[y]) (upd H4 l (.lst (acc++[y]))) else N acc H3):=comp_range (Q:=fun _ H=>R H) Pv h0 hs hd
end L2
namespace L2
open PySem PySem.Spec PyProof.Rows
open PySem.Builtin.Int (intBits)
abbrev Sz(k:Nat)(x:Int):Prop:=intBits x≤k
theorem Sz.of{k:Nat}{x:Int}(h:x.natAbs < 2 ^ k):Sz k x:=PySem.intBits_le_iff.mpr h
theorem Sz.lt{k:Nat}{x:Int}(h:Sz k x):x.natAbs < 2 ^ k:=PySem.intBits_le_iff.mp h
theorem Sz.mono{j k:Nat}{x:Int}(h:Sz j x)(q:j≤k):Sz k x:=Nat.le_trans h q
theorem Sz.le{k:Nat}{x y:Int}(h:Sz k y)(q:x.natAbs≤y.natAbs):Sz k x:=PySem.intBits_le_of_natAbs q h
theorem Sz.mul{j k:Nat}{x y:Int}(h:Sz j x)(q:Sz k y):Sz (j+k) (x*y):=PySem.intBits_mul_le h q
theorem Sz.add{k:Nat}{x y:Int}(h:Sz k x)(q:Sz k y):Sz (k+1) (x+y):=Nat.le_trans (PySem.intBits_add_le h q) (by omega)
theorem Sz.sub{k:Nat}{x y:Int}(h:Sz k x)(q:Sz k y):Sz (k+1) (x - y):=Nat.le_trans (PySem.intBits_sub_le h q) (by omega)
theorem Sz.neg{k:Nat}{x:Int}(h:Sz k x):Sz k (-x):=PySem.intBits_neg_le h
theorem Sz.ok{j k:Nat}{x y:Int}(h:Sz j x)(q:Sz k y)(e:j+k≤134217728):IntMulOk x y:=PySem.IntMulOk.of_le h q e
theorem Sz.okR{k:Nat}{x y:Int}(q:Sz k y)(e:k≤64):IntMulOk x y:=IntMulOk.of_right (Nat.le_trans q e)
theorem Sz.noPy{k:Nat}{x y:Int}(q:Sz k y)(e:k≤9000):Builtin.divisionGoesByPylong x y=false:=by
 refine PyProof.noPylong_of_log2 ?_
 by_cases h0:y.natAbs=0
 ·rw[h0];decide +kernel
 ·exact (Nat.log2_lt h0).mpr (Sz.lt (q.mono e))
section
variable {X:Cx}
def CMulB(i j:Int):Prop:=IntMulOk i j
def CDivB(i j:Int):Prop:=0 < j∧Sz 9000 j
theorem op_mulB:OpR X (binaryOp .Mult) (rI CMulB fun i j=>.int (i*j)):=opI fun _ _ _ _ _ _ _ hc q=>mul_int q hc
theorem op_fdivB:OpR X (binaryOp .FloorDiv) (rI CDivB fun i j=>.int (i / j)):=opI fun i j _ _ _ _ _ hc q=>by
 have h1:(0:Int) < j:=hc.1
 exact floordiv_int (by omega) (by rw[Int.fdiv_eq_ediv_of_nonneg i (by omega)];exact q) (.inl (Sz.noPy hc.2 (Nat.le_refl _)))
def tyNm(x:V)(H:Hp):Option String:=match x with
 | .non=>some "NoneType"
 | .bl _=>some "bool"
 | .int _=>some "int"
 | .str _=>some "str"
 | .ref a=>(match H a with
  | some (.lst _)=>some "list"
  | some (.tup _)=>some "tuple"
  | some (.dK _)=>some "dict"
  | _=>none)
 | _=>none
theorem tyNm_of{K:PySem.W.Frag}{H:Hp}{x:V}{n:String}(h:tyNm x H=some n):TyOf K H x (.type n):=by
 unfold tyNm at h
 split at h
 ·cases h;exact .non
 ·cases h;exact .bl _
 ·cases h;exact .int _
 ·cases h;exact .str _
 ·split at h
  ·cases h;exact .lst (by assumption)
  ·cases h;exact .tup (by assumption)
  ·cases h;exact .dK (by assumption)
  ·cases h
 ·cases h
def isiB(t c:String):Bool:=t == c || (t == "bool" && c == "int")
def isiNames:List String:=["NoneType", "bool", "int", "str", "list", "tuple", "dict"]
theorem kit_of(K:PySem.W.Frag):∀ t∈isiNames,∀ c∈["bool", "int", "str", "list", "tuple", "dict"],PySem.W.kitOne K (.type t) (.type c)=some (isiB t c):=by
 intro t ht c hc
 simp only[isiNames,List.mem_cons,List.not_mem_nil,or_false] at ht hc
 rcases ht with rfl | rfl | rfl | rfl | rfl | rfl | rfl<;>rcases hc with rfl | rfl | rfl | rfl | rfl | rfl<;>kernel_rfl
theorem tyNm_mem{x:V}{H:Hp}{n:String}(h:tyNm x H=some n):n∈isiNames:=by
 unfold tyNm at h
 split at h
 ·cases h;decide
 ·cases h;decide
 ·cases h;decide
 ·cases h;decide
 ·split at h
  ·cases h;decide
  ·cases h;decide
  ·cases h;decide
  ·cases h
 ·cases h
def rIsi:List V→Hp→VK→Prop:=fun xs H Q=>∃ x n t,xs=[x,.ty n]∧n∈["bool", "int", "str", "list", "tuple", "dict"]∧tyNm x H=some t∧Q (.bl (isiB t n)) H
theorem call_isi:CallR X (.builtin "isinstance") rIsi:=by
 intro pins s σ H xs us Q I r h
 obtain⟨x,n,t,rfl,hn,ty,q⟩:=h
 obtain⟨u,v,rfl,ru,rv⟩:=r.two
 obtain rfl:v=Value.type n:=rv
 exact isinst_ok I ru (tyNm_of ty) (kit_of X.K t (tyNm_mem ty) n hn) fun tk=>⟨.bl _,H,I.tok tk,rfl,q⟩
theorem isiN_int:("int" ∈ ["bool", "int", "str", "list", "tuple", "dict"])=True:=eq_true (by decide)
theorem isiN_bool:("bool" ∈ ["bool", "int", "str", "list", "tuple", "dict"])=True:=eq_true (by decide)
theorem isiN_list:("list" ∈ ["bool", "int", "str", "list", "tuple", "dict"])=True:=eq_true (by decide)
theorem isiN_tuple:("tuple" ∈ ["bool", "int", "str", "list", "tuple", "dict"])=True:=eq_true (by decide)
theorem isiN_str:("str" ∈ ["bool", "int", "str", "list", "tuple", "dict"])=True:=eq_true (by decide)
theorem isi_ii:isiB "int" "int" = true:=rfl
theorem isi_ib:isiB "int" "bool" = false:=rfl
theorem isi_bb:isiB "bool" "bool" = true:=rfl
theorem isi_bi:isiB "bool" "int" = true:=rfl
theorem isi_tt:isiB "tuple" "tuple" = true:=rfl
theorem isi_ll:isiB "list" "list" = true:=rfl
theorem isi_nt:isiB "NoneType" "tuple" = false:=rfl
theorem isi_ni:isiB "NoneType" "int" = false:=rfl
def seqAt(H:Hp)(p:Addr):Option (List V):=match H p with
 | some (.lst xs)=>some xs
 | some (.tup xs)=>some xs
 | some (.frz _ (.lst xs))=>some xs
 | _=>none
theorem sq_of{K:PySem.W.Frag}{H:Hp}{p:Addr}{xs:List V}(h:seqAt H p=some xs):SqL K H p xs∨SqT K H p xs:=by
 unfold seqAt at h
 split at h
 ·rename_i e;cases h;exact .inl (SqL.of e)
 ·rename_i e;cases h;exact .inr (SqT.of e)
 ·rename_i e;cases h;exact .inl (.inl (.inr ⟨_,e⟩))
 ·cases h
def rIxF:R2:=fun x y H Q=>∃ p xs i v,x=.ref p∧y=.int i∧seqAt H p=some xs∧atI xs i=some v∧Q v H
theorem ix_seqA:IxR X rIxF:=by
 intro value slice pins s σ H x y v u Q I rx ry h hs
 obtain⟨p,xs,i,z,e1,e2,hq,he,q⟩:=h
 rcases sq_of (K:=X.K) hq with h' | h'
 ·exact ix_list value slice pins s σ H x y v u Q I rx ry ⟨p,xs,i,z,e1,e2,h',he,q⟩ hs
 ·exact ix_tup value slice pins s σ H x y v u Q I rx ry ⟨p,xs,i,z,e1,e2,h',he,q⟩ hs
def rLenF:List V→Hp→VK→Prop:=fun xs H Q=>∃ p ys,xs=[.ref p]∧seqAt H p=some ys∧Q (.int ys.length) H
theorem call_lenF:CallR X (.builtin "len") rLenF:=by
 intro pins s σ H xs us Q I r h
 obtain⟨p,ys,e1,hq,q⟩:=h
 exact call_len_seq pins s σ H xs us Q I r ⟨p,ys,e1,sq_of hq,q⟩
def rGetF:V→V→Hp→VK→Prop:=fun x y H Q=>∃ p xs i v,x=.ref p∧y=.int i∧H p=some (.lst xs)∧0≤i∧atI xs i=some v∧Q v H
theorem get_list:PGet X rGetF:=by
 intro pins s σ H o i ov iv Q I r1 r2 h
 obtain⟨p,xs,k,v,rfl,rfl,hl,h0,he,q⟩:=h
 obtain rfl:ov=Value.ref p:=r1
 obtain⟨t,rfl⟩:=r2
 obtain⟨its,rv,pl,hz⟩:=I.list (SqL.of hl)
 obtain⟨j,h1,h2,h3,h4,h5⟩:=atI_get he
 obtain⟨u,hu,ru⟩:=rv.get h2
 have hlen:=rv.length
 have hn:=line63
 have hj:k.toNat=j:=by
  rw[seqIndex_of h0 h5] at h1
  exact Option.some.inj h1
 exact wpAny_getItem_list pl.isList h0 (by omega) (by rw[hj];simpa using hu) ⟨v,H,I,ru,q⟩
theorem atI_0{α:Type}{a:α}{l:List α}:atI (a::l) 0=some a:=atI_nat (j:=0) rfl
theorem atI_1{α:Type}{a b:α}{l:List α}:atI (a::b::l) 1=some b:=atI_nat (j:=1) rfl
theorem atI_2{α:Type}{a b c:α}{l:List α}:atI (a::b::c::l) 2=some c:=atI_nat (j:=2) rfl
theorem atI_3{α:Type}{a b c d:α}{l:List α}:atI (a::b::c::d::l) 3=some d:=atI_nat (j:=3) rfl
theorem ixN_4_0:ixN 4 0=some 0:=rfl
theorem ixN_4_1:ixN 4 1=some 1:=rfl
theorem ixN_4_2:ixN 4 2=some 2:=rfl
theorem ixN_4_3:ixN 4 3=some 3:=rfl
theorem atI_lt{α:Type}{xs:List α}{i:Int}(h0:0≤i)(h1:i < xs.length):∃ v,atI xs i=some v∧v∈xs:=by
 have hl:i.toNat < xs.length:=by omega
 refine⟨xs[i.toNat],?_,List.getElem_mem hl⟩
 have:=atI_nat (xs:=xs) (j:=i.toNat) (v:=xs[i.toNat]) (by simp[hl])
 rwa [Int.toNat_of_nonneg h0] at this
end
theorem bt_len:bootBuiltins "len" = some (.builtin "len"):=by decide +kernel
theorem bt_abs:bootBuiltins "abs" = some (.builtin "abs"):=by decide +kernel
theorem bt_isinstance:bootBuiltins "isinstance" = some (.builtin "isinstance"):=by decide +kernel
theorem bt_sorted:bootBuiltins "sorted" = some (.builtin "sorted"):=by decide +kernel
theorem bt_sum:bootBuiltins "sum" = some (.builtin "sum"):=by decide +kernel
theorem bt_all:bootBuiltins "all" = some (.builtin "all"):=by decide +kernel
theorem bt_min:bootBuiltins "min" = some (.builtin "min"):=by decide +kernel
theorem bt_bool:bootBuiltins "bool" = some (.type "bool"):=by decide +kernel
theorem bt_list:bootBuiltins "list" = some (.type "list"):=by decide +kernel
theorem bt_tuple:bootBuiltins "tuple" = some (.type "tuple"):=by decide +kernel
theorem scal_ii{i j:Int}:scal (.int i) (.int j)=true:=rfl
theorem scal_bb{i j:Bool}:scal (.bl i) (.bl j)=true:=rfl
theorem scal_ss{i j:Str}:scal (.str i) (.str j)=true:=rfl
theorem scal_nn:scal .non .non=true:=rfl
theorem sizeLine_1:(1≤sizeLine)=True:=eq_true (by decide)
theorem sizeLine_2:(2≤sizeLine)=True:=eq_true (by decide)
theorem sizeLine_3:(3≤sizeLine)=True:=eq_true (by decide)
theorem sizeLine_4:(4≤sizeLine)=True:=eq_true (by decide)
theorem sizeLine_5:(5≤sizeLine)=True:=eq_true (by decide)
theorem sizeLine_6:(6≤sizeLine)=True:=eq_true (by decide)
theorem sizeLine_7:(7≤sizeLine)=True:=eq_true (by decide)
theorem int_c2:(((2:Nat):Int))=2:=rfl
theorem pow_ok:(Int.natAbs 10 < 2 ^ 64)=True:=eq_true (by decide)
theorem int_01:((0:Int)≤1)=True:=eq_true (by decide)
section
variable {X:Cx}
def rListF:List V→Hp→VK→Prop:=fun xs H Q=>∃ p ys,xs=[.ref p]∧seqAt H p=some ys∧∀ l,H l=none→Q (.ref l) (upd H l (.lst ys))
theorem call_listF:CallR X (.type "list") rListF:=by
 intro pins s σ H xs us Q I r h
 obtain⟨p,ys,e1,hq,q⟩:=h
 exact call_list_of pins s σ H xs us Q I r ⟨p,ys,e1,sq_of hq,q⟩
def rTupF:List V→Hp→VK→Prop:=fun xs H Q=>∃ p ys,xs=[.ref p]∧H p=some (.lst ys)∧∀ l,H l=none→Q (.ref l) (upd H l (.tup ys))
theorem call_tupF:CallR X (.type "tuple") rTupF:=by
 intro pins s σ H xs us Q I r h
 obtain⟨p,ys,e1,hq,q⟩:=h
 exact call_tuple_of pins s σ H xs us Q I r ⟨p,ys,e1,.inl ⟨SqL.of hq,q⟩⟩
theorem cutV_all{ns:List V}{k:Nat}(h:ns.length≤k):cutV ns none (some (k:Int))=ns:=by
 unfold cutV
 rw[HT.sIx_none,HT.sIx_nat,List.drop_zero,Nat.sub_zero,Nat.min_eq_right h,List.take_length]
end
def DefOk(P:Program)(w:World)(K:PySem.W.Frag)(mg:Str→Option Value)(base:Heap)(CX:CXT)(k:Nat)(x:Str)(ps:List Str)(sp:Sp):Prop :=
 ∃ f fd,FnOk P w K mg base CX k f fd ps sp∧mg x=some (.ref f)∧PySem.W.keepIn K (.ref f)=true∧Binds K fd ps []
inductive Tg.{u} {α:Sort u} (a:α):Type
 | mk
def Hold(Q:VK)(_:Tg Q):VK:=Q
theorem Hold_ap{Q:VK}{k:Tg Q}{v:V}{H:Hp}:Hold Q k v H=Q v H:=propext Iff.rfl
def tD(sp:Sp)(E:XK)(t:TA):TE:=fun σ H Q=>t σ H fun vs H1=>sp vs H1 (Hold Q .mk) E
section
variable {X:Cx}{CX:CXT}{k:Nat}{ps:List Str}{sp:Sp}{E:XK}{x:Str}{p pos:Pos}{e:Expr}{es:List Expr}{t:TA}
theorem pe_d(d:DefOk X.prog X.w X.K X.mg X.base CX k x ps sp)(hr:Room k X.A)(hx:Passes CX X E)(hg:Gl X x)(ha:PA X (e::es) t)
  (hdb:(x == ("__debug__" : Str))=false:=by decide) (he:starEach (e::es) X.env=(false,eval e X.env)::starEach es X.env:=by rfl) (hpl:(backTo pos (starEach es X.env)).any (·.1)=false:=by rfl) :
  PE X (.Call (.Name x p) (e::es) [] pos) (tD sp E t):=by
 obtain⟨f,fd,F,hm,hk,hb⟩:=d
 intro pins s σ H Q I h
 refine pe_call (dvs:=[]) (ds:=[]) F hr hg hm hk hb .nil hx ha hdb he hpl pins s σ H Q I ?_
 have e0:tCall sp [] E t=tD sp E t:=by
  funext σ H Q
  unfold tCall tD Hold
  simp only[List.append_nil]
 rw[e0]
 exact h
end
structure DefAt(K:PySem.W.Frag)(mg:Str→Option Value)(x:Str)(st:Stmt)(f:Addr)(fd:FuncData):Prop where
 fn:Fun K x x st f fd
 mg:mg x=some (.ref f)
theorem DefAt.ok{P:Program}{w:World}{K:PySem.W.Frag}{mg:Str→Option Value}{base:Heap}{CX:CXT}{k:Nat}{x:Str}{st:Stmt}{f:Addr}{fd:FuncData}{ps:List Str}{sp:Sp}(D:DefAt K mg x st f fd)(F:FnOk P w K mg base CX k f fd ps sp)(b:Binds K fd ps []):DefOk P w K mg base CX k x ps sp :=
 ⟨f,fd,F,D.mg,D.fn.kp,b⟩
theorem pick{P:Int→Prop}(l:List Int){d:Int}(h0:0≤d)(h1:d < l.length)(hp:∀ x∈l,P x):∃ x,atI (l.map V.int) d=some (.int x)∧P x:=by
 obtain⟨v,e,hv⟩:=atI_lt (xs:=l.map V.int) h0 (by rw[List.length_map];exact h1)
 obtain⟨x,hx,rfl⟩:=List.mem_map.mp hv
 exact⟨x,e,hp x hx⟩
def Fr1(B:Addr)(H H':Hp):Prop:=∀ b o,b≠B→H b=some o→H' b=some o
theorem Fr1.refl{B:Addr}{H:Hp}:Fr1 B H H:=fun _ _ _ h=>h
theorem Fr1.trans{B:Addr}{H H1 H2:Hp}(a:Fr1 B H H1)(b:Fr1 B H1 H2):Fr1 B H H2:=fun c o n h=>b c o n (a c o n h)
theorem Fr1.upd{B:Addr}{H:Hp}{o:HO}:Fr1 B H (L2.upd H B o):=fun c u n h=>by rw[upd_ne n];exact h
theorem Fr1.new{B p:Addr}{H:Hp}{o:HO}(hp:H p=none):Fr1 B H (L2.upd H p o):=fun c u n h=>by rw[upd_ne (ne_of_none h hp)];exact h
theorem Same.new{p:Addr}{H:Hp}{o:HO}(hp:H p=none):Same H (L2.upd H p o):=fun c u h=>by rw[upd_ne (ne_of_none h hp)];exact h
theorem Room.le{j k:Nat}{A:Around}(r:Room k A)(h:j≤k:=by decide):Room j A:=r.mono h
def Brk(b:Bool)(A B:Prop)(_:Tg A)(_:Tg B):Prop:=if b=true then A else B
theorem Brk_t{A B:Prop}{k:Tg A}{l:Tg B}:Brk true A B k l=A:=by unfold Brk;rw[if_pos rfl]
theorem Brk_f{A B:Prop}{k:Tg A}{l:Tg B}:Brk false A B k l=B:=by unfold Brk;rw[if_neg Bool.false_ne_true]
theorem brk{b:Bool}{A B:Prop}{k:Tg A}{l:Tg B}(h1:b=true→A)(h2:b=false→B):Brk b A B k l:=by
 cases b with
 | true=>rw[Brk_t];exact h1 rfl
 | false=>rw[Brk_f];exact h2 rfl
theorem brkD{p:Prop}[Decidable p]{A B:Prop}{k:Tg A}{l:Tg B}(h1:p→A)(h2:¬ p→B):Brk (decide p) A B k l:=brk (fun h=>h1 (of_decide_eq_true h)) (fun h=>h2 (of_decide_eq_false h))
theorem brkN{p:Prop}[Decidable p]{A B:Prop}{k:Tg A}{l:Tg B}(h1:¬ p→A)(h2:p→B):Brk (!decide p) A B k l:=brk (fun h=>h1 (by simpa using h)) (fun h=>h2 (by simpa using h))
section
variable {σ:St}{H:Hp}{Q:VK}{D:Ends}{te ta tb:TE}{t u:TS}{c c':TT}{tr:TA}{QT:Bool→Hp→Prop}{QA:List V→Hp→Prop}{x y:V}{xs:List V}{v:V}
theorem tSeq_ap:tSeq t u D σ H=t { D with nx:=u D } σ H:=propext Iff.rfl
theorem tIfS_ap:tIfS c t u D σ H=c σ H fun b H1=>Brk b (t D σ H1) (u D σ H1) .mk .mk:=propext Iff.rfl
theorem tNext_ap:tNext D σ H=D.nx σ H:=propext Iff.rfl
theorem tDrop_ap:tDrop te D σ H=te σ H fun _ H1=>D.nx σ H1:=propext Iff.rfl
theorem tRet_ap:tRet te D σ H=te σ H D.rt:=propext Iff.rfl
theorem tRetN_ap:tRetN D σ H=D.rt .non H:=propext Iff.rfl
theorem tAsg_ap{g:TG}:tAsg te g D σ H=te σ H fun x H1=>g x σ H1 D.nx:=propext Iff.rfl
theorem gName_ap{i:Nat}{R:St→Hp→Prop}:gName i v σ H R=R (σ.set i (some v)) H:=propext Iff.rfl
theorem gSub_ap{to ti:TE}{ts:TSet}{R:St→Hp→Prop}:gSub to ti ts v σ H R=to σ H fun o H1=>ti σ H1 fun i H2=>ts o i v H2 fun H3=>R σ H3:=propext Iff.rfl
theorem tPar_ap{i j:Nat}:tPar i j tr D σ H=tr σ H fun vs H1=>∃ v w,vs=[v,w]∧D.nx ((σ.set i (some v)).set j (some w)) H1:=propext Iff.rfl
theorem tAugS_ap{to ti:TE}{tg:V→V→Hp→VK→Prop}{tp:TIp}{ts:TSet}:tAugS to ti te tg tp ts D σ H=to σ H fun o H1=>ti σ H1 fun i H2=>tg o i H2 fun x H3=>te σ H3 fun y H4=>tp x y H4 fun z H5=>ts o i z H5 fun H6=>D.nx σ H6:=propext Iff.rfl
theorem tVar_ap{i:Nat}:tVar i σ H Q=∃ v,σ[i]?=some (some v)∧Q v H:=propext Iff.rfl
theorem tC_ap:tC v σ H Q=Q v H:=propext Iff.rfl
theorem tB_ap:tB te σ H QT=te σ H fun x H1=>∃ c,x=.bl c∧QT c H1:=propext Iff.rfl
theorem tTest_ap:tTest te σ H QT=te σ H fun x H1=>∃ c,x=.bl c∧QT c H1:=propext Iff.rfl
theorem tOp_ap{r:R2}:tOp r ta tb σ H Q=ta σ H fun x H1=>tb σ H1 fun y H2=>r x y H2 Q:=propext Iff.rfl
theorem tUn_ap{r:V→Hp→VK→Prop}:tUn r ta σ H Q=ta σ H fun x H1=>r x H1 Q:=propext Iff.rfl
theorem tCB_ap{r:List V→Hp→VK→Prop}:tCB r tr σ H Q=tr σ H fun vs H1=>r vs H1 Q:=propext Iff.rfl
theorem tNil_ap:tNil σ H QA=QA [] H:=propext Iff.rfl
theorem tCons_ap:tCons ta tr σ H QA=ta σ H fun x H1=>tr σ H1 fun xs H2=>QA (x::xs) H2:=propext Iff.rfl
theorem tTup_ap:tTup tr σ H Q=tr σ H fun xs H1=>xs.length≤sizeLine∧∀ p,H1 p=none→Q (.ref p) (upd H1 p (.tup xs)):=propext Iff.rfl
theorem tLst_ap:tLst tr σ H Q=tr σ H fun xs H1=>xs.length≤sizeLine∧∀ p,H1 p=none→Q (.ref p) (upd H1 p (.lst xs)):=propext Iff.rfl
theorem tAnd_ap:tAnd c c' σ H QT=c σ H fun b H1=>Brk b (c' σ H1 QT) (QT false H1) .mk .mk:=propext Iff.rfl
theorem tOr_ap:tOr c c' σ H QT=c σ H fun b H1=>Brk b (QT true H1) (c' σ H1 QT) .mk .mk:=propext Iff.rfl
theorem tNot_ap:tNot c σ H QT=c σ H fun b H1=>QT (!b) H1:=propext Iff.rfl
theorem tAndV_ap:tAndV ta tb σ H Q=ta σ H fun x H1=>∃ c,x=.bl c∧Brk c (tb σ H1 Q) (Q (.bl false) H1) .mk .mk:=propext Iff.rfl
theorem tOrV_ap:tOrV ta tb σ H Q=ta σ H fun x H1=>∃ c,x=.bl c∧Brk c (Q (.bl true) H1) (tb σ H1 Q) .mk .mk:=propext Iff.rfl
theorem tNotV_ap:tNotV ta σ H Q=ta σ H fun x H1=>∃ c,x=.bl c∧Q (.bl (!c)) H1:=propext Iff.rfl
theorem tIf_ap:tIf c ta tb σ H Q=c σ H fun b H1=>Brk b (ta σ H1 Q) (tb σ H1 Q) .mk .mk:=propext Iff.rfl
theorem tD_ap{sp:Sp}{E:XK}:tD sp E tr σ H Q=tr σ H fun vs H1=>sp vs H1 (Hold Q .mk) E:=propext Iff.rfl
theorem tCallX_ap{sp:Sp}{EX:XEx}:tCallX sp EX tr σ H Q=tr σ H fun vs H1=>sp vs H1 (Hold Q .mk) fun cls _ H2=>EX cls σ H2:=propext Iff.rfl
theorem tTry_ap{C:Addr}{tb':XEx→TS}{th:TS}:tTry C tb' th D σ H=tb' (fun cls σ' H'=>cls=.ref C∧th D σ' H') D σ H:=propext Iff.rfl
theorem tRaise_ap{C:Addr}{E:XK}:tRaise C E tr D σ H=tr σ H fun vs H1=>vs.length≤sizeLine∧E (.ref C) none H1:=propext Iff.rfl
theorem tIsN_ap:tIsN ta σ H Q=ta σ H fun x H1=>Q (.bl (decide (x=.non))) H1:=propext Iff.rfl
theorem tNotN_ap:tNotN ta σ H Q=ta σ H fun x H1=>Q (.bl (!decide (x=.non))) H1:=propext Iff.rfl
theorem rI_ap{C:Int→Int→Prop}{g:Int→Int→V}:rI C g x y H Q=∃ i j,x=.int i∧y=.int j∧C i j∧Q (g i j) H:=propext Iff.rfl
theorem rI0_ap{g:Int→Int→V}:rI0 g x y H Q=∃ i j,x=.int i∧y=.int j∧Q (g i j) H:=propext Iff.rfl
theorem rU_ap{g:Int→V}:rU g x H Q=∃ i,x=.int i∧Q (g i) H:=propext Iff.rfl
theorem rEq_ap:rEq x y H Q=(scal x y=true∧Q (.bl (decide (x=y))) H):=propext Iff.rfl
theorem rNe_ap:rNe x y H Q=(scal x y=true∧Q (.bl (!decide (x=y))) H):=propext Iff.rfl
theorem ipI_ap{f:Int→Int→Int}:ipI f x y H Q=∃ i j,x=.int i∧y=.int j∧Q (.int (f i j)) H:=propext Iff.rfl
theorem rIxF_ap:rIxF x y H Q=∃ p xs i v,x=.ref p∧y=.int i∧seqAt H p=some xs∧atI xs i=some v∧Q v H:=propext Iff.rfl
theorem rLenF_ap:rLenF xs H Q=∃ p ys,xs=[.ref p]∧seqAt H p=some ys∧Q (.int ys.length) H:=propext Iff.rfl
theorem rGetF_ap:rGetF x y H Q=∃ p xs i v,x=.ref p∧y=.int i∧H p=some (.lst xs)∧0≤i∧atI xs i=some v∧Q v H:=propext Iff.rfl
theorem rSetL_ap{R:Hp→Prop}:rSetL x y v H R=∃ p xs k j,x=.ref p∧y=.int k∧H p=some (.lst xs)∧ixN xs.length k=some j∧R (upd H p (.lst (xs.set j v))):=propext Iff.rfl
theorem rIsi_ap:rIsi xs H Q=∃ x n t,xs=[x,.ty n]∧n∈["bool", "int", "str", "list", "tuple", "dict"]∧tyNm x H=some t∧Q (.bl (isiB t n)) H:=propext Iff.rfl
theorem rListF_ap:rListF xs H Q=∃ p ys,xs=[.ref p]∧seqAt H p=some ys∧∀ l,H l=none→Q (.ref l) (upd H l (.lst ys)):=propext Iff.rfl
theorem rTupF_ap:rTupF xs H Q=∃ p ys,xs=[.ref p]∧H p=some (.lst ys)∧∀ l,H l=none→Q (.ref l) (upd H l (.tup ys)):=propext Iff.rfl
end
theorem seqAt_lst{H:Hp}{p:Addr}{xs:List V}(h:H p=some (.lst xs)):seqAt H p=some xs:=by unfold seqAt;rw[h]
theorem seqAt_tup{H:Hp}{p:Addr}{xs:List V}(h:H p=some (.tup xs)):seqAt H p=some xs:=by unfold seqAt;rw[h]
end L2
namespace L2
open PySem PySem.Spec PyProof.Rows
structure QE(X:Cx)(e:Expr)(t:TE):Prop where
 p:PE X e t
structure QT(X:Cx)(e:Expr)(t:TT):Prop where
 p:PT X e t
structure QW(X:Cx)(e:Expr)(t:TT):Prop where
 p:PW X e t
structure QA(X:Cx)(e:List Expr)(t:TA):Prop where
 p:PA X e t
structure QS(X:Cx)(e:Stmt)(t:TS):Prop where
 p:PS X e t
structure QB(X:Cx)(e:List Stmt)(t:TS):Prop where
 p:PSs X e t
structure QI(X:Cx)(tg e:Expr)(t:TI):Prop where
 p:PI X tg e t
structure QG(X:Cx)(e:Expr)(t:TG):Prop where
 p:PG X e t
structure QGs(X:Cx)(e:List Expr)(t:TGs):Prop where
 p:PGs X e t
structure QF(X:Cx)(e:List Expr)(t:TT):Prop where
 p:PFs X e t
structure QO(X:Cx)(e:Option Expr)(t:TO):Prop where
 p:PO X e t
section
variable {X:Cx}{a b c e o:Expr}{es rest:List Expr}{ta tb tc te:TE}{t tr:TA}{tA tB':TT}{pos p:Pos}{x:Str}{st:Stmt}{sts:List Stmt}{ts us:TS}
theorem qv(i:Nat)(hN:X.N[i]?=some x:=by rfl)(hv:Vis X.env.scope x:=by first | exact Or.inl rfl | exact Or.inr (Or.inl rfl) | exact Or.inr (Or.inr rfl))(hd:(x == ("__debug__" : Str))=false:=by decide)
  (hcd:(x == ("__classdict__" : Str))=false:=by decide):QE X (.Name x pos) (tVar i):=⟨pe_var hN hv hd hcd⟩
theorem qe_int{i j}:QE X (.Constant (.int i) j pos) (tC (.int i)):=⟨pe_int⟩
theorem qe_bl{i j}:QE X (.Constant (.bool i) j pos) (tC (.bl i)):=⟨pe_bl⟩
theorem qe_str{i j}:QE X (.Constant (.str i) j pos) (tC (.str i)):=⟨pe_str⟩
theorem qe_bltn{v:V}{u:Value}(hg:Gl X x)(hm:X.mg x=none)(hv:bootBuiltins x=some u)(r:RelV v u)(hn:x ≠ "__name__" := by decide)(hd:(x == ("__debug__" : Str))=false:=by decide):QE X (.Name x pos) (tC v):=⟨pe_bltn hg hm hv r hn hd⟩
theorem qe_op{op:Operator}{r:R2}(ho:OpR X (binaryOp op) r)(ha:QE X a ta)(hb:QE X b tb):QE X (.BinOp a op b pos) (tOp r ta tb):=⟨pe_op ho ha.p hb.p⟩
theorem qe_un{op:UnaryOp}{r:V→Hp→VK→Prop}(ho:UnR X (unaryOp op) r)(ha:QE X a ta):QE X (.UnaryOp op a pos) (tUn r ta):=⟨pe_un ho ha.p⟩
theorem qe_not(ha:QE X a ta):QE X (.UnaryOp .Not a pos) (tNotV ta):=⟨pe_not ha.p⟩
theorem qe_one{op}(h:QE X a ta):QE X (.BoolOp op [a] pos) ta:=⟨pe_one h.p⟩
theorem qe_and(ha:QE X a ta)(hb:QE X (.BoolOp .And (b::rest) pos) tb):QE X (.BoolOp .And (a::b::rest) pos) (tAndV ta tb):=⟨pe_and ha.p hb.p⟩
theorem qe_cmpR{op:CmpOp}{r:R2}(ho:OpR X (compareOp op) r)(ha:QE X a ta)(hb:QE X b tb)(hm:behindInMarks op b=false):QE X (.Compare a [op] [b] pos) (tOp r ta tb):=⟨pe_cmpR ho ha.p hb.p hm⟩
theorem qe_tup{x1}(h:QA X es t):QE X (.Tuple es x1 pos) (tTup t):=⟨pe_tup h.p⟩
theorem qe_lst(h:QA X es t):QE X (.List es pos) (tLst t):=⟨pe_lst h.p⟩
theorem qe_slice{r:V→Option Int→Option Int→Hp→VK→Prop}{lo hi:Option Expr}{tl th:TO}{p2:Pos}(hr:SlR X r)(he:QE X e te)(hl:QO X lo tl)(hu:QO X hi th):QE X (.Subscript e (.Slice lo hi none p2) pos) (tSl r te tl th):=⟨pe_slice hr he.p hl.p hu.p⟩
theorem qe_ix{r:R2}(hr:IxR X r)(ha:QE X a ta)(hb:QE X b tb)(hs:PlainIx b):QE X (.Subscript a b pos) (tOp r ta tb):=⟨pe_ix hr ha.p hb.p hs⟩
theorem qe_callB{id:String}{r:List V→Hp→VK→Prop}(hc:CallR X (.builtin id) r)(hg:Gl X x)(hm:X.mg x=none)(hv:bootBuiltins x=some (.builtin id))(ha:QA X (e::es) t)(hn:x ≠ "__name__" := by decide)(hdb:(x == ("__debug__" : Str))=false:=by decide)
  (he:starEach (e::es) X.env=(false,eval e X.env)::starEach es X.env:=by rfl) (hpl:(backTo pos (starEach es X.env)).any (·.1)=false:=by rfl):QE X (.Call (.Name x p) (e::es) [] pos) (tCB r t):=⟨pe_callB hc hg hm hv ha.p hn hdb he hpl⟩
theorem qe_callTy{T:String}{r:List V→Hp→VK→Prop}(hc:CallR X (.type T) r)(hg:Gl X x)(hm:X.mg x=none)(hv:bootBuiltins x=some (.type T))(ha:QA X (e::es) t)(hn:x ≠ "__name__" := by decide)(hdb:(x == ("__debug__" : Str))=false:=by decide)
  (he:starEach (e::es) X.env=(false,eval e X.env)::starEach es X.env:=by rfl) (hpl:(backTo pos (starEach es X.env)).any (·.1)=false:=by rfl):QE X (.Call (.Name x p) (e::es) [] pos) (tCB r t):=⟨pe_callTy hc hg hm hv ha.p hn hdb he hpl⟩
theorem qe_d{CX:CXT}{k:Nat}{ps:List Str}{sp:Sp}{E:XK}(d:DefOk X.prog X.w X.K X.mg X.base CX k x ps sp)(hr:Room k X.A)(hx:Passes CX X E)(hg:Gl X x)(ha:QA X (e::es) t)
  (hdb:(x == ("__debug__" : Str))=false:=by decide) (he:starEach (e::es) X.env=(false,eval e X.env)::starEach es X.env:=by rfl) (hpl:(backTo pos (starEach es X.env)).any (·.1)=false:=by rfl) :
  QE X (.Call (.Name x p) (e::es) [] pos) (tD sp E t):=⟨pe_d d hr hx hg ha.p hdb he hpl⟩
theorem qt_cmpR{op:CmpOp}{r:R2}(ho:OpR X (compareOp op) r)(ha:QE X a ta)(hb:QE X b tb)(hm:behindInMarks op b=false):QT X (.Compare a [op] [b] pos) (tTest (tOp r ta tb)):=⟨pt_cmpR ho ha.p hb.p hm⟩
theorem qt_not(ha:QT X a tA):QT X (.UnaryOp .Not a pos) (tNot tA):=⟨pt_not ha.p⟩
theorem qw_and(ha:QT X a tA)(hb:QW X (.BoolOp .And (b::rest) pos) tB'):QW X (.BoolOp .And (a::b::rest) pos) (tAnd tA tB'):=⟨pw_and ha.p hb.p⟩
theorem qw_and1(ha:QT X a tA):QW X (.BoolOp .And [a] pos) tA:=⟨pw_and1 ha.p⟩
theorem qw_or(ha:QT X a tA)(hb:QW X (.BoolOp .Or (b::rest) pos) tB'):QW X (.BoolOp .Or (a::b::rest) pos) (tOr tA tB'):=⟨pw_or ha.p hb.p⟩
theorem qw_or1(ha:QT X a tA):QW X (.BoolOp .Or [a] pos) tA:=⟨pw_or1 ha.p⟩
theorem QW.pt(h:QW X e tA):QT X e tA:=⟨h.p.pt⟩
theorem qt_val(h:QE X e te)(he:∀ whole,isTrue e X.env whole=(do let v ← whole;standAt e.pos;holding [v] (truthy v)):=by intro _;rfl):QT X e (tB te):=⟨pt_val h.p he⟩
theorem qa_nil:QA X [] tNil:=⟨pa_nil⟩
theorem qa_cons(ha:QE X e te)(hr:QA X es t)(hs:starEach (e::es) X.env=(false,eval e X.env)::starEach es X.env:=by rfl):QA X (e::es) (tCons te t):=⟨pa_cons ha.p hr.p hs⟩
theorem qi_list{tg:Expr}(hl:QE X e te):QI X tg e (iList X.K te):=⟨pi_list hl.p⟩
theorem qi_tup{tg:Expr}(hl:QE X e te):QI X tg e (iTup X.K te):=⟨pi_tup hl.p⟩
theorem qi_range1{tg:Expr}(hg:Gl X "range")(hm:X.mg "range" = none)(ha:QA X [a] t)(hs:starEach [a] X.env=[(false,eval a X.env)]:=by rfl):QI X tg (.Call (.Name "range" p) [a] [] pos) (iRng1 t):=⟨pi_range1 hg hm ha.p hs⟩
theorem qg_name{i:Nat}(hN:X.N.Nodup)(hi:X.N[i]?=some x)(hx:Loc X.env.scope x)(hf:X.fn x=true∨X.env.scope.names.lookup x=some .local:=by first | exact .inl rfl | exact .inr rfl | assumption):QG X (.Name x pos) (gName i):=⟨pg_name hN hi hx hf⟩
theorem qg_tup{k:Nat}{tg:TGs}{n:Nat}(hc:X.calm=true)(h:QGs X es tg)(hn:(assignEach es X.env).length=n:=by rfl)(hst:(assignEach es X.env).findIdx? (·.1)=none:=by rfl):QG X (.Tuple es k pos) (gTup X.K n tg):=⟨pg_tup hc h.p hn hst⟩
theorem qg_sub{i:Expr}{ti:TE}{tset:TSet}(ho:QE X o ta)(hi:QE X i ti)(hs:PSet X tset)
  (ha:∀ v,assign (.Subscript o i pos) X.env v=(do
   let ov ← holding [v] (eval o X.env)
   let iv ← holding [v,ov] (eval i X.env)
   standAt pos
   holding [v,ov,iv] (setItem ov iv v)
   release [v,ov,iv] []):=by intro _;rfl):QG X (.Subscript o i pos) (gSub ta ti tset):=⟨pg_sub ho.p hi.p hs ha⟩
theorem qgs_nil:QGs X [] gNil:=⟨pgs_nil⟩
theorem qgs_cons{tg:TG}{tgs:TGs}(h1:QG X e tg)(h2:QGs X es tgs)(hs:(assignEach (e::es) X.env).map (·.2)=assign e X.env::(assignEach es X.env).map (·.2):=by rfl):QGs X (e::es) (gCons tg tgs):=⟨pgs_cons h1.p h2.p hs⟩
theorem qss_nil:QB X [] tNext:=⟨pss_nil⟩
theorem qss_cons(h1:QS X st ts)(h2:QB X sts us):QB X (st::sts) (tSeq ts us):=⟨pss_cons h1.p h2.p⟩
theorem qss_one(h1:QS X st ts):QB X [st] ts:=⟨pss_one h1.p⟩
theorem qs_set{i:Nat}{pos':Pos}(hN:X.N.Nodup)(hi:X.N[i]?=some x)(hx:Loc X.env.scope x)(he:QE X e te)(hs:swapsWith e (some (.Name x pos')) pos.line X.env=pure false:=by rfl)(hf:X.fn x=true∨X.env.scope.names.lookup x=some .local:=by first | exact .inl rfl | exact .inr rfl | assumption) :
  QS X (.Assign [.Name x pos'] e pos) (tAsg te (gName i)):=⟨ps_set hN hi hx he.p hs hf⟩
theorem qs_par{i j:Nat}{y:Str}{px py pt:Pos}{kt k2 pt2}(hc:X.calm=true)(hN:X.N.Nodup)(hi:X.N[i]?=some x)(hj:X.N[j]?=some y)(hij:i≠j)
  (hx:X.env.scope.names.lookup x=some .local) (hy:X.env.scope.names.lookup y=some .local) (ha:QA X [a,b] t)
  (hw:swappedStores [.Tuple [.Name x px,.Name y py] kt pt] (.Tuple [a,b] k2 pt2) X.env=pure (some [x,y]))
  (hs:swapsWithSole [.Tuple [.Name x px,.Name y py] kt pt] (.Tuple [a,b] k2 pt2) pos.line X.env=pure false:=by rfl) :
  QS X (.Assign [.Tuple [.Name x px,.Name y py] kt pt] (.Tuple [a,b] k2 pt2) pos) (tPar i j t):=⟨ps_par hc hN hi hj hij hx hy ha.p hw hs⟩
theorem qs_asg{tg:Expr}{g:TG}(he:QE X e te)(hg:QG X tg g)(hs:swapsWithSole [tg] e pos.line X.env=pure false:=by rfl)(hw:swappedStores [tg] e X.env=pure none:=by rfl)(h1:List.map (fun x=>x.snd) (assignEach [tg] X.env)=[assign tg X.env]:=by rfl):QS X (.Assign [tg] e pos) (tAsg te g):=⟨ps_asg he.p hg.p hs hw h1⟩
theorem qs_augS{i:Expr}{ti:TE}{tget:V→V→Hp→VK→Prop}{tip:TIp}{tset:TSet}{op:Operator}{tpos:Pos}(ho:QE X o ta)(hi:QE X i ti)(hg:PGet X tget)(he:QE X e te)(hp:PIp X op tip)(hs:PSet X tset)
  (ha:∀ ov iv new,augStore i ov iv new=(do holding [new,ov,iv] (setItem ov iv new);release [new,ov,iv] [];pure .next):=by intros;rfl):QS X (.AugAssign (.Subscript o i tpos) op e pos) (tAugS ta ti te tget tip tset):=⟨ps_augS ho.p hi.p hg he.p hp hs ha⟩
theorem qs_ret(he:QE X e te):QS X (.Return (some e) pos) (tRet te):=⟨ps_ret he.p⟩
theorem qs_if{ss:List Stmt}(hc:QT X c tA)(ha:QB X sts ts)(hb:QB X ss us):QS X (.If c sts ss pos) (tIfS tA ts us):=⟨ps_if hc.p ha.p hb.p⟩
theorem qs_while(hp:PassesOwn (model X.prog X.w) X.A X.env X.xe)(hc:QT X c tA)(hb:QB X sts ts):QS X (.While c sts [] pos) (tWhile tA ts):=⟨ps_while hp hc.p hb.p⟩
theorem qs_for{tg iter:Expr}{wi:TI}{g:TG}(hp:PassesOwn (model X.prog X.w) X.A X.env X.xe)(hc:X.calm=true)(hi:QI X tg iter wi)(hg:QG X tg g)(hb:QB X sts ts)
  (hs:∀ x,foldedSetIterable iter X.env x=pure x:=by intro _;rfl):QS X (.For tg iter sts [] pos) (tFor wi g ts):=⟨ps_for hp hc hi.p hg.p hb.p hs⟩
theorem qs_expr(he:QE X e te)(hs:swapsWith e none pos.line X.env=pure false:=by rfl):QS X (.Expr e pos) (tDrop te):=⟨ps_expr he.p hs⟩
theorem qo_none:QO X none tNoPart:=⟨po_none⟩
theorem qo_some(h:QE X e te):QO X (some e) (tPart te):=⟨po_some h.p⟩
theorem qs_raise{E:XK}{C:Addr}{np cpos:Pos}(hR:Raises X E)(O:Exc X.K X.mg x C)(hc:X.calm=true)(hg:Gl X x)(ha:QA X (e::es) t)
  (hdb:(x == ("__debug__" : Str))=false:=by decide) (he:starEach (e::es) X.env=(false,eval e X.env)::starEach es X.env:=by rfl) (hpl:(backTo cpos (starEach es X.env)).any (·.1)=false:=by rfl) :
  QS X (.Raise (some (.Call (.Name x np) (e::es) [] cpos)) none pos) (tRaise C E t):=⟨ps_raise hR O hc hg ha.p hdb he hpl⟩
end
section
variable {X:Cx}{elt iter tg c:Expr}{ifs:List Expr}{scope:Scope}{pos spos py:Pos}{wi:TI}{g:TG}{tt:TT}{te:TE}
theorem qf_nil:QF X [] tYes:=⟨pf_nil⟩
theorem qf_one(h:QT X c tt):QF X [c] tt:=⟨pf_one h.p⟩
theorem qe_comp(own:List Str)(fr:List (Str×Nat))(hc:X.calm=true)(hi:QI X tg iter wi)
  (hgx:GExt g own.length) (hB:∀ cl C fp s2 H2,QG (X.comp (own++fr.map (·.1)) scope cl C fp s2 H2) tg g∧QF (X.comp (own++fr.map (·.1)) scope cl C fp s2 H2) ifs tt∧QE (X.comp (own++fr.map (·.1)) scope cl C fp s2 H2) elt te)
  (hkind:scope.kind=.function) (hcell:∀ y∈scope.names,y.2≠.cell) (hnames:∀ y∈scope.names,y.2=.local→scope.names.lookup y.1=some .local)
  (hfree:∀ y∈scope.names,y.2=.free→X.env.kindOf y.1=some .cell∨X.env.kindOf y.1=some .free)
  (hfr:∀ p∈fr,X.N[p.2]?=some p.1∧(X.env.kindOf p.1=some .cell∨X.env.kindOf p.1=some .free)∧(p.1,NameKind.free)∈scope.names∧((relabel scope X.env).names.lookup p.1=some .cell∨(relabel scope X.env).names.lookup p.1=some .free))
  (hs:∀ x,foldedSetIterable iter X.env x=pure x:=by intro _;rfl):QE X (.ListComp elt [⟨tg,iter,ifs,0⟩] scope pos) (tComp own.length (fr.map (·.2)) wi g tt te) :=
 ⟨pe_comp own fr hc hi.p hgx (fun cl C fp s2 H2=>⟨(hB cl C fp s2 H2).1.p,(hB cl C fp s2 H2).2.1.p,(hB cl C fp s2 H2).2.2.p⟩) hkind hcell hnames hfree hfr hs⟩
theorem qs_setC{k:Nat}{y:Str}(own:List Str)(fr:List (Str×Nat))(hNd:X.N.Nodup)(hk:X.N[k]?=some y)(hy:X.env.scope.names.lookup y=some .local)(hc:X.calm=true)(hi:QI X tg iter wi)
  (hgx:GExt g own.length) (hB:∀ cl C fp s2 H2,QG (X.comp (own++fr.map (·.1)) scope cl C fp s2 H2) tg g∧QF (X.comp (own++fr.map (·.1)) scope cl C fp s2 H2) ifs tt∧QE (X.comp (own++fr.map (·.1)) scope cl C fp s2 H2) elt te)
  (hkind:scope.kind=.function) (hcell:∀ y∈scope.names,y.2≠.cell) (hnames:∀ y∈scope.names,y.2=.local→scope.names.lookup y.1=some .local)
  (hfree:∀ y∈scope.names,y.2=.free→X.env.kindOf y.1=some .cell∨X.env.kindOf y.1=some .free)
  (hfr:∀ p∈fr,X.N[p.2]?=some p.1∧(X.env.kindOf p.1=some .cell∨X.env.kindOf p.1=some .free)∧(p.1,NameKind.free)∈scope.names∧((relabel scope X.env).names.lookup p.1=some .cell∨(relabel scope X.env).names.lookup p.1=some .free))
  (hsw:swapsWith (.ListComp elt [⟨tg,iter,ifs,0⟩] scope pos) (some (.Name y py)) spos.line X.env=pure true:=by rfl)
  (hs:∀ x,foldedSetIterable iter X.env x=pure x:=by intro _;rfl):QS X (.Assign [.Name y py] (.ListComp elt [⟨tg,iter,ifs,0⟩] scope pos) spos) (tAsg (tComp own.length (fr.map (·.2)) wi g tt te) (gName k)) :=
 ⟨ps_setC own fr hNd hk hy hc hi.p hgx (fun cl C fp s2 H2=>⟨(hB cl C fp s2 H2).1.p,(hB cl C fp s2 H2).2.1.p,(hB cl C fp s2 H2).2.2.p⟩) hkind hcell hnames hfree hfr hsw hs⟩
theorem tChain_ap{r r':R2}{ta tb tc:TE}{σ:St}{H:Hp}{Q:VK}:tChain r r' ta tb tc σ H Q=ta σ H fun x H1=>tb σ H1 fun y H2=>r x y H2 fun z H3=>∃ k,z=.bl k∧Brk k (tc σ H3 fun w' H4=>r' y w' H4 Q) (Q (.bl false) H3) .mk .mk:=propext Iff.rfl
end
theorem free_of{names:List (Str×NameKind)}{k:Str→Option NameKind}(h:names.all (fun y=>!decide (y.2=.free) || (decide (k y.1=some .cell) || decide (k y.1=some .free)))=true):∀ y∈names,y.2=.free→k y.1=some .cell∨k y.1=some .free:=fun y hy hf=>by
 have:=List.all_eq_true.mp h y hy
 simpa [hf] using this
theorem fr_of{N:List Str}{names rel:List (Str×NameKind)}{k:Str→Option NameKind}{fr:List (Str×Nat)}
  (h:fr.all (fun p=>decide (N[p.2]?=some p.1) && (decide (k p.1=some .cell) || decide (k p.1=some .free)) && decide ((p.1,NameKind.free)∈names) && (decide (rel.lookup p.1=some .cell) || decide (rel.lookup p.1=some .free)))=true) :
  ∀ p∈fr,N[p.2]?=some p.1∧(k p.1=some .cell∨k p.1=some .free)∧(p.1,NameKind.free)∈names∧(rel.lookup p.1=some .cell∨rel.lookup p.1=some .free):=fun p hp=>by
 have:=List.all_eq_true.mp h p hp
 simp only[Bool.and_eq_true,Bool.or_eq_true,decide_eq_true_eq] at this
 exact⟨this.1.1.1,this.1.1.2,this.1.2,this.2⟩
theorem DefAt.q{P:Program}{w:World}{K:PySem.W.Frag}{mg:Str→Option Value}{base:Heap}{x:Str}{st:Stmt}{f:Addr}{fd:FuncData}{N ps:List Str}{k:Nat}{sp:Sp}(D:DefAt K mg x st f fd)(S:FnScope N ps (defScope st))(len:∀ vs H Q E,sp vs H Q E→vs.length=ps.length)
  (hbody:∀(cdv:Value)(A:Around)(outer:List Env)(s:Shared)(H:Hp)(vs:List V)(Q:VK)(E:XK),Room k (A.deeper (envOfC x (defScope st) s.heap.objs.size f cdv))→sp vs H Q E →
   ∃ t,QB (cxOf CX0 P w K mg base N x (defScope st) f cdv A outer s H E).nox (defBody st) t∧t { nx:=fun _ H'=>Q .non H',rt:=Q } (start N vs) H):FnOk P w K mg base CX0 (k+1) f fd ps sp :=
 D.fn.ok S len fun cdv A outer s H vs Q E hr h=>by
  obtain⟨t,h1,h2⟩:=hbody cdv A outer s H vs Q E hr h
  exact⟨t,h1.p,h2⟩
theorem DefAt.qR{P:Program}{w:World}{K:PySem.W.Frag}{mg:Str→Option Value}{base:Heap}{x:Str}{st:Stmt}{f:Addr}{fd:FuncData}{N ps:List Str}{k:Nat}{sp:Sp}(D:DefAt K mg x st f fd)(S:FnScope N ps (defScope st))(len:∀ vs H Q E,sp vs H Q E→vs.length=ps.length)
  (hbody:∀(cdv:Value)(A:Around)(outer:List Env)(s:Shared)(H:Hp)(vs:List V)(Q:VK)(E:XK),Room k (A.deeper (envOfC x (defScope st) s.heap.objs.size f cdv))→sp vs H Q E →
   ∃ t,QB (cxR P w K mg base N x (defScope st) f cdv A outer s H E) (defBody st) t∧t { nx:=fun _ H'=>Q .non H',rt:=Q } (start N vs) H):FnOk P w K mg base (CXR P w) (k+1) f fd ps sp :=
 D.fn.okR S len fun cdv A outer s H vs Q E hr h=>by
  obtain⟨t,h1,h2⟩:=hbody cdv A outer s H vs Q E hr h
  exact⟨t,h1.p,h2⟩
end L2
namespace L2
open PySem PySem.Spec PyProof.Rows
inductive Dt where
 | non | bl (b:Bool) | int (i:Int) | str (x:Str) | tup (l:List Dt) | lst (l:List Dt)
mutual
def Den(H:Hp):Dt→V→Prop
 | .non,x=>x=.non
 | .bl b,x=>x=.bl b
 | .int i,x=>x=.int i
 | .str z,x=>x=.str z
 | .tup ds,x=>∃ a xs,x=.ref a∧H a=some (.tup xs)∧Dens H ds xs
 | .lst ds,x=>∃ a xs,x=.ref a∧H a=some (.lst xs)∧Dens H ds xs
def Dens(H:Hp):List Dt→List V→Prop
 | [],xs=>xs=[]
 | d::ds,xs=>∃ y ys,xs=y::ys∧Den H d y∧Dens H ds ys
end
theorem Dens.length{H:Hp}:∀{ds:List Dt}{xs:List V},Dens H ds xs→ds.length=xs.length
 | [],xs,h=>by
  unfold Dens at h
  rw[h]
  rfl
 | d::ds,xs,h=>by
  unfold Dens at h
  obtain⟨y,ys,rfl,_,h2⟩:=h
  rw[List.length_cons,List.length_cons,Dens.length h2]
theorem Dens.get{H:Hp}:∀{ds:List Dt}{xs:List V}{j:Nat}{d:Dt},Dens H ds xs→ds[j]?=some d→∃ y,xs[j]?=some y∧Den H d y
 | [],xs,j,d,h,e=>by simp at e
 | c::ds,xs,0,d,h,e=>by
  unfold Dens at h
  obtain⟨y,ys,rfl,h1,h2⟩:=h
  cases e
  exact⟨y,rfl,h1⟩
 | c::ds,xs,j+1,d,h,e=>by
  unfold Dens at h
  obtain⟨y,ys,rfl,h1,h2⟩:=h
  obtain⟨y',g,n⟩:=Dens.get (j:=j) h2 (by simpa using e)
  exact⟨y',by simpa using g,n⟩
mutual
theorem Den.same{H H':Hp}(s:∀ b o,H b=some o→H' b=some o):∀{d:Dt}{x:V},Den H d x→Den H' d x
 | .non,x,h=>by unfold Den at h ⊢;exact h
 | .bl b,x,h=>by unfold Den at h ⊢;exact h
 | .int i,x,h=>by unfold Den at h ⊢;exact h
 | .str z,x,h=>by unfold Den at h ⊢;exact h
 | .tup ds,x,h=>by
  unfold Den at h ⊢
  obtain⟨a,xs,e,h1,h2⟩:=h
  exact⟨a,xs,e,s _ _ h1,Dens.same s h2⟩
 | .lst ds,x,h=>by
  unfold Den at h ⊢
  obtain⟨a,xs,e,h1,h2⟩:=h
  exact⟨a,xs,e,s _ _ h1,Dens.same s h2⟩
theorem Dens.same{H H':Hp}(s:∀ b o,H b=some o→H' b=some o):∀{ds:List Dt}{xs:List V},Dens H ds xs→Dens H' ds xs
 | [],xs,h=>by unfold Dens at h ⊢;exact h
 | d::ds,xs,h=>by
  unfold Dens at h ⊢
  obtain⟨y,ys,e,h1,h2⟩:=h
  exact⟨y,ys,e,Den.same s h1,Dens.same s h2⟩
end
mutual
theorem Den.inj{H:Hp}:∀{d e:Dt}{x:V},Den H d x→Den H e x→d=e
 | d,e,x,h1,h2=>by
  cases d with
  | tup ds =>
   unfold Den at h1
   obtain⟨a,xs,rfl,g1,g2⟩:=h1
   cases e<;>unfold Den at h2
   case tup es =>
    obtain⟨b,ys,eb,k1,k2⟩:=h2
    cases eb
    rw[g1] at k1
    cases k1
    rw[Dens.inj g2 k2]
   case lst es =>
    obtain⟨b,ys,eb,k1,k2⟩:=h2
    cases eb
    rw[g1] at k1
    cases k1
   all_goals cases h2
  | lst ds =>
   unfold Den at h1
   obtain⟨a,xs,rfl,g1,g2⟩:=h1
   cases e<;>unfold Den at h2
   case lst es =>
    obtain⟨b,ys,eb,k1,k2⟩:=h2
    cases eb
    rw[g1] at k1
    cases k1
    rw[Dens.inj g2 k2]
   case tup es =>
    obtain⟨b,ys,eb,k1,k2⟩:=h2
    cases eb
    rw[g1] at k1
    cases k1
   all_goals cases h2
  | non=>unfold Den at h1;subst h1;cases e<;>unfold Den at h2<;>first | (obtain⟨_,_,z,_⟩:=h2;cases z;done) | (cases h2;rfl) | (cases h2;done) | rfl
  | bl b=>unfold Den at h1;subst h1;cases e<;>unfold Den at h2<;>first | (obtain⟨_,_,z,_⟩:=h2;cases z;done) | (cases h2;rfl) | (cases h2;done) | rfl
  | int b=>unfold Den at h1;subst h1;cases e<;>unfold Den at h2<;>first | (obtain⟨_,_,z,_⟩:=h2;cases z;done) | (cases h2;rfl) | (cases h2;done) | rfl
  | str b=>unfold Den at h1;subst h1;cases e<;>unfold Den at h2<;>first | (obtain⟨_,_,z,_⟩:=h2;cases z;done) | (cases h2;rfl) | (cases h2;done) | rfl
theorem Dens.inj{H:Hp}:∀{ds es:List Dt}{xs:List V},Dens H ds xs→Dens H es xs→ds=es
 | [],[],_,_,_=>rfl
 | [],e::es,xs,h1,h2=>by
  unfold Dens at h1 h2
  obtain⟨_,_,z,_⟩:=h2
  rw[h1] at z
  cases z
 | d::ds,[],xs,h1,h2=>by
  unfold Dens at h1 h2
  obtain⟨_,_,z,_⟩:=h1
  rw[h2] at z
  cases z
 | d::ds,e::es,xs,h1,h2=>by
  unfold Dens at h1 h2
  obtain⟨y,ys,rfl,a1,a2⟩:=h1
  obtain⟨y',ys',ez,b1,b2⟩:=h2
  cases ez
  rw[Den.inj a1 b1,Dens.inj a2 b2]
end
def Cmp:Nat→Dt→Dt→Prop
 | _,.int _,.int _=>True
 | _,.bl _,.bl _=>True
 | _,.str _,.str _=>True
 | _,.non,.non=>True
 | _,.non,.tup _=>True
 | _,.tup _,.non=>True
 | k+1,.tup ds,.tup es=>∀(j:Nat) d e,ds[j]?=some d→es[j]?=some e→Cmp k d e
 | k+1,.lst ds,.lst es=>ds.length=es.length→∀(j:Nat) d e,ds[j]?=some d→es[j]?=some e→Cmp k d e
 | _,_,_=>False
section
open Classical
theorem all_range{ds es:List Dt}(n:Nat)(hn:n=min ds.length es.length):((List.range n).all (fun j=>decide (ds[j]?=es[j]?)) && decide (ds.length=es.length))=decide (ds=es):=by
 rw[Bool.eq_iff_iff]
 simp only[Bool.and_eq_true,List.all_eq_true,List.mem_range,decide_eq_true_eq]
 constructor
 ·rintro ⟨h1,h2⟩
  refine List.ext_getElem? fun i=>?_
  by_cases hi:i < n
  ·exact h1 i hi
  ·rw[List.getElem?_eq_none_iff.mpr (by omega),List.getElem?_eq_none_iff.mpr (by omega)]
 ·rintro rfl
  exact⟨fun _ _=>rfl,rfl⟩
theorem all_range2{ds es:List Dt}(hl:ds.length=es.length):((List.range ds.length).all (fun j=>decide (ds[j]?=es[j]?)))=decide (ds=es):=by
 have h:=all_range (ds:=ds) (es:=es) ds.length (by omega)
 rw[decide_eq_true hl,Bool.and_true] at h
 exact h
theorem dec_tup(ds es:List Dt):decide (Dt.tup ds=Dt.tup es)=decide (ds=es):=by
 rw[decide_eq_decide]
 exact⟨fun h=>Dt.tup.inj h,fun h=>by rw[h]⟩
theorem dec_lst(ds es:List Dt):decide (Dt.lst ds=Dt.lst es)=decide (ds=es):=by
 rw[decide_eq_decide]
 exact⟨fun h=>Dt.lst.inj h,fun h=>by rw[h]⟩
variable {X:Cx}{pins:List (Addr×Obj)}{σ:St}{H:Hp}{s:Shared}
theorem rc_seq(I:Inv X pins σ H s){k:Nat}(ih:∀ d e x y u v (A:Around),Den H d x→Den H e y→Cmp k d e→A.units+k+2 < cLine→RelV x u→RelV y v→SeqAt.EqAt A s u v (decide (d=e)))
  {ds es:List Dt} {a b:Addr} {A:Around} (hu:A.units+(k+1)+2 < cLine) :
  (∀ xs ys,H a=some (.tup xs)→H b=some (.tup ys)→Dens H ds xs→Dens H es ys→(∀(j:Nat) d e,ds[j]?=some d→es[j]?=some e→Cmp k d e)→SeqAt.RcAt A s (.ref a) (.ref b) (decide (Dt.tup ds=Dt.tup es))∧SeqAt.RcNeAt A s (.ref a) (.ref b) (!decide (Dt.tup ds=Dt.tup es))) ∧
  (∀ xs ys,H a=some (.lst xs)→H b=some (.lst ys)→Dens H ds xs→Dens H es ys→(ds.length=es.length→∀(j:Nat) d e,ds[j]?=some d→es[j]?=some e→Cmp k d e)→SeqAt.RcAt A s (.ref a) (.ref b) (decide (Dt.lst ds=Dt.lst es))∧SeqAt.RcNeAt A s (.ref a) (.ref b) (!decide (Dt.lst ds=Dt.lst es))):=by
 have hu':A.units < cLine:=by omega
 have el:∀(xs ys:List V)(i1 i2:List Value),Dens H ds xs→Dens H es ys→Vals xs i1→Vals ys i2→(∀(j:Nat) d e,ds[j]?=some d→es[j]?=some e→Cmp k d e) →
   ∀ j (h1:j < i1.toArray.size) (h2:j < i2.toArray.size),SeqAt.EqAt A.in1 s i1.toArray[j] i2.toArray[j] (decide (ds[j]?=es[j]?)):=fun xs ys i1 i2 d1 d2 v1 v2 hc j h1 h2=>by
  have l1:=v1.length
  have l2:=v2.length
  have l3:=d1.length
  have l4:=d2.length
  have k1:j < i1.length:=by simpa using h1
  have k2:j < i2.length:=by simpa using h2
  have m1:j < ds.length:=by omega
  have m2:j < es.length:=by omega
  have e1:ds[j]?=some ds[j]:=List.getElem?_eq_getElem m1
  have e2:es[j]?=some es[j]:=List.getElem?_eq_getElem m2
  obtain⟨y1,g1,n1⟩:=d1.get e1
  obtain⟨y2,g2,n2⟩:=d2.get e2
  obtain⟨u1,w1,r1⟩:=v1.get g1
  obtain⟨u2,w2,r2⟩:=v2.get g2
  have z1:i1.toArray[j]=u1:=by
   rw[List.getElem?_eq_getElem k1] at w1
   simpa using w1
  have z2:i2.toArray[j]=u2:=by
   rw[List.getElem?_eq_getElem k2] at w2
   simpa using w2
  have key:=ih _ _ _ _ _ _ A.in1 n1 n2 (hc j _ _ e1 e2) (by show A.units+1+k+2 < cLine;omega) r1 r2
  have ed:decide (ds[j]?=es[j]?)=decide (ds[j]=es[j]):=by
   rw[decide_eq_decide,e1,e2]
   exact⟨fun h=>Option.some.inj h,fun h=>by rw[h]⟩
  rw[z1,z2,ed]
  exact key
 refine⟨fun xs ys ha hb d1 d2 hc=>?_,fun xs ys ha hb d1 d2 hc=>?_⟩
 ·obtain⟨i1,v1,t1,_⟩:=I.tuple (SqT.of ha)
  obtain⟨i2,v2,t2,_⟩:=I.tuple (SqT.of hb)
  have l1:=v1.length
  have l2:=v2.length
  have l3:=d1.length
  have l4:=d2.length
  have e:=el xs ys i1 i2 d1 d2 v1 v2 hc
  have s1:i1.toArray.size=ds.length:=by rw[List.size_toArray];omega
  have s2:i2.toArray.size=es.length:=by rw[List.size_toArray];omega
  have b1:((List.range (min i1.toArray.size i2.toArray.size)).all (fun j=>decide (ds[j]?=es[j]?)) && i1.toArray.size == i2.toArray.size)=decide (Dt.tup ds=Dt.tup es):=by
   rw[s1,s2,dec_tup,← all_range (ds:=ds) (es:=es) _ rfl]
   congr 1
   all_goals (rw[Bool.eq_iff_iff];simp)
  rw[← b1]
  exact⟨SeqAt.RcAt.tuples t1 t2 hu' e,SeqAt.RcNeAt.tuples t1 t2 hu' e⟩
 ·obtain⟨i1,v1,t1,_⟩:=I.list (SqL.of ha)
  obtain⟨i2,v2,t2,_⟩:=I.list (SqL.of hb)
  have l1:=v1.length
  have l2:=v2.length
  have l3:=d1.length
  have l4:=d2.length
  have s1:i1.toArray.size=ds.length:=by rw[List.size_toArray];omega
  have s2:i2.toArray.size=es.length:=by rw[List.size_toArray];omega
  by_cases hl:ds.length=es.length
  ·have e:=el xs ys i1 i2 d1 d2 v1 v2 (hc hl)
   have b1:(List.range i1.toArray.size).all (fun j=>decide (ds[j]?=es[j]?))=decide (Dt.lst ds=Dt.lst es):=by
    rw[s1,dec_lst,← all_range2 hl]
   rw[← b1]
   exact⟨SeqAt.RcAt.lists t1.isList t2.isList (by omega) hu' e,SeqAt.RcNeAt.lists t1.isList t2.isList (by omega) hu' e⟩
  ·have b1:decide (Dt.lst ds=Dt.lst es)=false:=decide_eq_false fun h=>hl (by rw[Dt.lst.inj h])
   have nz:(i1.toArray.size != i2.toArray.size)=true:=by
    rw[s1,s2]
    simpa using hl
   rw[b1]
   exact⟨SeqAt.RcAt.lists_lengths t1.isList t2.isList nz hu',SeqAt.RcNeAt.lists_lengths t1.isList t2.isList nz hu'⟩
theorem dec_int'(a b:Int):decide (Dt.int a=Dt.int b)=(a == b):=by
 rw[Bool.eq_iff_iff]
 simp
theorem dec_bl'(a b:Bool):decide (Dt.bl a=Dt.bl b)=(a == b):=by
 rw[Bool.eq_iff_iff]
 simp
theorem dec_str'(a b:Str):decide (Dt.str a=Dt.str b)=(a == b):=by
 rw[Bool.eq_iff_iff]
 simp
theorem eq_den(I:Inv X pins σ H s):∀(k:Nat)(d e:Dt)(x y:V)(u v:Value)(A:Around),Den H d x→Den H e y→Cmp k d e→A.units+k+2 < cLine→RelV x u→RelV y v→SeqAt.EqAt A s u v (decide (d=e)):=by
 intro k
 induction k with
 | zero =>
  intro d e x y u v A h1 h2 hc hu r1 r2
  cases d<;>cases e<;>first | exact hc.elim | skip
  ·unfold Den at h1 h2;subst h1;subst h2;cases r1;cases r2
   rw[decide_eq_true rfl];exact SeqAt.EqAt.same _
  ·unfold Den at h1 h2;subst h1;cases r1
   obtain⟨a,xs,rfl,ha,_⟩:=h2;cases r2
   obtain⟨i1,_,t1,_⟩:=I.tuple (SqT.of ha)
   rw[decide_eq_false (by intro z;cases z)];exact SeqAt.EqAt.none_tuple t1 (by omega)
  ·unfold Den at h1 h2;subst h1;subst h2;cases r1;cases r2
   rw[dec_bl'];exact SeqAt.EqAt.bool_bool _ _
  ·unfold Den at h1 h2;subst h1;subst h2;obtain⟨t1,rfl⟩:=r1;obtain⟨t2,rfl⟩:=r2
   rw[dec_int'];exact SeqAt.EqAt.int_int _ _ _ _
  ·unfold Den at h1 h2;subst h1;subst h2;obtain⟨t1,rfl⟩:=r1;obtain⟨t2,rfl⟩:=r2
   rw[dec_str'];exact SeqAt.EqAt.str_str _ _ _ _
  ·unfold Den at h1 h2;subst h2;cases r2
   obtain⟨a,xs,rfl,ha,_⟩:=h1;cases r1
   obtain⟨i1,_,t1,_⟩:=I.tuple (SqT.of ha)
   rw[decide_eq_false (by intro z;cases z)];exact SeqAt.EqAt.tuple_none t1 (by omega)
 | succ k ih =>
  intro d e x y u v A h1 h2 hc hu r1 r2
  cases d<;>cases e<;>first | exact hc.elim | skip
  ·unfold Den at h1 h2;subst h1;subst h2;cases r1;cases r2
   rw[decide_eq_true rfl];exact SeqAt.EqAt.same _
  ·unfold Den at h1 h2;subst h1;cases r1
   obtain⟨a,xs,rfl,ha,_⟩:=h2;cases r2
   obtain⟨i1,_,t1,_⟩:=I.tuple (SqT.of ha)
   rw[decide_eq_false (by intro z;cases z)];exact SeqAt.EqAt.none_tuple t1 (by omega)
  ·unfold Den at h1 h2;subst h1;subst h2;cases r1;cases r2
   rw[dec_bl'];exact SeqAt.EqAt.bool_bool _ _
  ·unfold Den at h1 h2;subst h1;subst h2;obtain⟨t1,rfl⟩:=r1;obtain⟨t2,rfl⟩:=r2
   rw[dec_int'];exact SeqAt.EqAt.int_int _ _ _ _
  ·unfold Den at h1 h2;subst h1;subst h2;obtain⟨t1,rfl⟩:=r1;obtain⟨t2,rfl⟩:=r2
   rw[dec_str'];exact SeqAt.EqAt.str_str _ _ _ _
  ·unfold Den at h1 h2;subst h2;cases r2
   obtain⟨a,xs,rfl,ha,_⟩:=h1;cases r1
   obtain⟨i1,_,t1,_⟩:=I.tuple (SqT.of ha)
   rw[decide_eq_false (by intro z;cases z)];exact SeqAt.EqAt.tuple_none t1 (by omega)
  ·have g1:=h1
   have g2:=h2
   unfold Den at h1 h2
   obtain⟨a,xs,rfl,ha,da⟩:=h1
   obtain⟨b,ys,rfl,hb,db⟩:=h2
   cases r1;cases r2
   by_cases hab:a=b
   ·subst hab
    rw[decide_eq_true (g1.inj g2)]
    exact SeqAt.EqAt.same _
   ·exact SeqAt.EqAt.of_refs hab ((rc_seq I ih hu).1 xs ys ha hb da db hc).1
  ·have g1:=h1
   have g2:=h2
   unfold Den at h1 h2
   obtain⟨a,xs,rfl,ha,da⟩:=h1
   obtain⟨b,ys,rfl,hb,db⟩:=h2
   cases r1;cases r2
   by_cases hab:a=b
   ·subst hab
    rw[decide_eq_true (g1.inj g2)]
    exact SeqAt.EqAt.same _
   ·exact SeqAt.EqAt.of_refs hab ((rc_seq I ih hu).2 xs ys ha hb da db hc).1
def rEqD:R2:=fun x y H Q=>∃ d e,Den H d x∧Den H e y∧Cmp 8 d e∧Q (.bl (decide (d=e))) H
def rNeD:R2:=fun x y H Q=>∃ d e,Den H d x∧Den H e y∧Cmp 8 d e∧Q (.bl (!decide (d=e))) H
theorem rcs(I:Inv X pins σ H s){d e:Dt}{x y:V}{u v:Value}{A:Around}(h1:Den H d x)(h2:Den H e y)(hc:Cmp 8 d e)(hu:A.units+64 < cLine)(r1:RelV x u)(r2:RelV y v) :
  SeqAt.RcAt A s u v (decide (d=e))∧SeqAt.RcNeAt A s u v (!decide (d=e)):=by
 cases d<;>cases e<;>first | exact hc.elim | skip
 ·unfold Den at h1 h2;subst h1;subst h2;cases r1;cases r2
  rw[decide_eq_true rfl];exact⟨SeqAt.RcAt.none_none,SeqAt.RcNeAt.none_none⟩
 ·unfold Den at h1 h2;subst h1;cases r1
  obtain⟨a,xs,rfl,ha,_⟩:=h2;cases r2
  obtain⟨i1,_,t1,_⟩:=I.tuple (SqT.of ha)
  rw[decide_eq_false (by intro z;cases z)];exact⟨SeqAt.RcAt.none_tuple t1 (by omega),SeqAt.RcNeAt.none_tuple t1 (by omega)⟩
 ·unfold Den at h1 h2;subst h1;subst h2;cases r1;cases r2
  rw[dec_bl'];exact⟨SeqAt.RcAt.bool_bool _ _,SeqAt.RcNeAt.bool_bool _ _⟩
 ·unfold Den at h1 h2;subst h1;subst h2;obtain⟨t1,rfl⟩:=r1;obtain⟨t2,rfl⟩:=r2
  rw[dec_int'];exact⟨SeqAt.RcAt.int_int _ _ _ _,SeqAt.RcNeAt.int_int _ _ _ _⟩
 ·unfold Den at h1 h2;subst h1;subst h2;obtain⟨t1,rfl⟩:=r1;obtain⟨t2,rfl⟩:=r2
  rw[dec_str'];exact⟨SeqAt.RcAt.str_str _ _ _ _,SeqAt.RcNeAt.str_str _ _ _ _⟩
 ·unfold Den at h1 h2;subst h2;cases r2
  obtain⟨a,xs,rfl,ha,_⟩:=h1;cases r1
  obtain⟨i1,_,t1,_⟩:=I.tuple (SqT.of ha)
  rw[decide_eq_false (by intro z;cases z)];exact⟨SeqAt.RcAt.tuple_none t1 (by omega),SeqAt.RcNeAt.tuple_none t1 (by omega)⟩
 ·unfold Den at h1 h2
  obtain⟨a,xs,rfl,ha,da⟩:=h1
  obtain⟨b,ys,rfl,hb,db⟩:=h2
  cases r1;cases r2
  exact (rc_seq I (eq_den I 7) (by omega)).1 xs ys ha hb da db hc
 ·unfold Den at h1 h2
  obtain⟨a,xs,rfl,ha,da⟩:=h1
  obtain⟨b,ys,rfl,hb,db⟩:=h2
  cases r1;cases r2
  exact (rc_seq I (eq_den I 7) (by omega)).2 xs ys ha hb da db hc
theorem op_eqD(hu:X.A.units+64 < cLine):OpR X (compareOp .Eq) rEqD:=by
 intro pins s σ H x y v u Q I rx ry h
 obtain⟨d,e,h1,h2,hc,q⟩:=h
 exact (rcs I h1 h2 hc hu rx ry).1 _ _ _ _ ⟨.bl _,H,I,rfl,q⟩
theorem op_neD(hu:X.A.units+64 < cLine):OpR X (compareOp .NotEq) rNeD:=by
 intro pins s σ H x y v u Q I rx ry h
 obtain⟨d,e,h1,h2,hc,q⟩:=h
 exact (rcs I h1 h2 hc hu rx ry).2 _ _ _ _ ⟨.bl _,H,I,rfl,q⟩
end
theorem den2{H:Hp}{p:Addr}{a b:Int}(h:H p=some (.tup [.int a,.int b])):Den H (.tup [.int a,.int b]) (.ref p):=by
 unfold Den
 refine⟨p,_,rfl,h,?_⟩
 unfold Dens
 refine⟨_,_,rfl,by unfold Den;rfl,?_⟩
 unfold Dens
 refine⟨_,_,rfl,by unfold Den;rfl,?_⟩
 unfold Dens
 rfl
theorem cmp2{k:Nat}(a b c d:Int):Cmp (k+1) (.tup [.int a,.int b]) (.tup [.int c,.int d]):=by
 intro j x y h1 h2
 match j,h1,h2 with
 | 0,h1,h2=>cases h1;cases h2;cases k<;>exact trivial
 | 1,h1,h2=>cases h1;cases h2;cases k<;>exact trivial
 | j+2,h1,h2=>simp at h1
theorem dt2(a b c d:Int):(Dt.tup [.int a,.int b]=Dt.tup [.int c,.int d])↔(a=c∧b=d):=by
 constructor
 ·intro h
  injection h with h
  injection h with h1 h2
  injection h1 with h1
  injection h2 with h2 _
  injection h2 with h2
  exact⟨h1,h2⟩
 ·rintro ⟨rfl,rfl⟩
  rfl
section
variable {X:Cx}
def rEqP:R2:=fun x y H Q=>∃ p q a b c d,x=.ref p∧y=.ref q∧H p=some (.tup [.int a,.int b])∧H q=some (.tup [.int c,.int d])∧Q (.bl (decide (a=c∧b=d))) H
def rNeP:R2:=fun x y H Q=>∃ p q a b c d,x=.ref p∧y=.ref q∧H p=some (.tup [.int a,.int b])∧H q=some (.tup [.int c,.int d])∧Q (.bl (!decide (a=c∧b=d))) H
open Classical in
theorem op_eqP(hu:X.A.units+64 < cLine):OpR X (compareOp .Eq) rEqP:=by
 intro pins s σ H x y v u Q I rx ry h
 obtain⟨p,q,a,b,c,d,rfl,rfl,h1,h2,h3⟩:=h
 refine op_eqD hu pins s σ H _ _ v u Q I rx ry ⟨_,_,den2 h1,den2 h2,cmp2 a b c d,?_⟩
 have e:decide (Dt.tup [.int a,.int b]=Dt.tup [.int c,.int d])=decide (a=c∧b=d):=by rw[decide_eq_decide];exact dt2 a b c d
 rw[e]
 exact h3
theorem rEqP_ap{x y:V}{H:Hp}{Q:VK}:rEqP x y H Q=∃ p q a b c d,x=.ref p∧y=.ref q∧H p=some (.tup [.int a,.int b])∧H q=some (.tup [.int c,.int d])∧Q (.bl (decide (a=c∧b=d))) H:=propext Iff.rfl
theorem rNeP_ap{x y:V}{H:Hp}{Q:VK}:rNeP x y H Q=∃ p q a b c d,x=.ref p∧y=.ref q∧H p=some (.tup [.int a,.int b])∧H q=some (.tup [.int c,.int d])∧Q (.bl (!decide (a=c∧b=d))) H:=propext Iff.rfl
end
end L2
namespace L2
open PySem PySem.Spec PyProof.Rows
section
variable {X:Cx}
abbrev Cx.comp1(X:Cx)(N':List Str)(scope:Scope)(x0:Str)(c0:Addr)(cl:List (Str×Addr))(C:Addr)(fp:List Addr)(s2:Shared)(H2:Hp):Cx :=
 { X with N:=N',s₀:=s2,H₀:=H2,env:=compEnvC scope ((x0,c0)::cl) C X.env,outer:=X.stack,ex:=fp,fn:=fun y=>y == x0,pn:=[],xe:=fun _ _=>False }
theorem cells1{x0:Str}{c0:Addr}{cl:List (Str×Addr)}{x:Str}{c:Addr}(h:((x0,c0)::cl).lookup x=some c):c=c0∨cl.lookup x=some c:=by
 rw[List.lookup_cons] at h
 cases e:(x == x0) with
 | true=>rw[e] at h;exact .inl (Option.some.inj h).symm
 | false=>rw[e] at h;exact .inr h
theorem cells1_at{x0:Str}{c0:Addr}{cl:List (Str×Addr)}:((x0,c0)::cl).lookup x0=some c0:=by rw[List.lookup_cons,beq_self_eq_true]
theorem cells1_ne{x0:Str}{c0:Addr}{cl:List (Str×Addr)}{x:Str}(h:x≠x0):((x0,c0)::cl).lookup x=cl.lookup x:=by
 rw[List.lookup_cons,beq_eq_false_iff_ne.mpr h]
theorem newEnv1{M:Model}{A:Around}{E:Value→Shared→Prop}{s:Shared}{scope:Scope}{globals:Addr}{cl:List (Str×Addr)}{qual:Str}{func:Option Addr}{code:Value}{outer:Env}{builtins:Addr}{Q:Env→Shared→Prop}{x0:Str}
  (hcf:∀ n cs,cellsFrom n scope.names cs=(x0,n)::cs) (hpc:∀ h:Heap,pushCells h scope.names=h.push { cls:=.type "cell", data:=.cell none })
  (hQ:Q (newEnv scope s.heap.objs.size globals ((x0,s.heap.objs.size+1)::cl) qual func code (some outer) builtins) { s with heap:=(s.heap.push { cls:=.type "dict", data:=.dict #[] }).push { cls:=.type "cell", data:=.cell none } }) :
  wpAny M A (newFunctionEnv scope globals cl [] qual func code (some outer) builtins) Q E s:=by
 simp only[newFunctionEnv,Option.isSome_some,if_true]
 refine wpAny_bind (wpAny_alloc ?_)
 refine wpAny_bind (wpAny_layCells _ (fun name kind cells=>by cases hkc:kind == NameKind.cell<;>simp[hkc]) _ _ _ _ ?_)
 rw[hcf,hpc]
 refine wpAny_bind ?_
 rw[List.forIn_nil]
 refine wpAny_pure (wpAny_pure ?_)
 simp only[Heap.size_push]
 exact hQ
theorem Inv.fpComp1{pins:List (Addr×Obj)}{σ:St}{H H':Hp}{s:Shared}{fp:List Addr}{N':List Str}{scope:Scope}{cl:List (Str×Addr)}{C c0:Addr}{x0:Str}(I:Inv X pins σ H s)(f:∀ b∈fp,FpOk X pins H b)
  (hb:∀ b∈fp,b < s.heap.objs.size) (hC:s.heap.objs.size≤C) (hc0:s.heap.objs.size≤c0) (hcl:∀ y c,cl.lookup y=some c→X.env.cells.lookup y=some c) (hn:∀ b∈fp,H' b=none) :
  ∀ b∈fp,FpOk (X.comp1 N' scope x0 c0 cl C fp s H) [] H' b:=fun b z=>by
 obtain⟨_,f1,f2,f3,f4,f5⟩:=f b z
 exact⟨hn b z,Nat.ne_of_lt (Nat.lt_of_lt_of_le (hb b z) hC),fun q=>(List.mem_cons.mp (I.stkSub b q)).elim f1 f2,.inl z,fun x c e=>(cells1 e).elim (fun q=>by rw[q];exact Nat.ne_of_gt (Nat.lt_of_lt_of_le (hb b z) hc0)) fun q=>f4 x c (hcl x c q),fun p hp=>absurd (show p∈([]:List (Addr×Obj))++[] from hp) (by simp)⟩
theorem Inv.comp1{pins:List (Addr×Obj)}{σ:St}{H:Hp}{s s4:Shared}{fp:List Addr}{own:List Str}{fr:List (Str×Nat)}{scope:Scope}{cl:List (Str×Addr)}{C D c0:Addr}{x0:Str}(I:Inv X pins σ H s)(f:∀ b∈fp,FpOk X pins H b)
  (hb:∀ b∈fp,b < s.heap.objs.size) (hkind:scope.kind=.function) (hcell:∀ y∈scope.names,y.2=.cell→y.1=x0) (hnx:∀ p∈fr,p.1≠x0)
  (hcl:∀ y c,cl.lookup y=some c→X.env.cells.lookup y=some c) (hcl2:∀ y∈scope.names,y.2=.free→∃ c,cl.lookup y.1=some c)
  (hfr:∀ p∈fr,X.N[p.2]?=some p.1∧(X.env.kindOf p.1=some .cell∨X.env.kindOf p.1=some .free)∧(p.1,NameKind.free)∈scope.names∧((relabel scope X.env).names.lookup p.1=some .cell∨(relabel scope X.env).names.lookup p.1=some .free))
  (hD:s.heap.objs.size≤D) (hC:s.heap.objs.size≤C) (hCD:C≠D) (hc0:s.heap.objs.size≤c0) (hcD:c0≠D) (hcv:s4.heap.IsCell c0 none) (hns:s4.heap.Ns C (fun _=>none)) (k:∀ b o,s.heap.get? b=some o→s4.heap.get? b=some o) (hl:s4.heap.get? D=some { cls:=.type "list", data:=.seq ([]:List Value).toArray })
  (os:s4.os=s.os) (bare:AllBare s4.gens):Inv (X.comp1 (own++fr.map (·.1)) scope x0 c0 cl C fp s H) [] (compSt own.length (fr.map (·.2)) σ) (upd H D (.lst [])) s4:=by
 have fresh:∀ b,s.heap.objs.size≤b→H b=none:=fun b h=>I.hok.fresh h
 have cellLt:∀ y c,X.env.cells.lookup y=some c→c < s.heap.objs.size:=fun y c e=>by
  obtain⟨v,q⟩:=I.cell y c e
  exact q.lt
 have relK:∀ y,((relabel scope X.env).names.lookup y=some .cell∨(relabel scope X.env).names.lookup y=some .free)→∃ z∈scope.names,z.1=y∧(z.2=.free∨z.2=.cell):=fun y h=>by
  have mem:∃ kk,(y,kk)∈(relabel scope X.env).names∧(kk=.cell∨kk=.free):=by
   rcases h with h | h
   ·exact⟨_,PySem.mem_of_lookup h,.inl rfl⟩
   ·exact⟨_,PySem.mem_of_lookup h,.inr rfl⟩
  obtain⟨kk,hm,hk⟩:=mem
  obtain⟨⟨n,k0⟩,hz,e⟩:=List.mem_map.mp hm
  refine⟨(n,k0),hz,?_,?_⟩
  ·dsimp only at e
   split at e<;>cases e<;>rfl
  ·dsimp only at e ⊢
   split at e
   ·rename_i hc
    simp only[Bool.and_eq_true,beq_iff_eq] at hc
    exact .inl hc.1.1
   ·cases e
    rcases hk with hk | hk
    ·exact .inr hk
    ·exact .inl hk
 have inj1:∀ x y c,((x0,c0)::cl).lookup x=some c→((x0,c0)::cl).lookup y=some c→x=y:=fun x y c e1 e2=>by
  by_cases qx:x=x0
  ·by_cases qy:y=x0
   ·rw[qx,qy]
   ·subst qx
    rw[cells1_at] at e1
    cases e1
    rw[cells1_ne qy] at e2
    exact absurd (cellLt y _ (hcl y _ e2)) (Nat.not_lt.mpr hc0)
  ·rw[cells1_ne qx] at e1
   by_cases qy:y=x0
   ·subst qy
    rw[cells1_at] at e2
    cases e2
    exact absurd (cellLt x _ (hcl x _ e1)) (Nat.not_lt.mpr hc0)
   ·rw[cells1_ne qy] at e2
    exact I.ok.inj x y c (hcl x c e1) (hcl y c e2)
 have ok:(X.comp1 (own++fr.map (·.1)) scope x0 c0 cl C fp s H).Ok :=
  {mod:=I.ok.mod
   kind:=hkind
   glob:=I.ok.glob
   blt:=I.ok.blt
   above:=hC
   inj:=fun x y c e1 e2=>inj1 x y c e1 e2
   has:=fun y hy=>by
    obtain⟨z,hz,rfl,hf⟩:=relK y hy
    by_cases q:z.1=x0
    ·rw[q];exact⟨c0,cells1_at⟩
    ·obtain⟨c,hc⟩:=hcl2 z hz (hf.elim id fun w=>absurd (hcell z hz w) q)
     exact⟨c,(cells1_ne q).trans hc⟩
   cab:=fun x c z e=>by
    have q:x=x0:=beq_iff_eq.mp (show (x == x0)=true from z)
    subst q
    have e':((x,c0)::cl).lookup x=some c:=e
    rw[cells1_at] at e'
    cases e'
    exact hc0
   hd:=I.ok.hd
   frames:=I.ok.frames
   stk:=.inl rfl
   exf:=fun b z=>⟨Nat.ne_of_lt (Nat.lt_of_lt_of_le (hb b z) hC),fun x c e=>(cells1 e).elim (fun q=>by rw[q];exact Nat.ne_of_gt (Nat.lt_of_lt_of_le (hb b z) hc0)) fun q=>(f b z).2.2.2.2.1 x c (hcl x c q)⟩
   bs:=fun b o e=>I.bs b o e
   bsz:=Nat.le_trans I.ok.bsz I.sz
   noex:=fun b o e z=>by
    obtain⟨_,_,_,h4,_⟩:=f b z
    rcases h4 with h4 | h4
    ·exact I.ok.noex b o e h4
    ·exact absurd (Heap.lt_size (I.ok.bs b o e).1) (Nat.not_lt.mpr h4)
   exfs:=fun b z q=>(List.mem_cons.mp (I.stkSub b q)).elim (f b z).2.1 (f b z).2.2.1
   funs:=I.stack
   frf:=I.stkFree }
 refine⟨ok,os,bare,Un.laid k hD (fresh D hD),⟨fun _=>none,hns,fun i x v h1 h2 h3=>?_⟩,fun x c e=>?_,?_,fun x c e=>?_,fun p hp=>absurd (show p∈([]:List (Addr×Obj))++[] from hp) (by simp),I.hok.laid k hD ⟨Nat.zero_le _,[],0,.nil,hl⟩,?_⟩
 ·-- a closed-over name
  have h2':(compSt own.length (fr.map (·.2)) σ)[i]?=some (some v):=h2
  have h1':(own++fr.map (·.1))[i]?=some x:=h1
  unfold compSt at h2'
  by_cases hi:i < own.length
  ·rw[List.getElem?_append_left (by simpa using hi),List.getElem?_replicate] at h2'
   split at h2'<;>cases h2'
  ·rw[List.getElem?_append_right (by simpa using hi),List.length_replicate,List.getElem?_map,List.getElem?_map] at h2'
   rw[List.getElem?_append_right (by omega),List.getElem?_map] at h1'
   cases e:fr[i - own.length]? with
   | none=>rw[e] at h1';cases h1'
   | some p =>
    rw[e] at h1' h2'
    have hx:p.1=x:=Option.some.inj h1'
    have hv:(σ[p.2]?).join=some v:=Option.some.inj h2'
    have hv':σ[p.2]?=some (some v):=by
     cases q:σ[p.2]? with
     | none=>rw[q] at hv;cases hv
     | some o=>rw[q] at hv;rw[show o=some v from hv]
    obtain⟨hN,hkx,hmem,hrel⟩:=hfr p (List.mem_of_getElem? e)
    obtain⟨m,hn,hl2⟩:=I.loc
    obtain⟨u,r,lk⟩:=hl2 p.2 p.1 v hN hv' (hkx.elim (fun z=>.inr (.inl z)) fun z=>.inr (.inr z))
    rcases lk with ⟨lk,_⟩ | ⟨_,c,hc,hcell'⟩
    ·rcases hkx with z | z
     ·rw[lk] at z;cases z
     ·rw[lk] at z;cases z
    ·subst hx
     obtain⟨c',hc'⟩:=hcl2 _ hmem rfl
     have:=hcl _ _ hc'
     rw[hc] at this
     cases this
     refine⟨u,r,.inr ⟨hrel,c,(cells1_ne (hnx p (List.mem_of_getElem? e))).trans hc',?_⟩⟩
     obtain⟨ob,e1,e2⟩:=hcell'
     exact⟨ob,k _ _ e1,e2⟩
 ·rcases cells1 e with q | q
  ·rw[q];exact⟨none,hcv⟩
  ·obtain⟨v,ob,e1,e2⟩:=I.cell x c (hcl x c q)
   exact⟨v,ob,k _ _ e1,e2⟩
 ·show upd H D (.lst []) C=none
  rw[upd_ne hCD]
  exact fresh C hC
 ·rcases cells1 e with q | q
  ·rw[q,upd_ne hcD];exact fresh c0 hc0
  ·rw[upd_ne (Nat.ne_of_lt (Nat.lt_of_lt_of_le (cellLt x c (hcl x c q)) hD))]
   exact I.freeC x c (hcl x c q)
 ·show (compSt own.length (fr.map (·.2)) σ).length=(own++fr.map (·.1)).length
  unfold compSt
  simp
theorem pe_comp1{elt iter tg:Expr}{ifs:List Expr}{scope:Scope}{pos:Pos}{wi:TI}{g:TG}{tt:TT}{te:TE}(x0:Str)(own:List Str)(fr:List (Str×Nat))(hc:X.calm=true)(hi:PI X tg iter wi)
  (hgx:GExt g own.length) (hB:∀ c0 cl C fp s2 H2,PG (X.comp1 (own++fr.map (·.1)) scope x0 c0 cl C fp s2 H2) tg g∧PFs (X.comp1 (own++fr.map (·.1)) scope x0 c0 cl C fp s2 H2) ifs tt∧PE (X.comp1 (own++fr.map (·.1)) scope x0 c0 cl C fp s2 H2) elt te)
  (hkind:scope.kind=.function) (hcell:∀ y∈scope.names,y.2=.cell→y.1=x0) (hnx:∀ p∈fr,p.1≠x0) (hcf:∀ n cs,cellsFrom n scope.names cs=(x0,n)::cs) (hpc:∀ h:Heap,pushCells h scope.names=h.push { cls:=.type "cell", data:=.cell none }) (hnames:∀ y∈scope.names,y.2=.local→scope.names.lookup y.1=some .local)
  (hfree:∀ y∈scope.names,y.2=.free→X.env.kindOf y.1=some .cell∨X.env.kindOf y.1=some .free)
  (hfr:∀ p∈fr,X.N[p.2]?=some p.1∧(X.env.kindOf p.1=some .cell∨X.env.kindOf p.1=some .free)∧(p.1,NameKind.free)∈scope.names∧((relabel scope X.env).names.lookup p.1=some .cell∨(relabel scope X.env).names.lookup p.1=some .free))
  (hs:∀ x,foldedSetIterable iter X.env x=pure x:=by intro _;rfl):PE X (.ListComp elt [⟨tg,iter,ifs,0⟩] scope pos) (tComp own.length (fr.map (·.2)) wi g tt te):=by
 intro pins s σ H Q I h
 obtain⟨cl,hclos,hcl,hcl2⟩:=closure_of (env:=X.env) (scope:=scope) fun y hy hf=>I.ok.has y.1 (hfree y hy hf)
 rw[eval_ListComp]
 refine wpAny_comprehension_free (use:=none) rfl hs hclos hkind hnames (thn (hi pins s σ H _ I h) fun v s1 h1=>thn h1 fun itv s2 h2=>?_)
 obtain⟨it,fp,tn,J,H2,e,I2,T,st2,f2,h3⟩:=h2
 subst e
 obtain⟨W,⟨m0,w0⟩,turn⟩:=h3 s2.heap.objs.size I2.fresh
 have hb:∀ b∈fp,b < s2.heap.objs.size:=fun b z=>by
  obtain⟨o,e,_⟩:=T.obj _ _ st2 b z
  exact Heap.lt_size e
 refine wpAny_newObj_type (newEnv1 hcf hpc ?_)
 dsimp only
 generalize hH2:s2.heap.push { cls:=.type "list", dict:=none,data:=.seq ([]:List Value).toArray }=G
 have hCs:G.objs.size=s2.heap.objs.size+1:=by rw[← hH2,Heap.size_push]
 have oldG:∀ b o,G.get? b=some o→((G.push { cls:=.type "dict", data:=.dict #[] }).push { cls:=.type "cell", data:=.cell none }).get? b=some o:=fun b o e=>Heap.get?_push_of_some _ (Heap.get?_push_of_some _ e)
 have old:∀ b o,s2.heap.get? b=some o→((G.push { cls:=.type "dict", data:=.dict #[] }).push { cls:=.type "cell", data:=.cell none }).get? b=some o:=fun b o e=>oldG b o (hH2▸Heap.get?_push_of_some _ e)
 have hD:((G.push { cls:=.type "dict", data:=.dict #[] }).push { cls:=.type "cell", data:=.cell none }).get? s2.heap.objs.size=some { cls:=.type "list", data:=.seq ([]:List Value).toArray }:=oldG _ _ (hH2▸Heap.get?_push_size _ rfl)
 have hns':((G.push { cls:=.type "dict", data:=.dict #[] }).push { cls:=.type "cell", data:=.cell none }).Ns G.objs.size (fun _=>none):=(Heap.Ns.new G (.type "dict")).keeps fun b o e=>Heap.get?_push_of_some _ e
 have hcv:((G.push { cls:=.type "dict", data:=.dict #[] }).push { cls:=.type "cell", data:=.cell none }).IsCell (G.objs.size+1) none:=by
  have q:=Heap.get?_push_size (G.push { cls:=.type "dict", data:=.dict #[] }) (o:={ cls:=.type "cell", data:=.cell none }) rfl
  rw[Heap.size_push] at q
  exact⟨_,q,rfl⟩
 generalize (G.push { cls:=.type "dict", data:=.dict #[] }).push { cls:=.type "cell", data:=.cell none }=h₁ at oldG old hD hns' hcv ⊢
 generalize hC:G.objs.size=C at hns' hCs hcv ⊢
 have hle:s2.heap.objs.size≤C:=by rw[hCs];exact Nat.le_succ _
 have hle0:s2.heap.objs.size≤C+1:=Nat.le_succ_of_le hle
 have hne:C≠s2.heap.objs.size:=Nat.ne_of_gt (by rw[hCs];exact Nat.lt_succ_self _)
 have hne0:C+1≠s2.heap.objs.size:=Nat.ne_of_gt (Nat.lt_succ_of_le hle)
 let Y:Cx:=X.comp1 (own++fr.map (·.1)) scope x0 (C+1) cl C fp s2 H2
 have stat:∀{H':Hp},(∀ b∈fp,H' b=none)→∀ b∈fp,FpOk Y [] H' b:=fun hn=>Inv.fpComp1 I2 f2 hb hle hle0 hcl hn
 obtain⟨gY,pY,eY⟩:=hB (C+1) cl C fp s2 H2
 have IY:Inv Y [] (compSt own.length (fr.map (·.2)) σ) (upd H2 s2.heap.objs.size (.lst [])) { s2 with heap:=h₁ } :=
  Inv.comp1 (D:=s2.heap.objs.size) I2 f2 hb hkind hcell hnx hcl hcl2 hfr (Nat.le_refl _) hle hne hle0 hne0 hcv hns' old hD rfl I2.bare
 have loop:codeAny (model X.prog X.w) X.A (.compLoop (.ListComp elt [⟨tg,iter,ifs,0⟩] scope pos) 0 (.ref it) (.ref s2.heap.objs.size) (compEnvC scope ((x0,C+1)::cl) C X.env)) (compPost (model X.prog X.w) X.A X.xe none (EP X pins σ Q) (.ref s2.heap.objs.size) C)
   { s2 with heap:=h₁ }:=by
  refine compLoop_any (E:=fun _ _=>False) (fun n s'=>∃ i acc H',Inv Y [] (compSt own.length (fr.map (·.2)) σ) H' s'∧tn i s'.heap∧(∀ b∈fp,H' b=none)∧W i n acc H') (fun _ _ z=>z) ?_ m0
   ⟨0,[],_,IY,T.keep _ _ _ st2 fun b _ o e=>old b o e,fun b z=>by rw[upd_ne (Nat.ne_of_lt (hb b z))];exact (f2 b z).1,w0⟩
  rintro n s3 ⟨i,acc,H3,I3,st3,fr3,w3⟩
  rcases turn i n acc H3 w3 with ⟨stop,q⟩ | ⟨go,Nn,hN,step⟩
  ·refine thn (T.done Y rfl rfl rfl hc i [] s3 _ H3 _ I3 (stat fr3) st3 stop) fun r s4 ⟨hr,I4⟩=>?_
   subst hr
   obtain⟨m4,hn4,_⟩:=I4.loc
   refine⟨m4,hn4,fun h' hs'=>?_⟩
   have kb:∀ b o,b≠C→s4.heap.get? b=some o→h'.get? b=some o:=fun b o hne e=>hs'.extBut b o hne e
   have hok':HOk X.prog X.w H3 h':=HOk.stays (show HOk X.prog X.w H3 s4.heap from I4.hok) fun b u hn e=>kb b u (fun z=>hn (by rw[z];exact I4.free)) e
   have bI:Un (frs X.stack) fp H2 H3 s2.heap s4.heap:=I4.base
   have lt:∀ b o,s2.heap.get? b=some o→b≠C:=fun b o e=>Nat.ne_of_lt (Nat.lt_of_lt_of_le (Heap.lt_size e) hle)
   have un:Un (frs X.stack) fp H2 H3 s2.heap h' :=
    {keep:=fun b o e n hb hx=>kb b o (lt b o e) (bI.keep b o e n hb hx)
     slot:=fun b o e n hb hx=>by
      obtain⟨sl,e1⟩:=bI.slot b o e n hb hx
      exact⟨sl,kb b _ (lt b o e) e1⟩
     free:=bI.free
     there:=fun b o e hx=>by
      obtain⟨o1,e1⟩:=bI.there b o e hx
      exact⟨o1,kb b _ (lt b o e) e1⟩
     tups:=bI.tups
     frzs:=bI.frzs
     tbls:=bI.tbls }
   exact⟨.ref s2.heap.objs.size,H3,I2.call' (s':={ s4 with heap:=h' }) (ch:=fp) I4.os un hok' I4.bare (fun b z=>⟨(f2 b z).2.2.2.1,(f2 b z).2.1,(f2 b z).2.2.2.2.1,(f2 b z).2.2.2.2.2⟩),rfl,q⟩
  ·refine thn (T.item Y rfl rfl rfl hc i [] s3 _ H3 _ I3 (stat fr3) st3 go) fun r s4 ⟨u,hr,h4⟩=>?_
   subst hr
   refine thn h4 fun _ s5 ⟨x,H5,I5,r5,y5,st5,fr5⟩=>?_
   have I5':=I5.pinned (stat fr5) (T.obj _ _ st5)
   refine thn (gY _ s5 _ H5 x u _ I5' r5 (hgx _ x H5 _ (step x H5 y5))) fun _ s6 ⟨σ6,H6,I6,ex6,q6⟩=>?_
   refine thn (pY _ s6 σ6 H6 _ I6 q6) fun ok s7 ⟨H7,I7,q7⟩=>?_
   have again:∀{acc':List V}{H8:Hp}{s8:Shared},Inv Y ([]++pinsAt fp s5.heap) σ6 H8 s8→Nn acc' H8→∃ m,m < n∧∃ i acc H',Inv Y [] (compSt own.length (fr.map (·.2)) σ) H' s8∧tn i s8.heap∧(∀ b∈fp,H' b=none)∧W i m acc H':=fun {acc' H8 s8} I8 n8=>by
    obtain⟨m',hm,w8⟩:=hN acc' H8 n8
    refine⟨m',hm,i+1,acc',H8,I8.unpinned.weak ex6.1 ex6.2,T.keep _ _ _ st5 fun b hb o e=>(I8.pin (b,o) (List.mem_append_right _ (List.mem_append_right _ (mem_pinsAt hb e)))).1,fun b hb=>?_,w8⟩
    obtain⟨o,e,d⟩:=T.obj _ _ st5 b hb
    exact (I8.pin (b,o) (List.mem_append_right _ (List.mem_append_right _ (mem_pinsAt hb e)))).2.1
   cases ok with
   | false=>exact again I7 (by simpa using q7)
   | true =>
    have q7':=(by simpa using q7:te σ6 H7 _)
    refine thn (eY _ s7 σ6 H7 _ I7 q7') fun xv s8 ⟨y,H8,I8,r8,hl8,hz8,n8⟩=>?_
    refine thn (mt_append (X:=Y) _ s8 σ6 H8 (.ref s2.heap.objs.size) [y] (.ref s2.heap.objs.size) [xv] (fun v H9=>v=.non∧H9=upd H8 s2.heap.objs.size (.lst (acc++[y]))) I8 rfl (.cons r8 .nil) ⟨_,acc,y,rfl,rfl,hl8,hz8,rfl,rfl⟩) fun _ s9 ⟨v9,H9,I9,_,_,e9⟩=>?_
    subst e9
    exact again I9 n8
 exact codeAny_compStart_list loop (T.self X.A 0 _ _ _ (T.keep _ _ _ st2 fun b _ o e=>old b o e) loop)
theorem qe_comp1{X:Cx}{elt iter tg:Expr}{ifs:List Expr}{scope:Scope}{pos:Pos}{wi:TI}{g:TG}{tt:TT}{te:TE}(x0:Str)(own:List Str)(fr:List (Str×Nat))(hc:X.calm=true)(hi:QI X tg iter wi)
  (hgx:GExt g own.length) (hB:∀ c0 cl C fp s2 H2,QG (X.comp1 (own++fr.map (·.1)) scope x0 c0 cl C fp s2 H2) tg g∧QF (X.comp1 (own++fr.map (·.1)) scope x0 c0 cl C fp s2 H2) ifs tt∧QE (X.comp1 (own++fr.map (·.1)) scope x0 c0 cl C fp s2 H2) elt te)
  (hkind:scope.kind=.function) (hcell:∀ y∈scope.names,y.2=.cell→y.1=x0) (hnx:∀ p∈fr,p.1≠x0) (hcf:∀ n cs,cellsFrom n scope.names cs=(x0,n)::cs) (hpc:∀ h:Heap,pushCells h scope.names=h.push { cls:=.type "cell", data:=.cell none }) (hnames:∀ y∈scope.names,y.2=.local→scope.names.lookup y.1=some .local)
  (hfree:∀ y∈scope.names,y.2=.free→X.env.kindOf y.1=some .cell∨X.env.kindOf y.1=some .free)
  (hfr:∀ p∈fr,X.N[p.2]?=some p.1∧(X.env.kindOf p.1=some .cell∨X.env.kindOf p.1=some .free)∧(p.1,NameKind.free)∈scope.names∧((relabel scope X.env).names.lookup p.1=some .cell∨(relabel scope X.env).names.lookup p.1=some .free))
  (hs:∀ x,foldedSetIterable iter X.env x=pure x:=by intro _;rfl):QE X (.ListComp elt [⟨tg,iter,ifs,0⟩] scope pos) (tComp own.length (fr.map (·.2)) wi g tt te) :=
 ⟨pe_comp1 x0 own fr hc hi.p hgx (fun c0 cl C fp s2 H2=>⟨(hB c0 cl C fp s2 H2).1.p,(hB c0 cl C fp s2 H2).2.1.p,(hB c0 cl C fp s2 H2).2.2.p⟩) hkind hcell hnx hcf hpc hnames hfree hfr hs⟩
end
theorem bt_any:bootBuiltins "any" = some (.builtin "any"):=by decide +kernel
theorem qi_listK{X:Cx}{K:PySem.W.Frag}{e tg:Expr}{te:TE}(hK:X.K=K)(hl:QE X e te):QI X tg e (iList K te):=hK▸qi_list hl
theorem qi_tupK{X:Cx}{K:PySem.W.Frag}{e tg:Expr}{te:TE}(hK:X.K=K)(hl:QE X e te):QI X tg e (iTup K te):=hK▸qi_tup hl
section
variable {H:Hp}{Q:VK}{v:V}{l:St}
end
end L2
namespace L2
open PySem PySem.Spec PyProof.Rows
section
variable {X:Cx}
theorem ints_of_vals:∀{ns:List Int}{vs:List Value},Vals (ns.map V.int) vs→IntsAre vs ns
 | [],vs,h=>by
  cases vs with
  | nil=>exact .nil
  | cons _ _=>cases h
 | n::ns,vs,h=>by
  cases vs with
  | nil=>cases h
  | cons v vs =>
   cases h with
   | cons r rr =>
    obtain⟨t,rfl⟩:=r
    exact .cons n t (ints_of_vals rr)
def rSumF:List V→Hp→VK→Prop:=fun xs H Q=>∃(p:Addr)(ns:List Int),xs=[.ref p]∧H p=some (.lst (ns.map V.int))∧Q (.int ns.sum) H
theorem call_sumF(hc:X.calm=true):CallR X (.builtin "sum") rSumF:=by
 intro pins s σ H xs us Q I r h
 obtain⟨p,ns,rfl,hp,q⟩:=h
 obtain⟨u,rfl,rx⟩:=vals1 r
 cases rx
 obtain⟨its,r',pl,hz⟩:=I.list (SqL.of hp)
 have hi:=ints_of_vals r'
 obtain⟨ys,e⟩:=hi.allInts.items
 have hn:=hi.numsOf
 have e2:ns=ys.toList.map (·.1):=by
  rw[← nums_intItems,← e]
  exact hn.symm
 have hl:=pl.isList
 rw[e] at hl
 refine sum_intListG (I.ok.hd hc) hl fun h' tk t' hk=>⟨.int ns.sum,H,I.kept hk,⟨t',?_⟩,q⟩
 rw[preSum_eq,List.take_of_length_le (by simp),← e2]
def rAllF:List V→Hp→VK→Prop:=fun xs H Q=>∃(p:Addr)(bs:List Bool),xs=[.ref p]∧H p=some (.lst (bs.map V.bl))∧Q (.bl (bs.all id)) H
def rAnyF:List V→Hp→VK→Prop:=fun xs H Q=>∃(p:Addr)(bs:List Bool),xs=[.ref p]∧H p=some (.lst (bs.map V.bl))∧Q (.bl (bs.any id)) H
theorem bools_of_vals{bs:List Bool}{vs:List Value}(h:Vals (bs.map V.bl) vs):vs=bs.map Value.bool:=by
 induction bs generalizing vs with
 | nil=>cases h;rfl
 | cons b bs ih =>
  cases vs with
  | nil=>cases h
  | cons v vs =>
   cases h with
   | cons r rr =>
    cases r
    rw[ih rr];rfl
theorem range_all(bs:List Bool):((List.range bs.length).all fun i=>bs.getD i false)=bs.all id:=by
 rw[Bool.eq_iff_iff,List.all_eq_true,List.all_eq_true]
 constructor
 ·intro h b hb
  obtain⟨i,hi,rfl⟩:=List.getElem_of_mem hb
  have:=h i (List.mem_range.mpr hi)
  simpa [List.getD_eq_getElem?_getD,hi] using this
 ·intro h i hi
  have hi':=List.mem_range.mp hi
  have:=h bs[i] (List.getElem_mem hi')
  simpa [List.getD_eq_getElem?_getD,hi'] using this
theorem range_any(bs:List Bool):((List.range bs.length).any fun i=>bs.getD i false)=bs.any id:=by
 rw[Bool.eq_iff_iff,List.any_eq_true,List.any_eq_true]
 constructor
 ·rintro ⟨i,hi,h⟩
  have hi':=List.mem_range.mp hi
  exact⟨bs[i],List.getElem_mem hi',by simpa [List.getD_eq_getElem?_getD,hi'] using h⟩
 ·rintro ⟨b,hb,h⟩
  obtain⟨i,hi,rfl⟩:=List.getElem_of_mem hb
  exact⟨i,List.mem_range.mpr hi,by simpa [List.getD_eq_getElem?_getD,hi] using h⟩
theorem iter_list_of{M:Program}{w:World}{A:Around}{E:Value→Shared→Prop}{s:Shared}{l:Addr}{items:Array Value}{Q:Value→Shared→Prop}(hl:s.heap.IsList l items)
  (h:∀ s₂:Shared,s₂={ s with heap:=s.heap.push { cls:=.type "list_iterator", data:=.fields #[.ref l,.int 0 0] } } →
   (s₂.heap.IsListIter s.heap.objs.size l 0∧s₂.heap.IsList l items)→l≠s.heap.objs.size→Q (.ref s.heap.objs.size) s₂) :
  wpAny (model M w) A (pyIter (.ref l)) Q E s:=by
 have hlt:l < s.heap.objs.size:=by obtain⟨_,e,_⟩:=hl;exact Heap.lt_size e
 exact wpAny_pyIter_list hl (h _ rfl ⟨⟨_,Heap.get?_push_size _ rfl,rfl,rfl⟩,hl.push _⟩ (Nat.ne_of_lt hlt))
theorem truth_bools{P:Program}{w:World}{A:Around}{bs:List Bool}:TruthOf P w A (fun i v=>(List.toArray (bs.map Value.bool))[i]?=some v) (fun i=>bs.getD i false):=by
 intro i v s Q E hv hq
 have hv':(bs.map Value.bool)[i]?=some v:=by simpa using hv
 rw[List.getElem?_map] at hv'
 cases e:bs[i]? with
 | none=>rw[e] at hv';cases hv'
 | some b =>
  rw[e] at hv'
  cases hv'
  have:bs.getD i false=b:=by simp[List.getD_eq_getElem?_getD,e]
  have hq':Q (bs.getD i false) s:=hq
  rw[this] at hq'
  exact wpAny_truthy_bool hq'
theorem call_allF(hc:X.calm=true):CallR X (.builtin "all") rAllF:=by
 intro pins s σ H xs us Q I r h
 obtain⟨p,bs,rfl,hp,q⟩:=h
 obtain⟨u,rfl,rx⟩:=vals1 r
 cases rx
 obtain⟨its,r',pl,hz⟩:=I.list (SqL.of hp)
 rw[bools_of_vals r'] at pl
 refine call_all_walk (iter_list_of pl.isList fun s₂ e st hne=>?_)
 subst e
 refine⟨_,_,_,_,_,_,_,rfl,Walks.list (A:=X.A.in1) (I.ok.hd hc) _ p hne _,st,truth_bools,fun h' tk hk=>⟨.bl (bs.all id),H,I.kept (old_kept hk),?_,q⟩⟩
 show Value.bool _=Value.bool _
 rw[List.size_toArray,List.length_map,range_all]
theorem call_anyF(hc:X.calm=true):CallR X (.builtin "any") rAnyF:=by
 intro pins s σ H xs us Q I r h
 obtain⟨p,bs,rfl,hp,q⟩:=h
 obtain⟨u,rfl,rx⟩:=vals1 r
 cases rx
 obtain⟨its,r',pl,hz⟩:=I.list (SqL.of hp)
 rw[bools_of_vals r'] at pl
 refine call_any_walk (iter_list_of pl.isList fun s₂ e st hne=>?_)
 subst e
 refine⟨_,_,_,_,_,_,_,rfl,Walks.list (A:=X.A.in1) (I.ok.hd hc) _ p hne _,st,truth_bools,fun h' tk hk=>⟨.bl (bs.any id),H,I.kept (old_kept hk),?_,q⟩⟩
 show Value.bool _=Value.bool _
 rw[List.size_toArray,List.length_map,range_any]
theorem Inv.laidL{pins:List (Addr×Obj)}{σ:St}{H:Hp}{s:Shared}{h':Heap}{t':Nat}{wr:List Addr}{T:Addr}{o:HO}(I:Inv X pins σ H s)(k:∀ b u,b∉wr→s.heap.get? b=some u→h'.get? b=some u)(hw:∀ b∈wr,FpOk X pins H b)
  (hp:s.heap.objs.size≤T) (new:ObjOk X.prog X.w (upd H T o) h' T o):Inv X pins σ (upd H T o) { s with heap:=h',toks:=t' }:=by
 have hn:H T=none:=I.hok.fresh hp
 have neT:∀ b ob,s.heap.get? b=some ob→b≠T:=fun b ob e=>Nat.ne_of_lt (Nat.lt_of_lt_of_le (Heap.lt_size e) hp)
 have up:∀{b:Addr}{u:HO},H b=some u→upd H T o b=some u:=fun e=>by rw[upd_ne (ne_of_none e hn)];exact e
 have nit:∀ b u,H b=some u→b∉wr:=fun b u e z=>by rw[(hw b z).1] at e;cases e
 refine I.step (g':=s.gens) (d':=s.drawn) (ch:=wr) (fun b hb=>?_) (fun b ob _ _ hc e _=>k b ob hc e) (fun b ob _ _ hc e _=>⟨ob.slots,k b ob hc e⟩) (fun b ob _ e n=>by rw[upd_ne (neT b ob e)];exact n)
  (fun b ob hc e=>⟨ob,k b ob hc e⟩) (fun _ _ e=>up e) (fun _ _ _ e=>up e) (fun b ps e=>⟨#[],by rw[up e];simp⟩) (fun m hm=>?_) (fun b u e=>?_) I.bare
 ·obtain⟨_,f1,_,f3,f4,f5⟩:=hw b hb
  exact⟨f3,f1,f4,f5⟩
 ·obtain⟨ob,es,ep,ho,r⟩:=hm
  exact⟨ob,es,ep,k _ ob (fun z=>(hw _ z).2.1 rfl) ho,r⟩
 ·by_cases hb:b=T
  ·subst hb;rw[upd_same] at e;cases e;exact new
  ·rw[upd_ne hb] at e
   refine (I.hok b u e).stay (fun c v hc q=>k c v ?_ q) (fun c q=>up q) fun c xs q=>up q
   rcases hc with z | z
   ·rw[z];exact nit b u e
   ·exact nit c _ z
theorem Inv.turnedL{pins:List (Addr×Obj)}{σ:St}{H:Hp}{s:Shared}{h':Heap}{t':Nat}{wr:List Addr}(I:Inv X pins σ H s)(k:∀ b o,b∉wr→s.heap.get? b=some o→h'.get? b=some o)(hw:∀ b∈wr,FpOk X pins H b):Inv X pins σ H { s with heap:=h',toks:=t' }:=by
 have nit:∀ b u,H b=some u→b∉wr:=fun b u e z=>by rw[(hw b z).1] at e;cases e
 refine I.step (g':=s.gens) (d':=s.drawn) (ch:=wr) (fun b hb=>?_) (fun b o _ _ hc e _=>k b o hc e) (fun b o _ _ hc e _=>⟨o.slots,k b o hc e⟩) (fun _ _ _ _ n=>n)
  (fun b o hc e=>⟨o,k b o hc e⟩) (fun _ _ e=>e) (fun _ _ _ e=>e) (fun b ps e=>⟨#[],by rw[e];simp⟩) (fun m hm=>?_) (fun b u e=>?_) I.bare
 ·obtain⟨_,f1,_,f3,f4,f5⟩:=hw b hb
  exact⟨f3,f1,f4,f5⟩
 ·obtain⟨o,es,ep,ho,r⟩:=hm
  exact⟨o,es,ep,k _ o (fun z=>(hw _ z).2.1 rfl) ho,r⟩
 ·refine (I.hok b u e).stay (fun c v hc q=>k c v ?_ q) (fun _ q=>q) fun _ _ q=>q
  rcases hc with z | z
  ·rw[z];exact nit b u e
  ·exact nit c _ z
def Itn(K:PySem.W.Frag)(a:Addr):It :=
 ⟨fun i H=>∃ xs x,SqL K H a xs∧xs[i]?=some x,
   fun i H v H'=>∃ p x,H p=none∧(∀ xs,SqL K H a xs→xs[i]?=some x)∧v=.ref p∧H'=upd H p (.tup [.int i,x]),
   fun i H=>∃ xs,SqL K H a xs∧i=xs.length⟩
theorem turn_enum{P:Program}{w:World}{K:PySem.W.Frag}{elts:List Expr}{k:Nat}{tp:Pos}(e it a:Addr)(hei:e≠it)(hle:a≠e)(hli:a≠it) :
  Turn P w K (.Tuple elts k tp) (Itn K a) [e,it] e (fun i h=>(∃ old,IsEnum h e it i old)∧h.IsListIter it a i) where
 mem:=by simp
 obj:=fun i h st c hb=>by
  obtain⟨⟨old,s1⟩,⟨o4,e4,_,d4⟩⟩:=st
  simp only[List.mem_cons,List.not_mem_nil,or_false] at hb
  rcases hb with rfl | rfl
  ·exact⟨_,s1,fun v z=>by cases (show Data.fields _=Data.cell v from z)⟩
  ·exact⟨_,e4,fun v z=>by rw[d4] at z;cases z⟩
 keep:=fun i h h' st hk=>by
  obtain⟨⟨old,s1⟩,s4⟩:=st
  exact⟨⟨old,hk e (by simp) _ s1⟩,s4.at fun o q=>hk it (by simp) o q⟩
 item:=by
  intro X hP hw hK hc i pins s σ H E I hf st hg
  subst hP hw hK
  obtain⟨xs,x,hq1,hx⟩:=hg
  obtain⟨its1,rv1,p1,hz1⟩:=I.list hq1
  obtain⟨u1,hu1,ru1⟩:=rv1.get hx
  obtain⟨s1,s4⟩:=st
  have W:=WalksT.enumerate (prog:=X.prog) (w:=X.w) (A:=X.A) (I.ok.hd hc) e it a hei hle hli its1.toArray
  have l1:=(List.getElem?_eq_some_iff.mp hu1).1
  refine W.item i s _ E (by rw[List.size_toArray];exact l1) ⟨s1,s4,p1.isList⟩ fun T vals h' tk hv hT ht mid kk=>?_
  obtain⟨t,v1,e1,rfl⟩:=hv
  have e1':v1=u1:=by simpa [hu1] using e1.symm
  subst e1'
  refine⟨.ref T,rfl,W.go elts k tp i T _ _ E mid fun h2 st2 kk2=>?_⟩
  have kept:∀ c o,c∉[e,it]→s.heap.get? c=some o→h2.get? c=some o:=fun c o hc q=>kk2 c o hc (kk c o hc q)
  have nT:=W.apart i T _ mid
  obtain⟨oT,eT,cT,nT',dT⟩:=ht
  obtain⟨t1,t4,_⟩:=st2
  refine⟨.ref T,upd H T (.tup [.int i,x]),I.laidL (t':=tk) kept hf hT ⟨by show 2≤sizeLine;decide,[.int i t,v1],.cons ⟨t,rfl⟩ (.cons ru1 .nil),oT,kk2 T _ nT eT,cT,nT',dT⟩,rfl,
   ⟨T,x,I.hok.fresh hT,fun zs hzs=>by rw[I.list_inj hzs hq1];exact hx,rfl,rfl⟩,⟨t1,t4⟩,fun c hc=>?_⟩
  have hcn:=(hf c hc).1
  have hcl:c < s.heap.objs.size:=by
   obtain⟨old,s1⟩:=s1
   obtain⟨o4,e4,_⟩:=s4
   simp only[List.mem_cons,List.not_mem_nil,or_false] at hc
   rcases hc with rfl | rfl
   ·exact Heap.lt_size s1
   ·exact Heap.lt_size e4
  rw[upd_ne (Nat.ne_of_lt (Nat.lt_of_lt_of_le hcl hT))]
  exact hcn
 done:=by
  intro X hP hw hK hc i pins s σ H E I hf st hg
  subst hP hw hK
  obtain⟨xs,hq1,hx⟩:=hg
  obtain⟨its1,rv1,p1,hz1⟩:=I.list hq1
  obtain⟨s1,s4⟩:=st
  have W:=WalksT.enumerate (prog:=X.prog) (w:=X.w) (A:=X.A) (I.ok.hd hc) e it a hei hle hli its1.toArray
  have hm:its1.toArray.size=i:=by
   rw[List.size_toArray,← rv1.length];exact hx.symm
  refine W.done s _ E ?_ fun h' tk kk=>⟨rfl,I.turnedL kk hf⟩
  rw[hm]
  exact⟨s1,s4,p1.isList⟩
 self:=fun _ _ _ _ _ st h=>by
  obtain⟨⟨old,s1⟩,_⟩:=st
  exact wpAny_pyIter_enum s1 h
def iEnum(K:PySem.W.Frag)(ta:TA):TI:=fun σ H R=>ta σ H fun vs H1=>∃ a,vs=[.ref a]∧(∃ xs,SqL K H1 a xs)∧R (Itn K a) H1
theorem pi_enum{a:Expr}{ta:TA}{p pos tp:Pos}{elts:List Expr}{k:Nat}(hg:Gl X "enumerate")(hm:X.mg "enumerate" = none)(ha:PA X [a] ta)(hs:starEach [a] X.env=[(false,eval a X.env)]:=by rfl) :
  PI X (.Tuple elts k tp) (.Call (.Name "enumerate" p) [a] [] pos) (iEnum X.K ta):=by
 intro pins s σ H R I h
 refine Call_ (ld_blt I hg hm boot_enumerate (PyProof.Rows.callWith_type1 (thn (ha pos pins s σ H _ I h) fun us s1 ⟨vs,H1,I1,r1,q1⟩=>?_) hs rfl))
 obtain⟨a',e,⟨xs,hq1⟩,q⟩:=q1
 subst e
 cases r1 with
 | cons r rr =>
  cases rr
  cases r
  obtain⟨its1,rv1,p1,hz1⟩:=I1.list hq1
  have hlt1:a' < s1.heap.objs.size:=by obtain⟨_,e,_⟩:=p1.isList;exact Heap.lt_size e
  refine call_enumerate_list p1.isList fun h' hE hI hsz hk=>?_
  refine wpAny_pyIter_enum hE ?_
  refine⟨_,[_,_],_,_,H1,rfl,I1.kept (t':=s1.toks) hk,turn_enum _ _ a' (Nat.succ_ne_self _) (Nat.ne_of_lt (Nat.lt_succ_of_lt hlt1)) (Nat.ne_of_lt hlt1),⟨⟨_,hE⟩,hI⟩,fun c hc=>?_,q⟩
  have hle:s1.heap.objs.size≤c:=by
   simp only[List.mem_cons,List.not_mem_nil,or_false] at hc
   rcases hc with rfl | rfl<;>first | exact Nat.le_refl _ | exact Nat.le_add_right _ _
  exact I1.fpOk hle (I1.hok.fresh hle)
end
section
variable {X:Cx}{a b:Expr}{t:TA}{p pos tp:Pos}{elts:List Expr}{k:Nat}
theorem qi_enum(hg:Gl X "enumerate")(hm:X.mg "enumerate" = none)(ha:QA X [a] t)(hs:starEach [a] X.env=[(false,eval a X.env)]:=by rfl) :
  QI X (.Tuple elts k tp) (.Call (.Name "enumerate" p) [a] [] pos) (iEnum X.K t):=⟨pi_enum hg hm ha.p hs⟩
end
theorem rSumF_ap{xs:List V}{H:Hp}{Q:VK}:rSumF xs H Q=∃(p:Addr)(ns:List Int),xs=[.ref p]∧H p=some (.lst (ns.map V.int))∧Q (.int ns.sum) H:=propext Iff.rfl
theorem rAllF_ap{xs:List V}{H:Hp}{Q:VK}:rAllF xs H Q=∃(p:Addr)(bs:List Bool),xs=[.ref p]∧H p=some (.lst (bs.map V.bl))∧Q (.bl (bs.all id)) H:=propext Iff.rfl
theorem rAnyF_ap{xs:List V}{H:Hp}{Q:VK}:rAnyF xs H Q=∃(p:Addr)(bs:List Bool),xs=[.ref p]∧H p=some (.lst (bs.map V.bl))∧Q (.bl (bs.any id)) H:=propext Iff.rfl
end L2
namespace L2
open PySem PySem.Spec PyProof.Rows
section
variable {X:Cx}
def rCatA:R2:=fun x y H Q=>∃ a b xs ys,x=.ref a∧y=.ref b∧H a=some (.tup xs)∧H b=some (.tup ys)∧ys≠[]∧xs.length+ys.length≤sizeLine∧∀ p H',Same H H'→H' p=some (.tup (xs++ys))→Q (.ref p) H'
theorem op_catA:OpR X (binaryOp .Add) rCatA:=by
 intro pins s σ H x y v u Q I rx ry h
 obtain⟨a,b,xs,ys,rfl,rfl,ha,hb,hy,hz,q⟩:=h
 by_cases hx:xs=[]
 ·subst hx
  cases rx
  cases ry
  obtain⟨its,r1,p1,_⟩:=I.tuple (SqT.of ha)
  obtain⟨its2,r2,p2,_⟩:=I.tuple (SqT.of hb)
  cases r1
  obtain⟨⟨cls,dd,data,sl⟩,ho,hc,n,hd⟩:=id p1
  obtain⟨⟨cls2,dd2,data2,sl2⟩,ho2,hc2,n2,hd2⟩:=id p2
  simp only at hc hd hc2 hd2
  subst hc hd hc2 hd2
  exact concat_meets ⟨_,ho,rfl⟩ ⟨_,ho2,rfl⟩ noFill_tuple_add seq_tuple_add PySem.F.slot_tuple_add PySem.F.entry_tuple_add (PySem.F.args_tuple_add_2 _ _)
   (tuple_addW0 a b _ _ n n2 dd dd2 sl sl2 (by simp)) ⟨ho,ho2,⟨.ref b,H,I,rfl,q b H (Same.refl H) (by simpa using hb)⟩⟩
 ·exact op_catT pins s σ H (.ref a) (.ref b) _ _ Q I rx ry ⟨a,b,xs,ys,rfl,rfl,SqT.of ha,SqT.of hb,hx,hz,fun z=>absurd z hy,fun _ p hp=>q p _ (Same.new hp) upd_same⟩
end
theorem tBM_ap{K:PySem.W.Frag}{T:String}{r:V→List V→Hp→VK→Prop}{to:TE}{t:TA}{σ:St}{H:Hp}{Q:VK}:tBM K T r to t σ H Q=to σ H fun x H1=>tyV K T x H1∧t σ H1 fun vs H2=>r x vs H2 Q:=propext Iff.rfl
theorem rAppend_ap{x:V}{vs:List V}{H:Hp}{Q:VK}:rAppend x vs H Q=∃ l xs y,x=.ref l∧vs=[y]∧H l=some (.lst xs)∧xs.length < sizeLine∧Q .non (upd H l (.lst (xs++[y]))):=propext Iff.rfl
theorem sizeLine_8:(8≤sizeLine)=True:=eq_true (by decide)
theorem sizeLine_10:(10≤sizeLine)=True:=eq_true (by decide)
end L2
namespace L2
open PySem PySem.Spec PyProof.Rows
section
variable {X:Cx}{o e:Expr}{es:List Expr}{to:TE}{t:TA}{name:Str}{apos cpos:Pos}{T id:String}{r:V→List V→Hp→VK→Prop}
theorem qe_bm(pa:PlainAttrs T)(slot:Slot T name id)(hty:typeOf (.builtin id)=pure (.type "method_descriptor"))(hm:MtR X id r)(ho:QE X o to)(ha:QA X (e::es) t)
  (hbase:attributeBase o name X.env (eval o X.env)=eval o X.env:=by rfl)
  (hfew:((backTo cpos (starEach (e::es) X.env)).all (fun x=>!x.1) && (backToKw cpos (keywordEach [] X.env)).all (fun x=>x.1.isSome)
   && decide ((e::es).length+([]:List Keyword).length+(if ([]:List Keyword).isEmpty then 0 else 1) < 30))=true:=by rfl)
  (hline:(apos.endLine == cpos.line)=true:=by rfl) (hs:starEach (e::es) X.env=(false,eval e X.env)::starEach es X.env:=by rfl) (hplain:(backTo cpos (starEach es X.env)).any (·.1)=false:=by rfl) :
  QE X (.Call (.Attribute o name apos) (e::es) [] cpos) (tBM X.K T r to t):=⟨pe_bm pa slot hty hm ho.p ha.p hbase hfew hline hs hplain⟩
end
end L2
namespace L2
theorem compSt_ap{n:Nat}{js:List Nat}{σ:St}:compSt n js σ=List.replicate n none++js.map fun j=>(σ[j]?).join:=by unfold compSt;exact rfl
theorem join_somz{α:Type}{x:Option α}:(some x).join=x:=rfl
end L2
namespace L2
open PySem
theorem op_inK{X:Cx}{K:PySem.W.Frag}(hK:X.K=K):OpR X (compareOp .In) (rIn K false):=hK▸op_in_seq
theorem op_notInK{X:Cx}{K:PySem.W.Frag}(hK:X.K=K):OpR X (compareOp .NotIn) (rIn K true):=hK▸op_notIn_seq
end L2
namespace L2
open PySem
theorem qg_tupK{X:Cx}{K:PySem.W.Frag}{es:List Expr}{pos:Pos}{k:Nat}{tg:TGs}{n:Nat}(hK:X.K=K)(hc:X.calm=true)(h:QGs X es tg)(hn:(assignEach es X.env).length=n:=by rfl)(hst:(assignEach es X.env).findIdx? (·.1)=none:=by rfl):QG X (.Tuple es k pos) (gTup K n tg):=hK▸qg_tup hc h hn hst
end L2
namespace L2
theorem sizeLine_0:(0≤PySem.sizeLine)=True:=eq_true (Nat.zero_le _)
end L2
namespace L2
theorem brkNB{b:Bool}{A B:Prop}{k:Tg A}{l:Tg B}(h1:b=false→A)(h2:b=true→B):Brk (!b) A B k l:=brk (fun h=>h1 (by simpa using h)) (fun h=>h2 (by simpa using h))
end L2
set_option maxHeartbeats 4000000
namespace Srt
open PySem PyProof.Rows
abbrev PS:=Array Nat×Array (Nat×Nat×Nat)×Nat
abbrev TW(β:Type):=PS→Option (β×PS)
abbrev enc(k:Nat→Keyed)(t:PS):SortSt:=SortSt.mk' oneType' (t.1.map k) t.2.1 t.2.2 none
structure Asked(P:Program)(w:World)(A:Around)(s:Shared)(k:Nat→Keyed)(c:Nat→Nat→Bool)(N:Nat):Prop where
 lt:∀ i j,i < N→j < N→∀(E:Value→Shared→Prop)(Q:Bool→Shared→Prop),Q (c i j) s→wpAny (model P w) A (oneLt' true (k i).1 (k j).1) Q E s
structure Sim(c:Nat→Nat→Bool)(N:Nat){α β:Type}(φ:(Nat→Keyed)→β→α)(m:(Nat→Keyed)→StateT SortSt Sem α)(n:TW β):Prop where
 run:∀(P:Program)(w:World)(A:Around)(E:Value→Shared→Prop)(s:Shared)(k:Nat→Keyed),Asked P w A s k c N→∀ t b t',n t=some (b,t')→wpS (model P w) A E s (m k) (fun a st=>a=φ k b∧st=enc k t') (enc k t)
section
variable {c:Nat→Nat→Bool}{N:Nat}{α β γ δ:Type}
def tpure(b:β):TW β:=fun t=>some (b,t)
def tbind(n:TW β)(g:β→TW δ):TW δ:=fun t=>match n t with
 | none=>none
 | some (b,t')=>g b t'
def tfor(f:Nat→β→TW (ForInStep β)):List Nat→β→TW β
 | [],b=>tpure b
 | x::l,b=>fun t=>match f x b t with
  | none=>none
  | some (.done b',t')=>some (b',t')
  | some (.yield b',t')=>tfor f l b' t'
def tite(p:Prop)[Decidable p](x y:TW β):TW β:=fun t=>if p then x t else y t
def tnone:TW β:=fun _=>none
def tget:TW PS:=fun t=>some (t,t)
def tmod(f:PS→PS):TW Unit:=fun t=>some ((),f t)
def tlt(c:Nat→Nat→Bool)(N i j:Nat):TW Bool:=fun t=>if i < N∧j < N then some (c i j,t) else none
def tel(p:Array Nat)(i:Nat):TW Nat:=fun t=>match p[i]? with
 | none=>none
 | some j=>some (j,t)
abbrev ident:(Nat→Keyed)→β→β:=fun _ b=>b
theorem sim_pure(b:β):Sim c N ident (fun _=>pure b) (tpure b):=by
 refine⟨?_⟩
 intro P w A E s k h t b' t' e
 cases e
 exact wpS_pure ⟨rfl,rfl⟩
theorem sim_pureV{φ:(Nat→Keyed)→β→α}{v:(Nat→Keyed)→α}(b:β)(hv:∀ k,v k=φ k b):Sim c N φ (fun k=>pure (v k)) (tpure b):=by
 refine⟨?_⟩
 intro P w A E s k h t b' t' e
 cases e
 exact wpS_pure ⟨hv k,rfl⟩
theorem sim_bind{φ:(Nat→Keyed)→β→α}{ψ:(Nat→Keyed)→δ→γ}{m:(Nat→Keyed)→StateT SortSt Sem α}{f:(Nat→Keyed)→α→StateT SortSt Sem γ}{n:TW β}{g:β→TW δ}
  (h1:Sim c N φ m n) (h2:∀ b,Sim c N ψ (fun k=>f k (φ k b)) (g b)):Sim c N ψ (fun k=>m k >>= f k) (tbind n g):=by
 refine⟨?_⟩
 intro P w A E s k h t b t' e
 unfold tbind at e
 cases e1:n t with
 | none=>rw[e1] at e;cases e
 | some r =>
  obtain⟨b1,t1⟩:=r
  rw[e1] at e
  refine wpS_bind (wpS_mono (h1.run P w A E s k h t b1 t1 e1) fun a st ⟨ea,es⟩=>?_)
  rw[ea,es]
  exact (h2 b1).run P w A E s k h t1 b t' e
theorem sim_ite{φ:(Nat→Keyed)→β→α}{p:Prop}{d:(Nat→Keyed)→Decidable p}[Decidable p]{m1 m2:(Nat→Keyed)→StateT SortSt Sem α}{n1 n2:TW β}(h1:Sim c N φ m1 n1)(h2:Sim c N φ m2 n2):Sim c N φ (fun k=>@ite _ p (d k) (m1 k) (m2 k)) (tite p n1 n2):=by
 refine⟨?_⟩
 intro P w A E s k h t b t' e
 unfold tite at e
 by_cases hp:p
 ·rw[if_pos hp] at e
  simp only[if_pos hp]
  exact h1.run P w A E s k h t b t' e
 ·rw[if_neg hp] at e
  simp only[if_neg hp]
  exact h2.run P w A E s k h t b t' e
theorem sim_none{φ:(Nat→Keyed)→β→α}{m:(Nat→Keyed)→StateT SortSt Sem α}:Sim c N φ m tnone:=⟨fun _ _ _ _ _ _ _ _ _ _ e=>nomatch e⟩
theorem sim_get:Sim c N enc (fun _=>get) tget:=by
 refine⟨?_⟩
 intro P w A E s k h t b' t' e
 cases e
 exact wpS_get ⟨rfl,rfl⟩
theorem sim_mod{f:SortSt→SortSt}(f':PS→PS)(hf:∀ k t,f (enc k t)=enc k (f' t)):Sim c N ident (fun _=>modify f) (tmod f'):=by
 refine⟨?_⟩
 intro P w A E s k h t b' t' e
 cases e
 exact wpS_modify ⟨rfl,hf k t⟩
theorem sim_rule{x:String}:Sim c N ident (fun _=>(liftM (rule x):StateT SortSt Sem Unit)) (tpure ()):=by
 refine⟨?_⟩
 intro P w A E s k h t b' t' e
 cases e
 exact wpS_lift (wpAny_rule ⟨rfl,rfl,rfl⟩)
theorem sim_lt{i j:Nat}:Sim c N (fun _ b=>some b) (fun k=>lt' (k i) (k j)) (tlt c N i j):=by
 refine⟨?_⟩
 intro P w A E s k h t b' t' e
 unfold tlt at e
 split at e
 case isFalse=>cases e
 rename_i hij
 cases e
 try dsimp only
 rw[lt'_eq]
 refine wpS_bind (wpS_get ?_)
 show wpS _ _ _ _ (do let r ← (keyLt' oneType' (k i).1 (k j).1).attempt;_) _ _
 rw[keyLt'_oneType]
 refine wpS_bind (wpS_lift (wpAny_attempt (h.lt i j hij.1 hij.2 _ _ ⟨rfl,?_⟩)))
 exact wpS_pure ⟨rfl,rfl⟩
theorem sim_el{p:Array Nat}{i:Nat}:Sim c N (fun k j=>k j) (fun k=>elem' (p.map k) i) (tel p i):=by
 refine⟨?_⟩
 intro P w A E s k h t b' t' e
 unfold tel at e
 try dsimp only
 rw[elem'_eq]
 cases e1:p[i]? with
 | none=>rw[e1] at e;cases e
 | some j =>
  rw[e1] at e
  cases e
  rw[Array.getElem?_map,e1]
  exact wpS_pure ⟨rfl,rfl⟩
def stepM(φ:(Nat→Keyed)→β→α)(k:Nat→Keyed):ForInStep β→ForInStep α
 | .done b=>.done (φ k b)
 | .yield b=>.yield (φ k b)
theorem sim_forL{φ:(Nat→Keyed)→β→α}{F:(Nat→Keyed)→Nat→α→StateT SortSt Sem (ForInStep α)}{f:Nat→β→TW (ForInStep β)}(h:∀ x b,Sim c N (stepM φ) (fun k=>F k x (φ k b)) (f x b)) :
  ∀(l:List Nat)(b:β),Sim c N φ (fun k=>forIn l (φ k b) (F k)) (tfor f l b)
 | [],b=>by
  refine⟨?_⟩
  intro P w A E s k ha t b' t' e
  cases e
  simp only[List.forIn_nil]
  exact wpS_pure ⟨rfl,rfl⟩
 | x::l,b=>by
  refine⟨?_⟩
  intro P w A E s k ha t b' t' e
  simp only[List.forIn_cons]
  unfold tfor at e
  cases e1:f x b t with
  | none=>rw[e1] at e;cases e
  | some r =>
   obtain⟨r,t1⟩:=r
   rw[e1] at e
   refine wpS_bind (wpS_mono ((h x b).run P w A E s k ha t r t1 e1) fun a st ⟨ea,es⟩=>?_)
   rw[ea,es]
   cases r with
   | done b1 =>
    cases e
    exact wpS_pure ⟨rfl,rfl⟩
   | yield b1=>exact (sim_forL h l b1).run P w A E s k ha t1 b' t' e
theorem sim_for{φ:(Nat→Keyed)→β→α}{F:(Nat→Keyed)→Nat→α→StateT SortSt Sem (ForInStep α)}{f:Nat→β→TW (ForInStep β)}{a b:Nat}{v:(Nat→Keyed)→α}(b0:β)(hv:∀ k,v k=φ k b0)(h:∀ x b,Sim c N (stepM φ) (fun k=>F k x (φ k b)) (f x b)) :
  Sim c N φ (fun k=>forIn [a:b] (v k) (F k)) (tfor f (List.range' a (b - a)) b0):=by
 refine⟨?_⟩
 intro P w A E s k ha t b' t' e
 have:=(sim_forL h _ b0).run P w A E s k ha t b' t' e
 try dsimp only
 rw[hv k,Std.Legacy.Range.forIn_eq_forIn_range']
 have hsz:([a:b]:Std.Legacy.Range).size=b - a:=by simp[Std.Legacy.Range.size]
 show wpS _ _ _ _ (forIn (List.range' a ([a:b]:Std.Legacy.Range).size 1) _ _) _ _
 rw[hsz]
 exact this
theorem sim_forI{F:(Nat→Keyed)→Nat→β→StateT SortSt Sem (ForInStep β)}{f:Nat→β→TW (ForInStep β)}{a b:Nat}{b0:β}(h:∀ x b,Sim c N (stepM ident) (fun k=>F k x b) (f x b)) :
  Sim c N ident (fun k=>forIn [a:b] b0 (F k)) (tfor f (List.range' a (b - a)) b0):=sim_for b0 (fun _=>rfl) h
theorem sim_done(b:β):Sim c N (stepM ident) (fun _=>pure (ForInStep.done b)) (tpure (.done b)):=sim_pureV _ fun _=>rfl
theorem sim_yield(b:β):Sim c N (stepM ident) (fun _=>pure (ForInStep.yield b)) (tpure (.yield b)):=sim_pureV _ fun _=>rfl
def tcase{ρ τ:Type}(g1:ρ→τ→TW δ)(g2:τ→TW δ):Option ρ×τ→TW δ
 | (some r,y)=>g1 r y
 | (none,y)=>g2 y
theorem sim_case{ρ τ:Type}{ψ:(Nat→Keyed)→δ→γ}{f:(Nat→Keyed)→Option ρ×τ→StateT SortSt Sem γ}{g1:ρ→τ→TW δ}{g2:τ→TW δ}(h1:∀ r y,Sim c N ψ (fun k=>f k (some r,y)) (g1 r y))(h2:∀ y,Sim c N ψ (fun k=>f k (none,y)) (g2 y)) :
  ∀ b,Sim c N ψ (fun k=>f k b) (tcase g1 g2 b)
 | (some r,y)=>h1 r y
 | (none,y)=>h2 y
theorem sim_ltAt{i j:Nat}:Sim c N (fun _ b=>some b) (fun _=>ltAt' i j) (fun t=>tbind (tel t.1 i) (fun x=>tbind (tel t.1 j) (tlt c N x)) t):=by
 refine⟨?_⟩
 intro P w A E s k h t b' t' e
 try dsimp only
 rw[ltAt'_eq]
 refine wpS_bind (wpS_get ?_)
 have g:Sim c N (fun _ b=>some b) (fun k=>do let x ← elem' (t.1.map k) i;let y ← elem' (t.1.map k) j;lt' x y) (tbind (tel t.1 i) (fun x=>tbind (tel t.1 j) (tlt c N x))):=sim_bind sim_el fun x=>sim_bind sim_el fun y=>sim_lt
 exact g.run P w A E s k h t b' t' e
theorem swap_map(k:Nat→Keyed)(xs:Array Nat)(i j:Nat):(xs.map k).swapIfInBounds i j=(xs.swapIfInBounds i j).map k:=by
 by_cases hi:i < xs.size
 ·by_cases hj:j < xs.size
  ·apply Array.ext_getElem?
   intro q
   rw[getElem?_swapIB (by rw[Array.size_map];exact hi) (by rw[Array.size_map];exact hj)]
   simp only[Array.getElem?_map]
   rw[getElem?_swapIB hi hj]
   by_cases h1:j=q<;>by_cases h2:i=q<;>simp[h1,h2]
  ·simp[Array.swapIfInBounds_def,hi,hj]
 ·simp[Array.swapIfInBounds_def,hi]
theorem mirror_map(k:Nat→Keyed)(xs:Array Nat)(i j d:Nat):mirror (xs.map k) i j d=(mirror xs i j d).map k:=by
 have go:∀(l:List Nat)(xs:Array Nat),l.foldl (fun a q=>a.swapIfInBounds (i+q) (j - 1 - q)) (xs.map k)=(l.foldl (fun a q=>a.swapIfInBounds (i+q) (j - 1 - q)) xs).map k:=by
  intro l
  induction l with
  | nil=>intro xs;rfl
  | cons x l ih=>intro xs;simp only[List.foldl_cons];rw[swap_map,ih]
 exact go _ _
theorem bubble_map(k:Nat→Keyed)(xs:Array Nat)(src d:Nat):bubble (xs.map k) src d=(bubble xs src d).map k:=by
 have go:∀(l:List Nat)(xs:Array Nat),l.foldl (fun a q=>a.swapIfInBounds (src - q) (src - q - 1)) (xs.map k)=(l.foldl (fun a q=>a.swapIfInBounds (src - q) (src - q - 1)) xs).map k:=by
  intro l
  induction l with
  | nil=>intro xs;rfl
  | cons x l ih=>intro xs;simp only[List.foldl_cons];rw[swap_map,ih]
 exact go _ _
end
end Srt
set_option maxHeartbeats 4000000
namespace Srt
open PySem PyProof.Rows
variable {c:Nat→Nat→Bool}{N:Nat}
theorem sim_moveDown{src dst:Nat}:Sim c N ident (fun _=>moveDown' src dst) (tmod fun t=>(bubble t.1 src (src - dst),t.2)):=by
 simp only[moveDown'_eq]
 exact sim_mod _ fun k t=>by
  show SortSt.mk' oneType' (bubble (t.1.map k) src (src - dst)) t.2.1 t.2.2 none=_
  rw[bubble_map]
theorem sim_reverse{i j:Nat}:Sim c N ident (fun _=>reverseSlice' i j) (tmod fun t=>(mirror t.1 i j ((j - i) / 2),t.2)):=by
 simp only[reverseSlice'_eq]
 exact sim_mod _ fun k t=>by
  show SortSt.mk' oneType' (mirror (t.1.map k) i j ((j - i) / 2)) t.2.1 t.2.2 none=_
  rw[mirror_map]
def mkS{α β:Type}{φ:(Nat→Keyed)→β→α}{m:(Nat→Keyed)→StateT SortSt Sem α}{n:TW β}(h:Sim c N φ m n):{ n:TW β // Sim c N φ m n }:=⟨n,h⟩
def binS(c:Nat→Nat→Bool)(N lo n ok:Nat):{ m:TW Bool // Sim c N ident (fun _=>binarySort' lo n ok) m }:=by
 apply mkS
 ·simp only[binarySort'_eq]
  repeat' (first
   | with_reducible exact sim_done _ | with_reducible exact sim_yield _ | with_reducible exact sim_pure _ | with_reducible exact sim_ltAt | with_reducible exact sim_moveDown | with_reducible exact sim_reverse | with_reducible exact sim_rule | with_reducible exact sim_el | with_reducible exact sim_lt
   | apply sim_ite | with_reducible apply sim_forI | with_reducible apply sim_case | with_reducible apply sim_bind | (intro _;try dsimp only[ident]))
def countS(c:Nat→Nat→Bool)(N lo nrem:Nat):{ m:TW (Option Nat) // Sim c N ident (fun _=>countRun' lo nrem) m }:=by
 apply mkS
 ·simp only[countRun'_eq]
  repeat' (first
   | with_reducible exact sim_done _ | with_reducible exact sim_yield _ | with_reducible exact sim_pure _ | with_reducible exact sim_ltAt | with_reducible exact sim_moveDown | with_reducible exact sim_reverse | with_reducible exact sim_rule | with_reducible exact sim_el | with_reducible exact sim_lt
   | apply sim_ite | with_reducible apply sim_forI | with_reducible apply sim_case | with_reducible apply sim_bind | (intro _;try dsimp only[ident]))
end Srt
set_option maxHeartbeats 4000000
namespace Srt
open PySem PyProof.Rows
variable {c:Nat→Nat→Bool}{N:Nat}
def gallop':Bool→Keyed→Array Keyed→Nat→Nat→Nat→StateT SortSt Sem (Option Nat):=sortPriv% PySem.Builtin.gallop
def mergeLo':Array Keyed→Array Keyed→StateT SortSt Sem (Array Keyed):=sortPriv% PySem.Builtin.mergeLo
def setMinGallop':Nat→StateT SortSt Sem Unit:=sortPriv% PySem.Builtin.setMinGallop
def tbey(c:Nat→Nat→Bool)(N:Nat)(left:Bool)(p:Array Nat)(i j:Nat):TW Bool:=tbind (tel p i) fun x=>tite (left=true) (tlt c N x j) (tbind (tlt c N j x) fun r=>tpure (!r))
theorem sim_beyond{left:Bool}{p:Array Nat}{i j:Nat}:Sim c N (fun _ b=>some b) (fun k=>elem' (p.map k) i >>= fun x=>if left=true then lt' x (k j) else lt' (k j) x >>= fun r=>pure (Option.map (fun x=>!x) r)) (tbey c N left p i j):=by
 unfold tbey
 apply sim_bind
 ·exact sim_el
 ·intro x
  apply sim_ite
  ·exact sim_lt
  ·apply sim_bind
   ·exact sim_lt
   ·intro r
    exact sim_pureV (φ:=fun _ b=>some b) (!r) fun _=>rfl
def topt{ρ δ:Type}(g1:ρ→TW δ)(g2:TW δ):Option ρ→TW δ
 | some r=>g1 r
 | none=>g2
theorem sim_opt{ρ δ γ:Type}{ψ:(Nat→Keyed)→δ→γ}{f:(Nat→Keyed)→Option ρ→StateT SortSt Sem γ}{g1:ρ→TW δ}{g2:TW δ}(h1:∀ r,Sim c N ψ (fun k=>f k (some r)) (g1 r))(h2:Sim c N ψ (fun k=>f k none) g2):∀ b,Sim c N ψ (fun k=>f k b) (topt g1 g2 b)
 | some r=>h1 r
 | none=>h2
def gallopS(c:Nat→Nat→Bool)(N:Nat)(left:Bool)(j:Nat)(p:Array Nat)(base n hint:Nat):{ m:TW (Option Nat) // Sim c N ident (fun k=>gallop' left (k j) (p.map k) base n hint) m }:=by
 apply mkS
 ·apply sim_bind
  ·exact sim_beyond
  ·intro b
   dsimp only
   repeat' (first
    | with_reducible exact sim_done _ | with_reducible exact sim_yield _ | with_reducible exact sim_pure _ | exact sim_beyond
    | apply sim_ite | with_reducible apply sim_forI | with_reducible apply sim_case | with_reducible apply sim_bind | (intro _;try dsimp only[ident]))
theorem sim_gallop{left:Bool}{j:Nat}{p:Array Nat}{base n hint:Nat}:Sim c N ident (fun k=>gallop' left (k j) (p.map k) base n hint) (gallopS c N left j p base n hint).1:=(gallopS c N left j p base n hint).2
theorem sim_setMG{g:Nat}:Sim c N ident (fun _=>setMinGallop' g) (tmod fun t=>(t.1,t.2.1,g)):=sim_mod _ fun k t=>rfl
theorem sim_unsup{α β:Type}{φ:(Nat→Keyed)→β→α}{x:String}:Sim c N φ (fun _=>(liftM (unsupported x:Sem α):StateT SortSt Sem α)) tnone:=sim_none
abbrev phA:(Nat→Keyed)→Array Nat→Array Keyed:=fun k p=>Array.map k p
def phM{τ:Type}:(Nat→Keyed)→Option (Array Nat)×Array Nat×τ→Option (Array Keyed)×Array Keyed×τ:=fun k r=>(r.1.map (Array.map k),Array.map k r.2.1,r.2.2)
theorem phM_ap{τ:Type}(k:Nat→Keyed)(r:Option (Array Nat)×Array Nat×τ):phM k r=(r.1.map (Array.map k),Array.map k r.2.1,r.2.2):=rfl
theorem nm1(k:Nat→Keyed)(o:Array Nat)(j:Nat):(Array.map k o).push (k j)=Array.map k (o.push j):=by simp
theorem nm2(k:Nat→Keyed)(o:Array Nat)(i j:Nat):(Array.map k o).extract i j=Array.map k (o.extract i j):=by simp
theorem nm3(k:Nat→Keyed)(o q:Array Nat):Array.map k o++Array.map k q=Array.map k (o++q):=by simp
theorem nm4(k:Nat→Keyed)(o:Array Nat):(Array.map k o).size=o.size:=by simp
theorem nm5(k:Nat→Keyed)(j:Nat):(#[k j]:Array Keyed)=Array.map k #[j]:=by simp
section
variable {τ δ γ:Type}
theorem simM_for{F:(Nat→Keyed)→Nat→(Option (Array Keyed)×Array Keyed×τ)→StateT SortSt Sem (ForInStep (Option (Array Keyed)×Array Keyed×τ))}{f:Nat→(Option (Array Nat)×Array Nat×τ)→TW (ForInStep (Option (Array Nat)×Array Nat×τ))}{a b:Nat}{p0:Array Nat}{y0:τ}
  (h:∀ x b,Sim c N (stepM phM) (fun k=>F k x (phM k b)) (f x b)):Sim c N phM (fun k=>forIn [a:b] (none,Array.map k p0,y0) (F k)) (tfor f (List.range' a (b - a)) (none,p0,y0)):=sim_for (none,p0,y0) (fun _=>rfl) h
theorem simM_done0{o:Array Nat}{y:τ}:Sim c N (stepM phM) (fun k=>pure (ForInStep.done (none,Array.map k o,y))) (tpure (.done (none,o,y))):=sim_pureV _ fun _=>rfl
theorem simM_done1{r o:Array Nat}{y:τ}:Sim c N (stepM phM) (fun k=>pure (ForInStep.done (some (Array.map k r),Array.map k o,y))) (tpure (.done (some r,o,y))):=sim_pureV _ fun _=>rfl
theorem simM_yield{o:Array Nat}{y:τ}:Sim c N (stepM phM) (fun k=>pure (ForInStep.yield (none,Array.map k o,y))) (tpure (.yield (none,o,y))):=sim_pureV _ fun _=>rfl
theorem simM_pure{r:Array Nat}:Sim c N phA (fun k=>pure (Array.map k r)) (tpure r):=sim_pureV _ fun _=>rfl
def tcaseM(g1:Array Nat→Array Nat→τ→TW δ)(g2:Array Nat→τ→TW δ):Option (Array Nat)×Array Nat×τ→TW δ
 | (some r,o,y)=>g1 r o y
 | (none,o,y)=>g2 o y
theorem simM_case{ψ:(Nat→Keyed)→δ→γ}{f:(Nat→Keyed)→Option (Array Keyed)×Array Keyed×τ→StateT SortSt Sem γ}{g1:Array Nat→Array Nat→τ→TW δ}{g2:Array Nat→τ→TW δ}(h1:∀ r o y,Sim c N ψ (fun k=>f k (some (Array.map k r),Array.map k o,y)) (g1 r o y))(h2:∀ o y,Sim c N ψ (fun k=>f k (none,Array.map k o,y)) (g2 o y)) :
  ∀ b,Sim c N ψ (fun k=>f k (phM k b)) (tcaseM g1 g2 b)
 | (some r,o,y)=>h1 r o y
 | (none,o,y)=>h2 o y
theorem simM_bind{ψ:(Nat→Keyed)→δ→γ}{m:(Nat→Keyed)→StateT SortSt Sem (Option (Array Keyed)×Array Keyed×τ)}{f:(Nat→Keyed)→Option (Array Keyed)×Array Keyed×τ→StateT SortSt Sem γ}{n:TW (Option (Array Nat)×Array Nat×τ)}{g1:Array Nat→Array Nat→τ→TW δ}{g2:Array Nat→τ→TW δ}
  (h:Sim c N phM m n) (h1:∀ r o y,Sim c N ψ (fun k=>f k (some (Array.map k r),Array.map k o,y)) (g1 r o y)) (h2:∀ o y,Sim c N ψ (fun k=>f k (none,Array.map k o,y)) (g2 o y)) :
  Sim c N ψ (fun k=>m k >>= f k) (tbind n (tcaseM g1 g2)):=sim_bind h (simM_case h1 h2)
end
def mergeS(c:Nat→Nat→Bool)(N:Nat)(a b:Array Nat):{ m:TW (Array Nat) // Sim c N phA (fun k=>mergeLo' (a.map k) (b.map k)) m }:=by
 apply mkS
 ·apply sim_bind
  ·exact sim_rule
  ·intro _
   dsimp only
   apply sim_bind
   ·exact sim_el
   ·intro j
    try dsimp only
    simp only[nm1,nm2,nm3,nm4,nm5]
    repeat' (first
     | exact sim_rule | exact sim_unsup | exact sim_setMG | exact sim_el | exact sim_lt | exact sim_gallop | exact sim_get
     | apply sim_ite | with_reducible apply simM_for | with_reducible apply sim_opt | with_reducible apply simM_bind | with_reducible apply sim_bind | exact simM_done0 | exact simM_done1 | exact simM_yield | exact simM_pure | (simp only[nm1,nm2,nm3,nm4,nm5];first | exact simM_done0 | exact simM_done1 | exact simM_yield | exact simM_pure | apply sim_ite | with_reducible apply simM_bind | with_reducible apply sim_bind | with_reducible apply simM_for) | (intro _;try dsimp only[ident,enc,phM_ap];try simp only[nm1,nm2,nm3,nm4,nm5]))
end Srt
set_option maxHeartbeats 4000000
namespace Srt
open PySem PyProof.Rows
def sub(i:Nat):List Int:=((List.range 6).filter fun b=>i.testBit b).map Int.ofNat
def llt:List Int→List Int→Bool
 | [],[]=>false
 | [],_::_=>true
 | _::_,[]=>false
 | x::xs,y::ys=>if x=y then llt xs ys else decide (x < y)
def cmp(i j:Nat):Bool:=llt (sub i) (sub j)
theorem of_sim{c:Nat→Nat→Bool}{N:Nat}{α β:Type}{φ:(Nat→Keyed)→β→α}{m:(Nat→Keyed)→StateT SortSt Sem α}{n:TW β}{P:Program}{w:World}{A:Around}{E:Value→Shared→Prop}{s:Shared}{k:Nat→Keyed}{t t':PS}{b:β}{Q:α→SortSt→Prop}
  (S:Sim c N φ m n) (h:Asked P w A s k c N) (e:n t=some (b,t')) (q:Q (φ k b) (enc k t')):wpS (model P w) A E s (m k) Q (enc k t):=wpS_mono (S.run P w A E s k h t b t' e) fun a st ⟨ea,es⟩=>by rw[ea,es];exact q
theorem wpS_cons{M:Model}{A:Around}{E:Value→Shared→Prop}{s:Shared}{σ β:Type}{x:Nat}{l:List Nat}{b:β}{f:Nat→β→StateT σ Sem (ForInStep β)}{Q:β→σ→Prop}{st:σ}
  (h:wpS M A E s (f x b) (fun r st'=>match r with | .done b'=>Q b' st' | .yield b'=>wpS M A E s (forIn l b' f) Q st') st):wpS M A E s (forIn (x::l) b f) Q st:=by
 rw[List.forIn_cons]
 refine wpS_bind (wpS_mono h fun r st' h'=>?_)
 cases r with
 | done b'=>exact wpS_pure h'
 | yield b'=>exact h'
theorem wpS_range{M:Model}{A:Around}{E:Value→Shared→Prop}{s:Shared}{σ β:Type}{a n:Nat}{b:β}{f:Nat→β→StateT σ Sem (ForInStep β)}{Q:β→σ→Prop}{st:σ}(h:wpS M A E s (forIn (List.range' a (n - a)) b f) Q st):wpS M A E s (forIn [a:n] b f) Q st:=by
 rw[Std.Legacy.Range.forIn_eq_forIn_range']
 have hsz:([a:n]:Std.Legacy.Range).size=n - a:=by simp[Std.Legacy.Range.size]
 show wpS _ _ _ _ (forIn (List.range' a ([a:n]:Std.Legacy.Range).size 1) _ _) _ _
 rw[hsz]
 exact h
theorem wpS_set{M:Model}{A:Around}{E:Value→Shared→Prop}{s:Shared}{σ:Type}{v:σ}{Q:PUnit→σ→Prop}{st:σ}(h:Q ⟨⟩ v):wpS M A E s (set v:StateT σ Sem PUnit) Q st:=by
 unfold wpS;rw[StateT.run_set];exact wpAny_pure ⟨rfl,h⟩
theorem wpS_set_to{M:Model}{A:Around}{E:Value→Shared→Prop}{s:Shared}{σ:Type}{v:σ}(v':σ){Q:PUnit→σ→Prop}{st:σ}(e:v=v')(h:Q ⟨⟩ v'):wpS M A E s (set v:StateT σ Sem PUnit) Q st:=wpS_set (e▸h)
theorem wpS_mod_to{M:Model}{A:Around}{E:Value→Shared→Prop}{s:Shared}{σ:Type}{f:σ→σ}(v':σ){Q:PUnit→σ→Prop}{st:σ}(e:f st=v')(h:Q ⟨⟩ v'):wpS M A E s (modify f:StateT σ Sem PUnit) Q st:=wpS_modify (e▸h)
theorem set_map(k:Nat→Keyed)(sa:Nat):∀ (l:List (Nat×Nat)) (p:Array Nat),(l.map fun x=>(k x.1,x.2)).foldl (fun a (x:Keyed×Nat)=>match x with | (q,j)=>a.setIfInBounds (sa+j) q) (p.map k)=(l.foldl (fun a x=>a.setIfInBounds (sa+x.2) x.1) p).map k
 | [],p=>rfl
 | x::l,p=>by
  simp only[List.map_cons,List.foldl_cons]
  have e:(p.map k).setIfInBounds (sa+x.2) (k x.1)=(p.setIfInBounds (sa+x.2) x.1).map k:=by simp
  rw[e,set_map k sa l]
theorem zip_map(k:Nat→Keyed)(m:Array Nat):(m.map k).toList.zipIdx=m.toList.zipIdx.map fun x=>(k x.1,x.2):=by
 rw[Array.toList_map,List.zipIdx_map]
 rfl
def a1:Array Nat:=#[0,1,3,7,15,31,23,11,27,19,5,13,29,21,9,25,17,2,6,14,30,22,10,26,18,4,12,28,20,8,24,16,32,33,34,35,36,37,38,39,40,41,42,43,44,45,46,47,48,49,50,51,52,53,54,55,56,57,58,59,60,61,62,63]
def a3:Array Nat:=#[0,1,3,7,15,31,23,11,27,19,5,13,29,21,9,25,17,2,6,14,30,22,10,26,18,4,12,28,20,8,24,16,33,32,34,35,36,37,38,39,40,41,42,43,44,45,46,47,48,49,50,51,52,53,54,55,56,57,58,59,60,61,62,63]
def a4:Array Nat:=#[0,1,3,7,15,31,23,11,27,19,5,13,29,21,9,25,17,2,6,14,30,22,10,26,18,4,12,28,20,8,24,16,63,47,55,39,59,43,51,35,61,45,53,37,57,41,49,33,62,46,54,38,58,42,50,34,60,44,52,36,56,40,48,32]
def order:Array Nat:=#[0,1,3,7,15,31,63,47,23,55,39,11,27,59,43,19,51,35,5,13,29,61,45,21,53,37,9,25,57,41,17,49,33,2,6,14,30,62,46,22,54,38,10,26,58,42,18,50,34,4,12,28,60,44,20,52,36,8,24,56,40,16,48,32]
def t0:PS:=((List.range 64).toArray,#[],7)
def t2:PS:=(a1,#[(0,32,0)],7)
def t4:PS:=(a4,#[(0,32,0)],7)
def t5:PS:=(a4,#[(0,32,1),(32,32,0)],7)
def t6:PS:=(a4,#[(0,64,1)],7)
theorem e0:(countS cmp 64 0 64).1 t0=some (some 3,t0):=by kernel_rfl
theorem e1:(binS cmp 64 0 32 3).1 t0=some (true,(a1,#[],7)):=by kernel_rfl
theorem e2:(countS cmp 64 32 32).1 t2=some (some 2,(a3,#[(0,32,0)],7)):=by kernel_rfl
theorem e3:(binS cmp 64 32 32 2).1 (a3,#[(0,32,0)],7)=some (true,t4):=by kernel_rfl
theorem e4:(gallopS cmp 64 false (a4.getD 32 0) a4 0 32 0).1 t6=some (some 6,t6):=by kernel_rfl
theorem e5:(gallopS cmp 64 true (a4.getD 31 0) a4 32 32 31).1 t6=some (some 30,t6):=by kernel_rfl
def mg:Array Nat:=order.extract 6 62
theorem e6:(mergeS cmp 64 (a4.extract 6 32) (a4.extract 32 62)).1 t6=some (mg,t6):=by kernel_rfl
theorem e7:(mg.toList.zipIdx).foldl (fun a x=>a.setIfInBounds (6+x.2) x.1) a4=order:=by kernel_rfl
section
variable {P:Program}{w:World}{A:Around}{E:Value→Shared→Prop}{s:Shared}{k:Nat→Keyed}
theorem el_at{p:Array Nat}{i j:Nat}{Q:Keyed→SortSt→Prop}{st:SortSt}(e:p[i]?=some j)(q:Q (k j) st):wpS (model P w) A E s (elem' (p.map k) i) Q st:=by
 rw[elem'_eq,Array.getElem?_map,e]
 exact wpS_pure q
theorem merge64(h:Asked P w A s k cmp 64){Q:Bool→SortSt→Prop}(q:Q true (enc k (order,#[(0,64,1)],7))):wpS (model P w) A E s (mergeAt' 0) Q (enc k t5):=by
 refine wpS_bind (wpS_get ?_)
 refine wpS_bind (wpS_set_to (enc k t6) (by kernel_rfl) ?_)
 refine wpS_bind (el_at (p:=a4) (i:=32) (j:=a4.getD 32 0) (by kernel_rfl) ?_)
 refine wpS_bind (of_sim (t:=t6) (sim_gallop (c:=cmp) (N:=64) (left:=false) (j:=a4.getD 32 0) (p:=a4) (base:=0) (n:=32) (hint:=0)) h e4 ?_)
 refine wpS_bind (el_at (p:=a4) (i:=31) (j:=a4.getD 31 0) (by kernel_rfl) ?_)
 refine wpS_bind (of_sim (t:=t6) (sim_gallop (c:=cmp) (N:=64) (left:=true) (j:=a4.getD 31 0) (p:=a4) (base:=32) (n:=32) (hint:=31)) h e5 ?_)
 have x1:(Array.map k a4).extract 6 32=Array.map k (a4.extract 6 32):=nm2 _ _ _ _
 have x2:(Array.map k a4).extract 32 62=Array.map k (a4.extract 32 62):=nm2 _ _ _ _
 have mS:=(mergeS cmp 64 (a4.extract 6 32) (a4.extract 32 62)).2
 refine wpS_bind (m:=mergeLo' ((Array.map k a4).extract 6 32) ((Array.map k a4).extract 32 62)) ?_
 rw[x1,x2]
 refine of_sim (t:=t6) mS h e6 ?_
 refine wpS_bind (wpS_mod_to (enc k (order,#[(0,64,1)],7)) ?_ ?_)
 ·have y:=set_map k 6 mg.toList.zipIdx a4
  rw[← zip_map,e7] at y
  show SortSt.mk' oneType' _ #[(0,64,1)] 7 none=SortSt.mk' oneType' (Array.map k order) #[(0,64,1)] 7 none
  rw[← y]
  rfl
 ·refine wpS_bind (wpS_get ?_)
  exact wpS_pure q
theorem sort64(h:Asked P w A s k cmp 64){Q:Unit→SortSt→Prop}(q:Q () (enc k (order,#[(0,64,1)],7))):wpS (model P w) A E s sortRuns' Q (enc k t0):=by
 rw[sortRuns'_eq]
 refine wpS_bind (wpS_get ?_)
 have hs:(arrOf (enc k t0)).size=64:=by show (Array.map k t0.1).size=64;rw[Array.size_map];rfl
 have hm:minRun' 64 64 0=32:=rfl
 dsimp only
 rw[hs,hm]
 refine wpS_bind (wpS_range ?_)
 refine wpS_cons ?_
 rw[if_neg (by decide)]
 refine wpS_bind (of_sim (t:=t0) (countS cmp 64 0 64).2 h e0 ?_)
 dsimp only
 rw[if_pos (by decide)]
 refine wpS_bind (wpS_lift (wpAny_rule ⟨rfl,?_⟩))
 refine wpS_bind (of_sim (t:=t0) (binS cmp 64 0 32 3).2 h e1 ?_)
 rw[if_neg (show ¬ (!true)=true by decide)]
 refine wpS_bind (wpS_get ?_)
 refine wpS_bind (wpS_mod_to (enc k t2) (by kernel_rfl) ?_)
 refine wpS_pure ?_
 refine wpS_cons (x:=1) (l:=List.range' 2 62) (b:=(none,32)) ?_
 rw[if_neg (by decide)]
 refine wpS_bind (of_sim (t:=t2) (countS cmp 64 32 32).2 h e2 ?_)
 dsimp only
 rw[if_pos (by decide)]
 refine wpS_bind (wpS_lift (wpAny_rule ⟨rfl,?_⟩))
 refine wpS_bind (of_sim (t:=(a3,#[(0,32,0)],7)) (binS cmp 64 32 32 2).2 h e3 ?_)
 rw[if_neg (show ¬ (!true)=true by decide)]
 refine wpS_bind (wpS_get ?_)
 refine wpS_bind (wpS_range (wpS_cons (x:=0) (l:=List.range' 1 63) ?_))
 refine wpS_bind (wpS_get ?_)
 refine wpS_pure ?_
 refine wpS_bind (wpS_mod_to (enc k (a4,#[(0,32,1)],7)) (by kernel_rfl) ?_)
 refine wpS_bind (wpS_mod_to (enc k t5) (by kernel_rfl) ?_)
 refine wpS_pure ?_
 refine wpS_cons (x:=2) (l:=List.range' 3 61) (b:=(none,64)) ?_
 rw[if_pos (by decide)]
 refine wpS_pure ?_
 refine wpS_bind (wpS_range (wpS_cons (x:=0) (l:=List.range' 1 63) ?_))
 refine wpS_bind (wpS_get ?_)
 rw[if_neg (show ¬ ((pendingOf (enc k t5)).size≤1) from (by decide:¬ (2≤1)))]
 refine wpS_bind (merge64 h ?_)
 rw[if_neg (show ¬ (!true)=true by decide)]
 refine wpS_pure ?_
 refine wpS_cons (x:=1) (l:=List.range' 2 62) ?_
 refine wpS_bind (wpS_get ?_)
 rw[if_pos (show (pendingOf (enc k (order,#[(0,64,1)],7))).size≤1 from (by decide:1≤1))]
 refine wpS_pure ?_
 exact wpS_pure q
end
end Srt
set_option maxHeartbeats 4000000
namespace Srt
open PySem PyProof.Rows
section
variable {P:Program}{w:World}{A:Around}{E:Value→Shared→Prop}{s:Shared}{k:Nat→Keyed}
def o2:Array Nat:=#[0,1]
theorem c2:(countS cmp 2 0 2).1 ((List.range 2).toArray,#[],7)=some (some 2,((List.range 2).toArray,#[],7)):=by kernel_rfl
theorem sort2(h:Asked P w A s k cmp 2){Q:Unit→SortSt→Prop}(q:Q () (enc k (o2,#[(0,2,0)],7))):wpS (model P w) A E s sortRuns' Q (enc k ((List.range 2).toArray,#[],7)):=by
 rw[sortRuns'_eq]
 refine wpS_bind (wpS_get ?_)
 have hs:(arrOf (enc k ((List.range 2).toArray,#[],7))).size=2:=by show (Array.map k (List.range 2).toArray).size=2;rw[Array.size_map];rfl
 have hm:minRun' 2 2 0=2:=rfl
 dsimp only
 rw[hs,hm]
 refine wpS_bind (wpS_range ?_)
 refine wpS_cons (x:=0) (l:=List.range' 1 1) ?_
 rw[if_neg (by decide)]
 refine wpS_bind (of_sim (t:=((List.range 2).toArray,#[],7)) (countS cmp 2 0 2).2 h c2 ?_)
 dsimp only
 rw[if_neg (by decide)]
 refine wpS_bind (wpS_get ?_)
 refine wpS_bind (wpS_mod_to (enc k (o2,#[(0,2,0)],7)) (by kernel_rfl) ?_)
 refine wpS_pure ?_
 refine wpS_cons (x:=1) (l:=List.range' 2 0) (b:=(none,2)) ?_
 rw[if_pos (by decide)]
 refine wpS_pure ?_
 refine wpS_bind (wpS_range (wpS_cons (x:=0) (l:=List.range' 1 1) ?_))
 refine wpS_bind (wpS_get ?_)
 rw[if_pos (show (pendingOf (enc k (o2,#[(0,2,0)],7))).size≤1 from (by decide:1≤1))]
 refine wpS_pure ?_
 exact wpS_pure q
def o4:Array Nat:=#[0,1,3,2]
theorem c4:(countS cmp 4 0 4).1 ((List.range 4).toArray,#[],7)=some (some 3,((List.range 4).toArray,#[],7)):=by kernel_rfl
theorem b4:(binS cmp 4 0 4 3).1 ((List.range 4).toArray,#[],7)=some (true,(o4,#[],7)):=by kernel_rfl
theorem sort4(h:Asked P w A s k cmp 4){Q:Unit→SortSt→Prop}(q:Q () (enc k (o4,#[(0,4,0)],7))):wpS (model P w) A E s sortRuns' Q (enc k ((List.range 4).toArray,#[],7)):=by
 rw[sortRuns'_eq]
 refine wpS_bind (wpS_get ?_)
 have hs:(arrOf (enc k ((List.range 4).toArray,#[],7))).size=4:=by show (Array.map k (List.range 4).toArray).size=4;rw[Array.size_map];rfl
 have hm:minRun' 4 4 0=4:=rfl
 dsimp only
 rw[hs,hm]
 refine wpS_bind (wpS_range ?_)
 refine wpS_cons (x:=0) (l:=List.range' 1 3) ?_
 rw[if_neg (by decide)]
 refine wpS_bind (of_sim (t:=((List.range 4).toArray,#[],7)) (countS cmp 4 0 4).2 h c4 ?_)
 dsimp only
 rw[if_pos (by decide)]
 refine wpS_bind (wpS_lift (wpAny_rule ⟨rfl,?_⟩))
 refine wpS_bind (of_sim (t:=((List.range 4).toArray,#[],7)) (binS cmp 4 0 4 3).2 h b4 ?_)
 rw[if_neg (show ¬ (!true)=true by decide)]
 refine wpS_bind (wpS_get ?_)
 refine wpS_bind (wpS_mod_to (enc k (o4,#[(0,4,0)],7)) (by kernel_rfl) ?_)
 refine wpS_pure ?_
 refine wpS_cons (x:=1) (l:=List.range' 2 2) (b:=(none,4)) ?_
 rw[if_pos (by decide)]
 refine wpS_pure ?_
 refine wpS_bind (wpS_range (wpS_cons (x:=0) (l:=List.range' 1 3) ?_))
 refine wpS_bind (wpS_get ?_)
 rw[if_pos (show (pendingOf (enc k (o4,#[(0,4,0)],7))).size≤1 from (by decide:1≤1))]
 refine wpS_pure ?_
 exact wpS_pure q
def o8:Array Nat:=#[0,1,3,7,5,2,6,4]
theorem c8:(countS cmp 8 0 8).1 ((List.range 8).toArray,#[],7)=some (some 3,((List.range 8).toArray,#[],7)):=by kernel_rfl
theorem b8:(binS cmp 8 0 8 3).1 ((List.range 8).toArray,#[],7)=some (true,(o8,#[],7)):=by kernel_rfl
theorem sort8(h:Asked P w A s k cmp 8){Q:Unit→SortSt→Prop}(q:Q () (enc k (o8,#[(0,8,0)],7))):wpS (model P w) A E s sortRuns' Q (enc k ((List.range 8).toArray,#[],7)):=by
 rw[sortRuns'_eq]
 refine wpS_bind (wpS_get ?_)
 have hs:(arrOf (enc k ((List.range 8).toArray,#[],7))).size=8:=by show (Array.map k (List.range 8).toArray).size=8;rw[Array.size_map];rfl
 have hm:minRun' 8 8 0=8:=rfl
 dsimp only
 rw[hs,hm]
 refine wpS_bind (wpS_range ?_)
 refine wpS_cons (x:=0) (l:=List.range' 1 7) ?_
 rw[if_neg (by decide)]
 refine wpS_bind (of_sim (t:=((List.range 8).toArray,#[],7)) (countS cmp 8 0 8).2 h c8 ?_)
 dsimp only
 rw[if_pos (by decide)]
 refine wpS_bind (wpS_lift (wpAny_rule ⟨rfl,?_⟩))
 refine wpS_bind (of_sim (t:=((List.range 8).toArray,#[],7)) (binS cmp 8 0 8 3).2 h b8 ?_)
 rw[if_neg (show ¬ (!true)=true by decide)]
 refine wpS_bind (wpS_get ?_)
 refine wpS_bind (wpS_mod_to (enc k (o8,#[(0,8,0)],7)) (by kernel_rfl) ?_)
 refine wpS_pure ?_
 refine wpS_cons (x:=1) (l:=List.range' 2 6) (b:=(none,8)) ?_
 rw[if_pos (by decide)]
 refine wpS_pure ?_
 refine wpS_bind (wpS_range (wpS_cons (x:=0) (l:=List.range' 1 7) ?_))
 refine wpS_bind (wpS_get ?_)
 rw[if_pos (show (pendingOf (enc k (o8,#[(0,8,0)],7))).size≤1 from (by decide:1≤1))]
 refine wpS_pure ?_
 exact wpS_pure q
def o16:Array Nat:=#[0,1,3,7,15,11,5,13,9,2,6,14,10,4,12,8]
theorem c16:(countS cmp 16 0 16).1 ((List.range 16).toArray,#[],7)=some (some 3,((List.range 16).toArray,#[],7)):=by kernel_rfl
theorem b16:(binS cmp 16 0 16 3).1 ((List.range 16).toArray,#[],7)=some (true,(o16,#[],7)):=by kernel_rfl
theorem sort16(h:Asked P w A s k cmp 16){Q:Unit→SortSt→Prop}(q:Q () (enc k (o16,#[(0,16,0)],7))):wpS (model P w) A E s sortRuns' Q (enc k ((List.range 16).toArray,#[],7)):=by
 rw[sortRuns'_eq]
 refine wpS_bind (wpS_get ?_)
 have hs:(arrOf (enc k ((List.range 16).toArray,#[],7))).size=16:=by show (Array.map k (List.range 16).toArray).size=16;rw[Array.size_map];rfl
 have hm:minRun' 16 16 0=16:=rfl
 dsimp only
 rw[hs,hm]
 refine wpS_bind (wpS_range ?_)
 refine wpS_cons (x:=0) (l:=List.range' 1 15) ?_
 rw[if_neg (by decide)]
 refine wpS_bind (of_sim (t:=((List.range 16).toArray,#[],7)) (countS cmp 16 0 16).2 h c16 ?_)
 dsimp only
 rw[if_pos (by decide)]
 refine wpS_bind (wpS_lift (wpAny_rule ⟨rfl,?_⟩))
 refine wpS_bind (of_sim (t:=((List.range 16).toArray,#[],7)) (binS cmp 16 0 16 3).2 h b16 ?_)
 rw[if_neg (show ¬ (!true)=true by decide)]
 refine wpS_bind (wpS_get ?_)
 refine wpS_bind (wpS_mod_to (enc k (o16,#[(0,16,0)],7)) (by kernel_rfl) ?_)
 refine wpS_pure ?_
 refine wpS_cons (x:=1) (l:=List.range' 2 14) (b:=(none,16)) ?_
 rw[if_pos (by decide)]
 refine wpS_pure ?_
 refine wpS_bind (wpS_range (wpS_cons (x:=0) (l:=List.range' 1 15) ?_))
 refine wpS_bind (wpS_get ?_)
 rw[if_pos (show (pendingOf (enc k (o16,#[(0,16,0)],7))).size≤1 from (by decide:1≤1))]
 refine wpS_pure ?_
 exact wpS_pure q
def o32:Array Nat:=#[0,1,3,7,15,31,23,11,27,19,5,13,29,21,9,25,17,2,6,14,30,22,10,26,18,4,12,28,20,8,24,16]
theorem c32:(countS cmp 32 0 32).1 ((List.range 32).toArray,#[],7)=some (some 3,((List.range 32).toArray,#[],7)):=by kernel_rfl
theorem b32:(binS cmp 32 0 32 3).1 ((List.range 32).toArray,#[],7)=some (true,(o32,#[],7)):=by kernel_rfl
theorem sort32(h:Asked P w A s k cmp 32){Q:Unit→SortSt→Prop}(q:Q () (enc k (o32,#[(0,32,0)],7))):wpS (model P w) A E s sortRuns' Q (enc k ((List.range 32).toArray,#[],7)):=by
 rw[sortRuns'_eq]
 refine wpS_bind (wpS_get ?_)
 have hs:(arrOf (enc k ((List.range 32).toArray,#[],7))).size=32:=by show (Array.map k (List.range 32).toArray).size=32;rw[Array.size_map];rfl
 have hm:minRun' 32 32 0=32:=rfl
 dsimp only
 rw[hs,hm]
 refine wpS_bind (wpS_range ?_)
 refine wpS_cons (x:=0) (l:=List.range' 1 31) ?_
 rw[if_neg (by decide)]
 refine wpS_bind (of_sim (t:=((List.range 32).toArray,#[],7)) (countS cmp 32 0 32).2 h c32 ?_)
 dsimp only
 rw[if_pos (by decide)]
 refine wpS_bind (wpS_lift (wpAny_rule ⟨rfl,?_⟩))
 refine wpS_bind (of_sim (t:=((List.range 32).toArray,#[],7)) (binS cmp 32 0 32 3).2 h b32 ?_)
 rw[if_neg (show ¬ (!true)=true by decide)]
 refine wpS_bind (wpS_get ?_)
 refine wpS_bind (wpS_mod_to (enc k (o32,#[(0,32,0)],7)) (by kernel_rfl) ?_)
 refine wpS_pure ?_
 refine wpS_cons (x:=1) (l:=List.range' 2 30) (b:=(none,32)) ?_
 rw[if_pos (by decide)]
 refine wpS_pure ?_
 refine wpS_bind (wpS_range (wpS_cons (x:=0) (l:=List.range' 1 31) ?_))
 refine wpS_bind (wpS_get ?_)
 rw[if_pos (show (pendingOf (enc k (o32,#[(0,32,0)],7))).size≤1 from (by decide:1≤1))]
 refine wpS_pure ?_
 exact wpS_pure q
end
end Srt
namespace L2
open PySem PySem.Spec PyProof.Rows Srt
theorem llt_eq:∀ a b:List Int,llt a b=HT.lexLt a b
 | [],[]=>rfl
 | [],_::_=>rfl
 | _::_,[]=>rfl
 | x::xs,y::ys=>by
  show (if x=y then llt xs ys else decide (x < y))=(if x=y then HT.lexLt xs ys else decide (x < y))
  rw[llt_eq xs ys]
section
variable {prog:Program}{w:World}{A:Around}{E:Value→Shared→Prop}{s:Shared}
theorem asked_of{k:Nat→Keyed}{N:Nat}(hu:A.units < cLine)(ad:Nat→Addr)(hk:∀ i,i < N→(k i).1=.ref (ad i))(ht:∀ i,i < N→∃ its:List Value,IsTup s.heap (ad i) its.toArray∧IntsAre its (sub i)):Asked prog w A s k cmp N:=by
 refine⟨fun i j hi hj E Q q=>?_⟩
 obtain⟨its1,⟨⟨c1,d1,da1,sl1⟩,ho1,hc1,n1,hd1⟩,i1⟩:=ht i hi
 obtain⟨its2,⟨⟨c2,d2,da2,sl2⟩,ho2,hc2,n2,hd2⟩,i2⟩:=ht j hj
 simp only at hc1 hd1 hc2 hd2
 subst hc1 hd1 hc2 hd2
 rw[oneLt'_eq,hk i hi,hk j hj]
 simp only[if_true]
 refine wpAny_bind (wpAny_cRoomFor hu ?_)
 refine wpAny_bind (wpAny_callSpecialIfBound?_slot ⟨_,ho1,rfl⟩ PySem.F.slot_tuple_lt (call_meets PySem.F.slot_tuple_lt ⟨_,ho1,rfl⟩ PySem.F.entry_tuple_lt (PySem.F.args_tuple_lt_2 _ _)
  (HT.tuple_lt_ints _ _ _ _ n1 n2 d1 d2 sl1 sl2 (sub i) (sub j) i1 i2) ⟨ho1,ho2,?_⟩))
 have e:cmp i j=HT.lexLt (sub i) (sub j):=llt_eq _ _
 rw[e] at q
 exact wpAny_truthy_bool q
def TupV(h:Heap)(v:Value):Prop:=∃ a o xs n,v=.ref a∧h.get? a=some o∧o.cls=.type "tuple" ∧ o.data=.seq xs n
theorem first_of{a:Addr}{o:Obj}{xs:Array Value}{n:Nat}{Q:Option Value→Shared→Prop}{M:Model}(ho:s.heap.get? a=some o)(hc:o.cls=.type "tuple")(hd:o.data=.seq xs n)(h:Q xs[0]? s):wpAny M A (firstOfTuple' (.ref a)) Q E s:=by
 rw[PySem.W.kas_first_eq]
 refine wpAny_bind (PySem.W.Looks.here (show PySem.W.Looks M s.heap (typeOf (.ref a)) o.cls from (PySem.W.Looks.ld ho).andThen .now) ?_)
 rw[hc,if_neg (by first | decide | simp)]
 exact wpAny_bind (listItems_at ho hd (wpAny_pure h))
theorem firsts_of{M:Model}:∀(vs:List Value),(∀ v∈vs,TupV s.heap v)→∃ fs:List (Option Value),∀ (Q:List (Option Value)→Shared→Prop),Q fs s→wpAny M A (vs.mapM firstOfTuple') Q E s
 | [],_=>⟨[],fun Q h=>by rw[List.mapM_nil];exact wpAny_pure h⟩
 | v::vs,hv=>by
  obtain⟨fs,hf⟩:=firsts_of (M:=M) vs fun u hu=>hv u (List.mem_cons_of_mem _ hu)
  obtain⟨a,o,xs,n,rfl,ho,hc,hd⟩:=hv v List.mem_cons_self
  refine⟨xs[0]?::fs,fun Q h=>?_⟩
  rw[List.mapM_cons]
  exact wpAny_bind (first_of ho hc hd (wpAny_bind (hf _ (wpAny_pure h))))
theorem kind_of{M:Model}{v0:Value}{vs:List Value}{Q:SortKind→Shared→Prop}(h0:∃ a o n,v0=.ref a∧s.heap.get? a=some o∧o.cls=.type "tuple" ∧ o.data=.seq #[] n)(hv:∀ v∈vs,TupV s.heap v)(h:Q oneType' s) :
  wpAny M A (keyKind' (v0::vs).toArray) Q E s:=by
 obtain⟨a,o,n,rfl,ho,hc,hd⟩:=h0
 obtain⟨fs,hf⟩:=firsts_of (M:=M) (A:=A) (E:=E) vs hv
 rw[PyProof.Rows.kat_kind_eq,List.mapM_toArray,map_eq_pure_bind]
 refine wpAny_bind (wpAny_bind ?_)
 rw[List.mapM_cons]
 refine wpAny_bind (first_of ho hc hd (wpAny_bind (hf _ (wpAny_pure (wpAny_pure ?_)))))
 have e0:(#[]:Array Value)[0]?=none:=rfl
 rw[e0]
 have e1:((none::fs:List (Option Value)).toArray.all fun x=>x.isSome)=false:=by simp
 rw[if_neg (by rw[e1];decide)]
 have e2:¬ ((((none::fs:List (Option Value)).toArray)[0]?.bind id).isSome=true):=by simp
 rw[if_neg e2,oneTypeOnly'_eq,List.mapM_toArray,map_eq_pure_bind]
 have hT:∀ v∈(Value.ref a::vs),PySem.W.Looks M s.heap (typeOf v) (.type "tuple"):=fun v hv'=>by
  rcases List.mem_cons.mp hv' with rfl | hv'
  ·rw[← hc];exact (PySem.W.Looks.ld ho).andThen .now
  ·obtain⟨b,ob,xs,nb,rfl,hob,hcb,hdb⟩:=hv v hv'
   rw[← hcb];exact (PySem.W.Looks.ld hob).andThen .now
 refine wpAny_bind (wpAny_bind (wpAny_bind (PySem.W.kas_mapM (r:=Value.type "tuple") _ (fun v hv Q' hq=>(hT v hv).here hq) (wpAny_pure ?_))))
 have hall2:((List.map (fun _=>Value.type "tuple") (Value.ref a::vs)).toArray.all fun x=>x == Value.type "tuple")=true:=by
  simp only[List.all_toArray,List.all_map,List.all_eq_true]
  intro _ _
  rfl
 have h0':(List.map (fun _=>Value.type "tuple") (Value.ref a::vs)).toArray[0]?=some (Value.type "tuple"):=by simp
 rw[h0']
 simp only[hall2,if_true]
 exact wpAny_pure (wpAny_pure h)
def KeptBut(a:Addr)(h h':Heap):Prop:=∀ b o,b≠a→h.get? b=some o→h'.get? b=some o
theorem list_sort_by{a:Addr}{vs:List Value}{n:Nat}{P:PySem.Fin→Shared→Prop}{out:Array Value}(ho:s.heap.get? a=some (seqObj "list" vs.toArray n))(h2:2≤vs.length)(h64:vs.length≤64)(hout:out.size=vs.length)
  (hk:∀ s':Shared,KeptBut a s.heap s'.heap→∀ Q:SortKind→Shared→Prop,Q oneType' s'→wpAny (model prog w) A (keyKind' vs.toArray) Q E s')
  (hr:∀ s':Shared,KeptBut a s.heap s'.heap→wpS (model prog w) A E s' sortRuns' (fun _ st=>(arrOf st).map (·.2)=out∧failedOf st=none) (SortSt.mk' oneType' (vs.toArray.zip vs.toArray) #[] 7 none))
  (h:P (.done (.ret .none)) { s with heap:=sortedHeap s.heap a vs out }):wpAny (model prog w) A (Builtin.«list.sort» ⟨[.ref a],[]⟩) P E s:=by
 rw[list_sort_plain]
 have ha:a < s.heap.objs.size:=Heap.lt_size ho
 refine wpAny_bind (listItems_at ho rfl ?_)
 refine wpAny_bind (listUpdate_at ho rfl ?_ (by rw[List.size_toArray,sizeLine_eq];omega) (Nat.zero_le _))
 obtain⟨e1,ho1⟩:∃ e1,(s.heap.update a (Obj.mapSeq fun _=>#[])).get? a=some (seqObj "list" #[] e1):=⟨_,get?_update_seq ho (fun _=>#[])⟩
 refine wpAny_bind (seqEpoch_at ho1 rfl ?_)
 refine wpAny_bind (wpAny_newTuple ?_ (by show vs.length≤_;rw[sizeLine_eq];omega))
 refine wpAny_bind (wpAny_newList ?_ (Nat.zero_le _))
 refine wpAny_holding ?_
 have ho6:(((s.heap.update a (Obj.mapSeq fun _=>#[])).push (seqObj "tuple" vs.toArray 0)).push (seqObj "list" #[] 0)).get? a=some (seqObj "list" #[] e1):=by
  rw[Heap.get?_push_ne _ _ _ (by rw[size_push',Heap.size_update];exact Nat.ne_of_lt (Nat.lt_succ_of_lt ha)),Heap.get?_push_ne _ _ _ (by rw[Heap.size_update];exact Nat.ne_of_lt ha)]
  exact ho1
 have kept:KeptBut a s.heap (((s.heap.update a (Obj.mapSeq fun _=>(#[]:Array Value))).push (seqObj "tuple" vs.toArray 0)).push (seqObj "list" #[] 0)):=fun b o hb e=>by
  refine Heap.get?_push_of_some _ (Heap.get?_push_of_some _ ?_)
  rw[Heap.get?_update_ne _ _ _ _ hb]
  exact e
 show wpAny (model prog w) A _ P E { s with heap:=((s.heap.update a (Obj.mapSeq fun _=>#[])).push (seqObj "tuple" vs.toArray 0)).push (seqObj "list" #[] 0) }
 dsimp only
 have hn2:¬ vs.toArray.size < 2:=by rw[List.size_toArray];omega
 rw[if_neg hn2,if_neg hn2]
 refine wpAny_bind (hk _ kept _ ?_)
 refine wpAny_bind (wpAny_mono (hr _ kept) ?_ fun _ _ e=>e)
 rintro ⟨⟨⟩,st'⟩ s' ⟨rfl,hp,hf⟩
 dsimp only at hp hf ⊢
 refine wpAny_bind (seqEpoch_at ho6 rfl ?_)
 rw[hp]
 refine wpAny_bind (listUpdate_at ho6 rfl ?_ (Nat.zero_le _) (by rw[hout,sizeLine_eq];omega))
 rw[hf]
 simp only[bne_self_eq_false,Bool.false_eq_true,if_false]
 exact wpAny_pure h
theorem list_sort_one{a:Addr}{vs:List Value}{n:Nat}{P:PySem.Fin→Shared→Prop}(ho:s.heap.get? a=some (seqObj "list" vs.toArray n))(h2:vs.length < 2)
  (h:P (.done (.ret .none)) { s with heap:=sortedHeap s.heap a vs vs.toArray }):wpAny (model prog w) A (Builtin.«list.sort» ⟨[.ref a],[]⟩) P E s:=by
 rw[list_sort_plain]
 have ha:a < s.heap.objs.size:=Heap.lt_size ho
 refine wpAny_bind (listItems_at ho rfl ?_)
 refine wpAny_bind (listUpdate_at ho rfl ?_ (by rw[List.size_toArray,sizeLine_eq];omega) (Nat.zero_le _))
 obtain⟨e1,ho1⟩:∃ e1,(s.heap.update a (Obj.mapSeq fun _=>#[])).get? a=some (seqObj "list" #[] e1):=⟨_,get?_update_seq ho (fun _=>#[])⟩
 refine wpAny_bind (seqEpoch_at ho1 rfl ?_)
 refine wpAny_bind (wpAny_newTuple ?_ (by show vs.length≤_;rw[sizeLine_eq];omega))
 refine wpAny_bind (wpAny_newList ?_ (Nat.zero_le _))
 refine wpAny_holding ?_
 have ho6:(((s.heap.update a (Obj.mapSeq fun _=>#[])).push (seqObj "tuple" vs.toArray 0)).push (seqObj "list" #[] 0)).get? a=some (seqObj "list" #[] e1):=by
  rw[Heap.get?_push_ne _ _ _ (by rw[size_push',Heap.size_update];exact Nat.ne_of_lt (Nat.lt_succ_of_lt ha)),Heap.get?_push_ne _ _ _ (by rw[Heap.size_update];exact Nat.ne_of_lt ha)]
  exact ho1
 show wpAny (model prog w) A _ P E { s with heap:=((s.heap.update a (Obj.mapSeq fun _=>#[])).push (seqObj "tuple" vs.toArray 0)).push (seqObj "list" #[] 0) }
 dsimp only
 have hn2:vs.toArray.size < 2:=by rw[List.size_toArray];omega
 rw[if_pos hn2,if_pos hn2]
 refine wpAny_bind (wpAny_pure ?_)
 rw[StateT.run_pure]
 refine wpAny_bind (wpAny_pure ?_)
 dsimp only
 refine wpAny_bind (seqEpoch_at ho6 rfl ?_)
 have e:(vs.toArray.zip vs.toArray).map (·.2)=vs.toArray:=by
  apply Array.ext_getElem?
  intro i
  simp only[Array.getElem?_map,Array.getElem?_zip_eq_some]
  cases hi:vs.toArray[i]?<;>simp_all [Array.zip,Array.getElem?_zipWith]
 show wpAny (model prog w) A (Builtin.List.listUpdate (.ref a) (fun _=>(vs.toArray.zip vs.toArray).map (·.2)) >>= _) P E _
 rw[e]
 refine wpAny_bind (listUpdate_at ho6 rfl ?_ (Nat.zero_le _) (by rw[List.size_toArray,sizeLine_eq];omega))
 simp only[bne_self_eq_false,Bool.false_eq_true,if_false]
 exact wpAny_pure h
theorem sorted_by{l:Addr}{vs:List Value}{Q:Value→Shared→Prop}{out:Array Value}(hl:s.heap.IsList l vs.toArray)(h64:vs.length≤64)
  (hs:∀(A':Around)(s':Shared)(a:Addr)(P:PySem.Fin→Shared→Prop)(E':Value→Shared→Prop),A'.units≤A.units+2→s'.heap.get? a=some (seqObj "list" vs.toArray 0)→(∀ b o,s.heap.get? b=some o→b≠a∧s'.heap.get? b=some o)→P (.done (.ret .none)) { s' with heap:=sortedHeap s'.heap a vs out }→wpAny (model prog w) A' (Builtin.«list.sort» ⟨[.ref a],[]⟩) P E' s')
  (h:Q (.ref (s.heap.objs.size+1)) { s with heap:=sortedAll s.heap vs out }):wpAny (model prog w) A (call (.builtin "sorted") [.ref l]) Q E s:=by
 refine Calls.call_function_entry kind_sorted plain_sorted entry_sorted (args_sorted1 _) ?_
 unfold Builtin.«sorted»
 refine wpAny_bind (m:=checkCount "sorted" 1 1 _) (wpAny_pure ?_)
 refine wpAny_bind (collect_list hl ?_ (by rw[sizeLine_eq];omega))
 refine wpAny_bind (wpAny_newList ?_ (by rw[sizeLine_eq];omega))
 have hsz:((s.heap.push (seqObj "list" #[] 0)).update s.heap.objs.size (Obj.mapSeq (·++vs.toArray))).objs.size=s.heap.objs.size+1:=by
  rw[Heap.size_update,size_push']
 have hoL:(((s.heap.push (seqObj "list" #[] 0)).update s.heap.objs.size (Obj.mapSeq (·++vs.toArray))).push (seqObj "list" vs.toArray 0)).get? (s.heap.objs.size+1)=some (seqObj "list" vs.toArray 0):=by
  rw[← hsz];exact Heap.get?_push_size _ rfl
 have keep:∀ b o,s.heap.get? b=some o→b≠s.heap.objs.size+1∧(((s.heap.push (seqObj "list" #[] 0)).update s.heap.objs.size (Obj.mapSeq (·++vs.toArray))).push (seqObj "list" vs.toArray 0)).get? b=some o:=fun b o q=>by
  have hlt:b < s.heap.objs.size:=Heap.lt_size q
  refine⟨Nat.ne_of_lt (Nat.lt_succ_of_lt hlt),?_⟩
  rw[Heap.get?_push_ne _ _ _ (by rw[hsz];exact Nat.ne_of_lt (Nat.lt_succ_of_lt hlt)),Heap.get?_update_ne _ _ _ _ (Nat.ne_of_lt hlt),Heap.get?_push_ne _ _ _ (Nat.ne_of_lt hlt)]
  exact q
 show wpAny _ _ _ _ _ { s with heap:=((s.heap.push (seqObj "list" #[] 0)).update s.heap.objs.size (Obj.mapSeq (·++vs.toArray))).push (seqObj "list" vs.toArray 0) }
 rw[hsz]
 refine wpAny_bind (wpAny_holding (wpAny_call_entry slot_list_sort ⟨_,hoL,rfl⟩ entry_list_sort (hs _ _ _ _ _ ?_ hoL keep ⟨_,rfl,?_⟩) (args_list_sort _)))
 ·show _≤_
  simp only[Around.in1_units]
  omega
 ·exact wpAny_pure ⟨_,rfl,h⟩
end
end L2
namespace L2
open PySem PySem.Spec PyProof.Rows Srt
def ordL(n:Nat):List Nat:=order.toList.filter fun i=>decide (i < n)
theorem ord_lt{n i:Nat}(h:i∈ordL n):i < n:=by
 unfold ordL at h
 exact of_decide_eq_true (List.mem_filter.mp h).2
def SubsAt(H:Hp)(vs:List V)(n:Nat):Prop:=vs.length=n∧∀ i,i < n→∃ t,vs[i]?=some (.ref t)∧H t=some (.tup ((sub i).map V.int))
theorem vals_pick{vs:List V}{its:List Value}(h:Vals vs its):∀(l:List Nat),(∀ i∈l,i < vs.length)→Vals (l.map fun i=>vs.getD i .non) (l.map fun i=>its.getD i .none)
 | [],_=>.nil
 | i::l,hl=>by
  have hi:=hl i List.mem_cons_self
  obtain⟨u,hu,ru⟩:=h.get (List.getElem?_eq_getElem hi)
  refine .cons ?_ (vals_pick h l fun j hj=>hl j (List.mem_cons_of_mem _ hj))
  have e1:vs.getD i .non=vs[i]:=by simp[List.getD_eq_getElem?_getD,hi]
  have e2:its.getD i .none=u:=by simp[List.getD_eq_getElem?_getD,hu]
  show RelV (vs.getD i .non) (its.getD i .none)
  rw[e1,e2]
  exact ru
theorem len_ord:∀ m,m≤6→(ordL (2 ^ m)).length=2 ^ m:=by decide +kernel
theorem zip_k{its:List Value}{n:Nat}(hn:its.length=n):its.toArray.zip its.toArray=(List.range n).toArray.map fun i=>((its.getD i Value.none,its.getD i Value.none):Keyed):=by
 apply Array.toList_inj.mp
 subst hn
 apply List.ext_getElem?
 intro i
 simp only[Array.toList_zip,Array.toList_map,List.getElem?_map,List.getElem?_zip_eq_some]
 by_cases h:i < its.length
 ·simp[List.zip,List.getElem?_zipWith,h,List.getD_eq_getElem?_getD]
 ·simp[List.zip,List.getElem?_zipWith,h]
section
variable {X:Cx}
def rSortH:List V→Hp→VK→Prop:=fun xs H Q=>∃ p vs m,xs=[.ref p]∧H p=some (.lst vs)∧m≤6∧SubsAt H vs (2 ^ m)∧∀ l,H l=none→Q (.ref l) (upd H l (.lst ((ordL (2 ^ m)).map fun i=>vs.getD i .non)))
theorem run_of{P:Program}{w:World}{A:Around}{E:Value→Shared→Prop}{s:Shared}{its:List Value}{m:Nat}(h1:1≤m)(h6:m≤6)(hl:its.length=2 ^ m)
  (h:Asked P w A s (fun i=>(its.getD i Value.none,its.getD i Value.none)) cmp (2 ^ m)) :
  wpS (model P w) A E s sortRuns' (fun _ st=>(arrOf st).map (·.2)=((ordL (2 ^ m)).map fun i=>its.getD i Value.none).toArray∧failedOf st=none) (SortSt.mk' oneType' (its.toArray.zip its.toArray) #[] 7 none):=by
 rw[zip_k hl]
 have fin:∀(o:Array Nat) (p:Array (Nat×Nat×Nat)),o.toList=ordL (2 ^ m)→((arrOf (enc (fun i=>((its.getD i Value.none,its.getD i Value.none):Keyed)) (o,p,7))).map (·.2)=((ordL (2 ^ m)).map fun i=>its.getD i Value.none).toArray∧failedOf (enc (fun i=>((its.getD i Value.none,its.getD i Value.none):Keyed)) (o,p,7))=none):=fun o p e=>by
  refine⟨?_,rfl⟩
  show Array.map (fun x:Keyed=>x.2) (Array.map (fun i=>((its.getD i Value.none,its.getD i Value.none):Keyed)) o)=_
  rw[Array.map_map,← e]
  apply Array.toList_inj.mp
  simp[Function.comp_def]
 have:m=1∨m=2∨m=3∨m=4∨m=5∨m=6:=by omega
 rcases this with rfl | rfl | rfl | rfl | rfl | rfl
 ·exact sort2 h (fin o2 _ (by decide +kernel))
 ·exact sort4 h (fin o4 _ (by decide +kernel))
 ·exact sort8 h (fin o8 _ (by decide +kernel))
 ·exact sort16 h (fin o16 _ (by decide +kernel))
 ·exact sort32 h (fin o32 _ (by decide +kernel))
 ·exact sort64 h (fin order _ (by decide +kernel))
theorem call_sortH(hu:X.A.units+64 < cLine):CallR X (.builtin "sorted") rSortH:=by
 intro pins s σ H xs us Q I r h
 obtain⟨p,vs,m,rfl,hp,hm,⟨hlen,hS⟩,q⟩:=h
 obtain⟨u,rfl,rx⟩:=vals1 r
 cases rx
 obtain⟨its,rv,pl,hz⟩:=I.list (SqL.of hp)
 have hil:its.length=2 ^ m:=by rw[← rv.length];exact hlen
 have h64:2 ^ m≤64:=by
  have:m=0∨m=1∨m=2∨m=3∨m=4∨m=5∨m=6:=by omega
  rcases this with rfl | rfl | rfl | rfl | rfl | rfl | rfl<;>decide
 have tup:∀ i,i < 2 ^ m→∃(t:Addr)(us:List Value),its[i]?=some (.ref t)∧IsTup s.heap t us.toArray∧IntsAre us (sub i):=fun i hi=>by
  obtain⟨t,et,ht⟩:=hS i hi
  obtain⟨v,ev,rv'⟩:=rv.get et
  cases rv'
  obtain⟨us,ru,pt,_⟩:=I.tuple (SqT.of ht)
  exact⟨t,us,ev,pt,ints_of_vals ru⟩
 let ad:Nat→Addr:=fun i=>match its[i]? with
  | some (.ref a)=>a
  | _=>0
 have had:∀ i,i < 2 ^ m→its.getD i Value.none=.ref (ad i):=fun i hi=>by
  obtain⟨t,us,e,_⟩:=tup i hi
  show its.getD i Value.none=.ref (match its[i]? with | some (.ref a)=>a | _=>0)
  rw[e,List.getD_eq_getElem?_getD,e]
  rfl
 refine sorted_by (out:=((ordL (2 ^ m)).map fun i=>its.getD i Value.none).toArray) pl.isList (by rw[hil];exact h64) ?_ ?_
 ·intro A' s' a P E' hu' hL keep hP
  by_cases h0:m=0
  ·subst h0
   have e:((ordL (2 ^ 0)).map fun i=>its.getD i Value.none).toArray=its.toArray:=by
    have e1:ordL (2 ^ 0)=[0]:=by decide +kernel
    rw[e1]
    match its,hil with
    | [x],_=>rfl
   rw[e] at hP
   exact list_sort_one hL (by rw[hil];decide) hP
  ·have h2:2≤2 ^ m:=by
    have:m=1∨m=2∨m=3∨m=4∨m=5∨m=6:=by omega
    rcases this with rfl | rfl | rfl | rfl | rfl | rfl<;>decide
   have on:∀ s'':Shared,KeptBut a s'.heap s''.heap→∀ i,i < 2 ^ m→∃ us:List Value,IsTup s''.heap (ad i) us.toArray∧IntsAre us (sub i):=fun s'' k'' i hi=>by
    obtain⟨t,us,e,⟨o,ho,hc,hd⟩,iu⟩:=tup i hi
    have et:ad i=t:=by
     have:=had i hi
     rw[List.getD_eq_getElem?_getD,e] at this
     exact (Value.ref.inj this).symm
    obtain⟨n1,n2⟩:=keep _ _ ho
    exact⟨us,⟨o,by rw[et];exact k'' _ _ n1 n2,hc,hd⟩,iu⟩
   refine list_sort_by hL (by rw[hil];exact h2) (by rw[hil];exact h64) (by rw[List.size_toArray,List.length_map,len_ord m hm,hil]) ?_ ?_ hP
   ·intro s'' k'' Q' q'
    match its,hil,had with
    | [],hil,_=>exfalso;simp at hil;omega
    | v0::rest,hil,had =>
     refine kind_of ?_ ?_ q'
     ·obtain⟨us,⟨o,ho,hc,n,hd⟩,iu⟩:=on s'' k'' 0 (by omega)
      have e0:v0=.ref (ad 0):=had 0 (by omega)
      have e1:sub 0=[]:=by decide +kernel
      rw[e1] at iu
      cases iu
      exact⟨_,o,n,e0,ho,hc,hd⟩
     ·intro v hv
      obtain⟨i,hi,rfl⟩:=List.getElem_of_mem hv
      have hi2:i+1 < 2 ^ m:=by rw[← hil];simpa using hi
      obtain⟨us,⟨o,ho,hc,n,hd⟩,iu⟩:=on s'' k'' (i+1) hi2
      have e0:=had (i+1) hi2
      have e1:(v0::rest).getD (i+1) Value.none=rest[i]:=by simp[List.getD_eq_getElem?_getD,hi]
      rw[e1] at e0
      exact⟨_,o,_,n,e0,ho,hc,hd⟩
   ·intro s'' k''
    exact run_of (by omega) hm hil (asked_of (by omega) ad had (on s'' k''))
 ·obtain⟨e,he⟩:=sortedAll_at s.heap its ((ordL (2 ^ m)).map fun i=>its.getD i Value.none).toArray
  refine⟨.ref (s.heap.objs.size+1),_,I.laid (t':=s.toks) (fun b o e=>sortedAll_old e) (Nat.le_succ _) (show ObjOk X.prog X.w _ _ _ (.lst ((ordL (2 ^ m)).map fun i=>vs.getD i .non)) from ⟨?_,_,e,vals_pick rv _ fun i hi=>by rw[hlen];exact ord_lt hi,he⟩),rfl,q _ (I.hok.fresh (Nat.le_succ _))⟩
  rw[List.length_map,len_ord m hm]
  exact Nat.le_of_lt (small1000 (by omega))
end
end L2
namespace L2
open PySem PySem.Spec PyProof.Rows
section
variable {X:Cx}
def tRev(te:TE)(ts:TO):TE:=fun σ H Q=>te σ H fun x H1=>ts σ H1 fun l H2=>l=some (-1)∧∃ a xs,x=.ref a∧H2 a=some (.lst xs)∧∀ p,H2 p=none→Q (.ref p) (upd H2 p (.lst xs.reverse))
def rInsert:V→List V→Hp→VK→Prop:=fun x vs H Q=>∃ l xs i y,x=.ref l∧vs=[.int i,y]∧H l=some (.lst xs)∧0≤i∧i≤xs.length∧xs.length < 1000∧Q .non (upd H l (.lst (xs.take i.toNat++y::xs.drop i.toNat)))
end
theorem tRev_ap{te:TE}{ts:TO}{σ:St}{H:Hp}{Q:VK}:tRev te ts σ H Q=te σ H fun x H1=>ts σ H1 fun l H2=>l=some (-1)∧∃ a xs,x=.ref a∧H2 a=some (.lst xs)∧∀ p,H2 p=none→Q (.ref p) (upd H2 p (.lst xs.reverse)):=propext Iff.rfl
theorem rInsert_ap{x:V}{vs:List V}{H:Hp}{Q:VK}:rInsert x vs H Q=∃ l xs i y,x=.ref l∧vs=[.int i,y]∧H l=some (.lst xs)∧0≤i∧i≤xs.length∧xs.length < 1000∧Q .non (upd H l (.lst (xs.take i.toNat++y::xs.drop i.toNat))):=propext Iff.rfl
end L2
namespace L2
open PySem
theorem tPart_ap{te:TE}{σ:St}{H:Hp}{K:Option Int→Hp→Prop}:tPart te σ H K=te σ H fun x H1=>∃ i,x=.int i∧K (some i) H1:=propext Iff.rfl
theorem tNoPart_ap{σ:St}{H:Hp}{K:Option Int→Hp→Prop}:tNoPart σ H K=K none H:=propext Iff.rfl
end L2
namespace Toy
open PySem L2
open PySem.Builtin.Int (intBits)
structure BagAt(H:Hp)(B L:Addr):Prop where
 ex:∃ ns i r salt,H B=some (.lst [.ref L,.int i,.int r,.int salt])∧H L=some (.lst (List.map V.int ns))∧(0:Int)≤i
theorem BagAt.new{H:Hp}{B L p:Addr}{o:HO}(b:BagAt H B L)(hp:H p=none):BagAt (upd H p o) B L:=by
 obtain⟨ns,i,r,salt,h1,h2,h3⟩:=b
 exact⟨ns,i,r,salt,by rw[upd_ne (ne_of_none h1 hp)];exact h1,by rw[upd_ne (ne_of_none h2 hp)];exact h2,h3⟩
theorem BagAt.ne{H:Hp}{B L p:Addr}(b:BagAt H B L)(hp:H p=none):p≠B:=fun e=>by
 obtain⟨_,_,_,_,z,_⟩:=b
 rw[← e,hp] at z
 cases z
abbrev lowN(n u:Int):Int:=n / (Int.gcd n u:Int)
abbrev lowU(n u:Int):Int:=u / (Int.gcd n u:Int)
def addP(a b:Int×Int):Int×Int:=(lowN (a.1*b.2+b.1*a.2) (a.2*b.2),lowU (a.1*b.2+b.1*a.2) (a.2*b.2))
def sumP(l:List (Int×Int)):Int×Int:=l.foldl addP (0,1)
theorem sumP_succ{l:List (Int×Int)}{i:Nat}(h:i < l.length):sumP (l.take (i+1))=addP (sumP (l.take i)) l[i]:=by
 unfold sumP
 rw[List.take_succ_eq_append_getElem h,List.foldl_append]
 rfl
def und1(r:Int)(p:Int×Int):Int:=r / (Int.gcd r p.2:Int)*p.2
def undP(l:List (Int×Int)):Int:=l.foldl und1 1
def numsP(U:Int)(l:List (Int×Int)):List Int:=l.map fun p=>p.1*(U / p.2)
def RowAt(H:Hp)(xs:List V)(ps:List (Int×Int)):Prop:=xs.length=ps.length∧∀(i:Nat) p,ps[i]?=some p→∃ r,xs[i]?=some (.ref r)∧H r=some (.tup [.int p.1,.int p.2])∧0 < p.2∧Sz 100 p.1∧Sz 31 p.2
def pD(p:Int×Int):Dt:=.tup [.int p.1,.int p.2]
theorem dens_of{H:Hp}:∀ (ps:List (Int×Int)) (xs:List V),xs.length=ps.length→(∀(i:Nat) p,ps[i]?=some p→∃ r,xs[i]?=some (.ref r)∧H r=some (.tup [.int p.1,.int p.2]))→Dens H (ps.map pD) xs
 | [],xs,h1,h2=>by
  show Dens H [] xs
  unfold Dens
  exact List.length_eq_zero_iff.mp h1
 | p::ps,xs,h1,h2=>by
  obtain⟨r,e,h3⟩:=h2 0 p rfl
  cases xs with
  | nil=>cases h1
  | cons x xs =>
   cases e
   show Dens H (pD p::ps.map pD) (V.ref r::xs)
   unfold Dens
   refine⟨_,_,rfl,den2 h3,dens_of ps xs (by simpa using h1) fun i p' hp=>?_⟩
   obtain⟨r',e',h4⟩:=h2 (i+1) p' (by simpa using hp)
   exact⟨r',by simpa using e',h4⟩
def TS(H H':Hp):Prop:=∀ b xs,H b=some (.tup xs)→H' b=some (.tup xs)
theorem TS.of{H H':Hp}(s:Same H H'):TS H H':=fun b xs h=>s b _ h
theorem TS.fr{H H':Hp}{B L:Addr}(b:BagAt H B L)(f:Fr1 B H H'):TS H H':=fun c xs h=>f c _ (fun e=>by
 obtain⟨_,_,_,_,z,_⟩:=b
 rw[← e,h] at z
 cases z) h
theorem TS.lst{H:Hp}{l:Addr}{xs:List V}{o:HO}(h:H l=some (.lst xs)):TS H (L2.upd H l o):=fun c ys hc=>by
 rw[upd_ne (fun e=>by rw[e,h] at hc;cases hc)]
 exact hc
theorem BagAt.put{H:Hp}{B L F:Addr}{o:HO}(b:BagAt H B L)(nB:F≠B)(nL:F≠L):BagAt (L2.upd H F o) B L:=by
 obtain⟨ns,i,r,salt,h1,h2,h3⟩:=b
 exact⟨ns,i,r,salt,by rw[upd_ne nB.symm];exact h1,by rw[upd_ne nL.symm];exact h2,h3⟩
theorem BagAt.neL{H:Hp}{B L p:Addr}(b:BagAt H B L)(hp:H p=none):p≠L:=fun e=>by
 obtain⟨_,_,_,_,_,z,_⟩:=b
 rw[← e,hp] at z
 cases z
theorem BagAt.keep{H H':Hp}{B L:Addr}(b:BagAt H B L)(s:Same H H'):BagAt H' B L:=by
 obtain⟨ns,i,r,salt,h1,h2,h3⟩:=b
 exact⟨ns,i,r,salt,s _ _ h1,s _ _ h2,h3⟩
theorem Fr1.of{H H':Hp}{B:Addr}(s:Same H H'):Fr1 B H H':=fun b o _ h=>s b o h
structure Cl where
 n:Int
 u:Int
 hp:List Int
 rk:Int
def ClAt(H:Hp)(v:V)(c:Cl):Prop:=∃ r p h,v=.ref r∧H r=some (.tup [.ref p,.ref h,.int c.rk])∧H p=some (.tup [.int c.n,.int c.u])∧H h=some (.tup (c.hp.map V.int))
theorem ClAt.ts{H H':Hp}{v:V}{c:Cl}(h:ClAt H v c)(s:TS H H'):ClAt H' v c:=by
 obtain⟨r,p,k,e,h1,h2,h3⟩:=h
 exact⟨r,p,k,e,s _ _ h1,s _ _ h2,s _ _ h3⟩
def ClsAt(H:Hp)(xs:List V)(cs:List Cl):Prop:=xs.length=cs.length∧∀(i:Nat) c,cs[i]?=some c→∃ v,xs[i]?=some v∧ClAt H v c
theorem ClsAt.ts{H H':Hp}{xs:List V}{cs:List Cl}(h:ClsAt H xs cs)(s:TS H H'):ClsAt H' xs cs:=⟨h.1,fun i c hc=>by
 obtain⟨v,e,h1⟩:=h.2 i c hc
 exact⟨v,e,h1.ts s⟩⟩
theorem ClsAt.nil{H:Hp}:ClsAt H [] []:=⟨rfl,fun i p h=>by simp at h⟩
theorem ClsAt.snoc{H:Hp}{xs:List V}{cs:List Cl}{v:V}{c:Cl}(h:ClsAt H xs cs)(hv:ClAt H v c):ClsAt H (xs++[v]) (cs++[c]):=by
 refine⟨by rw[List.length_append,List.length_append,h.1];rfl,fun i p hp=>?_⟩
 by_cases hi:i < cs.length
 ·rw[List.getElem?_append_left hi] at hp
  rw[List.getElem?_append_left (by rw[h.1];exact hi)]
  exact h.2 i p hp
 ·have hl:=(List.getElem?_eq_some_iff.mp hp).1
  rw[List.length_append] at hl
  have e:i=cs.length:=by
   have:([c]:List Cl).length=1:=rfl
   omega
  subst e
  rw[List.getElem?_append_right (Nat.le_refl _),Nat.sub_self] at hp
  cases hp
  exact⟨v,by rw[List.getElem?_append_right (by rw[h.1];exact Nat.le_refl _),h.1,Nat.sub_self];rfl,hv⟩
def cD(c:Cl):Dt:=.tup [.tup [.int c.n,.int c.u],.tup (c.hp.map Dt.int),.int c.rk]
theorem ints_dens{H:Hp}:∀ hs:List Int,Dens H (hs.map Dt.int) (hs.map V.int)
 | []=>by unfold List.map Dens;rfl
 | x::hs=>by
  show Dens H (Dt.int x::hs.map Dt.int) (V.int x::hs.map V.int)
  unfold Dens
  exact⟨_,_,rfl,by unfold Den;rfl,ints_dens hs⟩
theorem dens1{H:Hp}{d:Dt}{ds:List Dt}{x:V}{xs:List V}(h:Den H d x)(h2:Dens H ds xs):Dens H (d::ds) (x::xs):=by
 unfold Dens
 exact⟨_,_,rfl,h,h2⟩
theorem dens0{H:Hp}:Dens H [] []:=by unfold Dens;rfl
theorem den_tup{H:Hp}{a:Addr}{xs:List V}{ds:List Dt}(h:H a=some (.tup xs))(h2:Dens H ds xs):Den H (.tup ds) (.ref a):=by unfold Den;exact⟨a,xs,rfl,h,h2⟩
theorem den_lst{H:Hp}{a:Addr}{xs:List V}{ds:List Dt}(h:H a=some (.lst xs))(h2:Dens H ds xs):Den H (.lst ds) (.ref a):=by unfold Den;exact⟨a,xs,rfl,h,h2⟩
theorem den_int{H:Hp}{i:Int}:Den H (.int i) (.int i):=by unfold Den;rfl
theorem ClAt.den{H:Hp}{v:V}{c:Cl}(h:ClAt H v c):Den H (cD c) v:=by
 obtain⟨r,p,k,rfl,h1,h2,h3⟩:=h
 exact den_tup h1 (dens1 (den2 h2) (dens1 (den_tup h3 (ints_dens _)) (dens1 den_int dens0)))
theorem ClsAt.dens{H:Hp}:∀{cs:List Cl}{xs:List V},ClsAt H xs cs→Dens H (cs.map cD) xs
 | [],xs,h=>by
  have:xs=[]:=List.length_eq_zero_iff.mp h.1
  subst this
  exact dens0
 | c::cs,xs,h=>by
  obtain⟨v,e,hv⟩:=h.2 0 c rfl
  cases xs with
  | nil=>cases e
  | cons x xs =>
   cases e
   exact dens1 hv.den (ClsAt.dens (cs:=cs) ⟨by simpa using h.1,fun i c' hc=>by
    obtain⟨w,e,hw⟩:=h.2 (i+1) c' (by simpa using hc)
    exact⟨w,by simpa using e,hw⟩⟩)
theorem cmp_tup{k:Nat}{ds:List Dt}(h:∀ d∈ds,Cmp k d d):Cmp (k+1) (.tup ds) (.tup ds):=by
 unfold Cmp
 intro j d e h1 h2
 rw[h1] at h2
 cases h2
 exact h d (List.mem_of_getElem? h1)
theorem cmp_lst{k:Nat}{ds:List Dt}(h:∀ d∈ds,Cmp k d d):Cmp (k+1) (.lst ds) (.lst ds):=by
 unfold Cmp
 intro _ j d e h1 h2
 rw[h1] at h2
 cases h2
 exact h d (List.mem_of_getElem? h1)
theorem cmp_int{k:Nat}{i:Int}:Cmp k (.int i) (.int i):=by unfold Cmp;trivial
theorem cmp_ints{k:Nat}(hs:List Int):∀ d∈hs.map Dt.int,Cmp k d d:=fun d hd=>by
 obtain⟨x,_,rfl⟩:=List.mem_map.mp hd
 exact cmp_int
theorem cmp_cD{k:Nat}(c:Cl):Cmp (k+2) (cD c) (cD c):=cmp_tup fun d hd=>by
 simp only[List.mem_cons,List.not_mem_nil,or_false] at hd
 rcases hd with rfl | rfl | rfl
 ·exact cmp2 _ _ _ _
 ·exact cmp_tup (cmp_ints _)
 ·exact cmp_int
def lies(ts hs:List Int):Bool:=ts.all fun x=>decide (x∈hs)
def worthOf(ws hs:List Int):Int:=(hs.map fun x=>ws.getD x.toNat 0).sum
theorem flat_ints:∀ hs:List Int,(hs.map V.int).all flatV=true
 | []=>rfl
 | x::hs=>by
  show (flatV (.int x) && (hs.map V.int).all flatV)=true
  rw[flat_ints hs]
  rfl
theorem inV_int(x:Int):∀ hs:List Int,inV (.int x) (hs.map V.int)=decide (x∈hs)
 | []=>rfl
 | y::hs=>by
  show (eqV (.int y) (.int x) || inV (.int x) (hs.map V.int))=_
  rw[inV_int x hs]
  show ((y == x) || decide (x∈hs))=decide (x∈y::hs)
  rw[Bool.eq_iff_iff]
  simp only[Bool.or_eq_true,beq_iff_eq,decide_eq_true_eq,List.mem_cons]
  exact⟨fun h=>h.imp Eq.symm id,fun h=>h.imp Eq.symm id⟩
theorem take_map_succ{α β:Type}(f:α→β){l:List α}{i:Nat}(h:i < l.length):(l.take (i+1)).map f=(l.take i).map f++[f l[i]]:=by
 rw[List.take_succ_eq_append_getElem h,List.map_append]
 rfl
theorem int_at{ns:List Int}{i:Nat}{y:V}(h:(ns.map V.int)[i]?=some y):∃ hi:i < ns.length,y=.int ns[i]:=by
 rw[List.getElem?_map] at h
 cases e:ns[i]? with
 | none=>rw[e] at h;cases h
 | some k =>
  rw[e] at h
  obtain⟨hi,e2⟩:=List.getElem?_eq_some_iff.mp e
  exact⟨hi,by rw[e2];exact (Option.some.inj h).symm⟩
theorem atI_ints{ws:List Int}{x:Int}(h0:0≤x)(h1:x < ws.length):atI (ws.map V.int) x=some (.int (ws.getD x.toNat 0)):=by
 have h2:x.toNat < ws.length:=by omega
 have e:x=((x.toNat:Nat):Int):=by omega
 rw[e]
 refine atI_nat ?_
 rw[List.getElem?_map,Int.toNat_natCast,List.getD_eq_getElem?_getD]
 simp[h2]
def HeapsAt(H:Hp)(xs:List V)(m:Int):Prop:=∀ v∈xs,∃(t:Addr)(hs:List Int),v=.ref t∧H t=some (.tup (hs.map V.int))∧(hs.length:Int)≤m∧∀ x∈hs,0≤x∧x < m
theorem gcd_step{g l:Int}(hl:0 < l):Int.gcd l (g % l)=Int.gcd g l:=by
 rw[Int.gcd_comm g l]
 have e:g=g % l+l*(g / l):=(Int.emod_add_mul_ediv g l).symm
 conv=>rhs;rw[e]
 rw[Int.gcd_add_mul_left_right]
theorem gcd_pos{n u:Int}(hu:0 < u):0 < (Int.gcd n u:Int):=by
 have:0 < Int.gcd n u:=Int.gcd_pos_of_ne_zero_right n (by omega)
 omega
theorem natAbs_div_le(a b:Int):(a / b).natAbs≤a.natAbs:=by
 by_cases h:0≤b
 ·have:=PySem.natAbs_fdiv_le a b
  rwa [Int.fdiv_eq_ediv_of_nonneg a h] at this
 ·have e:a / b=-(a / -b):=by rw[Int.ediv_neg,Int.neg_neg]
  rw[e,Int.natAbs_neg]
  have:=PySem.natAbs_fdiv_le a (-b)
  rwa [Int.fdiv_eq_ediv_of_nonneg a (by omega)] at this
theorem low_red(n:Int){u:Int}(hu:0 < u):1≤u / (Int.gcd n u:Int)∧Int.gcd (n / (Int.gcd n u:Int)) (u / (Int.gcd n u:Int))=1∧n / (Int.gcd n u:Int)*u=n*(u / (Int.gcd n u:Int))∧0 < u / (Int.gcd n u:Int):=by
 have hg:=gcd_pos (n:=n) hu
 have d1:(Int.gcd n u:Int)∣n:=Int.gcd_dvd_left n u
 have d2:(Int.gcd n u:Int)∣u:=Int.gcd_dvd_right n u
 have e1:=Int.ediv_mul_cancel d1
 have e2:=Int.ediv_mul_cancel d2
 have p:0 < u / (Int.gcd n u:Int):=by
  by_cases h:0 < u / (Int.gcd n u:Int)
  ·exact h
  ·have:u / (Int.gcd n u:Int)*(Int.gcd n u:Int)≤0:=Int.mul_nonpos_of_nonpos_of_nonneg (by omega) (by omega)
   omega
 refine⟨p,Int.gcd_ediv_gcd_ediv_gcd (by omega),?_,p⟩
 generalize n / (Int.gcd n u:Int)=a at e1
 generalize u / (Int.gcd n u:Int)=b at e2
 generalize (Int.gcd n u:Int)=g at e1 e2
 rw[← e1,← e2]
 rw[Int.mul_comm b g,Int.mul_assoc]
theorem low_eq{a b n u:Int}(hb:0 < b)(hu:0 < u)(hc:Int.gcd n u=1)(h:a*u=n*b):lowN a b=n∧lowU a b=u:=by
 have hg:=gcd_pos (n:=a) hb
 have d1:(Int.gcd a b:Int)∣a:=Int.gcd_dvd_left a b
 have d2:(Int.gcd a b:Int)∣b:=Int.gcd_dvd_right a b
 have e1:=Int.ediv_mul_cancel d1
 have e2:=Int.ediv_mul_cancel d2
 have hc2:Int.gcd (a / (Int.gcd a b:Int)) (b / (Int.gcd a b:Int))=1:=Int.gcd_ediv_gcd_ediv_gcd (by omega)
 show a / (Int.gcd a b:Int)=n∧b / (Int.gcd a b:Int)=u
 generalize a / (Int.gcd a b:Int)=A at e1 hc2 ⊢
 generalize b / (Int.gcd a b:Int)=B at e2 hc2 ⊢
 generalize (Int.gcd a b:Int)=g at e1 e2 hg
 have k:A*u=n*B:=by
  have:g*(A*u)=g*(n*B):=by
   rw[← e1,← e2] at h
   rw[Int.mul_left_comm g A u,Int.mul_left_comm g n B,← Int.mul_assoc,← Int.mul_assoc]
   rw[Int.mul_assoc A g u,Int.mul_comm B g] at h
   rw[Int.mul_assoc A g u,Int.mul_assoc n g B]
   exact h
  exact Int.eq_of_mul_eq_mul_left (by omega) this
 have hB:0 < B:=by
  by_cases q:0 < B
  ·exact q
  ·have:B*g≤0:=Int.mul_nonpos_of_nonpos_of_nonneg (by omega) (by omega)
   omega
 have c1:Nat.Coprime u.natAbs n.natAbs:=by
  rw[Int.gcd_eq_natAbs_gcd_natAbs] at hc
  exact Nat.Coprime.symm hc
 have c2:Nat.Coprime B.natAbs A.natAbs:=by
  rw[Int.gcd_eq_natAbs_gcd_natAbs] at hc2
  exact Nat.Coprime.symm hc2
 have v1:u.natAbs∣B.natAbs:=c1.dvd_of_dvd_mul_left (by
  rw[← Int.natAbs_mul,Int.natAbs_dvd_natAbs,← k]
  exact Int.dvd_mul_left A u)
 have v2:B.natAbs∣u.natAbs:=c2.dvd_of_dvd_mul_left (by
  rw[← Int.natAbs_mul,Int.natAbs_dvd_natAbs,k]
  exact Int.dvd_mul_left n B)
 have e:u=B:=by
  have:=Nat.dvd_antisymm v1 v2
  omega
 subst e
 exact⟨Int.eq_of_mul_eq_mul_right (by omega) k,rfl⟩
theorem mul_pos'{a b:Int}(ha:0 < a)(hb:0 < b):0 < a*b:=Int.mul_pos ha hb
theorem gcdZ{k:Nat}(n:Int){u:Int}(hu:0 < u)(hz:Sz k u):Sz k (Int.gcd n u:Int):=hz.le (by have:=Int.gcd_le_natAbs_right n (b:=u) (by omega);omega)
theorem undP_succ{l:List (Int×Int)}{i:Nat}(h:i < l.length):undP (l.take (i+1))=und1 (undP (l.take i)) l[i]:=by
 unfold undP
 rw[List.take_succ_eq_append_getElem h,List.foldl_append]
 rfl
theorem und1_ok{r:Int}{p:Int×Int}(hr:0 < r)(hu:0 < p.2):0 < und1 r p∧r∣und1 r p∧p.2∣und1 r p:=by
 have hg:=gcd_pos (n:=r) hu
 have e1:=Int.ediv_mul_cancel (Int.gcd_dvd_left r p.2)
 have e2:=Int.ediv_mul_cancel (Int.gcd_dvd_right r p.2)
 have p1:0 < r / (Int.gcd r p.2:Int):=by
  by_cases h:0 < r / (Int.gcd r p.2:Int)
  ·exact h
  ·have:r / (Int.gcd r p.2:Int)*(Int.gcd r p.2:Int)≤0:=Int.mul_nonpos_of_nonpos_of_nonneg (by omega) (by omega)
   omega
 refine⟨Int.mul_pos p1 hu,⟨p.2 / (Int.gcd r p.2:Int),?_⟩,Int.dvd_mul_left _ _⟩
 show r / (Int.gcd r p.2:Int)*p.2=r*(p.2 / (Int.gcd r p.2:Int))
 generalize r / (Int.gcd r p.2:Int)=A at e1 ⊢
 generalize p.2 / (Int.gcd r p.2:Int)=C at e2 ⊢
 generalize (Int.gcd r p.2:Int)=g at e1 e2
 grind
theorem und_fold:∀ (l:List (Int×Int)) (r:Int),0 < r→(∀ p∈l,0 < p.2)→0 < l.foldl und1 r∧r∣l.foldl und1 r∧∀ p∈l,p.2∣l.foldl und1 r
 | [],r,h,_=>⟨h,Int.dvd_refl r,fun _ z=>nomatch z⟩
 | p::l,r,h,hp=>by
  obtain⟨a,b,c⟩:=und1_ok h (hp p List.mem_cons_self)
  obtain⟨x,y,z⟩:=und_fold l (und1 r p) a fun q hq=>hp q (List.mem_cons_of_mem _ hq)
  exact⟨x,Int.dvd_trans b y,fun q hq=>(List.mem_cons.mp hq).elim (fun e=>by rw[e];exact Int.dvd_trans c y) (z q)⟩
def hp(m:Int):Int→List Int→Bool
 | _,[]=>true
 | l,x::r=>if x≤l∨m≤x then false else hp m x r
theorem sub_add:∀ p,p < 6→∀ j,j < 2 ^ p→Srt.sub (2 ^ p+j)=Srt.sub j++[Int.ofNat p]:=by decide +kernel
def OrdAt(H:Hp)(xs:List V)(n:Nat):Prop:=∃ ts:Nat→Addr,xs=(ordL n).map (fun i=>V.ref (ts i))∧∀ i,i < n→H (ts i)=some (.tup ((Srt.sub i).map V.int))
theorem OrdAt.ts{H H':Hp}{xs:List V}{n:Nat}(h:OrdAt H xs n)(s:TS H H'):OrdAt H' xs n:=by
 obtain⟨f,e,h1⟩:=h
 exact⟨f,e,fun i hi=>s _ _ (h1 i hi)⟩
theorem subs_ord{H:Hp}{xs:List V}{n:Nat}(h:SubsAt H xs n):OrdAt H ((ordL n).map fun i=>xs.getD i .non) n:=by
 refine⟨fun i=>match xs[i]? with | some (.ref t)=>t | _=>0,List.map_congr_left fun i hi=>?_,fun i hi=>?_⟩
 ·obtain⟨t,e,_⟩:=h.2 i (ord_lt hi)
  show xs.getD i .non=V.ref (match xs[i]? with | some (.ref t)=>t | _=>0)
  rw[List.getD_eq_getElem?_getD,e]
  rfl
 ·obtain⟨t,e,h1⟩:=h.2 i hi
  show H (match xs[i]? with | some (.ref t)=>t | _=>0)=_
  rw[e]
  exact h1
def oD(n:Nat):List Dt:=(ordL n).map fun i=>.tup ((Srt.sub i).map Dt.int)
theorem seq_cut{ta tb:L2.TS}{D:Ends}{σ:St}{H:Hp}(W:St→Hp→Prop)(h2:∀ σ' H',W σ' H'→tb D σ' H')(h1:∀ tb':L2.TS,(∀ σ' H',W σ' H'→tb' D σ' H')→tSeq ta tb' D σ H):tSeq ta tb D σ H:=h1 tb h2
theorem seq_cut2{t1 t2 tb:L2.TS}{D:Ends}{σ:St}{H:Hp}(W:St→Hp→Prop)(h2:∀ σ' H',W σ' H'→tb D σ' H')(h1:∀ tb':L2.TS,(∀ σ' H',W σ' H'→tb' D σ' H')→(tSeq t1 (tSeq t2 tb')) D σ H):(tSeq t1 (tSeq t2 tb)) D σ H:=h1 tb h2
theorem seq_cut3{t1 t2 t3 tb:L2.TS}{D:Ends}{σ:St}{H:Hp}(W:St→Hp→Prop)(h2:∀ σ' H',W σ' H'→tb D σ' H')(h1:∀ tb':L2.TS,(∀ σ' H',W σ' H'→tb' D σ' H')→(tSeq t1 (tSeq t2 (tSeq t3 tb'))) D σ H):(tSeq t1 (tSeq t2 (tSeq t3 tb))) D σ H:=h1 tb h2
theorem seq_cut6{t1 t2 t3 t4 t5 t6 tb:L2.TS}{D:Ends}{σ:St}{H:Hp}(W:St→Hp→Prop)(h2:∀ σ' H',W σ' H'→tb D σ' H')(h1:∀ tb':L2.TS,(∀ σ' H',W σ' H'→tb' D σ' H')→(tSeq t1 (tSeq t2 (tSeq t3 (tSeq t4 (tSeq t5 (tSeq t6 tb')))))) D σ H):(tSeq t1 (tSeq t2 (tSeq t3 (tSeq t4 (tSeq t5 (tSeq t6 tb)))))) D σ H:=h1 tb h2
theorem sum_sz{k:Nat}:∀(l:List Int),(∀ x∈l,Sz k x)→Sz (k+l.length) l.sum
 | [],_=>by
  refine Sz.of ?_
  show (0:Int).natAbs < 2 ^ (k+0)
  exact Nat.two_pow_pos _
 | x::l,h=>by
  have h1:=sum_sz l fun y hy=>h y (List.mem_cons_of_mem _ hy)
  have h2:=h x List.mem_cons_self
  have e:(x::l).sum=x+l.sum:=rfl
  rw[e]
  exact Sz.mono (Sz.add (k:=k+l.length) (h2.mono (by omega)) h1) (by simp only[List.length_cons];omega)
theorem worth_sz{k:Nat}{ws hs:List Int}(h:∀ x∈ws,Sz k x)(hl:hs.length≤6):Sz (k+6) (worthOf ws hs):=by
 unfold worthOf
 refine Sz.mono (sum_sz (k:=k) _ fun y hy=>?_) (by rw[List.length_map];omega)
 obtain⟨i,_,rfl⟩:=List.mem_map.mp hy
 rw[List.getD_eq_getElem?_getD]
 cases e:ws[i.toNat]? with
 | none=>exact Sz.of (Nat.two_pow_pos _)
 | some v=>exact h v (List.mem_of_getElem? e)
def OptH(H:Hp)(v:V):Option Nat→Prop
 | none=>v=.non
 | some i=>∃ t,v=.ref t∧H t=some (.tup ((Srt.sub i).map V.int))
theorem sub_in:∀ m:Nat,m≤6→∀ i,i < 2 ^ m→∀ x∈Srt.sub i,0≤x∧x < (m:Int):=by decide +kernel
theorem sub_len(i:Nat):(Srt.sub i).length≤6:=by
 unfold Srt.sub
 rw[List.length_map]
 exact Nat.le_trans (List.length_filter_le _ _) (by rw[List.length_range];exact Nat.le_refl _)
theorem pow64{k:Nat}(h:k≤6):2 ^ k≤64:=by
 have:k=0∨k=1∨k=2∨k=3∨k=4∨k=5∨k=6:=by omega
 rcases this with rfl | rfl | rfl | rfl | rfl | rfl | rfl<;>decide
theorem for_listN{K:PySem.W.Frag}{a:Addr}{xs:List V}{g:TG}{tb:L2.TS}{D:Ends}{σ:St}{H:Hp}(Pv:Nat→St→Hp→Prop)(h0:Pv 0 σ H)(hl:∀ i σ H,i≤xs.length→Pv i σ H→SqL K H a xs)
  (hs:∀ i x σ H (N B:St→Hp→Prop),xs[i]?=some x→Pv i σ H→(∀ σ' H',Pv (i+1) σ' H'→N σ' H')→(∀ σ' H',D.nx σ' H'→B σ' H')→g x σ H fun σ2 H2=>tb { nx:=N,rt:=D.rt,bk:=B,ct:=N } σ2 H2) (hd:∀ σ H,Pv xs.length σ H→D.nx σ H) :
  ∃ W:Nat→Nat→St→Hp→Prop,(∃ m,W 0 m σ H)∧∀ i m σ H,W i m σ H →
   ((Itl K a).stop i H∧D.nx σ H)∨((Itl K a).go i H∧∃ N:St→Hp→Prop,(∀ σ' H',N σ' H'→∃ m',m' < m∧W (i+1) m' σ' H')∧∀ x H',(Itl K a).yld i H x H'→g x σ H' fun σ2 H2=>tb { D with nx:=N,ct:=N,bk:=D.nx } σ2 H2) :=
 for_list Pv h0 hl (fun i x σ H hx hp=>hs i x σ H (Pv (i+1)) D.nx hx hp (fun _ _ h=>h) fun _ _ h=>h) hd
theorem for_tupN{K:PySem.W.Frag}{a:Addr}{xs:List V}{g:TG}{tb:L2.TS}{D:Ends}{σ:St}{H:Hp}(Pv:Nat→St→Hp→Prop)(h0:Pv 0 σ H)(hl:∀ i σ H,i≤xs.length→Pv i σ H→SqT K H a xs)
  (hs:∀ i x σ H (N B:St→Hp→Prop),xs[i]?=some x→Pv i σ H→(∀ σ' H',Pv (i+1) σ' H'→N σ' H')→(∀ σ' H',D.nx σ' H'→B σ' H')→g x σ H fun σ2 H2=>tb { nx:=N,rt:=D.rt,bk:=B,ct:=N } σ2 H2) (hd:∀ σ H,Pv xs.length σ H→D.nx σ H) :
  ∃ W:Nat→Nat→St→Hp→Prop,(∃ m,W 0 m σ H)∧∀ i m σ H,W i m σ H →
   ((Itt K a).stop i H∧D.nx σ H)∨((Itt K a).go i H∧∃ N:St→Hp→Prop,(∀ σ' H',N σ' H'→∃ m',m' < m∧W (i+1) m' σ' H')∧∀ x H',(Itt K a).yld i H x H'→g x σ H' fun σ2 H2=>tb { D with nx:=N,ct:=N,bk:=D.nx } σ2 H2) :=
 for_tup Pv h0 hl (fun i x σ H hx hp=>hs i x σ H (Pv (i+1)) D.nx hx hp (fun _ _ h=>h) fun _ _ h=>h) hd
theorem for_rangeN{lo:Int}{n:Nat}{g:TG}{tb:L2.TS}{D:Ends}{σ:St}{H:Hp}(Pv:Nat→St→Hp→Prop)(h0:Pv 0 σ H)
  (hs:∀ i σ H (N B:St→Hp→Prop),i < n→Pv i σ H→(∀ σ' H',Pv (i+1) σ' H'→N σ' H')→(∀ σ' H',D.nx σ' H'→B σ' H')→g (.int (lo+i)) σ H fun σ2 H2=>tb { nx:=N,rt:=D.rt,bk:=B,ct:=N } σ2 H2) (hd:∀ σ H,Pv n σ H→D.nx σ H) :
  ∃ W:Nat→Nat→St→Hp→Prop,(∃ m,W 0 m σ H)∧∀ i m σ H,W i m σ H →
   ((Itr lo n).stop i H∧D.nx σ H)∨((Itr lo n).go i H∧∃ N:St→Hp→Prop,(∀ σ' H',N σ' H'→∃ m',m' < m∧W (i+1) m' σ' H')∧∀ x H',(Itr lo n).yld i H x H'→g x σ H' fun σ2 H2=>tb { D with nx:=N,ct:=N,bk:=D.nx } σ2 H2) :=
 for_range Pv h0 (fun i σ H hi hp=>hs i σ H (Pv (i+1)) D.nx hi hp (fun _ _ h=>h) fun _ _ h=>h) hd
theorem if_cut{c:TT}{t u:L2.TS}{D:Ends}{σ:St}{H:Hp}(W:Hp→Prop)(hu:∀ H',W H'→u D σ H')(h:∀ u':L2.TS,(∀ H',W H'→u' D σ H')→tIfS c t u' D σ H):tIfS c t u D σ H:=h u hu
theorem qe_bmK{X:Cx}{K:PySem.W.Frag}(hK:X.K=K){o e:Expr}{es:List Expr}{to:TE}{t:TA}{name:Str}{apos cpos:Pos}{T id:String}{r:V→List V→Hp→VK→Prop}(pa:PlainAttrs T)(slot:PySem.Slot T name id)(hty:typeOf (.builtin id)=pure (.type "method_descriptor"))(hm:MtR X id r)(ho:QE X o to)(ha:QA X (e::es) t)
  (hbase:attributeBase o name X.env (eval o X.env)=eval o X.env:=by rfl)
  (hfew:((backTo cpos (starEach (e::es) X.env)).all (fun x=>!x.1) && (backToKw cpos (keywordEach [] X.env)).all (fun x=>x.1.isSome)
   && decide ((e::es).length+([]:List Keyword).length+(if ([]:List Keyword).isEmpty then 0 else 1) < 30))=true:=by rfl)
  (hline:(apos.endLine == cpos.line)=true:=by rfl) (hs:starEach (e::es) X.env=(false,eval e X.env)::starEach es X.env:=by rfl) (hplain:(backTo cpos (starEach es X.env)).any (·.1)=false:=by rfl) :
  QE X (.Call (.Attribute o name apos) (e::es) [] cpos) (tBM K T r to t):=hK▸qe_bm pa slot hty hm ho ha hbase hfew hline hs hplain
theorem qi_enumK{X:Cx}{K:PySem.W.Frag}(hK:X.K=K){a:Expr}{t:TA}{elts:List Expr}{k:Nat}{tp p pos:Pos}(hg:Gl X "enumerate")(hm:X.mg "enumerate" = none)(ha:QA X [a] t)(hs:starEach [a] X.env=[(false,eval a X.env)]:=by rfl) :
  QI X (.Tuple elts k tp) (.Call (.Name "enumerate" p) [a] [] pos) (iEnum K t):=hK▸qi_enum hg hm ha hs
end Toy
namespace L2
open PySem
section
variable {σ:St}{H:Hp}{Q:VK}{D:Ends}{te ta tb:TE}{t u:TS}{c c':TT}{tr:TA}{QT:Bool→Hp→Prop}{QA:List V→Hp→Prop}{x y:V}{xs:List V}{v:V}{i j:Int}{p:Addr}
theorem i_tSeq(h:t { D with nx:=u D } σ H):tSeq t u D σ H:=h
theorem i_tIfS(h:c σ H fun b H1=>Brk b (t D σ H1) (u D σ H1) .mk .mk):tIfS c t u D σ H:=h
theorem i_tNext(h:D.nx σ H):tNext D σ H:=h
theorem i_tDrop(h:te σ H fun _ H1=>D.nx σ H1):tDrop te D σ H:=h
theorem i_tRet(h:te σ H D.rt):tRet te D σ H:=h
theorem i_tAsg{g:TG}(h:te σ H fun x H1=>g x σ H1 D.nx):tAsg te g D σ H:=h
theorem i_gName{k:Nat}{R:St→Hp→Prop}(h:R (σ.set k (some v)) H):gName k v σ H R:=h
theorem i_gSub{to ti:TE}{ts:TSet}{R:St→Hp→Prop}(h:to σ H fun o H1=>ti σ H1 fun i H2=>ts o i v H2 fun H3=>R σ H3):gSub to ti ts v σ H R:=h
theorem i_tAugS{to ti:TE}{tg:V→V→Hp→VK→Prop}{tp:TIp}{ts:TSet}(h:to σ H fun o H1=>ti σ H1 fun i H2=>tg o i H2 fun x H3=>te σ H3 fun y H4=>tp x y H4 fun z H5=>ts o i z H5 fun H6=>D.nx σ H6):tAugS to ti te tg tp ts D σ H:=h
theorem i_tVar{k:Nat}(e:σ[k]?=some (some v))(h:Q v H):tVar k σ H Q:=⟨v,e,h⟩
theorem i_tC(h:Q v H):tC v σ H Q:=h
theorem i_tB(h:te σ H fun x H1=>∃ c,x=.bl c∧QT c H1):tB te σ H QT:=h
theorem i_tTest(h:te σ H fun x H1=>∃ c,x=.bl c∧QT c H1):tTest te σ H QT:=h
theorem i_exB{b:Bool}{P:Bool→Prop}(h:P b):∃ c,V.bl b=V.bl c∧P c:=⟨b,rfl,h⟩
theorem i_tOp{r:R2}(h:ta σ H fun x H1=>tb σ H1 fun y H2=>r x y H2 Q):tOp r ta tb σ H Q:=h
theorem i_tUn{r:V→Hp→VK→Prop}(h:ta σ H fun x H1=>r x H1 Q):tUn r ta σ H Q:=h
theorem i_tCB{r:List V→Hp→VK→Prop}(h:tr σ H fun vs H1=>r vs H1 Q):tCB r tr σ H Q:=h
theorem i_tNil(h:QA [] H):tNil σ H QA:=h
theorem i_tCons(h:ta σ H fun x H1=>tr σ H1 fun xs H2=>QA (x::xs) H2):tCons ta tr σ H QA:=h
theorem i_tNot(h:c σ H fun b H1=>QT (!b) H1):tNot c σ H QT:=h
theorem i_tAnd(h:c σ H fun b H1=>Brk b (c' σ H1 QT) (QT false H1) .mk .mk):tAnd c c' σ H QT:=h
theorem i_tOr(h:c σ H fun b H1=>Brk b (QT true H1) (c' σ H1 QT) .mk .mk):tOr c c' σ H QT:=h
theorem i_tD{sp:Sp}{E:XK}(h:tr σ H fun vs H1=>sp vs H1 Q E):tD sp E tr σ H Q:=h
theorem i_rI0{g:Int→Int→V}(h:Q (g i j) H):rI0 g (.int i) (.int j) H Q:=⟨i,j,rfl,rfl,h⟩
theorem i_rI{C:Int→Int→Prop}{g:Int→Int→V}(hc:C i j)(h:Q (g i j) H):rI C g (.int i) (.int j) H Q:=⟨i,j,rfl,rfl,hc,h⟩
theorem i_rU{g:Int→V}(h:Q (g i) H):rU g (.int i) H Q:=⟨i,rfl,h⟩
theorem i_ixL(hp:H p=some (.lst xs))(e:atI xs i=some v)(h:Q v H):rIxF (.ref p) (.int i) H Q:=⟨p,xs,i,v,rfl,rfl,seqAt_lst hp,e,h⟩
theorem i_ixT(hp:H p=some (.tup xs))(e:atI xs i=some v)(h:Q v H):rIxF (.ref p) (.int i) H Q:=⟨p,xs,i,v,rfl,rfl,seqAt_tup hp,e,h⟩
theorem i_lenL(hp:H p=some (.lst xs))(h:Q (.int xs.length) H):rLenF [.ref p] H Q:=⟨p,xs,rfl,seqAt_lst hp,h⟩
theorem i_getL(hp:H p=some (.lst xs))(h0:0≤i)(e:atI xs i=some v)(h:Q v H):rGetF (.ref p) (.int i) H Q:=⟨p,xs,i,v,rfl,rfl,hp,h0,e,h⟩
theorem i_ipI{f:Int→Int→Int}(h:Q (.int (f i j)) H):ipI f (.int i) (.int j) H Q:=⟨i,j,rfl,rfl,h⟩
end
section
variable {σ:St}{H:Hp}{Q:VK}{D:Ends}{tr:TA}{xs:List V}{A B:Prop}{k:Tg A}{l:Tg B}{q:Prop}[Decidable q]
theorem i_brkT(h:A):Brk true A B k l:=brk (fun _=>h) (fun z=>by cases z)
theorem i_brkF(h:B):Brk false A B k l:=brk (fun z=>by cases z) (fun _=>h)
theorem i_brkP(hq:q)(h:A):Brk (decide q) A B k l:=brkD (fun _=>h) (fun z=>absurd hq z)
theorem i_brkN(hq:¬ q)(h:B):Brk (decide q) A B k l:=brkD (fun z=>absurd z hq) (fun _=>h)
end
end L2
namespace Toy
open PySem L2
open PySem.Builtin.Int (intBits)
def num(U:Int)(p:Int×Int):Int:=p.1*(U / p.2)
structure Ok(U:Int)(p:Int×Int):Prop where
 pos:0 < p.2
 dvd:p.2∣U
 cop:Int.gcd p.1 p.2=1
def low(n u:Int):Int×Int:=(lowN n u,lowU n u)
theorem low_pos{n u:Int}(hu:0 < u):0 < (low n u).2:=(low_red n hu).1
theorem low_cop{n u:Int}(hu:0 < u):Int.gcd (low n u).1 (low n u).2=1:=(low_red n hu).2.1
theorem low_x{n u:Int}(hu:0 < u):(low n u).1*u=n*(low n u).2:=(low_red n hu).2.2.1
theorem low_u{n u:Int}:(low n u).2∣u:=⟨(Int.gcd n u:Int),(Int.ediv_mul_cancel (Int.gcd_dvd_right n u)).symm⟩
theorem low_of{a b:Int}{p:Int×Int}(hb:0 < b)(hp:0 < p.2)(hc:Int.gcd p.1 p.2=1)(h:a*p.2=p.1*b):low a b=p:=by
 obtain⟨e1,e2⟩:=low_eq hb hp hc h
 exact Prod.ext e1 e2
theorem low_same{a b c d:Int}(hb:0 < b)(hd:0 < d)(h:a*d=c*b):low a b=low c d:=by
 refine low_of hb (low_pos hd) (low_cop hd) ?_
 have x:=low_x (n:=c) hd
 generalize low c d=q at x ⊢
 refine Int.eq_of_mul_eq_mul_right (a:=d) (by omega) ?_
 grind
theorem low_ok{n U:Int}(hU:0 < U):Ok U (low n U):=⟨low_pos hU,low_u,low_cop hU⟩
theorem num_mul{U:Int}{p:Int×Int}(h:Ok U p):num U p*p.2=p.1*U:=by
 unfold num
 rw[Int.mul_assoc,Int.ediv_mul_cancel h.dvd]
theorem num_of{U N:Int}{p:Int×Int}(h:Ok U p)(e:N*p.2=p.1*U):num U p=N:=by
 have:=num_mul h
 have hp:=h.pos
 refine Int.eq_of_mul_eq_mul_right (a:=p.2) (by omega) ?_
 omega
theorem num_low{n U:Int}(hU:0 < U):num U (low n U)=n:=num_of (low_ok hU) (low_x hU).symm
theorem low_num{U:Int}{p:Int×Int}(hU:0 < U)(h:Ok U p):low (num U p) U=p:=low_of hU h.pos h.cop (num_mul h)
theorem num_inj{U:Int}{p q:Int×Int}(hU:0 < U)(hp:Ok U p)(hq:Ok U q)(h:num U p=num U q):p=q:=by
 rw[← low_num hU hp,h,low_num hU hq]
theorem Ok.low{n u U:Int}(hu:0 < u)(h:u∣U):Ok U (Toy.low n u):=⟨low_pos hu,Int.dvd_trans low_u h,low_cop hu⟩
theorem Ok.up{U V:Int}{p:Int×Int}(h:Ok U p)(d:U∣V):Ok V p:=⟨h.pos,Int.dvd_trans h.dvd d,h.cop⟩
theorem num_up{U V:Int}{p:Int×Int}(hU:0 < U)(h:Ok U p)(d:U∣V):num V p=num U p*(V / U):=by
 refine num_of (h.up d) ?_
 have:=num_mul h
 have e:=Int.ediv_mul_cancel d
 generalize V / U=k at e ⊢
 rw[← e]
 grind
theorem addP_low(a b:Int×Int):addP a b=low (a.1*b.2+b.1*a.2) (a.2*b.2):=rfl
theorem add_ok{U:Int}(hU:0 < U){a b:Int×Int}(ha:Ok U a)(hb:Ok U b):addP a b=low (num U a+num U b) U:=by
 rw[addP_low]
 refine low_same (Int.mul_pos ha.pos hb.pos) hU ?_
 have:=num_mul ha
 have:=num_mul hb
 grind
theorem zero_ok{U:Int}:Ok U (0,1):=⟨by decide,Int.one_dvd U,by decide⟩
theorem int_ok{U w:Int}:Ok U (w,1):=⟨by show (0:Int) < 1;decide,Int.one_dvd U,Int.gcd_one_right w⟩
theorem num_int{U w:Int}:num U (w,1)=w*U:=by unfold num;show w*(U / 1)=_;rw[Int.ediv_one]
theorem sum_fold{U:Int}(hU:0 < U):∀ (l:List (Int×Int)) (s:Int×Int),Ok U s→(∀ p∈l,Ok U p)→Ok U (l.foldl addP s)∧num U (l.foldl addP s)=num U s+(l.map (num U)).sum
 | [],s,h,_=>⟨h,by show _=num U s+0;rw[Int.add_zero];rfl⟩
 | p::l,s,h,hl=>by
  have hp:=hl p List.mem_cons_self
  have e:=add_ok hU h hp
  have h1:Ok U (addP s p):=by rw[e];exact low_ok hU
  obtain⟨a,b⟩:=sum_fold hU l (addP s p) h1 fun q hq=>hl q (List.mem_cons_of_mem _ hq)
  refine⟨a,?_⟩
  have e2:num U (addP s p)=num U s+num U p:=by rw[e,num_low hU]
  show num U (l.foldl addP (addP s p))=_
  rw[b,e2]
  show _=num U s+(num U p+(l.map (num U)).sum)
  rw[Int.add_assoc]
theorem sum_ok{U:Int}(hU:0 < U){l:List (Int×Int)}(hl:∀ p∈l,Ok U p):Ok U (sumP l)∧num U (sumP l)=(l.map (num U)).sum:=by
 obtain⟨a,b⟩:=sum_fold hU l (0,1) zero_ok hl
 refine⟨a,b.trans ?_⟩
 have:num U (0,1)=0:=by unfold num;exact Int.zero_mul _
 rw[this,Int.zero_add]
theorem lt_num{U:Int}(hU:0 < U){p q:Int×Int}(hp:Ok U p)(hq:Ok U q):p.1*q.2 < q.1*p.2↔num U p < num U q:=by
 have e1:=num_mul hp
 have e2:=num_mul hq
 have p1:=hp.pos
 have p2:=hq.pos
 have pp:=Int.mul_pos p1 p2
 generalize num U p=A at e1 ⊢
 generalize num U q=B at e2 ⊢
 have k1:p.1*q.2*U=A*(p.2*q.2):=by grind
 have k2:q.1*p.2*U=B*(p.2*q.2):=by grind
 constructor
 ·intro h
  have:=Int.mul_lt_mul_of_pos_right h hU
  rw[k1,k2] at this
  exact Int.lt_of_mul_lt_mul_right this (by omega)
 ·intro h
  have:=Int.mul_lt_mul_of_pos_right h pp
  rw[← k1,← k2] at this
  exact Int.lt_of_mul_lt_mul_right this (by omega)
structure UOk(U:Int):Prop where
 pos:0 < U
 sz:Sz 4000 U
structure PtOk(U:Int)(k:Nat)(p:Int×Int):Prop extends Ok U p where
 sz:Sz k (num U p)
theorem le_of_dvd'{a b:Int}(h:a∣b)(hb:0 < b):a.natAbs≤b.natAbs:=Nat.le_of_dvd (by omega) (Int.natAbs_dvd_natAbs.mpr h)
theorem Ok.usz{U:Int}{p:Int×Int}(u:UOk U)(h:Ok U p):Sz 4000 p.2:=u.sz.le (le_of_dvd' h.dvd u.pos)
theorem Ok.nle{U:Int}{p:Int×Int}(hU:0 < U)(h:Ok U p):p.1.natAbs≤(num U p).natAbs:=by
 unfold num
 rw[Int.natAbs_mul]
 have hd:0 < U / p.2:=by
  by_cases z:0 < U / p.2
  ·exact z
  ·have:=Int.ediv_mul_cancel h.dvd
   have hp:=h.pos
   have:U / p.2*p.2≤0:=Int.mul_nonpos_of_nonpos_of_nonneg (by omega) (by omega)
   omega
 exact Nat.le_mul_of_pos_right _ (by omega)
theorem PtOk.nsz{U:Int}{k:Nat}{p:Int×Int}(hU:0 < U)(h:PtOk U k p):Sz k p.1:=h.sz.le (h.toOk.nle hU)
theorem PtOk.mono{U:Int}{k j:Nat}{p:Int×Int}(h:PtOk U k p)(q:k≤j):PtOk U j p:=⟨h.toOk,h.sz.mono q⟩
theorem sum_pt{U:Int}(hU:0 < U){k:Nat}{l:List (Int×Int)}(hl:∀ p∈l,PtOk U k p):PtOk U (k+l.length) (sumP l):=by
 obtain⟨a,b⟩:=sum_ok hU fun p hp=>(hl p hp).toOk
 refine⟨a,?_⟩
 rw[b]
 refine Sz.mono (sum_sz (k:=k) _ fun x hx=>?_) (by rw[List.length_map];omega)
 obtain⟨p,hp,rfl⟩:=List.mem_map.mp hx
 exact (hl p hp).sz
def RowU(U:Int)(k:Nat)(H:Hp)(xs:List V)(ps:List (Int×Int)):Prop:=xs.length=ps.length∧∀(i:Nat) p,ps[i]?=some p→∃ r,xs[i]?=some (.ref r)∧H r=some (.tup [.int p.1,.int p.2])∧PtOk U k p
theorem RowU.ts{U:Int}{k:Nat}{H H':Hp}{xs:List V}{ps:List (Int×Int)}(h:RowU U k H xs ps)(s:TS H H'):RowU U k H' xs ps:=⟨h.1,fun i p hp=>by
 obtain⟨r,e,h1,h2⟩:=h.2 i p hp
 exact⟨r,e,s _ _ h1,h2⟩⟩
theorem RowU.nil{U:Int}{k:Nat}{H:Hp}:RowU U k H [] []:=⟨rfl,fun i p h=>by simp at h⟩
theorem RowU.mem{U:Int}{k:Nat}{H:Hp}{xs:List V}{ps:List (Int×Int)}(h:RowU U k H xs ps):∀ p∈ps,PtOk U k p:=fun p hp=>by
 obtain⟨i,hi⟩:=List.mem_iff_getElem?.mp hp
 obtain⟨r,_,_,h1⟩:=h.2 i p hi
 exact h1
theorem RowU.snoc{U:Int}{k:Nat}{H:Hp}{xs:List V}{ps:List (Int×Int)}{r:Addr}{p:Int×Int}(h:RowU U k H xs ps)(hr:H r=some (.tup [.int p.1,.int p.2]))(hp:PtOk U k p):RowU U k H (xs++[.ref r]) (ps++[p]):=by
 refine⟨by rw[List.length_append,List.length_append,h.1];rfl,fun i q hq=>?_⟩
 by_cases hi:i < ps.length
 ·rw[List.getElem?_append_left hi] at hq
  rw[List.getElem?_append_left (by rw[h.1];exact hi)]
  exact h.2 i q hq
 ·have hl:=(List.getElem?_eq_some_iff.mp hq).1
  rw[List.length_append] at hl
  have e:i=ps.length:=by
   have:([p]:List (Int×Int)).length=1:=rfl
   omega
  subst e
  rw[List.getElem?_append_right (Nat.le_refl _),Nat.sub_self] at hq
  cases hq
  exact⟨r,by rw[List.getElem?_append_right (by rw[h.1];exact Nat.le_refl _),h.1,Nat.sub_self];rfl,hr,hp⟩
theorem RowU.set{U:Int}{k:Nat}{H:Hp}{xs:List V}{ps:List (Int×Int)}{r:Addr}{p:Int×Int}{j:Nat}(h:RowU U k H xs ps)(hr:H r=some (.tup [.int p.1,.int p.2]))(hp:PtOk U k p):RowU U k H (xs.set j (.ref r)) (ps.set j p):=by
 refine⟨by rw[List.length_set,List.length_set,h.1],fun i q hq=>?_⟩
 by_cases e:j=i
 ·subst e
  rw[List.getElem?_set] at hq
  rw[if_pos rfl] at hq
  split at hq
  ·cases hq
   refine⟨r,?_,hr,hp⟩
   rw[List.getElem?_set,if_pos rfl,if_pos (by rw[h.1];assumption)]
  ·cases hq
 ·rw[List.getElem?_set_ne e] at hq
  rw[List.getElem?_set_ne e]
  exact h.2 i q hq
theorem und1_dvd{U r:Int}{p:Int×Int}(h0:0 < r)(hr:r∣U)(hp:0 < p.2)(hd:p.2∣U):und1 r p∣U:=by
 have e:und1 r p=(Int.lcm r p.2:Int):=by
  unfold und1
  have h1:(Int.gcd r p.2:Int)*(Int.lcm r p.2:Int)=r*p.2:=by
   have:=Int.gcd_mul_lcm r p.2
   have e2:((Int.gcd r p.2*Int.lcm r p.2:Nat):Int)=((r*p.2).natAbs:Int):=by rw[this,Int.natAbs_mul]
   have p3:=Int.mul_pos h0 hp
   rw[Int.natCast_mul] at e2
   omega
  have hg:=gcd_pos (n:=r) hp
  have e1:=Int.ediv_mul_cancel (Int.gcd_dvd_left r p.2)
  refine Int.eq_of_mul_eq_mul_left (a:=(Int.gcd r p.2:Int)) (by omega) ?_
  rw[h1]
  generalize r / (Int.gcd r p.2:Int)=A at e1 ⊢
  generalize (Int.gcd r p.2:Int)=g at e1 ⊢
  rw[← e1]
  grind
 rw[e]
 exact Int.coe_lcm_dvd hr hd
theorem und_dvd{U:Int}:∀ (l:List (Int×Int)) (r:Int),0 < r→r∣U→(∀ p∈l,0 < p.2∧p.2∣U)→l.foldl und1 r∣U
 | [],r,_,h,_=>h
 | p::l,r,h0,h,hp=>by
  obtain⟨a,b⟩:=hp p List.mem_cons_self
  exact und_dvd l (und1 r p) (und1_ok h0 a).1 (und1_dvd h0 h a b) fun q hq=>hp q (List.mem_cons_of_mem _ hq)
theorem undP_ok{U:Int}{l:List (Int×Int)}(h:∀ p∈l,Ok U p):0 < undP l∧undP l∣U∧∀ p∈l,Ok (undP l) p:=by
 obtain⟨a,_,c⟩:=und_fold l 1 (by decide) fun p hp=>(h p hp).pos
 exact⟨a,und_dvd l 1 (by decide) (Int.one_dvd U) fun p hp=>⟨(h p hp).pos,(h p hp).dvd⟩,fun p hp=>⟨(h p hp).pos,c p hp,(h p hp).cop⟩⟩
structure Lvl(R D:Nat→Int)(n:Nat)(r:Int×Int):Prop where
 pos:0 < r.2
 cop:Int.gcd r.1 r.2=1
 one:r.1≤r.2
 le:∀ i,i < n→0 < D i→r.1*D i≤R i*r.2
 at':r=(1,1)∨∃ i,i < n∧0 < D i∧r.1*D i=R i*r.2
theorem Lvl.below{R D:Nat→Int}{n:Nat}{r s:Int×Int}(a:Lvl R D n r)(b:Lvl R D n s):r.1*s.2≤s.1*r.2:=by
 have p1:=a.pos
 have p2:=b.pos
 rcases b.at' with rfl | ⟨i,hi,hD,e⟩
 ·have:=a.one
  show r.1*1≤1*r.2
  omega
 ·have h1:=a.le i hi hD
  have h2:=Int.mul_le_mul_of_nonneg_right h1 (by omega:0≤s.2)
  have h3:R i*r.2*s.2=s.1*r.2*D i:=by grind
  have h4:r.1*D i*s.2=r.1*s.2*D i:=by grind
  rw[h3,h4] at h2
  exact Int.le_of_mul_le_mul_right h2 hD
theorem Lvl.uniq{R D:Nat→Int}{n:Nat}{r s:Int×Int}(a:Lvl R D n r)(b:Lvl R D n s):r=s:=by
 have h1:=a.below b
 have h2:=b.below a
 have e:r.1*s.2=s.1*r.2:=by omega
 have:=low_of (a:=r.1) (b:=r.2) a.pos b.pos b.cop e
 rw[← this]
 exact (low_of a.pos a.pos a.cop rfl).symm
theorem Lvl.scale{R D R' D':Nat→Int}{n:Nat}{r:Int×Int}{t:Int}(ht:0 < t)(hR:∀ i,R' i=R i*t)(hD:∀ i,D' i=D i*t)(a:Lvl R D n r):Lvl R' D' n r:=by
 have pos:∀ i,0 < D' i→0 < D i:=fun i h=>by
  rw[hD] at h
  by_cases z:0 < D i
  ·exact z
  ·have:D i*t≤0:=Int.mul_nonpos_of_nonpos_of_nonneg (by omega) (by omega)
   omega
 refine⟨a.pos,a.cop,a.one,fun i hi h=>?_,?_⟩
 ·have:=Int.mul_le_mul_of_nonneg_right (a.le i hi (pos i h)) (by omega:0≤t)
  rw[hR,hD]
  have e1:r.1*(D i*t)=r.1*D i*t:=by grind
  have e2:R i*t*r.2=R i*r.2*t:=by grind
  rw[e1,e2]
  exact this
 ·rcases a.at' with e | ⟨i,hi,h,e⟩
  ·exact .inl e
  ·refine .inr ⟨i,hi,by rw[hD];exact Int.mul_pos h ht,?_⟩
   rw[hR,hD]
   have e1:r.1*(D i*t)=r.1*D i*t:=by grind
   have e2:R i*t*r.2=R i*r.2*t:=by grind
   rw[e1,e2,e]
def UM:Int:=9690712164777231700912800
theorem um_ok:UOk UM:=⟨by decide,by decide⟩
theorem um_nat:∀ d,d < 61→0 < d→UM.toNat % d=0:=by decide +kernel
theorem um_dvd{u:Int}(h0:0 < u)(h1:u≤60):u∣UM:=by
 have h:=um_nat u.toNat (by omega) (by omega)
 have e:u=((u.toNat:Nat):Int):=by omega
 have e2:UM=((UM.toNat:Nat):Int):=by decide
 rw[e,e2]
 exact Int.natCast_dvd_natCast.mpr (Nat.dvd_of_mod_eq_zero h)
structure Du(U:Int)(k:Nat)(n u:Int):Prop where
 pt:PtOk U k (n,u)
 nn:0≤n
theorem div_pos_le{U u:Int}(hu:0 < u)(hU:0 < U)(h:u∣U):0 < U / u∧U / u≤U:=by
 have e:=Int.ediv_mul_cancel h
 have p:0 < U / u:=by
  by_cases z:0 < U / u
  ·exact z
  ·have:U / u*u≤0:=Int.mul_nonpos_of_nonpos_of_nonneg (by omega) (by omega)
   omega
 refine⟨p,?_⟩
 have:U / u*1≤U / u*u:=Int.mul_le_mul_of_nonneg_left (by omega) (by omega)
 omega
theorem num_low'{n u U:Int}(hu:0 < u)(hU:0 < U)(h:u∣U):num U (low n u)=n*(U / u):=by
 refine num_of (Ok.low hu h) ?_
 have x:=low_x (n:=n) hu
 have e:=Int.ediv_mul_cancel h
 generalize low n u=q at x ⊢
 generalize U / u=k at e ⊢
 rw[← e]
 refine Int.eq_of_mul_eq_mul_right (a:=u) (by omega) ?_
 grind
theorem low_nn{n u:Int}(hu:0 < u)(hn:0≤n):0≤(low n u).1:=Int.ediv_nonneg hn (by have:=gcd_pos (n:=n) hu;omega)
theorem du_of{n u:Int}(h0:0≤n)(h1:n≤1000000000)(u0:0 < u)(u1:u≤60):Du UM 115 (lowN n u) (lowU n u):=by
 have hd:=um_dvd u0 u1
 refine⟨⟨Ok.low u0 hd,?_⟩,low_nn u0 h0⟩
 have e:num UM (low n u)=n*(UM / u):=num_low' u0 um_ok.pos hd
 show Sz 115 (num UM (low n u))
 rw[e]
 have hz:Sz 84 (UM / u):=by
  have:=div_pos_le u0 um_ok.pos hd
  have:(UM / u).natAbs≤UM.natAbs:=by omega
  exact Sz.le (by decide:Sz 84 UM) this
 exact Sz.mono (Sz.mul (Sz.of (k:=30) (by omega)) hz) (by decide)
theorem zero_pt{U:Int}{k:Nat}:PtOk U k (0,1):=⟨zero_ok,by
 have:num U (0,1)=0:=by unfold num;exact Int.zero_mul _
 rw[this]
 exact Sz.of (Nat.two_pow_pos _)⟩
theorem nn_num{U:Int}{p:Int×Int}(hU:0 < U)(h:Ok U p):0≤p.1↔0≤num U p:=by
 have:=lt_num hU h (zero_ok (U:=U))
 have e:num U (0,1)=0:=by unfold num;exact Int.zero_mul _
 rw[e] at this
 simp only[Int.zero_mul,Int.mul_one] at this
 omega
theorem sum_nn:∀(l:List Int),(∀ x∈l,0≤x)→0≤l.sum
 | [],_=>Int.le_refl _
 | x::l,h=>by
  have:=sum_nn l fun y hy=>h y (List.mem_cons_of_mem _ hy)
  have:=h x List.mem_cons_self
  show 0≤x+l.sum
  omega
theorem sumP_nn{U:Int}(hU:0 < U){l:List (Int×Int)}(hl:∀ p∈l,Ok U p)(h0:∀ p∈l,0≤p.1):0≤(sumP l).1:=by
 obtain⟨a,b⟩:=sum_ok hU hl
 rw[nn_num hU a,b]
 refine sum_nn _ fun x hx=>?_
 obtain⟨p,hp,rfl⟩:=List.mem_map.mp hx
 exact (nn_num hU (hl p hp)).mp (h0 p hp)
def RowsAt(X:List Addr)(U:Int)(k:Nat)(H:Hp)(zs:List V)(rss:List (List (Int×Int))):Prop:=zs.length=rss.length∧zs.Nodup∧∀(i:Nat) r,rss[i]?=some r→∃ l xs,zs[i]?=some (.ref l)∧H l=some (.lst xs)∧RowU U k H xs r∧l∉X
theorem RowsAt.step{X:List Addr}{U:Int}{k:Nat}{H H':Hp}{zs:List V}{rss:List (List (Int×Int))}(h:RowsAt X U k H zs rss)(f:∀ l xs,V.ref l∈zs→l∉X→H l=some (.lst xs)→H' l=some (.lst xs))(s:TS H H'):RowsAt X U k H' zs rss:=⟨h.1,h.2.1,fun i r hr=>by
 obtain⟨l,xs,e,h1,h2,h3⟩:=h.2.2 i r hr
 exact⟨l,xs,e,f l xs (List.mem_of_getElem? e) h3 h1,h2.ts s,h3⟩⟩
theorem RowsAt.nil{X:List Addr}{U:Int}{k:Nat}{H:Hp}:RowsAt X U k H [] []:=⟨rfl,.nil,fun i p h=>by simp at h⟩
theorem RowsAt.fresh{X:List Addr}{U:Int}{k:Nat}{H:Hp}{zs:List V}{rss:List (List (Int×Int))}(h:RowsAt X U k H zs rss){l:Addr}(hl:H l=none):V.ref l∉zs:=fun z=>by
 obtain⟨i,hi,e⟩:=List.getElem_of_mem z
 have hi2:i < rss.length:=by rw[← h.1];exact hi
 obtain⟨l',xs,e',h1,_⟩:=h.2.2 i rss[i] (List.getElem?_eq_getElem hi2)
 rw[List.getElem?_eq_getElem hi,e] at e'
 cases e'
 rw[hl] at h1
 cases h1
theorem RowsAt.snoc{X:List Addr}{U:Int}{k:Nat}{H:Hp}{zs:List V}{rss:List (List (Int×Int))}{l:Addr}{xs:List V}{r:List (Int×Int)}(h:RowsAt X U k H zs rss)(hn:V.ref l∉zs)(h1:H l=some (.lst xs))(h2:RowU U k H xs r)(h3:l∉X):RowsAt X U k H (zs++[.ref l]) (rss++[r]):=by
 refine⟨by rw[List.length_append,List.length_append,h.1];rfl,?_,fun i q hq=>?_⟩
 ·rw[List.nodup_append]
  exact⟨h.2.1,List.nodup_cons.mpr ⟨by simp,.nil⟩,fun a ha b hb e=>by rw[List.mem_singleton.mp hb] at e;rw[e] at ha;exact hn ha⟩
 by_cases hi:i < rss.length
 ·rw[List.getElem?_append_left hi] at hq
  rw[List.getElem?_append_left (by rw[h.1];exact hi)]
  exact h.2.2 i q hq
 ·have hl:=(List.getElem?_eq_some_iff.mp hq).1
  rw[List.length_append] at hl
  have e:i=rss.length:=by
   have:([r]:List (List (Int×Int))).length=1:=rfl
   omega
  subst e
  rw[List.getElem?_append_right (Nat.le_refl _),Nat.sub_self] at hq
  cases hq
  exact⟨l,xs,by rw[List.getElem?_append_right (by rw[h.1];exact Nat.le_refl _),h.1,Nat.sub_self];rfl,h1,h2,h3⟩
end Toy
namespace Toy
open PySem L2
open PySem.Builtin.Int (intBits)
def dueP(cs:List Cl)(i:Nat):Int×Int:=match cs[i]? with
 | some c=>(c.n,c.u)
 | none=>(0,1)
def heapP(cs:List Cl)(i:Nat):List Int:=match cs[i]? with
 | some c=>c.hp
 | none=>[]
theorem dueP_at{cs:List Cl}{i:Nat}(h:i < cs.length):dueP cs i=(cs[i].n,cs[i].u):=by unfold dueP;rw[List.getElem?_eq_getElem h]
theorem heapP_at{cs:List Cl}{i:Nat}(h:i < cs.length):heapP cs i=cs[i].hp:=by unfold heapP;rw[List.getElem?_eq_getElem h]
def inn(cs:List Cl)(hs:List Int)(i:Nat):Bool:=lies (heapP cs i) hs
def rowB(cs:List Cl)(ps:List (Int×Int))(q:Nat→Bool)(i:Nat):Int×Int:=if q i=true then dueP cs i else ps.getD i (0,1)
def rowL(cs:List Cl)(ps:List (Int×Int))(q:Nat→Bool)(n:Nat):List (Int×Int):=(List.range n).map (rowB cs ps q)
def plL(n:Nat)(q:Nat→Bool):List Int:=((List.range n).filter q).map fun i:Nat=>(i:Int)
def plV(n:Nat)(q:Nat→Bool):List V:=(plL n q).map V.int
theorem plL_mem{n:Nat}{q:Nat→Bool}{i:Nat}(h:i < n):decide ((i:Int)∈plL n q)=q i:=by
 unfold plL
 rw[Bool.eq_iff_iff,decide_eq_true_eq]
 constructor
 ·intro z
  obtain⟨j,hj,e⟩:=List.mem_map.mp z
  have:j=i:=by omega
  subst this
  exact (List.mem_filter.mp hj).2
 ·intro z
  exact List.mem_map.mpr ⟨i,List.mem_filter.mpr ⟨List.mem_range.mpr h,z⟩,rfl⟩
theorem filt_succ{α:Type}(f:Nat→Bool)(g:Nat→α)(i:Nat):((List.range (i+1)).filter f).map g=((List.range i).filter f).map g++(if f i=true then [g i] else []):=by
 rw[List.range_succ,List.filter_append,List.map_append]
 by_cases h:f i=true
 ·simp[h]
 ·simp[h]
theorem filt_take{α β:Type}(f:α→Bool)(g:α→β){l:List α}{j:Nat}(h:j < l.length):((l.take (j+1)).filter f).map g=((l.take j).filter f).map g++(if f l[j]=true then [g l[j]] else []):=by
 rw[List.take_succ_eq_append_getElem h,List.filter_append,List.map_append]
 by_cases e:f l[j]=true
 ·simp[e]
 ·simp[e]
def insL(cs:List Cl)(hs:List Int):List Nat:=(List.range cs.length).filter (inn cs hs)
def dueN(U:Int)(cs:List Cl)(q:Nat→Bool)(hs:List Int):Int:=(((insL cs hs).filter q).map fun i=>num U (dueP cs i)).sum
def paidN(U:Int)(cs:List Cl)(ps:List (Int×Int))(q:Nat→Bool)(hs:List Int):Int:=(((insL cs hs).filter fun i=>!q i).map fun i=>num U (ps.getD i (0,1))).sum
def roomN(U:Int)(ws:List Int)(cs:List Cl)(ps:List (Int×Int))(q:Nat→Bool)(hs:List Int):Int:=worthOf ws hs*U - paidN U cs ps q hs
theorem sum_mul{α:Type}(f g:α→Int)(t:Int):∀ l:List α,(∀ x∈l,f x=g x*t)→(l.map f).sum=(l.map g).sum*t
 | [],_=>by show (0:Int)=0*t;rw[Int.zero_mul]
 | x::l,h=>by
  show f x+(l.map f).sum=(g x+(l.map g).sum)*t
  rw[sum_mul f g t l fun y hy=>h y (List.mem_cons_of_mem _ hy),h x List.mem_cons_self,Int.add_mul]
theorem insL_lt{cs:List Cl}{hs:List Int}{i:Nat}(h:i∈insL cs hs):i < cs.length:=List.mem_range.mp (List.mem_filter.mp h).1
theorem dueN_up{U u:Int}{cs:List Cl}{ps:List (Int×Int)}{q:Nat→Bool}{hs:List Int}(hu:0 < u)(d:u∣U)(h:∀ i,i < cs.length→Ok u (rowB cs ps q i)):dueN U cs q hs=dueN u cs q hs*(U / u):=by
 refine sum_mul _ _ _ _ fun i hi=>?_
 obtain⟨h1,h2⟩:=List.mem_filter.mp hi
 have:=h i (insL_lt h1)
 unfold rowB at this
 rw[if_pos h2] at this
 exact num_up hu this d
theorem roomN_up{U u:Int}{ws:List Int}{cs:List Cl}{ps:List (Int×Int)}{q:Nat→Bool}{hs:List Int}(hu:0 < u)(d:u∣U)(h:∀ i,i < cs.length→Ok u (rowB cs ps q i)):roomN U ws cs ps q hs=roomN u ws cs ps q hs*(U / u):=by
 have e:paidN U cs ps q hs=paidN u cs ps q hs*(U / u):=by
  refine sum_mul _ _ _ _ fun i hi=>?_
  obtain⟨h1,h2⟩:=List.mem_filter.mp hi
  have:=h i (insL_lt h1)
  unfold rowB at this
  rw[if_neg (by simpa using h2)] at this
  exact num_up hu this d
 have e2:=Int.ediv_mul_cancel d
 unfold roomN
 rw[e]
 generalize U / u=t at e2 ⊢
 rw[← e2]
 grind
theorem num_le{U u:Int}{p:Int×Int}(hu:0 < u)(hU:0 < U)(h:Ok u p)(d:u∣U):(num u p).natAbs≤(num U p).natAbs:=by
 rw[num_up hu h d,Int.natAbs_mul]
 have:=div_pos_le hu hU d
 exact Nat.le_mul_of_pos_right _ (by omega)
theorem insL_len(cs:List Cl)(hs:List Int):(insL cs hs).length≤cs.length:=by
 unfold insL
 exact Nat.le_trans (List.length_filter_le _ _) (by rw[List.length_range];exact Nat.le_refl _)
theorem psum_sz{k n:Nat}{l:List Nat}{f:Nat→Int}(hl:l.length≤n)(h:∀ i∈l,Sz k (f i)):Sz (k+n) (l.map f).sum:=by
 refine Sz.mono (sum_sz (k:=k) _ fun x hx=>?_) (by rw[List.length_map];omega)
 obtain⟨i,hi,rfl⟩:=List.mem_map.mp hx
 exact h i hi
def lfStep(r:Int×Int)(f:Nat×Int×Int):Int×Int:=if f.2.1*r.2 < r.1*f.2.2 then (f.2.1,f.2.2) else r
def lfold(fs:List (Nat×Int×Int)):Int×Int:=fs.foldl lfStep (1,1)
theorem lfold_go:∀ (fs:List (Nat×Int×Int)) (r:Int×Int),0 < r.2→(∀ f∈fs,0 < f.2.2)→0 < (fs.foldl lfStep r).2∧(fs.foldl lfStep r).1*r.2≤r.1*(fs.foldl lfStep r).2∧(∀ f∈fs,(fs.foldl lfStep r).1*f.2.2≤f.2.1*(fs.foldl lfStep r).2)∧(fs.foldl lfStep r=r∨∃ f∈fs,fs.foldl lfStep r=(f.2.1,f.2.2))
 | [],r,h,_=>⟨h,Int.le_refl _,(fun _ z=>nomatch z),.inl rfl⟩
 | f::fs,r,h,hf=>by
  have hD:=hf f List.mem_cons_self
  show 0 < (fs.foldl lfStep (lfStep r f)).2∧_
  by_cases c:f.2.1*r.2 < r.1*f.2.2
  ·have e:lfStep r f=(f.2.1,f.2.2):=by unfold lfStep;rw[if_pos c]
   have e2:(f::fs).foldl lfStep r=fs.foldl lfStep (f.2.1,f.2.2):=by show fs.foldl lfStep (lfStep r f)=_;rw[e]
   obtain⟨a1,a2,a3,a4⟩:=lfold_go fs (f.2.1,f.2.2) hD fun g hg=>hf g (List.mem_cons_of_mem _ hg)
   rw[e2,e]
   generalize fs.foldl lfStep (f.2.1,f.2.2)=x at a1 a2 a3 a4 ⊢
   refine⟨a1,?_,fun g hg=>?_,.inr ?_⟩
   ·have a2':x.1*f.2.2≤f.2.1*x.2:=a2
    have h1:=Int.mul_le_mul_of_nonneg_right a2' (by omega:0≤r.2)
    have h2:=Int.mul_le_mul_of_nonneg_right (Int.le_of_lt c) (by omega:0≤x.2)
    have k1:x.1*f.2.2*r.2=x.1*r.2*f.2.2:=by grind
    have k2:f.2.1*x.2*r.2=f.2.1*r.2*x.2:=by grind
    have k3:r.1*f.2.2*x.2=r.1*x.2*f.2.2:=by grind
    rw[k1,k2] at h1
    rw[k3] at h2
    exact Int.le_of_mul_le_mul_right (Int.le_trans h1 h2) hD
   ·rcases List.mem_cons.mp hg with rfl | hg
    ·exact a2
    ·exact a3 g hg
   ·rcases a4 with a4 | ⟨g,hg,a4⟩
    ·exact⟨f,List.mem_cons_self,a4⟩
    ·exact⟨g,List.mem_cons_of_mem _ hg,a4⟩
  ·have e:lfStep r f=r:=by unfold lfStep;rw[if_neg c]
   have e2:(f::fs).foldl lfStep r=fs.foldl lfStep r:=by show fs.foldl lfStep (lfStep r f)=_;rw[e]
   obtain⟨a1,a2,a3,a4⟩:=lfold_go fs r h fun g hg=>hf g (List.mem_cons_of_mem _ hg)
   rw[e2,e]
   generalize fs.foldl lfStep r=x at a1 a2 a3 a4 ⊢
   refine⟨a1,a2,fun g hg=>?_,?_⟩
   ·rcases List.mem_cons.mp hg with rfl | hg
    ·have h1:=Int.mul_le_mul_of_nonneg_right a2 (by omega:0≤g.2.2)
     have h2:=Int.mul_le_mul_of_nonneg_right (Int.not_lt.mp c) (by omega:0≤x.2)
     have k1:x.1*r.2*g.2.2=x.1*g.2.2*r.2:=by grind
     have k2:r.1*x.2*g.2.2=r.1*g.2.2*x.2:=by grind
     have k3:g.2.1*r.2*x.2=g.2.1*x.2*r.2:=by grind
     rw[k1,k2] at h1
     rw[k3] at h2
     exact Int.le_of_mul_le_mul_right (Int.le_trans h1 h2) h
    ·exact a3 g hg
   ·exact a4.imp id fun ⟨g,hg,e⟩=>⟨g,List.mem_cons_of_mem _ hg,e⟩
def fndL(R D:Nat→Int)(O:List Nat):List (Nat×Int×Int):=(O.filter fun i=>decide (0 < D i)).map fun i=>(i,R i,D i)
theorem ord_all:∀ m,m≤6→∀ i,i < 2 ^ m→i∈ordL (2 ^ m):=by decide +kernel
theorem low_le{n u a b:Int}(hu:0 < u)(h:n*a≤b*u):(low n u).1*a≤b*(low n u).2:=by
 have x:=low_x (n:=n) hu
 have p:=low_pos (n:=n) hu
 generalize low n u=q at x p ⊢
 have h1:=Int.mul_le_mul_of_nonneg_right h (by omega:0≤q.2)
 have k1:n*a*q.2=q.1*a*u:=by grind
 have k2:b*u*q.2=b*q.2*u:=by grind
 rw[k1,k2] at h1
 exact Int.le_of_mul_le_mul_right h1 hu
theorem lf_lvl{R D:Nat→Int}{m:Nat}(hm:m≤6):Lvl R D (2 ^ m) (low (lfold (fndL R D (ordL (2 ^ m)))).1 (lfold (fndL R D (ordL (2 ^ m)))).2):=by
 have hp:∀ f∈fndL R D (ordL (2 ^ m)),0 < f.2.2:=fun f hf=>by
  obtain⟨i,hi,rfl⟩:=List.mem_map.mp hf
  exact of_decide_eq_true (List.mem_filter.mp hi).2
 obtain⟨a1,a2,a3,a4⟩:=lfold_go (fndL R D (ordL (2 ^ m))) (1,1) (by decide) hp
 have ex:(fndL R D (ordL (2 ^ m))).foldl lfStep (1,1)=lfold (fndL R D (ordL (2 ^ m))):=rfl
 rw[ex] at a1 a2 a3 a4
 generalize lfold (fndL R D (ordL (2 ^ m)))=x at a1 a2 a3 a4 ⊢
 have a2':x.1*1≤1*x.2:=a2
 refine⟨low_pos a1,low_cop a1,?_,fun i hi hD=>?_,?_⟩
 ·have:=low_le (a:=1) (b:=1) a1 (by omega)
  omega
 ·exact low_le a1 (a3 (i,R i,D i) (List.mem_map.mpr ⟨i,List.mem_filter.mpr ⟨ord_all m hm i hi,decide_eq_true hD⟩,rfl⟩))
 ·rcases a4 with rfl | ⟨f,hf,rfl⟩
  ·exact .inl (by decide)
  ·obtain⟨i,hi,rfl⟩:=List.mem_map.mp hf
   obtain⟨h1,h2⟩:=List.mem_filter.mp hi
   exact .inr ⟨i,ord_lt h1,of_decide_eq_true h2,low_x (of_decide_eq_true h2)⟩
theorem Lvl.zero{R D:Nat→Int}:Lvl R D 0 (1,1):=⟨by decide,by decide,by decide,fun i hi=>by omega,.inl rfl⟩
theorem Lvl.skip{R D:Nat→Int}{j:Nat}{r:Int×Int}(a:Lvl R D j r)(h:¬ 0 < D j):Lvl R D (j+1) r :=
 ⟨a.pos,a.cop,a.one,fun i hi hD=>a.le i (by
  by_cases e:i=j
  ·subst e;exact absurd hD h
  ·omega) hD,a.at'.imp id fun ⟨i,hi,z⟩=>⟨i,by omega,z⟩⟩
theorem Lvl.stay{R D:Nat→Int}{j:Nat}{r:Int×Int}(a:Lvl R D j r)(h:0 < D j)(n:¬ (low (R j) (D j)).1*r.2 < r.1*(low (R j) (D j)).2):Lvl R D (j+1) r:=by
 refine⟨a.pos,a.cop,a.one,fun i hi hD=>?_,a.at'.imp id fun ⟨i,hi,z⟩=>⟨i,by omega,z⟩⟩
 by_cases e:i=j
 ·subst e
  have x:=low_x (n:=R i) hD
  have p:=low_pos (n:=R i) hD
  generalize low (R i) (D i)=q at x p n
  have h1:=Int.mul_le_mul_of_nonneg_right (Int.not_lt.mp n) (by omega:0≤D i)
  have k2:q.1*r.2*D i=R i*r.2*q.2:=by grind
  have k1:r.1*q.2*D i=r.1*D i*q.2:=by grind
  rw[k1,k2] at h1
  exact Int.le_of_mul_le_mul_right h1 p
 ·exact a.le i (by omega) hD
theorem Lvl.fall{R D:Nat→Int}{j:Nat}{r:Int×Int}(a:Lvl R D j r)(h:0 < D j)(n:(low (R j) (D j)).1*r.2 < r.1*(low (R j) (D j)).2):Lvl R D (j+1) (low (R j) (D j)):=by
 have x:=low_x (n:=R j) h
 have p:=low_pos (n:=R j) h
 have r0:=a.pos
 refine⟨p,low_cop h,?_,fun i hi hD=>?_,.inr ⟨j,by omega,h,x⟩⟩
 ·generalize low (R j) (D j)=q at x p n ⊢
  have h1:=Int.mul_le_mul_of_nonneg_right a.one (by omega:0≤q.2)
  have:q.1*r.2 < q.2*r.2:=by
   have:r.2*q.2=q.2*r.2:=Int.mul_comm _ _
   omega
  exact Int.le_of_lt (Int.lt_of_mul_lt_mul_right this (by omega))
 ·by_cases e:i=j
  ·subst e
   exact Int.le_of_eq x
  ·have h0:=a.le i (by omega) hD
   generalize low (R j) (D j)=q at x p n ⊢
   have h1:=Int.mul_le_mul_of_nonneg_right (Int.le_of_lt n) (by omega:0≤D i)
   have h2:=Int.mul_le_mul_of_nonneg_right h0 (by omega:0≤q.2)
   have k1:q.1*r.2*D i=q.1*D i*r.2:=by grind
   have k2:r.1*q.2*D i=r.1*D i*q.2:=by grind
   have k3:R i*r.2*q.2=R i*q.2*r.2:=by grind
   rw[k1,k2] at h1
   rw[k3] at h2
   exact Int.le_of_mul_le_mul_right (Int.le_trans h1 h2) r0
def tightB(R D:Nat→Int)(r:Int×Int)(i:Nat):Bool:=decide (0 < D i) && decide (low (R i) (D i)=r)
theorem tight_none{R D:Nat→Int}{j:Nat}{r:Int×Int}(a:Lvl R D j r)(h:0 < D j)(n:(low (R j) (D j)).1*r.2 < r.1*(low (R j) (D j)).2):(List.range j).filter (tightB R D (low (R j) (D j)))=[]:=by
 refine List.filter_eq_nil_iff.mpr fun i hi e=>?_
 unfold tightB at e
 rw[Bool.and_eq_true,decide_eq_true_eq,decide_eq_true_eq] at e
 obtain⟨hD,e⟩:=e
 have h0:=a.le i (List.mem_range.mp hi) hD
 have x:=low_x (n:=R i) hD
 rw[e] at x
 have p:=low_pos (n:=R j) h
 generalize low (R j) (D j)=q at x p n
 have h1:=Int.mul_lt_mul_of_pos_right n hD
 have h2:=Int.mul_le_mul_of_nonneg_right h0 (by omega:0≤q.2)
 have k1:q.1*r.2*D i=R i*r.2*q.2:=by grind
 have k2:r.1*q.2*D i=r.1*D i*q.2:=by grind
 omega
theorem tight_iff{R D:Nat→Int}{r:Int×Int}{i:Nat}(hp:0 < r.2)(hc:Int.gcd r.1 r.2=1)(hD:0 < D i):low (R i) (D i)=r↔D i*r.1=R i*r.2:=by
 constructor
 ·intro e
  have x:=low_x (n:=R i) hD
  rw[e] at x
  rw[Int.mul_comm]
  exact x
 ·intro e
  exact low_of hD hp hc (by rw[← e,Int.mul_comm])
theorem over_low{U R D:Int}{a b:Int×Int}(hU:0 < U)(ha:Ok U a)(hb:Ok U b)(ea:num U a=R)(eb:num U b=D)(hD:0 < D):0 < b.1∧low (a.1*b.2) (a.2*b.1)=low R D:=by
 have x:=num_mul ha
 have y:=num_mul hb
 rw[ea] at x
 rw[eb] at y
 have p1:=ha.pos
 have p2:=hb.pos
 have hb1:0 < b.1:=by
  have h1:0 < D*b.2:=Int.mul_pos hD p2
  by_cases z:0 < b.1
  ·exact z
  ·have:b.1*U≤0:=Int.mul_nonpos_of_nonpos_of_nonneg (by omega) (by omega)
   omega
 refine⟨hb1,low_same (Int.mul_pos p1 hb1) hD ?_⟩
 refine Int.eq_of_mul_eq_mul_right (a:=U) (by omega) ?_
 grind
theorem pos_num{U:Int}{p:Int×Int}(hU:0 < U)(h:Ok U p):0 < p.1↔0 < num U p:=by
 have:=lt_num hU (zero_ok (U:=U)) h
 have e:num U (0,1)=0:=by unfold num;exact Int.zero_mul _
 rw[e] at this
 simp only[Int.zero_mul,Int.mul_one] at this
 exact this
theorem less_ok{U:Int}(hU:0 < U){a b:Int×Int}(ha:Ok U a)(hb:Ok U b):low (a.1*b.2 - b.1*a.2) (a.2*b.2)=low (num U a - num U b) U:=by
 refine low_same (Int.mul_pos ha.pos hb.pos) hU ?_
 have:=num_mul ha
 have:=num_mul hb
 grind
theorem atI_range{α:Type}{n i:Nat}(f:Nat→α)(g:α→V)(h:i < n):atI (((List.range n).map f).map g) (i:Int)=some (g (f i)):=by
 refine atI_nat ?_
 rw[List.getElem?_map,List.getElem?_map,List.getElem?_range h]
 rfl
end Toy
namespace L2
open PySem
section
variable {σ:St}{H:Hp}{Q:VK}{D:Ends}{te ta tb:TE}{t u:TS}{c c':TT}{tr:TA}{x y:V}{xs ys:List V}{v:V}{i j:Int}{p:Addr}
theorem i_setN{R:Hp→Prop}{k:Nat}(hp:H p=some (.lst xs))(e:ixN xs.length i=some k)(ey:xs.set k v=ys)(h:∀ H',H' p=some (.lst ys)→Fr1 p H H'→R H'):rSetL (.ref p) (.int i) v H R :=
 ⟨p,xs,i,k,rfl,rfl,hp,e,ey▸h _ (ey▸upd_same) Fr1.upd⟩
theorem mul_mod_ok{a b:Int}:IntMulOk (a % 2147483647) (b % 2147483647):=Sz.okR (k:=31) (Sz.of (by
 have h1:=Int.emod_nonneg b (by decide:(2147483647:Int)≠0)
 have h2:=Int.emod_lt_of_pos b (by decide:(0:Int) < 2147483647)
 omega)) (by decide)
def NewO(f:List V→HO)(xs:List V)(H:Hp)(Q:VK):Prop:=xs.length≤sizeLine∧∀ p,H p=none→Q (.ref p) (upd H p (f xs))
theorem i_tTup(h:tr σ H fun xs H1=>NewO HO.tup xs H1 Q):tTup tr σ H Q:=h
theorem i_tLst(h:tr σ H fun xs H1=>NewO HO.lst xs H1 Q):tLst tr σ H Q:=h
theorem i_NewO{f:List V→HO}(hl:xs.length≤64)(h:∀ p H',H p=none→Same H H'→H' p=some (f xs)→Q (.ref p) H'):NewO f xs H Q :=
 ⟨Nat.le_trans hl (by decide),fun p hp=>h p _ hp (Same.new hp) upd_same⟩
theorem i_tBM{K:PySem.W.Frag}{T:String}{r:V→List V→Hp→VK→Prop}{to:TE}(h:to σ H fun x H1=>tyV K T x H1∧tr σ H1 fun xs H2=>r x xs H2 Q):tBM K T r to tr σ H Q:=h
theorem i_app{l:Addr}(hl:H l=some (.lst xs))(hz:xs.length≤1000)(h:∀ H',H' l=some (.lst (xs++[y]))→Fr1 l H H'→Q .non H'):rAppend (.ref l) [y] H Q :=
 ⟨l,xs,y,rfl,rfl,hl,Nat.lt_of_le_of_lt hz (by decide),h _ upd_same Fr1.upd⟩
theorem i_ite{b:Bool}{A B:Prop}(h1:b=true→A)(h2:b=false→B):if b=true then A else B:=by
 cases b with
 | true=>rw[if_pos rfl];exact h1 rfl
 | false=>rw[if_neg Bool.false_ne_true];exact h2 rfl
theorem i_itT{A B:Prop}{d:Decidable (true=true)}(h:A):@ite Prop (true=true) d A B:=by rw[if_pos rfl];exact h
theorem i_itF{A B:Prop}{d:Decidable (false=true)}(h:B):@ite Prop (false=true) d A B:=by rw[if_neg Bool.false_ne_true];exact h
theorem i_yes{q:Bool→Hp→Prop}(h:q true H):tYes σ H q:=h
end
theorem fr_new{H H0 H':Hp}{B l:Addr}(f:Fr1 B H H0)(g:Fr1 l H0 H')(hl:H l=none):Fr1 B H H':=fun b o nb hb=>g b o (fun e=>by rw[e,hl] at hb;cases hb) (f b o nb hb)
theorem fr_none{H H':Hp}{B l:Addr}(f:Fr1 B H H')(n:l≠B)(hl:H' l=none):H l=none:=by
 cases e:H l with
 | none=>rfl
 | some o=>rw[f l o n e] at hl;cases hl
end L2
namespace Toy
open PySem L2
theorem BagAt.frm{H H':Hp}{B L F:Addr}(b:BagAt H B L)(f:Fr1 F H H')(nB:F≠B)(nL:F≠L):BagAt H' B L:=by
 obtain⟨ns,i,r,salt,h1,h2,h3⟩:=b
 exact⟨ns,i,r,salt,f _ _ nB.symm h1,f _ _ nL.symm h2,h3⟩
theorem TS.frl{H H':Hp}{l:Addr}{xs:List V}(h:H l=some (.lst xs))(f:Fr1 l H H'):Toy.TS H H':=fun c ys hc=>f c _ (fun e=>by rw[e,h] at hc;cases hc) hc
end Toy
namespace L2
open PySem PySem.Spec PyProof.Rows
section
variable {X:Cx}{tg:Expr}
end
def lowC(c:Nat):Bool:=decide (97≤c) && decide (c≤122)
section
variable {H:Hp}{Q:VK}{z y:Str}{i:Int}
theorem i_tAndV{ta tb:TE}{σ:St}(h:ta σ H fun x H1=>∃ c,x=.bl c∧Brk c (tb σ H1 Q) (Q (.bl false) H1) .mk .mk):tAndV ta tb σ H Q:=h
end
def sg(z:Str):List Nat:=z.cps.toList
theorem same_put{H H2:Hp}{l:Addr}{o:HO}(hl:H l=none)(s:Same H H2):Same H (upd H2 l o):=fun b u hb=>by
 rw[upd_ne (fun z=>by rw[z,hl] at hb;cases hb)]
 exact s b u hb
end L2
namespace Toy
open PySem L2
theorem sum_if{α:Type}(p:α→Bool)(f:α→Int):∀ I:List α,((I.filter p).map f).sum=(I.map fun i=>if p i=true then f i else 0).sum
 | []=>rfl
 | i::I=>by
  rw[List.filter_cons,List.map_cons,List.sum_cons,← sum_if p f I]
  by_cases h:p i=true
  ·rw[if_pos h,if_pos h,List.map_cons,List.sum_cons]
  ·rw[if_neg h,if_neg h,Int.zero_add]
theorem sum_mono{α:Type}{f g:α→Int}:∀{I:List α},(∀ i∈I,f i≤g i)→(I.map f).sum≤(I.map g).sum
 | [],_=>Int.le_refl _
 | i::I,h=>by
  rw[List.map_cons,List.map_cons,List.sum_cons,List.sum_cons]
  exact Int.add_le_add (h i List.mem_cons_self) (sum_mono fun j hj=>h j (List.mem_cons_of_mem _ hj))
theorem sum_lin{α:Type}(c d:Int)(f g:α→Int):∀ I:List α,(I.map fun i=>c*f i+d*g i).sum=c*(I.map f).sum+d*(I.map g).sum
 | []=>by simp
 | i::I=>by
  rw[List.map_cons,List.map_cons,List.map_cons,List.sum_cons,List.sum_cons,List.sum_cons,sum_lin c d f g I]
  grind
theorem sum_sc{α:Type}(c:Int)(f:α→Int):∀ I:List α,(I.map fun i=>c*f i).sum=c*(I.map f).sum
 | []=>by simp
 | i::I=>by
  rw[List.map_cons,List.map_cons,List.sum_cons,List.sum_cons,sum_sc c f I]
  grind
section
variable {I:List Nat}{q hq:Nat→Bool}{a x x':Nat→Int}{n d:Int}
theorem rise_le(hn:0≤n)(ha:∀ i∈I,0≤a i)(hx:∀ i∈I,hq i=true→d*x' i=n*a i)(hx2:∀ i∈I,hq i=false→x' i=x i)(hsub:∀ i,hq i=true→q i=true) :
  d*((I.filter fun i=>!(q i && !hq i)).map x').sum≤d*((I.filter fun i=>!q i).map x).sum+n*((I.filter q).map a).sum:=by
 rw[sum_if,sum_if,sum_if,← sum_sc,← sum_lin]
 refine sum_mono fun i hi=>?_
 cases e:q i with
 | false =>
  have e2:hq i=false:=by
   cases z:hq i with
   | false=>rfl
   | true=>rw[hsub i z] at e;cases e
  simp[e2,hx2 i hi e2]
 | true =>
  cases e2:hq i with
  | true=>simp[hx i hi e2]
  | false=>simp[Int.mul_nonneg hn (ha i hi)]
theorem rise_eq(hx:∀ i∈I,hq i=true→d*x' i=n*a i)(hx2:∀ i∈I,hq i=false→x' i=x i)(hsub:∀ i,hq i=true→q i=true)(hall:∀ i∈I,q i=true→hq i=true) :
  d*((I.filter fun i=>!(q i && !hq i)).map x').sum=d*((I.filter fun i=>!q i).map x).sum+n*((I.filter q).map a).sum:=by
 rw[sum_if,sum_if,sum_if,← sum_sc,← sum_lin]
 refine congrArg List.sum (List.map_congr_left fun i hi=>?_)
 cases e:q i with
 | false =>
  have e2:hq i=false:=by
   cases z:hq i with
   | false=>rfl
   | true=>rw[hsub i z] at e;cases e
  simp[e2,hx2 i hi e2]
 | true=>simp[hall i hi e,hx i hi (hall i hi e)]
end
theorem new_ok{U0 U t D0 R:Int}{due lv:Int×Int}(hU0:0 < U0)(ht:0 < t)(eU:U=U0*t)(hD0:0 < D0)(od:Ok U0 due)(hl:0 < lv.2)(hR:D0*t*lv.1=R*lv.2) :
  Ok (U*D0) (low (lv.1*due.1) (lv.2*due.2))∧num (U*D0) (low (lv.1*due.1) (lv.2*due.2))*lv.2=lv.1*num (U*D0) due:=by
 have hu:=od.pos
 have hb:0 < lv.2*due.2:=Int.mul_pos hl hu
 have hU:0 < U:=by rw[eU];exact Int.mul_pos hU0 ht
 have hV:0 < U*D0:=Int.mul_pos hU hD0
 have x:=low_x (n:=lv.1*due.1) hb
 have y:=num_mul od
 have e:low (R*num U0 due) (U*D0)=low (lv.1*due.1) (lv.2*due.2):=by
  refine low_of hV (low_pos hb) (low_cop hb) ?_
  generalize low (lv.1*due.1) (lv.2*due.2)=p at x ⊢
  generalize num U0 due=N at y ⊢
  refine Int.eq_of_mul_eq_mul_right (a:=lv.2*due.2) (by omega) ?_
  rw[eU]
  have h1:R*N*p.2*(lv.2*due.2)=(R*lv.2)*p.2*(N*due.2):=by grind
  have h2:p.1*(U0*t*D0)*(lv.2*due.2)=(p.1*(lv.2*due.2))*(U0*t*D0):=by grind
  rw[h1,h2,x,y,← hR]
  grind
 have o:Ok (U*D0) (low (lv.1*due.1) (lv.2*due.2)):=by rw[← e];exact Ok.low hV (Int.dvd_refl _)
 refine⟨o,?_⟩
 have z:=num_mul o
 have od2:Ok (U*D0) due:=od.up ⟨t*D0,by rw[eU];grind⟩
 have y2:=num_mul od2
 generalize low (lv.1*due.1) (lv.2*due.2)=p at x z o ⊢
 generalize num (U*D0) due=M at y2 ⊢
 generalize num (U*D0) p=P at z ⊢
 have hp:=o.pos
 refine Int.eq_of_mul_eq_mul_right (a:=p.2*due.2) (by have:=Int.mul_pos hp hu;omega) ?_
 have h1:P*lv.2*(p.2*due.2)=(P*p.2)*(lv.2*due.2):=by grind
 have h2:lv.1*M*(p.2*due.2)=lv.1*p.2*(M*due.2):=by grind
 rw[h1,h2,z,y2]
 have h3:p.1*(U*D0)*(lv.2*due.2)=(p.1*(lv.2*due.2))*(U*D0):=by grind
 rw[h3,x]
 grind
end Toy
namespace L2
open PySem
def Ris(xs:Array Nat):Prop:=xs.toList.Pairwise (· < ·)
theorem Ris.lt{xs:Array Nat}(h:Ris xs){i k:Nat}(hk:k < xs.size)(hik:i < k):xs.getD i 0 < xs.getD k 0:=by
 have hi:i < xs.size:=Nat.lt_trans hik hk
 have:=List.pairwise_iff_getElem.mp h i k (by simpa using hi) (by simpa using hk) hik
 simpa [Array.getD,hi,hk] using this
theorem below_go{xs:Array Nat}(h:Ris xs)(j:Nat):∀(f lo hi:Nat),hi - lo≤f→lo≤hi→hi≤xs.size→(∀ i,i < lo→xs.getD i 0 < j)→(∀ i,hi≤i→i < xs.size→j≤xs.getD i 0) →
  (SetTable.below.go xs j f lo hi≤xs.size∧(∀ i,i < SetTable.below.go xs j f lo hi→xs.getD i 0 < j)∧∀ i,SetTable.below.go xs j f lo hi≤i→i < xs.size→j≤xs.getD i 0)
 | 0,lo,hi,hf,h1,h2,a,b=>by
  have:lo=hi:=by omega
  subst this
  show lo≤xs.size∧_
  exact⟨h2,a,b⟩
 | f+1,lo,hi,hf,h1,h2,a,b=>by
  unfold SetTable.below.go
  by_cases c:lo < hi
  ·rw[if_pos c]
   have hm:(lo+hi) / 2 < xs.size:=by omega
   have e:xs.getD ((lo+hi) / 2) j=xs.getD ((lo+hi) / 2) 0:=by simp[Array.getD,hm]
   show (if xs.getD ((lo+hi) / 2) j < j then _ else _)≤xs.size∧_
   by_cases d:xs.getD ((lo+hi) / 2) j < j
   ·simp only[if_pos d]
    refine below_go h j f _ hi (by omega) (by omega) h2 (fun i hi'=>?_) b
    rw[e] at d
    by_cases z:i=(lo+hi) / 2
    ·rw[z];exact d
    ·exact Nat.lt_trans (h.lt hm (by omega)) d
   ·simp only[if_neg d]
    refine below_go h j f lo _ (by omega) (by omega) (by omega) a fun i hi' hs=>?_
    rw[e] at d
    by_cases z:i=(lo+hi) / 2
    ·rw[z];omega
    ·have:=h.lt hs (by omega:(lo+hi) / 2 < i)
     omega
  ·rw[if_neg c]
   have:lo=hi:=by omega
   subst this
   exact⟨h2,a,b⟩
theorem below_ok{xs:Array Nat}(h:Ris xs)(j:Nat):SetTable.below xs j≤xs.size∧(∀ i,i < SetTable.below xs j→xs.getD i 0 < j)∧∀ i,SetTable.below xs j≤i→i < xs.size→j≤xs.getD i 0 :=
 below_go h j xs.size 0 xs.size (by omega) (by omega) (by omega) (fun i hi=>by omega) fun i h1 h2=>by omega
def stand(xs:Array Nat):Nat→Nat
 | 0=>0
 | i+1=>xs.getD i 0+1
theorem below_stand{xs:Array Nat}(h:Ris xs){i:Nat}(hi:i≤xs.size):SetTable.below xs (stand xs i)=i:=by
 obtain⟨h1,h2,h3⟩:=below_ok h (stand xs i)
 generalize SetTable.below xs (stand xs i)=p at h1 h2 h3
 cases i with
 | zero =>
  have z:stand xs 0=0:=rfl
  rw[z] at h2
  by_cases c:p=0
  ·exact c
  ·have:=h2 0 (by omega)
   omega
 | succ i =>
  have z:stand xs (i+1)=xs.getD i 0+1:=rfl
  rw[z] at h2 h3
  have a:i < p:=by
   by_cases c:i < p
   ·exact c
   ·have:=h3 i (by omega) (by omega)
    omega
  by_cases c:p=i+1
  ·exact c
  ·have:=h2 (i+1) (by omega)
   have:=h.lt (i:=i) (k:=i+1) (by omega) (by omega)
   omega
theorem ins_list{α:Type}(xs:Array α)(p:Nat)(x:α):(SetTable.insertAt xs p x).toList=xs.toList.take p++x::xs.toList.drop p:=by
 unfold SetTable.insertAt
 simp
 exact List.take_of_length_le (by rw[List.length_drop,Array.length_toList];exact Nat.le_refl _)
theorem Ris.put{xs:Array Nat}(h:Ris xs){j:Nat}(hj:xs[SetTable.below xs j]?≠some j):Ris (SetTable.insertAt xs (SetTable.below xs j) j):=by
 obtain⟨h1,h2,h3⟩:=below_ok h j
 generalize SetTable.below xs j=p at h1 h2 h3 hj
 have gd:∀ i (hi:i < xs.size),xs.toList[i]'(by simpa using hi)=xs.getD i 0:=fun i hi=>by simp[Array.getD,hi]
 have up:∀ i,p≤i→i < xs.size→j < xs.getD i 0:=fun i a b=>by
  have c:=h3 i a b
  by_cases z:i=p
  ·subst z
   have:xs[i]?=some (xs.getD i 0):=by simp[Array.getD,b]
   rw[this] at hj
   by_cases y:xs.getD i 0=j
   ·exact absurd (by rw[y]) hj
   ·omega
  ·have:=h.lt b (by omega:p < i)
   have:=h3 p (Nat.le_refl _) (by omega)
   omega
 unfold Ris
 rw[ins_list,List.pairwise_append]
 have hd:∀ b∈xs.toList.drop p,j < b:=fun b hb=>by
  obtain⟨i,hi,rfl⟩:=List.getElem_of_mem hb
  rw[List.length_drop,Array.length_toList] at hi
  rw[List.getElem_drop,gd _ (by omega)]
  exact up _ (by omega) (by omega)
 have ht:∀ a∈xs.toList.take p,a < j:=fun a ha=>by
  obtain⟨i,hi,rfl⟩:=List.getElem_of_mem ha
  rw[List.length_take,Array.length_toList] at hi
  rw[List.getElem_take,gd _ (by omega)]
  exact h2 _ (by omega)
 refine⟨h.sublist (List.take_sublist _ _),List.pairwise_cons.mpr ⟨hd,h.sublist (List.drop_sublist _ _)⟩,fun a ha b hb=>?_⟩
 rcases List.mem_cons.mp hb with rfl | hb
 ·exact ht a ha
 ·exact Nat.lt_trans (ht a ha) (hd b hb)
structure TabOk(L:Bool)(t:SetTable):Prop where
 ris:Ris t.place
 dum:t.dummies=#[]
 led:t.led=L
theorem TabOk.fresh{L:Bool}{f m:Nat}:TabOk L (SetTable.fresh f m L):=⟨List.Pairwise.nil,rfl,rfl⟩
theorem TabOk.plain{L:Bool}{t:SetTable}(h:TabOk L t):TabOk L { t with plain:=false }:=⟨h.ris,h.dum,h.led⟩
theorem TabOk.stand{L:Bool}{t:SetTable}(h:TabOk L t)(n:Nat):TabOk L (t.standIn n):=by
 refine⟨?_,rfl,h.led⟩
 show (Array.range n).toList.Pairwise (· < ·)
 rw[Array.toList_range]
 exact List.pairwise_lt_range
theorem has_nil(j:Nat):SetTable.has #[] j=false:=by
 unfold SetTable.has
 simp
theorem probe_free{t:SetTable}(hd:t.dummies=#[])(hash:Nat→Int)(h:Int):∀(f:Nat)(p:SetTable.Probe)(j:Nat)(d:Option Nat),p.dummy=none→SetTable.probe.go t hash h f p=some (.empty j d)→d=none∧t.slot j=.empty
 | 0,p,j,d,_,e=>by cases e
 | f+1,p,j,d,hp,e=>by
  unfold SetTable.probe.go at e
  have nd:t.slot p.j≠.dummy:=fun z=>by
   unfold SetTable.slot at z
   rw[hd,has_nil] at z
   dsimp only at z
   split at z<;>cases z
  cases hs:t.slot p.j with
  | empty =>
   rw[hs] at e
   cases e
   exact⟨hp,hs⟩
  | dummy=>exact absurd hs nd
  | live i =>
   rw[hs] at e
   dsimp only at e
   have ha:(t.advance p).dummy=none:=by
    unfold SetTable.advance
    split<;>exact hp
   split at e
   ·cases e
   ·exact probe_free hd hash h f _ j d ha e
theorem TabOk.new{L:Bool}{t:SetTable}(h:TabOk L t)(es:Array (Int×Value))(hh:Int)(x:Value):TabOk L (layNew t es hh x).2.1:=by
 unfold layNew
 cases e:t.freeSlot hh with
 | none=>exact h.stand _
 | some q =>
  obtain⟨slot,wd⟩:=q
  dsimp only
  have hs:t.slot slot=.empty:=by
   unfold SetTable.freeSlot at e
   split at e
   ·rename_i j d hm
    obtain⟨hd,h1⟩:=probe_free h.dum _ hh _ _ j d rfl hm
    subst hd
    cases e
    exact h1
   ·cases e
  have hp:TabOk L (t.put slot).1:=by
   refine⟨h.ris.put fun z=>?_,?_,h.led⟩
   ·unfold SetTable.slot at hs
    simp[z] at hs
   ·show (if SetTable.has t.dummies slot=true then _ else t.dummies)=#[]
    rw[h.dum,has_nil]
    rfl
  unfold SetTable.orStandIn
  split
  ·exact hp
  ·exact hp.stand _
theorem TabOk.relay{L:Bool}{t:SetTable}(h:TabOk L t)(es:Array (Int×Value))(n:Nat):TabOk L (relayAll t es n).2.1:=by
 unfold relayAll
 cases e:t.relaid (es.map (·.1)) n with
 | none=>exact h.stand _
 | some q =>
  obtain⟨t',order⟩:=q
  dsimp only
  split
  ·unfold SetTable.relaid SetTable.laid at e
   cases hl:SetTable.layClean (SetTable.sizeAbove n - 1) (es.map (·.1)) with
   | none=>rw[hl] at e;cases e
   | some owner =>
    rw[hl] at e
    cases e
    refine⟨?_,rfl,h.led⟩
    show List.Pairwise _ (List.map _ _).toArray.toList
    rw[List.toList_toArray]
    refine List.Pairwise.map _ (fun a b hab=>hab) (R:=fun a b:Nat×Nat=>a.1 < b.1) ?_
    refine List.Pairwise.filterMap (R:=(· < ·)) _ (fun a b hab c hc d hd=>?_) List.pairwise_lt_range
    simp only[Option.map_eq_some_iff] at hc hd
    obtain⟨_,_,rfl⟩:=hc
    obtain⟨_,_,rfl⟩:=hd
    exact hab
  ·exact h.stand _
def keyOf:Int×Value→Int
 | (_,.int k _)=>k
 | _=>0
abbrev setO(es:Array (Int×Value))(ep:Nat)(t:SetTable):Obj:={ cls:=.type "set", dict:=none,data:=.set es ep t }
structure SetAt(h:Heap)(S:Addr)(L:Bool)(es:Array (Int×Value))(ep:Nat)(t:SetTable):Prop where
 at':h.get? S=some (setO es ep t)
 sh:∀ e∈es.toList,∃ k tk,e=(hashInt k,Value.int k tk)
 nd:(es.toList.map keyOf).Nodup
 sz:es.size < 100
 fit:t.fits es.size=true
 tab:TabOk L t
theorem SetAt.to{h h':Heap}{S:Addr}{L:Bool}{es:Array (Int×Value)}{ep:Nat}{t:SetTable}(x:SetAt h S L es ep t)(k:∀ o,h.get? S=some o→h'.get? S=some o):SetAt h' S L es ep t:=⟨k _ x.at',x.sh,x.nd,x.sz,x.fit,x.tab⟩
section
variable {prog:Program}{w:World}{A:Around}{E:Value→Shared→Prop}{s:Shared}{S:Addr}{L:Bool}{es:Array (Int×Value)}{ep:Nat}{t:SetTable}
theorem SetAt.el(x:SetAt s.heap S L es ep t):ElemsOf (intKind prog w) es.toList:=fun e he=>by
 obtain⟨k,tk,rfl⟩:=x.sh e he
 exact⟨⟨k,intKind_is prog w k tk,rfl⟩,rfl⟩
theorem set_put{h:Heap}{es':Array (Int×Value)}{t':SetTable}(ho:h.get? S=some (setO es ep t)):(h.update S (Obj.putSet es' t')).get? S=some (setO es' (ep+1) t'):=by
 have e:=putSet_of (o:=setO es ep t) es' t' rfl
 have:=Heap.get?_update_self (Obj.putSet es' t') ho (by rw[e];rfl)
 rwa [e] at this
theorem set_add{k:Int}{tk:Tok}{Q:Bool→Shared→Prop}(x:SetAt s.heap S L es ep t)(hz:es.size+1 < 100)(h0:k∈es.toList.map keyOf→Q false s)
  (h1:k∉es.toList.map keyOf→∀ h' es' ep' t',Heap.SameBut S s.heap h'→SetAt h' S L es' ep' t'→(es'.toList.map keyOf).Perm (es.toList.map keyOf++[k])→Q true { s with heap:=h' }) :
  wpAny (model prog w) A (setAddHashed S (.int k tk) ((intKind prog w).hash k)) Q E s:=by
 have hk:=intKind_is prog w k tk
 have el:ElemsOf (intKind prog w) es.toList:=x.el
 have sb:es.size < scanBound:=Nat.lt_trans x.sz (by decide)
 unfold setAddHashed setAddHashedIn
 refine wpAny_holding (wpAny_bind (wpAny_setState_of x.at' rfl x.fit ?_))
 dsimp only
 rw[byScan_of rfl sb el,if_pos rfl]
 unfold setAddByScan
 refine wpAny_bind (wpAny_bind (wpAny_rule (wpAny_bind (wpAny_setScan_of hk x.at' rfl x.fit el ?_))))
 have isk:∀ e∈es.toList,((intKind prog w).is k e.2=true↔keyOf e=k):=fun e he=>by
  obtain⟨k',t',rfl⟩:=x.sh e he
  constructor
  ·intro z
   exact (intKind prog w).inj _ _ _ (intKind_is prog w k' t') z
  ·intro z
   have z:k'=k:=z
   subst z
   exact intKind_is prog w k' t'
 cases hr:es.toList.findIdx? (fun e=>(intKind prog w).is k e.2) with
 | some j =>
  obtain⟨hj,hp,_⟩:=List.findIdx?_eq_some_iff_getElem.mp hr
  have hm:=List.getElem_mem hj
  exact wpAny_pure (wpAny_pure (h0 (List.mem_map.mpr ⟨_,hm,(isk _ hm).mp hp⟩)))
 | none =>
  have hn:k∉es.toList.map keyOf:=fun z=>by
   obtain⟨e,he,ek⟩:=List.mem_map.mp z
   have a:=List.findIdx?_eq_none_iff.mp hr e he
   rw[(isk e he).mpr ek] at a
   cases a
  have fin:=h1 hn
  clear h0 h1
  have pm:=layNew_perm t es ((intKind prog w).hash k) (.int k tk)
  have ft:=layNew_fits t es ((intKind prog w).hash k) (.int k tk)
  have tb:=x.tab.new es ((intKind prog w).hash k) (.int k tk)
  generalize layNew t es ((intKind prog w).hash k) (.int k tk)=Y at pm ft tb
  obtain⟨es1,t1,wd,gv⟩:=Y
  dsimp only at pm ft tb ⊢
  rw[Array.toList_push] at pm
  have sh1:∀ e∈es1.toList,∃ k tk,e=(hashInt k,Value.int k tk):=fun e he=>by
   rcases List.mem_append.mp (pm.mem_iff.mp he) with he | he
   ·exact x.sh e he
   ·rw[List.mem_singleton.mp he]
    exact⟨k,tk,rfl⟩
  have pk:(es1.toList.map keyOf).Perm (es.toList.map keyOf++[k]):=by
   have:=pm.map keyOf
   rwa [List.map_append] at this
  have nd1:(es1.toList.map keyOf).Nodup:=pk.nodup_iff.mpr (List.nodup_append.mpr ⟨x.nd,by simp,fun a ha b hb z=>hn (by rw[← List.mem_singleton.mp hb,← z];exact ha)⟩)
  have sz1:es1.size < 100:=by
   have:=pm.length_eq
   rw[List.length_append,Array.length_toList,Array.length_toList] at this
   have:([((intKind prog w).hash k,Value.int k tk)]:List (Int×Value)).length=1:=rfl
   omega
  have gw:∀(b:Bool)(s₁:Shared)(R:Unit→Shared→Prop),R () s₁→wpAny (model prog w) A (match b with | true=>rule "set.scan.the-table-gave-way" | false=>pure ()) R E s₁:=fun b s₁ R q=>by
   cases b
   ·exact wpAny_pure q
   ·exact wpAny_rule q
  refine wpAny_bind (gw gv _ _ ?_)
  have tail:∀ t2,TabOk L t2→t2.fits es1.size=true→wpAny (model prog w) A (do
    storeSet S es1 t2
    if (!wd && t2.tooFull)=true then do
      (match (relayAll t2 es1 (SetTable.grown es1.size)).2.2 with | true=>rule "set.scan.the-table-gave-way" | false=>pure ())
      storeSet S (relayAll t2 es1 (SetTable.grown es1.size)).1 (relayAll t2 es1 (SetTable.grown es1.size)).2.1
      pure (some true)
     else pure (some true)) (fun a s'=>wpAny (model prog w) A (match a with | some added=>pure added | none=>setAddHashedIn S (.int k tk) ((intKind prog w).hash k) 99999) Q E s') E s:=fun t2 tb2 ft2=>by
   refine wpAny_bind (wpAny_storeSet_of x.at' rfl ?_ (fits_of_scanBound (Nat.lt_trans sz1 (by decide))))
   have o1:=set_put (es':=es1) (t':=t2) x.at'
   have b1:=Heap.SameBut.update s.heap S (Obj.putSet es1 t2)
   split
   ·have pm2:=relayAll_perm t2 es1 (SetTable.grown es1.size)
    have ft3:=relayAll_fits t2 es1 (SetTable.grown es1.size)
    have tb3:=tb2.relay es1 (SetTable.grown es1.size)
    generalize relayAll t2 es1 (SetTable.grown es1.size)=Y at pm2 ft3 tb3 ⊢
    obtain⟨es2,t3,gv2⟩:=Y
    dsimp only at pm2 ft3 tb3 ⊢
    have sz2:es2.size < 100:=by
     have:=pm2.length_eq
     rw[Array.length_toList,Array.length_toList] at this
     omega
    refine wpAny_bind (gw gv2 _ _ (wpAny_bind (wpAny_storeSet_of o1 rfl ?_ (fits_of_scanBound (Nat.lt_trans sz2 (by decide))))))
    have o2:=set_put (es':=es2) (t':=t3) o1
    have pk2:=(pm2.map keyOf).trans pk
    exact wpAny_pure (wpAny_pure (fin _ es2 _ t3 (b1.trans (Heap.SameBut.update _ S _)) ⟨o2,fun e he=>sh1 e (pm2.mem_iff.mp he),(pm2.map keyOf).nodup_iff.mpr nd1,sz2,ft3,tb3⟩ pk2))
   ·exact wpAny_pure (wpAny_pure (fin _ es1 _ t2 b1 ⟨o1,sh1,nd1,sz1,ft2,tb2⟩ pk))
  split
  ·rw[hashByValue_scannable 8 rfl]
   refine wpAny_bind (wpAny_pure ?_)
   exact tail _ (by split;exact tb;exact tb.plain) (by split;exact ft;exact SetTable.fits_plain_off ft)
  ·refine wpAny_bind (wpAny_pure ?_)
   rw[if_pos rfl]
   exact tail _ tb ft
theorem set_loop{R:Result→Shared→Prop}{I l:Addr}{items:Array Value}{ns:List Int}(hh:A.in1.handled=none)(nI:l≠I)(nS:S≠I)(nl:S≠l)(hi:PyProof.Rows.IntsAre items.toList ns)(h16:items.size≤64) :
  ∀(m i:Nat)(s:Shared) (es:Array (Int×Value)) (ep:Nat) (t:SetTable),items.size - i=m→i≤items.size→s.heap.IsListIter I l i∧s.heap.IsList l items→SetAt s.heap S L es ep t→es.size≤i→(∀ k,k∈es.toList.map keyOf↔k∈ns.take i) →
   (∀ h' tk es' ep' t',(∀ b o,b≠S→b≠I→s.heap.get? b=some o→h'.get? b=some o)→SetAt h' S L es' ep' t'→(∀ k,k∈es'.toList.map keyOf↔k∈ns)→es'.size≤items.size→R (.ok (.ret .none)) { s with heap:=h',toks:=tk }) →
   codeAny (model prog w) A (.builtin "set.update.loop" ⟨[.ref S,.ref I],[]⟩) R s:=by
 have W:=Walks.list (prog:=prog) (w:=w) hh I l nI items
 have hl:items.size=ns.length:=by
  have:=PyProof.Rows.IntsAre.length hi
  rwa [Array.length_toList] at this
 intro m
 induction m with
 | zero =>
  intro i s es ep t hm hle st x hz hk hR
  have e:i=items.size:=by omega
  subst e
  refine codeAny_builtin PyProof.Rows.F.entry_set_update_loop ?_
  rw[Around.under_plainId PyProof.Rows.F.plain_set_update_loop]
  show wpAny _ A.in1 (pyNext (.ref I) >>= _) _ _ _
  refine wpAny_bind (W.done s _ _ st fun h' tk kp=>wpAny_pure (hR h' tk es ep t (fun b o _ b2 e=>kp b o (by simpa using b2) e) (x.to fun o e=>kp S o (by simpa using nS) e) (fun k=>?_) hz))
  rw[hk,hl,List.take_length]
 | succ m ih =>
  intro i s es ep t hm hle st x hz hk hR
  have hlt:i < items.size:=by omega
  have hlt2:i < ns.length:=by omega
  refine codeAny_builtin PyProof.Rows.F.entry_set_update_loop ?_
  rw[Around.under_plainId PyProof.Rows.F.plain_set_update_loop]
  show wpAny _ A.in1 (pyNext (.ref I) >>= _) _ _ _
  refine wpAny_bind (W.item i s _ _ hlt st fun v h1 tk1 pv st1 kp=>?_)
  obtain⟨tv,rfl⟩:=PyProof.Rows.IntsAre.int_at hi i v (by rw[Array.getElem?_toList];exact pv)
  have x1:SetAt h1 S L es ep t:=x.to fun o e=>kp S o (by simpa using nS) e
  have hd:ns.getD i 0=ns[i]:=by simp[List.getD_eq_getElem?_getD,hlt2]
  have tk':ns.take (i+1)=ns.take i++[ns[i]]:=List.take_succ_eq_append_getElem hlt2
  rw[hd]
  show wpAny _ A.in1 (holding [Value.int ns[i] tv] (setAdd S (.int ns[i] tv)) >>= _) _ _ _
  unfold setAdd
  refine wpAny_bind (wpAny_holding (wpAny_holding (wpAny_bind ((intKind prog w).pyHash (k:=ns[i]) (intKind_is _ _ _ _) ?_))))
  have keep:∀(h2:Heap),(∀ b o,b≠S→h1.get? b=some o→h2.get? b=some o)→h2.IsListIter I l (i+1)∧h2.IsList l items:=fun h2 kk=>W.frame _ _ _ st1 fun b hb o e=>kk b o (fun z=>by
   rw[z] at hb
   simp at hb
   rcases hb with hb | hb
   ·exact nS hb
   ·exact nl hb) e
  refine set_add (s:={ s with heap:=h1,toks:=tk1+1 }) x1 (by omega) (fun hm=>?_) fun hm h2 es2 ep2 t2 sb x2 pm=>?_
  ·refine wpAny_pure ⟨plainId_quiet PyProof.Rows.F.plain_set_update_loop _,ih (i+1) _ es ep t (by omega) hlt (keep h1 fun _ _ _ e=>e) x1 (by omega) (fun k=>?_) fun h' tk es' ep' t' kk x' hk' hz'=>?_⟩
   ·rw[hk,tk',List.mem_append,List.mem_singleton]
    constructor
    ·exact .inl
    ·rintro (z | rfl)
     ·exact z
     ·exact (hk _).mp hm
   ·exact hR h' tk es' ep' t' (fun b o b1 b2 e=>kk b o b1 b2 (kp b o (by simpa using b2) e)) x' hk' hz'
  ·have sz2:es2.size=es.size+1:=by
    have:=pm.length_eq
    rw[List.length_append,List.length_map,List.length_map,Array.length_toList,Array.length_toList] at this
    exact this
   have kS:∀ b o,b≠S→h1.get? b=some o→h2.get? b=some o:=fun b o nb e=>by
    rw[sb.2 b nb]
    exact e
   refine wpAny_pure ⟨plainId_quiet PyProof.Rows.F.plain_set_update_loop _,ih (i+1) _ es2 ep2 t2 (by omega) hlt (keep h2 kS) x2 (by omega) (fun k=>?_) fun h' tk es' ep' t' kk x' hk' hz'=>?_⟩
   ·rw[pm.mem_iff,List.mem_append,hk,tk',List.mem_append]
   ·exact hR h' tk es' ep' t' (fun b o b1 b2 e=>kk b o b1 b2 (kS b o b1 (kp b o (by simpa using b2) e))) x' hk' hz'
end
end L2
namespace L2
open PySem
section
variable {prog:Program}{w:World}{A:Around}{E:Value→Shared→Prop}{s:Shared}
abbrev byT(w:World):Bool:=w.params.followText "set-order"
abbrev set0(w:World):Obj:=setO #[] 0 (.fresh 0 0 (!byT w))
theorem set_new(a:Value){Q₁:Value→Shared→Prop}(h:Q₁ (.ref s.heap.objs.size) { s with heap:=s.heap.push (set0 w) }) :
  codeAny (model prog w) A (.call (.builtin "set.__new__") ⟨[.type "set", a],[]⟩) (wants Q₁ E) s:=by
 refine codeAny_of_tree ?_
 show wpAny _ A.in1 (checkBuiltinCall "set.__new__" ⟨[.type "set", a],[]⟩ >>= fun _=>again (.builtin "set.__new__" ⟨[.type "set", a],[]⟩)) _ _ s
 refine wpAny_bind (wpAny_of_eq (PySem.F.newCall_set_1 _) (wpAny_pure ⟨plainId_quiet PySem.F.plain_set_new _,codeAny_builtin PySem.F.entry_set_new ?_⟩))
 rw[Around.under_plainId PySem.F.plain_set_new]
 unfold Builtin.«set.__new__» Builtin.Frozenset.newClass
 have sub:=sub_set_self
 obtain⟨hp,g,d,tk,os⟩:=s
 dsimp only
 wp_walk
 refine wpAny_askSetting (wpAny_pure ?_)
 simp only[newObj]
 exact wpAny_bind (wpAny_alloc (wpAny_pure (wpAny_pure h)))
theorem set_of_list{l:Addr}{items:Array Value}{ns:List Int}{Q:Value→Shared→Prop}(hh:A.handled=none)(hl:s.heap.IsList l items)(hi:PyProof.Rows.IntsAre items.toList ns)(h64:items.size≤64)
  (h:∀ h' tk es ep t,SetAt h' s.heap.objs.size (!byT w) es ep t→(∀ k,k∈es.toList.map keyOf↔k∈ns)→es.size≤items.size→(∀ b o,s.heap.get? b=some o→h'.get? b=some o)→Q (.ref s.heap.objs.size) { s with heap:=h',toks:=tk }) :
  wpAny (model prog w) A (call (.type "set") [.ref l]) Q E s:=by
 have cs:=PySem.F.called_set
 obtain⟨c,tl,hmro⟩:=cs.mro
 have hmade:=cs.made
 have hsub:=cs.sub
 refine wpAny_call (codeAny_of_tree ?_)
 show wpAny _ _ (callAny (.type "set") ⟨[.ref l],[]⟩) _ _ _
 refine wpAny_pure ⟨Code.quiet_builtin _ (by decide +kernel),codeAny_builtin F.entry_type_call ?_⟩
 rw[Around.under_plain (weight_type_call_type "set" [.ref l] []) rfl]
 have h1:=cs.notType
 have h2:=cs.canCreate
 have hct:=PySem.F.typeCall_set_1 (.ref l)
 repeat (any_goals (first | assumption | wp_step))
 refine codeAny_mono (set_new (.ref l) (E:=E) (Q₁:=fun ob s₁=>ob=.ref s.heap.objs.size∧s₁={ s with heap:=s.heap.push (set0 w) }) ⟨rfl,rfl⟩) fun r s₁ hr=>?_
 cases r with
 | error e=>exact hr
 | ok fl =>
  cases fl with
  | ret obj =>
   obtain⟨rfl,rfl⟩:=hr
   have hS:(s.heap.push (set0 w)).get? s.heap.objs.size=some (set0 w):=Heap.get?_push_size _ rfl
   have hT:Shared.TypeIs { s with heap:=s.heap.push (set0 w) } (.ref s.heap.objs.size) "set" := ⟨_,hS,rfl⟩
   have hli:=cs.init.lookup
   have hbi:=cs.init.bind (.ref s.heap.objs.size)
   repeat (any_goals (first | assumption | wp_step))
   refine codeAny_mono (codeAny_call_builtin (R:=wants (fun r s₂=>r=.none∧∃ h' tk es ep t,s₂={ s with heap:=h',toks:=tk }∧SetAt h' s.heap.objs.size (!byT w) es ep t∧(∀ k,k∈es.toList.map keyOf↔k∈ns)∧es.size≤items.size∧∀ b o,s.heap.get? b=some o→h'.get? b=some o) E) cs.init.plain PySem.F.entry_set_init (check_set_init_1 hT ?_)) fun r₂ s₂ hr₂=>?_
   ·obtain⟨ol,hol,hcl,nl,hdl⟩:=hl
    obtain⟨oc,od,odt,osl⟩:=ol
    simp only at hcl hdl
    subst hcl hdl
    have hol':=Heap.get?_push_of_some (set0 w) hol
    have hl1:(s.heap.push (set0 w)).IsList l items:=⟨_,hol',rfl,nl,rfl⟩
    have q1:=PySem.F.sub_list_set
    have q2:=PySem.F.sub_list_frozenset
    have q3:(Value.type "list" == Value.type "dict")=false:=by decide
    unfold Builtin.«set.__init__» noKeywords Builtin.Frozenset.updateFrom
    generalize eP:pyIter=PI
    wp_walk
    subst eP
    refine wpAny_pyIter_list hl1 (wpAny_bind (wpAny_runValue ?_))
    have lS:l < s.heap.objs.size:=Heap.lt_size hol
    have sz:(s.heap.push (set0 w)).objs.size=s.heap.objs.size+1:=Heap.size_push _ _
    have nI:l≠(s.heap.push (set0 w)).objs.size:=by rw[sz];exact Nat.ne_of_lt (Nat.lt_succ_of_lt lS)
    have nS:s.heap.objs.size≠(s.heap.push (set0 w)).objs.size:=by rw[sz];exact Nat.ne_of_lt (Nat.lt_succ_self _)
    have x0:SetAt ((s.heap.push (set0 w)).push { cls:=.type "list_iterator", data:=.fields #[.ref l,.int 0 0] }) s.heap.objs.size (!byT w) #[] 0 (.fresh 0 0 (!byT w)):=⟨Heap.get?_push_of_some _ hS,(fun e he=>by simp at he),List.Pairwise.nil,by decide,rfl,TabOk.fresh⟩
    refine set_loop (L:=!byT w) (items:=items) (ns:=ns) (by simp[hh]) nI nS (Nat.ne_of_gt lS) hi h64 items.size 0 _ #[] 0 _ rfl (Nat.zero_le _) ⟨⟨_,Heap.get?_push_size _ rfl,rfl,rfl⟩,hl1.push _⟩ x0 (Nat.le_refl _) (fun k=>by simp) fun h' tk es' ep' t' kp x' hk' hz'=>?_
    refine wpAny_pure (wpAny_pure ⟨rfl,h',tk,es',ep',t',rfl,x',hk',hz',fun b o e=>?_⟩)
    have bl:=Heap.lt_size e
    exact kp b o (Nat.ne_of_lt bl) (by rw[sz];exact Nat.ne_of_lt (Nat.lt_succ_of_lt bl)) (Heap.get?_push_of_some _ (Heap.get?_push_of_some _ e))
   ·cases r₂ with
    | error e=>exact hr₂
    | ok f2 =>
     cases f2 with
     | ret r =>
      obtain⟨rfl,h',tk,es,ep,t,rfl,x,hk,hz,kp⟩:=hr₂
      repeat (any_goals (first | assumption | wp_step))
      exact h h' tk es ep t x hk hz kp
     | _=>exact hr₂.elim
  | _=>exact hr.elim
end
end L2
namespace L2
open PySem
theorem slot_it:Slot "set_iterator" "__next__" "set_iterator.__next__" := by
 refine Slot.of (owner := "set_iterator") (n := "__next__") ?_ (by decide +kernel) (by decide +kernel) (by decide +kernel) ?_ ?_
 ·rw[typeLookup_type,builtinLookup_eq_fast];kernel_rfl
 ·first | exact Or.inl (by decide +kernel) | exact Or.inr (by decide +kernel)
 ·rw[isSubtype_type];kernel_rfl
theorem ent_it:entryFor table "set_iterator.__next__" = some Builtin.«set_iterator.__next__»:=by refine entryFor_of_tree ?_;kernel_rfl
theorem ent_iter:entryFor table "set.__iter__" = some Builtin.«frozenset.__iter__»:=by
 refine entryFor_alias (id' := "frozenset.__iter__") ?_ rfl ?_ ?_
 ·kernel_rfl
 ·decide +kernel
 ·kernel_rfl
theorem arg_it(a:Value):argsOk "set_iterator.__next__" ⟨[a],[]⟩:=by unfold argsOk;kernel_rfl
section
variable {prog:Program}{w:World}{A:Around}{E:Value→Shared→Prop}{s:Shared}
theorem wp_choose{src:Source}{n:Nat}{Q:Nat→Shared→Prop}(hn:n≠0)(h:∀ i,i < n→Q i { s with drawn:=s.drawn.bump src }):wpAny (model prog w) A (choose src n) Q E s:=fun _ _ _=>⟨hn,h _ (Nat.mod_lt _ (Nat.pos_of_ne_zero hn))⟩
theorem perm_erase{α:Type}:∀{l:List α}{i:Nat}{x:α},l[i]?=some x→l.Perm (x::l.eraseIdx i)
 | [],i,x,h=>by simp at h
 | y::l,0,x,h=>by
  cases h
  exact List.Perm.refl _
 | y::l,i+1,x,h=>(List.Perm.cons y (perm_erase (l:=l) (i:=i) h)).trans (List.Perm.swap x y _)
theorem draw_ok:∀(n:Nat)(xs:List Nat)(s:Shared)(Q:List Nat→Shared→Prop),xs.length=n→(∀ d ys,ys.Perm xs→Q ys { s with drawn:=d })→wpAny (model prog w) A (drawOrder n xs) Q E s
 | 0,xs,s,Q,hn,h=>by
  have:xs=[]:=List.eq_nil_of_length_eq_zero hn
  subst this
  exact wpAny_pure (h s.drawn [] (List.Perm.refl _))
 | n+1,[],s,Q,hn,h=>by cases hn
 | n+1,x::xs,s,Q,hn,h=>by
  show wpAny _ _ (choose .order (x::xs).length >>= _) _ _ s
  refine wpAny_bind (wp_choose (by simp) fun i hi=>?_)
  have hx:(x::xs)[i]?=some ((x::xs)[i]):=List.getElem?_eq_getElem hi
  rw[hx]
  have pe:=perm_erase hx
  generalize (x::xs)[i]=y at pe
  refine wpAny_bind (draw_ok n _ _ _ (by rw[List.length_eraseIdx,if_pos hi];omega) fun d ys pm=>wpAny_pure (h d (y::ys) ?_))
  exact (List.Perm.cons y pm).trans pe.symm
theorem pick_go{α:Type}(next:Nat→Nat):∀(f k:Nat)(left:List α)(out:Array α),left.length=f→(pickOrder.go next f k left out).toList.Perm (out.toList++left)
 | 0,k,left,out,h=>by
  have:left=[]:=List.eq_nil_of_length_eq_zero h
  subst this
  show out.toList.Perm _
  rw[List.append_nil]
 | f+1,k,left,out,h=>by
  have hl:next k % left.length < left.length:=Nat.mod_lt _ (by omega)
  have hx:left[next k % left.length]?=some left[next k % left.length]:=List.getElem?_eq_getElem hl
  have pe:=perm_erase hx
  unfold pickOrder.go
  rw[hx]
  generalize left[next k % left.length]=y at pe
  refine (pick_go next f (k+1) _ _ (by rw[List.length_eraseIdx,if_pos hl];omega)).trans ?_
  rw[Array.toList_push,List.append_assoc]
  exact List.Perm.append_left _ pe.symm
theorem pick_perm{α:Type}(next:Nat→Nat)(xs:Array α):(pickOrder next xs).toList.Perm xs.toList:=by
 have:=pick_go next xs.size 0 xs.toList #[] (Array.length_toList)
 simpa [pickOrder] using this
abbrev itO(f:Value)(i:Nat)(S:Addr)(n ep:Nat):Obj:={ cls:=.type "set_iterator", data:=.fields #[f,.int i 0,.ref S,.int n 0,.int ep 0] }
variable {S:Addr}{es:Array (Int×Value)}{ep:Nat}{t:SetTable}
theorem SetAt.drawn{Q:Bool→Shared→Prop}(x:SetAt s.heap S (!byT w) es ep t)(h:Q (!byT w && (!t.plain && decide (es.size > 1))) s):wpAny (model prog w) A (setDrawn S) Q E s:=by
 unfold setDrawn
 refine wpAny_bind (wpAny_setState_of x.at' rfl x.fit (wpAny_bind ?_))
 exact wpAny_bind (wpAny_askSetting (wpAny_pure (wpAny_pure h)))
theorem iter_set{Q:Value→Shared→Prop}(x:SetAt s.heap S (!byT w) es ep t)
  (h1:(!byT w && (!t.plain && decide (es.size > 1)))=false→Q (.ref s.heap.objs.size) { s with heap:=s.heap.push (itO (.int 0 0) 0 S es.size ep) })
  (h2:(!byT w && (!t.plain && decide (es.size > 1)))=true→∀ d (ys:List Nat),ys.Perm (List.range es.size)→Q (.ref (s.heap.objs.size+1)) { s with heap:=(s.heap.push { cls:=.type "tuple", data:=.seq (ys.map fun i:Nat=>rawInt i).toArray }).push (itO (.ref s.heap.objs.size) 0 S es.size ep),drawn:=d }) :
  wpAny (model prog w) A (pyIter (.ref S)) Q E s:=by
 have hT:s.TypeIs (.ref S) "set" := ⟨_,x.at',rfl⟩
 refine wpAny_pyIter_slot hT PySem.F.slot_set_iter (wpAny_call_entry PySem.F.slot_set_iter hT ent_iter ?_ (PySem.F.args_set_iter_1 _))
 unfold Builtin.«frozenset.__iter__» Builtin.Frozenset.slot0 slotArgs
 simp only[List.isEmpty_nil,Bool.not_true,Bool.false_eq_true,↓reduceIte,bind_assoc,List.length_nil,bne_self_eq_false]
 unfold Builtin.Frozenset.addrOf Builtin.Frozenset.sizeOf
 refine wpAny_bind (wpAny_pure (wpAny_bind (wpAny_pure (wpAny_bind (wpAny_bind (wpAny_setEntries_of x.at' rfl x.fit (wpAny_pure ?_)))))))
 refine wpAny_bind (x.drawn ?_)
 by_cases c:(!byT w && (!t.plain && decide (es.size > 1)))=true
 ·rw[if_pos c]
  refine wpAny_bind (draw_ok _ _ _ _ List.length_range fun d ys pm=>?_)
  have hl:ys.length < 100:=by
   rw[pm.length_eq,List.length_range]
   exact x.sz
  refine wpAny_bind (wpAny_newTuple ?_ (by rw[List.length_map];rw[sizeLine_eq];omega))
  have k1:=Heap.get?_push_of_some { cls:=.type "tuple", data:=.seq (ys.map fun i:Nat=>rawInt i).toArray } x.at'
  refine wpAny_bind (wpAny_setEpoch_of (s:={ s with heap:=_,drawn:=d }) k1 rfl x.fit ?_)
  refine wpAny_bind (wpAny_newObj_type (wpAny_pure ⟨_,rfl, "set_iterator", _,⟨_,Heap.get?_push_size _ rfl,rfl⟩,slot_it.lookup,?_⟩))
  have e:(s.heap.push { cls:=.type "tuple", data:=.seq (ys.map fun i:Nat=>rawInt i).toArray }).objs.size=s.heap.objs.size+1:=Heap.size_push _ _
  have:=h2 c d ys pm
  rw[← e] at this
  exact this
 ·rw[if_neg c]
  refine wpAny_bind (wpAny_pure (wpAny_bind (wpAny_setEpoch_of x.at' rfl x.fit ?_)))
  exact wpAny_bind (wpAny_newObj_type (wpAny_pure ⟨_,rfl, "set_iterator", _,⟨_,Heap.get?_push_size _ rfl,rfl⟩,slot_it.lookup,h1 (by simpa using c)⟩))
end
end L2
namespace L2
open PySem
section
variable {prog:Program}{w:World}{A:Around}{E:Value→Shared→Prop}{s:Shared}{S:Addr}{es:Array (Int×Value)}{ep:Nat}{t:SetTable}
theorem next_text{sl i:Nat}{Q:Option (Value×Nat)→Shared→Prop}(x:SetAt s.heap S (!byT w) es ep t)(hb:byT w=true)(h:Q (((pickOrder (w.params.setOrder S ep) es)[i]?).map fun e=>(e.2,sl)) s):wpAny (model prog w) A (setNext S sl i ep) Q E s:=by
 unfold setNext
 refine wpAny_bind (wpAny_setState_of x.at' rfl x.fit ?_)
 refine wpAny_bind (wpAny_bind (wpAny_askSetting (wpAny_pure ?_)))
 show wpAny _ _ (if byT w=true then _ else _) _ _ _
 rw[if_pos hb]
 show wpAny _ _ (if (ep != ep)=true then _ else _) _ _ _
 rw[if_neg (by simp)]
 unfold setWalk
 refine wpAny_bind (wpAny_bind (wpAny_setState_of x.at' rfl x.fit ?_))
 refine wpAny_bind (wpAny_bind (wpAny_askSetting (wpAny_pure ?_)))
 show wpAny _ _ (if byT w=true then _ else _) _ _ _
 rw[if_pos hb]
 exact wpAny_bind (wpAny_askSetting (wpAny_pure (wpAny_pure h)))
theorem next_plain{i:Nat}{Q:Option (Value×Nat)→Shared→Prop}(x:SetAt s.heap S (!byT w) es ep t)(hb:byT w=false)(hd:(!t.plain && decide (es.size > 1))=false)(hi:i≤es.size)(h:Q ((es[i]?).map fun e=>(e.2,stand t.place (i+1))) s):wpAny (model prog w) A (setNext S (stand t.place i) i ep) Q E s:=by
 have led:t.led=true:=by rw[x.tab.led,hb];rfl
 have ps:t.place.size=es.size:=by
  have:=x.fit
  unfold SetTable.fits at this
  rw[Bool.and_eq_true,beq_iff_eq] at this
  exact this.1
 unfold setNext
 refine wpAny_bind (wpAny_setState_of x.at' rfl x.fit ?_)
 refine wpAny_bind (wpAny_bind (wpAny_askSetting (wpAny_pure ?_)))
 show wpAny _ _ (if byT w=true then _ else _) _ _ _
 rw[if_neg (by rw[hb];exact Bool.false_ne_true)]
 show wpAny _ _ (if (!t.plain && decide (es.size > 1))=true then _ else _) _ _ _
 rw[if_neg (by rw[hd];exact Bool.false_ne_true)]
 refine wpAny_bind ?_
 show wpAny _ _ (if (!t.led && !es.isEmpty)=true then _ else pure ()) _ _ _
 rw[if_neg (by rw[led];simp)]
 refine wpAny_pure (wpAny_pure ?_)
 rw[below_stand x.tab.ris (by omega)]
 by_cases c:i < es.size
 ·have c2:i < t.place.size:=by omega
  have e1:es[i]?=some es[i]:=Array.getElem?_eq_getElem c
  have e2:t.place[i]?=some t.place[i]:=Array.getElem?_eq_getElem c2
  rw[e1] at h
  rw[e1,e2]
  have e3:stand t.place (i+1)=t.place[i]+1:=by
   show t.place.getD i 0+1=_
   simp[Array.getD,c2]
  rw[e3] at h
  exact h
 ·have e1:es[i]?=none:=Array.getElem?_eq_none (by omega)
  rw[e1] at h ⊢
  exact h
theorem next_drawn{p:Nat}{e:Int×Value}{Q:Value→Shared→Prop}(x:SetAt s.heap S (!byT w) es ep t)(hp:es[p]?=some e)(h:Q e.2 s):wpAny (model prog w) A (setNextDrawn S p ep) Q E s:=by
 unfold setNextDrawn
 refine wpAny_bind (wpAny_setState_of x.at' rfl x.fit ?_)
 show wpAny _ _ (if (ep != ep)=true then _ else _) _ _ _
 rw[if_neg (by simp),hp]
 exact wpAny_pure h
def Md(w:World)(h:Heap)(S:Addr)(es:Array (Int×Value))(ep:Nat)(t:SetTable)(first:Nat→Value)(ord:List Value):Prop :=
 (byT w=true∧(∀ i,first i=.int 0 0)∧ord=(pickOrder (w.params.setOrder S ep) es).toList.map (·.2))
 ∨ (byT w=false∧(!t.plain && decide (es.size > 1))=false∧(∀ i,first i=.int (stand t.place i) 0)∧ord=es.toList.map (·.2))
 ∨ ∃(tp:Addr)(ys:List Nat),h.get? tp=some { cls:=.type "tuple", data:=.seq (ys.map fun i:Nat=>rawInt i).toArray }∧ys.Perm (List.range es.size)∧(∀ i,first i=.ref tp)∧ord=ys.map fun p=>(es.toList.getD p (0,.none)).2
theorem perm_map_getD{α β:Type}(g:α→β)(d:α)(l:List α){ys:List Nat}(h:ys.Perm (List.range l.length)):(ys.map fun p=>g (l.getD p d)).Perm (l.map g):=by
 refine (h.map _).trans (List.Perm.of_eq ?_)
 apply List.ext_getElem?
 intro i
 rw[List.getElem?_map,List.getElem?_map]
 by_cases c:i < l.length
 ·rw[List.getElem?_range c,List.getElem?_eq_getElem c]
  simp[List.getD_eq_getElem?_getD,c]
 ·rw[List.getElem?_eq_none (by rw[List.length_range];omega),List.getElem?_eq_none (by omega)]
  rfl
theorem Md.perm{h:Heap}{first:Nat→Value}{ord:List Value}(m:Md w h S es ep t first ord):ord.Perm (es.toList.map (·.2)):=by
 rcases m with ⟨_,_,rfl⟩ | ⟨_,_,_,rfl⟩ | ⟨tp,ys,_,pm,_,rfl⟩
 ·exact (pick_perm _ es).map _
 ·exact List.Perm.refl _
 ·exact perm_map_getD _ _ _ (by rw[Array.length_toList];exact pm)
theorem Md.to{h h':Heap}{first:Nat→Value}{ord:List Value}(m:Md w h S es ep t first ord)(k:∀ a o,first 0=.ref a→h.get? a=some o→h'.get? a=some o):Md w h' S es ep t first ord:=by
 rcases m with m | m | ⟨tp,ys,h1,pm,h2,h3⟩
 ·exact .inl m
 ·exact .inr (.inl m)
 ·exact .inr (.inr ⟨tp,ys,k _ _ (h2 0) h1,pm,h2,h3⟩)
theorem fields_of{a:Addr}{o:Obj}{vs:Array Value}{Q:Array Value→Shared→Prop}(ho:s.heap.get? a=some o)(hd:o.data=.fields vs)(h:Q vs s):wpAny (model prog w) A (fieldsOf (.ref a)) Q E s:=by
 unfold fieldsOf
 refine wpAny_bind (wpAny_load ho ?_)
 rw[hd]
 exact wpAny_pure h
theorem next_item{I:Addr}{i:Nat}{first:Nat→Value}{ord:List Value}{Q:Option Value→Shared→Prop}(x:SetAt s.heap S (!byT w) es ep t)(m:Md w s.heap S es ep t first ord)(hI:s.heap.get? I=some (itO (first i) i S es.size ep))(nS:S≠I)(hi:i < es.size)
  (h:∀ h' v,ord[i]?=some v→h'.get? I=some (itO (first (i+1)) (i+1) S es.size ep)→Heap.SameBut I s.heap h'→Q (some v) { s with heap:=h' }):wpAny (model prog w) A (pyNext (.ref I)) Q E s:=by
 have hT:s.TypeIs (.ref I) "set_iterator" := ⟨_,hI,rfl⟩
 unfold pyNext
 refine wpAny_bind (wpAny_attempt (wpAny_callSpecial?_slot (name:=Str.ofString "__next__") hT slot_it (wpAny_call_entry slot_it hT ent_it ?_ (arg_it _))))
 unfold Builtin.«set_iterator.__next__» slotArgs
 simp only[List.isEmpty_nil,Bool.not_true,Bool.false_eq_true,↓reduceIte,bind_assoc,List.length_nil,bne_self_eq_false]
 refine wpAny_bind (wpAny_pure (wpAny_bind (fields_of hI rfl ?_)))
 dsimp only
 refine wpAny_bind (wpAny_setEntries_of x.at' rfl x.fit ?_)
 rw[if_neg (by simp)]
 rcases m with ⟨hb,hf,rfl⟩ | ⟨hb,hd,hf,rfl⟩ | ⟨tp,ys,ht,pm,hf,rfl⟩
 ·have el:i < ((pickOrder (w.params.setOrder S ep) es).toList.map (·.2)).length:=by
   rw[List.length_map,(pick_perm _ es).length_eq,Array.length_toList]
   exact hi
  rw[hf i] at hI ⊢
  rw[hf (i+1)] at h
  refine wpAny_bind (next_text (i:=i) (sl:=0) x hb ?_)
  have el2:i < (pickOrder (w.params.setOrder S ep) es).size:=by rwa [List.length_map,Array.length_toList] at el
  have e1:(pickOrder (w.params.setOrder S ep) es)[i]?=some (pickOrder (w.params.setOrder S ep) es)[i]:=Array.getElem?_eq_getElem el2
  simp only[Int.toNat_natCast]
  rw[e1]
  have h:=fun h'=>h h' (pickOrder (w.params.setOrder S ep) es)[i].2 (by simp[el2])
  generalize (pickOrder (w.params.setOrder S ep) es)[i]=e at h
  refine wpAny_bind (wpAny_setField_rec hI (by simp) fun h1 g1 b1=>?_)
  refine wpAny_bind (wpAny_setField_rec (s:={ s with heap:=h1 }) g1 (by simp) fun h2 g2 b2=>?_)
  exact wpAny_pure ⟨_,rfl,wpAny_pure (h h2 g2 (b1.trans b2))⟩
 ·rw[hf i] at hI ⊢
  rw[hf (i+1)] at h
  refine wpAny_bind (next_plain (i:=i) x hb hd (Nat.le_of_lt hi) ?_)
  have e1:es[i]?=some es[i]:=Array.getElem?_eq_getElem hi
  rw[e1]
  have h:=fun h'=>h h' es[i].2 (by simp[hi])
  refine wpAny_bind (wpAny_setField_rec hI (by simp) fun h1 g1 b1=>?_)
  refine wpAny_bind (wpAny_setField_rec (s:={ s with heap:=h1 }) g1 (by simp) fun h2 g2 b2=>?_)
  exact wpAny_pure ⟨_,rfl,wpAny_pure (h h2 g2 (b1.trans b2))⟩
 ·have yl:ys.length=es.size:=by rw[pm.length_eq,List.length_range]
  have iy:i < ys.length:=by omega
  have pl:ys[i] < es.size:=List.mem_range.mp (pm.mem_iff.mp (List.getElem_mem iy))
  rw[hf i] at hI ⊢
  rw[hf (i+1)] at h
  refine wpAny_bind (wpAny_seqItems ht rfl ?_)
  have e1:((ys.map fun i:Nat=>rawInt i).toArray)[((i:Nat):Int).toNat]?=some (rawInt (ys[i]:Nat)):=by
   rw[Int.toNat_natCast]
   simp[iy]
  dsimp only
  rw[e1]
  have e2:es[ys[i]]?=some es[ys[i]]:=Array.getElem?_eq_getElem pl
  refine wpAny_bind (next_drawn (p:=ys[i]) x e2 ?_)
  have h:=fun h'=>h h' es[ys[i]].2 (by simp[iy,pl])
  refine wpAny_bind (wpAny_setField_rec hI (by simp) fun h1 g1 b1=>?_)
  exact wpAny_pure ⟨_,rfl,wpAny_pure (h h1 g1 b1)⟩
theorem stop_raise{Q:Option Value→Shared→Prop}{R:Fin→Shared→Prop}(hh:A.handled=none)(h:∀ h',(∀ b o,s.heap.get? b=some o→h'.get? b=some o)→Q none { s with heap:=h' }) :
  wpAny (model prog w) A.in1 (newExc (Value.type "StopIteration") [] >>= fun e=>raiseNew e) R (fun e s'=>wpAny (model prog w) A (isInstance e (Value.type "StopIteration") >>= fun b=>if b=true then pure none else throw e) Q E s') s:=by
 refine wpAny_bind ?_
 unfold newExc newTuple
 refine wpAny_bind (wpAny_newObj_type ?_ (by size_fits))
 refine wpAny_bind (m:=firstArgMember _ _) (wpAny_of_eq (a:=Value.none) ?_ ?_)
 ·first | rfl | (simp only[firstArgMember];rfl)
 refine wpAny_newObj_type ?_ (by size_fits)
 unfold raiseNew
 refine wpAny_bind (wpAny_handled ?_)
 have h1:A.in1.handled=none:=hh
 rw[h1]
 refine wpAny_bind (wpAny_pure (wpAny_throw ?_))
 refine wpAny_bind (wpAny_isInstance (T := "StopIteration") (b:=true) ⟨_,Heap.get?_push_size _ rfl,rfl⟩ isSubtype_stop ?_)
 exact wpAny_pure (h _ fun b o e=>Heap.get?_push_of_some _ (Heap.get?_push_of_some _ e))
theorem next_end{I:Addr}{first:Nat→Value}{ord:List Value}{Q:Option Value→Shared→Prop}(hh:A.handled=none)(x:SetAt s.heap S (!byT w) es ep t)(m:Md w s.heap S es ep t first ord)(hI:s.heap.get? I=some (itO (first es.size) es.size S es.size ep))
  (h:∀ h',(∀ b o,b≠I→s.heap.get? b=some o→h'.get? b=some o)→Q none { s with heap:=h' }):wpAny (model prog w) A (pyNext (.ref I)) Q E s:=by
 have hT:s.TypeIs (.ref I) "set_iterator" := ⟨_,hI,rfl⟩
 unfold pyNext
 refine wpAny_bind (wpAny_attempt (wpAny_callSpecial?_slot (name:=Str.ofString "__next__") hT slot_it (wpAny_call_entry slot_it hT ent_it ?_ (arg_it _))))
 unfold Builtin.«set_iterator.__next__» slotArgs
 simp only[List.isEmpty_nil,Bool.not_true,Bool.false_eq_true,↓reduceIte,bind_assoc,List.length_nil,bne_self_eq_false]
 refine wpAny_bind (wpAny_pure (wpAny_bind (fields_of hI rfl ?_)))
 dsimp only
 refine wpAny_bind (wpAny_setEntries_of x.at' rfl x.fit ?_)
 rw[if_neg (by simp)]
 have kb:∀(h1:Heap),Heap.SameBut I s.heap h1→∀ b o,b≠I→s.heap.get? b=some o→h1.get? b=some o:=fun h1 sb b o nb e=>by
  rw[sb.2 b nb]
  exact e
 rcases m with ⟨hb,hf,rfl⟩ | ⟨hb,hd,hf,rfl⟩ | ⟨tp,ys,ht,pm,hf,rfl⟩
 ·rw[hf] at hI ⊢
  refine wpAny_bind (next_text (i:=es.size) (sl:=0) x hb ?_)
  have e1:(pickOrder (w.params.setOrder S ep) es)[es.size]?=none:=by
   have:=(pick_perm (w.params.setOrder S ep) es).length_eq
   rw[Array.length_toList,Array.length_toList] at this
   exact Array.getElem?_eq_none (by omega)
  simp only[Int.toNat_natCast]
  rw[e1]
  refine wpAny_bind (wpAny_setField_rec hI (by simp) fun h1 g1 b1=>?_)
  exact stop_raise hh fun h' k=>h h' fun b o nb e=>k b o (kb h1 b1 b o nb e)
 ·rw[hf] at hI ⊢
  refine wpAny_bind (next_plain (i:=es.size) x hb hd (Nat.le_refl _) ?_)
  have e1:es[es.size]?=none:=Array.getElem?_eq_none (Nat.le_refl _)
  rw[e1]
  refine wpAny_bind (wpAny_setField_rec hI (by simp) fun h1 g1 b1=>?_)
  exact stop_raise hh fun h' k=>h h' fun b o nb e=>k b o (kb h1 b1 b o nb e)
 ·have yl:ys.length=es.size:=by rw[pm.length_eq,List.length_range]
  rw[hf] at hI ⊢
  refine wpAny_bind (wpAny_seqItems ht rfl ?_)
  have e1:((ys.map fun i:Nat=>rawInt i).toArray)[((es.size:Nat):Int).toNat]?=none:=by
   rw[Int.toNat_natCast]
   simp[yl]
  dsimp only
  rw[e1]
  refine wpAny_bind (wpAny_setField_rec hI (by simp) fun h1 g1 b1=>?_)
  refine wpAny_bind (wpAny_setField_rec (s:={ s with heap:=h1 }) g1 (by simp) fun h2 g2 b2=>?_)
  exact stop_raise hh fun h' k=>h h' fun b o nb e=>k b o (kb h2 (b1.trans b2) b o nb e)
end
end L2
namespace L2
open PySem
section
variable {prog:Program}{w:World}{A:Around}{E:Value→Shared→Prop}{s:Shared}{S:Addr}{es:Array (Int×Value)}{ep:Nat}{t:SetTable}
abbrev lstO(xs:Array Value)(c:Nat):Obj:={ cls:=.type "list", data:=.seq xs c }
theorem hint_set{Q:Bool→Shared→Prop}(hT:s.TypeIs (.ref S) "set")(h:Q false s):wpAny (model prog w) A (Builtin.List.listLengthHint (.ref S)) Q E s:=by
 unfold Builtin.List.listLengthHint
 refine wpAny_bind (wpAny_specialOf hT PySem.F.slot_set_len.lookup ?_)
 generalize e0:("set.__len__" : String)=i0
 wp_delta
 have e1:splitId i0=some ("set", "__len__"):=by subst e0;decide +kernel
 rw[e1]
 subst e0
 refine wpAny_bind (wpAny_isInstance (T := "set") (b:=true) hT sub_set_self ?_)
 refine wpAny_ite_split (fun z=>absurd z (by decide)) (fun _=>wpAny_ite_split (fun _=>?_) (fun z=>absurd (by decide +kernel) z))
 exact wpAny_bind (wpAny_typeOf hT (wpAny_pure h))
theorem ext_loop{R:Result→Shared→Prop}{I D:Addr}{first:Nat→Value}{ord:List Value}{res:Value}(hh:A.in1.handled=none)(nSI:S≠I)(nDS:D≠S)(nDI:D≠I)(nf:first 0≠.ref D)(nf2:first 0≠.ref I) :
  ∀(m i:Nat)(s:Shared)(acc:Array Value)(c:Nat),es.size - i=m→i≤es.size→SetAt s.heap S (!byT w) es ep t→Md w s.heap S es ep t first ord→s.heap.get? I=some (itO (first i) i S es.size ep)→s.heap.get? D=some (lstO acc c)→acc.toList=ord.take i →
   (∀ h' acc' c',(∀ b o,b≠D→b≠I→s.heap.get? b=some o→h'.get? b=some o)→h'.get? D=some (lstO acc' c')→acc'.toList=ord→R (.ok (.ret res)) { s with heap:=h' }) →
   codeAny (model prog w) A (.builtin "list.extend.loop" ⟨[.ref D,.ref I,res],[]⟩) R s:=by
 intro m
 induction m with
 | zero =>
  intro i s acc c hm hi x md hI hD ha hR
  have e:i=es.size:=by omega
  subst e
  have ol:ord.length=es.size:=by rw[md.perm.length_eq,List.length_map,Array.length_toList]
  refine codeAny_builtin PySem.F.entry_extend_loop ?_
  rw[Around.under_plainId PySem.F.plain_extend_loop]
  show wpAny _ A.in1 (pyNext (.ref I) >>= _) _ _ _
  refine wpAny_bind (next_end hh x md hI fun h' k=>wpAny_pure (hR h' acc c (fun b o _ b2 e=>k b o b2 e) (k D _ nDI hD) ?_))
  rw[ha,← ol,List.take_length]
 | succ m ih =>
  intro i s acc c hm hi x md hI hD ha hR
  have hlt:i < es.size:=by omega
  have z:=x.sz
  have ol:ord.length=es.size:=by rw[md.perm.length_eq,List.length_map,Array.length_toList]
  have al:acc.size=i:=by
   have:=congrArg List.length ha
   rw[Array.length_toList,List.length_take] at this
   omega
  refine codeAny_builtin PySem.F.entry_extend_loop ?_
  rw[Around.under_plainId PySem.F.plain_extend_loop]
  show wpAny _ A.in1 (pyNext (.ref I) >>= _) _ _ _
  refine wpAny_bind (next_item x md hI nSI hlt fun h1 v hv g1 b1=>?_)
  have k1:∀ b o,b≠I→s.heap.get? b=some o→h1.get? b=some o:=fun b o nb e=>by
   rw[b1.2 b nb]
   exact e
  have hD1:=k1 D _ nDI hD
  show wpAny _ A.in1 (updateSeq D (·.push v) >>= _) _ _ _
  refine wpAny_bind (wpAny_updateSeq (s:={ s with heap:=h1 }) hD1 rfl ?_ (by rw[al,sizeLine_eq];omega) (by rw[Array.size_push,al,sizeLine_eq];omega))
  have k2:∀ b o,b≠D→h1.get? b=some o→(h1.update D (Obj.mapSeq (·.push v))).get? b=some o:=fun b o nb e=>(Heap.get?_update_other _ _ (Ne.symm nb)).trans e
  have hD2:=Heap.get?_update_self (Obj.mapSeq (·.push v)) hD1 rfl
  refine wpAny_pure ⟨plainId_quiet PySem.F.plain_extend_loop _,ih (i+1) _ (acc.push v) _ (by omega) hlt (x.to fun o e=>k2 S o (Ne.symm nDS) (k1 S o nSI e)) (md.to fun a o ea e=>k2 a o (fun q=>nf (by rw[ea,q])) (k1 a o (fun q=>nf2 (by rw[ea,q])) e)) (k2 I _ (Ne.symm nDI) g1) hD2 ?_ fun h' acc' c' kk hD' ha'=>?_⟩
  ·rw[Array.toList_push,ha]
   have hl:i < ord.length:=by omega
   rw[List.take_succ_eq_append_getElem hl]
   rw[List.getElem?_eq_getElem hl] at hv
   cases hv
   rfl
  ·exact hR h' acc' c' (fun b o b1 b2 e=>kk b o b1 b2 (k2 b o b1 (k1 b o b2 e))) hD' ha'
theorem grow_set{R:Result→Shared→Prop}{D:Addr}{res:Value}{c:Nat}(hh:A.in1.handled=none)(x:SetAt s.heap S (!byT w) es ep t)(hD:s.heap.get? D=some (lstO #[] c))(nDS:D≠S)
  (hR:∀ h' d acc' c',(∀ b o,b≠D→s.heap.get? b=some o→h'.get? b=some o)→h'.get? D=some (lstO acc' c')→acc'.toList.Perm (es.toList.map (·.2))→R (.ok (.ret res)) { s with heap:=h',drawn:=d }) :
  wpAny (model prog w) A.in1 (Builtin.List.listExtendWith (.ref D) (.ref S) res)
   (fun fin s'=>match fin with | .done f=>R (.ok f) s' | .again c'=>c'.quiet=true∧codeAny (model prog w) A c' R s') (fun e s'=>R (.error e) s') s:=by
 have hT:s.TypeIs (.ref S) "set" := ⟨_,x.at',rfl⟩
 have ds:=Heap.lt_size hD
 have ss:=Heap.lt_size x.at'
 have go:∀(h1:Heap)(d:Drawn)(I:Addr)(first:Nat→Value)(ord:List Value),s.heap.objs.size≤I→(∀ b o,s.heap.get? b=some o→h1.get? b=some o)→h1.get? I=some (itO (first 0) 0 S es.size ep)→Md w h1 S es ep t first ord→(∀ a,first 0=.ref a→s.heap.objs.size≤a∧a≠I) →
   wpAny (model prog w) A.in1 (holding [Value.ref I] (Builtin.List.listLengthHint (.ref S)) >>= fun room=>if (room || ["set", "frozenset", "dict", "dict_keys", "dict_values", "dict_items"].any (Value.type "set" == .type ·))=true then (rule "list.extend.makes-room" >>= fun _=>Builtin.List.listTouch (.ref D) >>= fun _=>again (.builtin "list.extend.loop" ⟨[.ref D,.ref I,res],[]⟩)) else again (.builtin "list.extend.loop" ⟨[.ref D,.ref I,res],[]⟩))
    (fun fin s'=>match fin with | .done f=>R (.ok f) s' | .again c'=>c'.quiet=true∧codeAny (model prog w) A c' R s') (fun e s'=>R (.error e) s') { s with heap:=h1,drawn:=d }:=by
  intro h1 d I first ord hI0 k1 hI md hf
  have nSI:S≠I:=Nat.ne_of_lt (Nat.lt_of_lt_of_le ss hI0)
  have nDI:D≠I:=Nat.ne_of_lt (Nat.lt_of_lt_of_le ds hI0)
  have nf:first 0≠.ref D:=fun z=>absurd (hf D z).1 (Nat.not_le.mpr ds)
  have nf2:first 0≠.ref I:=fun z=>(hf I z).2 rfl
  have hT1:({ s with heap:=h1,drawn:=d }:Shared).TypeIs (.ref S) "set" := ⟨_,k1 _ _ x.at',rfl⟩
  refine wpAny_bind (wpAny_holding (hint_set hT1 ?_))
  rw[if_pos (by decide)]
  refine wpAny_bind (wpAny_rule (wpAny_bind ?_))
  show wpAny _ _ (updateSeq D (·.push .none) >>= fun _=>updateSeq D (·.pop)) _ _ _
  refine wpAny_bind (wpAny_updateSeq (s:={ s with heap:=h1,drawn:=d }) (k1 _ _ hD) rfl ?_)
  have g2:=Heap.get?_update_self (Obj.mapSeq (·.push Value.none)) (k1 _ _ hD) rfl
  refine wpAny_updateSeq (s:={ s with heap:=h1.update D (Obj.mapSeq (·.push Value.none)),drawn:=d }) (hz:=by seq_fits) g2 rfl ?_
  have g3:=Heap.get?_update_self (Obj.mapSeq (·.pop)) g2 rfl
  have k3:∀ b o,b≠D→h1.get? b=some o→((h1.update D (Obj.mapSeq (·.push Value.none))).update D (Obj.mapSeq (·.pop))).get? b=some o:=fun b o nb e=>(Heap.get?_update_other _ _ (Ne.symm nb)).trans ((Heap.get?_update_other _ _ (Ne.symm nb)).trans e)
  refine wpAny_pure ⟨plainId_quiet PySem.F.plain_extend_loop _,ext_loop hh nSI nDS nDI nf nf2 es.size 0 _ #[] _ rfl (Nat.zero_le _) (x.to fun o e=>k3 S o (Ne.symm nDS) (k1 S o e)) (md.to fun a o ea e=>k3 a o (fun q=>nf (by rw[ea,q])) e) (k3 I _ (Ne.symm nDI) hI) g3 rfl fun h' acc' c' kk hD' ha'=>?_⟩
  refine hR h' d acc' c' (fun b o nb e=>kk b o nb (Nat.ne_of_lt (Nat.lt_of_lt_of_le (Heap.lt_size e) hI0)) (k3 b o nb (k1 b o e))) hD' ?_
  rw[ha']
  exact md.perm
 unfold Builtin.List.listExtendWith
 refine wpAny_bind (wpAny_typeOf (T := "set") hT ?_)
 have n1:Builtin.List.listSameRef (.ref D) (.ref S)=false:=by simp[Builtin.List.listSameRef,nDS]
 have n2:(Value.type "set" == Value.type "list")=false:=by decide
 have n3:(Value.type "set" == Value.type "tuple")=false:=by decide
 simp only[n1,n2,n3,Bool.or_false,Bool.false_eq_true,if_false]
 refine wpAny_bind (iter_set x (fun hc=>?_) (fun hc d ys pm=>?_))
 ·by_cases hb:byT w=true
  ·exact go _ s.drawn _ (fun _=>.int 0 0) _ (Nat.le_refl _) (fun b o e=>Heap.get?_push_of_some _ e) (Heap.get?_push_size _ rfl) (.inl ⟨hb,fun _=>rfl,rfl⟩) fun a z=>by cases z
  ·have hb':byT w=false:=by simpa using hb
   exact go _ s.drawn _ (fun i=>.int (stand t.place i) 0) _ (Nat.le_refl _) (fun b o e=>Heap.get?_push_of_some _ e) (Heap.get?_push_size _ rfl) (.inr (.inl ⟨hb',by rw[hb'] at hc;simpa using hc,fun _=>rfl,rfl⟩)) fun a z=>by cases z
 ·have e1:(s.heap.push { cls:=.type "tuple", data:=.seq (ys.map fun i:Nat=>rawInt i).toArray }).objs.size=s.heap.objs.size+1:=Heap.size_push _ _
  have gt:=Heap.get?_push_size s.heap (o:={ cls:=.type "tuple", data:=.seq (ys.map fun i:Nat=>rawInt i).toArray }) rfl
  have gi:=Heap.get?_push_size (s.heap.push { cls:=.type "tuple", data:=.seq (ys.map fun i:Nat=>rawInt i).toArray }) (o:=itO (.ref s.heap.objs.size) 0 S es.size ep) rfl
  rw[e1] at gi
  exact go _ d _ (fun _=>.ref s.heap.objs.size) _ (Nat.le_succ _) (fun b o e=>Heap.get?_push_of_some _ (Heap.get?_push_of_some _ e)) gi (.inr (.inr ⟨_,ys,Heap.get?_push_of_some _ gt,pm,fun _=>rfl,rfl⟩)) fun a z=>by
   cases z
   exact⟨Nat.le_refl _,Nat.ne_of_lt (Nat.lt_succ_self _)⟩
theorem collect_set{Q:List Value→Shared→Prop}(hh:A.handled=none)(x:SetAt s.heap S (!byT w) es ep t)(h:∀ h' d vs,s.heap.objs.size < h'.objs.size→(∀ b o,s.heap.get? b=some o→h'.get? b=some o)→vs.Perm (es.toList.map (·.2))→Q vs { s with heap:=h',drawn:=d }):wpAny (model prog w) A (collect (.ref S)) Q E s:=by
 have ss:=Heap.lt_size x.at'
 unfold collect
 refine wpAny_bind (wpAny_runValue (codeAny_builtin PyProof.Rows.entry_proto_collect' ?_))
 rw[Around.under_plainId PySem.F.plain_proto_collect]
 show wpAny _ A.in1 (newList [] >>= fun l=>again (.builtin "list.__iadd__" ⟨[l,.ref S],[]⟩)) _ _ _
 refine wpAny_bind (wpAny_newObj_type (wpAny_pure ⟨plainId_quiet PySem.F.plain_list_iadd _,codeAny_builtin PyProof.Rows.entry_list_iadd' ?_⟩))
 rw[Around.under_plainId PySem.F.plain_list_iadd]
 show wpAny _ A.in1 (Builtin.List.listExtendWith (.ref s.heap.objs.size) (.ref S) (.ref s.heap.objs.size)) _ _ _
 have key:=grow_set (prog:=prog) (A:=A) (s:={ s with heap:=s.heap.push (lstO #[] 0) }) (D:=s.heap.objs.size) (res:=.ref s.heap.objs.size) (c:=0)
  (R:=fun q s'=>∃ h' d acc' c',q=.ok (.ret (.ref s.heap.objs.size))∧s'={ s with heap:=h',drawn:=d }∧(∀ b o,s.heap.get? b=some o→h'.get? b=some o)∧h'.get? s.heap.objs.size=some (lstO acc' c')∧acc'.toList.Perm (es.toList.map (·.2)))
  hh (x.to fun o e=>Heap.get?_push_of_some _ e) (Heap.get?_push_size _ rfl) (Nat.ne_of_gt ss) fun h' d acc' c' k hD pm=>⟨h',d,acc',c',rfl,rfl,fun b o e=>k b o (Nat.ne_of_lt (Heap.lt_size e)) (Heap.get?_push_of_some _ e),hD,pm⟩
 refine wpAny_mono key (fun fin s' q=>?_) fun e s' q=>?_
 ·cases fin with
  | done f =>
   obtain⟨h',d,acc',c',e,rfl,k,hD,pm⟩:=q
   cases e
   show wpAny _ A (load s.heap.objs.size >>= _) _ _ _
   exact wpAny_bind (wpAny_load hD (wpAny_pure (h h' d _ (Heap.lt_size hD) k pm)))
  | again c₁ =>
   refine⟨q.1,codeAny_mono q.2 fun r s₂ y=>?_⟩
   obtain⟨h',d,acc',c',rfl,rfl,k,hD,pm⟩:=y
   show wpAny _ A (load s.heap.objs.size >>= _) _ _ _
   exact wpAny_bind (wpAny_load hD (wpAny_pure (h h' d _ (Heap.lt_size hD) k pm)))
 ·obtain⟨_,_,_,_,e',_⟩:=q
  cases e'
theorem vals_keys:∀ {l:List (Int×Value)},(∀ e∈l,∃ k tk,e=(hashInt k,Value.int k tk))→PyProof.Rows.IntsAre (l.map (·.2)) (l.map keyOf)
 | [],_=>.nil
 | e::l,h=>by
  obtain⟨k,tk,rfl⟩:=h _ List.mem_cons_self
  exact .cons k tk (vals_keys fun e he=>h e (List.mem_cons_of_mem _ he))
theorem ints_perm{vs us:List Value}{ks:List Int}(hi:PyProof.Rows.IntsAre us ks)(pm:vs.Perm us):∃ ks',PyProof.Rows.IntsAre vs ks'∧ks'.Perm ks:=by
 refine⟨vs.map PyProof.Rows.numOf,PyProof.Rows.intsAre_map vs fun v hv=>PyProof.Rows.IntsAre.all hi v (pm.mem_iff.mp hv),?_⟩
 have:=pm.map PyProof.Rows.numOf
 rwa [PyProof.Rows.IntsAre.nums hi] at this
theorem pw_lt{l:List Int}(h:l.Pairwise (·≤·))(nd:l.Nodup):l.Pairwise (· < ·):=by
 refine (List.Pairwise.and h nd).imp fun {a b} z=>?_
 have:=z.1
 have:=z.2
 omega
theorem sorted_set{Q:Value→Shared→Prop}(hh:A.handled=none)(x:SetAt s.heap S (!byT w) es ep t)(h64:es.size < 64)(h:∀ h' d D out c zs,s.heap.objs.size≤D→(∀ b o,s.heap.get? b=some o→h'.get? b=some o)→h'.get? D=some (lstO out c)→PyProof.Rows.IntsAre out.toList zs→zs.Pairwise (· < ·)→(∀ k,k∈zs↔k∈es.toList.map keyOf)→zs.length=es.size→Q (.ref D) { s with heap:=h',drawn:=d }) :
  wpAny (model prog w) A (call (.builtin "sorted") [.ref S]) Q E s:=by
 refine Calls.call_function_entry PyProof.Rows.kind_sorted PyProof.Rows.plain_sorted PyProof.Rows.entry_sorted (PyProof.Rows.args_sorted1 _) ?_
 unfold Builtin.«sorted»
 refine wpAny_bind (m:=checkCount "sorted" 1 1 _) (wpAny_pure (wpAny_bind (collect_set hh x fun h1 d vs sz0 k pm=>?_)))
 obtain⟨ks,hi,pk⟩:=ints_perm (vals_keys x.sh) pm
 have vl:vs.length < 64:=by
  rw[pm.length_eq,List.length_map,Array.length_toList]
  exact h64
 refine wpAny_bind (wpAny_newList ?_ (by rw[sizeLine_eq];omega))
 have g0:(h1.push (lstO vs.toArray 0)).get? h1.objs.size=some (lstO vs.toArray 0):=Heap.get?_push_size _ rfl
 refine wpAny_bind (wpAny_holding (wpAny_call_entry PyProof.Rows.slot_list_sort (s:={ s with heap:=h1.push (lstO vs.toArray 0),drawn:=d }) ⟨_,g0,rfl⟩ PyProof.Rows.entry_list_sort (PyProof.Rows.list_sort_tree g0 hi vl fun out zs a1 a2 a3=>⟨_,rfl,?_⟩) (PyProof.Rows.args_list_sort _)))
 obtain⟨c,g1⟩:=PyProof.Rows.sortedHeap_at (out:=out) g0
 refine wpAny_pure ⟨_,rfl,h _ d _ out c zs (Nat.le_of_lt sz0) (fun b o e=>?_) g1 a1 (pw_lt a3 ((a2.trans pk).nodup_iff.mpr x.nd)) (fun k=>(a2.trans pk).mem_iff) (by rw[(a2.trans pk).length_eq,List.length_map,Array.length_toList])⟩
 have bl:=Heap.lt_size (k b o e)
 rw[PyProof.Rows.sortedHeap_old (Nat.ne_of_lt bl) (by rw[Heap.size_push];exact Nat.lt_succ_of_lt bl)]
 exact Heap.get?_push_of_some _ (k b o e)
end
end L2
namespace L2
open PySem
def tSrt(te:TE):TE:=fun σ H Q=>te σ H fun v H1=>∃(l:Addr)(ns:List Int),v=.ref l∧H1 l=some (.lst (ns.map V.int))∧ns.length≤60∧∀(p:Addr)(zs:List Int),zs.Pairwise (· < ·)→(∀ k:Int,k∈zs↔k∈ns)→H1 p=none→Q (.ref p) (upd H1 p (.lst (zs.map V.int)))
theorem vals_of_ints:∀{ns:List Int}{vs:List Value},PyProof.Rows.IntsAre vs ns→Vals (ns.map V.int) vs
 | _,_,.nil=>.nil
 | _,_,.cons n t r=>.cons ⟨t,rfl⟩ (vals_of_ints r)
theorem bt_set:bootBuiltins "set" = some (.type "set"):=by decide +kernel
section
variable {X:Cx}{e:Expr}{te:TE}{p1 p2 p3 p4:Pos}
theorem pe_srt(hc:X.calm=true)(he:PE X e te)(hg1:Gl X "sorted")(hm1:X.mg "sorted" = none)(hv1:bootBuiltins "sorted" = some (.builtin "sorted"))(hg2:Gl X "set")(hm2:X.mg "set" = none)(hv2:bootBuiltins "set" = some (.type "set"))
  (s1:starEach [.Call (.Name "set" p2) [e] [] p3] X.env=[(false,eval (.Call (.Name "set" p2) [e] [] p3) X.env)]:=by rfl) (s2:starEach [e] X.env=[(false,eval e X.env)]:=by rfl) :
  PE X (.Call (.Name "sorted" p1) [.Call (.Name "set" p2) [e] [] p3] [] p4) (tSrt te):=by
 intro pins s σ H Q I h
 refine wpAny_Call_Name_kw (ld_blt I hg1 hm1 hv1 ?_ (by decide) (by decide))
 refine PyProof.Rows.callWith_builtin1 (e:=.Call (.Name "set" p2) [e] [] p3) (rest:=[]) ?_ s1 rfl
 rw[s1]
 refine Calls.spliced_cons ?_
 refine wpAny_Call_Name_kw (ld_blt I hg2 hm2 hv2 ?_ (by decide) (by decide))
 refine PyProof.Rows.callWith_type1 (e:=e) (rest:=[]) ?_ s2 rfl
 rw[s2]
 refine Calls.spliced_cons (thn (he pins s σ H _ I h) fun u st1 ⟨v,H1,I1,rv,l,ns,ev,hl,hn,hq⟩=>Calls.spliced_nil ?_)
 subst ev
 cases rv
 obtain⟨its,rl,pl,hz⟩:=I1.list (SqL.of hl)
 have hi:=ints_of_vals rl
 have il:its.toArray.size=ns.length:=by
  have:=PyProof.Rows.IntsAre.length hi
  simpa using this
 have hh:=I1.ok.hd hc
 refine set_of_list hh pl.isList (by simpa using hi) (by omega) fun h2 tk es ep t x hk hsz kp=>Calls.spliced_nil ?_
 have e64:es.size < 64:=by omega
 refine sorted_set (s:={ st1 with heap:=h2,toks:=tk }) hh x e64 fun h3 d D out c zs hD k3 gD hzs hlt hmem hzl=>?_
 have S0:st1.heap.objs.size≤D:=Nat.le_trans (Nat.le_of_lt (Heap.lt_size x.at')) hD
 have kk:∀ b o,st1.heap.get? b=some o→h3.get? b=some o:=fun b o e=>k3 b o (kp b o e)
 have hn:H1 D=none:=I1.hok.fresh S0
 have zl:(zs.map V.int).length≤sizeLine:=by
  rw[List.length_map,hzl,sizeLine_eq]
  omega
 have new:ObjOk X.prog X.w (upd H1 D (.lst (zs.map V.int))) h3 D (.lst (zs.map V.int)):=⟨zl,out.toList,c,vals_of_ints hzs,gD⟩
 refine⟨.ref D,upd H1 D (.lst (zs.map V.int)),?_,rfl,hq D zs hlt (fun k=>(hmem k).trans (hk k)) hn⟩
 exact I1.call' (s':={ st1 with heap:=h3,toks:=tk,drawn:=d }) (ch:=[]) rfl (Un.laid kk S0 hn) (I1.hok.laid kk S0 new) I1.bare fun b hb=>by cases hb
theorem qe_srt(hc:X.calm=true)(he:QE X e te)(hg1:Gl X "sorted")(hm1:X.mg "sorted" = none)(hv1:bootBuiltins "sorted" = some (.builtin "sorted"))(hg2:Gl X "set")(hm2:X.mg "set" = none)(hv2:bootBuiltins "set" = some (.type "set"))
  (s1:starEach [.Call (.Name "set" p2) [e] [] p3] X.env=[(false,eval (.Call (.Name "set" p2) [e] [] p3) X.env)]:=by rfl) (s2:starEach [e] X.env=[(false,eval e X.env)]:=by rfl) :
  QE X (.Call (.Name "sorted" p1) [.Call (.Name "set" p2) [e] [] p3] [] p4) (tSrt te):=⟨pe_srt hc he.p hg1 hm1 hv1 hg2 hm2 hv2 s1 s2⟩
end
end L2
namespace L2
open PySem PySem.Spec PyProof.Rows
section
variable {X:Cx}{e:Expr}{te:TE}{p1 p2 p3 p4:Pos}
end
end L2
namespace L2
open PySem PyProof.Rows PySem.SeqAt
section
variable {X:Cx}
end
end L2
namespace L2
open PySem PyProof.Rows PySem.SeqAt
section
variable {X:Cx}
def rInT:R2:=fun x y H Q=>∃(a p:Addr)(ts:List Int)(js:List Nat)(f:Nat→Addr)(g:Nat→List Int),x=.ref a∧y=.ref p∧H a=some (.tup (ts.map V.int))∧H p=some (.lst (js.map fun i=>V.ref (f i)))∧(∀ i∈js,H (f i)=some (.tup ((g i).map V.int)))∧Q (.bl (js.any fun i=>decide (g i=ts))) H
theorem cmp_tI{k:Nat}(a b:List Int):Cmp (k+1) (.tup (a.map Dt.int)) (.tup (b.map Dt.int)):=by
 unfold Cmp
 intro j d e h1 h2
 rw[List.getElem?_map] at h1 h2
 obtain⟨x,_,rfl⟩:=Option.map_eq_some_iff.mp h1
 obtain⟨y,_,rfl⟩:=Option.map_eq_some_iff.mp h2
 unfold Cmp
 trivial
theorem vals_refs:∀{l:List Addr}{us:List Value},Vals (l.map V.ref) us→us=l.map Value.ref
 | [],_,.nil=>rfl
 | a::l,_,.cons r t=>by
  cases r
  rw[List.map_cons,vals_refs t]
open Classical in
theorem op_inT(hu:X.A.units+64 < cLine):OpR X (compareOp .In) rInT:=by
 intro pins s σ H x y v u Q I rx ry h
 obtain⟨a,p,ts,js,f,g,rfl,rfl,ha,hp,hf,q⟩:=h
 cases rx
 cases ry
 obtain⟨its,r,pl,hz⟩:=I.list (SqL.of hp)
 have e:js.map (fun i=>V.ref (f i))=(js.map f).map V.ref:=by rw[List.map_map];rfl
 rw[e] at r
 have eu:=vals_refs r
 subst eu
 have eb:∀ i∈js,decide (Dt.tup ((g i).map Dt.int)=Dt.tup (ts.map Dt.int))=decide (g i=ts):=fun i _=>by
  rw[decide_eq_decide]
  exact⟨fun z=>(List.map_inj_right fun x y e=>Dt.int.inj e).mp (Dt.tup.inj z),fun z=>by rw[z]⟩
 let G:Value→Bool:=fun u=>match u with
  | .ref b=>decide (H b=some (.tup (ts.map V.int)))
  | _=>false
 have eG:∀ i∈js,G (.ref (f i))=decide (g i=ts):=fun i hi=>by
  show decide (H (f i)=some (.tup (ts.map V.int)))=_
  rw[hf i hi,decide_eq_decide]
  refine⟨fun z=>?_,fun z=>by rw[z]⟩
  exact (List.map_inj_right fun x y e=>V.int.inj e).mp (HO.tup.inj (Option.some.inj z))
 refine SeqAt.in_listAt G pl.isList (fun w hw=>?_) ⟨.bl _,H,I,rfl,?_⟩
 ·have hw:w∈(js.map f).map Value.ref:=by simpa using hw
  rw[List.map_map] at hw
  obtain⟨i,hi,rfl⟩:=List.mem_map.mp hw
  show SeqAt.EqAt _ _ (Value.ref (f i)) _ (G (.ref (f i)))
  rw[eG i hi,← eb i hi]
  have hin:X.A.in1.units=X.A.units+1:=rfl
  exact eq_den I 7 _ _ _ _ _ _ _ (Toy.den_tup (hf i hi) (Toy.ints_dens _)) (Toy.den_tup ha (Toy.ints_dens _)) (cmp_tI _ _) (by omega) rfl rfl
 ·have e2:((js.map f).map Value.ref).toArray.any G=js.any fun i=>decide (g i=ts):=by
   rw[List.any_toArray,List.any_map,List.any_map]
   rw[Bool.eq_iff_iff,List.any_eq_true,List.any_eq_true]
   constructor
   ·rintro ⟨i,hi,h⟩
    exact⟨i,hi,by rw[← eG i hi];exact h⟩
   ·rintro ⟨i,hi,h⟩
    exact⟨i,hi,by show G (.ref (f i))=true;rw[eG i hi];exact h⟩
  rw[e2]
  exact q
end
end L2
namespace HT
open PySem PySem.Spec PyProof.Rows
section
variable {prog:Program}{w:World}{A:Around}{E:Value→Shared→Prop}{s:Shared}
theorem adjust_rev(n:Nat):Builtin.Slice.sliceAdjust none none (-1) (n:Int)=((n:Int) - 1,-1):=by
 unfold Builtin.Slice.sliceAdjust
 simp
theorem places_rev(n:Nat):Builtin.Slice.slicePlaces ((n:Int) - 1) (-1) (-1)=n:=by
 unfold Builtin.Slice.slicePlaces
 simp
 omega
theorem sliceApplied_rev{sl:Addr}{vs:Value}{n:Nat}{Q:Int×Int×Nat→Shared→Prop}(hs:s.heap.IsSliceOf sl .none .none vs)(ps:IsPart vs (some (-1)))
  (h:Q ((n:Int) - 1,-1,n) s):wpAny (model prog w) A (Builtin.Slice.sliceApplied (.ref sl) (pure (n:Int))) Q E s:=by
 obtain⟨os,hos,hcs,hds⟩:=id hs
 unfold Builtin.Slice.sliceApplied Builtin.Slice.sliceFields
 refine wpAny_bind (wpAny_bind (wpAny_field hos hds (x:=.none) rfl (wpAny_bind (wpAny_field hos hds (x:=.none) rfl (wpAny_bind (wpAny_field hos hds (x:=vs) rfl (wpAny_pure ?_)))))))
 refine wpAny_bind (slicePart_ ps ?_)
 show wpAny _ _ (if ((-1:Int) == 0)=true then _ else _) _ _ s
 rw[if_neg (by decide)]
 refine wpAny_bind (slicePart_none (wpAny_bind (slicePart_none (wpAny_bind (wpAny_pure ?_)))))
 show wpAny _ _ (match Builtin.Slice.sliceAdjust none none (-1) (n:Int) with | (lo,hi)=>pure (lo,(-1:Int),Builtin.Slice.slicePlaces lo hi (-1))) _ _ s
 rw[adjust_rev n]
 show wpAny _ _ (pure ((n:Int) - 1,(-1:Int),Builtin.Slice.slicePlaces ((n:Int) - 1) (-1) (-1))) _ _ s
 rw[places_rev]
 exact wpAny_pure h
theorem pick_rev(xs:Array Value):((List.range xs.size).filterMap fun (m:Nat)=>xs[(((xs.size:Nat):Int) - 1+(m:Int)*(-1)).toNat]?).toArray=xs.toList.reverse.toArray:=by
 have e:∀ m∈List.range xs.size,xs[(((xs.size:Nat):Int) - 1+(m:Int)*(-1)).toNat]?=xs.toList.reverse[m]?:=fun m hm=>by
  have hm:=List.mem_range.mp hm
  have h1:(((xs.size:Nat):Int) - 1+(m:Int)*(-1)).toNat=xs.size - 1 - m:=by omega
  rw[h1,List.getElem?_reverse (by simpa using hm)]
  simp
 have h1:∀(l:List Nat)(f g:Nat→Option Value),(∀ m∈l,f m=g m)→l.filterMap f=l.filterMap g:=fun l f g h=>by
  induction l with
  | nil=>rfl
  | cons a l ih =>
   rw[List.filterMap_cons,List.filterMap_cons,h a List.mem_cons_self,ih fun m hm=>h m (List.mem_cons_of_mem _ hm)]
 have h2:∀(l:List Value),(List.range l.length).filterMap (fun m=>l[m]?)=l:=fun l=>by
  induction l with
  | nil=>rfl
  | cons a l ih =>
   rw[List.length_cons,List.range_succ_eq_map,List.filterMap_cons,List.filterMap_map]
   simp only[List.getElem?_cons_zero]
   congr 1
 rw[h1 _ _ _ e]
 have:=h2 xs.toList.reverse
 rw[List.length_reverse,Array.length_toList] at this
 rw[this]
theorem getItem_tuple_rev{t sl:Addr}{items:Array Value}{vs:Value}{Q:Value→Shared→Prop}(ht:IsTup s.heap t items)(hs:s.heap.IsSliceOf sl .none .none vs)(ps:IsPart vs (some (-1)))
  (h:Q (.ref s.heap.objs.size) { s with heap:=s.heap.push { cls:=.type "tuple", data:=.seq items.toList.reverse.toArray } })
  (hsz:items.size≤sizeLine):wpAny (model prog w) A (getItem (.ref t) (.ref sl)) Q E s:=by
 have htake:sizeOk (.seq items.toList.reverse.toArray):=by
  show items.toList.reverse.toArray.size≤sizeLine
  rw[List.size_toArray,List.length_reverse,Array.length_toList]
  exact hsz
 obtain⟨os,hos,hcs,hds⟩:=id hs
 have hTs:s.TypeIs (.ref sl) "slice" := ⟨os,hos,hcs⟩
 unfold getItem
 try with_reducible refine wpAny_holding ?_
 first | refine wpAny_bind (wpAny_pure ?_) | skip
 refine wpAny_bind (wpAny_sequenceKey ht.typeIs (by decide) ?_)
 refine wpAny_bind (wpAny_callSpecial?_slot (name:=Str.ofString "__getitem__") ht.typeIs PyProof.Rows.slot_tuple_getitem
  (wpAny_call_entry PyProof.Rows.slot_tuple_getitem ht.typeIs entry_tuple_getitem ?_ (args_tuple_getitem _ _)))
 show wpAny _ _ (Builtin.Tuple.tupleItemsOf (.ref t) >>= _) _ _ s
 refine wpAny_bind (tupleItemsOf_ ht ?_)
 refine wpAny_bind (wpAny_typeOf hTs ?_)
 rw[if_pos (by decide)]
 refine wpAny_bind (sliceApplied_rev hs ps ?_)
 have hno:¬ ((((items.size:Nat):Int) - 1 == 0 && (-1:Int) == 1 && items.size == items.size)=true):=by simp
 show wpAny _ _ (if (((items.size:Nat):Int) - 1 == 0 && (-1:Int) == 1 && items.size == items.size)=true then _ else _) _ _ s
 rw[if_neg hno,pick_rev]
 first
  | exact wpAny_bind (m:=Builtin.Tuple.tupleExact _) (wpAny_newObj_type (wpAny_pure ⟨_,rfl,wpAny_pure h⟩) htake)
  | exact wpAny_bind (m:=Builtin.Tuple.tupleExact _) (wpAny_newObj_type (wpAny_bind (wpAny_pure (wpAny_pure ⟨_,rfl,wpAny_pure h⟩))) htake)
  | exact wpAny_bind (wpAny_bind (m:=Builtin.Tuple.tupleExact _) (wpAny_newObj_type (wpAny_pure (wpAny_pure ⟨_,rfl,wpAny_pure h⟩)) htake))
  | exact wpAny_bind (wpAny_bind (m:=Builtin.Tuple.tupleExact _) (wpAny_newObj_type (wpAny_pure ⟨_,rfl,wpAny_pure h⟩) htake))
theorem getItem_tuple_whole{t sl:Addr}{items:Array Value}{vl vu:Value}{lo hi:Option Int}{Q:Value→Shared→Prop}(ht:IsTup s.heap t items)(hs:s.heap.IsSliceOf sl vl vu .none)(pl:IsPart vl lo)(pu:IsPart vu hi)
  (hw:sIx items.size 0 lo=0∧sIx items.size items.size hi=items.size) (h:Q (.ref t) s):wpAny (model prog w) A (getItem (.ref t) (.ref sl)) Q E s:=by
 obtain⟨os,hos,hcs,hds⟩:=id hs
 have hTs:s.TypeIs (.ref sl) "slice" := ⟨os,hos,hcs⟩
 unfold getItem
 try with_reducible refine wpAny_holding ?_
 first | refine wpAny_bind (wpAny_pure ?_) | skip
 refine wpAny_bind (wpAny_sequenceKey ht.typeIs (by decide) ?_)
 refine wpAny_bind (wpAny_callSpecial?_slot (name:=Str.ofString "__getitem__") ht.typeIs PyProof.Rows.slot_tuple_getitem
  (wpAny_call_entry PyProof.Rows.slot_tuple_getitem ht.typeIs entry_tuple_getitem ?_ (args_tuple_getitem _ _)))
 show wpAny _ _ (Builtin.Tuple.tupleItemsOf (.ref t) >>= _) _ _ s
 refine wpAny_bind (tupleItemsOf_ ht ?_)
 refine wpAny_bind (wpAny_typeOf hTs ?_)
 rw[if_pos (by decide)]
 refine wpAny_bind (sliceApplied_gen hs pl pu ?_)
 have hyes:(((sIx items.size 0 lo:Nat):Int) == 0 && (1:Int) == 1 && (sIx items.size items.size hi - sIx items.size 0 lo) == items.size)=true:=by
  rw[hw.1,hw.2]
  simp
 show wpAny _ _ (if (((sIx items.size 0 lo:Nat):Int) == 0 && (1:Int) == 1 && (sIx items.size items.size hi - sIx items.size 0 lo) == items.size)=true then _ else _) _ _ s
 rw[if_pos hyes]
 unfold Builtin.Tuple.tupleIsExact
 refine wpAny_bind (wpAny_bind (wpAny_typeOf ht.typeIs (wpAny_pure ?_)))
 rw[if_pos (by decide)]
 refine wpAny_bind (wpAny_rule ?_)
 exact wpAny_pure ⟨_,rfl,wpAny_pure h⟩
end
end HT
namespace L2
open PySem PySem.Spec PyProof.Rows
section
variable {X:Cx}
def rSlG:V→Option Int→Option Int→Hp→VK→Prop:=fun x lo hi H Q=>∃ a xs,x=.ref a∧H a=some (.tup xs)∧∀ p H',Same H H'→H' p=some (.tup (cutV xs lo hi))→Q (.ref p) H'
theorem sl_tupG:SlR X rSlG:=by
 intro pins s σ H x v vl vu lo hi sl Q I rx hs pl pu h
 obtain⟨a,xs,rfl,hx,q⟩:=h
 by_cases hw:HT.sIx xs.length 0 lo=0∧HT.sIx xs.length xs.length hi=xs.length
 ·cases rx
  obtain⟨its,r,ht,hz⟩:=I.tuple (SqT.of hx)
  have hlen:its.toArray.size=xs.length:=by rw[List.size_toArray];exact r.length.symm
  refine⟨"tuple", _,PyProof.Rows.slot_tuple_getitem.lookup,ht.typeIs,?_⟩
  refine HT.getItem_tuple_whole ht hs pl pu (by rw[hlen];exact hw) ?_
  refine⟨.ref a,H,I,rfl,q a H (Same.refl H) ?_⟩
  rw[hx]
  unfold cutV
  rw[hw.1,hw.2,List.drop_zero,Nat.sub_zero,List.take_length]
 ·exact sl_tup pins s σ H (.ref a) v vl vu lo hi sl Q I rx hs pl pu ⟨a,xs,rfl,SqT.of hx,hw,fun p hp=>q p _ (Same.new hp) upd_same⟩
def tRevT(te:TE)(ts:TO):TE:=fun σ H Q=>te σ H fun x H1=>ts σ H1 fun l H2=>l=some (-1)∧∃ a xs,x=.ref a∧H2 a=some (.tup xs)∧∀ p,H2 p=none→Q (.ref p) (upd H2 p (.tup xs.reverse))
theorem pe_revT{e st:Expr}{te:TE}{ts:TO}{p2 pos:Pos}(he:PE X e te)(hst:PO X (some st) ts):PE X (.Subscript e (.Slice none none (some st) p2) pos) (tRevT te ts):=by
 intro pins s σ H Q I h
 refine Subscript_ (thn (he pins s σ H _ I h) fun v s1 ⟨x,H1,I1,r1,q1⟩=>?_)
 refine wpAny_Slice ?_
 rw[evalPart_none]
 refine wpAny_pure ?_
 refine wpAny_pure ?_
 refine thn (hst pins s1 σ H1 _ I1 q1) fun vs s2 ⟨l,H2,I2,pl,q2⟩=>?_
 obtain⟨rfl,a,xs,rfl,ha,q⟩:=q2
 cases r1
 have I4:Inv X pins σ H2 { s2 with heap:=s2.heap.push { cls:=.type "slice", data:=.fields #[.none,.none,vs] } }:=I2.kept (t':=s2.toks) fun b ob q=>Heap.get?_push_of_some _ q
 obtain⟨its,r,ht,hz⟩:=I4.tuple (SqT.of ha)
 have hlen:=r.length
 show wpAny (model X.prog X.w) X.A (subscriptTail e (.Slice none none (some st) p2) (.ref a) (.ref s2.heap.objs.size)) (EP X pins σ Q) X.xe { s2 with heap:=s2.heap.push { cls:=.type "slice", data:=.fields #[.none,.none,vs] } }
 refine tail_any (ops:=[.ref a,.ref s2.heap.objs.size]) ht.typeIs slot_tuple_getitem.lookup ?_ (by with_unfolding_all rfl)
 refine HT.getItem_tuple_rev ht (Heap.IsSliceOf.new ..) pl ?_ (by rw[List.size_toArray]<;>omega)
 refine⟨.ref _,_,I4.laid (t':=s2.toks) (o:=.tup xs.reverse) (fun b ob q=>Heap.get?_push_of_some _ q) (Nat.le_refl _) ?_,rfl,q _ (I4.hok.fresh (Nat.le_refl _))⟩
 exact⟨by rw[List.length_reverse];exact hz,_,r.reverse,IsTup.new _ _⟩
theorem qe_revT{e st:Expr}{te:TE}{ts:TO}{p2 pos:Pos}(he:QE X e te)(hst:QO X (some st) ts):QE X (.Subscript e (.Slice none none (some st) p2) pos) (tRevT te ts):=⟨pe_revT he.p hst.p⟩
def rCatG:R2:=fun x y H Q=>∃ a b xs ys,x=.ref a∧y=.ref b∧H a=some (.tup xs)∧H b=some (.tup ys)∧xs.length+ys.length≤sizeLine∧∀ p H',Same H H'→H' p=some (.tup (xs++ys))→Q (.ref p) H'
theorem op_catG:OpR X (binaryOp .Add) rCatG:=by
 intro pins s σ H x y v u Q I rx ry h
 obtain⟨a,b,xs,ys,rfl,rfl,ha,hb,hz,q⟩:=h
 by_cases hx:xs=[]
 ·subst hx
  cases rx
  cases ry
  obtain⟨its,r1,p1,_⟩:=I.tuple (SqT.of ha)
  obtain⟨its2,r2,p2,_⟩:=I.tuple (SqT.of hb)
  cases r1
  obtain⟨⟨cls,dd,data,sl⟩,ho,hc,n,hd⟩:=id p1
  obtain⟨⟨cls2,dd2,data2,sl2⟩,ho2,hc2,n2,hd2⟩:=id p2
  simp only at hc hd hc2 hd2
  subst hc hd hc2 hd2
  exact concat_meets ⟨_,ho,rfl⟩ ⟨_,ho2,rfl⟩ noFill_tuple_add seq_tuple_add PySem.F.slot_tuple_add PySem.F.entry_tuple_add (PySem.F.args_tuple_add_2 _ _)
   (tuple_addW0 a b _ _ n n2 dd dd2 sl sl2 (by simp)) ⟨ho,ho2,⟨.ref b,H,I,rfl,q b H (Same.refl H) (by simpa using hb)⟩⟩
 ·exact op_catT pins s σ H (.ref a) (.ref b) _ _ Q I rx ry ⟨a,b,xs,ys,rfl,rfl,SqT.of ha,SqT.of hb,hx,hz,fun z=>q a H (Same.refl H) (by rw[z,List.append_nil];exact ha),fun _ p hp=>q p _ (Same.new hp) upd_same⟩
end
end L2
set_option maxHeartbeats 4000000
namespace Toy
open PySem L2
open PySem.Builtin.Int (intBits)
def top(i:Nat):Stmt:=PySem.Challenge.pw_keelbond_k18_papers_judged.main.body.getD i (.Pass ⟨0,0,0,0⟩)
abbrev s_common_factor:Stmt:=top 5
theorem sc_common_factor:FnScope ["number", "under", "greater", "lesser", "rest"] ["number", "under"] (defScope s_common_factor):=⟨rfl,rfl,rfl,by decide +kernel,rfl,by decide +kernel,by decide +kernel⟩
abbrev s_lowest:Stmt:=top 6
theorem sc_lowest:FnScope ["number", "under", "factor"] ["number", "under"] (defScope s_lowest):=⟨rfl,rfl,rfl,by decide +kernel,rfl,by decide +kernel,by decide +kernel⟩
abbrev s_over:Stmt:=top 7
theorem sc_over:FnScope ["one", "other"] ["one", "other"] (defScope s_over):=⟨rfl,rfl,rfl,by decide +kernel,rfl,by decide +kernel,by decide +kernel⟩
abbrev s_below:Stmt:=top 8
theorem sc_below:FnScope ["one", "other"] ["one", "other"] (defScope s_below):=⟨rfl,rfl,rfl,by decide +kernel,rfl,by decide +kernel,by decide +kernel⟩
abbrev s_one_under:Stmt:=top 9
theorem sc_one_under:FnScope ["row", "reached", "part"] ["row"] (defScope s_one_under):=⟨rfl,rfl,rfl,by decide +kernel,rfl,by decide +kernel,by decide +kernel⟩
abbrev s_numbers_over:Stmt:=top 10
theorem sc_numbers_over:FnScope ["row", "under"] ["row", "under"] (defScope s_numbers_over):=⟨rfl,rfl,rfl,by decide +kernel,rfl,by decide +kernel,by decide +kernel⟩
abbrev s_heaps:Stmt:=top 12
theorem sc_heaps:FnScope ["many", "found", "place"] ["many"] (defScope s_heaps):=⟨rfl,rfl,rfl,by decide +kernel,rfl,by decide +kernel,by decide +kernel⟩
abbrev s_within:Stmt:=top 13
theorem sc_within:FnScope ["touched", "heap"] ["touched", "heap"] (defScope s_within):=⟨rfl,rfl,rfl,by decide +kernel,rfl,by decide +kernel,by decide +kernel⟩
abbrev s_heap_worth:Stmt:=top 14
theorem sc_heap_worth:FnScope ["worths", "heap"] ["worths", "heap"] (defScope s_heap_worth):=⟨rfl,rfl,rfl,by decide +kernel,rfl,by decide +kernel,by decide +kernel⟩
abbrev s_fill:Stmt:=top 16
theorem sc_fill:FnScope ["due", "paid"] ["due", "paid"] (defScope s_fill):=⟨rfl,rfl,rfl,by decide +kernel,rfl,by decide +kernel,by decide +kernel⟩
abbrev s_counted:Stmt:=top 17
theorem sc_counted:FnScope ["claims", "parts", "place", "rank", "reached", "found", "other", "claim"] ["claims", "parts", "place"] (defScope s_counted):=⟨rfl,rfl,rfl,by decide +kernel,rfl,by decide +kernel,by decide +kernel⟩
abbrev s_papers:Stmt:=top 18
theorem sc_papers:FnScope ["worths", "claims", "parts", "place", "under", "numbers", "places", "found", "heap", "spent"] ["worths", "claims", "parts", "place"] (defScope s_papers):=⟨rfl,rfl,rfl,by decide +kernel,rfl,by decide +kernel,by decide +kernel⟩
abbrev s_good_paper:Stmt:=top 19
theorem sc_good_paper:FnScope ["worths", "claims", "parts", "place", "heap"] ["worths", "claims", "parts", "place", "heap"] (defScope s_good_paper):=⟨rfl,rfl,rfl,by decide +kernel,rfl,by decide +kernel,by decide +kernel⟩
abbrev s__law_bag:Stmt:=top 21
theorem sc__law_bag:FnScope ["_law_script", "_law_salt", "_law_one"] ["_law_script"] (defScope s__law_bag):=⟨rfl,rfl,rfl,by decide +kernel,rfl,by decide +kernel,by decide +kernel⟩
abbrev s__law_pull:Stmt:=top 22
theorem sc__law_pull:FnScope ["_law_bag_here", "_law_many_here", "_law_seed", "_law_mixed", "_law_drawn"] ["_law_bag_here", "_law_many_here"] (defScope s__law_pull):=⟨rfl,rfl,rfl,by decide +kernel,rfl,by decide +kernel,by decide +kernel⟩
abbrev s__law_gcd:Stmt:=top 23
theorem sc__law_gcd:FnScope ["_law_one", "_law_other"] ["_law_one", "_law_other"] (defScope s__law_gcd):=⟨rfl,rfl,rfl,by decide +kernel,rfl,by decide +kernel,by decide +kernel⟩
abbrev s__law_low:Stmt:=top 24
theorem sc__law_low:FnScope ["_law_number", "_law_under", "_law_by"] ["_law_number", "_law_under"] (defScope s__law_low):=⟨rfl,rfl,rfl,by decide +kernel,rfl,by decide +kernel,by decide +kernel⟩
abbrev s__law_plus:Stmt:=top 25
theorem sc__law_plus:FnScope ["_law_one", "_law_other"] ["_law_one", "_law_other"] (defScope s__law_plus):=⟨rfl,rfl,rfl,by decide +kernel,rfl,by decide +kernel,by decide +kernel⟩
abbrev s__law_less:Stmt:=top 26
theorem sc__law_less:FnScope ["_law_one", "_law_other"] ["_law_one", "_law_other"] (defScope s__law_less):=⟨rfl,rfl,rfl,by decide +kernel,rfl,by decide +kernel,by decide +kernel⟩
abbrev s__law_times:Stmt:=top 27
theorem sc__law_times:FnScope ["_law_one", "_law_other"] ["_law_one", "_law_other"] (defScope s__law_times):=⟨rfl,rfl,rfl,by decide +kernel,rfl,by decide +kernel,by decide +kernel⟩
abbrev s__law_over:Stmt:=top 28
theorem sc__law_over:FnScope ["_law_one", "_law_other"] ["_law_one", "_law_other"] (defScope s__law_over):=⟨rfl,rfl,rfl,by decide +kernel,rfl,by decide +kernel,by decide +kernel⟩
abbrev s__law_below:Stmt:=top 29
theorem sc__law_below:FnScope ["_law_one", "_law_other"] ["_law_one", "_law_other"] (defScope s__law_below):=⟨rfl,rfl,rfl,by decide +kernel,rfl,by decide +kernel,by decide +kernel⟩
abbrev s__law_sum:Stmt:=top 30
theorem sc__law_sum:FnScope ["_law_row_here", "_law_found", "_law_one"] ["_law_row_here"] (defScope s__law_sum):=⟨rfl,rfl,rfl,by decide +kernel,rfl,by decide +kernel,by decide +kernel⟩
abbrev s__law_truth:Stmt:=top 31
theorem sc__law_truth:FnScope ["_law_found", "_law_due_here"] ["_law_found", "_law_due_here"] (defScope s__law_truth):=⟨rfl,rfl,rfl,by decide +kernel,rfl,by decide +kernel,by decide +kernel⟩
abbrev s__law_heaps:Stmt:=top 32
theorem sc__law_heaps:FnScope ["_law_many_here", "_law_found", "_law_place"] ["_law_many_here"] (defScope s__law_heaps):=⟨rfl,rfl,rfl,by decide +kernel,rfl,by decide +kernel,by decide +kernel⟩
abbrev s__law_lies:Stmt:=top 33
theorem sc__law_lies:FnScope ["_law_touched", "_law_heap_here"] ["_law_touched", "_law_heap_here"] (defScope s__law_lies):=⟨rfl,rfl,rfl,by decide +kernel,rfl,by decide +kernel,by decide +kernel⟩
abbrev s__law_worth:Stmt:=top 34
theorem sc__law_worth:FnScope ["_law_worths_here", "_law_heap_here"] ["_law_worths_here", "_law_heap_here"] (defScope s__law_worth):=⟨rfl,rfl,rfl,by decide +kernel,rfl,by decide +kernel,by decide +kernel⟩
abbrev s__law_many:Stmt:=top 35
theorem sc__law_many:FnScope ["_law_bag_here"] ["_law_bag_here"] (defScope s__law_many):=⟨rfl,rfl,rfl,by decide +kernel,rfl,by decide +kernel,by decide +kernel⟩
abbrev s__law_heap:Stmt:=top 36
theorem sc__law_heap:FnScope ["_law_bag_here", "_law_many_here", "_law_mask"] ["_law_bag_here", "_law_many_here"] (defScope s__law_heap):=⟨rfl,rfl,rfl,by decide +kernel,rfl,by decide +kernel,by decide +kernel⟩
abbrev s__law_worths:Stmt:=top 37
theorem sc__law_worths:FnScope ["_law_bag_here", "_law_many_here", "_law_scale"] ["_law_bag_here", "_law_many_here"] (defScope s__law_worths):=⟨rfl,rfl,rfl,by decide +kernel,rfl,by decide +kernel,by decide +kernel⟩
abbrev s__law_due:Stmt:=top 38
theorem sc__law_due:FnScope ["_law_bag_here", "_law_scale"] ["_law_bag_here", "_law_scale"] (defScope s__law_due):=⟨rfl,rfl,rfl,by decide +kernel,rfl,by decide +kernel,by decide +kernel⟩
abbrev s__law_claims:Stmt:=top 39
theorem sc__law_claims:FnScope ["_law_bag_here", "_law_many_here", "_law_scale", "_law_ranks", "_law_found", "_law_k"] ["_law_bag_here", "_law_many_here"] (defScope s__law_claims):=⟨rfl,rfl,rfl,by decide +kernel,rfl,by decide +kernel,by decide +kernel⟩
abbrev s__law_row:Stmt:=top 40
theorem sc__law_row:FnScope ["_law_bag_here", "_law_claims_here", "_law_base"] ["_law_bag_here", "_law_claims_here"] (defScope s__law_row):=⟨rfl,rfl,rfl,by decide +kernel,rfl,by decide +kernel,by decide +kernel⟩
abbrev s__law_ceil:Stmt:=top 41
theorem sc__law_ceil:FnScope ["_law_one"] ["_law_one"] (defScope s__law_ceil):=⟨rfl,rfl,rfl,by decide +kernel,rfl,by decide +kernel,by decide +kernel⟩
abbrev s__law_tabled:Stmt:=top 42
theorem sc__law_tabled:FnScope ["_law_bag_here", "_law_many_here", "_law_scale", "_law_under", "_law_claims_here", "_law_rows", "_law_claim", "_law_row_here", "_law_place", "_law_more", "_law_worths_here"] ["_law_bag_here"] (defScope s__law_tabled):=⟨rfl,rfl,rfl,by decide +kernel,rfl,by decide +kernel,by decide +kernel⟩
abbrev s__law_need:Stmt:=top 43
theorem sc__law_need:FnScope ["_law_claims_here", "_law_places", "_law_heap_here"] ["_law_claims_here", "_law_places", "_law_heap_here"] (defScope s__law_need):=⟨rfl,rfl,rfl,by decide +kernel,rfl,by decide +kernel,by decide +kernel⟩
abbrev s__law_left:Stmt:=top 44
theorem sc__law_left:FnScope ["_law_worths_here", "_law_claims_here", "_law_parts", "_law_places", "_law_heap_here", "_law_others"] ["_law_worths_here", "_law_claims_here", "_law_parts", "_law_places", "_law_heap_here"] (defScope s__law_left):=⟨rfl,rfl,rfl,by decide +kernel,rfl,by decide +kernel,by decide +kernel⟩
abbrev s__law_level:Stmt:=top 45
theorem sc__law_level:FnScope ["_law_worths_here", "_law_claims_here", "_law_parts", "_law_places", "_law_top", "_law_tight", "_law_heap_here", "_law_need_here", "_law_here"] ["_law_worths_here", "_law_claims_here", "_law_parts", "_law_places"] (defScope s__law_level):=⟨rfl,rfl,rfl,by decide +kernel,rfl,by decide +kernel,by decide +kernel⟩
abbrev s__law_filled:Stmt:=top 46
theorem sc__law_filled:FnScope ["_law_worths_here", "_law_claims_here", "_law_parts", "_law_places", "_law_now", "_law_going", "_law_top", "_law_done", "_law_at"] ["_law_worths_here", "_law_claims_here", "_law_parts", "_law_places"] (defScope s__law_filled):=⟨rfl,rfl,rfl,by decide +kernel,rfl,by decide +kernel,by decide +kernel⟩
abbrev s__law_fair:Stmt:=top 47
theorem sc__law_fair:FnScope ["_law_worths_here", "_law_claims_here", "_law_parts", "_law_rank", "_law_places"] ["_law_worths_here", "_law_claims_here"] (defScope s__law_fair):=⟨rfl,rfl,rfl,by decide +kernel,rfl,by decide +kernel,by decide +kernel⟩
abbrev s__law_case:Stmt:=top 48
theorem sc__law_case:FnScope ["_law_bag_here", "_law_worths_here", "_law_claims_here", "_law_parts", "_law_rows", "_law_many_here"] ["_law_bag_here"] (defScope s__law_case):=⟨rfl,rfl,rfl,by decide +kernel,rfl,by decide +kernel,by decide +kernel⟩
abbrev s__law_fill:Stmt:=top 49
theorem sc__law_fill:FnScope ["_law_due_here", "_law_paid"] ["_law_due_here", "_law_paid"] (defScope s__law_fill):=⟨rfl,rfl,rfl,by decide +kernel,rfl,by decide +kernel,by decide +kernel⟩
abbrev s__law_ahead:Stmt:=top 50
theorem sc__law_ahead:FnScope ["_law_claims_here", "_law_parts", "_law_place", "_law_own", "_law_mark", "_law_found", "_law_at", "_law_like"] ["_law_claims_here", "_law_parts", "_law_place"] (defScope s__law_ahead):=⟨rfl,rfl,rfl,by decide +kernel,rfl,by decide +kernel,by decide +kernel⟩
abbrev s__law_bend:Stmt:=top 51
theorem sc__law_bend:FnScope ["_law_bag_here", "_law_claims_here", "_law_parts", "_law_way", "_law_at", "_law_other", "_law_step", "_law_many_here", "_law_most"] ["_law_bag_here", "_law_claims_here", "_law_parts"] (defScope s__law_bend):=⟨rfl,rfl,rfl,by decide +kernel,rfl,by decide +kernel,by decide +kernel⟩
abbrev s__law_papers:Stmt:=top 52
theorem sc__law_papers:FnScope ["_law_worths_here", "_law_claims_here", "_law_parts", "_law_place", "_law_row_here", "_law_found", "_law_heap_here", "_law_load"] ["_law_worths_here", "_law_claims_here", "_law_parts", "_law_place"] (defScope s__law_papers):=⟨rfl,rfl,rfl,by decide +kernel,rfl,by decide +kernel,by decide +kernel⟩
abbrev s__law_looked:Stmt:=top 53
theorem sc__law_looked:FnScope ["_law_worths_here", "_law_claims_here", "_law_parts", "_law_place", "_law_heap_here", "_law_due_here", "_law_given", "_law_found"] ["_law_worths_here", "_law_claims_here", "_law_parts", "_law_place", "_law_heap_here", "_law_due_here"] (defScope s__law_looked):=⟨rfl,rfl,rfl,by decide +kernel,rfl,by decide +kernel,by decide +kernel⟩
abbrev s_law:Stmt:=top 54
theorem sc_law:FnScope ["_law_script", "_law_bag_here", "_law_worths_here", "_law_claims_here", "_law_parts", "_law_at", "_law_some", "_law_heap_here", "_law_bent"] ["_law_script"] (defScope s_law):=⟨rfl,rfl,rfl,by decide +kernel,rfl,by decide +kernel,by decide +kernel⟩
structure Txt(K:PySem.W.Frag)(mg:Str→Option Value)(cx:Str→Addr):Prop where
 n_sorted:mg "sorted" = none
 n_range:mg "range" = none
 n_all:mg "all" = none
 n_sum:mg "sum" = none
 n_enumerate:mg "enumerate" = none
 n_len:mg "len" = none
 n_list:mg "list" = none
 n_abs:mg "abs" = none
 n_isinstance:mg "isinstance" = none
 n_bool:mg "bool" = none
 n_tuple:mg "tuple" = none
 n_min:mg "min" = none
 n_any:mg "any" = none
 n_set:mg "set" = none
 x_BadPart:Exc K mg "BadPart" (cx "BadPart")
def GoodU2(U:Int)(k:Nat)(m:Int)(c:Cl):Prop:=Du U k c.n c.u∧c.hp.length≤6∧(∀ x∈c.hp,0≤x∧x < m)∧Sz 10 c.rk
def FndAt(H:Hp)(xs:List V)(fs:List (Nat×Int×Int)):Prop:=xs.length=fs.length∧∀(i:Nat) f,fs[i]?=some f→∃ r t,xs[i]?=some (.ref r)∧H r=some (.tup [.ref t,.int f.2.1,.int f.2.2])∧H t=some (.tup ((Srt.sub f.1).map V.int))
structure LvIn(U:Int)(k:Nat)(w c p pl:Addr)(ws:List Int)(xs:List V)(cs:List Cl)(ys:List V)(ps:List (Int×Int))(q:Nat→Bool)(H:Hp):Prop where
 hU:UOk U
 hk:k≤4700
 w:H w=some (.lst (ws.map V.int))
 c:H c=some (.lst xs)
 hC:ClsAt H xs cs
 p:H p=some (.lst ys)
 hR:RowU U k H ys ps
 pl:H pl=some (.lst (plV cs.length q))
 len:cs.length=ps.length
 c16:cs.length≤16
 due:∀ c∈cs,PtOk U k (c.n,c.u)∧c.hp.length≤6
 w6:ws.length≤6
 wz:∀ x∈ws,Sz 200 x
theorem LvIn.same{U:Int}{k:Nat}{w c p pl:Addr}{ws:List Int}{xs:List V}{cs:List Cl}{ys:List V}{ps:List (Int×Int)}{q:Nat→Bool}{H H':Hp}(x:LvIn U k w c p pl ws xs cs ys ps q H)(s:Same H H'):LvIn U k w c p pl ws xs cs ys ps q H' :=
 ⟨x.hU,x.hk,s _ _ x.w,s _ _ x.c,x.hC.ts (TS.of s),s _ _ x.p,x.hR.ts (TS.of s),s _ _ x.pl,x.len,x.c16,x.due,x.w6,x.wz⟩
def undB(cs:List Cl)(ps:List (Int×Int))(q:Nat→Bool):Int:=undP (rowL cs ps q cs.length)
abbrev RB(ws:List Int)(cs:List Cl)(ps:List (Int×Int))(q:Nat→Bool)(i:Nat):Int:=roomN (undB cs ps q) ws cs ps q (Srt.sub i)
abbrev DB(cs:List Cl)(ps:List (Int×Int))(q:Nat→Bool)(i:Nat):Int:=dueN (undB cs ps q) cs q (Srt.sub i)
theorem flat_plV{n:Nat}{q:Nat→Bool}:(plV n q).all flatV=true:=flat_ints _
theorem need_eq{U:Int}{cs:List Cl}{q:Nat→Bool}{hs:List Int}:((((List.range cs.length).filter q).filter (inn cs hs)).map fun i=>num U (dueP cs i)).sum=dueN U cs q hs:=by
 unfold dueN insL
 rw[List.filter_filter,List.filter_filter]
 congr 2
 refine List.filter_congr fun i _=>?_
 rw[Bool.and_comm]
theorem left_eq{U:Int}{cs:List Cl}{ps:List (Int×Int)}{q:Nat→Bool}{hs:List Int}:(((List.range cs.length).filter fun i=>!q i && inn cs hs i).map fun i=>num U (ps.getD i (0,1))).sum=paidN U cs ps q hs:=by
 unfold paidN insL
 rw[List.filter_filter]
theorem LvIn.dueAt{U:Int}{k:Nat}{w c p pl:Addr}{ws:List Int}{xs:List V}{cs:List Cl}{ys:List V}{ps:List (Int×Int)}{q:Nat→Bool}{H:Hp}(x:LvIn U k w c p pl ws xs cs ys ps q H){i:Nat}(hi:i < cs.length):PtOk U k (dueP cs i):=by
 rw[dueP_at hi]
 exact (x.due _ (List.getElem_mem hi)).1
theorem LvIn.partAt{U:Int}{k:Nat}{w c p pl:Addr}{ws:List Int}{xs:List V}{cs:List Cl}{ys:List V}{ps:List (Int×Int)}{q:Nat→Bool}{H:Hp}(x:LvIn U k w c p pl ws xs cs ys ps q H){i:Nat}(hi:i < cs.length):PtOk U k (ps.getD i (0,1)):=by
 have hi2:i < ps.length:=by rw[← x.len];exact hi
 have e:ps.getD i (0,1)=ps[i]:=by simp[List.getD_eq_getElem?_getD,hi2]
 rw[e]
 exact x.hR.mem _ (List.getElem_mem hi2)
def haltQ(R D:Nat→Int)(n:Nat)(lv:Int×Int)(cs:List Cl)(q:Nat→Bool)(i:Nat):Bool:=q i && (decide (lv=(1,1)) || ((List.range n).filter (tightB R D lv)).any fun j=>inn cs (Srt.sub j) i)
theorem subs_fn{H:Hp}{xs:List V}{n:Nat}(h:SubsAt H xs n):∃ ts:Nat→Addr,xs=(List.range n).map (fun i=>V.ref (ts i))∧∀ i,i < n→H (ts i)=some (.tup ((Srt.sub i).map V.int)):=by
 refine⟨fun i=>match xs[i]? with | some (.ref t)=>t | _=>0,?_,fun i hi=>?_⟩
 ·apply List.ext_getElem?
  intro i
  rw[List.getElem?_map]
  by_cases hi:i < n
  ·obtain⟨t,e,_⟩:=h.2 i hi
   rw[List.getElem?_range hi,e]
   show some (V.ref t)=some (V.ref (match xs[i]? with | some (.ref t)=>t | _=>0))
   rw[e]
  ·rw[List.getElem?_eq_none (by rw[h.1];omega),List.getElem?_eq_none (by rw[List.length_range];omega)]
   rfl
 ·obtain⟨t,e,h1⟩:=h.2 i hi
  show H (match xs[i]? with | some (.ref t)=>t | _=>0)=_
  rw[e]
  exact h1
theorem low_sz{n u:Int}{k:Nat}(hn:Sz k n)(hu:Sz k u):Sz k (low n u).1∧Sz k (low n u).2:=⟨hn.le (natAbs_div_le _ _),hu.le (natAbs_div_le _ _)⟩
theorem plV_one{n:Nat}{q q':Nat→Bool}(h:∀ i,i < n→q i=q' i):plV n q=plV n q':=by
 unfold plV plL
 rw[List.filter_congr fun i hi=>h i (List.mem_range.mp hi)]
def Nt1(hs:List Int)(r:List (Int×Int)):Prop:=∀ p:Nat,(p:Int)∉hs→r.getD p (0,1)=(0,1)
def NtOk(cs:List Cl)(rss:List (List (Int×Int))):Prop:=∀(i:Nat) c r,cs[i]?=some c→rss[i]?=some r→Nt1 c.hp r
def colN(rss:List (List (Int×Int)))(p:Nat):Int:=(rss.map fun r=>num UM (r.getD p (0,1))).sum
def ColOk(rss:List (List (Int×Int)))(ws:List Int):Prop:=∀ p,p < ws.length→colN rss p≤ws.getD p 0*UM
theorem Nt1.rep{hs:List Int}{m:Nat}:Nt1 hs (List.replicate m (0,1)):=fun p _=>by
 rw[List.getD_eq_getElem?_getD,List.getElem?_replicate]
 split<;>rfl
theorem Nt1.put{hs:List Int}{r:List (Int×Int)}{x:Int}{v:Int×Int}(h:Nt1 hs r)(hx:x∈hs)(h0:0≤x):Nt1 hs (r.set x.toNat v):=fun p hp=>by
 have ne:x.toNat≠p:=fun z=>hp (by rw[← z,Int.toNat_of_nonneg h0];exact hx)
 have:=h p hp
 rw[List.getD_eq_getElem?_getD] at this ⊢
 rw[List.getElem?_set_ne ne]
 exact this
theorem NtOk.nil:NtOk [] []:=fun i c r h=>by simp at h
theorem NtOk.snoc{cs:List Cl}{rss:List (List (Int×Int))}{c:Cl}{r:List (Int×Int)}(h:NtOk cs rss)(e:rss.length=cs.length)(hr:Nt1 c.hp r):NtOk (cs++[c]) (rss++[r]):=fun i c' r' hc h'=>by
 by_cases hi:i < cs.length
 ·rw[List.getElem?_append_left hi] at hc
  rw[List.getElem?_append_left (by omega)] at h'
  exact h i c' r' hc h'
 ·have hl:=(List.getElem?_eq_some_iff.mp hc).1
  rw[List.length_append] at hl
  have e2:i=cs.length:=by
   have:([c]:List Cl).length=1:=rfl
   omega
  subst e2
  rw[List.getElem?_append_right (Nat.le_refl _),Nat.sub_self] at hc
  rw[List.getElem?_append_right (by omega),e,Nat.sub_self] at h'
  cases hc
  cases h'
  exact hr
theorem ColOk.snoc{rss:List (List (Int×Int))}{ws:List Int}{x:Int}{j:Nat}(h:ColOk rss ws)(e:ws.length=j)(hx:colN rss j≤x*UM):ColOk rss (ws++[x]):=fun p hp=>by
 rw[List.getD_eq_getElem?_getD]
 by_cases hl:p < ws.length
 ·have:=h p hl
  rw[List.getD_eq_getElem?_getD] at this
  rw[List.getElem?_append_left hl]
  exact this
 ·rw[List.length_append] at hp
  have e2:p=ws.length:=by
   have:([x]:List Int).length=1:=rfl
   omega
  rw[e2,List.getElem?_append_right (Nat.le_refl _),Nat.sub_self,e]
  exact hx
theorem ceil_le{S:Int×Int}(o:Ok UM S):num UM S≤-(-S.1 / S.2)*UM:=by
 have hp:=o.pos
 have h1:=Int.ediv_mul_le (-S.1) (by omega:S.2≠0)
 have h2:=num_mul o
 have h3:S.1≤-(-S.1 / S.2)*S.2:=by rw[Int.neg_mul];omega
 have h4:=Int.mul_le_mul_of_nonneg_right h3 (Int.le_of_lt um_ok.pos)
 generalize -(-S.1 / S.2)=c at h4 ⊢
 refine Int.le_of_mul_le_mul_right (a:=S.2) ?_ hp
 rw[h2]
 have e:c*UM*S.2=c*S.2*UM:=by rw[Int.mul_assoc,Int.mul_comm UM,← Int.mul_assoc]
 rw[e]
 exact h4
structure Tb(H0:Hp)(B L F C Z:Addr)(xs0:List V)(cs0:List Cl)(xs:List V)(cs:List Cl)(zs:List V)(rss:List (List (Int×Int)))(H:Hp):Prop where
 b:BagAt H B L
 fr:Fr1 B H0 H
 f:H F=some (.lst xs0)
 hF:ClsAt H xs0 cs0
 c:H C=some (.lst xs)
 hC:ClsAt H xs cs
 z:H Z=some (.lst zs)
 hZ:RowsAt [B,L,F,C,Z] UM 115 H zs rss
 hz0:∀ l,V.ref l∈zs→H0 l=none
structure Tn(H0:Hp)(B L F C Z:Addr):Prop where
 fB:F≠B
 fL:F≠L
 cB:C≠B
 cL:C≠L
 zB:Z≠B
 zL:Z≠L
 fC:F≠C
 fZ:F≠Z
 cZ:C≠Z
 f0:H0 F=none
 c0:H0 C=none
 z0:H0 Z=none
theorem Tb.pull{H0:Hp}{B L F C Z:Addr}{xs0:List V}{cs0:List Cl}{xs:List V}{cs:List Cl}{zs:List V}{rss:List (List (Int×Int))}{H:Hp}{H':Hp}(t:Tb H0 B L F C Z xs0 cs0 xs cs zs rss H)(n:Tn H0 B L F C Z)(f:Fr1 B H H')(b:BagAt H' B L):Tb H0 B L F C Z xs0 cs0 xs cs zs rss H':=by
 have s:=TS.fr t.b f
 exact⟨b,t.fr.trans f,f _ _ n.fB t.f,t.hF.ts s,f _ _ n.cB t.c,t.hC.ts s,f _ _ n.zB t.z,t.hZ.step (fun l xs _ hx h=>f l _ (fun e=>hx (by rw[e];exact List.mem_cons_self)) h) s,t.hz0⟩
theorem Tb.same{H0:Hp}{B L F C Z:Addr}{xs0:List V}{cs0:List Cl}{xs:List V}{cs:List Cl}{zs:List V}{rss:List (List (Int×Int))}{H:Hp}{H':Hp}(t:Tb H0 B L F C Z xs0 cs0 xs cs zs rss H)(s:Same H H'):Tb H0 B L F C Z xs0 cs0 xs cs zs rss H' :=
 ⟨t.b.keep s,t.fr.trans (Fr1.of s),s _ _ t.f,t.hF.ts (TS.of s),s _ _ t.c,t.hC.ts (TS.of s),s _ _ t.z,t.hZ.step (fun l xs _ _ h=>s _ _ h) (TS.of s),t.hz0⟩
theorem Tb.row{H0:Hp}{B L F C Z:Addr}{xs0:List V}{cs0:List Cl}{xs:List V}{cs:List Cl}{zs:List V}{rss:List (List (Int×Int))}{H:Hp}{a:Addr}{ys ys':List V}(t:Tb H0 B L F C Z xs0 cs0 xs cs zs rss H)(ha:H a=some (.lst ys))(nB:a≠B)(nL:a≠L)(nF:a≠F)(nC:a≠C)(nZ:a≠Z)(nz:V.ref a∉zs)(h0:H0 a=none):Tb H0 B L F C Z xs0 cs0 xs cs zs rss (upd H a (.lst ys')):=by
 have s:TS H (upd H a (.lst ys')):=TS.lst ha
 refine⟨t.b.put nB nL,fun b o hb h=>?_,by rw[upd_ne nF.symm];exact t.f,t.hF.ts s,by rw[upd_ne nC.symm];exact t.c,t.hC.ts s,by rw[upd_ne nZ.symm];exact t.z,t.hZ.step (fun l xs hl _ h=>?_) s,t.hz0⟩
 ·rw[upd_ne (fun e=>by rw[e,h0] at h;cases h)]
  exact t.fr b o hb h
 ·rw[upd_ne (fun e=>nz (by rw[← e];exact hl))]
  exact h
theorem Tb.addRow{H0:Hp}{B L F C Z:Addr}{xs0:List V}{cs0:List Cl}{xs:List V}{cs:List Cl}{zs:List V}{rss:List (List (Int×Int))}{H:Hp}{r:Addr}{ys:List V}{row:List (Int×Int)}(t:Tb H0 B L F C Z xs0 cs0 xs cs zs rss H)(n:Tn H0 B L F C Z)(hr:H r=some (.lst ys))(hR:RowU UM 115 H ys row)(rB:r≠B)(rL:r≠L)(rF:r≠F)(rC:r≠C)(rZ:r≠Z)(rz:V.ref r∉zs)(r0:H0 r=none):Tb H0 B L F C Z xs0 cs0 xs cs (zs++[.ref r]) (rss++[row]) (upd H Z (.lst (zs++[.ref r]))):=by
 have s:TS H (upd H Z (.lst (zs++[.ref r]))):=TS.lst t.z
 refine⟨t.b.put n.zB n.zL,fun b o hb h=>?_,by rw[upd_ne n.fZ];exact t.f,t.hF.ts s,by rw[upd_ne n.cZ];exact t.c,t.hC.ts s,upd_same,?_,fun l hl=>?_⟩
 ·rw[upd_ne (fun e=>by rw[e,n.z0] at h;cases h)]
  exact t.fr b o hb h
 ·refine (t.hZ.step (fun l xs hl hx h=>?_) s).snoc rz (by rw[upd_ne rZ];exact hr) (hR.ts s) ?_
  ·rw[upd_ne (fun e=>hx (by rw[e];simp))]
   exact h
  ·simp[rB,rL,rF,rC,rZ]
 ·rcases List.mem_append.mp hl with hl | hl
  ·exact t.hz0 l hl
  ·have:=List.mem_singleton.mp hl
   cases this
   exact r0
theorem Tb.addClaim{H0:Hp}{B L F C Z:Addr}{xs0:List V}{cs0:List Cl}{xs:List V}{cs:List Cl}{zs:List V}{rss:List (List (Int×Int))}{H:Hp}{v:V}{c:Cl}(t:Tb H0 B L F C Z xs0 cs0 xs cs zs rss H)(n:Tn H0 B L F C Z)(hv:ClAt H v c):Tb H0 B L F C Z xs0 cs0 (xs++[v]) (cs++[c]) zs rss (upd H C (.lst (xs++[v]))):=by
 have s:TS H (upd H C (.lst (xs++[v]))):=TS.lst t.c
 refine⟨t.b.put n.cB n.cL,fun b o hb h=>?_,by rw[upd_ne n.fC];exact t.f,t.hF.ts s,upd_same,(t.hC.ts s).snoc (hv.ts s),by rw[upd_ne n.cZ.symm];exact t.z,t.hZ.step (fun l xs hl hx h=>?_) s,t.hz0⟩
 ·rw[upd_ne (fun e=>by rw[e,n.c0] at h;cases h)]
  exact t.fr b o hb h
 ·rw[upd_ne (fun e=>hx (by rw[e];simp))]
  exact h
theorem add_du{U:Int}(hU:0 < U){k j:Nat}{a b:Int×Int}(ha:PtOk U k a)(hb:PtOk U k b)(na:0≤a.1)(nb:0≤b.1)(hj:k+1≤j):Du U j (addP a b).1 (addP a b).2:=by
 have e:=add_ok hU ha.toOk hb.toOk
 have o:Ok U (addP a b):=by rw[e];exact low_ok hU
 have en:num U (addP a b)=num U a+num U b:=by rw[e,num_low hU]
 refine⟨⟨o,?_⟩,?_⟩
 ·show Sz j (num U (addP a b))
  rw[en]
  exact Sz.mono (Sz.add ha.sz hb.sz) hj
 ·have h1:=(nn_num hU ha.toOk).mp na
  have h2:=(nn_num hU hb.toOk).mp nb
  exact (nn_num hU o).mpr (by rw[en];omega)
def RwOk(m:Nat)(r:List (Int×Int)):Prop:=r.length=m∧∀ p∈r,0≤p.1
structure Tf(H0:Hp)(B L W C P Z:Addr)(ws:List Int)(xs:List V)(cs:List Cl)(ys:List V)(ps:List (Int×Int))(zs:List V)(rss:List (List (Int×Int)))(H:Hp):Prop where
 b:BagAt H B L
 fr:Fr1 B H0 H
 w:H W=some (.lst (ws.map V.int))
 c:H C=some (.lst xs)
 hC:ClsAt H xs cs
 p:H P=some (.lst ys)
 hR:RowU UM 121 H ys ps
 z:H Z=some (.lst zs)
 hZ:RowsAt [B,L,W,C,P,Z] UM 115 H zs rss
 w0:H0 W=none
 c0:H0 C=none
 p0:H0 P=none
 z0:H0 Z=none
 wc:W≠C
 wp:W≠P
 wz:W≠Z
 cp:C≠P
 cz:C≠Z
 pz:P≠Z
 w6:ws.length≤6
 wsz:∀ x∈ws,0≤x∧Sz 140 x
 c16:cs.length≤16
 pl:ps.length=cs.length
 rl:rss.length=cs.length
 hG:∀ c∈cs,GoodU2 UM 122 ws.length c
 hr:∀ r∈rss,RwOk ws.length r
 eP:ps=rss.map sumP
 hn:NtOk cs rss
 col:ColOk rss ws
theorem map_getD{α β:Type}(g:α→β)(d:α)(l:List α):(List.range l.length).map (fun i=>g (l.getD i d))=l.map g:=by
 apply List.ext_getElem?
 intro i
 rw[List.getElem?_map,List.getElem?_map]
 by_cases h:i < l.length
 ·rw[List.getElem?_range h,List.getElem?_eq_getElem h]
  simp[List.getD_eq_getElem?_getD,h]
 ·rw[List.getElem?_eq_none (by rw[List.length_range];omega),List.getElem?_eq_none (by omega)]
  rfl
theorem sum_filt_le{α:Type}{g:α→Bool}{f:α→Int}{l:List α}(h:∀ x∈l,0≤f x):((l.filter g).map f).sum≤(l.map f).sum:=by
 rw[sum_if]
 refine sum_mono fun i hi=>?_
 split
 ·exact Int.le_refl _
 ·exact h i hi
theorem sum_add{α:Type}(f g:α→Int):∀ I:List α,(I.map fun i=>f i+g i).sum=(I.map f).sum+(I.map g).sum
 | []=>rfl
 | i::I=>by
  rw[List.map_cons,List.map_cons,List.map_cons,List.sum_cons,List.sum_cons,List.sum_cons,sum_add f g I]
  omega
structure Ap(B L W C P Pl:Addr):Prop where
 wB:W≠B
 wL:W≠L
 cB:C≠B
 cL:C≠L
 pB:P≠B
 pL:P≠L
 plB:Pl≠B
 plL:Pl≠L
 wP:W≠P
 cP:C≠P
 plP:Pl≠P
theorem halt_ne{U:Int}{ws:List Int}{cs:List Cl}{ps:List (Int×Int)}{q:Nat→Bool}{N:Nat}{lv:Int×Int}(L:Lvl (fun i=>roomN U ws cs ps q (Srt.sub i)) (fun i=>dueN U cs q (Srt.sub i)) N lv)(h:plL cs.length q≠[]):plL cs.length (haltQ (fun i=>roomN U ws cs ps q (Srt.sub i)) (fun i=>dueN U cs q (Srt.sub i)) N lv cs q)≠[]:=by
 have key:∃ i,i < cs.length∧haltQ (fun i=>roomN U ws cs ps q (Srt.sub i)) (fun i=>dueN U cs q (Srt.sub i)) N lv cs q i=true:=by
  rcases L.at' with e | ⟨j,hj,hD,e⟩
  ·obtain⟨x,hx⟩:=List.exists_mem_of_ne_nil _ h
   obtain⟨i,hi,rfl⟩:=List.mem_map.mp hx
   obtain⟨h1,h2⟩:=List.mem_filter.mp hi
   refine⟨i,List.mem_range.mp h1,?_⟩
   unfold haltQ
   rw[h2,decide_eq_true e]
   rfl
  ·have hne:(insL cs (Srt.sub j)).filter q≠[]:=fun z=>by
    have:dueN U cs q (Srt.sub j)=0:=by unfold dueN;rw[z];rfl
    have hD':0 < dueN U cs q (Srt.sub j):=hD
    omega
   obtain⟨i,hi⟩:=List.exists_mem_of_ne_nil _ hne
   obtain⟨h1,h2⟩:=List.mem_filter.mp hi
   refine⟨i,insL_lt h1,?_⟩
   unfold haltQ
   rw[h2,Bool.true_and,Bool.or_eq_true]
   refine .inr (List.any_eq_true.mpr ⟨j,List.mem_filter.mpr ⟨List.mem_range.mpr hj,?_⟩,(List.mem_filter.mp h1).2⟩)
   unfold tightB
   have e':dueN U cs q (Srt.sub j)*lv.1=roomN U ws cs ps q (Srt.sub j)*lv.2:=by rw[Int.mul_comm];exact e
   rw[decide_eq_true hD,decide_eq_true ((tight_iff (R:=fun i=>roomN U ws cs ps q (Srt.sub i)) (D:=fun i=>dueN U cs q (Srt.sub i)) L.pos L.cop hD).mpr e')]
   rfl
 obtain⟨i,hi,e⟩:=key
 intro z
 have:(i:Int)∈plL cs.length (haltQ (fun i=>roomN U ws cs ps q (Srt.sub i)) (fun i=>dueN U cs q (Srt.sub i)) N lv cs q):=List.mem_map.mpr ⟨i,List.mem_filter.mpr ⟨List.mem_range.mpr hi,e⟩,rfl⟩
 rw[z] at this
 cases this
def newP(lv:Int×Int)(cs:List Cl)(i:Nat):Int×Int:=low (lv.1*(dueP cs i).1) (lv.2*(dueP cs i).2)
def stp(lv:Int×Int)(cs:List Cl)(ps:List (Int×Int))(hq:Nat→Bool):List (Int×Int):=(List.range ps.length).map fun i=>if hq i=true then newP lv cs i else ps.getD i (0,1)
abbrev RU(U:Int)(ws:List Int)(cs:List Cl)(ps:List (Int×Int))(q:Nat→Bool)(i:Nat):Int:=roomN U ws cs ps q (Srt.sub i)
abbrev DU(U:Int)(cs:List Cl)(q:Nat→Bool)(i:Nat):Int:=dueN U cs q (Srt.sub i)
theorem getD_range{α:Type}{n i:Nat}{f:Nat→α}{d:α}(h:i < n):((List.range n).map f).getD i d=f i:=by
 rw[List.getD_eq_getElem?_getD,List.getElem?_map,List.getElem?_range h]
 rfl
structure FC(U0:Int)(ws:List Int)(cs:List Cl):Prop where
 u0:0 < U0
 uz:Sz 90 U0
 due:∀ c∈cs,PtOk U0 180 (c.n,c.u)∧0≤c.n∧c.hp.length≤6
 c16:cs.length≤16
 w6:ws.length≤6
 wz:∀ x∈ws,Sz 200 x
theorem FC.dp{U0:Int}{ws:List Int}{cs:List Cl}(c:FC U0 ws cs){i:Nat}(hi:i < cs.length):PtOk U0 180 (dueP cs i)∧0≤(dueP cs i).1:=by
 rw[dueP_at hi]
 have:=c.due _ (List.getElem_mem hi)
 exact⟨this.1,this.2.1⟩
structure FI(U0:Int)(ws:List Int)(cs:List Cl)(r:Nat)(U:Int)(ps:List (Int×Int))(q:Nat→Bool):Prop where
 up:0 < U
 dvd:U0∣U
 uz:Sz (90+200*r) U
 len:ps.length=cs.length
 ok:∀ i,i < cs.length→PtOk U (300+200*r) (ps.getD i (0,1))
 room:∀ j,j < 2 ^ ws.length→0≤RU U ws cs ps q j
def Hd(U:Int)(ws:List Int)(cs:List Cl)(ps:List (Int×Int))(q:Nat→Bool)(i:Nat):Prop:=ps.getD i (0,1)=dueP cs i∨∃ j,j < 2 ^ ws.length∧inn cs (Srt.sub j) i=true∧(∀ a∈insL cs (Srt.sub j),q a=false)∧RU U ws cs ps q j=0
def Bd(U:Int)(cs:List Cl)(ps:List (Int×Int))(q:Nat→Bool):Prop:=∀ i,i < cs.length→q i=false→0≤num U (ps.getD i (0,1))∧num U (ps.getD i (0,1))≤num U (dueP cs i)
section
variable {U0 U:Int}{ws:List Int}{cs:List Cl}{r:Nat}{ps:List (Int×Int)}{q:Nat→Bool}{lv:Int×Int}
theorem dueN_base(c:FC U0 ws cs)(d:U0∣U)(hs:List Int):dueN U cs q hs=dueN U0 cs q hs*(U / U0):=by
 refine dueN_up (ps:=[]) c.u0 d fun i hi=>?_
 unfold rowB
 by_cases h:q i=true
 ·rw[if_pos h]
  exact (c.dp hi).1.toOk
 ·rw[if_neg h]
  exact zero_ok
theorem dueN_sz(c:FC U0 ws cs)(hs:List Int):Sz 196 (dueN U0 cs q hs):=by
 unfold dueN
 exact psum_sz (k:=180) (n:=16) (Nat.le_trans (List.length_filter_le _ _) (Nat.le_trans (insL_len _ _) c.c16)) fun i hi=>(c.dp (insL_lt (List.mem_filter.mp hi).1)).1.sz
theorem due_nn(c:FC U0 ws cs)(hU:0 < U)(d:U0∣U){i:Nat}(hi:i < cs.length):0≤num U (dueP cs i):=(nn_num hU ((c.dp hi).1.toOk.up d)).mp (c.dp hi).2
theorem dueN_nn(c:FC U0 ws cs)(hU:0 < U)(d:U0∣U)(hs:List Int):0≤dueN U cs q hs:=by
 refine sum_nn _ fun x hx=>?_
 obtain⟨i,hi,rfl⟩:=List.mem_map.mp hx
 exact due_nn c hU d (insL_lt (List.mem_filter.mp hi).1)
theorem FI.rowOk(c:FC U0 ws cs)(x:FI U0 ws cs r U ps q):∀ i,i < cs.length→Ok U (rowB cs ps q i):=fun i hi=>by
 unfold rowB
 by_cases h:q i=true
 ·rw[if_pos h]
  exact (c.dp hi).1.toOk.up x.dvd
 ·rw[if_neg h]
  exact (x.ok i hi).toOk
theorem lv_nn(c:FC U0 ws cs)(x:FI U0 ws cs r U ps q)(L:Lvl (RU U ws cs ps q) (DU U cs q) (2 ^ ws.length) lv):0≤lv.1:=by
 rcases L.at' with rfl | ⟨j,hj,hD,e⟩
 ·decide
 ·have h1:=x.room j hj
  have h2:=Int.mul_nonneg h1 (Int.le_of_lt L.pos)
  rw[← e] at h2
  by_cases z:0≤lv.1
  ·exact z
  ·have:lv.1*DU U cs q j < 0:=Int.mul_neg_of_neg_of_pos (by omega) hD
   omega
theorem rise_under(c:FC U0 ws cs)(x:FI U0 ws cs r U ps q)(L:Lvl (RU U ws cs ps q) (DU U cs q) (2 ^ ws.length) lv):∃ d,0 < d∧Sz 196 d∧∀ i,i < cs.length→Ok (U*d) (newP lv cs i)∧num (U*d) (newP lv cs i)*lv.2=lv.1*num (U*d) (dueP cs i):=by
 rcases L.at' with rfl | ⟨j,hj,hD,e⟩
 ·refine⟨1,by decide,by decide,fun i hi=>?_⟩
  have o:=(c.dp hi).1.toOk
  have e:newP (1,1) cs i=dueP cs i:=low_of (by show 0 < 1*_;rw[Int.one_mul];exact o.pos) o.pos o.cop (by show 1*_*_=_*(1*_);rw[Int.one_mul,Int.one_mul])
  rw[e,Int.mul_one]
  exact⟨o.up x.dvd,Int.mul_comm _ _⟩
 ·have eb:=dueN_base (q:=q) c x.dvd (Srt.sub j)
  have t0:=(div_pos_le c.u0 x.up x.dvd).1
  have hD':0 < dueN U cs q (Srt.sub j):=hD
  have d0:0 < dueN U0 cs q (Srt.sub j):=by
   by_cases z:0 < dueN U0 cs q (Srt.sub j)
   ·exact z
   ·have:dueN U0 cs q (Srt.sub j)*(U / U0)≤0:=Int.mul_nonpos_of_nonpos_of_nonneg (by omega) (by omega)
    omega
  refine⟨_,d0,dueN_sz c _,fun i hi=>new_ok (R:=RU U ws cs ps q j) c.u0 t0 ?_ d0 (c.dp hi).1.toOk L.pos ?_⟩
  ·rw[Int.mul_comm]
   exact (Int.ediv_mul_cancel x.dvd).symm
  ·rw[← eb,Int.mul_comm]
   exact e
theorem stp_at{hq:Nat→Bool}{i:Nat}(h:i < ps.length):(stp lv cs ps hq).getD i (0,1)=if hq i=true then newP lv cs i else ps.getD i (0,1):=getD_range h
theorem haltQ_sub{R D:Nat→Int}{n i:Nat}(h:haltQ R D n lv cs q i=true):q i=true:=by
 unfold haltQ at h
 rw[Bool.and_eq_true] at h
 exact h.1
theorem rise_ar{l1 l2 W P P' A A0 R0 d:Int}(lp:0 < l2)(h3:l2*P'≤l2*P+l1*A)(e1:W - P=R0*d)(e2:A=A0*d)(h5:l1*A0*d≤R0*l2*d):0≤W - P':=by
 refine Int.le_of_mul_le_mul_right (a:=l2) ?_ lp
 have k1:l1*A0*d=l1*A:=by rw[e2,Int.mul_assoc]
 have k2:R0*l2*d=W*l2 - l2*P:=by
  have:R0*l2*d=R0*d*l2:=by rw[Int.mul_assoc,Int.mul_comm l2,← Int.mul_assoc]
  rw[this,← e1,Int.sub_mul,Int.mul_comm P]
 have k3:(W - P')*l2=W*l2 - l2*P':=by rw[Int.sub_mul,Int.mul_comm P']
 rw[k3,Int.zero_mul]
 omega
theorem rise_ae{l1 l2 W P P' A A0 R0 d:Int}(lp:0 < l2)(h3:l2*P'=l2*P+l1*A)(e1:W - P=R0*d)(e2:A=A0*d)(h5:l1*A0*d=R0*l2*d):W - P'=0:=by
 refine Int.eq_of_mul_eq_mul_right (a:=l2) (by omega) ?_
 have k1:l1*A0*d=l1*A:=by rw[e2,Int.mul_assoc]
 have k2:R0*l2*d=W*l2 - l2*P:=by
  have:R0*l2*d=R0*d*l2:=by rw[Int.mul_assoc,Int.mul_comm l2,← Int.mul_assoc]
  rw[this,← e1,Int.sub_mul,Int.mul_comm P]
 have k3:(W - P')*l2=W*l2 - l2*P':=by rw[Int.sub_mul,Int.mul_comm P']
 rw[k3,Int.zero_mul]
 omega
theorem FI.step(c:FC U0 ws cs)(x:FI U0 ws cs r U ps q)(L:Lvl (RU U ws cs ps q) (DU U cs q) (2 ^ ws.length) lv) :
  ∃ U',FI U0 ws cs (r+1) U' (stp lv cs ps (haltQ (RU U ws cs ps q) (DU U cs q) (2 ^ ws.length) lv cs q)) (fun i=>q i && !haltQ (RU U ws cs ps q) (DU U cs q) (2 ^ ws.length) lv cs q i) ∧
   (Bd U cs ps q→Bd U' cs (stp lv cs ps (haltQ (RU U ws cs ps q) (DU U cs q) (2 ^ ws.length) lv cs q)) (fun i=>q i && !haltQ (RU U ws cs ps q) (DU U cs q) (2 ^ ws.length) lv cs q i)) ∧
   ∀ i,i < cs.length→(q i=true∨Hd U ws cs ps q i)→(q i && !haltQ (RU U ws cs ps q) (DU U cs q) (2 ^ ws.length) lv cs q i)=true∨Hd U' ws cs (stp lv cs ps (haltQ (RU U ws cs ps q) (DU U cs q) (2 ^ ws.length) lv cs q)) (fun i=>q i && !haltQ (RU U ws cs ps q) (DU U cs q) (2 ^ ws.length) lv cs q i) i:=by
 obtain⟨d,d0,dz,hn⟩:=rise_under c x L
 have l0:=lv_nn c x L
 have lp:=L.pos
 have hU':0 < U*d:=Int.mul_pos x.up d0
 have dv:U∣U*d:=⟨d,rfl⟩
 have dvd':U0∣U*d:=Int.dvd_trans x.dvd dv
 have ed:U*d / U=d:=Int.mul_ediv_cancel_left d (by have:=x.up;omega)
 have hsub:∀ i,haltQ (RU U ws cs ps q) (DU U cs q) (2 ^ ws.length) lv cs q i=true→q i=true:=fun i h=>haltQ_sub h
 have hD:∀ hs,dueN (U*d) cs q hs=dueN U cs q hs*d:=fun hs=>by rw[dueN_up x.up dv (x.rowOk c),ed]
 have hR:∀ hs,roomN (U*d) ws cs ps q hs=roomN U ws cs ps q hs*d:=fun hs=>by rw[roomN_up x.up dv (x.rowOk c),ed]
 have hqd:∀ i,haltQ (RU U ws cs ps q) (DU U cs q) (2 ^ ws.length) lv cs q i=(q i && (decide (lv=(1,1)) || ((List.range (2 ^ ws.length)).filter (tightB (RU U ws cs ps q) (DU U cs q) lv)).any fun j=>inn cs (Srt.sub j) i)):=fun i=>rfl
 generalize haltQ (RU U ws cs ps q) (DU U cs q) (2 ^ ws.length) lv cs q=hq at hsub hqd ⊢
 have sa:∀ i,i < cs.length→(stp lv cs ps hq).getD i (0,1)=if hq i=true then newP lv cs i else ps.getD i (0,1):=fun i hi=>stp_at (by rw[x.len];exact hi)
 have hx1:∀ hs,∀ i∈insL cs hs,hq i=true→lv.2*num (U*d) ((stp lv cs ps hq).getD i (0,1))=lv.1*num (U*d) (dueP cs i):=fun hs i hi h=>by
  have il:=insL_lt hi
  rw[sa i il,if_pos h,Int.mul_comm]
  exact (hn i il).2
 have hx2:∀ hs,∀ i∈insL cs hs,hq i=false→num (U*d) ((stp lv cs ps hq).getD i (0,1))=num (U*d) (ps.getD i (0,1)):=fun hs i hi h=>by
  rw[sa i (insL_lt hi),if_neg (by rw[h];exact Bool.false_ne_true)]
 have room:∀ hs,(0 < dueN U cs q hs→lv.1*dueN U cs q hs≤roomN U ws cs ps q hs*lv.2)→0≤roomN U ws cs ps q hs→0≤roomN (U*d) ws cs (stp lv cs ps hq) (fun i=>q i && !hq i) hs:=fun hs h1 h2=>by
  have h3:=rise_le (I:=insL cs hs) (q:=q) (hq:=hq) (a:=fun i=>num (U*d) (dueP cs i)) (x:=fun i=>num (U*d) (ps.getD i (0,1))) (x':=fun i=>num (U*d) ((stp lv cs ps hq).getD i (0,1))) (n:=lv.1) (d:=lv.2) l0 (fun i hi=>due_nn c hU' dvd' (insL_lt hi)) (hx1 hs) (hx2 hs) hsub
  have e1:=hR hs
  have e2:=hD hs
  have nn:=dueN_nn (q:=q) c x.up x.dvd hs
  have h4:lv.1*dueN U cs q hs≤roomN U ws cs ps q hs*lv.2:=by
   by_cases z:0 < dueN U cs q hs
   ·exact h1 z
   ·have:dueN U cs q hs=0:=by omega
    rw[this,Int.mul_zero]
    exact Int.mul_nonneg h2 (Int.le_of_lt lp)
  have h5:=Int.mul_le_mul_of_nonneg_right h4 (Int.le_of_lt d0)
  exact rise_ar lp h3 e1 e2 h5
 refine⟨U*d,⟨hU',dvd',?_,?_,?_,fun j hj=>room _ (L.le j hj) (x.room j hj)⟩,?_,?_⟩
 ·exact (x.uz.mul dz).mono (by omega)
 ·unfold stp
  rw[List.length_map,List.length_range]
  exact x.len
 ·intro i hi
  rw[sa i hi]
  by_cases h:hq i=true
  ·rw[if_pos h]
   refine⟨(hn i hi).1,?_⟩
   have h1:=(hn i hi).2
   have o:=(c.dp hi).1
   have n0:=due_nn c hU' dvd' hi
   have e0:num (U*d) (dueP cs i)=num U0 (dueP cs i)*(U*d / U0):=num_up c.u0 o.toOk dvd'
   have z0:Sz (90+200*r+196) (U*d / U0):=by
    refine Sz.le (x.uz.mul dz) ?_
    have:=div_pos_le c.u0 hU' dvd'
    omega
   have z1:=o.sz.mul z0
   rw[← e0] at z1
   refine Sz.le (z1.mono (by omega)) ?_
   have h2:=Int.mul_le_mul_of_nonneg_right L.one n0
   rw[← h1,Int.mul_comm lv.2] at h2
   have h3:=Int.le_of_mul_le_mul_right h2 lp
   have h4:0≤num (U*d) (newP lv cs i):=by
    have:=Int.mul_nonneg l0 n0
    rw[← h1] at this
    by_cases z:0≤num (U*d) (newP lv cs i)
    ·exact z
    ·have:=Int.mul_neg_of_neg_of_pos (Int.not_le.mp z) lp
     omega
   omega
  ·rw[if_neg h]
   have o:=x.ok i hi
   refine⟨o.toOk.up dv,?_⟩
   rw[num_up x.up o.toOk dv,ed]
   exact (o.sz.mul dz).mono (by omega)
 ·intro B i hi hqi
  have hqi:(q i && !hq i)=false:=hqi
  rw[sa i hi]
  by_cases h:hq i=true
  ·rw[if_pos h]
   have h1:=(hn i hi).2
   have n0:=due_nn c hU' dvd' hi
   have h2:=Int.mul_le_mul_of_nonneg_right L.one n0
   rw[← h1,Int.mul_comm lv.2] at h2
   refine⟨?_,Int.le_of_mul_le_mul_right h2 lp⟩
   have:=Int.mul_nonneg l0 n0
   rw[← h1] at this
   by_cases z:0≤num (U*d) (newP lv cs i)
   ·exact z
   ·have:=Int.mul_neg_of_neg_of_pos (Int.not_le.mp z) lp
    omega
  ·rw[if_neg h]
   have hqf:q i=false:=by
    cases e:q i with
    | false=>rfl
    | true=>rw[e,Bool.true_and] at hqi;simp[h] at hqi
   obtain⟨b1,b2⟩:=B i hi hqf
   rw[num_up x.up (x.ok i hi).toOk dv,num_up x.up ((c.dp hi).1.toOk.up x.dvd) dv,ed]
   exact⟨Int.mul_nonneg b1 (Int.le_of_lt d0),Int.mul_le_mul_of_nonneg_right b2 (Int.le_of_lt d0)⟩
 ·-- who stops is paid,or its heap is spent
  have spent:∀ hs,(∀ i∈insL cs hs,q i=true→hq i=true)→lv.1*dueN U cs q hs=roomN U ws cs ps q hs*lv.2→roomN (U*d) ws cs (stp lv cs ps hq) (fun i=>q i && !hq i) hs=0:=fun hs hall h4=>by
   have h3:=rise_eq (I:=insL cs hs) (q:=q) (hq:=hq) (a:=fun i=>num (U*d) (dueP cs i)) (x:=fun i=>num (U*d) (ps.getD i (0,1))) (x':=fun i=>num (U*d) ((stp lv cs ps hq).getD i (0,1))) (n:=lv.1) (d:=lv.2) (hx1 hs) (hx2 hs) hsub hall
   have e1:=hR hs
   have e2:=hD hs
   have h5:lv.1*dueN U cs q hs*d=roomN U ws cs ps q hs*lv.2*d:=by rw[h4]
   exact rise_ae lp h3 e1 e2 h5
  intro i hi h
  by_cases hh:hq i=true
  ·refine .inr ?_
   unfold Hd
   rw[sa i hi,if_pos hh]
   have hh2:=hqd i
   rw[hh,eq_comm,Bool.and_eq_true,Bool.or_eq_true] at hh2
   rcases hh2.2 with h1 | h1
   ·have e1:lv=(1,1):=of_decide_eq_true h1
    subst e1
    have o:=(c.dp hi).1.toOk
    exact .inl (low_of (by show 0 < 1*_;rw[Int.one_mul];exact o.pos) o.pos o.cop (by show 1*_*_=_*(1*_);rw[Int.one_mul,Int.one_mul]))
   ·obtain⟨j,hj,e1⟩:=List.any_eq_true.mp h1
    obtain⟨hj1,hj2⟩:=List.mem_filter.mp hj
    unfold tightB at hj2
    rw[Bool.and_eq_true,decide_eq_true_eq,decide_eq_true_eq] at hj2
    have ht:=(tight_iff L.pos L.cop hj2.1).mp hj2.2
    have hall:∀ a∈insL cs (Srt.sub j),q a=true→hq a=true:=fun a ha qa=>by
     rw[hqd a,qa,Bool.true_and,Bool.or_eq_true]
     refine .inr (List.any_eq_true.mpr ⟨j,List.mem_filter.mpr ⟨hj1,?_⟩,(List.mem_filter.mp ha).2⟩)
     unfold tightB
     rw[decide_eq_true hj2.1,decide_eq_true hj2.2]
     rfl
    refine .inr ⟨j,List.mem_range.mp hj1,e1,fun a ha=>?_,spent _ hall (by rw[Int.mul_comm];exact ht)⟩
    show (q a && !hq a)=false
    cases qa:q a with
    | false=>rfl
    | true=>rw[hall a ha qa];rfl
  ·have hf:hq i=false:=by simpa using hh
   rcases h with h | h
   ·exact .inl (by rw[h,hf];rfl)
   ·refine .inr ?_
    unfold Hd at h ⊢
    rw[sa i hi,if_neg hh]
    rcases h with h | ⟨j,hj,h1,h2,h3⟩
    ·exact .inl h
    ·have hall:∀ a∈insL cs (Srt.sub j),q a=true→hq a=true:=fun a ha qa=>by rw[h2 a ha] at qa;cases qa
     refine .inr ⟨j,hj,h1,fun a ha=>by show (q a && !hq a)=false;rw[h2 a ha];rfl,spent _ hall ?_⟩
     have e0:dueN U cs q (Srt.sub j)=0:=by
      unfold dueN
      rw[List.filter_eq_nil_iff.mpr fun a ha=>by rw[h2 a ha];exact Bool.false_ne_true]
      rfl
     have h3':roomN U ws cs ps q (Srt.sub j)=0:=h3
     rw[e0,h3',Int.mul_zero,Int.zero_mul]
theorem und2(hU:0 < U)(h:∀ i,i < cs.length→Ok U (rowB cs ps q i)):0 < undB cs ps q∧undB cs ps q∣U∧∀ i,i < cs.length→Ok (undB cs ps q) (rowB cs ps q i):=by
 obtain⟨a,b,c⟩:=undP_ok (U:=U) (l:=rowL cs ps q cs.length) fun r hr=>by
  obtain⟨i,hi,rfl⟩:=List.mem_map.mp hr
  exact h i (List.mem_range.mp hi)
 exact⟨a,b,fun i hi=>c _ (List.mem_map.mpr ⟨i,List.mem_range.mpr hi,rfl⟩)⟩
def lvP(ws:List Int)(cs:List Cl)(ps:List (Int×Int))(q:Nat→Bool):Int×Int:=low (lfold (fndL (RB ws cs ps q) (DB cs ps q) (ordL (2 ^ ws.length)))).1 (lfold (fndL (RB ws cs ps q) (DB cs ps q) (ordL (2 ^ ws.length)))).2
def hqP(ws:List Int)(cs:List Cl)(ps:List (Int×Int))(q:Nat→Bool):Nat→Bool:=haltQ (RB ws cs ps q) (DB cs ps q) (2 ^ ws.length) (lvP ws cs ps q) cs q
def fillP(ws:List Int)(cs:List Cl):Nat→List (Int×Int)→(Nat→Bool)→List (Int×Int)
 | 0,ps,_=>ps
 | f+1,ps,q=>if plL cs.length q=[] then ps else fillP ws cs f (stp (lvP ws cs ps q) cs ps (hqP ws cs ps q)) fun i=>q i && !hqP ws cs ps q i
theorem tight_up{R D R' D':Nat→Int}{t:Int}(ht:0 < t)(hR:∀ i,R' i=R i*t)(hD:∀ i,D' i=D i*t)(i:Nat):tightB R' D' lv i=tightB R D lv i:=by
 unfold tightB
 rw[hR,hD]
 by_cases h:0 < D i
 ·have h2:0 < D i*t:=Int.mul_pos h ht
  have e:low (R i*t) (D i*t)=low (R i) (D i):=low_same h2 h (by rw[Int.mul_assoc,Int.mul_comm t])
  rw[e,decide_eq_true h,decide_eq_true h2]
 ·have h2:¬ 0 < D i*t:=fun z=>by
   have:=Int.mul_nonpos_of_nonpos_of_nonneg (Int.not_lt.mp h) (Int.le_of_lt ht)
   omega
  rw[decide_eq_false h,decide_eq_false h2,Bool.false_and,Bool.false_and]
theorem FI.lvl(c:FC U0 ws cs)(x:FI U0 ws cs r U ps q):Lvl (RU U ws cs ps q) (DU U cs q) (2 ^ ws.length) (lvP ws cs ps q)∧haltQ (RU U ws cs ps q) (DU U cs q) (2 ^ ws.length) (lvP ws cs ps q) cs q=hqP ws cs ps q:=by
 obtain⟨u0,du,ou⟩:=und2 x.up (x.rowOk c)
 have t0:=(div_pos_le u0 x.up du).1
 have eR:∀ i,RU U ws cs ps q i=RB ws cs ps q i*(U / undB cs ps q):=fun i=>roomN_up u0 du ou
 have eD:∀ i,DU U cs q i=DB cs ps q i*(U / undB cs ps q):=fun i=>dueN_up u0 du ou
 refine⟨(lf_lvl (R:=RB ws cs ps q) (D:=DB cs ps q) c.w6).scale t0 eR eD,?_⟩
 funext i
 unfold hqP haltQ
 rw[List.filter_congr fun j _=>tight_up t0 eR eD j]
theorem FI.lv_eq(c:FC U0 ws cs)(x:FI U0 ws cs r U ps q)(L:Lvl (RU U ws cs ps q) (DU U cs q) (2 ^ ws.length) lv):lv=lvP ws cs ps q:=L.uniq (x.lvl c).1
theorem FI.next(c:FC U0 ws cs)(x:FI U0 ws cs r U ps q):∃ U',FI U0 ws cs (r+1) U' (stp (lvP ws cs ps q) cs ps (hqP ws cs ps q)) (fun i=>q i && !hqP ws cs ps q i)∧(Bd U cs ps q→Bd U' cs (stp (lvP ws cs ps q) cs ps (hqP ws cs ps q)) (fun i=>q i && !hqP ws cs ps q i))∧∀ i,i < cs.length→(q i=true∨Hd U ws cs ps q i)→(q i && !hqP ws cs ps q i)=true∨Hd U' ws cs (stp (lvP ws cs ps q) cs ps (hqP ws cs ps q)) (fun i=>q i && !hqP ws cs ps q i) i:=by
 obtain⟨L,e⟩:=x.lvl c
 have:=x.step c L
 rw[e] at this
 exact this
theorem FI.less(c:FC U0 ws cs)(x:FI U0 ws cs r U ps q)(h:plL cs.length q≠[]):(plL cs.length fun i=>q i && !hqP ws cs ps q i).length < (plL cs.length q).length:=by
 obtain⟨L,e⟩:=x.lvl c
 have hn:=halt_ne L h
 rw[e] at hn
 obtain⟨y,hy⟩:=List.exists_mem_of_ne_nil _ hn
 obtain⟨i,hi,rfl⟩:=List.mem_map.mp hy
 obtain⟨h1,h2⟩:=List.mem_filter.mp hi
 unfold plL
 rw[List.length_map,List.length_map]
 have e2:(List.range cs.length).filter (fun i=>q i && !hqP ws cs ps q i)=((List.range cs.length).filter q).filter fun i=>!hqP ws cs ps q i:=by
  rw[List.filter_filter]
  exact List.filter_congr fun i _=>Bool.and_comm _ _
 rw[e2]
 refine List.length_filter_lt_length_iff_exists.mpr ⟨i,List.mem_filter.mpr ⟨h1,haltQ_sub h2⟩,?_⟩
 rw[h2]
 exact Bool.false_ne_true
theorem pl_nil(h:plL cs.length q=[]){i:Nat}(hi:i < cs.length):q i=false:=by
 cases e:q i with
 | false=>rfl
 | true =>
  have:(i:Int)∈plL cs.length q:=List.mem_map.mpr ⟨i,List.mem_filter.mpr ⟨List.mem_range.mpr hi,e⟩,rfl⟩
  rw[h] at this
  cases this
theorem roomN_q{q':Nat→Bool}(h:∀ i,i < cs.length→q i=q' i)(hs:List Int):roomN U ws cs ps q hs=roomN U ws cs ps q' hs:=by
 unfold roomN paidN
 rw[List.filter_congr fun i hi=>by rw[h i (insL_lt hi)]]
theorem fill_nil(f:Nat)(h:plL cs.length q=[]):fillP ws cs f ps q=ps:=by
 cases f with
 | zero=>rfl
 | succ f =>
  unfold fillP
  rw[if_pos h]
theorem fill_ok(c:FC U0 ws cs):∀(f r:Nat)(U:Int) (ps:List (Int×Int)) (q:Nat→Bool),FI U0 ws cs r U ps q→(plL cs.length q).length≤f→∃ U',FI U0 ws cs (r+f) U' (fillP ws cs f ps q) (fun _=>false)∧(Bd U cs ps q→Bd U' cs (fillP ws cs f ps q) fun _=>false)∧∀ i,i < cs.length→(q i=true∨Hd U ws cs ps q i)→Hd U' ws cs (fillP ws cs f ps q) (fun _=>false) i
 | f,r,U,ps,q,x,hf=>by
  by_cases h:plL cs.length q=[]
  ·have hq:∀ i,i < cs.length→q i=false:=fun i hi=>pl_nil h hi
   rw[fill_nil f h]
   refine⟨U,⟨x.up,x.dvd,x.uz.mono (by omega),x.len,fun i hi=>(x.ok i hi).mono (by omega),fun j hj=>?_⟩,fun B i hi _=>B i hi (hq i hi),fun i hi h'=>?_⟩
   ·have:=x.room j hj
    have e:=roomN_q (U:=U) (ws:=ws) (ps:=ps) (q':=fun _=>false) hq (Srt.sub j)
    show 0≤roomN U ws cs ps (fun _=>false) (Srt.sub j)
    rw[← e]
    exact this
   ·rcases h' with h' | h' | ⟨j,a1,a2,a3,a4⟩
    ·rw[hq i hi] at h'
     cases h'
    ·exact .inl h'
    ·refine .inr ⟨j,a1,a2,fun _ _=>rfl,?_⟩
     have e:=roomN_q (U:=U) (ws:=ws) (ps:=ps) (q':=fun _=>false) hq (Srt.sub j)
     show roomN U ws cs ps (fun _=>false) (Srt.sub j)=0
     rw[← e]
     exact a4
  ·cases f with
   | zero=>exact absurd (List.eq_nil_of_length_eq_zero (Nat.le_zero.mp hf)) h
   | succ f =>
    obtain⟨U1,x1,b1,h1⟩:=x.next c
    have hl:=x.less c h
    obtain⟨U2,x2,b2,h2⟩:=fill_ok c f (r+1) U1 _ _ x1 (by omega)
    have e:fillP ws cs (f+1) ps q=fillP ws cs f (stp (lvP ws cs ps q) cs ps (hqP ws cs ps q)) fun i=>q i && !hqP ws cs ps q i:=by
     show (if plL cs.length q=[] then ps else _)=_
     rw[if_neg h]
    rw[e]
    refine⟨U2,?_,fun B=>b2 (b1 B),fun i hi h'=>h2 i hi (h1 i hi h')⟩
    have e2:r+(f+1)=r+1+f:=by omega
    rw[e2]
    exact x2
theorem fill_step(f:Nat)(h:plL cs.length q≠[]):fillP ws cs (f+1) ps q=fillP ws cs f (stp (lvP ws cs ps q) cs ps (hqP ws cs ps q)) fun i=>q i && !hqP ws cs ps q i:=by
 show (if plL cs.length q=[] then ps else _)=_
 rw[if_neg h]
end
def RowV(H:Hp)(xs:List V)(ps:List (Int×Int)):Prop:=xs.length=ps.length∧∀(i:Nat) p,ps[i]?=some p→∃ r,xs[i]?=some (.ref r)∧H r=some (.tup [.int p.1,.int p.2])
theorem RowV.ts{H H':Hp}{xs:List V}{ps:List (Int×Int)}(h:RowV H xs ps)(s:TS H H'):RowV H' xs ps:=⟨h.1,fun i p hp=>by
 obtain⟨r,e,h1⟩:=h.2 i p hp
 exact⟨r,e,s _ _ h1⟩⟩
theorem RowV.toU{U:Int}{k:Nat}{H:Hp}{xs:List V}{ps:List (Int×Int)}(h:RowV H xs ps)(hp:∀ i,i < ps.length→PtOk U k (ps.getD i (0,1))):RowU U k H xs ps:=⟨h.1,fun i p e=>by
 obtain⟨r,e1,h1⟩:=h.2 i p e
 refine⟨r,e1,h1,?_⟩
 have:=hp i (List.getElem?_eq_some_iff.mp e).1
 rwa [List.getD_eq_getElem?_getD,e] at this⟩
theorem RowV.dens{H:Hp}{xs:List V}{ps:List (Int×Int)}(h:RowV H xs ps):Dens H (ps.map pD) xs:=dens_of ps xs h.1 fun i p hp=>h.2 i p hp
theorem RowV.set{H:Hp}{xs:List V}{ps:List (Int×Int)}{r:Addr}{p:Int×Int}{j:Nat}(h:RowV H xs ps)(hr:H r=some (.tup [.int p.1,.int p.2])):RowV H (xs.set j (.ref r)) (ps.set j p):=by
 refine⟨by rw[List.length_set,List.length_set,h.1],fun i q hq=>?_⟩
 by_cases e:j=i
 ·subst e
  rw[List.getElem?_set,if_pos rfl] at hq
  split at hq
  ·cases hq
   refine⟨r,?_,hr⟩
   rw[List.getElem?_set,if_pos rfl,if_pos (by rw[h.1];assumption)]
  ·cases hq
 ·rw[List.getElem?_set_ne e] at hq
  rw[List.getElem?_set_ne e]
  exact h.2 i q hq
structure FdIn(w c p pl:Addr)(ws:List Int)(xs:List V)(cs:List Cl)(ys:List V)(ps:List (Int×Int))(q:Nat→Bool)(H:Hp):Prop where
 w:H w=some (.lst (ws.map V.int))
 c:H c=some (.lst xs)
 hC:ClsAt H xs cs
 p:H p=some (.lst ys)
 hR:RowV H ys ps
 pl:H pl=some (.lst (plV cs.length q))
theorem FdIn.lv{w c p pl:Addr}{U0 U:Int}{r:Nat}{ws:List Int}{xs:List V}{cs:List Cl}{ys:List V}{ps:List (Int×Int)}{q q':Nat→Bool}{H:Hp}(x:FdIn w c p pl ws xs cs ys ps q H)(hC:FC U0 ws cs)(hI:FI U0 ws cs r U ps q')(hr:r≤19):LvIn U (300+200*r) w c p pl ws xs cs ys ps q H:=by
 refine⟨⟨hI.up,hI.uz.mono (by omega)⟩,by omega,x.w,x.c,x.hC,x.p,x.hR.toU fun i hi=>hI.ok i (by rw[← hI.len];exact hi),x.pl,hI.len.symm,hC.c16,fun C hC'=>?_,hC.w6,hC.wz⟩
 have d:=hC.due C hC'
 refine⟨⟨d.1.toOk.up hI.dvd,?_⟩,d.2.2⟩
 rw[num_up hC.u0 d.1.toOk hI.dvd]
 have:=div_pos_le hC.u0 hI.up hI.dvd
 exact (d.1.sz.mul (Sz.le hI.uz (by omega):Sz (90+200*r) (U / U0))).mono (by omega)
def midP(lv:Int×Int)(cs:List Cl)(ps:List (Int×Int))(l:List Nat):List (Int×Int):=(List.range ps.length).map fun i=>if i∈l then newP lv cs i else ps.getD i (0,1)
theorem midP_len{lv:Int×Int}{cs:List Cl}{ps:List (Int×Int)}{l:List Nat}:(midP lv cs ps l).length=ps.length:=by unfold midP;rw[List.length_map,List.length_range]
theorem midP_nil{lv:Int×Int}{cs:List Cl}{ps:List (Int×Int)}:midP lv cs ps []=ps:=by
 unfold midP
 apply List.ext_getElem?
 intro i
 rw[List.getElem?_map]
 by_cases h:i < ps.length
 ·rw[List.getElem?_range h,List.getElem?_eq_getElem h]
  simp[List.getD_eq_getElem?_getD,h]
 ·rw[List.getElem?_eq_none (by rw[List.length_range];omega),List.getElem?_eq_none (by omega)]
  rfl
theorem midP_snoc{lv:Int×Int}{cs:List Cl}{ps:List (Int×Int)}{l:List Nat}{i:Nat}:(midP lv cs ps l).set i (newP lv cs i)=midP lv cs ps (l++[i]):=by
 apply List.ext_getElem?
 intro j
 by_cases h:j < ps.length
 ·by_cases e:i=j
  ·subst e
   rw[List.getElem?_set,if_pos rfl,if_pos (by rw[midP_len];exact h)]
   unfold midP
   rw[List.getElem?_map,List.getElem?_range h]
   simp
  ·rw[List.getElem?_set_ne e]
   unfold midP
   rw[List.getElem?_map,List.getElem?_map,List.getElem?_range h]
   have e':¬ j=i:=fun z=>e z.symm
   simp[e']
 ·rw[List.getElem?_eq_none (by rw[List.length_set,midP_len];omega),List.getElem?_eq_none (by rw[midP_len];omega)]
theorem midP_all{lv:Int×Int}{cs:List Cl}{ps:List (Int×Int)}{hq:Nat→Bool}{n:Nat}(h:ps.length=n):midP lv cs ps ((List.range n).filter hq)=stp lv cs ps hq:=by
 unfold midP stp
 refine List.map_congr_left fun i hi=>?_
 have:i∈(List.range n).filter hq↔hq i=true:=by
  rw[List.mem_filter,List.mem_range,← h]
  exact⟨fun z=>z.2,fun z=>⟨List.mem_range.mp hi,z⟩⟩
 simp[this]
theorem plV_eq{n:Nat}{q:Nat→Bool}:plV n q=((List.range n).filter q).map fun i:Nat=>V.int (i:Int):=by
 unfold plV plL
 rw[List.map_map]
 rfl
theorem FI.lv_sz{U0 U:Int}{ws:List Int}{cs:List Cl}{r:Nat}{ps:List (Int×Int)}{q:Nat→Bool}{lv:Int×Int}(c:FC U0 ws cs)(x:FI U0 ws cs r U ps q)(hr:r≤19)(L:Lvl (RU U ws cs ps q) (DU U cs q) (2 ^ ws.length) lv):0 < lv.2∧Sz 4400 lv.1∧Sz 4400 lv.2:=by
 have l0:=lv_nn c x L
 have h2:Sz 4400 lv.2:=by
  rcases L.at' with rfl | ⟨j,hj,hD,e⟩
  ·decide
  ·have el:=low_of hD L.pos L.cop e.symm
   rw[← el]
   refine Sz.le (k:=4400) ?_ (natAbs_div_le (DU U cs q j) _)
   show Sz 4400 (dueN U cs q (Srt.sub j))
   rw[dueN_base c x.dvd]
   have:=div_pos_le c.u0 x.up x.dvd
   exact ((dueN_sz c _).mul (Sz.le x.uz (by omega):Sz (90+200*r) (U / U0))).mono (by omega)
 have p:=L.pos
 have o:=L.one
 exact⟨p,Sz.le h2 (by omega),h2⟩
theorem same_fr{H H2 H3:Hp}{l:Addr}(hl:H l=none)(s:Same H H2)(f:Fr1 l H2 H3):Same H H3:=fun b o hb=>f b o (fun z=>by rw[z,hl] at hb;cases hb) (s b o hb)
theorem ixN_nat{n i:Nat}(h:i < n):ixN n (i:Int)=some i:=by
 unfold ixN
 rw[if_pos (by omega),if_pos (by omega),Int.toNat_natCast]
abbrev q0:Nat→Bool:=fun _=>false
abbrev fdD(ws:List Int)(cs:List Cl)(ps:List (Int×Int))(q:Nat→Bool):Dt:=.tup [.lst (ws.map Dt.int),.lst (cs.map cD),.lst (ps.map pD),.lst ((plL cs.length q).map Dt.int)]
theorem RowV.snoc{H:Hp}{xs:List V}{ps:List (Int×Int)}{r:Addr}{p:Int×Int}(h:RowV H xs ps)(hr:H r=some (.tup [.int p.1,.int p.2])):RowV H (xs++[.ref r]) (ps++[p]):=by
 refine⟨by rw[List.length_append,List.length_append,h.1];rfl,fun i q hq=>?_⟩
 by_cases hi:i < ps.length
 ·rw[List.getElem?_append_left hi] at hq
  rw[List.getElem?_append_left (by rw[h.1];exact hi)]
  exact h.2 i q hq
 ·have hl:=(List.getElem?_eq_some_iff.mp hq).1
  rw[List.length_append] at hl
  have e:i=ps.length:=by
   have:([p]:List (Int×Int)).length=1:=rfl
   omega
  subst e
  rw[List.getElem?_append_right (Nat.le_refl _),Nat.sub_self] at hq
  cases hq
  exact⟨r,by rw[List.getElem?_append_right (by rw[h.1];exact Nat.le_refl _),h.1,Nat.sub_self];rfl,hr⟩
def rkP(cs:List Cl)(i:Nat):Int:=match cs[i]? with
 | some c=>c.rk
 | none=>0
theorem rkP_at{cs:List Cl}{i:Nat}(h:i < cs.length):rkP cs i=cs[i].rk:=by unfold rkP;rw[List.getElem?_eq_getElem h]
def qR(cs:List Cl)(r:Int)(i:Nat):Bool:=decide (rkP cs i=r) && !decide ((dueP cs i).1=0∧(dueP cs i).2=1)
def shareL(ws:List Int)(cs:List Cl):List Int→List (Int×Int)→List (Int×Int)
 | [],ps=>ps
 | r::rs,ps=>shareL ws cs rs (fillP ws cs (plL cs.length (qR cs r)).length ps (qR cs r))
def row0(cs:List Cl):List (Int×Int):=List.replicate cs.length (0,1)
def cntR(cs:List Cl)(zs:List Int):Nat:=((List.range cs.length).filter fun i=>decide (rkP cs i∈zs)).length
theorem shareL_snoc{ws:List Int}{cs:List Cl}{r:Int}:∀(zs:List Int) (ps:List (Int×Int)),shareL ws cs (zs++[r]) ps=fillP ws cs (plL cs.length (qR cs r)).length (shareL ws cs zs ps) (qR cs r)
 | [],ps=>rfl
 | z::zs,ps=>shareL_snoc zs _
theorem cnt_two{α:Type}{p q r:α→Bool}(h1:∀ x,p x=true→r x=true)(h2:∀ x,q x=true→r x=true)(h3:∀ x,p x=true→q x=false):∀ l:List α,(l.filter p).length+(l.filter q).length≤(l.filter r).length
 | []=>Nat.le_refl _
 | x::l=>by
  have ih:=cnt_two h1 h2 h3 l
  rw[List.filter_cons,List.filter_cons,List.filter_cons]
  cases ep:p x with
  | true =>
   have e2:=h3 x ep
   have e3:=h1 x ep
   simp only[e2,e3,if_true,Bool.false_eq_true,if_false,List.length_cons]
   omega
  | false =>
   cases eq:q x with
   | true =>
    have e3:=h2 x eq
    simp only[e3,if_true,Bool.false_eq_true,if_false,List.length_cons]
    omega
   | false =>
    simp only[Bool.false_eq_true,if_false]
    split
    ·rw[List.length_cons];omega
    ·exact ih
theorem cntR_cons{cs:List Cl}{z:Int}{zs:List Int}(h:z∉zs):(plL cs.length (qR cs z)).length+cntR cs zs≤cntR cs (z::zs):=by
 unfold plL cntR
 rw[List.length_map]
 refine cnt_two (fun i hi=>?_) (fun i hi=>?_) (fun i hi=>?_) _
 ·unfold qR at hi
  rw[Bool.and_eq_true,decide_eq_true_eq] at hi
  exact decide_eq_true (by rw[hi.1];exact List.mem_cons_self)
 ·exact decide_eq_true (List.mem_cons_of_mem _ (of_decide_eq_true hi))
 ·unfold qR at hi
  rw[Bool.and_eq_true,decide_eq_true_eq] at hi
  exact decide_eq_false (by rw[hi.1];exact h)
theorem cntR_le{cs:List Cl}{zs:List Int}:cntR cs zs≤cs.length:=by
 unfold cntR
 refine Nat.le_trans (List.length_filter_le _ _) ?_
 rw[List.length_range]
 exact Nat.le_refl _
section
variable {U0 U:Int}{ws:List Int}{cs:List Cl}{r:Nat}{ps:List (Int×Int)}
theorem FI.of_q0(x:FI U0 ws cs r U ps q0)(B:Bd U cs ps q0)(q:Nat→Bool):FI U0 ws cs r U ps q:=⟨x.up,x.dvd,x.uz,x.len,x.ok,fun j hj=>by
 have h:=x.room j hj
 have h2:paidN U cs ps q (Srt.sub j)≤paidN U cs ps q0 (Srt.sub j):=by
  unfold paidN
  have e:(insL cs (Srt.sub j)).filter (fun i=>!q0 i)=insL cs (Srt.sub j):=List.filter_eq_self.mpr fun _ _=>rfl
  rw[e]
  exact sum_filt_le fun i hi=>(B i (insL_lt hi) rfl).1
 have h':0≤roomN U ws cs ps q0 (Srt.sub j):=h
 show 0≤roomN U ws cs ps q (Srt.sub j)
 unfold roomN at h' ⊢
 omega⟩
theorem Bd.of_q0(B:Bd U cs ps q0)(q:Nat→Bool):Bd U cs ps q:=fun i hi _=>B i hi rfl
theorem FI.row0(c:FC U0 ws cs)(w0:∀ x∈ws,0≤x):FI U0 ws cs 0 U0 (row0 cs) q0∧Bd U0 cs (row0 cs) q0:=by
 have g:∀ i,(Toy.row0 cs).getD i (0,1)=(0,1):=fun i=>by
  unfold Toy.row0
  rw[List.getD_eq_getElem?_getD,List.getElem?_replicate]
  split<;>rfl
 have z:num U0 (0,1)=0:=by unfold num;exact Int.zero_mul _
 refine⟨⟨c.u0,Int.dvd_refl _,c.uz,List.length_replicate,fun i hi=>by rw[g];exact zero_pt,fun j hj=>?_⟩,fun i hi _=>?_⟩
 ·show 0≤roomN U0 ws cs (Toy.row0 cs) q0 (Srt.sub j)
  have e:paidN U0 cs (Toy.row0 cs) q0 (Srt.sub j)=0:=by
   unfold paidN
   have:∀ l:List Nat,(l.map fun i=>num U0 ((Toy.row0 cs).getD i (0,1))).sum=0:=fun l=>by
    induction l with
    | nil=>rfl
    | cons a l ih=>rw[List.map_cons,List.sum_cons,ih,g,z];rfl
   exact this _
  unfold roomN
  rw[e,Int.sub_zero]
  refine Int.mul_nonneg (sum_nn _ fun x hx=>?_) (Int.le_of_lt c.u0)
  obtain⟨y,_,rfl⟩:=List.mem_map.mp hx
  rw[List.getD_eq_getElem?_getD]
  cases e2:ws[y.toNat]? with
  | none=>exact Int.le_refl _
  | some v=>exact w0 v (List.mem_of_getElem? e2)
 ·rw[g,z]
  exact⟨Int.le_refl _,due_nn c c.u0 (Int.dvd_refl _) hi⟩
theorem share_step(c:FC U0 ws cs){z:Int}{zs:List Int}(hz:z∉zs)(x:FI U0 ws cs r U ps q0)(B:Bd U cs ps q0)(hr:r+cntR cs (z::zs)≤16) :
  ∃ U' r',FI U0 ws cs r' U' (fillP ws cs (plL cs.length (qR cs z)).length ps (qR cs z)) q0∧Bd U' cs (fillP ws cs (plL cs.length (qR cs z)).length ps (qR cs z)) q0∧r'+cntR cs zs≤16:=by
 obtain⟨U',x',b',_⟩:=fill_ok c (plL cs.length (qR cs z)).length r U ps (qR cs z) (x.of_q0 B _) (Nat.le_refl _)
 have:=cntR_cons (cs:=cs) hz
 exact⟨U',_,x',b' (B.of_q0 _),by omega⟩
end
theorem share_ok{U0:Int}{ws:List Int}{cs:List Cl}(c:FC U0 ws cs):∀(zs:List Int)(r:Nat)(U:Int) (ps:List (Int×Int)),zs.Pairwise (· < ·)→FI U0 ws cs r U ps q0→Bd U cs ps q0→r+cntR cs zs≤16→∃ U' r',FI U0 ws cs r' U' (shareL ws cs zs ps) q0∧Bd U' cs (shareL ws cs zs ps) q0∧r'≤16
 | [],r,U,ps,_,x,B,hr=>⟨U,r,x,B,by omega⟩
 | z::zs,r,U,ps,lt,x,B,hr=>by
  obtain⟨l1,l2⟩:=List.pairwise_cons.mp lt
  have nz:z∉zs:=fun h=>by
   have:=l1 z h
   omega
  obtain⟨U',r',x',B',hr'⟩:=share_step c nz x B hr
  exact share_ok c zs r' U' _ l2 x' B' hr'
structure ShIn(w c:Addr)(ws:List Int)(xs:List V)(cs:List Cl)(H:Hp):Prop where
 w:H w=some (.lst (ws.map V.int))
 c:H c=some (.lst xs)
 hC:ClsAt H xs cs
theorem ShIn.same{w c:Addr}{ws:List Int}{xs:List V}{cs:List Cl}{H H':Hp}(x:ShIn w c ws xs cs H)(s:Same H H'):ShIn w c ws xs cs H':=⟨s _ _ x.w,s _ _ x.c,x.hC.ts (TS.of s)⟩
structure RkOk(cs:List Cl)(zs:List Int):Prop where
 lt:zs.Pairwise (· < ·)
 mem:∀ k,k∈zs↔k∈cs.map (·.rk)
abbrev shD(ws:List Int)(cs:List Cl):Dt:=.tup [.lst (ws.map Dt.int),.lst (cs.map cD)]
theorem cmp_sh{ws:List Int}{cs:List Cl}:Cmp 8 (shD ws cs) (shD ws cs):=by
 refine cmp_tup fun d hd=>?_
 simp only[List.mem_cons,List.not_mem_nil,or_false] at hd
 rcases hd with rfl | rfl
 ·exact cmp_lst (cmp_ints ws)
 ·exact cmp_lst fun d hd=>by
   obtain⟨c,_,rfl⟩:=List.mem_map.mp hd
   exact cmp_cD c
theorem row0_getD{cs:List Cl}{i:Nat}:(row0 cs).getD i (0,1)=(0,1):=by
 unfold row0
 rw[List.getD_eq_getElem?_getD,List.getElem?_replicate]
 split<;>rfl
theorem qR_pos{U0:Int}{ws:List Int}{cs:List Cl}(hC:FC U0 ws cs){z:Int}{i:Nat}(hi:i < cs.length):qR cs z i=(decide (cs[i].rk=z) && decide (0 < cs[i].n)):=by
 have dd:=(hC.dp hi).1
 have nn:=(hC.dp hi).2
 have co:=dd.cop
 have up:=dd.pos
 unfold qR
 rw[rkP_at hi]
 rw[dueP_at hi] at nn co up ⊢
 have nn:0≤cs[i].n:=nn
 have co:Int.gcd cs[i].n cs[i].u=1:=co
 have up:0 < cs[i].u:=up
 congr 1
 rw[Bool.eq_iff_iff]
 simp only[Bool.not_eq_true',decide_eq_false_iff_not,decide_eq_true_eq]
 constructor
 ·intro h
  by_cases z0:cs[i].n=0
  ·exfalso
   rw[z0,Int.gcd_zero_left] at co
   exact h ⟨z0,by omega⟩
  ·omega
 ·rintro h ⟨h1,_⟩
  omega
structure Cas(H0:Hp)(B L W C:Addr)(ws:List Int)(xs:List V)(cs:List Cl)(H:Hp):Prop where
 b:BagAt H B L
 fr:Fr1 B H0 H
 sh:ShIn W C ws xs cs H
 fc:FC UM ws cs
 w0:∀ x∈ws,0≤x
 wB:W≠B
 cB:C≠B
 gd:∀ c∈cs,PtOk UM 122 (c.n,c.u)∧Sz 10 c.rk∧∀ x∈c.hp,0≤x∧x < (ws.length:Int)
 wz:∀ x∈ws,Sz 140 x
theorem ShIn.fr{B L w c:Addr}{ws:List Int}{xs:List V}{cs:List Cl}{H H':Hp}(x:ShIn w c ws xs cs H)(b:BagAt H B L)(f:Fr1 B H H')(wB:w≠B)(cB:c≠B):ShIn w c ws xs cs H':=⟨f _ _ wB x.w,f _ _ cB x.c,x.hC.ts (TS.fr b f)⟩
theorem rk_at{rs:List Int}(h:∀ r∈rs,Sz 10 r){j:Nat}(hj:j < rs.length):Sz 10 (rs.getD j 0):=by
 have e:rs.getD j 0=rs[j]:=by simp[List.getD_eq_getElem?_getD,hj]
 rw[e]
 exact h _ (List.getElem_mem hj)
section
variable {ws:List Int}{cs:List Cl}{U:Int}{ps:List (Int×Int)}{q:Nat→Bool}
end
structure Emb(I:List Nat)(cs ks:List Cl):Prop where
 nd:I.Nodup
 lt:∀ i∈I,i < cs.length
 len:ks.length=I.length
 cl:∀ j (h:j < I.length),ks[j]?=cs[I[j]]?
section
variable {I:List Nat}{cs ks:List Cl}{ws:List Int}{U U0:Int}{ps:List (Int×Int)}{q:Nat→Bool}
def atE(I:List Nat)(n j:Nat):Nat:=I.getD j n
def resP(I:List Nat)(ps:List (Int×Int)):List (Int×Int):=I.map fun i=>ps.getD i (0,1)
theorem ins_sum(p:Nat→Bool)(f:Nat→Int)(hs:List Int):(((insL cs hs).filter p).map f).sum=((List.range cs.length).map fun i=>if (Toy.inn cs hs i && p i)=true then f i else 0).sum:=by
 unfold insL
 rw[List.filter_filter,← sum_if]
 congr 3
 funext i
 exact Bool.and_comm _ _
theorem fill_keep(c:FC U0 ws cs):∀(f r:Nat)(U:Int) (ps:List (Int×Int)) (q:Nat→Bool),FI U0 ws cs r U ps q→∀ i,i < cs.length→q i=false→(fillP ws cs f ps q).getD i (0,1)=ps.getD i (0,1)
 | 0,r,U,ps,q,x,i,hi,hq=>rfl
 | f+1,r,U,ps,q,x,i,hi,hq=>by
  by_cases h:plL cs.length q=[]
  ·rw[fill_nil _ h]
  ·obtain⟨U',x',_⟩:=x.next c
   rw[fill_step f h,fill_keep c f (r+1) U' _ _ x' i hi (by rw[hq];rfl),stp_at (by rw[x.len];exact hi)]
   have hh:hqP ws cs ps q i=false:=by
    unfold hqP haltQ
    rw[hq]
    rfl
   rw[hh,if_neg Bool.false_ne_true]
end
def lowC(r:Int)(cs:List Cl):List Cl:=cs.filter fun c=>decide (c.rk < r)
theorem Cas.pull{H0 H H':Hp}{B L W C:Addr}{ws:List Int}{xs:List V}{cs:List Cl}(x:Cas H0 B L W C ws xs cs H)(f:Fr1 B H H')(b:BagAt H' B L):Cas H0 B L W C ws xs cs H':={ x with b:=b,fr:=x.fr.trans f,sh:=x.sh.fr x.b f x.wB x.cB }
theorem Cas.same{H0 H H':Hp}{B L W C:Addr}{ws:List Int}{xs:List V}{cs:List Cl}(x:Cas H0 B L W C ws xs cs H)(s:Same H H'):Cas H0 B L W C ws xs cs H':={ x with b:=x.b.keep s,fr:=x.fr.trans (Fr1.of s),sh:=x.sh.same s }
theorem sums_le{α:Type}{f g:α→Int}:∀{l:List α},(∀ x∈l,f x≤g x)→(l.map f).sum≤(l.map g).sum
 | [],_=>Int.le_refl _
 | x::l,h=>by
  rw[List.map_cons,List.map_cons,List.sum_cons,List.sum_cons]
  have:=h x List.mem_cons_self
  have:=sums_le (l:=l) fun y hy=>h y (List.mem_cons_of_mem _ hy)
  omega
def Dm(ws:List Int)(cs:List Cl)(ws':List Int)(cs':List Cl):Prop:=∀ j,j < 2 ^ ws.length→∃ j',j' < 2 ^ ws'.length∧(∀ i,inn cs (Srt.sub j) i=true→inn cs' (Srt.sub j') i=true)∧worthOf ws' (Srt.sub j')≤worthOf ws (Srt.sub j)
structure Tw(ws:List Int)(cs:List Cl)(ws':List Int)(cs':List Cl):Prop where
 len:cs'.length=cs.length
 due:∀ i,dueP cs' i=dueP cs i
 rk:∀ i,rkP cs' i=rkP cs i
 d1:Dm ws cs ws' cs'
 d2:Dm ws' cs' ws cs
section
variable {U0 U:Int}{ws ws':List Int}{cs cs':List Cl}{r:Nat}{ps:List (Int×Int)}{q:Nat→Bool}{lv:Int×Int}
end
def both(a n:Nat)(c:Cl):Cl:=if (a:Int)∈c.hp then ⟨c.n,c.u,c.hp++[(n:Int)],c.rk⟩ else c
theorem i_tSl{r:V→Option Int→Option Int→Hp→VK→Prop}{te:TE}{tl th:TO}{σ:St}{H:Hp}{Q:VK}(h:te σ H fun x H1=>tl σ H1 fun l H2=>th σ H2 fun u H3=>r x l u H3 Q):tSl r te tl th σ H Q:=h
section
variable {U V U0:Int}{ws:List Int}{cs:List Cl}{ps ps':List (Int×Int)}{r:Nat}
theorem num_any{p:Int×Int}(h:Ok U p)(h':Ok V p):num U p*V=num V p*U:=by
 have a:=num_mul h
 have b:=num_mul h'
 refine Int.eq_of_mul_eq_mul_right (a:=p.2) (by have:=h.pos;omega) ?_
 have e1:num U p*V*p.2=p.1*U*V:=by rw[← a,Int.mul_assoc,Int.mul_assoc,Int.mul_comm V]
 have e2:num V p*U*p.2=p.1*V*U:=by rw[← b,Int.mul_assoc,Int.mul_assoc,Int.mul_comm U]
 rw[e1,e2,Int.mul_assoc,Int.mul_assoc,Int.mul_comm U]
theorem num_zero:num U (0,1)=0:=by unfold num;exact Int.zero_mul _
theorem sum_cross{α:Type}{f g:α→Int}{u v:Int}:∀{l:List α},(∀ x∈l,f x*v=g x*u)→(l.map f).sum*v=(l.map g).sum*u
 | [],_=>by show (0:Int)*v=0*u;rw[Int.zero_mul,Int.zero_mul]
 | x::l,h=>by
  rw[List.map_cons,List.map_cons,List.sum_cons,List.sum_cons,Int.add_mul,Int.add_mul,h x List.mem_cons_self,sum_cross fun y hy=>h y (List.mem_cons_of_mem _ hy)]
theorem sum_crossLe{α:Type}{f g:α→Int}{u v:Int}:∀{l:List α},(∀ x∈l,f x*v≤g x*u)→(l.map f).sum*v≤(l.map g).sum*u
 | [],_=>by show (0:Int)*v≤0*u;rw[Int.zero_mul,Int.zero_mul];exact Int.le_refl _
 | x::l,h=>by
  rw[List.map_cons,List.map_cons,List.sum_cons,List.sum_cons,Int.add_mul,Int.add_mul]
  exact Int.add_le_add (h x List.mem_cons_self) (sum_crossLe fun y hy=>h y (List.mem_cons_of_mem _ hy))
def payN(V:Int)(cs:List Cl)(ps:List (Int×Int))(j:Nat):Int:=((List.range cs.length).map fun i=>if inn cs (Srt.sub j) i=true then num V (ps.getD i (0,1)) else 0).sum
theorem room0{j:Nat}:RU V ws cs ps q0 j=worthOf ws (Srt.sub j)*V - payN V cs ps j:=by
 show roomN V ws cs ps q0 (Srt.sub j)=_
 unfold roomN paidN payN
 rw[ins_sum]
 simp only[Bool.not_false,Bool.and_true]
structure Fit(V:Int)(ws:List Int)(cs:List Cl)(ps:List (Int×Int)):Prop where
 vp:0 < V
 ok:∀ i,i < cs.length→Ok V (ps.getD i (0,1))
 od:∀ i,i < cs.length→Ok V (dueP cs i)
 nn:∀ i,i < cs.length→0≤num V (ps.getD i (0,1))
 le:∀ i,i < cs.length→num V (ps.getD i (0,1))≤num V (dueP cs i)
 room:∀ j,j < 2 ^ ws.length→payN V cs ps j≤worthOf ws (Srt.sub j)*V
theorem FI.fit(c:FC U0 ws cs)(x:FI U0 ws cs r U ps q0)(B:Bd U cs ps q0):Fit U ws cs ps :=
 ⟨x.up,fun i hi=>(x.ok i hi).toOk,fun i hi=>(c.dp hi).1.toOk.up x.dvd,fun i hi=>(B i hi rfl).1,fun i hi=>(B i hi rfl).2,fun j hj=>by
  have h:=x.room j hj
  rw[room0] at h
  omega⟩
theorem Fit.any(f:Fit U ws cs ps)(hV:0 < V)(ok:∀ i,i < cs.length→Ok V (ps.getD i (0,1)))(od:∀ i,i < cs.length→Ok V (dueP cs i)):Fit V ws cs ps:=by
 have up:=f.vp
 refine⟨hV,ok,od,fun i hi=>(nn_num hV (ok i hi)).mp ((nn_num up (f.ok i hi)).mpr (f.nn i hi)),fun i hi=>?_,fun j hj=>?_⟩
 ·refine Int.le_of_mul_le_mul_right (a:=U) ?_ up
  rw[← num_any (f.ok i hi) (ok i hi),← num_any (f.od i hi) (od i hi)]
  exact Int.mul_le_mul_of_nonneg_right (f.le i hi) (Int.le_of_lt hV)
 ·refine Int.le_of_mul_le_mul_right (a:=U) ?_ up
  have h1:=Int.mul_le_mul_of_nonneg_right (f.room j hj) (Int.le_of_lt hV)
  have h2:payN U cs ps j*V=payN V cs ps j*U:=by
   unfold payN
   refine sum_cross fun i hi=>?_
   split
   ·exact num_any (f.ok i (List.mem_range.mp hi)) (ok i (List.mem_range.mp hi))
   ·rw[Int.zero_mul,Int.zero_mul]
  rw[← h2,Int.mul_assoc,Int.mul_comm V U,← Int.mul_assoc]
  exact h1
def Spt(V:Int)(ws:List Int)(cs:List Cl)(ps:List (Int×Int))(j:Nat):Prop:=payN V cs ps j=worthOf ws (Srt.sub j)*V
theorem Spt.grow{j:Nat}(f:Fit U ws cs ps)(g:Fit V ws cs ps')(hj:j < 2 ^ ws.length)(h:∀ i,i < cs.length→ps'.getD i (0,1)=ps.getD i (0,1)∨ps.getD i (0,1)=(0,1))(s:Spt U ws cs ps j):Spt V ws cs ps' j:=by
 unfold Spt at s ⊢
 have h1:payN U cs ps j*V≤payN V cs ps' j*U:=by
  unfold payN
  refine sum_crossLe fun i hi=>?_
  have hi:=List.mem_range.mp hi
  split
  ·rcases h i hi with e | e
   ·have:=g.ok i hi
    rw[e] at this ⊢
    exact Int.le_of_eq (num_any (f.ok i hi) this)
   ·rw[e,num_zero,Int.zero_mul]
    exact Int.mul_nonneg (g.nn i hi) (Int.le_of_lt f.vp)
  ·rw[Int.zero_mul,Int.zero_mul]
   exact Int.le_refl _
 have h2:=Int.mul_le_mul_of_nonneg_right (g.room j hj) (Int.le_of_lt f.vp)
 have e:worthOf ws (Srt.sub j)*V*U=worthOf ws (Srt.sub j)*U*V:=by rw[Int.mul_assoc,Int.mul_comm V U,← Int.mul_assoc]
 rw[s] at h1
 refine Int.eq_of_mul_eq_mul_right (a:=U) (by have:=f.vp;omega) ?_
 omega
structure Stg(U:Int)(ws:List Int)(cs:List Cl)(zl:List Int)(ps:List (Int×Int)):Prop where
 out:∀ i,i < cs.length→rkP cs i∉zl→ps.getD i (0,1)=(0,1)
 full:∀ i,i < cs.length→rkP cs i∈zl→ps.getD i (0,1)=dueP cs i∨∃ j,j < 2 ^ ws.length∧inn cs (Srt.sub j) i=true∧Spt U ws cs ps j
theorem stage_step(c:FC U0 ws cs){z:Int}{zl:List Int}(nz:z∉zl)(x:FI U0 ws cs r U ps q0)(B:Bd U cs ps q0)(g:Stg U ws cs zl ps):∃ U',FI U0 ws cs (r+(plL cs.length (qR cs z)).length) U' (fillP ws cs (plL cs.length (qR cs z)).length ps (qR cs z)) q0∧Bd U' cs (fillP ws cs (plL cs.length (qR cs z)).length ps (qR cs z)) q0∧Stg U' ws cs (zl++[z]) (fillP ws cs (plL cs.length (qR cs z)).length ps (qR cs z))∧∀ i,i < cs.length→rkP cs i≠z→(fillP ws cs (plL cs.length (qR cs z)).length ps (qR cs z)).getD i (0,1)=ps.getD i (0,1):=by
 have xq:=x.of_q0 B (qR cs z)
 obtain⟨U',x',b',h'⟩:=fill_ok c (plL cs.length (qR cs z)).length r U ps (qR cs z) xq (Nat.le_refl _)
 have B':=b' (B.of_q0 _)
 have keep:=fill_keep c (plL cs.length (qR cs z)).length r U ps (qR cs z) xq
 generalize fillP ws cs (plL cs.length (qR cs z)).length ps (qR cs z)=ps' at x' B' h' keep ⊢
 have f:=x.fit c B
 have f':=x'.fit c B'
 have nq:∀ i,rkP cs i≠z→qR cs z i=false:=fun i e=>by unfold qR;rw[decide_eq_false e,Bool.false_and]
 have chg:∀ i,i < cs.length→ps'.getD i (0,1)=ps.getD i (0,1)∨ps.getD i (0,1)=(0,1):=fun i hi=>by
  by_cases e:rkP cs i=z
  ·exact .inr (g.out i hi (by rw[e];exact nz))
  ·exact .inl (keep i hi (nq i e))
 refine⟨U',x',B',⟨fun i hi hn=>?_,fun i hi hm=>?_⟩,fun i hi e=>keep i hi (nq i e)⟩
 ·have e:rkP cs i≠z:=fun e=>hn (by rw[e];exact List.mem_append_right _ List.mem_cons_self)
  rw[keep i hi (nq i e),g.out i hi fun h=>hn (List.mem_append_left _ h)]
 ·by_cases e:rkP cs i=z
  ·cases hq:qR cs z i with
   | true =>
    rcases h' i hi (.inl hq) with h | ⟨j,hj,h1,_,h2⟩
    ·exact .inl h
    ·refine .inr ⟨j,hj,h1,?_⟩
     rw[room0] at h2
     unfold Spt
     omega
   | false =>
    left
    rw[keep i hi hq,g.out i hi (by rw[e];exact nz)]
    unfold qR at hq
    rw[decide_eq_true e,Bool.true_and] at hq
    have:(dueP cs i).1=0∧(dueP cs i).2=1:=by simpa using hq
    exact (Prod.ext this.1 this.2).symm
  ·have hl:rkP cs i∈zl:=by
    rcases List.mem_append.mp hm with h | h
    ·exact h
    ·exact absurd (List.mem_singleton.mp h) e
   rcases g.full i hi hl with h | ⟨j,hj,h1,h2⟩
   ·exact .inl (by rw[keep i hi (nq i e),h])
   ·exact .inr ⟨j,hj,h1,h2.grow f f' hj chg⟩
theorem stage_all(c:FC U0 ws cs):∀(zr zl:List Int)(r:Nat)(U:Int) (ps:List (Int×Int)),(zl++zr).Pairwise (· < ·)→FI U0 ws cs r U ps q0→Bd U cs ps q0→r+cntR cs zr≤16→Stg U ws cs zl ps→∃ U' r',FI U0 ws cs r' U' (shareL ws cs zr ps) q0∧Bd U' cs (shareL ws cs zr ps) q0∧r'≤r+cntR cs zr∧Stg U' ws cs (zl++zr) (shareL ws cs zr ps)∧∀ i,i < cs.length→rkP cs i∉zr→(shareL ws cs zr ps).getD i (0,1)=ps.getD i (0,1)
 | [],zl,r,U,ps,lt,x,B,hr,g=>⟨U,r,x,B,by omega,by rw[List.append_nil];exact g,fun _ _ _=>rfl⟩
 | z::zr,zl,r,U,ps,lt,x,B,hr,g=>by
  have p:=List.pairwise_append.mp lt
  have nz:z∉zl:=fun h=>by
   have:=p.2.2 z h z List.mem_cons_self
   omega
  have nr:z∉zr:=fun h=>by
   have:=(List.pairwise_cons.mp p.2.1).1 z h
   omega
  obtain⟨U1,x1,B1,g1,k1⟩:=stage_step c nz x B g
  have hc:=cntR_cons (cs:=cs) nr
  have el:zl++z::zr=zl++[z]++zr:=by rw[List.append_assoc];rfl
  obtain⟨U2,r2,x2,B2,hr2,g2,k2⟩:=stage_all c zr (zl++[z]) _ U1 _ (by rw[← el];exact lt) x1 B1 (by omega) g1
  refine⟨U2,r2,x2,B2,by omega,by rw[el];exact g2,fun i hi hn=>?_⟩
  show (shareL ws cs zr (fillP ws cs _ ps _)).getD i (0,1)=_
  rw[k2 i hi fun h=>hn (List.mem_cons_of_mem _ h),k1 i hi fun e=>hn (by rw[e];exact List.mem_cons_self)]
theorem shareL_app:∀(zl zh:List Int) (ps:List (Int×Int)),shareL ws cs (zl++zh) ps=shareL ws cs zh (shareL ws cs zl ps)
 | [],_,_=>rfl
 | z::zl,zh,ps=>shareL_app zl zh _
end
section
variable {U V U0:Int}{ws:List Int}{cs:List Cl}{ps ps':List (Int×Int)}{q:Nat→Bool}{r:Nat}
variable {u:Int×Int}
theorem nw_num{d:Int×Int}(hl:0 < u.2)(od:Ok V d)(on:Ok V (low (u.1*d.1) (u.2*d.2))):num V (low (u.1*d.1) (u.2*d.2))*u.2=u.1*num V d:=by
 have x1:=low_x (n:=u.1*d.1) (Int.mul_pos hl od.pos)
 have a:=num_mul on
 have b:=num_mul od
 have p1:=on.pos
 have p2:=od.pos
 generalize low (u.1*d.1) (u.2*d.2)=N at x1 a p1 ⊢
 generalize num V N=A at a ⊢
 generalize num V d=D at b ⊢
 have hne:N.2*d.2≠0:=by have:=Int.mul_pos p1 p2;omega
 refine Int.eq_of_mul_eq_mul_right hne ?_
 grind
theorem room_sum(q:Nat→Bool)(j:Nat):RU V ws cs ps q j=worthOf ws (Srt.sub j)*V - ((List.range cs.length).map fun i=>if (inn cs (Srt.sub j) i && !q i)=true then num V (ps.getD i (0,1)) else 0).sum:=by
 show roomN V ws cs ps q (Srt.sub j)=_
 unfold roomN paidN
 rw[ins_sum]
theorem due_sum(q:Nat→Bool)(j:Nat):DU V cs q j=((List.range cs.length).map fun i=>if (inn cs (Srt.sub j) i && q i)=true then num V (dueP cs i) else 0).sum:=by
 show dueN V cs q (Srt.sub j)=_
 unfold dueN
 rw[ins_sum]
theorem level_up(c:FC U0 ws cs)(x:FI U0 ws cs r U ps q){U':Int}{r':Nat}(x':FI U0 ws cs r' U' (stp (lvP ws cs ps q) cs ps (hqP ws cs ps q)) (fun i=>q i && !hqP ws cs ps q i)):(lvP ws cs ps q).1*(lvP ws cs (stp (lvP ws cs ps q) cs ps (hqP ws cs ps q)) (fun i=>q i && !hqP ws cs ps q i)).2≤(lvP ws cs (stp (lvP ws cs ps q) cs ps (hqP ws cs ps q)) (fun i=>q i && !hqP ws cs ps q i)).1*(lvP ws cs ps q).2:=by
 obtain⟨L,eh⟩:=x.lvl c
 have L':=(x'.lvl c).1
 have sub:∀ i,hqP ws cs ps q i=true→q i=true:=fun i h=>by rw[← eh] at h;exact haltQ_sub h
 have sa:∀ i,i < cs.length→(stp (lvP ws cs ps q) cs ps (hqP ws cs ps q)).getD i (0,1)=if hqP ws cs ps q i=true then newP (lvP ws cs ps q) cs i else ps.getD i (0,1):=fun i hi=>stp_at (by rw[x.len];exact hi)
 have ok':=fun i hi=>(x'.ok i hi).toOk
 generalize stp (lvP ws cs ps q) cs ps (hqP ws cs ps q)=ps' at L' sa ok' ⊢
 generalize lvP ws cs ps' (fun i=>q i && !hqP ws cs ps q i)=l' at L' ⊢
 generalize hqP ws cs ps q=hq at L' sa sub ⊢
 clear eh
 generalize lvP ws cs ps q=lv at L sa ⊢
 have lp:=L.pos
 rcases L'.at' with e | ⟨j,hj,hD,e⟩
 ·rw[e]
  have:=L.one
  show lv.1*1≤1*lv.2
  omega
 ·have key:lv.1*DU U' cs (fun i=>q i && !hq i) j≤RU U' ws cs ps' (fun i=>q i && !hq i) j*lv.2:=by
   have od:∀ i,i < cs.length→Ok U (dueP cs i):=fun i hi=>(c.dp hi).1.toOk.up x.dvd
   have od':∀ i,i < cs.length→Ok U' (dueP cs i):=fun i hi=>(c.dp hi).1.toOk.up x'.dvd
   have h0:lv.1*DU U cs q j≤RU U ws cs ps q j*lv.2:=by
    by_cases z:0 < DU U cs q j
    ·exact L.le j hj z
    ·have n0:0≤DU U cs q j:=dueN_nn (q:=q) c x.up x.dvd (Srt.sub j)
     have e0:DU U cs q j=0:=by omega
     rw[e0,Int.mul_zero]
     exact Int.mul_nonneg (x.room j hj) (Int.le_of_lt lp)
   have e1:DU U cs q j*U'=DU U' cs q j*U:=by
    rw[due_sum,due_sum]
    refine sum_cross fun i hi=>?_
    split
    ·exact num_any (od i (List.mem_range.mp hi)) (od' i (List.mem_range.mp hi))
    ·rw[Int.zero_mul,Int.zero_mul]
   have e2:RU U ws cs ps q j*U'=RU U' ws cs ps q j*U:=by
    rw[room_sum,room_sum,Int.sub_mul,Int.sub_mul]
    rw[sum_cross (u:=U) (g:=fun i=>if (inn cs (Srt.sub j) i && !q i)=true then num U' (ps.getD i (0,1)) else 0) fun i hi=>?_,Int.mul_assoc,Int.mul_assoc,Int.mul_comm U U']
    split
    ·rename_i h
     have hi:=List.mem_range.mp hi
     rw[Bool.and_eq_true] at h
     have nq:hq i=false:=by
      cases hh:hq i with
      | false=>rfl
      | true=>have:=h.2;rw[sub i hh] at this;cases this
     have o':=ok' i hi
     rw[sa i hi,if_neg (by rw[nq];exact Bool.false_ne_true)] at o'
     exact num_any (x.ok i hi).toOk o'
    ·rw[Int.zero_mul,Int.zero_mul]
   have h1:lv.1*DU U' cs q j≤RU U' ws cs ps q j*lv.2:=by
    refine Int.le_of_mul_le_mul_right (a:=U) ?_ x.up
    have:=Int.mul_le_mul_of_nonneg_right h0 (Int.le_of_lt x'.up)
    have a1:lv.1*DU U' cs q j*U=lv.1*DU U cs q j*U':=by rw[Int.mul_assoc,← e1,Int.mul_assoc]
    have a2:RU U' ws cs ps q j*lv.2*U=RU U ws cs ps q j*lv.2*U':=by rw[Int.mul_right_comm,← e2,Int.mul_right_comm]
    rw[a1,a2]
    exact this
   have e3:RU U' ws cs ps' (fun i=>q i && !hq i) j*lv.2=RU U' ws cs ps q j*lv.2 - lv.1*((List.range cs.length).map fun i=>if (inn cs (Srt.sub j) i && hq i)=true then num U' (dueP cs i) else 0).sum:=by
    have s1:((List.range cs.length).map fun i=>if (inn cs (Srt.sub j) i && !(q i && !hq i))=true then num U' (ps'.getD i (0,1)) else 0).sum*lv.2=((List.range cs.length).map fun i=>if (inn cs (Srt.sub j) i && !q i)=true then num U' (ps.getD i (0,1)) else 0).sum*lv.2+lv.1*((List.range cs.length).map fun i=>if (inn cs (Srt.sub j) i && hq i)=true then num U' (dueP cs i) else 0).sum:=by
     have a:∀(l:List Nat),(∀ i∈l,i < cs.length)→(l.map fun i=>if (inn cs (Srt.sub j) i && !(q i && !hq i))=true then num U' (ps'.getD i (0,1)) else 0).sum*lv.2=(l.map fun i=>if (inn cs (Srt.sub j) i && !q i)=true then num U' (ps.getD i (0,1)) else 0).sum*lv.2+lv.1*(l.map fun i=>if (inn cs (Srt.sub j) i && hq i)=true then num U' (dueP cs i) else 0).sum:=by
      intro l
      induction l with
      | nil=>intro _;show (0:Int)*_=0*_+_*0;omega
      | cons i l ih =>
       intro hl
       have hi:=hl i List.mem_cons_self
       have ih:=ih fun k hk=>hl k (List.mem_cons_of_mem _ hk)
       rw[List.map_cons,List.map_cons,List.map_cons,List.sum_cons,List.sum_cons,List.sum_cons,Int.add_mul,Int.add_mul,Int.mul_add,ih]
       have one:(if (inn cs (Srt.sub j) i && !(q i && !hq i))=true then num U' (ps'.getD i (0,1)) else 0)*lv.2=(if (inn cs (Srt.sub j) i && !q i)=true then num U' (ps.getD i (0,1)) else 0)*lv.2+lv.1*(if (inn cs (Srt.sub j) i && hq i)=true then num U' (dueP cs i) else 0):=by
        cases hin:inn cs (Srt.sub j) i with
        | false=>simp
        | true =>
         cases hh:hq i with
         | true =>
          have qi:=sub i hh
          have o':=ok' i hi
          have es:=sa i hi
          rw[if_pos hh] at es
          rw[es] at o' ⊢
          have:=nw_num lp (od' i hi) o'
          simp only[qi,Bool.not_true,Bool.and_true,Bool.not_false,Bool.and_false,if_true,Bool.false_eq_true,if_false,Int.zero_mul,Int.zero_add]
          exact this
         | false =>
          have es:=sa i hi
          rw[if_neg (by rw[hh];exact Bool.false_ne_true)] at es
          rw[es]
          cases hq2:q i<;>simp
       rw[one]
       omega
     exact a _ fun i hi=>List.mem_range.mp hi
    rw[room_sum,room_sum,Int.sub_mul,Int.sub_mul,s1]
    omega
   have e4:DU U' cs q j=DU U' cs (fun i=>q i && !hq i) j+((List.range cs.length).map fun i=>if (inn cs (Srt.sub j) i && hq i)=true then num U' (dueP cs i) else 0).sum:=by
    rw[due_sum,due_sum,← sum_add]
    refine congrArg List.sum (List.map_congr_left fun i _=>?_)
    cases hin:inn cs (Srt.sub j) i with
    | false=>simp
    | true =>
     cases hh:hq i with
     | true=>rw[sub i hh];simp
     | false=>cases hq2:q i<;>simp
   rw[e4,Int.mul_add] at h1
   rw[e3]
   omega
  have h2:=Int.mul_le_mul_of_nonneg_right key (Int.le_of_lt L'.pos)
  refine Int.le_of_mul_le_mul_right (a:=DU U' cs (fun i=>q i && !hq i) j) ?_ hD
  have a1:lv.1*l'.2*DU U' cs (fun i=>q i && !hq i) j=lv.1*DU U' cs (fun i=>q i && !hq i) j*l'.2:=Int.mul_right_comm _ _ _
  have a2:l'.1*lv.2*DU U' cs (fun i=>q i && !hq i) j=RU U' ws cs ps' (fun i=>q i && !hq i) j*lv.2*l'.2:=by
   rw[Int.mul_right_comm,e,Int.mul_right_comm]
  rw[a1,a2]
  exact h2
theorem fill_fills(c:FC U0 ws cs):∀(f r:Nat)(U:Int) (ps:List (Int×Int)) (q:Nat→Bool),FI U0 ws cs r U ps q→(plL cs.length q).length≤f→∀ V,0 < V→(∀ i,i < cs.length→Ok V ((fillP ws cs f ps q).getD i (0,1)))→(∀ i,i < cs.length→Ok V (dueP cs i))→∀ i,i < cs.length→q i=true→(lvP ws cs ps q).1*num V (dueP cs i)≤num V ((fillP ws cs f ps q).getD i (0,1))*(lvP ws cs ps q).2∧((fillP ws cs f ps q).getD i (0,1)=dueP cs i∨∃ j,j < 2 ^ ws.length∧inn cs (Srt.sub j) i=true∧Spt V ws cs (fillP ws cs f ps q) j∧∀ a,a < cs.length→inn cs (Srt.sub j) a=true→q a=true→num V ((fillP ws cs f ps q).getD a (0,1))*num V (dueP cs i)≤num V ((fillP ws cs f ps q).getD i (0,1))*num V (dueP cs a))
 | f,r,U,ps,q,x,hf,V,hV,ok,od,i,hi,hqi=>by
  by_cases h:plL cs.length q=[]
  ·rw[pl_nil h hi] at hqi
   cases hqi
  ·cases f with
   | zero=>exact absurd (List.eq_nil_of_length_eq_zero (Nat.le_zero.mp hf)) h
   | succ f =>
    obtain⟨U1,x1,b1,h1⟩:=x.next c
    have hl:=x.less c h
    have up:=level_up c x x1
    obtain⟨L,eh⟩:=x.lvl c
    have lp:=L.pos
    have L1:=(x1.lvl c).1.pos
    have sub:∀ i,hqP ws cs ps q i=true→q i=true:=fun i h=>by rw[← eh] at h;exact haltQ_sub h
    rw[fill_step f h] at ok ⊢
    have keep:=fill_keep c f (r+1) U1 _ _ x1
    have ih:=fill_fills c f (r+1) U1 _ _ x1 (by omega) V hV ok od
    have sa:∀ i,i < cs.length→(stp (lvP ws cs ps q) cs ps (hqP ws cs ps q)).getD i (0,1)=if hqP ws cs ps q i=true then newP (lvP ws cs ps q) cs i else ps.getD i (0,1):=fun i hi=>stp_at (by rw[x.len];exact hi)
    have hd:=h1 i hi (.inl hqi)
    have ok1:=fun i hi=>(x1.ok i hi).toOk
    have up1:=x1.up
    have nn:∀ i,i < cs.length→0≤num V (dueP cs i):=fun i hi=>(nn_num hV (od i hi)).mp (c.dp hi).2
    clear h1 b1 x1 L eh
    generalize stp (lvP ws cs ps q) cs ps (hqP ws cs ps q)=ps1 at ok keep ih sa hd ok1 up L1 ⊢
    generalize lvP ws cs ps1 (fun i=>q i && !hqP ws cs ps q i)=l1 at up ih L1
    generalize hqP ws cs ps q=hq at ok keep ih sa hd sub ⊢
    generalize lvP ws cs ps q=lv at up sa lp ⊢
    generalize fillP ws cs f ps1 (fun i=>q i && !hq i)=fin at ok keep ih ⊢
    have stop:∀ a,a < cs.length→hq a=true→fin.getD a (0,1)=ps1.getD a (0,1)∧num V (fin.getD a (0,1))*lv.2=lv.1*num V (dueP cs a):=fun a ha hh=>by
     have k:=keep a ha (by show (q a && !hq a)=false;rw[hh];simp)
     refine⟨k,?_⟩
     have o:=ok a ha
     rw[k,sa a ha,if_pos hh] at o ⊢
     exact nw_num lp (od a ha) o
    cases hh:hq i with
    | true =>
     obtain⟨k,e⟩:=stop i hi hh
     refine⟨Int.le_of_eq e.symm,?_⟩
     rcases hd with hd | hd
     ·rw[hh] at hd
      simp at hd
     ·rcases hd with hd | ⟨j,hj,hin,hall,hR⟩
      ·exact .inl (by rw[k,hd])
      ·refine .inr ⟨j,hj,hin,?_,fun a ha ia qa=>?_⟩
       ·unfold Spt
        have hall':∀ a,a < cs.length→inn cs (Srt.sub j) a=true→(q a && !hq a)=false:=fun a ha ia=>hall a (List.mem_filter.mpr ⟨List.mem_range.mpr ha,ia⟩)
        rw[room_sum] at hR
        have e2:payN V cs fin j*U1=((List.range cs.length).map fun i=>if (inn cs (Srt.sub j) i && !(q i && !hq i))=true then num U1 (ps1.getD i (0,1)) else 0).sum*V:=by
         unfold payN
         refine sum_cross fun a ha=>?_
         have ha:=List.mem_range.mp ha
         cases ia:inn cs (Srt.sub j) a with
         | false=>simp
         | true =>
          have z:=hall' a ha ia
          have k:=keep a ha z
          have o:=ok a ha
          rw[z,if_pos rfl,if_pos (show (true && !false)=true from rfl)]
          rw[k] at o ⊢
          exact num_any o (ok1 a ha)
        have e3:((List.range cs.length).map fun i=>if (inn cs (Srt.sub j) i && !(q i && !hq i))=true then num U1 (ps1.getD i (0,1)) else 0).sum=worthOf ws (Srt.sub j)*U1:=by omega
        rw[e3] at e2
        refine Int.eq_of_mul_eq_mul_right (a:=U1) ?_ ?_
        ·omega
        ·rw[e2,Int.mul_right_comm]
       ·have z:=hall a (List.mem_filter.mpr ⟨List.mem_range.mpr ha,ia⟩)
        have ha2:hq a=true:=by
         have z:(q a && !hq a)=false:=z
         rw[qa,Bool.true_and] at z
         simpa using z
        have e2:=(stop a ha ha2).2
        refine Int.le_of_eq ?_
        have hne:lv.2≠0:=by omega
        refine Int.eq_of_mul_eq_mul_right hne ?_
        grind
    | false =>
     have q1:(q i && !hq i)=true:=by rw[hqi,hh];rfl
     obtain⟨i1,i2⟩:=ih i hi q1
     have low:lv.1*num V (dueP cs i)≤num V (fin.getD i (0,1))*lv.2:=by
      have h2:=Int.mul_le_mul_of_nonneg_right i1 (Int.le_of_lt lp)
      have h3:=Int.mul_le_mul_of_nonneg_right up (nn i hi)
      refine Int.le_of_mul_le_mul_right (a:=l1.2) ?_ L1
      have a1:lv.1*num V (dueP cs i)*l1.2=lv.1*l1.2*num V (dueP cs i):=Int.mul_right_comm _ _ _
      have a2:l1.1*lv.2*num V (dueP cs i)=l1.1*num V (dueP cs i)*lv.2:=Int.mul_right_comm _ _ _
      have a3:num V (fin.getD i (0,1))*lv.2*l1.2=num V (fin.getD i (0,1))*l1.2*lv.2:=Int.mul_right_comm _ _ _
      omega
     refine⟨low,?_⟩
     rcases i2 with i2 | ⟨j,hj,hin,sp,hall⟩
     ·exact .inl i2
     ·refine .inr ⟨j,hj,hin,sp,fun a ha ia qa=>?_⟩
      cases ha2:hq a with
      | false=>exact hall a ha ia (by rw[qa,ha2];rfl)
      | true =>
       have e2:=(stop a ha ha2).2
       have h2:=Int.mul_le_mul_of_nonneg_right low (nn a ha)
       refine Int.le_of_mul_le_mul_right (a:=lv.2) ?_ lp
       have a1:num V (fin.getD a (0,1))*num V (dueP cs i)*lv.2=lv.1*num V (dueP cs a)*num V (dueP cs i):=by rw[Int.mul_right_comm,e2]
       have a2:num V (fin.getD i (0,1))*num V (dueP cs a)*lv.2=num V (fin.getD i (0,1))*lv.2*num V (dueP cs a):=Int.mul_right_comm _ _ _
       have a3:lv.1*num V (dueP cs a)*num V (dueP cs i)=lv.1*num V (dueP cs i)*num V (dueP cs a):=Int.mul_right_comm _ _ _
       omega
theorem sums_eq{f g:Nat→Int}:∀{l:List Nat},(∀ x∈l,f x≤g x)→(l.map g).sum≤(l.map f).sum→∀ x∈l,f x=g x
 | [],_,_,x,hx=>by cases hx
 | y::l,h,hs,x,hx=>by
  rw[List.map_cons,List.map_cons,List.sum_cons,List.sum_cons] at hs
  have h1:=h y List.mem_cons_self
  have h2:=sums_le (f:=f) (g:=g) (l:=l) fun x hx=>h x (List.mem_cons_of_mem _ hx)
  rcases List.mem_cons.mp hx with rfl | hx
  ·omega
  ·exact sums_eq (fun x hx=>h x (List.mem_cons_of_mem _ hx)) (by omega) x hx
theorem pap_all(c:FC U0 ws cs)(w0:∀ x∈ws,0≤x){zs:List Int}(rk:RkOk cs zs)(hV:0 < V)(ok:∀ i,i < cs.length→Ok V ((shareL ws cs zs (row0 cs)).getD i (0,1)))(od:∀ i,i < cs.length→Ok V (dueP cs i)):Fit V ws cs (shareL ws cs zs (row0 cs))∧∀ i,i < cs.length→(shareL ws cs zs (row0 cs)).getD i (0,1)=dueP cs i∨∃ j,j < 2 ^ ws.length∧inn cs (Srt.sub j) i=true∧Spt V ws cs (shareL ws cs zs (row0 cs)) j∧∀ a,a < cs.length→inn cs (Srt.sub j) a=true→num V ((shareL ws cs zs (row0 cs)).getD a (0,1))=0∨rkP cs a < rkP cs i∨(rkP cs a=rkP cs i∧num V ((shareL ws cs zs (row0 cs)).getD a (0,1))*num V (dueP cs i)≤num V ((shareL ws cs zs (row0 cs)).getD i (0,1))*num V (dueP cs a)):=by
 obtain⟨x0,B0⟩:=FI.row0 c w0
 have cn:∀ l:List Int,cntR cs l≤16:=fun l=>Nat.le_trans cntR_le c.c16
 have g0:Stg U0 ws cs [] (row0 cs):=⟨fun i _ _=>row0_getD,fun i _ h=>by cases h⟩
 obtain⟨Uf,rf,xf,Bf,_,gf,_⟩:=stage_all c zs [] 0 U0 (row0 cs) rk.lt x0 B0 (by have:=cn zs;omega) g0
 have ff:Fit V ws cs (shareL ws cs zs (row0 cs)):=(xf.fit c Bf).any hV ok od
 refine⟨ff,fun i hi=>?_⟩
 have hm:rkP cs i∈zs:=(rk.mem _).mpr (by rw[rkP_at hi];exact List.mem_map.mpr ⟨_,List.getElem_mem hi,rfl⟩)
 generalize hz:rkP cs i=z at hm ⊢
 obtain⟨zl,zr,rfl⟩:=List.append_of_mem hm
 have lt:=rk.lt
 obtain⟨p1,p2,p3⟩:=List.pairwise_append.mp lt
 have nz:z∉zl:=fun h=>by have:=p3 z h z List.mem_cons_self;omega
 have nr:z∉zr:=fun h=>by have:=(List.pairwise_cons.mp p2).1 z h;omega
 obtain⟨U1,r1,x1,B1,hr1,g1,_⟩:=stage_all c zl [] 0 U0 (row0 cs) p1 x0 B0 (by have:=cn zl;omega) g0
 obtain⟨U2,x2,B2,g2,k2⟩:=stage_step c (by rw[List.nil_append];exact nz) x1 B1 g1
 have es:shareL ws cs (zl++z::zr) (row0 cs)=shareL ws cs zr (fillP ws cs (plL cs.length (qR cs z)).length (shareL ws cs zl (row0 cs)) (qR cs z)):=by rw[shareL_app];rfl
 have xq:=x1.of_q0 B1 (qR cs z)
 have keep:=fill_keep c (plL cs.length (qR cs z)).length r1 U1 _ (qR cs z) xq
 have ffl:=fill_fills c (plL cs.length (qR cs z)).length r1 U1 _ (qR cs z) xq (Nat.le_refl _) V hV
 rw[List.nil_append] at g2 g1
 have ca:cntR cs zl+cntR cs (z::zr)≤cs.length:=by
  have:=cnt_two (p:=fun i=>decide (rkP cs i∈zl)) (q:=fun i=>decide (rkP cs i∈z::zr)) (r:=fun _=>true) (fun _ _=>rfl) (fun _ _=>rfl) (fun i hi=>decide_eq_false fun h=>by
   have:=p3 _ (of_decide_eq_true hi) _ h
   omega) (List.range cs.length)
  have e:((List.range cs.length).filter fun _=>true).length=cs.length:=by rw[List.filter_eq_self.mpr fun _ _=>rfl,List.length_range]
  unfold cntR
  omega
 have cc:=cntR_cons (cs:=cs) nr
 have c16:=c.c16
 have el:zl++z::zr=zl++[z]++zr:=by rw[List.append_assoc];rfl
 obtain⟨U3,r3,x3,B3,_,g3,k3⟩:=stage_all c zr (zl++[z]) _ U2 _ (by rw[← el];exact lt) x2 B2 (by omega) g2
 rw[es] at ff ok ⊢
 have f2:=x2.fit c B2
 clear x0 B0 g0 xf Bf gf x2 B2 x3 B3 g3 xq
 generalize fillP ws cs (plL cs.length (qR cs z)).length (shareL ws cs zl (row0 cs)) (qR cs z)=ps2 at ff ok g2 k2 k3 keep ffl f2 ⊢
 generalize shareL ws cs zr ps2=fin at ff ok k3 ⊢
 have chg:∀ i,i < cs.length→fin.getD i (0,1)=ps2.getD i (0,1)∨ps2.getD i (0,1)=(0,1):=fun i hi=>by
  by_cases e:rkP cs i∈zr
  ·refine .inr (g2.out i hi fun h=>?_)
   rw[el] at lt
   have:=(List.pairwise_append.mp lt).2.2 _ h _ e
   omega
  ·exact .inl (k3 i hi e)
 have ok2:∀ i,i < cs.length→Ok V (ps2.getD i (0,1)):=fun i hi=>by
  rcases chg i hi with e | e
  ·rw[← e];exact ok i hi
  ·rw[e];exact zero_ok
 have f2':=f2.any hV ok2 od
 have ki:fin.getD i (0,1)=ps2.getD i (0,1):=k3 i hi (by rw[hz];exact nr)
 cases hq:qR cs z i with
 | false =>
  left
  rw[ki,keep i hi hq,g1.out i hi (by rw[hz];exact nz)]
  unfold qR at hq
  rw[decide_eq_true hz,Bool.true_and] at hq
  have:(dueP cs i).1=0∧(dueP cs i).2=1:=by simpa using hq
  exact (Prod.ext this.1 this.2).symm
 | true =>
  rcases (ffl ok2 od i hi hq).2 with e | ⟨j,hj,hin,sp,hall⟩
  ·exact .inl (by rw[ki,e])
  ·have sp':=sp.grow f2' ff hj chg
   refine .inr ⟨j,hj,hin,sp',fun a ha ia=>?_⟩
   by_cases e1:rkP cs a < z
   ·exact .inr (.inl e1)
   by_cases e2:rkP cs a=z
   ·have ka:fin.getD a (0,1)=ps2.getD a (0,1):=k3 a ha (by rw[e2];exact nr)
    cases hqa:qR cs z a with
    | true =>
     refine .inr (.inr ⟨e2,?_⟩)
     rw[ka,ki]
     exact hall a ha ia hqa
    | false =>
     left
     rw[ka,keep a ha hqa,g1.out a ha (by rw[e2];exact nz),num_zero]
   ·left
    have o2:ps2.getD a (0,1)=(0,1):=g2.out a ha fun h=>by
     rcases List.mem_append.mp h with h | h
     ·have:=p3 _ h z List.mem_cons_self
      omega
     ·exact e2 (List.mem_singleton.mp h)
    have q:=sums_eq (f:=fun i=>if inn cs (Srt.sub j) i=true then num V (ps2.getD i (0,1)) else 0) (g:=fun i=>if inn cs (Srt.sub j) i=true then num V (fin.getD i (0,1)) else 0) (l:=List.range cs.length) (fun i hi=>by
     have hi:=List.mem_range.mp hi
     show (if _ then _ else _)≤(if _ then _ else _)
     split
     ·rcases chg i hi with e | e
      ·rw[e];exact Int.le_refl _
      ·rw[e,num_zero];exact ff.nn i hi
     ·exact Int.le_refl _) (by
     have h1:payN V cs ps2 j=_:=sp
     have h2:payN V cs fin j=_:=sp'
     show payN V cs fin j≤payN V cs ps2 j
     rw[h1,h2]
     exact Int.le_refl _) a (List.mem_range.mpr ha)
    have q:(if inn cs (Srt.sub j) a=true then num V (ps2.getD a (0,1)) else 0)=if inn cs (Srt.sub j) a=true then num V (fin.getD a (0,1)) else 0:=q
    rw[if_pos ia,if_pos ia,o2,num_zero] at q
    exact q.symm
end
def fillF(d p:Int×Int):Int×Int:=if d.1=0 then (1,1) else low (p.1*d.2) (p.2*d.1)
section
variable {U V U0:Int}{ws:List Int}{cs:List Cl}{ps ps' fs os:List (Int×Int)}
theorem cut_num{m k:Int×Int}{b:Int}(hV:0 < V)(om:Ok V m)(k2:0 < k.2)(k1:0≤k.1)(kk:k.1≤k.2)(kb:k.2∣b)(hb:0 < b)(m0:0≤num V m):Ok (V*b) (low (m.1*k.1) (m.2*k.2))∧0≤num (V*b) (low (m.1*k.1) (m.2*k.2))∧num (V*b) (low (m.1*k.1) (m.2*k.2))≤num (V*b) m:=by
 have hW:0 < V*b:=Int.mul_pos hV hb
 have omW:Ok (V*b) m:=om.up ⟨b,rfl⟩
 have hp:0 < m.2*k.2:=Int.mul_pos om.pos k2
 have ox:Ok (V*b) (low (m.1*k.1) (m.2*k.2)):=⟨low_pos hp,Int.dvd_trans low_u (Int.mul_dvd_mul om.dvd kb),low_cop hp⟩
 have e:num (V*b) (low (m.1*k.1) (m.2*k.2))*k.2=k.1*num (V*b) m:=by
  have:=nw_num (u:=k) (d:=m) k2 omW (by rw[Int.mul_comm k.1,Int.mul_comm k.2];exact ox)
  rw[Int.mul_comm k.1 m.1,Int.mul_comm k.2 m.2] at this
  exact this
 have mW:0≤num (V*b) m:=(nn_num hW omW).mp ((nn_num hV om).mpr m0)
 refine⟨ox,?_,?_⟩
 ·have h:=Int.mul_nonneg k1 mW
  rw[← e] at h
  by_cases z:0≤num (V*b) (low (m.1*k.1) (m.2*k.2))
  ·exact z
  ·have:=Int.mul_neg_of_neg_of_pos (Int.not_le.mp z) k2
   omega
 ·refine Int.le_of_mul_le_mul_right (a:=k.2) ?_ k2
  rw[e,Int.mul_comm (num (V*b) m)]
  exact Int.mul_le_mul_of_nonneg_right kk mW
theorem fill_lt{d p e q:Int×Int}(hV:0 < V)(od:Ok V d)(op:Ok V p)(oe:Ok V e)(oq:Ok V q)(d0:0 < num V d)(e0:0 < num V e):(fillF d p).1*(fillF e q).2 < (fillF e q).1*(fillF d p).2↔num V p*num V e < num V q*num V d:=by
 have d1:=(pos_num hV od).mpr d0
 have e1:=(pos_num hV oe).mpr e0
 unfold fillF
 rw[if_neg (by omega),if_neg (by omega)]
 have hd:0 < p.2*d.1:=Int.mul_pos op.pos d1
 have he:0 < q.2*e.1:=Int.mul_pos oq.pos e1
 rw[(over_low hV op od rfl rfl d0).2,(over_low hV oq oe rfl rfl e0).2]
 have a:=low_x (n:=num V p) d0
 have b:=low_x (n:=num V q) e0
 have a2:=low_pos (n:=num V p) d0
 have b2:=low_pos (n:=num V q) e0
 generalize low (num V p) (num V d)=x at a a2 ⊢
 generalize low (num V q) (num V e)=y at b b2 ⊢
 generalize num V p=P at a ⊢
 generalize num V q=R at b ⊢
 generalize num V d=D at a d0 ⊢
 generalize num V e=E at b e0 ⊢
 have hDE:=Int.mul_pos d0 e0
 have hxy:=Int.mul_pos a2 b2
 have k1:x.1*y.2*(D*E)=P*E*(x.2*y.2):=by grind
 have k2:y.1*x.2*(D*E)=R*D*(x.2*y.2):=by grind
 constructor
 ·intro h
  have:=Int.mul_lt_mul_of_pos_right h hDE
  rw[k1,k2] at this
  exact Int.lt_of_mul_lt_mul_right this (Int.le_of_lt hxy)
 ·intro h
  have:=Int.mul_lt_mul_of_pos_right h hxy
  rw[← k1,← k2] at this
  exact Int.lt_of_mul_lt_mul_right this (Int.le_of_lt hDE)
end
section
variable {U V U0:Int}{ws:List Int}{cs:List Cl}{ps ps' fs os:List (Int×Int)}
def flP(cs:List Cl)(ps:List (Int×Int))(i:Nat):Int×Int:=fillF (dueP cs i) (ps.getD i (0,1))
def cntB(cs:List Cl)(ps:List (Int×Int))(i k:Nat):Bool:=decide (rkP cs k < rkP cs i) || (decide (rkP cs k=rkP cs i) && !decide ((flP cs ps i).1*(flP cs ps k).2 < (flP cs ps k).1*(flP cs ps i).2))
def spN(V:Int)(cs:List Cl)(ps:List (Int×Int))(i j:Nat):Int:=((List.range cs.length).map fun k=>if (inn cs (Srt.sub j) k && cntB cs ps i k)=true then num V (ps.getD k (0,1)) else 0).sum
def papB(V:Int)(ws:List Int)(cs:List Cl)(ps:List (Int×Int))(i j:Nat):Bool:=inn cs (Srt.sub j) i && decide (spN V cs ps i j=worthOf ws (Srt.sub j)*V)
theorem papB_any{i j:Nat}(hU:0 < U)(hV:0 < V)(ok:∀ k,k < cs.length→Ok U (ps.getD k (0,1)))(ok':∀ k,k < cs.length→Ok V (ps.getD k (0,1))):papB U ws cs ps i j=papB V ws cs ps i j:=by
 have e:spN U cs ps i j*V=spN V cs ps i j*U:=by
  unfold spN
  refine sum_cross fun k hk=>?_
  split
  ·exact num_any (ok k (List.mem_range.mp hk)) (ok' k (List.mem_range.mp hk))
  ·rw[Int.zero_mul,Int.zero_mul]
 unfold papB
 congr 1
 rw[decide_eq_decide]
 constructor
 ·intro h
  rw[h,Int.mul_right_comm] at e
  exact (Int.eq_of_mul_eq_mul_right (by omega) e).symm
 ·intro h
  rw[h,Int.mul_right_comm] at e
  exact Int.eq_of_mul_eq_mul_right (by omega) e
structure Btw(V:Int)(cs:List Cl)(ps:List (Int×Int)):Prop where
 vp:0 < V
 ok:∀ i,i < cs.length→Ok V (ps.getD i (0,1))
 od:∀ i,i < cs.length→Ok V (dueP cs i)
 nn:∀ i,i < cs.length→0≤num V (ps.getD i (0,1))
 le:∀ i,i < cs.length→num V (ps.getD i (0,1))≤num V (dueP cs i)
theorem Fit.btw(f:Fit V ws cs ps):Btw V cs ps:=⟨f.vp,f.ok,f.od,f.nn,f.le⟩
theorem cnt_iff{i k:Nat}(b:Btw V cs ps)(hi:i < cs.length)(hk:k < cs.length)(di:0 < num V (dueP cs i))(dk:0 < num V (dueP cs k)):cntB cs ps i k=true↔rkP cs k < rkP cs i∨(rkP cs k=rkP cs i∧num V (ps.getD k (0,1))*num V (dueP cs i)≤num V (ps.getD i (0,1))*num V (dueP cs k)):=by
 have h:=fill_lt b.vp (b.od i hi) (b.ok i hi) (b.od k hk) (b.ok k hk) di dk
 unfold cntB flP
 rw[Bool.or_eq_true,Bool.and_eq_true,decide_eq_true_eq,decide_eq_true_eq,Bool.not_eq_true',decide_eq_false_iff_not,h,Int.not_lt]
theorem spN_pay{i j:Nat}(b:Btw V cs ps)(hi:i < cs.length)(di:0 < num V (dueP cs i))(h:∀ a,a < cs.length→inn cs (Srt.sub j) a=true→num V (ps.getD a (0,1))=0∨rkP cs a < rkP cs i∨(rkP cs a=rkP cs i∧num V (ps.getD a (0,1))*num V (dueP cs i)≤num V (ps.getD i (0,1))*num V (dueP cs a))):spN V cs ps i j=payN V cs ps j:=by
 unfold spN payN
 refine congrArg List.sum (List.map_congr_left fun k hk=>?_)
 have hk:=List.mem_range.mp hk
 cases ik:inn cs (Srt.sub j) k with
 | false=>simp
 | true =>
  rw[Bool.true_and,if_pos rfl]
  cases hc:cntB cs ps i k with
  | true=>rw[if_pos rfl]
  | false =>
   rw[if_neg Bool.false_ne_true]
   by_cases z:num V (ps.getD k (0,1))=0
   ·exact z.symm
   ·have n0:=b.nn k hk
    have l0:=b.le k hk
    rcases h k hk ik with e | e
    ·exact absurd e z
    ·have:=(cnt_iff b hi hk di (by omega)).mpr e
     rw[hc] at this
     cases this
theorem fair_pap(f:Fit V ws cs fs){i:Nat}(hi:i < cs.length)(pap:fs.getD i (0,1)=dueP cs i∨∃ j,j < 2 ^ ws.length∧inn cs (Srt.sub j) i=true∧Spt V ws cs fs j∧∀ a,a < cs.length→inn cs (Srt.sub j) a=true→num V (fs.getD a (0,1))=0∨rkP cs a < rkP cs i∨(rkP cs a=rkP cs i∧num V (fs.getD a (0,1))*num V (dueP cs i)≤num V (fs.getD i (0,1))*num V (dueP cs a))):fs.getD i (0,1)=dueP cs i∨∃ j,j < 2 ^ ws.length∧papB V ws cs fs i j=true:=by
 by_cases e:fs.getD i (0,1)=dueP cs i
 ·exact .inl e
 ·rcases pap with h | ⟨j,hj,hin,sp,hall⟩
  ·exact .inl h
  ·have hd:num V (fs.getD i (0,1))≠num V (dueP cs i):=fun z=>e (num_inj f.vp (f.ok i hi) (f.od i hi) z)
   have n0:=f.nn i hi
   have l0:=f.le i hi
   refine .inr ⟨j,hj,?_⟩
   unfold papB
   rw[hin,Bool.true_and,decide_eq_true_eq,spN_pay f.btw hi (by omega) hall]
   exact sp
end
theorem for_enumN{K:PySem.W.Frag}{a:Addr}{xs:List V}{g:TG}{tb:L2.TS}{D:Ends}{σ:St}{H:Hp}(Pv:Nat→St→Hp→Prop)(h0:Pv 0 σ H)(hl:∀ i σ H,i≤xs.length→Pv i σ H→SqL K H a xs)
  (hs:∀(i:Nat)(x:V)(p:Addr)(σ:St)(H H':Hp)(N B:St→Hp→Prop),xs[i]?=some x→H p=none→Same H H'→H' p=some (.tup [.int (i:Int),x])→Pv i σ H→(∀ σ' H',Pv (i+1) σ' H'→N σ' H')→(∀ σ' H',D.nx σ' H'→B σ' H')→g (.ref p) σ H' fun σ2 H2=>tb { nx:=N,rt:=D.rt,bk:=B,ct:=N } σ2 H2) (hd:∀ σ H,Pv xs.length σ H→D.nx σ H) :
  ∃ W:Nat→Nat→St→Hp→Prop,(∃ m,W 0 m σ H)∧∀ i m σ H,W i m σ H →
   ((Itn K a).stop i H∧D.nx σ H)∨((Itn K a).go i H∧∃ N:St→Hp→Prop,(∀ σ' H',N σ' H'→∃ m',m' < m∧W (i+1) m' σ' H')∧∀ x H',(Itn K a).yld i H x H'→g x σ H' fun σ2 H2=>tb { D with nx:=N,ct:=N,bk:=D.nx } σ2 H2):=by
 refine⟨fun i m σ H=>m=xs.length - i∧i≤xs.length∧Pv i σ H,⟨xs.length,by simp,Nat.zero_le _,h0⟩,?_⟩
 rintro i m σ H ⟨rfl,hi,p⟩
 have q:=hl i σ H hi p
 by_cases hlt:i < xs.length
 ·refine .inr ⟨⟨xs,xs[i],q,by simp[hlt]⟩,Pv (i+1),fun σ' H' p'=>⟨xs.length - (i+1),by omega,rfl,hlt,p'⟩,fun v H' y=>?_⟩
  obtain⟨pp,x,hn,y1,rfl,rfl⟩:=y
  exact hs i x pp σ H _ (Pv (i+1)) D.nx (y1 xs q) hn (Same.new hn) upd_same p (fun _ _ h=>h) fun _ _ h=>h
 ·have e:i=xs.length:=by omega
  subst e
  exact .inl ⟨⟨xs,q,rfl⟩,hd σ H p⟩
def HpsAt(H:Hp)(zs:List V)(js:List Nat):Prop:=∃ ts:Nat→Addr,zs=js.map (fun i=>V.ref (ts i))∧∀ i∈js,H (ts i)=some (.tup ((Srt.sub i).map V.int))
def papL(V:Int)(ws:List Int)(cs:List Cl)(ps:List (Int×Int))(i:Nat):List Nat:=if num V (ps.getD i (0,1)) < num V (dueP cs i) then (ordL (2 ^ ws.length)).filter (papB V ws cs ps i) else []
theorem nums_at{U:Int}{ps:List (Int×Int)}{n:Nat}(pl:ps.length=n):numsP U ps=(List.range n).map fun i=>num U (ps.getD i (0,1)):=by
 subst pl
 rw[map_getD (fun p=>num U p) (0,1) ps]
 rfl
theorem sp_filt{U:Int}{cs:List Cl}{ps:List (Int×Int)}{a j:Nat}:((((List.range cs.length).filter (cntB cs ps a)).filter (inn cs (Srt.sub j))).map fun i=>num U (ps.getD i (0,1))).sum=spN U cs ps a j:=by
 rw[List.filter_filter,sum_if]
 rfl
def papR(V:Int)(ws:List Int)(cs:List Cl)(ps:List (Int×Int))(i:Nat):List Nat:=if ps.getD i (0,1)=dueP cs i then [] else (List.range (2 ^ ws.length)).filter (papB V ws cs ps i)
theorem pap_mem{V:Int}{ws:List Int}{cs:List Cl}{ps:List (Int×Int)}{i j:Nat}(b:Btw V cs ps)(hi:i < cs.length)(w6:ws.length≤6):j∈papL V ws cs ps i↔j∈papR V ws cs ps i:=by
 have l:=b.le i hi
 have iff:num V (ps.getD i (0,1)) < num V (dueP cs i)↔¬ ps.getD i (0,1)=dueP cs i:=by
  constructor
  ·intro h z
   rw[z] at h
   omega
  ·intro h
   have:num V (ps.getD i (0,1))≠num V (dueP cs i):=fun z=>h (num_inj b.vp (b.ok i hi) (b.od i hi) z)
   omega
 unfold papL papR
 by_cases h:ps.getD i (0,1)=dueP cs i
 ·rw[if_pos h,if_neg fun z=>iff.mp z h]
 ·rw[if_neg h,if_pos (iff.mpr h),List.mem_filter,List.mem_filter,List.mem_range]
  exact⟨fun z=>⟨ord_lt z.1,z.2⟩,fun z=>⟨ord_all _ w6 _ z.1,z.2⟩⟩
abbrev rsD(ws:List Int)(cs:List Cl)(ps:List (Int×Int)):Dt:=.tup [.lst (ws.map Dt.int),.lst (cs.map cD),.lst (ps.map pD)]
theorem cmp_rs{ws:List Int}{cs:List Cl}{ps:List (Int×Int)}:Cmp 8 (rsD ws cs ps) (rsD ws cs ps):=by
 have h1:=cmp_sh (ws:=ws) (cs:=cs)
 have h2:Cmp 7 (Dt.lst (ps.map pD)) (Dt.lst (ps.map pD)):=cmp_lst fun d hd=>by
  obtain⟨c,_,rfl⟩:=List.mem_map.mp hd
  exact cmp2 _ _ _ _
 unfold Cmp at h1 ⊢
 intro j d e h3 h4
 match j,h3,h4 with
 | 0,h3,h4=>exact h1 0 d e h3 h4
 | 1,h3,h4=>exact h1 1 d e h3 h4
 | 2,h3,h4 =>
  cases h3
  cases h4
  exact h2
 | j+3,h3,_=>simp at h3
theorem dens_hps{H:Hp}{ts:Nat→Addr}:∀{js:List Nat},(∀ i∈js,H (ts i)=some (.tup ((Srt.sub i).map V.int)))→Dens H (js.map fun i=>Dt.tup ((Srt.sub i).map Dt.int)) (js.map fun i=>V.ref (ts i))
 | [],_=>dens0
 | i::js,h=>dens1 (den_tup (h i List.mem_cons_self) (ints_dens _)) (dens_hps fun k hk=>h k (List.mem_cons_of_mem _ hk))
section
variable {U V:Int}{cs:List Cl}{ps:List (Int×Int)}
theorem Btw.up{M:Int}(b:Btw V cs ps)(hM:0 < M)(d:V∣M):Btw M cs ps:=by
 have cr:∀{p q:Int×Int},Ok V p→Ok V q→num V p≤num V q→num M p≤num M q:=fun {p q} op oq h=>by
  have e1:=num_any op (op.up d)
  have e2:=num_any oq (oq.up d)
  refine Int.le_of_mul_le_mul_right (a:=V) ?_ b.vp
  rw[← e1,← e2]
  exact Int.mul_le_mul_of_nonneg_right h (Int.le_of_lt hM)
 refine⟨hM,fun i hi=>(b.ok i hi).up d,fun i hi=>(b.od i hi).up d,fun i hi=>?_,fun i hi=>cr (b.ok i hi) (b.od i hi) (b.le i hi)⟩
 have:=cr zero_ok (b.ok i hi) (by rw[num_zero];exact b.nn i hi)
 rw[num_zero] at this
 exact this
theorem Btw.put{a:Nat}{x:Int×Int}(b:Btw V cs ps)(ha:a < ps.length)(ox:Ok V x)(x0:0≤num V x)(xd:num V x≤num V (dueP cs a)):Btw V cs (ps.set a x):=by
 have e:∀ i,(ps.set a x).getD i (0,1)=if i=a then x else ps.getD i (0,1):=fun i=>by
  rw[List.getD_eq_getElem?_getD,List.getElem?_set]
  by_cases h:a=i
  ·subst h
   rw[if_pos rfl,if_pos ha,if_pos rfl]
   rfl
  ·rw[if_neg h,if_neg fun z=>h z.symm,List.getD_eq_getElem?_getD]
 refine⟨b.vp,fun i hi=>?_,b.od,fun i hi=>?_,fun i hi=>?_⟩
 ·rw[e];split
  ·exact ox
  ·exact b.ok i hi
 ·rw[e];split
  ·exact x0
  ·exact b.nn i hi
 ·rw[e];split
  ·rename_i h
   rw[h]
   exact xd
  ·exact b.le i hi
theorem due_sz{ws:List Int}{k:Nat}(c:FC UM ws cs)(d:UM∣V)(vp:0 < V)(vz:Sz k V){i:Nat}(hi:i < cs.length):Sz (180+k) (num V (dueP cs i)):=by
 have dd:=(c.dp hi).1
 have e:num V (dueP cs i)=num UM (dueP cs i)*(V / UM):=num_up um_ok.pos dd.toOk d
 rw[e]
 have:=div_pos_le um_ok.pos vp d
 exact (dd.sz.mul (Sz.le vz (show (V / UM).natAbs≤V.natAbs by omega))).mono (by omega)
theorem Btw.pt{ws:List Int}{k:Nat}(b:Btw V cs ps)(c:FC UM ws cs)(d:UM∣V)(vz:Sz k V){i:Nat}(hi:i < cs.length):PtOk V (180+k) (ps.getD i (0,1)):=by
 refine⟨b.ok i hi,?_⟩
 have h1:=b.nn i hi
 have h2:=b.le i hi
 have z:=due_sz c d b.vp vz hi
 exact Sz.le z (by omega)
end
theorem frB'{B l:Addr}{H0 H H':Hp}(h0:Fr1 B H0 H)(hl:H0 l=none)(g:Fr1 l H H'):Fr1 B H0 H':=fun a o n h=>g a o (fun e=>by rw[e,hl] at h;cases h) (h0 a o n h)
theorem none_of'{B l:Addr}{H0 H:Hp}(f:Fr1 B H0 H)(hl:H l=none)(nB:l≠B):H0 l=none:=by
 cases e:H0 l with
 | none=>rfl
 | some o=>rw[f l o nB e] at hl;cases hl
structure BS(H0 H:Hp)(B L c P:Addr)(xs:List V)(cs:List Cl)(pxs:List V)(ps:List (Int×Int)):Prop where
 b:BagAt H B L
 fr:Fr1 B H0 H
 c:H c=some (.lst xs)
 hC:ClsAt H xs cs
 p:H P=some (.lst pxs)
 r:RowV H pxs ps
 len:ps.length=cs.length
 p0:H0 P=none
section
variable {H0 H H':Hp}{B L c P:Addr}{xs:List V}{cs:List Cl}{pxs pxs':List V}{ps ps':List (Int×Int)}
theorem BS.same(x:BS H0 H B L c P xs cs pxs ps)(s:Same H H'):BS H0 H' B L c P xs cs pxs ps :=
 ⟨x.b.keep s,x.fr.trans (Fr1.of s),s _ _ x.c,x.hC.ts (TS.of s),s _ _ x.p,x.r.ts (TS.of s),x.len,x.p0⟩
theorem BS.pull(x:BS H0 H B L c P xs cs pxs ps)(b0:BagAt H0 B L)(cB:c≠B)(g:Fr1 B H H')(b:BagAt H' B L):BS H0 H' B L c P xs cs pxs ps :=
 ⟨b,x.fr.trans g,g _ _ cB x.c,x.hC.ts (TS.fr x.b g),g _ _ (b0.ne x.p0) x.p,x.r.ts (TS.fr x.b g),x.len,x.p0⟩
theorem BS.put(x:BS H0 H B L c P xs cs pxs ps)(b0:BagAt H0 B L)(c0:H0 c=some (.lst xs))(g:Fr1 P H H')(hp:H' P=some (.lst pxs'))(hr:RowV H' pxs' ps')(hl:ps'.length=cs.length):BS H0 H' B L c P xs cs pxs' ps' :=
 have ts:=TS.frl x.p g
 ⟨x.b.frm g (b0.ne x.p0) (b0.neL x.p0),frB' x.fr x.p0 g,g _ _ (ne_of_none c0 x.p0) x.c,x.hC.ts ts,hp,hr,hl,x.p0⟩
theorem BS.at(x:BS H0 H B L c P xs cs pxs ps){i:Nat}(hi:i < cs.length):∃ r,atI pxs (i:Int)=some (.ref r)∧H r=some (.tup [.int (ps.getD i (0,1)).1,.int (ps.getD i (0,1)).2]):=by
 have hl:=x.len
 obtain⟨r,er,hr⟩:=x.r.2 i ps[i] (List.getElem?_eq_getElem (by omega))
 have ep:ps.getD i (0,1)=ps[i]:=by simp[List.getD_eq_getElem?_getD,show i < ps.length by omega]
 exact⟨r,atI_nat er,by rw[ep];exact hr⟩
theorem BS.cl(x:BS H0 H B L c P xs cs pxs ps){i:Nat}(hi:i < cs.length):∃ rc pc kc,atI xs (i:Int)=some (.ref rc)∧H rc=some (.tup [.ref pc,.ref kc,.int (rkP cs i)])∧H pc=some (.tup [.int (dueP cs i).1,.int (dueP cs i).2]):=by
 obtain⟨v,ev,rc,pc,kc,rfl,e1,e2,e3⟩:=x.hC.2 i cs[i] (List.getElem?_eq_getElem hi)
 refine⟨rc,pc,kc,atI_nat ev,?_,?_⟩
 ·rw[rkP_at hi];exact e1
 ·rw[dueP_at hi];exact e2
end
section
variable {U M:Int}{ws:List Int}{cs:List Cl}{ps fs:List (Int×Int)}
end
theorem fair_of{ws:List Int}{cs:List Cl}{zs:List Int}(hC:FC UM ws cs)(w0:∀ x∈ws,0≤x)(rk:RkOk cs zs):∃ U,Fit U ws cs (shareL ws cs zs (row0 cs))∧(∀ i,i < cs.length→(shareL ws cs zs (row0 cs)).getD i (0,1)=dueP cs i∨∃ j,j < 2 ^ ws.length∧papB U ws cs (shareL ws cs zs (row0 cs)) i j=true)∧(shareL ws cs zs (row0 cs)).length=cs.length∧UM∣U∧Sz 3300 U:=by
 obtain⟨fi0,bd0⟩:=FI.row0 hC w0
 obtain⟨U,r,fi,bd,r16⟩:=share_ok hC zs 0 UM _ rk.lt fi0 bd0 (by have:=cntR_le (cs:=cs) (zs:=zs);have:=hC.c16;omega)
 obtain⟨ff,pap⟩:=pap_all hC w0 rk fi.up (fun i hi=>(fi.ok i hi).toOk) (fun i hi=>(hC.dp hi).1.toOk.up fi.dvd)
 exact⟨U,ff,fun i hi=>fair_pap ff hi (pap i hi),fi.len,fi.dvd,fi.uz.mono (by omega)⟩
theorem i_tRevT{te:TE}{ts:TO}{σ:St}{H:Hp}{Q:VK}(h:te σ H fun x H1=>ts σ H1 fun l H2=>l=some (-1)∧∃ a xs,x=.ref a∧H2 a=some (.tup xs)∧∀ p,H2 p=none→Q (.ref p) (upd H2 p (.tup xs.reverse))):tRevT te ts σ H Q:=h
theorem cut_intsT(hs:List Int)(lo hi:Option Int):∃ l:List Int,cutV (hs.map V.int) lo hi=l.map V.int:=by
 unfold cutV
 rw[← List.map_drop,← List.map_take]
 exact⟨_,rfl⟩
theorem i_part1{σ:St}{H:Hp}{R:Option Int→Hp→Prop}(h:R (some (-1)) H):tPart (tUn (rU fun i=>V.int (-i)) (tC (V.int 1))) σ H R:=⟨1,rfl,-1,rfl,h⟩
theorem i_partC{k:Int}{σ:St}{H:Hp}{R:Option Int→Hp→Prop}(h:R (some k) H):tPart (tC (V.int k)) σ H R:=⟨k,rfl,h⟩
theorem i_noPart{σ:St}{H:Hp}{R:Option Int→Hp→Prop}(h:R none H):tNoPart σ H R:=h
abbrev sp_common_factor:Sp:=fun vs H Q _=>∃ n u:Int,vs=[.int n,.int u]∧0 < u∧Q (.int (Int.gcd n u)) H
abbrev sp_lowest(K:PySem.W.Frag)(cx:Str→Addr):Sp:=fun vs H Q E=>∃ n u:Int,vs=[.int n,.int u]∧Sz 9000 u∧(u < 1→E (.ref (cx "BadPart")) none H)∧(0 < u→∀ p,H p=none→Q (.ref p) (upd H p (.tup [.int (n / (Int.gcd n u:Int)),.int (u / (Int.gcd n u:Int))])))
abbrev sp_below:Sp:=fun vs H Q _=>∃ p q n1 u1 n2 u2,vs=[.ref p,.ref q]∧H p=some (.tup [.int n1,.int u1])∧H q=some (.tup [.int n2,.int u2])∧Sz 20000 n1∧Sz 20000 u1∧Sz 20000 n2∧Sz 20000 u2∧Q (.bl (decide (n1*u2 < n2*u1))) H
abbrev sp_one_under:Sp:=fun vs H Q _=>∃ L xs ps U k,vs=[.ref L]∧H L=some (.lst xs)∧UOk U∧RowU U k H xs ps∧k≤8000∧ps.length≤16∧Q (.int (undP ps)) H
abbrev sp_numbers_over:Sp:=fun vs H Q _=>∃ L U xs ps V0 k,vs=[.ref L,.int U]∧H L=some (.lst xs)∧UOk V0∧RowU V0 k H xs ps∧k≤8000∧ps.length≤16∧Sz 4000 U∧∀ l,H l=none→Q (.ref l) (upd H l (.lst ((numsP U ps).map V.int)))
abbrev sp_heaps:Sp:=fun vs H Q _=>∃ m:Nat,vs=[.int (m:Int)]∧m≤6∧∀ F xs H',Same H H'→H F=none→H' F=some (.lst xs)→OrdAt H' xs (2 ^ m)→Q (.ref F) H'
abbrev sp_within:Sp:=fun vs H Q _=>∃ t h ts hs,vs=[.ref t,.ref h]∧H t=some (.tup (ts.map V.int))∧H h=some (.tup (hs.map V.int))∧ts.length≤6∧∀ H',Same H H'→Q (.bl (lies ts hs)) H'
abbrev sp_heap_worth:Sp:=fun vs H Q _=>∃ w h ws hs,vs=[.ref w,.ref h]∧H w=some (.lst (ws.map V.int))∧H h=some (.tup (hs.map V.int))∧hs.length≤6∧(∀ x∈hs,0≤x∧x < ws.length)∧∀ H',Same H H'→Q (.int (worthOf ws hs)) H'
abbrev sp__law_bag(K:PySem.W.Frag)(cx:Str→Addr):Sp:=fun vs H Q _=>∃ a ns,vs=[.ref a]∧SqL K H a (List.map V.int ns)∧ns.length≤63∧∀ B L H',Same H H'→H B=none→BagAt H' B L→Q (.ref B) H'
abbrev sp__law_pull:Sp:=fun vs H Q _=>∃ B m L,vs=[.ref B,.int m]∧BagAt H B L∧0 < m∧Sz 9000 m∧∀ d H',0≤d→d < m→BagAt H' B L→Fr1 B H H'→Q (.int d) H'
abbrev sp__law_gcd:Sp:=fun vs H Q _=>∃ n u:Int,vs=[.int n,.int u]∧Q (.int (Int.gcd n u)) H
abbrev sp__law_low:Sp:=fun vs H Q _=>∃ n u:Int,vs=[.int n,.int u]∧0 < u∧Sz 9000 u∧∀ p,H p=none→Q (.ref p) (upd H p (.tup [.int (lowN n u),.int (lowU n u)]))
abbrev sp__law_plus:Sp:=fun vs H Q _=>∃ p q n1 u1 n2 u2,vs=[.ref p,.ref q]∧H p=some (.tup [.int n1,.int u1])∧H q=some (.tup [.int n2,.int u2])∧0 < u1∧0 < u2∧Sz 20000 n1∧Sz 4400 u1∧Sz 20000 n2∧Sz 4400 u2∧∀ r,H r=none→Q (.ref r) (upd H r (.tup [.int (lowN (n1*u2+n2*u1) (u1*u2)),.int (lowU (n1*u2+n2*u1) (u1*u2))]))
abbrev sp__law_times:Sp:=fun vs H Q _=>∃ p q n1 u1 n2 u2,vs=[.ref p,.ref q]∧H p=some (.tup [.int n1,.int u1])∧H q=some (.tup [.int n2,.int u2])∧0 < u1∧0 < u2∧Sz 20000 n1∧Sz 4400 u1∧Sz 20000 n2∧Sz 4400 u2∧∀ r,H r=none→Q (.ref r) (upd H r (.tup [.int (lowN (n1*n2) (u1*u2)),.int (lowU (n1*n2) (u1*u2))]))
abbrev sp__law_below:Sp:=fun vs H Q _=>∃ p q n1 u1 n2 u2,vs=[.ref p,.ref q]∧H p=some (.tup [.int n1,.int u1])∧H q=some (.tup [.int n2,.int u2])∧Sz 20000 n1∧Sz 20000 u1∧Sz 20000 n2∧Sz 20000 u2∧Q (.bl (decide (n1*u2 < n2*u1))) H
abbrev sp__law_sum:Sp:=fun vs H Q _=>∃ L xs ps U k,vs=[.ref L]∧H L=some (.lst xs)∧UOk U∧RowU U k H xs ps∧k≤8000∧ps.length≤16∧∀ r H',Same H H'→H' r=some (.tup [.int (sumP ps).1,.int (sumP ps).2])→Q (.ref r) H'
abbrev sp__law_many:Sp:=fun vs H Q _=>∃ B L,vs=[.ref B]∧BagAt H B L∧∀ m H',0≤m→m≤6→BagAt H' B L→Fr1 B H H'→Q (.int m) H'
abbrev sp__law_heap:Sp:=fun vs H Q _=>∃ B m L,vs=[.ref B,.int m]∧BagAt H B L∧0≤m∧m≤6∧∀(t:Addr)(hs:List Int)(H':Hp),H t=none→BagAt H' B L→Fr1 B H H'→H' t=some (.tup (hs.map V.int))→hs.length≤6→(∀ x∈hs,0≤x∧x < m)→Q (.ref t) H'
abbrev sp__law_due:Sp:=fun vs H Q _=>∃ B s L,vs=[.ref B,.int s]∧BagAt H B L∧0≤s∧s≤1000000000∧∀ p n u H',H p=none→BagAt H' B L→Fr1 B H H'→H' p=some (.tup [.int n,.int u])→Du UM 115 n u→Q (.ref p) H'
abbrev sp__law_ceil:Sp:=fun vs H Q _=>∃ p n u,vs=[.ref p]∧H p=some (.tup [.int n,.int u])∧0 < u∧Sz 9000 u∧Q (.int (-(-n / u))) H
abbrev sp__law_less:Sp:=fun vs H Q _=>∃ p q n1 u1 n2 u2,vs=[.ref p,.ref q]∧H p=some (.tup [.int n1,.int u1])∧H q=some (.tup [.int n2,.int u2])∧0 < u1∧0 < u2∧Sz 20000 n1∧Sz 4400 u1∧Sz 20000 n2∧Sz 4400 u2∧∀ r,H r=none→Q (.ref r) (upd H r (.tup [.int (lowN (n1*u2 - n2*u1) (u1*u2)),.int (lowU (n1*u2 - n2*u1) (u1*u2))]))
abbrev sp__law_over:Sp:=fun vs H Q _=>∃ p q n1 u1 n2 u2,vs=[.ref p,.ref q]∧H p=some (.tup [.int n1,.int u1])∧H q=some (.tup [.int n2,.int u2])∧0 < u1∧0 < n2∧Sz 20000 n1∧Sz 4000 u1∧Sz 4800 n2∧Sz 20000 u2∧∀ r,H r=none→Q (.ref r) (upd H r (.tup [.int (lowN (n1*u2) (u1*n2)),.int (lowU (n1*u2) (u1*n2))]))
abbrev sp__law_heaps:Sp:=fun vs H Q _=>∃ m:Nat,vs=[.int (m:Int)]∧m≤6∧∀ F xs H',Same H H'→H F=none→H' F=some (.lst xs)→SubsAt H' xs (2 ^ m)→Q (.ref F) H'
abbrev sp__law_lies:Sp:=fun vs H Q _=>∃ t h ts hs,vs=[.ref t,.ref h]∧H t=some (.tup (ts.map V.int))∧H h=some (.tup (hs.map V.int))∧ts.length≤6∧∀ H',Same H H'→Q (.bl (lies ts hs)) H'
abbrev sp__law_worth:Sp:=fun vs H Q _=>∃ w h ws hs,vs=[.ref w,.ref h]∧H w=some (.lst (ws.map V.int))∧H h=some (.tup (hs.map V.int))∧hs.length≤6∧(∀ x∈hs,0≤x∧x < ws.length)∧∀ H',Same H H'→Q (.int (worthOf ws hs)) H'
abbrev sp__law_truth:Sp:=fun vs H Q _=>∃ b c,vs=[.bl b,.bl c]∧Q (.bl (decide (b=c))) H
abbrev sp__law_worths:Sp:=fun vs H Q _=>∃ B m L,vs=[.ref B,.int m]∧BagAt H B L∧0≤m∧m≤6∧∀(w:Addr)(ws:List Int)(H':Hp),H w=none→BagAt H' B L→Fr1 B H H'→H' w=some (.lst (ws.map V.int))→(ws.length:Int)=m→(∀ x∈ws,0≤x∧Sz 50 x)→Q (.ref w) H'
abbrev sp__law_tabled:Sp:=fun vs H Q _=>∃ B L,vs=[.ref B]∧BagAt H B L∧∀ T W C P Z ws xs cs ys ps zs rss H',Tf H B L W C P Z ws xs cs ys ps zs rss H'→H' T=some (.tup [.ref W,.ref C,.ref P,.ref Z])→Q (.ref T) H'
abbrev sp__law_case:Sp:=fun vs H Q _=>∃ B L,vs=[.ref B]∧BagAt H B L∧∀ T W C ws xs cs H',Cas H B L W C ws xs cs H'→H' T=some (.tup [.ref W,.ref C])→Q (.ref T) H'
abbrev sp__law_claims:Sp:=fun vs H Q _=>∃ B m L,vs=[.ref B,.int m]∧BagAt H B L∧0≤m∧m≤6∧∀ F xs cs H',H F=none→BagAt H' B L→Fr1 B H H'→H' F=some (.lst xs)→ClsAt H' xs cs→cs.length≤16→(∀ c∈cs,GoodU2 UM 115 m c)→Q (.ref F) H'
abbrev sp__law_need:Sp:=fun vs H Q _=>∃ w c p pl h U k ws xs cs ys ps q hs,vs=[.ref c,.ref pl,.ref h]∧LvIn U k w c p pl ws xs cs ys ps q H∧H h=some (.tup (hs.map V.int))∧∀ r d H',Same H H'→H' r=some (.tup [.int d.1,.int d.2])→PtOk U 4716 d→num U d=dueN U cs q hs→Q (.ref r) H'
abbrev sp__law_left:Sp:=fun vs H Q _=>∃ w c p pl h U k ws xs cs ys ps q hs,vs=[.ref w,.ref c,.ref p,.ref pl,.ref h]∧LvIn U k w c p pl ws xs cs ys ps q H∧H h=some (.tup (hs.map V.int))∧hs.length≤6∧(∀ x∈(hs:List Int),0≤x∧x < (ws.length:Int))∧∀ r d H',Same H H'→H' r=some (.tup [.int d.1,.int d.2])→PtOk U 4720 d→num U d=roomN U ws cs ps q hs→Q (.ref r) H'
abbrev sp__law_level:Sp:=fun vs H Q _=>∃ w c p pl U k ws xs cs ys ps q,vs=[.ref w,.ref c,.ref p,.ref pl]∧LvIn U k w c p pl ws xs cs ys ps q H∧∀ T r F lv H',Same H H'→H' T=some (.tup [.ref r,.ref F])→H' r=some (.tup [.int lv.1,.int lv.2])→H F=none→H' F=some (.lst (plV cs.length (haltQ (fun i=>roomN U ws cs ps q (Srt.sub i)) (fun i=>dueN U cs q (Srt.sub i)) (2 ^ ws.length) lv cs q)))→Lvl (fun i=>roomN U ws cs ps q (Srt.sub i)) (fun i=>dueN U cs q (Srt.sub i)) (2 ^ ws.length) lv→Sz 4720 lv.1→Sz 4720 lv.2→Q (.ref T) H'
abbrev sp__law_filled:Sp:=fun vs H Q _=>∃ w c p pl U0 r U ws xs cs ys ps q,vs=[.ref w,.ref c,.ref p,.ref pl]∧FdIn w c p pl ws xs cs ys ps q H∧FC U0 ws cs∧FI U0 ws cs r U ps q∧r+(plL cs.length q).length≤19∧∀ F ys' H',Same H H'→H F=none→H' F=some (.lst ys')→RowV H' ys' (fillP ws cs (plL cs.length q).length ps q)→Q (.ref F) H'
abbrev sp__law_fair:Sp:=fun vs H Q _=>∃ w c U0 ws xs cs,vs=[.ref w,.ref c]∧ShIn w c ws xs cs H∧FC U0 ws cs∧(∀ x∈ws,0≤x)∧∀ F ys zs H',Same H H'→H F=none→H' F=some (.lst ys)→RkOk cs zs→RowV H' ys (shareL ws cs zs (row0 cs))→Q (.ref F) H'
abbrev sp_over(K:PySem.W.Frag)(cx:Str→Addr):Sp:=fun vs H Q E=>∃ p q n1 u1 n2 u2,vs=[.ref p,.ref q]∧H p=some (.tup [.int n1,.int u1])∧H q=some (.tup [.int n2,.int u2])∧0 < u1∧Sz 4000 n1∧Sz 4000 u1∧Sz 400 n2∧Sz 400 u2∧(n2 < 1→E (.ref (cx "BadPart")) none H)∧(0 < n2→∀ r,H r=none→Q (.ref r) (upd H r (.tup [.int (lowN (n1*u2) (u1*n2)),.int (lowU (n1*u2) (u1*n2))])))
abbrev sp_fill:Sp:=fun vs H Q _=>∃ p q d e,vs=[.ref p,.ref q]∧H p=some (.tup [.int (d:Int×Int).1,.int d.2])∧H q=some (.tup [.int (e:Int×Int).1,.int e.2])∧0≤d.1∧0 < d.2∧Int.gcd d.1 d.2=1∧0 < e.2∧Sz 400 d.1∧Sz 400 d.2∧Sz 4000 e.1∧Sz 4000 e.2∧∀ t H',Same H H'→H' t=some (.tup [.int (fillF d e).1,.int (fillF d e).2])→Q (.ref t) H'
abbrev sp_counted:Sp:=fun vs H Q _=>∃ c p M ws xs cs ys ps,∃ a:Nat,vs=[.ref c,.ref p,.int (a:Int)]∧H c=some (.lst xs)∧ClsAt H xs cs∧FC UM ws cs∧a < cs.length∧H p=some (.lst ys)∧RowV H ys ps∧ps.length=cs.length∧(∀ i,i < cs.length→PtOk M 3700 (ps.getD i (0,1)))∧UOk M∧∀ F H',Same H H'→H' F=some (.lst (((List.range cs.length).filter (cntB cs ps a)).map fun i:Nat=>V.int (i:Int)))→Q (.ref F) H'
abbrev sp_papers:Sp:=fun vs H Q _=>∃ w c p M ws xs cs ys ps,∃ a:Nat,vs=[.ref w,.ref c,.ref p,.int (a:Int)]∧ShIn w c ws xs cs H∧FC UM ws cs∧a < cs.length∧H p=some (.lst ys)∧RowV H ys ps∧ps.length=cs.length∧Btw M cs ps∧(∀ i,i < cs.length→PtOk M 3700 (ps.getD i (0,1)))∧UOk M∧∀ F zs H',Same H H'→H' F=some (.lst zs)→HpsAt H' zs (papL M ws cs ps a)→Q (.ref F) H'
abbrev sp__law_row:Sp:=fun vs H Q _=>∃ B L c ws xs cs,vs=[.ref B,.ref c]∧BagAt H B L∧H c=some (.lst xs)∧ClsAt H xs cs∧c≠B∧FC UM ws cs∧∀ F ys ps M H',BagAt H' B L→Fr1 B H H'→H' F=some (.lst ys)→RowV H' ys ps→ps.length=cs.length→Btw M cs ps→UM∣M→Sz 3400 M→H F=none→Q (.ref F) H'
abbrev sp__law_bend:Sp:=fun vs H Q _=>∃ B L c f U ws xs cs ys fs,vs=[.ref B,.ref c,.ref f]∧BagAt H B L∧H c=some (.lst xs)∧ClsAt H xs cs∧c≠B∧f≠B∧FC UM ws cs∧H f=some (.lst ys)∧RowV H ys fs∧fs.length=cs.length∧Btw U cs fs∧UM∣U∧Sz 3300 U∧∀ F zs os M H',BagAt H' B L→Fr1 B H H'→H' F=some (.lst zs)→RowV H' zs os→os.length=cs.length→Btw M cs os→UM∣M→Sz 3400 M→H F=none→Q (.ref F) H'
abbrev sp__law_ahead:Sp:=fun vs H Q _=>∃ c p M ws xs cs ys ps,∃ a:Nat,vs=[.ref c,.ref p,.int (a:Int)]∧H c=some (.lst xs)∧ClsAt H xs cs∧FC UM ws cs∧a < cs.length∧H p=some (.lst ys)∧RowV H ys ps∧ps.length=cs.length∧(∀ i,i < cs.length→PtOk M 3700 (ps.getD i (0,1)))∧UOk M∧∀ F H',Same H H'→H' F=some (.lst (((List.range cs.length).filter (cntB cs ps a)).map fun i:Nat=>V.int (i:Int)))→Q (.ref F) H'
abbrev sp__law_papers:Sp:=fun vs H Q _=>∃ w c p M ws xs cs ys ps,∃ a:Nat,vs=[.ref w,.ref c,.ref p,.int (a:Int)]∧ShIn w c ws xs cs H∧FC UM ws cs∧a < cs.length∧H p=some (.lst ys)∧RowV H ys ps∧ps.length=cs.length∧Btw M cs ps∧(∀ i,i < cs.length→PtOk M 3700 (ps.getD i (0,1)))∧UOk M∧∀ F zs H',Same H H'→H' F=some (.lst zs)→HpsAt H' zs (papR M ws cs ps a)→Q (.ref F) H'
abbrev sp__law_fill:Sp:=fun vs H Q _=>∃ p q d e,vs=[.ref p,.ref q]∧H p=some (.tup [.int (d:Int×Int).1,.int d.2])∧H q=some (.tup [.int (e:Int×Int).1,.int e.2])∧0≤d.1∧0 < e.2∧Sz 4800 d.1∧Sz 20000 d.2∧Sz 20000 e.1∧Sz 4000 e.2∧∀ t H',Same H H'→H' t=some (.tup [.int (fillF d e).1,.int (fillF d e).2])→Q (.ref t) H'
abbrev sp_good_paper:Sp:=fun vs H Q _=>∃ w c p M ws xs cs ys ps t ts,∃ a:Nat,vs=[.ref w,.ref c,.ref p,.int (a:Int),.ref t]∧ShIn w c ws xs cs H∧FC UM ws cs∧a < cs.length∧H p=some (.lst ys)∧RowV H ys ps∧ps.length=cs.length∧Btw M cs ps∧(∀ i,i < cs.length→PtOk M 3700 (ps.getD i (0,1)))∧UOk M∧H t=some (.tup ((ts:List Int).map V.int))∧∀ H',Same H H'→Q (.bl ((papL M ws cs ps a).any fun j=>decide (Srt.sub j=ts))) H'
abbrev sp__law_looked:Sp:=fun vs H Q _=>∃ w c p M ws xs cs ys ps t ts,∃(a:Nat)(d:Bool),vs=[.ref w,.ref c,.ref p,.int (a:Int),.ref t,.bl d]∧ShIn w c ws xs cs H∧FC UM ws cs∧a < cs.length∧H p=some (.lst ys)∧RowV H ys ps∧ps.length=cs.length∧Btw M cs ps∧(∀ i,i < cs.length→PtOk M 3700 (ps.getD i (0,1)))∧UOk M∧H t=some (.tup ((ts:List Int).map V.int))∧(d=true↔∃ j∈papR M ws cs ps a,Srt.sub j=ts)∧∀ H',Same H H'→Q (.bl true) H'
abbrev sp_law(K:PySem.W.Frag)(cx:Str→Addr):Sp:=fun vs H Q _=>∃ a ns,vs=[.ref a]∧SqL K H a (List.map V.int ns)∧ns.length≤63∧∀ H',Q (.bl true) H'
local macro_rules | `(tactic| k_extra "rd")=>`(tactic| simp only[tSeq_ap,tIfS_ap,tNext_ap,tDrop_ap,tRet_ap,tRetN_ap,tVar_ap,tC_ap,tB_ap,tTest_ap,tOp_ap,tUn_ap,tCB_ap,tNil_ap,tCons_ap,tTup_ap,tLst_ap,tAsg_ap,gName_ap,gSub_ap,tPar_ap,tAugS_ap,rI_ap,rI0_ap,rU_ap,rEq_ap,rNe_ap,rEqP_ap,rNeP_ap,scal_ii,scal_bb,scal_ss,scal_nn,tAnd_ap,tOr_ap,tNot_ap,tAndV_ap,tOrV_ap,tNotV_ap,tIf_ap,tChain_ap,tD_ap,Hold_ap,Brk_t,Brk_f,tIsN_ap,tNotN_ap,ipI_ap,
 rIxF_ap,rLenF_ap,rGetF_ap,rSetL_ap,rIsi_ap,tyNm,isiN_int,isiN_bool,isiN_list,isiN_tuple,isiN_str,isi_ii,isi_ib,isi_bb,isi_bi,isi_tt,isi_ll,isi_nt,isi_ni,rListF_ap,rTupF_ap,rSumF_ap,rAllF_ap,rAnyF_ap,tBM_ap,rAppend_ap,compSt_ap,join_somz,tRev_ap,rInsert_ap,tPart_ap,tNoPart_ap,Int.reduceEq,  sizeLine_0,sizeLine_8,sizeLine_10,L2.start,CMulB,CDivB,CPow,tCallX_ap,tTry_ap,tRaise_ap,sp_common_factor,sp__law_gcd,sp__law_ceil,
 List.getElem?_cons_zero,List.getElem?_cons_succ,List.set_cons_zero,List.set_cons_succ,List.map_cons,List.map_nil,List.cons_append,List.nil_append,List.length_cons,List.length_nil,List.length_map,Nat.reduceAdd,Nat.reduceSub,Nat.zero_add,Nat.sub_self,List.replicate_succ,List.replicate_zero,
 Option.some.injEq,V.int.injEq,V.bl.injEq,V.ref.injEq,V.ty.injEq,V.str.injEq,HO.lst.injEq,HO.tup.injEq,List.cons.injEq,reduceCtorEq,exists_eq_left',exists_eq_left,exists_eq_right',exists_eq_right,exists_and_left,and_assoc,and_true,true_and,and_self,eq_self,decide_true,decide_false,decide_eq_true_eq,Bool.not_eq_true',decide_eq_false_iff_not,Bool.true_eq_false,Bool.false_eq_true,if_true,if_false,Bool.not_false,Bool.not_true,Bool.true_and,Bool.false_and,Bool.and_true,Bool.and_false,Bool.true_or,Bool.false_or,not_true_eq_false,ne_eq,not_false_eq_true,atI_0,atI_1,atI_2,atI_3,ixN_4_0,ixN_4_1,ixN_4_2,ixN_4_3,seqAt,upd_same,upd_ne,sizeLine_1,sizeLine_2,sizeLine_3,sizeLine_4,sizeLine_5,sizeLine_6,sizeLine_7,int_01,int_c2,pow_ok,Int.reduceLE,Int.reduceLT,Int.reduceAdd,Int.reduceSub,Int.reduceMul,Int.reduceNeg,Int.reducePow,Int.reduceToNat, *])
local macro_rules | `(tactic| k_extra "rx")=>`(tactic| repeat (first
 | (with_reducible refine i_tSeq ?_) | (with_reducible refine i_tAsg ?_) | (with_reducible refine i_gName ?_) | ((with_reducible apply i_tVar);(exact rfl)) | (with_reducible refine i_tC ?_) | (with_reducible refine i_tOp ?_) | (with_reducible refine i_tIfS ?_) | (with_reducible refine i_tTest ?_) | (with_reducible refine i_tB ?_) | (with_reducible refine i_exB ?_)
 | (with_reducible refine i_rI0 ?_) | (with_reducible refine i_tUn ?_) | (with_reducible refine i_rU ?_) | (with_reducible refine i_tCons ?_) | (with_reducible refine i_tNil ?_) | (with_reducible refine i_tD ?_) | (with_reducible refine i_tCB ?_) | (with_reducible refine i_tRet ?_) | (with_reducible refine i_tNext ?_) | (with_reducible refine i_tDrop ?_) | (with_reducible refine i_gSub ?_) | (with_reducible refine i_tAugS ?_) | (with_reducible refine i_tNot ?_) | (with_reducible refine i_tAnd ?_) | (with_reducible refine i_tOr ?_) | (with_reducible refine i_ipI ?_) | (with_reducible refine i_brkT ?_) | (with_reducible refine i_brkF ?_) | (with_reducible refine i_tTup ?_) | (with_reducible refine i_tLst ?_)
 | ((with_reducible refine i_rI ?_ ?_);(first | (exact Sz.ok (by assumption) (by assumption) (by decide)) | (exact⟨by assumption,by assumption⟩) | (exact⟨by decide,by decide⟩) | (show (0:Int) < _;first | decide | assumption) | (exact mul_mod_ok) | (exact Sz.okR (k:=31) (by decide) (by decide)) | (exact (⟨by decide,by decide,by decide⟩:CPow _ _))))
 | refine i_ixL (by assumption) rfl ?_ | refine i_ixT (by assumption) rfl ?_ | refine i_ixL (by assumption) (by assumption) ?_ | refine i_lenL (by assumption) ?_ | refine i_getL (by assumption) (by decide) rfl ?_))
section
variable {P:Program}{w:World}{K:PySem.W.Frag}{mg:Str→Option Value}{base:Heap}{cx:Str→Addr}{f:Addr}{fd:FuncData}
theorem ok_common_factor(D:DefAt K mg "common_factor" s_common_factor f fd)(T:Txt K mg cx):DefOk P w K mg base CX0 1 "common_factor" ["number","under"] sp_common_factor:=by
 refine D.ok (D.q sc_common_factor (fun vs H Q E h=>?_) (fun cdv A outer s H vs Q E hr h=>?_)) (D.fn.binds fun _ _ _ _ _ _ us hl=>match us,hl with | [_,_],_=>rfl)
 ·obtain⟨_,_,rfl,_⟩:=h
  rfl
 obtain⟨n,u,rfl,hu,hQ⟩:=h
 refine⟨_,(qss_cons (qs_set (i:=2) sc_common_factor.nd rfl (Or.inl rfl) (qv 0))
   (qss_cons (qs_set (i:=3) sc_common_factor.nd rfl (Or.inl rfl) (qv 1))
   (qss_cons (qs_while PassesOwn.never (qt_cmpR op_ne (qv 3) qe_int (nomark _)) (qss_cons (qs_set (i:=4) sc_common_factor.nd rfl (Or.inl rfl) (qe_op op_mod (qv 2) (qv 3)))
   (qss_cons (qs_set (i:=2) sc_common_factor.nd rfl (Or.inl rfl) (qv 3))
   (qss_one (qs_set (i:=3) sc_common_factor.nd rfl (Or.inl rfl) (qv 4))))))
   (qss_one (qs_ret (qv 2)))))),?_⟩
 k_extra "rd"
 refine⟨fun m σ H'=>H'=H∧∃(g l:Int)(r:Option V),σ=[some (.int n),some (.int u),some (.int g),some (.int l),r]∧m=l.toNat∧0≤l∧Int.gcd g l=Int.gcd n u∧(l=0→0 < g),⟨_,rfl,n,u,none,rfl,rfl,by omega,rfl,by omega⟩,?_⟩
 rintro m σ H' ⟨rfl,g,l,r,rfl,rfl,h0,hg,hp⟩
 k_extra "rd"
 refine ite2 (fun hl=>?_) (fun hl=>?_)
 ·refine⟨fun σ' H''=>H''=H'∧∃(g' l':Int)(r':Option V),σ'=[some (.int n),some (.int u),some (.int g'),some (.int l'),r']∧l'.toNat < l.toNat∧0≤l'∧Int.gcd g' l'=Int.gcd n u∧(l'=0→0 < g'),fun σ' H'' ⟨e,g',l',r',e2,a1,a2,a3,a4⟩=>⟨l'.toNat,a1,e,g',l',r',e2,rfl,a2,a3,a4⟩,?_⟩
  have hl':0 < l:=by omega
  k_extra "rd"
  have:=Int.emod_lt_of_pos g hl'
  have:=Int.emod_nonneg g (by omega:l≠0)
  exact⟨by omega,by omega,by rw[gcd_step hl'];exact hg,fun _=>trivial⟩
 ·have e:l=0:=by omega
  subst e
  have e2:((Int.gcd n u:Nat):Int)=g:=by
   rw[← hg,Int.gcd_zero_right]
   have:=hp rfl
   omega
  rw[e2] at hQ
  exact hQ
theorem ok_lowest(D:DefAt K mg "lowest" s_lowest f fd)(T:Txt K mg cx)(d_common_factor:DefOk P w K mg base CX0 1 "common_factor" ["number","under"] sp_common_factor):DefOk P w K mg base (CXR P w) 2 "lowest" ["number","under"] (sp_lowest K cx):=by
 refine D.ok (D.qR sc_lowest (fun vs H Q E h=>?_) (fun cdv A outer s H vs Q E hr h=>?_)) (D.fn.binds fun _ _ _ _ _ _ us hl=>match us,hl with | [_,_],_=>rfl)
 ·obtain⟨_,_,rfl,_⟩:=h
  rfl
 obtain⟨n,u,rfl,hz,hE,hQ⟩:=h
 refine⟨_,(qss_cons (qs_if (qt_cmpR op_lt (qv 1) qe_int (nomark _)) (qss_one (qs_raise raisesR T.x_BadPart rfl (by rfl) (qa_cons qe_str qa_nil))) qss_nil)
   (qss_cons (qs_set (i:=2) sc_lowest.nd rfl (Or.inl rfl) (qe_d d_common_factor hr.le pass0 (by rfl) (qa_cons (qv 0) (qa_cons (qv 1) qa_nil))))
   (qss_one (qs_ret (qe_tup (qa_cons (qe_op op_fdivB (qv 0) (qv 2)) (qa_cons (qe_op op_fdivB (qv 1) (qv 2)) qa_nil))))))),?_⟩
 k_extra "rd"
 refine brkD (fun h1=>?_) (fun h1=>?_)
 ·k_extra "rd"
 k_extra "rd"
 have h2:0 < u:=by omega
 have hg:=gcd_pos (n:=n) h2
 have hgz:Sz 9000 (Int.gcd n u:Int):=hz.le (by have:=Int.gcd_le_natAbs_right n (b:=u) (by omega);omega)
 exact⟨h2,hg,hgz,hg,hgz,fun p hp=>hQ h2 p hp⟩
theorem ok_below(D:DefAt K mg "below" s_below f fd)(T:Txt K mg cx):DefOk P w K mg base CX0 1 "below" ["one","other"] sp_below:=by
 refine D.ok (D.q sc_below (fun vs H Q E h=>?_) (fun cdv A outer s H vs Q E hr h=>?_)) (D.fn.binds fun _ _ _ _ _ _ us hl=>match us,hl with | [_,_],_=>rfl)
 ·obtain⟨_,_,_,_,_,_,rfl,_⟩:=h
  rfl
 obtain⟨p,q,n1,u1,n2,u2,rfl,hp,hq,z1,z2,z3,z4,hQ⟩:=h
 refine⟨_,(qss_one (qs_ret (qe_cmpR op_lt (qe_op op_mulB (qe_ix ix_seqA (qv 0) qe_int (fun _ _=>rfl)) (qe_ix ix_seqA (qv 1) qe_int (fun _ _=>rfl))) (qe_op op_mulB (qe_ix ix_seqA (qv 1) qe_int (fun _ _=>rfl)) (qe_ix ix_seqA (qv 0) qe_int (fun _ _=>rfl))) (nomark _)))),?_⟩
 k_extra "rx"
 exact hQ
theorem ok_one_under(D:DefAt K mg "one_under" s_one_under f fd)(T:Txt K mg cx)(d_common_factor:DefOk P w K mg base CX0 1 "common_factor" ["number","under"] sp_common_factor):DefOk P w K mg base CX0 2 "one_under" ["row"] sp_one_under:=by
 refine D.ok (D.q sc_one_under (fun vs H Q E h=>?_) (fun cdv A outer s H vs Q E hr h=>?_)) (D.fn.binds fun _ _ _ _ _ _ us hl=>match us,hl with | [_],_=>rfl)
 ·obtain⟨_,_,_,_,_,rfl,_⟩:=h
  rfl
 obtain⟨L,xs,ps,U,k,rfl,hL,hU,hR,hk,hlen,hQ⟩:=h
 refine⟨_,(qss_cons (qs_set (i:=1) sc_one_under.nd rfl (Or.inl rfl) qe_int)
   (qss_cons (qs_for PassesOwn.never rfl (qi_listK (K:=K) rfl (qv 0)) (qg_name (i:=2) sc_one_under.nd rfl (Or.inl rfl)) (qss_one (qs_set (i:=1) sc_one_under.nd rfl (Or.inl rfl) (qe_op op_mulB (qe_op op_fdivB (qv 1) (qe_d d_common_factor hr.le pass0 (by rfl) (qa_cons (qv 1) (qa_cons (qe_ix ix_seqA (qv 2) qe_int (fun _ _=>rfl)) qa_nil)))) (qe_ix ix_seqA (qv 2) qe_int (fun _ _=>rfl))))))
   (qss_one (qs_ret (qv 1))))),?_⟩
 have go:∀ i,0 < undP (ps.take i)∧Sz 4000 (undP (ps.take i)):=fun i=>by
  obtain⟨a,b,_⟩:=undP_ok (U:=U) (l:=ps.take i) fun p hp=>(hR.mem p (List.mem_of_mem_take hp)).toOk
  exact⟨a,hU.sz.le (le_of_dvd' b hU.pos)⟩
 refine⟨_,rfl,L,rfl,⟨_,SqL.of hL⟩,for_list (K:=K) (a:=L) (xs:=xs) (fun i σ H2=>∃ v,σ=[some (.ref L),some (.int (undP (ps.take i))),v]∧H2=H)
  ⟨none,rfl,rfl⟩ (fun i σ H2 _ ⟨_,_,e⟩=>by rw[e];exact SqL.of hL) ?_ ?_⟩
 ·rintro i y σ H2 hy ⟨v,rfl,rfl⟩
  have hi:i < xs.length:=(List.getElem?_eq_some_iff.mp hy).1
  have hi2:i < ps.length:=by rw[← hR.1];exact hi
  obtain⟨q,eq,hq,po⟩:=hR.2 i ps[i] (List.getElem?_eq_getElem hi2)
  rw[eq] at hy
  cases hy
  have e:undP (ps.take (i+1))=und1 (undP (ps.take i)) ps[i]:=undP_succ hi2
  obtain⟨h0,z⟩:=go i
  rw[e]
  clear e go hR
  have hu:=po.pos
  have zu:=po.toOk.usz hU
  generalize undP (ps.take i)=R at h0 z ⊢
  generalize ps[i]=P at hq hu zu ⊢
  have hg:=gcd_pos (n:=R) hu
  have zg:Sz 9000 (Int.gcd R P.2:Int):=Sz.mono (Sz.le zu (by have:=Nat.le_of_dvd (by omega) (Int.gcd_dvd_natAbs_right R P.2);omega)) (by decide)
  have zd:Sz 4000 (R / (Int.gcd R P.2:Int)):=Sz.le z (natAbs_div_le _ _)
  have om:IntMulOk (R / (Int.gcd R P.2:Int)) P.2:=zd.ok zu (by decide)
  k_extra "rd"
  rfl
 ·rintro σ H2 ⟨v,rfl,rfl⟩
  have e:ps.take xs.length=ps:=by rw[hR.1,List.take_length]
  rw[e]
  exact⟨_,rfl,hQ⟩
theorem ok_numbers_over(D:DefAt K mg "numbers_over" s_numbers_over f fd)(T:Txt K mg cx):DefOk P w K mg base CX0 1 "numbers_over" ["row","under"] sp_numbers_over:=by
 refine D.ok (D.q sc_numbers_over (fun vs H Q E h=>?_) (fun cdv A outer s H vs Q E hr h=>?_)) (D.fn.binds fun _ _ _ _ _ _ us hl=>match us,hl with | [_,_],_=>rfl)
 ·obtain⟨_,_,_,_,_,_,rfl,_⟩:=h
  rfl
 obtain⟨L,U,xs,ps,V0,k0,rfl,hL,hV,hR,hk,hlen,zU,hQ⟩:=h
 refine⟨_,(qss_one (qs_ret (qe_comp ["part"] [("under", 1)] rfl (qi_listK (K:=K) rfl (qv 0)) (gext_name (by decide)) (fun cl C fp s2 H2=>⟨(qg_name (i:=0) (show (["part","under"]:List Str).Nodup by decide +kernel) rfl (Or.inl rfl)),qf_nil,(qe_op op_mulB (qe_ix ix_seqA (qv 0) qe_int (fun _ _=>rfl)) (qe_op op_fdivB (qv 1) (qe_ix ix_seqA (qv 0) qe_int (fun _ _=>rfl))))⟩) rfl (by decide +kernel) (by decide +kernel) (free_of (by rfl)) (fr_of (by rfl))))),?_⟩
 refine⟨_,rfl,L,rfl,⟨_,SqL.of hL⟩,fun l hl=>comp_list (K:=K) (a:=L) (xs:=xs) (fun i acc H2=>acc=(numsP U (ps.take i)).map V.int∧H2=upd H l (.lst acc)) ⟨rfl,rfl⟩ (fun i acc H2 _ ⟨_,e⟩=>by rw[e];exact SqL.of ((Same.new hl) _ _ hL)) ?_ ?_⟩
 ·rintro i y acc H2 hy ⟨rfl,rfl⟩
  have hi:i < xs.length:=(List.getElem?_eq_some_iff.mp hy).1
  have hi2:i < ps.length:=by rw[← hR.1];exact hi
  obtain⟨q,eq,hq,po⟩:=hR.2 i ps[i] (List.getElem?_eq_getElem hi2)
  have hu:=po.pos
  have zu:=po.toOk.usz hV
  have zn:=(po.nsz hV.pos).mono hk
  clear po
  rw[eq] at hy
  cases hy
  have hq2:=(Same.new (o:=.lst ((numsP U (ps.take i)).map V.int)) hl) _ _ hq
  have e:numsP U (ps.take (i+1))=numsP U (ps.take i)++[ps[i].1*(U / ps[i].2)]:=by
   unfold numsP
   rw[List.take_succ_eq_append_getElem hi2,List.map_append]
   rfl
  have len:(numsP U (ps.take i)).length≤16:=by unfold numsP;rw[List.length_map,List.length_take];omega
  have k1:upd H l (.lst ((numsP U (ps.take i)).map V.int)) l=_:=upd_same
  have k2:∀ o,upd (upd H l (.lst ((numsP U (ps.take i)).map V.int))) l o=upd H l o:=fun o=>upd_upd
  rw[e]
  generalize numsP U (ps.take i)=A at hq2 len k1 k2 ⊢
  generalize ps[i]=P at hq hu zn zu hq2 ⊢
  generalize upd H l (.lst (A.map V.int))=H3 at hq2 k1 k2 ⊢
  have om:IntMulOk P.1 (U / P.2):=zn.ok (Sz.le zU (natAbs_div_le _ _)) (by decide)
  have zu9:Sz 9000 P.2:=zu.mono (by decide)
  simp only[gName_ap,tYes,if_true]
  clear hR hL hQ
  k_extra "rd"
  exact⟨small1000 (by omega),by rw[List.map_append];rfl⟩
 ·rintro acc H2 ⟨rfl,rfl⟩
  have e:ps.take xs.length=ps:=by rw[hR.1,List.take_length]
  rw[e]
  exact hQ l hl
theorem ok_heaps(D:DefAt K mg "heaps" s_heaps f fd)(T:Txt K mg cx):DefOk P w K mg base CX0 1 "heaps" ["many"] sp_heaps:=by
 refine D.ok (D.q sc_heaps (fun vs H Q E h=>?_) (fun cdv A outer s H vs Q E hr h=>?_)) (D.fn.binds fun _ _ _ _ _ _ us hl=>match us,hl with | [_],_=>rfl)
 ·obtain⟨_,rfl,_⟩:=h
  rfl
 obtain⟨m,rfl,m6,hQ⟩:=h
 refine⟨_,(qss_cons (qs_set (i:=1) sc_heaps.nd rfl (Or.inl rfl) (qe_lst (qa_cons (qe_tup qa_nil) qa_nil)))
   (qss_cons (qs_for PassesOwn.never rfl (qi_range1 (by rfl) T.n_range (qa_cons (qv 0) qa_nil)) (qg_name (i:=2) sc_heaps.nd rfl (Or.inr rfl)) (qss_one (qs_set (i:=1) sc_heaps.nd rfl (Or.inl rfl) (qe_op op_cat (qv 1) (qe_comp ["heap"] [("place", 2)] rfl (qi_listK (K:=K) rfl (qv 1)) (gext_name (by decide)) (fun cl C fp s2 H2=>⟨(qg_name (i:=0) (show (["heap","place"]:List Str).Nodup by decide +kernel) rfl (Or.inl rfl)),qf_nil,(qe_op op_catA (qv 0) (qe_tup (qa_cons (qv 1) qa_nil)))⟩) rfl (by decide +kernel) (by decide +kernel) (free_of (by rfl)) (fr_of (by rfl)))))))
   (qss_one (qs_ret (qe_callB (call_sortH hr.units) (by rfl) T.n_sorted bt_sorted (qa_cons (qv 1) qa_nil)))))),?_⟩
 refine⟨by show 0≤sizeLine;decide,fun t0 ht0=>⟨by show 1≤sizeLine;decide,fun F0 hF0=>?_⟩⟩
 have s0:=(Same.new (o:=.tup []) ht0).trans (Same.new (o:=.lst [.ref t0]) hF0)
 have k0:=(Same.new (o:=.lst [.ref t0]) hF0) t0 _ upd_same
 have n0:H F0=none:=(Same.new (o:=.tup []) ht0).free hF0
 have j0:upd (upd H t0 (.tup [])) F0 (.lst [.ref t0]) F0=_:=upd_same
 generalize upd (upd H t0 (.tup [])) F0 (.lst [.ref t0])=H0 at s0 k0 j0 ⊢
 refine⟨_,rfl,(m:Int),rfl,by omega,by omega,for_range (lo:=0) (n:=((m:Nat):Int).toNat) (fun i σ H2=>∃ F xs v,σ=[some (.int (m:Int)),some (.ref F),v]∧Same H H2∧H F=none∧H2 F=some (.lst xs)∧SubsAt H2 xs (2 ^ i)) ⟨F0,[.ref t0],none,rfl,s0,n0,j0,?_⟩ ?_ ?_⟩
 ·refine⟨rfl,fun i hi=>?_⟩
  have:i=0:=by have:i < 1:=hi;omega
  subst this
  exact⟨t0,rfl,k0⟩
 ·rintro i σ H2 hi ⟨F,xs,v,rfl,s2,nF,hF,hS⟩
  have hi6:i < 6:=by omega
  have hl:=hS.1
  have l64:2 ^ i≤32:=by
   have:i=0∨i=1∨i=2∨i=3∨i=4∨i=5:=by omega
   rcases this with rfl | rfl | rfl | rfl | rfl | rfl<;>decide
  simp only[gName_ap]
  refine⟨_,rfl,_,rfl,F,rfl,⟨_,SqL.of hF⟩,fun l hl'=>?_⟩
  refine comp_listR (K:=K) (a:=F) (xs:=xs) (fun j acc H3=>Same H2 H3∧H3 l=some (.lst acc)∧acc.length=j∧∀ q,q < j→∃ t,acc[q]?=some (.ref t)∧H3 t=some (.tup ((Srt.sub (2 ^ i+q)).map V.int))) ⟨Same.new hl',upd_same,rfl,fun q hq=>by omega⟩ (fun j acc H3 _ ⟨s3,_⟩=>SqL.of (s3 _ _ hF)) ?_ ?_
  ·rintro j y acc H3 hy ⟨s3,hl3,hj,hA⟩
   have hjl:=(List.getElem?_eq_some_iff.mp hy).1
   have hj2:j < 2 ^ i:=by omega
   obtain⟨t,et,ht⟩:=hS.2 j hj2
   rw[et] at hy
   cases hy
   simp only[gName_ap,tYes,if_true]
   refine⟨_,rfl,_,rfl,by show 1≤sizeLine;decide,fun q hq=>?_⟩
   have s4:=Same.new (o:=.tup [.int (0+(i:Int))]) hq
   refine⟨t,q,(Srt.sub j).map V.int,[.int (0+(i:Int))],rfl,rfl,s4 _ _ (s3 _ _ ht),upd_same,by simp,?_,fun r H5 s5 hr=>?_⟩
   ·show ((Srt.sub j).map V.int).length+1≤sizeLine
    rw[List.length_map]
    have:(Srt.sub j).length≤6:=by
     unfold Srt.sub
     rw[List.length_map]
     exact Nat.le_trans (List.length_filter_le _ _) (by rw[List.length_range];exact Nat.le_refl _)
    exact Nat.le_of_lt (small1000 (by omega))
   ·have s35:=s4.trans s5
    have hl5:=s35 _ _ hl3
    have nrl:r≠l:=fun z=>by rw[z,hl5] at hr;cases hr
    refine⟨hl5,small1000 (by omega),fun b o hb=>?_,upd_same,by rw[List.length_append,hj];rfl,fun q hq=>?_⟩
    ·have nb:b≠l:=fun z=>by rw[z,hl'] at hb;cases hb
     rw[upd_ne nb]
     exact s35 _ _ (s3 _ _ hb)
    ·by_cases hqj:q < j
     ·obtain⟨t',e',h'⟩:=hA q hqj
      have h5:=s35 _ _ h'
      have ntl:t'≠l:=fun z=>by rw[z,hl5] at h5;cases h5
      exact⟨t',by rw[List.getElem?_append_left (by omega)];exact e',by rw[upd_ne ntl];exact h5⟩
     ·have e:q=acc.length:=by omega
      subst e
      refine⟨r,by rw[List.getElem?_append_right (Nat.le_refl _),Nat.sub_self];rfl,?_⟩
      rw[upd_ne nrl,hr,hj,sub_add i hi6 j hj2,List.map_append,Int.zero_add]
      rfl
  ·rintro acc H3 ⟨s3,hl3,hj,hA⟩
   have hF3:=s3 _ _ hF
   refine⟨F,l,xs,acc,rfl,rfl,hF3,hl3,?_,fun G hG=>?_⟩
   ·exact Nat.le_of_lt (small1000 (by omega))
   ·have s4:=Same.new (o:=.lst (xs++acc)) hG
    refine⟨G,xs++acc,_,rfl,s2.trans (s3.trans s4),(s2.trans s3).free hG,upd_same,?_,fun q hq=>?_⟩
    ·rw[List.length_append,hj,hl,Nat.pow_succ]
     omega
    ·rw[Nat.pow_succ] at hq
     by_cases hq1:q < 2 ^ i
     ·obtain⟨t',e',h'⟩:=hS.2 q hq1
      exact⟨t',by rw[List.getElem?_append_left (by omega)];exact e',s4 _ _ (s3 _ _ h')⟩
     ·obtain⟨t',e',h'⟩:=hA (q - 2 ^ i) (by omega)
      have eq:2 ^ i+(q - 2 ^ i)=q:=by omega
      rw[eq] at h'
      exact⟨t',by rw[List.getElem?_append_right (by omega),hl];exact e',s4 _ _ h'⟩
 ·rintro σ H2 ⟨F,xs,v,rfl,s2,nF,hF,hS⟩
  have em:((m:Nat):Int).toNat=m:=Int.toNat_natCast m
  rw[em] at hS
  exact⟨_,rfl,F,xs,m,rfl,hF,m6,hS,fun l hl=>hQ l _ _ (s2.trans (Same.new hl)) (s2.free hl) upd_same ((subs_ord hS).ts (TS.of (Same.new hl)))⟩
theorem ok_within(D:DefAt K mg "within" s_within f fd)(T:Txt K mg cx):DefOk P w K mg base CX0 1 "within" ["touched","heap"] sp_within:=by
 refine D.ok (D.q sc_within (fun vs H Q E h=>?_) (fun cdv A outer s H vs Q E hr h=>?_)) (D.fn.binds fun _ _ _ _ _ _ us hl=>match us,hl with | [_,_],_=>rfl)
 ·obtain⟨_,_,_,_,rfl,_⟩:=h
  rfl
 obtain⟨t,h,ts,hs,rfl,ht,hh,hl,hQ⟩:=h
 refine⟨_,(qss_one (qs_ret (qe_callB (call_allF rfl) (by rfl) T.n_all bt_all (qa_cons (qe_comp ["place"] [("heap", 1)] rfl (qi_tupK (K:=K) rfl (qv 0)) (gext_name (by decide)) (fun cl C fp s2 H2=>⟨(qg_name (i:=0) (show (["place","heap"]:List Str).Nodup by decide +kernel) rfl (Or.inl rfl)),qf_nil,(qe_cmpR (op_inK (K:=K) rfl) (qv 0) (qv 1) (by rfl))⟩) rfl (by decide +kernel) (by decide +kernel) (free_of (by rfl)) (fr_of (by rfl))) qa_nil)))),?_⟩
 refine⟨_,rfl,t,rfl,⟨_,SqT.of ht⟩,fun l hl'=>comp_tupR (K:=K) (a:=t) (xs:=ts.map V.int) (fun i acc H2=>acc=((ts.take i).map fun x=>decide (x∈hs)).map V.bl∧H2=upd H l (.lst acc)) ⟨rfl,rfl⟩ (fun i acc H2 _ ⟨_,e⟩=>by rw[e];exact SqT.of ((Same.new hl') _ _ ht)) ?_ ?_⟩
 ·rintro i y acc H2 hy ⟨rfl,rfl⟩
  obtain⟨hi,rfl⟩:=int_at hy
  simp only[gName_ap,tYes,if_true]
  refine⟨_,rfl,_,rfl,h,hs.map V.int,rfl,.inr (SqT.of ((Same.new hl') _ _ hh)),rfl,flat_ints hs,upd_same,small1000 (by simp only[List.length_map,List.length_take];omega),?_,upd_upd⟩
  rw[take_map_succ _ hi,List.map_append,inV_int]
  rfl
 ·rintro acc H2 ⟨rfl,rfl⟩
  have e:ts.take (ts.map V.int).length=ts:=by rw[List.length_map,List.take_length]
  rw[e]
  refine⟨l,ts.map fun x=>decide (x∈hs),rfl,upd_same,?_⟩
  have e2:(ts.map fun x=>decide (x∈hs)).all id=lies ts hs:=by unfold lies;rw[List.all_map];rfl
  rw[e2]
  exact hQ _ (Same.new hl')
theorem ok_heap_worth(D:DefAt K mg "heap_worth" s_heap_worth f fd)(T:Txt K mg cx):DefOk P w K mg base CX0 1 "heap_worth" ["worths","heap"] sp_heap_worth:=by
 refine D.ok (D.q sc_heap_worth (fun vs H Q E h=>?_) (fun cdv A outer s H vs Q E hr h=>?_)) (D.fn.binds fun _ _ _ _ _ _ us hl=>match us,hl with | [_,_],_=>rfl)
 ·obtain⟨_,_,_,_,rfl,_⟩:=h
  rfl
 obtain⟨w,h,ws,hs,rfl,hw,hh,hl,hb,hQ⟩:=h
 refine⟨_,(qss_one (qs_ret (qe_callB (call_sumF rfl) (by rfl) T.n_sum bt_sum (qa_cons (qe_comp ["place"] [("worths", 0)] rfl (qi_tupK (K:=K) rfl (qv 1)) (gext_name (by decide)) (fun cl C fp s2 H2=>⟨(qg_name (i:=0) (show (["place","worths"]:List Str).Nodup by decide +kernel) rfl (Or.inl rfl)),qf_nil,(qe_ix ix_seqA (qv 1) (qv 0) (fun _ _=>rfl))⟩) rfl (by decide +kernel) (by decide +kernel) (free_of (by rfl)) (fr_of (by rfl))) qa_nil)))),?_⟩
 refine⟨_,rfl,h,rfl,⟨_,SqT.of hh⟩,fun l hl'=>comp_tupR (K:=K) (a:=h) (xs:=hs.map V.int) (fun i acc H2=>acc=((hs.take i).map fun x=>ws.getD x.toNat 0).map V.int∧H2=upd H l (.lst acc)) ⟨rfl,rfl⟩ (fun i acc H2 _ ⟨_,e⟩=>by rw[e];exact SqT.of ((Same.new hl') _ _ hh)) ?_ ?_⟩
 ·rintro i y acc H2 hy ⟨rfl,rfl⟩
  obtain⟨hi,rfl⟩:=int_at hy
  simp only[gName_ap,tYes,if_true]
  obtain⟨x0,x1⟩:=hb hs[i] (List.getElem_mem hi)
  refine⟨_,rfl,_,rfl,w,ws.map V.int,_,_,rfl,rfl,seqAt_lst ((Same.new hl') _ _ hw),atI_ints x0 x1,upd_same,small1000 (by simp only[List.length_map,List.length_take];omega),?_,upd_upd⟩
  rw[take_map_succ _ hi,List.map_append]
  rfl
 ·rintro acc H2 ⟨rfl,rfl⟩
  have e:hs.take (hs.map V.int).length=hs:=by rw[List.length_map,List.take_length]
  rw[e]
  refine⟨l,hs.map fun x:Int=>ws.getD x.toNat 0,rfl,upd_same,?_⟩
  exact hQ _ (Same.new hl')
theorem ok__law_bag(D:DefAt K mg "_law_bag" s__law_bag f fd)(T:Txt K mg cx):DefOk P w K mg base CX0 1 "_law_bag" ["_law_script"] (sp__law_bag K cx):=by
 refine D.ok (D.q sc__law_bag (fun vs H Q E h=>?_) (fun cdv A outer s H vs Q E hr h=>?_)) (D.fn.binds fun _ _ _ _ _ _ us hl=>match us,hl with | [_],_=>rfl)
 ·obtain⟨_,_,rfl,_⟩:=h
  rfl
 obtain⟨a,ns,rfl,hS,hl,hQ⟩:=h
 have hc:cutV (List.map V.int ns) none (some (63:Int))=List.map V.int ns:=cutV_all (k:=63) (by rw[List.length_map];exact hl)
 refine⟨_,(qss_cons (qs_set (i:=1) sc__law_bag.nd rfl (Or.inl rfl) (qe_callB call_lenF (by rfl) T.n_len bt_len (qa_cons (qe_slice sl_list (qv 0) qo_none (qo_some qe_int)) qa_nil)))
   (qss_cons (qs_for PassesOwn.never rfl (qi_listK (K:=K) rfl (qe_slice sl_list (qv 0) qo_none (qo_some qe_int))) (qg_name (i:=2) sc__law_bag.nd rfl (Or.inl rfl)) (qss_one (qs_set (i:=1) sc__law_bag.nd rfl (Or.inl rfl) (qe_op op_mod (qe_op op_add (qe_op op_mulB (qv 1) qe_int) (qv 2)) qe_int))))
   (qss_one (qs_ret (qe_lst (qa_cons (qe_callTy call_listF (by rfl) T.n_list bt_list (qa_cons (qe_slice sl_list (qv 0) qo_none (qo_some qe_int)) qa_nil)) (qa_cons qe_int (qa_cons qe_int (qa_cons (qv 1) qa_nil))))))))),?_⟩
 refine⟨_,rfl,_,rfl,a,_,rfl,hS,fun p hp=>?_⟩
 rw[hc]
 refine⟨p,_,rfl,by unfold seqAt;rw[upd_same],?_⟩
 have s1:Same H (upd H p (.lst (List.map V.int ns))):=Same.new hp
 refine⟨_,rfl,_,rfl,a,_,rfl,s1.seq hS,fun p2 hp2=>?_⟩
 rw[hc]
 have s2:Same H (upd (upd H p (.lst (List.map V.int ns))) p2 (.lst (List.map V.int ns))):=s1.trans (Same.new hp2)
 refine⟨p2,rfl,⟨_,SqL.of upd_same⟩,for_list (K:=K) (a:=p2) (xs:=List.map V.int ns) (fun i σ H2=>∃(z:Int)(v:Option V),σ=[some (.ref a),some (.int z),v]∧Same H H2∧SqL K H2 p2 (List.map V.int ns)) ⟨_,_,rfl,s2,SqL.of upd_same⟩ (fun i σ H2 _ ⟨_,_,_,_,q⟩=>q) ?_ ?_⟩
 ·rintro i y σ H2 hy ⟨z,v,rfl,s3,hp3⟩
  obtain⟨k,rfl⟩:∃ k,y=V.int k:=by
   rw[List.getElem?_map] at hy
   cases e:ns[i]? with
   | none=>rw[e] at hy;cases hy
   | some k=>rw[e] at hy;exact⟨k,(Option.some.inj hy).symm⟩
  k_extra "rd"
  exact⟨Sz.okR (k:=10) (by decide) (by decide),_,rfl⟩
 ·rintro σ H2 ⟨z,v,rfl,s3,hp3⟩
  refine⟨_,rfl,_,rfl,a,_,rfl,s3.seq hS,fun p4 hp4=>?_⟩
  rw[hc]
  refine⟨p4,_,rfl,by unfold seqAt;rw[upd_same],fun L hL=>?_⟩
  k_extra "rd"
  intro B hB
  have s5:=(s3.trans (Same.new (o:=.lst (List.map V.int ns)) hp4)).trans (Same.new (o:=.lst (List.map V.int ns)) hL)
  have nBL:L≠B:=fun e=>by rw[← e,upd_same] at hB;cases hB
  refine hQ B L _ (s5.trans (Same.new hB)) (s5.free hB) ⟨ns,0,0,z,upd_same,?_,by omega⟩
  rw[upd_ne nBL,upd_same]
theorem ok__law_pull(D:DefAt K mg "_law_pull" s__law_pull f fd)(T:Txt K mg cx):DefOk P w K mg base CX0 1 "_law_pull" ["_law_bag_here","_law_many_here"] sp__law_pull:=by
 refine D.ok (D.q sc__law_pull (fun vs H Q E h=>?_) (fun cdv A outer s H vs Q E hr h=>?_)) (D.fn.binds fun _ _ _ _ _ _ us hl=>match us,hl with | [_,_],_=>rfl)
 ·obtain⟨_,_,_,rfl,_⟩:=h
  rfl
 obtain⟨B,m,L,rfl,⟨ns,i,r,salt,hB,hL,hi⟩,hm,hz,hQ⟩:=h
 have nLB:L≠B:=ne_of hL hB (by intro e;cases ns<;>cases e)
 refine⟨_,(qss_cons (qs_if (qt_cmpR op_le (qe_ix ix_seqA (qv 0) qe_int (fun _ _=>rfl)) qe_int (nomark _)) (qss_cons (qs_augS (qv 0) qe_int get_list qe_int ip_add set_list)
   (qss_cons (qs_set (i:=2) sc__law_pull.nd rfl (Or.inl rfl) (qe_ix ix_seqA (qv 0) qe_int (fun _ _=>rfl)))
   (qss_cons (qs_if (qt_cmpR op_le (qe_ix ix_seqA (qv 0) qe_int (fun _ _=>rfl)) (qe_callB call_lenF (by rfl) T.n_len bt_len (qa_cons (qe_ix ix_seqA (qv 0) qe_int (fun _ _=>rfl)) qa_nil)) (nomark _)) (qss_one (qs_set (i:=2) sc__law_pull.nd rfl (Or.inl rfl) (qe_ix ix_seqA (qe_ix ix_seqA (qv 0) qe_int (fun _ _=>rfl)) (qe_op op_sub (qe_ix ix_seqA (qv 0) qe_int (fun _ _=>rfl)) qe_int) (fun _ _=>rfl)))) qss_nil)
   (qss_cons (qs_if (qw_or (qt_cmpR op_gt (qe_ix ix_seqA (qv 0) qe_int (fun _ _=>rfl)) (qe_callB call_lenF (by rfl) T.n_len bt_len (qa_cons (qe_ix ix_seqA (qv 0) qe_int (fun _ _=>rfl)) qa_nil)) (nomark _)) (qw_or1 (qt_cmpR op_lt (qv 2) (qe_op op_pow qe_int qe_int) (nomark _)))).pt (qss_cons (qs_set (i:=3) sc__law_pull.nd rfl (Or.inl rfl) (qe_op op_mod (qe_op op_add (qe_op op_add (qe_op op_mulB (qv 2) qe_int) (qe_op op_mulB (qe_ix ix_seqA (qv 0) qe_int (fun _ _=>rfl)) qe_int)) qe_int) qe_int))
   (qss_cons (qs_set (i:=3) sc__law_pull.nd rfl (Or.inl rfl) (qe_op op_mod (qe_op op_mulB (qv 3) (qv 3)) qe_int))
   (qss_one (qs_ret (qe_op op_mod (qe_op op_fdivB (qe_op op_mod (qe_op op_mulB (qe_op op_add (qv 3) (qe_ix ix_seqA (qv 0) qe_int (fun _ _=>rfl))) qe_int) qe_int) qe_int) (qv 1)))))) qss_nil)
   (qss_one (qs_asg (qv 2) (qg_sub (qv 0) qe_int set_list))))))) qss_nil)
   (qss_cons (qs_set (i:=4) sc__law_pull.nd rfl (Or.inl rfl) (qe_op op_mod (qe_ix ix_seqA (qv 0) qe_int (fun _ _=>rfl)) (qv 1)))
   (qss_cons (qs_asg (qe_op op_fdivB (qe_ix ix_seqA (qv 0) qe_int (fun _ _=>rfl)) (qv 1)) (qg_sub (qv 0) qe_int set_list))
   (qss_one (qs_ret (qv 4)))))),?_⟩
 refine seq_cut (fun σ' H'=>∃ i' r' v2 v3,σ'=[some (.ref B),some (.int m),v2,v3,none]∧H' B=some (.lst [.ref L,.int i',.int r',.int salt])∧0≤i'∧Fr1 B H H') ?_ fun tb' key=>?_
 ·rintro σ H1 ⟨i',r',v2,v3,rfl,hB1,hi1,f1⟩
  clear hB
  k_extra "rx"
  refine i_setN hB1 rfl rfl fun H2 hB2 f2=>?_
  k_extra "rx"
  exact hQ _ _ (Int.emod_nonneg _ (Int.ne_of_gt hm)) (Int.emod_lt_of_pos _ hm) ⟨ns,i',_,salt,hB2,f2 _ _ nLB (f1 _ _ nLB hL),hi1⟩ (f1.trans f2)
 k_extra "rx"
 refine brkD (fun h1=>?_) (fun h1=>?_)
 ·k_extra "rx"
  refine i_setN hB rfl rfl fun H1 s1 f1=>?_
  have hL1:=f1 _ _ nLB hL
  have i1:0≤i+1:=Int.le_add_one hi
  clear hB
  k_extra "rx"
  refine brkD (fun h2=>?_) (fun h2=>?_)
  ·obtain⟨v,e,hv⟩:=atI_lt (xs:=List.map V.int ns) (i:=i+1 - 1) (by omega) (by omega)
   obtain⟨z,_,rfl⟩:=List.mem_map.mp hv
   k_extra "rx"
   refine i_brkN (by omega) ?_
   k_extra "rx"
   refine brkD (fun h4=>?_) (fun h4=>?_)
   ·k_extra "rx"
    exact hQ _ _ (Int.emod_nonneg _ (Int.ne_of_gt hm)) (Int.emod_lt_of_pos _ hm) ⟨ns,_,_,salt,s1,hL1,i1⟩ f1
   ·k_extra "rx"
    refine i_setN s1 rfl rfl fun H2 s2 f2=>?_
    exact key _ _ ⟨_,_,_,_,rfl,s2,i1,f1.trans f2⟩
  ·k_extra "rx"
   refine i_brkP (by omega) ?_
   k_extra "rx"
   exact hQ _ _ (Int.emod_nonneg _ (Int.ne_of_gt hm)) (Int.emod_lt_of_pos _ hm) ⟨ns,_,_,salt,s1,hL1,i1⟩ f1
 ·k_extra "rx"
  exact key _ _ ⟨_,_,_,_,rfl,hB,hi,Fr1.refl⟩
theorem ok__law_gcd(D:DefAt K mg "_law_gcd" s__law_gcd f fd)(T:Txt K mg cx):DefOk P w K mg base CX0 1 "_law_gcd" ["_law_one","_law_other"] sp__law_gcd:=by
 refine D.ok (D.q sc__law_gcd (fun vs H Q E h=>?_) (fun cdv A outer s H vs Q E hr h=>?_)) (D.fn.binds fun _ _ _ _ _ _ us hl=>match us,hl with | [_,_],_=>rfl)
 ·obtain⟨_,_,rfl,_⟩:=h
  rfl
 obtain⟨n,u,rfl,hQ⟩:=h
 refine⟨_,(qss_cons (qs_set (i:=0) sc__law_gcd.nd rfl (Or.inl rfl) (qe_callB call_abs (by rfl) T.n_abs bt_abs (qa_cons (qv 0) qa_nil)))
   (qss_cons (qs_set (i:=1) sc__law_gcd.nd rfl (Or.inl rfl) (qe_callB call_abs (by rfl) T.n_abs bt_abs (qa_cons (qv 1) qa_nil)))
   (qss_cons (qs_while PassesOwn.never (qt_cmpR op_ne (qv 1) qe_int (nomark _)) (qss_one (qs_par (i:=0) (j:=1) rfl sc__law_gcd.nd rfl rfl (by decide) rfl rfl (qa_cons (qv 1) (qa_cons (qe_op op_mod (qv 0) (qv 1)) qa_nil)) rfl)))
   (qss_one (qs_ret (qv 0)))))),?_⟩
 k_extra "rd"
 have en:(if n < 0 then -n else n)=(n.natAbs:Int):=by split<;>omega
 have eu:(if u < 0 then -u else u)=(u.natAbs:Int):=by split<;>omega
 rw[en,eu]
 refine⟨fun m σ H'=>H'=H∧∃(g l:Int),σ=[some (.int g),some (.int l)]∧m=l.toNat∧0≤l∧0≤g∧Int.gcd g l=Int.gcd n u,⟨_,rfl,_,_,rfl,rfl,by omega,by omega,by rw[Int.gcd_eq_natAbs_gcd_natAbs n u];rfl⟩,?_⟩
 rintro m σ H' ⟨rfl,g,l,rfl,rfl,h0,hg0,hg⟩
 k_extra "rd"
 refine ite2 (fun hl=>?_) (fun hl=>?_)
 ·have hl':0 < l:=by omega
  refine⟨fun σ' H''=>H''=H'∧∃(g' l':Int),σ'=[some (.int g'),some (.int l')]∧l'.toNat < l.toNat∧0≤l'∧0≤g'∧Int.gcd g' l'=Int.gcd n u,fun σ' H'' ⟨e,g',l',e2,a1,a2,a3,a4⟩=>⟨l'.toNat,a1,e,g',l',e2,rfl,a2,a3,a4⟩,?_⟩
  k_extra "rd"
  have:=Int.emod_lt_of_pos g hl'
  have:=Int.emod_nonneg g (by omega:l≠0)
  exact⟨by omega,by omega,by rw[gcd_step hl'];exact hg⟩
 ·have e:l=0:=by omega
  subst e
  have e2:((Int.gcd n u:Nat):Int)=g:=by
   rw[← hg,Int.gcd_zero_right]
   omega
  rw[e2] at hQ
  exact hQ
theorem ok__law_low(D:DefAt K mg "_law_low" s__law_low f fd)(T:Txt K mg cx)(d__law_gcd:DefOk P w K mg base CX0 1 "_law_gcd" ["_law_one","_law_other"] sp__law_gcd):DefOk P w K mg base CX0 2 "_law_low" ["_law_number","_law_under"] sp__law_low:=by
 refine D.ok (D.q sc__law_low (fun vs H Q E h=>?_) (fun cdv A outer s H vs Q E hr h=>?_)) (D.fn.binds fun _ _ _ _ _ _ us hl=>match us,hl with | [_,_],_=>rfl)
 ·obtain⟨_,_,rfl,_⟩:=h
  rfl
 obtain⟨n,u,rfl,hu,hz,hQ⟩:=h
 refine⟨_,(qss_cons (qs_set (i:=2) sc__law_low.nd rfl (Or.inl rfl) (qe_d d__law_gcd hr.le pass0 (by rfl) (qa_cons (qv 0) (qa_cons (qv 1) qa_nil))))
   (qss_one (qs_ret (qe_tup (qa_cons (qe_op op_fdivB (qv 0) (qv 2)) (qa_cons (qe_op op_fdivB (qv 1) (qv 2)) qa_nil)))))),?_⟩
 have hg:=gcd_pos (n:=n) hu
 have hgz:=gcdZ n hu hz
 k_extra "rd"
 exact fun p hp=>hQ p hp
theorem ok__law_plus(D:DefAt K mg "_law_plus" s__law_plus f fd)(T:Txt K mg cx)(d__law_low:DefOk P w K mg base CX0 2 "_law_low" ["_law_number","_law_under"] sp__law_low):DefOk P w K mg base CX0 3 "_law_plus" ["_law_one","_law_other"] sp__law_plus:=by
 refine D.ok (D.q sc__law_plus (fun vs H Q E h=>?_) (fun cdv A outer s H vs Q E hr h=>?_)) (D.fn.binds fun _ _ _ _ _ _ us hl=>match us,hl with | [_,_],_=>rfl)
 ·obtain⟨_,_,_,_,_,_,rfl,_⟩:=h
  rfl
 obtain⟨p,q,n1,u1,n2,u2,rfl,hp,hq,h1,h2,z1,z2,z3,z4,hQ⟩:=h
 refine⟨_,(qss_one (qs_ret (qe_d d__law_low hr.le pass0 (by rfl) (qa_cons (qe_op op_add (qe_op op_mulB (qe_ix ix_seqA (qv 0) qe_int (fun _ _=>rfl)) (qe_ix ix_seqA (qv 1) qe_int (fun _ _=>rfl))) (qe_op op_mulB (qe_ix ix_seqA (qv 1) qe_int (fun _ _=>rfl)) (qe_ix ix_seqA (qv 0) qe_int (fun _ _=>rfl)))) (qa_cons (qe_op op_mulB (qe_ix ix_seqA (qv 0) qe_int (fun _ _=>rfl)) (qe_ix ix_seqA (qv 1) qe_int (fun _ _=>rfl))) qa_nil))))),?_⟩
 k_extra "rx"
 exact⟨_,_,rfl,mul_pos' h1 h2,(z2.mul z4).mono (by decide),fun r hr=>hQ r hr⟩
theorem ok__law_times(D:DefAt K mg "_law_times" s__law_times f fd)(T:Txt K mg cx)(d__law_low:DefOk P w K mg base CX0 2 "_law_low" ["_law_number","_law_under"] sp__law_low):DefOk P w K mg base CX0 3 "_law_times" ["_law_one","_law_other"] sp__law_times:=by
 refine D.ok (D.q sc__law_times (fun vs H Q E h=>?_) (fun cdv A outer s H vs Q E hr h=>?_)) (D.fn.binds fun _ _ _ _ _ _ us hl=>match us,hl with | [_,_],_=>rfl)
 ·obtain⟨_,_,_,_,_,_,rfl,_⟩:=h
  rfl
 obtain⟨p,q,n1,u1,n2,u2,rfl,hp,hq,h1,h2,z1,z2,z3,z4,hQ⟩:=h
 refine⟨_,(qss_one (qs_ret (qe_d d__law_low hr.le pass0 (by rfl) (qa_cons (qe_op op_mulB (qe_ix ix_seqA (qv 0) qe_int (fun _ _=>rfl)) (qe_ix ix_seqA (qv 1) qe_int (fun _ _=>rfl))) (qa_cons (qe_op op_mulB (qe_ix ix_seqA (qv 0) qe_int (fun _ _=>rfl)) (qe_ix ix_seqA (qv 1) qe_int (fun _ _=>rfl))) qa_nil))))),?_⟩
 k_extra "rx"
 exact⟨_,_,rfl,mul_pos' h1 h2,(z2.mul z4).mono (by decide),fun r hr=>hQ r hr⟩
theorem ok__law_below(D:DefAt K mg "_law_below" s__law_below f fd)(T:Txt K mg cx):DefOk P w K mg base CX0 1 "_law_below" ["_law_one","_law_other"] sp__law_below:=by
 refine D.ok (D.q sc__law_below (fun vs H Q E h=>?_) (fun cdv A outer s H vs Q E hr h=>?_)) (D.fn.binds fun _ _ _ _ _ _ us hl=>match us,hl with | [_,_],_=>rfl)
 ·obtain⟨_,_,_,_,_,_,rfl,_⟩:=h
  rfl
 obtain⟨p,q,n1,u1,n2,u2,rfl,hp,hq,z1,z2,z3,z4,hQ⟩:=h
 refine⟨_,(qss_one (qs_ret (qe_cmpR op_lt (qe_op op_mulB (qe_ix ix_seqA (qv 0) qe_int (fun _ _=>rfl)) (qe_ix ix_seqA (qv 1) qe_int (fun _ _=>rfl))) (qe_op op_mulB (qe_ix ix_seqA (qv 1) qe_int (fun _ _=>rfl)) (qe_ix ix_seqA (qv 0) qe_int (fun _ _=>rfl))) (nomark _)))),?_⟩
 k_extra "rx"
 exact hQ
theorem ok__law_sum(D:DefAt K mg "_law_sum" s__law_sum f fd)(T:Txt K mg cx)(d__law_plus:DefOk P w K mg base CX0 3 "_law_plus" ["_law_one","_law_other"] sp__law_plus):DefOk P w K mg base CX0 4 "_law_sum" ["_law_row_here"] sp__law_sum:=by
 refine D.ok (D.q sc__law_sum (fun vs H Q E h=>?_) (fun cdv A outer s H vs Q E hr h=>?_)) (D.fn.binds fun _ _ _ _ _ _ us hl=>match us,hl with | [_],_=>rfl)
 ·obtain⟨_,_,_,_,_,rfl,_⟩:=h
  rfl
 obtain⟨L,xs,ps,U,k,rfl,hL,hU,hR,hk,hlen,hQ⟩:=h
 refine⟨_,(qss_cons (qs_set (i:=1) sc__law_sum.nd rfl (Or.inl rfl) (qe_tup (qa_cons qe_int (qa_cons qe_int qa_nil))))
   (qss_cons (qs_for PassesOwn.never rfl (qi_listK (K:=K) rfl (qv 0)) (qg_name (i:=2) sc__law_sum.nd rfl (Or.inl rfl)) (qss_one (qs_set (i:=1) sc__law_sum.nd rfl (Or.inl rfl) (qe_d d__law_plus hr.le pass0 (by rfl) (qa_cons (qv 1) (qa_cons (qv 2) qa_nil))))))
   (qss_one (qs_ret (qv 1))))),?_⟩
 have go:∀ i,i≤16→0 < (sumP (ps.take i)).2∧Sz 20000 (sumP (ps.take i)).1∧Sz 4400 (sumP (ps.take i)).2:=fun i hi=>by
  have a:=sum_pt hU.pos (k:=k) (l:=ps.take i) fun p hp=>hR.mem p (List.mem_of_mem_take hp)
  have hl:(ps.take i).length≤16:=by rw[List.length_take];omega
  exact⟨a.pos,(a.nsz hU.pos).mono (by omega),(a.toOk.usz hU).mono (by decide)⟩
 refine⟨by decide,fun r0 hr0=>?_⟩
 have s0:=Same.new (o:=.tup [.int 0,.int 1]) hr0
 refine⟨_,rfl,L,rfl,⟨_,SqL.of (s0 _ _ hL)⟩,for_list (K:=K) (a:=L) (xs:=xs) (fun i σ H2=>∃ r v,σ=[some (.ref L),some (.ref r),v]∧Same H H2∧H2 r=some (.tup [.int (sumP (ps.take i)).1,.int (sumP (ps.take i)).2]))
  ⟨r0,none,rfl,s0,upd_same⟩ (fun i σ H2 _ ⟨_,_,_,s2,_⟩=>SqL.of (s2 _ _ hL)) ?_ ?_⟩
 ·rintro i y σ H2 hy ⟨r,v,rfl,s2,hr⟩
  have hi:i < xs.length:=(List.getElem?_eq_some_iff.mp hy).1
  have hi2:i < ps.length:=by rw[← hR.1];exact hi
  obtain⟨q,eq,hq,po⟩:=hR.2 i ps[i] (List.getElem?_eq_getElem hi2)
  rw[eq] at hy
  cases hy
  have hq2:=s2 _ _ hq
  have e:sumP (ps.take (i+1))=addP (sumP (ps.take i)) ps[i]:=sumP_succ hi2
  obtain⟨h0,z1,z2⟩:=go i (by omega)
  have hu:=po.pos
  have zu:=(po.toOk.usz hU).mono (by decide:4000≤4400)
  have zn:=(po.nsz hU.pos).mono (by omega:k≤20000)
  rw[e]
  clear e go po hR
  generalize sumP (ps.take i)=S at hr h0 z1 z2 ⊢
  generalize ps[i]=P at hq hu zn zu hq2 ⊢
  k_extra "rd"
  refine⟨r,q,_,_,_,_,rfl,hr,hq2,h0,hu,z1,z2,zn,zu,fun w hw=>?_⟩
  k_extra "rd"
  exact⟨s2.trans (Same.new hw),rfl,rfl⟩
 ·rintro σ H2 ⟨r,v,rfl,s2,hr⟩
  have e:ps.take xs.length=ps:=by rw[hR.1,List.take_length]
  rw[e] at hr
  exact⟨_,rfl,hQ r H2 s2 hr⟩
theorem ok__law_many(D:DefAt K mg "_law_many" s__law_many f fd)(T:Txt K mg cx)(d__law_pull:DefOk P w K mg base CX0 1 "_law_pull" ["_law_bag_here","_law_many_here"] sp__law_pull):DefOk P w K mg base CX0 2 "_law_many" ["_law_bag_here"] sp__law_many:=by
 refine D.ok (D.q sc__law_many (fun vs H Q E h=>?_) (fun cdv A outer s H vs Q E hr h=>?_)) (D.fn.binds fun _ _ _ _ _ _ us hl=>match us,hl with | [_],_=>rfl)
 ·obtain⟨_,_,rfl,_⟩:=h
  rfl
 obtain⟨B,L,rfl,hB,hQ⟩:=h
 refine⟨_,(qss_one (qs_ret (qe_ix ix_seqA (qe_lst (qa_cons qe_int (qa_cons qe_int (qa_cons qe_int (qa_cons qe_int (qa_cons qe_int (qa_cons qe_int (qa_cons qe_int qa_nil)))))))) (qe_d d__law_pull hr.le pass0 (by rfl) (qa_cons (qv 0) (qa_cons qe_int qa_nil))) (fun _ _=>rfl)))),?_⟩
 k_extra "rd"
 intro p hp
 have npB:p≠B:=hB.ne hp
 refine⟨B,7,L,rfl,hB.new hp,by decide,by decide,fun d H2 d0 d1 b2 f2=>?_⟩
 have hp2:=f2 p _ npB upd_same
 obtain⟨x,ex,hx1,hx2⟩:=pick (P:=fun x=>0≤x∧x≤6) [3,2,4,1,5,6,0] d0 d1 (by decide)
 have ex':atI [V.int 3,V.int 2,V.int 4,V.int 1,V.int 5,V.int 6,V.int 0] d=some (.int x):=ex
 k_extra "rd"
 exact hQ x H2 hx1 hx2 b2 ((Fr1.new hp).trans f2)
theorem ok__law_heap(D:DefAt K mg "_law_heap" s__law_heap f fd)(T:Txt K mg cx)(d__law_pull:DefOk P w K mg base CX0 1 "_law_pull" ["_law_bag_here","_law_many_here"] sp__law_pull):DefOk P w K mg base CX0 2 "_law_heap" ["_law_bag_here","_law_many_here"] sp__law_heap:=by
 refine D.ok (D.q sc__law_heap (fun vs H Q E h=>?_) (fun cdv A outer s H vs Q E hr h=>?_)) (D.fn.binds fun _ _ _ _ _ _ us hl=>match us,hl with | [_,_],_=>rfl)
 ·obtain⟨_,_,_,rfl,_⟩:=h
  rfl
 obtain⟨B,m,L,rfl,hB,m0,m6,hQ⟩:=h
 refine⟨_,(qss_cons (qs_if (qw_and (qt_cmpR op_gt (qv 1) qe_int (nomark _)) (qw_and1 (qt_cmpR op_eq (qe_d d__law_pull hr.le pass0 (by rfl) (qa_cons (qv 0) (qa_cons qe_int qa_nil))) qe_int (nomark _)))).pt (qss_one (qs_ret (qe_tup (qa_cons (qe_d d__law_pull hr.le pass0 (by rfl) (qa_cons (qv 0) (qa_cons (qv 1) qa_nil))) qa_nil)))) qss_nil)
   (qss_cons (qs_set (i:=2) sc__law_heap.nd rfl (Or.inr rfl) (qe_d d__law_pull hr.le pass0 (by rfl) (qa_cons (qv 0) (qa_cons (qe_ix ix_seqA (qe_lst (qa_cons qe_int (qa_cons qe_int (qa_cons qe_int (qa_cons qe_int (qa_cons qe_int (qa_cons qe_int (qa_cons qe_int qa_nil)))))))) (qv 1) (fun _ _=>rfl)) qa_nil))))
   (qss_one (qs_ret (qe_callTy call_tupF (by rfl) T.n_tuple bt_tuple (qa_cons (qe_comp ["_law_place"] [("_law_mask", 2)] rfl (qi_range1 (by rfl) T.n_range (qa_cons (qv 1) qa_nil)) (gext_name (by decide)) (fun cl C fp s2 H2=>⟨(qg_name (i:=0) (show (["_law_place","_law_mask"]:List Str).Nodup by decide +kernel) rfl (Or.inl rfl)),(qf_one (qt_cmpR op_eq (qe_op op_mod (qe_op op_fdivB (qv 1) (qe_ix ix_seqA (qe_lst (qa_cons qe_int (qa_cons qe_int (qa_cons qe_int (qa_cons qe_int (qa_cons qe_int (qa_cons qe_int qa_nil))))))) (qv 0) (fun _ _=>rfl))) qe_int) qe_int (nomark _))),(qv 0)⟩) rfl (by decide +kernel) (by decide +kernel) (free_of (by rfl)) (fr_of (by rfl))) qa_nil)))))),?_⟩
 refine seq_cut (fun σ' H'=>∃ v2,σ'=[some (.ref B),some (.int m),v2]∧BagAt H' B L∧Fr1 B H H') ?_ fun tb' key=>?_
 ·rintro σ H1 ⟨v2,rfl,hB,fH⟩
  k_extra "rd"
  intro p hp
  have npB:p≠B:=hB.ne hp
  have b9:=hB.new (o:=.lst [.int 1,.int 2,.int 4,.int 8,.int 16,.int 32,.int 64]) hp
  have h9:upd H1 p (.lst [.int 1,.int 2,.int 4,.int 8,.int 16,.int 32,.int 64]) p=_:=upd_same
  have f9:=fH.trans (Fr1.new (B:=B) (o:=.lst [.int 1,.int 2,.int 4,.int 8,.int 16,.int 32,.int 64]) hp)
  generalize upd H1 p (.lst [.int 1,.int 2,.int 4,.int 8,.int 16,.int 32,.int 64])=H9 at b9 h9 f9 ⊢
  obtain⟨x,ex,hx1,hx2⟩:=pick (P:=fun x=>0 < x∧x≤64) [1,2,4,8,16,32,64] m0 (by show m < 7;omega) (by decide)
  have ex':atI [V.int 1,V.int 2,V.int 4,V.int 8,V.int 16,V.int 32,V.int 64] m=some (.int x):=ex
  k_extra "rd"
  refine⟨B,x,L,rfl,b9,hx1,Sz.mono (j:=7) (Sz.of (by omega)) (by decide),fun k H2 e0 e1 b2 f2=>?_⟩
  have f12:=f9.trans f2
  clear ex ex' h9 npB b9 f2 f9
  refine⟨_,rfl,m,rfl,by omega,by omega,fun l hl=>?_⟩
  refine comp_rangeR (k:=m.toNat) (fun i acc H3=>∃ hs:List Int,acc=hs.map V.int∧hs.length≤i∧(∀ x∈hs,0≤x∧x < m)∧Fr1 l H2 H3∧H3 l=some (.lst acc)) ⟨[],rfl,Nat.le_refl _,(fun x hx=>by cases hx),Fr1.upd,upd_same⟩ ?_ ?_
  ·rintro i acc H3 hi ⟨hs,rfl,hlen,hb,f3,hl3⟩
   simp only[gName_ap]
   k_extra "rd"
   intro p4 hp4
   have n4:p4≠l:=fun z=>by rw[z,hl3] at hp4;cases hp4
   have h4:upd H3 p4 (.lst [.int 1,.int 2,.int 4,.int 8,.int 16,.int 32]) p4=_:=upd_same
   have l4:=(Same.new (o:=.lst [.int 1,.int 2,.int 4,.int 8,.int 16,.int 32]) hp4) _ _ hl3
   have f4:=f3.trans (Fr1.new (B:=l) (o:=.lst [.int 1,.int 2,.int 4,.int 8,.int 16,.int 32]) hp4)
   generalize upd H3 p4 (.lst [.int 1,.int 2,.int 4,.int 8,.int 16,.int 32])=H4 at h4 l4 f4 ⊢
   obtain⟨y,ey,hy1,hy2⟩:=pick (P:=fun x=>0 < x∧x≤64) [1,2,4,8,16,32] (d:=0+(i:Int)) (by omega) (by show 0+(i:Int) < 6;omega) (by decide)
   have ey':atI [V.int 1,V.int 2,V.int 4,V.int 8,V.int 16,V.int 32] (0+(i:Int))=some (.int y):=ey
   have zy:Sz 9000 y:=Sz.mono (j:=7) (Sz.of (by omega)) (by decide)
   clear ey
   k_extra "rd"
   refine ite2 (fun hc=>?_) (fun hc=>?_)
   ·refine⟨small1000 (by omega),hs++[0+(i:Int)],by rw[List.map_append];rfl,by rw[List.length_append];exact Nat.succ_le_succ hlen,fun z hz=>?_,f4.trans Fr1.upd⟩
    rcases List.mem_append.mp hz with hz | hz
    ·exact hb z hz
    ·rw[List.mem_singleton.mp hz];omega
   ·exact⟨hs,rfl,Nat.le_succ_of_le hlen,hb⟩
  ·rintro acc H3 ⟨hs,rfl,hlen,hb,f3,hl3⟩
   have nlB:=b2.ne hl
   have nlL:=b2.neL hl
   have same:Same H2 H3:=fun b o hb'=>f3 b o (fun z=>by rw[z,hl] at hb';cases hb') hb'
   refine⟨l,rfl,_,hl3,fun t ht=>?_⟩
   have s4:=same.trans (Same.new (o:=.tup (hs.map V.int)) ht)
   have nt:H t=none:=by
    cases e:H t with
    | none=>rfl
    | some o =>
     have ntB:t≠B:=(b2.keep same).ne ht
     have:=same _ _ (f12 t o ntB e)
     rw[this] at ht
     cases ht
   exact hQ t hs _ nt (b2.keep s4) (f12.trans (Fr1.of s4)) upd_same (by omega) hb
 have fH:Fr1 B H H:=Fr1.refl
 k_extra "rd"
 refine brkD (fun h1=>?_) (fun h1=>?_)
 ·k_extra "rd"
  refine⟨B,3,L,rfl,hB,by decide,by decide,fun d H1 d0 d1 b1 f1=>?_⟩
  k_extra "rd"
  refine brkD (fun h2=>?_) (fun h2=>?_)
  ·k_extra "rd"
   refine⟨B,m,L,rfl,b1,h1,Sz.mono (j:=3) (Sz.of (by omega)) (by decide),fun d2 H2 e0 e1 b2 f2=>?_⟩
   k_extra "rd"
   intro t ht
   have f12:=f1.trans f2
   have nt:H t=none:=by
    cases e:H t with
    | none=>rfl
    | some o =>
     rw[f12 t o (b2.ne ht) e] at ht
     cases ht
   exact hQ t [d2] _ nt (b2.new ht) (f12.trans (Fr1.new ht)) upd_same (by show 1≤6;decide) fun x hx=>by rw[List.mem_singleton.mp hx];exact⟨e0,e1⟩
  ·k_extra "rd"
   exact key _ _ ⟨_,rfl,b1,f1⟩
 ·k_extra "rd"
  exact key _ _ ⟨_,rfl,hB,fH⟩
theorem ok__law_due(D:DefAt K mg "_law_due" s__law_due f fd)(T:Txt K mg cx)(d__law_low:DefOk P w K mg base CX0 2 "_law_low" ["_law_number","_law_under"] sp__law_low)(d__law_pull:DefOk P w K mg base CX0 1 "_law_pull" ["_law_bag_here","_law_many_here"] sp__law_pull):DefOk P w K mg base CX0 3 "_law_due" ["_law_bag_here","_law_scale"] sp__law_due:=by
 refine D.ok (D.q sc__law_due (fun vs H Q E h=>?_) (fun cdv A outer s H vs Q E hr h=>?_)) (D.fn.binds fun _ _ _ _ _ _ us hl=>match us,hl with | [_,_],_=>rfl)
 ·obtain⟨_,_,_,rfl,_⟩:=h
  rfl
 obtain⟨B,s',L,rfl,hB,s0,s9,hQ⟩:=h
 refine⟨_,(qss_one (qs_ret (qe_d d__law_low hr.le pass0 (by rfl) (qa_cons (qe_d d__law_pull hr.le pass0 (by rfl) (qa_cons (qv 0) (qa_cons (qe_op op_add (qv 1) qe_int) qa_nil))) (qa_cons (qe_op op_add qe_int (qe_d d__law_pull hr.le pass0 (by rfl) (qa_cons (qv 0) (qa_cons (qe_ix ix_seqA (qe_lst (qa_cons qe_int (qa_cons qe_int (qa_cons qe_int (qa_cons qe_int qa_nil))))) (qe_d d__law_pull hr.le pass0 (by rfl) (qa_cons (qv 0) (qa_cons qe_int qa_nil))) (fun _ _=>rfl)) qa_nil)))) qa_nil))))),?_⟩
 k_extra "rd"
 refine⟨B,s'+1,L,rfl,hB,by omega,Sz.mono (j:=31) (Sz.of (by omega)) (by decide),fun d H1 d0 d1 b1 f1=>?_⟩
 k_extra "rd"
 intro p hp
 have npB:p≠B:=b1.ne hp
 refine⟨B,4,L,rfl,b1.new hp,by decide,by decide,fun e H2 e0 e1 b2 f2=>?_⟩
 have hp2:=f2 p _ npB upd_same
 obtain⟨x,ex,hx1,hx2⟩:=pick (P:=fun x=>0 < x∧x≤60) [1,1,3,60] e0 e1 (by decide)
 have ex':atI [V.int 1,V.int 1,V.int 3,V.int 60] e=some (.int x):=ex
 clear ex
 k_extra "rd"
 refine⟨B,x,L,rfl,b2,hx1,Sz.mono (j:=6) (Sz.of (by omega)) (by decide),fun k H3 k0 k1 b3 f3=>?_⟩
 have hu:0 < 1+k:=by omega
 have zu:Sz 7 (1+k):=Sz.of (by omega)
 have zd:Sz 31 d:=Sz.of (by omega)
 clear ex' hp2
 k_extra "rd"
 refine⟨d,1+k,rfl,hu,zu.mono (by decide),fun q hq=>?_⟩
 obtain⟨r1,r2,r3,r4⟩:=low_red d hu
 have fr:Fr1 B H H3:=f1.trans ((Fr1.new hp).trans (f2.trans f3))
 refine hQ q _ _ _ ?_ (b3.new hq) (fr.trans (Fr1.new hq)) upd_same (du_of d0 (by omega) hu (by omega))
 cases e:H q with
 | none=>rfl
 | some o=>rw[fr q o (b3.ne hq) e] at hq;cases hq
theorem ok__law_ceil(D:DefAt K mg "_law_ceil" s__law_ceil f fd)(T:Txt K mg cx):DefOk P w K mg base CX0 1 "_law_ceil" ["_law_one"] sp__law_ceil:=by
 refine D.ok (D.q sc__law_ceil (fun vs H Q E h=>?_) (fun cdv A outer s H vs Q E hr h=>?_)) (D.fn.binds fun _ _ _ _ _ _ us hl=>match us,hl with | [_],_=>rfl)
 ·obtain⟨_,_,_,rfl,_⟩:=h
  rfl
 obtain⟨p,n,u,rfl,hp,h1,z1,hQ⟩:=h
 refine⟨_,(qss_one (qs_ret (qe_un un_neg (qe_op op_fdivB (qe_un un_neg (qe_ix ix_seqA (qv 0) qe_int (fun _ _=>rfl))) (qe_ix ix_seqA (qv 0) qe_int (fun _ _=>rfl)))))),?_⟩
 k_extra "rd"
theorem ok__law_less(D:DefAt K mg "_law_less" s__law_less f fd)(T:Txt K mg cx)(d__law_low:DefOk P w K mg base CX0 2 "_law_low" ["_law_number","_law_under"] sp__law_low):DefOk P w K mg base CX0 3 "_law_less" ["_law_one","_law_other"] sp__law_less:=by
 refine D.ok (D.q sc__law_less (fun vs H Q E h=>?_) (fun cdv A outer s H vs Q E hr h=>?_)) (D.fn.binds fun _ _ _ _ _ _ us hl=>match us,hl with | [_,_],_=>rfl)
 ·obtain⟨_,_,_,_,_,_,rfl,_⟩:=h
  rfl
 obtain⟨p,q,n1,u1,n2,u2,rfl,hp,hq,h1,h2,z1,z2,z3,z4,hQ⟩:=h
 refine⟨_,(qss_one (qs_ret (qe_d d__law_low hr.le pass0 (by rfl) (qa_cons (qe_op op_sub (qe_op op_mulB (qe_ix ix_seqA (qv 0) qe_int (fun _ _=>rfl)) (qe_ix ix_seqA (qv 1) qe_int (fun _ _=>rfl))) (qe_op op_mulB (qe_ix ix_seqA (qv 1) qe_int (fun _ _=>rfl)) (qe_ix ix_seqA (qv 0) qe_int (fun _ _=>rfl)))) (qa_cons (qe_op op_mulB (qe_ix ix_seqA (qv 0) qe_int (fun _ _=>rfl)) (qe_ix ix_seqA (qv 1) qe_int (fun _ _=>rfl))) qa_nil))))),?_⟩
 k_extra "rx"
 exact⟨_,_,rfl,mul_pos' h1 h2,(z2.mul z4).mono (by decide),fun r hr=>hQ r hr⟩
theorem ok__law_over(D:DefAt K mg "_law_over" s__law_over f fd)(T:Txt K mg cx)(d__law_low:DefOk P w K mg base CX0 2 "_law_low" ["_law_number","_law_under"] sp__law_low):DefOk P w K mg base CX0 3 "_law_over" ["_law_one","_law_other"] sp__law_over:=by
 refine D.ok (D.q sc__law_over (fun vs H Q E h=>?_) (fun cdv A outer s H vs Q E hr h=>?_)) (D.fn.binds fun _ _ _ _ _ _ us hl=>match us,hl with | [_,_],_=>rfl)
 ·obtain⟨_,_,_,_,_,_,rfl,_⟩:=h
  rfl
 obtain⟨p,q,n1,u1,n2,u2,rfl,hp,hq,h1,h2,z1,z2,z3,z4,hQ⟩:=h
 refine⟨_,(qss_one (qs_ret (qe_d d__law_low hr.le pass0 (by rfl) (qa_cons (qe_op op_mulB (qe_ix ix_seqA (qv 0) qe_int (fun _ _=>rfl)) (qe_ix ix_seqA (qv 1) qe_int (fun _ _=>rfl))) (qa_cons (qe_op op_mulB (qe_ix ix_seqA (qv 0) qe_int (fun _ _=>rfl)) (qe_ix ix_seqA (qv 1) qe_int (fun _ _=>rfl))) qa_nil))))),?_⟩
 k_extra "rx"
 exact⟨_,_,rfl,mul_pos' h1 h2,(z2.mul z3).mono (by decide),fun r hr=>hQ r hr⟩
theorem ok__law_heaps(D:DefAt K mg "_law_heaps" s__law_heaps f fd)(T:Txt K mg cx):DefOk P w K mg base CX0 1 "_law_heaps" ["_law_many_here"] sp__law_heaps:=by
 refine D.ok (D.q sc__law_heaps (fun vs H Q E h=>?_) (fun cdv A outer s H vs Q E hr h=>?_)) (D.fn.binds fun _ _ _ _ _ _ us hl=>match us,hl with | [_],_=>rfl)
 ·obtain⟨_,rfl,_⟩:=h
  rfl
 obtain⟨m,rfl,m6,hQ⟩:=h
 refine⟨_,(qss_cons (qs_set (i:=1) sc__law_heaps.nd rfl (Or.inl rfl) (qe_lst (qa_cons (qe_tup qa_nil) qa_nil)))
   (qss_cons (qs_for PassesOwn.never rfl (qi_range1 (by rfl) T.n_range (qa_cons (qv 0) qa_nil)) (qg_name (i:=2) sc__law_heaps.nd rfl (Or.inr rfl)) (qss_one (qs_set (i:=1) sc__law_heaps.nd rfl (Or.inl rfl) (qe_op op_cat (qv 1) (qe_comp ["_law_heap_here"] [("_law_place", 2)] rfl (qi_listK (K:=K) rfl (qv 1)) (gext_name (by decide)) (fun cl C fp s2 H2=>⟨(qg_name (i:=0) (show (["_law_heap_here","_law_place"]:List Str).Nodup by decide +kernel) rfl (Or.inl rfl)),qf_nil,(qe_op op_catA (qv 0) (qe_tup (qa_cons (qv 1) qa_nil)))⟩) rfl (by decide +kernel) (by decide +kernel) (free_of (by rfl)) (fr_of (by rfl)))))))
   (qss_one (qs_ret (qv 1))))),?_⟩
 refine⟨by show 0≤sizeLine;decide,fun t0 ht0=>⟨by show 1≤sizeLine;decide,fun F0 hF0=>?_⟩⟩
 have s0:=(Same.new (o:=.tup []) ht0).trans (Same.new (o:=.lst [.ref t0]) hF0)
 have k0:=(Same.new (o:=.lst [.ref t0]) hF0) t0 _ upd_same
 have n0:H F0=none:=(Same.new (o:=.tup []) ht0).free hF0
 have j0:upd (upd H t0 (.tup [])) F0 (.lst [.ref t0]) F0=_:=upd_same
 generalize upd (upd H t0 (.tup [])) F0 (.lst [.ref t0])=H0 at s0 k0 j0 ⊢
 refine⟨_,rfl,(m:Int),rfl,by omega,by omega,for_range (lo:=0) (n:=((m:Nat):Int).toNat) (fun i σ H2=>∃ F xs v,σ=[some (.int (m:Int)),some (.ref F),v]∧Same H H2∧H F=none∧H2 F=some (.lst xs)∧SubsAt H2 xs (2 ^ i)) ⟨F0,[.ref t0],none,rfl,s0,n0,j0,?_⟩ ?_ ?_⟩
 ·refine⟨rfl,fun i hi=>?_⟩
  have:i=0:=by have:i < 1:=hi;omega
  subst this
  exact⟨t0,rfl,k0⟩
 ·rintro i σ H2 hi ⟨F,xs,v,rfl,s2,nF,hF,hS⟩
  have hi6:i < 6:=by omega
  have hl:=hS.1
  have l64:2 ^ i≤32:=by
   have:i=0∨i=1∨i=2∨i=3∨i=4∨i=5:=by omega
   rcases this with rfl | rfl | rfl | rfl | rfl | rfl<;>decide
  simp only[gName_ap]
  refine⟨_,rfl,_,rfl,F,rfl,⟨_,SqL.of hF⟩,fun l hl'=>?_⟩
  refine comp_listR (K:=K) (a:=F) (xs:=xs) (fun j acc H3=>Same H2 H3∧H3 l=some (.lst acc)∧acc.length=j∧∀ q,q < j→∃ t,acc[q]?=some (.ref t)∧H3 t=some (.tup ((Srt.sub (2 ^ i+q)).map V.int))) ⟨Same.new hl',upd_same,rfl,fun q hq=>by omega⟩ (fun j acc H3 _ ⟨s3,_⟩=>SqL.of (s3 _ _ hF)) ?_ ?_
  ·rintro j y acc H3 hy ⟨s3,hl3,hj,hA⟩
   have hjl:=(List.getElem?_eq_some_iff.mp hy).1
   have hj2:j < 2 ^ i:=by omega
   obtain⟨t,et,ht⟩:=hS.2 j hj2
   rw[et] at hy
   cases hy
   simp only[gName_ap,tYes,if_true]
   refine⟨_,rfl,_,rfl,by show 1≤sizeLine;decide,fun q hq=>?_⟩
   have s4:=Same.new (o:=.tup [.int (0+(i:Int))]) hq
   refine⟨t,q,(Srt.sub j).map V.int,[.int (0+(i:Int))],rfl,rfl,s4 _ _ (s3 _ _ ht),upd_same,by simp,?_,fun r H5 s5 hr=>?_⟩
   ·show ((Srt.sub j).map V.int).length+1≤sizeLine
    rw[List.length_map]
    have:(Srt.sub j).length≤6:=by
     unfold Srt.sub
     rw[List.length_map]
     exact Nat.le_trans (List.length_filter_le _ _) (by rw[List.length_range];exact Nat.le_refl _)
    exact Nat.le_of_lt (small1000 (by omega))
   ·have s35:=s4.trans s5
    have hl5:=s35 _ _ hl3
    have nrl:r≠l:=fun z=>by rw[z,hl5] at hr;cases hr
    refine⟨hl5,small1000 (by omega),fun b o hb=>?_,upd_same,by rw[List.length_append,hj];rfl,fun q hq=>?_⟩
    ·have nb:b≠l:=fun z=>by rw[z,hl'] at hb;cases hb
     rw[upd_ne nb]
     exact s35 _ _ (s3 _ _ hb)
    ·by_cases hqj:q < j
     ·obtain⟨t',e',h'⟩:=hA q hqj
      have h5:=s35 _ _ h'
      have ntl:t'≠l:=fun z=>by rw[z,hl5] at h5;cases h5
      exact⟨t',by rw[List.getElem?_append_left (by omega)];exact e',by rw[upd_ne ntl];exact h5⟩
     ·have e:q=acc.length:=by omega
      subst e
      refine⟨r,by rw[List.getElem?_append_right (Nat.le_refl _),Nat.sub_self];rfl,?_⟩
      rw[upd_ne nrl,hr,hj,sub_add i hi6 j hj2,List.map_append,Int.zero_add]
      rfl
  ·rintro acc H3 ⟨s3,hl3,hj,hA⟩
   have hF3:=s3 _ _ hF
   refine⟨F,l,xs,acc,rfl,rfl,hF3,hl3,?_,fun G hG=>?_⟩
   ·exact Nat.le_of_lt (small1000 (by omega))
   ·have s4:=Same.new (o:=.lst (xs++acc)) hG
    refine⟨G,xs++acc,_,rfl,s2.trans (s3.trans s4),(s2.trans s3).free hG,upd_same,?_,fun q hq=>?_⟩
    ·rw[List.length_append,hj,hl,Nat.pow_succ]
     omega
    ·rw[Nat.pow_succ] at hq
     by_cases hq1:q < 2 ^ i
     ·obtain⟨t',e',h'⟩:=hS.2 q hq1
      exact⟨t',by rw[List.getElem?_append_left (by omega)];exact e',s4 _ _ (s3 _ _ h')⟩
     ·obtain⟨t',e',h'⟩:=hA (q - 2 ^ i) (by omega)
      have eq:2 ^ i+(q - 2 ^ i)=q:=by omega
      rw[eq] at h'
      exact⟨t',by rw[List.getElem?_append_right (by omega),hl];exact e',s4 _ _ h'⟩
 ·rintro σ H2 ⟨F,xs,v,rfl,s2,nF,hF,hS⟩
  have em:((m:Nat):Int).toNat=m:=Int.toNat_natCast m
  rw[em] at hS
  exact⟨_,rfl,hQ F xs H2 s2 nF hF hS⟩
theorem ok__law_lies(D:DefAt K mg "_law_lies" s__law_lies f fd)(T:Txt K mg cx):DefOk P w K mg base CX0 1 "_law_lies" ["_law_touched","_law_heap_here"] sp__law_lies:=by
 refine D.ok (D.q sc__law_lies (fun vs H Q E h=>?_) (fun cdv A outer s H vs Q E hr h=>?_)) (D.fn.binds fun _ _ _ _ _ _ us hl=>match us,hl with | [_,_],_=>rfl)
 ·obtain⟨_,_,_,_,rfl,_⟩:=h
  rfl
 obtain⟨t,h,ts,hs,rfl,ht,hh,hl,hQ⟩:=h
 refine⟨_,(qss_one (qs_ret (qe_callB (call_allF rfl) (by rfl) T.n_all bt_all (qa_cons (qe_comp ["_law_place"] [("_law_heap_here", 1)] rfl (qi_tupK (K:=K) rfl (qv 0)) (gext_name (by decide)) (fun cl C fp s2 H2=>⟨(qg_name (i:=0) (show (["_law_place","_law_heap_here"]:List Str).Nodup by decide +kernel) rfl (Or.inl rfl)),qf_nil,(qe_cmpR (op_inK (K:=K) rfl) (qv 0) (qv 1) (by rfl))⟩) rfl (by decide +kernel) (by decide +kernel) (free_of (by rfl)) (fr_of (by rfl))) qa_nil)))),?_⟩
 refine⟨_,rfl,t,rfl,⟨_,SqT.of ht⟩,fun l hl'=>comp_tupR (K:=K) (a:=t) (xs:=ts.map V.int) (fun i acc H2=>acc=((ts.take i).map fun x=>decide (x∈hs)).map V.bl∧H2=upd H l (.lst acc)) ⟨rfl,rfl⟩ (fun i acc H2 _ ⟨_,e⟩=>by rw[e];exact SqT.of ((Same.new hl') _ _ ht)) ?_ ?_⟩
 ·rintro i y acc H2 hy ⟨rfl,rfl⟩
  obtain⟨hi,rfl⟩:=int_at hy
  simp only[gName_ap,tYes,if_true]
  refine⟨_,rfl,_,rfl,h,hs.map V.int,rfl,.inr (SqT.of ((Same.new hl') _ _ hh)),rfl,flat_ints hs,upd_same,small1000 (by simp only[List.length_map,List.length_take];omega),?_,upd_upd⟩
  rw[take_map_succ _ hi,List.map_append,inV_int]
  rfl
 ·rintro acc H2 ⟨rfl,rfl⟩
  have e:ts.take (ts.map V.int).length=ts:=by rw[List.length_map,List.take_length]
  rw[e]
  refine⟨l,ts.map fun x=>decide (x∈hs),rfl,upd_same,?_⟩
  have e2:(ts.map fun x=>decide (x∈hs)).all id=lies ts hs:=by unfold lies;rw[List.all_map];rfl
  rw[e2]
  exact hQ _ (Same.new hl')
theorem ok__law_worth(D:DefAt K mg "_law_worth" s__law_worth f fd)(T:Txt K mg cx):DefOk P w K mg base CX0 1 "_law_worth" ["_law_worths_here","_law_heap_here"] sp__law_worth:=by
 refine D.ok (D.q sc__law_worth (fun vs H Q E h=>?_) (fun cdv A outer s H vs Q E hr h=>?_)) (D.fn.binds fun _ _ _ _ _ _ us hl=>match us,hl with | [_,_],_=>rfl)
 ·obtain⟨_,_,_,_,rfl,_⟩:=h
  rfl
 obtain⟨w,h,ws,hs,rfl,hw,hh,hl,hb,hQ⟩:=h
 refine⟨_,(qss_one (qs_ret (qe_callB (call_sumF rfl) (by rfl) T.n_sum bt_sum (qa_cons (qe_comp ["_law_place"] [("_law_worths_here", 0)] rfl (qi_tupK (K:=K) rfl (qv 1)) (gext_name (by decide)) (fun cl C fp s2 H2=>⟨(qg_name (i:=0) (show (["_law_place","_law_worths_here"]:List Str).Nodup by decide +kernel) rfl (Or.inl rfl)),qf_nil,(qe_ix ix_seqA (qv 1) (qv 0) (fun _ _=>rfl))⟩) rfl (by decide +kernel) (by decide +kernel) (free_of (by rfl)) (fr_of (by rfl))) qa_nil)))),?_⟩
 refine⟨_,rfl,h,rfl,⟨_,SqT.of hh⟩,fun l hl'=>comp_tupR (K:=K) (a:=h) (xs:=hs.map V.int) (fun i acc H2=>acc=((hs.take i).map fun x=>ws.getD x.toNat 0).map V.int∧H2=upd H l (.lst acc)) ⟨rfl,rfl⟩ (fun i acc H2 _ ⟨_,e⟩=>by rw[e];exact SqT.of ((Same.new hl') _ _ hh)) ?_ ?_⟩
 ·rintro i y acc H2 hy ⟨rfl,rfl⟩
  obtain⟨hi,rfl⟩:=int_at hy
  simp only[gName_ap,tYes,if_true]
  obtain⟨x0,x1⟩:=hb hs[i] (List.getElem_mem hi)
  refine⟨_,rfl,_,rfl,w,ws.map V.int,_,_,rfl,rfl,seqAt_lst ((Same.new hl') _ _ hw),atI_ints x0 x1,upd_same,small1000 (by simp only[List.length_map,List.length_take];omega),?_,upd_upd⟩
  rw[take_map_succ _ hi,List.map_append]
  rfl
 ·rintro acc H2 ⟨rfl,rfl⟩
  have e:hs.take (hs.map V.int).length=hs:=by rw[List.length_map,List.take_length]
  rw[e]
  refine⟨l,hs.map fun x:Int=>ws.getD x.toNat 0,rfl,upd_same,?_⟩
  exact hQ _ (Same.new hl')
theorem ok__law_truth(D:DefAt K mg "_law_truth" s__law_truth f fd)(T:Txt K mg cx):DefOk P w K mg base CX0 1 "_law_truth" ["_law_found","_law_due_here"] sp__law_truth:=by
 refine D.ok (D.q sc__law_truth (fun vs H Q E h=>?_) (fun cdv A outer s H vs Q E hr h=>?_)) (D.fn.binds fun _ _ _ _ _ _ us hl=>match us,hl with | [_,_],_=>rfl)
 ·obtain⟨_,_,rfl,_⟩:=h
  rfl
 obtain⟨b,c,rfl,hQ⟩:=h
 refine⟨_,(qss_one (qs_ret (qe_and (qe_callB call_isi (by rfl) T.n_isinstance bt_isinstance (qa_cons (qv 0) (qa_cons (qe_bltn (v:=.ty "bool") (by rfl) T.n_bool bt_bool rfl) qa_nil))) (qe_one (qe_cmpR op_eq (qv 0) (qv 1) (nomark _)))))),?_⟩
 k_extra "rd"
theorem ok__law_worths(D:DefAt K mg "_law_worths" s__law_worths f fd)(T:Txt K mg cx)(d__law_pull:DefOk P w K mg base CX0 1 "_law_pull" ["_law_bag_here","_law_many_here"] sp__law_pull):DefOk P w K mg base CX0 2 "_law_worths" ["_law_bag_here","_law_many_here"] sp__law_worths:=by
 refine D.ok (D.q sc__law_worths (fun vs H Q E h=>?_) (fun cdv A outer s H vs Q E hr h=>?_)) (D.fn.binds fun _ _ _ _ _ _ us hl=>match us,hl with | [_,_],_=>rfl)
 ·obtain⟨_,_,_,rfl,_⟩:=h
  rfl
 obtain⟨B,m,L,rfl,hB,m0,m6,hQ⟩:=h
 refine⟨_,(qss_cons (qs_set (i:=2) sc__law_worths.nd rfl (Or.inr rfl) (qe_ix ix_seqA (qe_lst (qa_cons qe_int (qa_cons qe_int (qa_cons qe_int (qa_cons (qe_op op_pow qe_int qe_int) (qa_cons (qe_op op_pow qe_int qe_int) qa_nil)))))) (qe_d d__law_pull hr.le pass0 (by rfl) (qa_cons (qv 0) (qa_cons qe_int qa_nil))) (fun _ _=>rfl)))
   (qss_one (qs_ret (qe_comp ["_law_fund"] [("_law_bag_here", 0),("_law_scale", 2)] rfl (qi_range1 (by rfl) T.n_range (qa_cons (qv 1) qa_nil)) (gext_name (by decide)) (fun cl C fp s2 H2=>⟨(qg_name (i:=0) (show (["_law_fund","_law_bag_here","_law_scale"]:List Str).Nodup by decide +kernel) rfl (Or.inl rfl)),qf_nil,(qe_op op_mulB (qe_d d__law_pull hr.le pass0 (by rfl) (qa_cons (qv 1) (qa_cons (qe_op op_add (qv 2) qe_int) qa_nil))) (qe_callB (call_min2 rfl) (by rfl) T.n_min bt_min (qa_cons qe_int (qa_cons (qe_d d__law_pull hr.le pass0 (by rfl) (qa_cons (qv 1) (qa_cons qe_int qa_nil))) qa_nil))))⟩) rfl (by decide +kernel) (by decide +kernel) (free_of (by rfl)) (fr_of (by rfl)))))),?_⟩
 k_extra "rd"
 intro p hp
 have npB:p≠B:=hB.ne hp
 refine⟨B,5,L,rfl,hB.new hp,by decide,by decide,fun d H2 d0 d1 b2 f2=>?_⟩
 have hp2:=f2 p _ npB upd_same
 obtain⟨x,ex,hx1,hx2⟩:=pick (P:=fun x=>0 < x∧x≤1000000000000) [12,3,100,10 ^ 9,10 ^ 12] d0 d1 (by decide)
 have ex':atI [V.int 12,V.int 3,V.int 100,V.int 1000000000,V.int 1000000000000] d=some (.int x):=ex
 have f12:Fr1 B H H2:=(Fr1.new hp).trans f2
 clear ex
 k_extra "rd"
 clear ex' hp2 f2 npB hp
 refine⟨_,rfl,m,rfl,by omega,by omega,fun l hl=>?_⟩
 have nlB:=b2.ne hl
 have nlL:=b2.neL hl
 refine comp_rangeR (k:=m.toNat) (fun i acc H3=>∃ ws:List Int,acc=ws.map V.int∧ws.length=i∧(∀ x∈ws,0≤x∧Sz 50 x)∧BagAt H3 B L∧(∀ b o,b≠B→b≠l→H2 b=some o→H3 b=some o)∧H3 l=some (.lst acc)) ⟨[],rfl,rfl,(fun x hx=>by cases hx),b2.new hl,(fun b o _ hbl h=>by rw[upd_ne hbl];exact h),upd_same⟩ ?_ ?_
 ·rintro i acc H3 hi ⟨ws,rfl,hlen,hz,b3,k3,hl3⟩
  simp only[gName_ap,tYes,if_true]
  k_extra "rd"
  refine⟨B,x+1,L,rfl,b3,by omega,Sz.mono (j:=41) (Sz.of (by omega)) (by decide),fun d4 H4 e0 e1 b4 f4=>?_⟩
  have hl4:=f4 _ _ nlB hl3
  clear hl3
  k_extra "rd"
  refine⟨B,7,L,rfl,b4,by decide,by decide,fun d5 H5 g0 g1 b5 f5=>?_⟩
  have hl5:=f5 _ _ nlB hl4
  clear hl4
  k_extra "rd"
  have hy:0≤(if d5 < 1 then d5 else 1)∧(if d5 < 1 then d5 else 1)≤1:=by split<;>omega
  generalize (if d5 < 1 then d5 else 1)=y at hy ⊢
  have z4:Sz 40 d4:=Sz.of (by omega)
  have zy:Sz 1 y:=Sz.of (by omega)
  refine⟨z4.ok zy (by decide),small1000 (by omega),ws++[d4*y],by rw[List.map_append];rfl,by rw[List.length_append,hlen];rfl,fun w hw=>?_,b5.put nlB nlL,fun b o nb nl h=>?_⟩
  ·rcases List.mem_append.mp hw with hw | hw
   ·exact hz w hw
   ·rw[List.mem_singleton.mp hw];exact⟨Int.mul_nonneg (by omega) (by omega),(z4.mul zy).mono (by decide)⟩
  ·rw[upd_ne nl]
   exact f5 _ _ nb (f4 _ _ nb (k3 b o nb nl h))
 ·rintro acc H3 ⟨ws,rfl,hlen,hz,b3,k3,hl3⟩
  have nl:H l=none:=by
   cases e:H l with
   | none=>rfl
   | some o=>rw[f12 l o nlB e] at hl;cases hl
  exact hQ l ws H3 nl b3 (fun b o nb h=>k3 b o nb (fun z=>by rw[z,nl] at h;cases h) (f12 b o nb h)) hl3 (by omega) hz
theorem ok__law_tabled(D:DefAt K mg "_law_tabled" s__law_tabled f fd)(T:Txt K mg cx)(d__law_many:DefOk P w K mg base CX0 2 "_law_many" ["_law_bag_here"] sp__law_many)(d__law_claims:DefOk P w K mg base CX0 4 "_law_claims" ["_law_bag_here","_law_many_here"] sp__law_claims)(d__law_pull:DefOk P w K mg base CX0 1 "_law_pull" ["_law_bag_here","_law_many_here"] sp__law_pull)(d__law_low:DefOk P w K mg base CX0 2 "_law_low" ["_law_number","_law_under"] sp__law_low)(d__law_sum:DefOk P w K mg base CX0 4 "_law_sum" ["_law_row_here"] sp__law_sum)(d__law_plus:DefOk P w K mg base CX0 3 "_law_plus" ["_law_one","_law_other"] sp__law_plus)(d__law_ceil:DefOk P w K mg base CX0 1 "_law_ceil" ["_law_one"] sp__law_ceil):DefOk P w K mg base CX0 5 "_law_tabled" ["_law_bag_here"] sp__law_tabled:=by
 refine D.ok (D.q sc__law_tabled (fun vs H Q E h=>?_) (fun cdv A outer s H vs Q E hr h=>?_)) (D.fn.binds fun _ _ _ _ _ _ us hl=>match us,hl with | [_],_=>rfl)
 ·obtain⟨_,_,rfl,_⟩:=h
  rfl
 obtain⟨B,L,rfl,hB,hQ⟩:=h
 refine⟨_,(qss_cons (qs_set (i:=1) sc__law_tabled.nd rfl (Or.inl rfl) (qe_d d__law_many hr.le pass0 (by rfl) (qa_cons (qv 0) qa_nil)))
   (qss_cons (qs_set (i:=2) sc__law_tabled.nd rfl (Or.inl rfl) (qe_ix ix_seqA (qe_lst (qa_cons qe_int (qa_cons qe_int (qa_cons qe_int (qa_cons (qe_op op_pow qe_int qe_int) qa_nil))))) (qe_d d__law_pull hr.le pass0 (by rfl) (qa_cons (qv 0) (qa_cons qe_int qa_nil))) (fun _ _=>rfl)))
   (qss_cons (qs_set (i:=3) sc__law_tabled.nd rfl (Or.inl rfl) (qe_ix ix_seqA (qe_lst (qa_cons qe_int (qa_cons qe_int (qa_cons qe_int (qa_cons qe_int qa_nil))))) (qe_d d__law_pull hr.le pass0 (by rfl) (qa_cons (qv 0) (qa_cons qe_int qa_nil))) (fun _ _=>rfl)))
   (qss_cons (qs_set (i:=4) sc__law_tabled.nd rfl (Or.inl rfl) (qe_lst qa_nil))
   (qss_cons (qs_set (i:=5) sc__law_tabled.nd rfl (Or.inl rfl) (qe_lst qa_nil))
   (qss_cons (qs_for PassesOwn.never rfl (qi_listK (K:=K) rfl (qe_d d__law_claims hr.le pass0 (by rfl) (qa_cons (qv 0) (qa_cons (qv 1) qa_nil)))) (qg_name (i:=6) sc__law_tabled.nd rfl (Or.inl rfl)) (qss_cons (qs_setC (k:=7) ["_law_place"] [] sc__law_tabled.nd rfl rfl rfl (qi_range1 (by rfl) T.n_range (qa_cons (qv 1) qa_nil)) (gext_name (by decide)) (fun cl C fp s2 H2=>⟨(qg_name (i:=0) (show (["_law_place"]:List Str).Nodup by decide +kernel) rfl (Or.inl rfl)),qf_nil,(qe_tup (qa_cons qe_int (qa_cons qe_int qa_nil)))⟩) rfl (by decide +kernel) (by decide +kernel) (free_of (by rfl)) (fr_of (by rfl)))
   (qss_cons (qs_for PassesOwn.never rfl (qi_tupK (K:=K) rfl (qe_ix ix_seqA (qv 6) qe_int (fun _ _=>rfl))) (qg_name (i:=8) sc__law_tabled.nd rfl (Or.inr rfl)) (qss_one (qs_asg (qe_d d__law_low hr.le pass0 (by rfl) (qa_cons (qe_op op_mulB (qe_d d__law_pull hr.le pass0 (by rfl) (qa_cons (qv 0) (qa_cons (qe_op op_add (qv 2) qe_int) qa_nil))) (qe_d d__law_pull hr.le pass0 (by rfl) (qa_cons (qv 0) (qa_cons qe_int qa_nil)))) (qa_cons (qe_op op_add qe_int (qe_d d__law_pull hr.le pass0 (by rfl) (qa_cons (qv 0) (qa_cons (qv 3) qa_nil)))) qa_nil))) (qg_sub (qv 7) (qv 8) set_list))))
   (qss_cons (qs_expr (qe_bmK (K:=K) rfl PySem.F.plainAttrs_list PySem.F.slot_list_append PySem.F.type_list_append mt_append (qv 5) (qa_cons (qv 7) qa_nil)))
   (qss_cons (qs_set (i:=9) sc__law_tabled.nd rfl (Or.inl rfl) (qe_ix ix_seqA (qe_lst (qa_cons (qe_tup (qa_cons qe_int (qa_cons qe_int qa_nil))) (qa_cons (qe_tup (qa_cons qe_int (qa_cons qe_int qa_nil))) (qa_cons (qe_ix ix_seqA (qv 6) qe_int (fun _ _=>rfl)) qa_nil)))) (qe_d d__law_pull hr.le pass0 (by rfl) (qa_cons (qv 0) (qa_cons qe_int qa_nil))) (fun _ _=>rfl)))
   (qss_one (qs_expr (qe_bmK (K:=K) rfl PySem.F.plainAttrs_list PySem.F.slot_list_append PySem.F.type_list_append mt_append (qv 4) (qa_cons (qe_tup (qa_cons (qe_d d__law_plus hr.le pass0 (by rfl) (qa_cons (qe_d d__law_sum hr.le pass0 (by rfl) (qa_cons (qv 7) qa_nil)) (qa_cons (qv 9) qa_nil))) (qa_cons (qe_ix ix_seqA (qv 6) qe_int (fun _ _=>rfl)) (qa_cons (qe_ix ix_seqA (qv 6) qe_int (fun _ _=>rfl)) qa_nil)))) qa_nil)))))))))
   (qss_cons (qs_set (i:=10) sc__law_tabled.nd rfl (Or.inl rfl) (qe_lst qa_nil))
   (qss_cons (qs_for PassesOwn.never rfl (qi_range1 (by rfl) T.n_range (qa_cons (qv 1) qa_nil)) (qg_name (i:=8) sc__law_tabled.nd rfl (Or.inr rfl)) (qss_one (qs_expr (qe_bmK (K:=K) rfl PySem.F.plainAttrs_list PySem.F.slot_list_append PySem.F.type_list_append mt_append (qv 10) (qa_cons (qe_op op_add (qe_d d__law_ceil hr.le pass0 (by rfl) (qa_cons (qe_d d__law_sum hr.le pass0 (by rfl) (qa_cons (qe_comp ["_law_row_here"] [("_law_place", 8)] rfl (qi_listK (K:=K) rfl (qv 5)) (gext_name (by decide)) (fun cl C fp s2 H2=>⟨(qg_name (i:=0) (show (["_law_row_here","_law_place"]:List Str).Nodup by decide +kernel) rfl (Or.inl rfl)),qf_nil,(qe_ix ix_seqA (qv 0) (qv 1) (fun _ _=>rfl))⟩) rfl (by decide +kernel) (by decide +kernel) (free_of (by rfl)) (fr_of (by rfl))) qa_nil)) qa_nil)) (qe_op op_mulB (qe_d d__law_pull hr.le pass0 (by rfl) (qa_cons (qv 0) (qa_cons qe_int qa_nil))) (qe_d d__law_pull hr.le pass0 (by rfl) (qa_cons (qv 0) (qa_cons qe_int qa_nil))))) qa_nil)))))
   (qss_one (qs_ret (qe_tup (qa_cons (qv 10) (qa_cons (qv 4) (qa_cons (qe_comp ["_law_row_here"] [] rfl (qi_listK (K:=K) rfl (qv 5)) (gext_name (by decide)) (fun cl C fp s2 H2=>⟨(qg_name (i:=0) (show (["_law_row_here"]:List Str).Nodup by decide +kernel) rfl (Or.inl rfl)),qf_nil,(qe_d d__law_sum hr.le pass0 (by rfl) (qa_cons (qv 0) qa_nil))⟩) rfl (by decide +kernel) (by decide +kernel) (free_of (by rfl)) (fr_of (by rfl))) (qa_cons (qv 5) qa_nil))))))))))))))),?_⟩
 refine seq_cut6 (fun σ' H'=>∃ m sc un F C Z xs0 cs0 xs cs zs rss v6 v7 v8 v9,σ'=[some (.ref B),some (.int ((m:Nat):Int)),some (.int sc),some (.int un),some (.ref C),some (.ref Z),v6,v7,v8,v9,none]∧Tb H B L F C Z xs0 cs0 xs cs zs rss H'∧Tn H B L F C Z∧m≤6∧cs.length≤16∧rss.length=cs.length∧(∀ c∈cs,GoodU2 UM 122 m c)∧(∀ r∈rss,RwOk m r)∧NtOk cs rss) ?_ fun tb' key=>?_
 ·rintro σ H1 ⟨m,sc,un,F,C,Z,xs0,cs0,xs,cs,zs,rss,v6,v7,v8,v9,rfl,tb,tn,m6,c16,rl,hG,hr,hn⟩
  refine⟨by show 0≤sizeLine;decide,fun W hW=>?_⟩
  have wB:=tb.b.ne hW
  have wL:=tb.b.neL hW
  have wF:W≠F:=fun z=>by rw[z,tb.f] at hW;cases hW
  have wC:W≠C:=fun z=>by rw[z,tb.c] at hW;cases hW
  have wZ:W≠Z:=fun z=>by rw[z,tb.z] at hW;cases hW
  have wz:=tb.hZ.fresh hW
  have w0:H W=none:=by
   cases e:H W with
   | none=>rfl
   | some o=>rw[tb.fr W o wB e] at hW;cases hW
  have tb2:=tb.same (Same.new (o:=.lst []) hW)
  have hw2:upd H1 W (.lst []) W=some (.lst (([]:List Int).map V.int)):=upd_same
  generalize upd H1 W (.lst [])=H2 at tb2 hw2 ⊢
  clear tb hW
  refine⟨_,rfl,(m:Int),rfl,by omega,by omega,for_rangeN (lo:=0) (n:=((m:Nat):Int).toNat) (fun j σ H'=>∃ ws v6 v7 v8 v9,σ=[some (.ref B),some (.int (m:Int)),some (.int sc),some (.int un),some (.ref C),some (.ref Z),v6,v7,v8,v9,some (.ref W)]∧Tb H B L F C Z xs0 cs0 xs cs zs rss H'∧H' W=some (.lst (ws.map V.int))∧ws.length=j∧(∀ x∈ws,0≤x∧Sz 140 x)∧ColOk rss ws) ⟨[],_,_,_,_,rfl,tb2,hw2,rfl,(fun x hx=>by cases hx),(fun p hp=>by cases hp)⟩ ?_ ?_⟩
  ·clear tb2 hw2
   rintro j σ H3 NN BB hj ⟨ws,v6,v7,v8,v9,rfl,t3,hw3,hwl,hwz,hco⟩ kN kB
   clear kB
   have jm:j < m:=by omega
   simp only[gName_ap]
   refine⟨_,rfl,.inl ⟨rfl,_,SqL.of hw3⟩,_,rfl,Z,rfl,⟨_,SqL.of t3.z⟩,fun l hl=>?_⟩
   refine comp_listR (K:=K) (a:=Z) (xs:=zs) (fun a acc H4=>Same H3 H4∧H4 l=some (.lst acc)∧RowU UM 115 H4 acc ((rss.take a).map fun r=>r.getD j (0,1))) ⟨Same.new hl,upd_same,RowU.nil⟩ (fun a acc H4 _ ⟨s4,_,_⟩=>SqL.of (s4 _ _ t3.z)) ?_ ?_
   ·rintro a y acc H4 hy ⟨s4,hl4,hR4⟩
    have ha:a < rss.length:=by rw[← t3.hZ.1];exact (List.getElem?_eq_some_iff.mp hy).1
    obtain⟨r,ys,er,h1,h2,_⟩:=t3.hZ.2.2 a rss[a] (List.getElem?_eq_getElem ha)
    rw[er] at hy
    cases hy
    have hrl:=(hr rss[a] (List.getElem_mem ha)).1
    have jr:j < (rss[a]).length:=by omega
    obtain⟨e,ee,he,po⟩:=h2.2 j (rss[a])[j] (List.getElem?_eq_getElem jr)
    have eg:(rss[a]).getD j (0,1)=(rss[a])[j]:=by simp[List.getD_eq_getElem?_getD,jr]
    rw[take_map_succ _ ha,eg]
    have len:=hR4.1
    rw[List.length_map,List.length_take] at len
    have g1:=s4 _ _ h1
    have g2:=s4 _ _ he
    have ne:e≠l:=fun z=>by rw[z,hl4] at g2;cases g2
    simp only[gName_ap,tYes,if_true]
    refine⟨_,rfl,_,rfl,r,ys,_,_,rfl,rfl,seqAt_lst g1,by rw[Int.zero_add];exact atI_nat ee,hl4,small1000 (by omega),?_,upd_same,(hR4.ts (TS.lst hl4)).snoc (by rw[upd_ne ne];exact g2) po⟩
    intro b o hb
    rw[upd_ne (fun z=>by rw[z,hl] at hb;cases hb)]
    exact s4 _ _ hb
   ·rintro acc H4 ⟨s4,hl4,hR4⟩
    have ez:rss.take zs.length=rss:=by rw[t3.hZ.1,List.take_length]
    rw[ez] at hR4
    have cl:(rss.map fun r=>r.getD j (0,1)).length≤16:=by rw[List.length_map];omega
    have cn:∀ p∈rss.map fun r=>r.getD j (0,1),0≤p.1:=fun p hp=>by
     obtain⟨r,hr',rfl⟩:=List.mem_map.mp hp
     obtain⟨r1,r2⟩:=hr r hr'
     have jr:j < r.length:=by omega
     have eg:r.getD j (0,1)=r[j]:=by simp[List.getD_eq_getElem?_getD,jr]
     rw[eg]
     exact r2 _ (List.getElem_mem jr)
    refine⟨l,acc,_,UM,115,rfl,hl4,um_ok,hR4,by decide,cl,fun s H5 s5 hs=>?_⟩
    have sp:=sum_pt um_ok.pos hR4.mem
    have spn:=sumP_nn um_ok.pos (fun p hp=>(hR4.mem p hp).toOk) cn
    have sp':PtOk UM 131 (sumP (rss.map fun r=>r.getD j (0,1))):=sp.mono (by omega)
    have su:=sp.toOk.usz um_ok
    have sn:=sp'.nsz um_ok.pos
    have s0:=sp.pos
    have en:num UM (sumP (rss.map fun r=>r.getD j (0,1)))=colN rss j:=by rw[(sum_ok um_ok.pos fun p hp=>(hR4.mem p hp).toOk).2,List.map_map];rfl
    generalize sumP (rss.map fun r=>r.getD j (0,1))=S at hs sp' spn su sn s0 en
    have ce:=ceil_le sp'.toOk
    rw[en] at ce
    have t5:=t3.same (s4.trans s5)
    have hw5:=(s4.trans s5) _ _ hw3
    clear sp hR4 s4 s5 hl4 t3 hw3 cn cl ez hl
    have z9:Sz 9000 S.2:=su.mono (by decide)
    have hc:0≤-(-S.1 / S.2)∧Sz 131 (-(-S.1 / S.2)):=by
     constructor
     ·have h1:=Int.ediv_mul_le (-S.1) (by omega:S.2≠0)
      by_cases h:-S.1 / S.2≤0
      ·omega
      ·exfalso
       have:1*S.2≤-S.1 / S.2*S.2:=Int.mul_le_mul_of_nonneg_right (by omega) (by omega)
       omega
     ·exact Sz.neg (Sz.le sn (Nat.le_trans (natAbs_div_le _ _) (by rw[Int.natAbs_neg];exact Nat.le_refl _)))
    refine⟨s,_,_,rfl,hs,s0,z9,?_⟩
    generalize -(-S.1 / S.2)=cc at hc ce
    clear en hs sp' spn su sn s0 z9
    k_extra "rd"
    refine⟨B,3,L,rfl,t5.b,by decide,by decide,fun d H6 d0 d1 b6 f6=>?_⟩
    have t6:=t5.pull tn f6 b6
    have hw6:=f6 _ _ wB hw5
    clear t5 f6 b6 hw5
    k_extra "rd"
    refine⟨B,2,L,rfl,t6.b,by decide,by decide,fun d2 H7 c0 c1 b7 f7=>?_⟩
    have t7:=t6.pull tn f7 b7
    have hw7:=f7 _ _ wB hw6
    clear t6 f7 b7 hw6
    have om:IntMulOk d d2:=(Sz.of (k:=2) (by omega):Sz 2 d).ok (Sz.of (k:=2) (by omega)) (by decide)
    have dd:0≤d*d2∧d*d2≤2:=by
     have:d2=0∨d2=1:=by omega
     rcases this with rfl | rfl<;>omega
    k_extra "rd"
    refine⟨small1000 (by omega),kN _ _ ⟨ws++[cc+d*d2],_,_,_,_,rfl,t7.row hw7 wB wL wF wC wZ wz w0,by rw[upd_same,List.map_append];rfl,by rw[List.length_append,hwl];rfl,(fun x hx=>?_),hco.snoc hwl (Int.le_trans ce (Int.mul_le_mul_of_nonneg_right (by omega) (by decide)))⟩⟩
    rcases List.mem_append.mp hx with hx | hx
    ·exact hwz x hx
    ·rw[List.mem_singleton.mp hx]
     exact⟨by omega,Sz.mono (Sz.add (k:=131) hc.2 (Sz.mono (Sz.of (k:=3) (by omega)) (by decide))) (by decide)⟩
  ·rintro σ H3 ⟨ws,v6,v7,v8,v9,rfl,t3,hw3,hwl,hwz,hco⟩
   rw[Int.toNat_natCast] at hwl
   refine⟨_,rfl,_,rfl,_,rfl,Z,rfl,⟨_,SqL.of t3.z⟩,fun P hP=>?_⟩
   refine comp_listR (K:=K) (a:=Z) (xs:=zs) (fun a acc H4=>Same H3 H4∧H4 P=some (.lst acc)∧RowU UM 121 H4 acc ((rss.take a).map sumP)) ⟨Same.new hP,upd_same,RowU.nil⟩ (fun a acc H4 _ ⟨s4,_,_⟩=>SqL.of (s4 _ _ t3.z)) ?_ ?_
   ·rintro a y acc H4 hy ⟨s4,hl4,hR4⟩
    have ha:a < rss.length:=by rw[← t3.hZ.1];exact (List.getElem?_eq_some_iff.mp hy).1
    obtain⟨r,ys,er,h1,h2,_⟩:=t3.hZ.2.2 a rss[a] (List.getElem?_eq_getElem ha)
    rw[er] at hy
    cases hy
    have hrl:=(hr rss[a] (List.getElem_mem ha)).1
    have len:=hR4.1
    rw[List.length_map,List.length_take] at len
    rw[take_map_succ _ ha]
    have sp:PtOk UM 121 (sumP rss[a]):=(sum_pt um_ok.pos h2.mem).mono (by omega)
    simp only[gName_ap,tYes,if_true]
    refine⟨_,rfl,r,ys,rss[a],UM,115,rfl,s4 _ _ h1,um_ok,h2.ts (TS.of s4),by decide,by omega,fun s H5 s5 hs=>?_⟩
    have l5:=s5 _ _ hl4
    have ne:s≠P:=fun z=>by rw[z,l5] at hs;cases hs
    refine⟨l5,small1000 (by omega),?_,upd_same,((hR4.ts (TS.of s5)).ts (TS.lst l5)).snoc (by rw[upd_ne ne];exact hs) sp⟩
    intro b o hb
    rw[upd_ne (fun z=>by rw[z,hP] at hb;cases hb)]
    exact s5 _ _ (s4 _ _ hb)
   ·rintro acc H4 ⟨s4,hl4,hR4⟩
    have ez:rss.take zs.length=rss:=by rw[t3.hZ.1,List.take_length]
    rw[ez] at hR4
    refine⟨_,rfl,by show 4≤sizeLine;decide,fun T hT=>?_⟩
    have s5:=s4.trans (Same.new (o:=.tup [.ref W,.ref C,.ref P,.ref Z]) hT)
    have t5:=t3.same s5
    have pB:=t3.b.ne hP
    have pW:P≠W:=fun z=>by rw[z,hw3] at hP;cases hP
    have pC:P≠C:=fun z=>by rw[z,t3.c] at hP;cases hP
    have pZ:P≠Z:=fun z=>by rw[z,t3.z] at hP;cases hP
    have pz:=t3.hZ.fresh hP
    have p0:H P=none:=by
     cases e:H P with
     | none=>rfl
     | some o=>rw[t3.fr P o pB e] at hP;cases hP
    have hZ5:RowsAt [B,L,W,C,P,Z] UM 115 (upd H4 T (.tup [.ref W,.ref C,.ref P,.ref Z])) zs rss:=⟨t5.hZ.1,t5.hZ.2.1,fun i r hr=>by
     obtain⟨l,xs,e,h1,h2,h3⟩:=t5.hZ.2.2 i r hr
     have hm:=List.mem_of_getElem? e
     simp only[List.mem_cons,List.not_mem_nil,or_false,not_or] at h3
     refine⟨l,xs,e,h1,h2,?_⟩
     simp only[List.mem_cons,List.not_mem_nil,or_false,not_or]
     exact⟨h3.1,h3.2.1,(fun z=>wz (by rw[← z];exact hm)),h3.2.2.2.1,(fun z=>pz (by rw[← z];exact hm)),h3.2.2.2.2⟩⟩
    refine hQ T W C P Z ws xs cs acc (rss.map sumP) zs rss _ ⟨t5.b,t5.fr,s5 _ _ hw3,t5.c,t5.hC,(Same.new hT) _ _ hl4,hR4.ts (TS.of (Same.new hT)),t5.z,hZ5,w0,tn.c0,p0,tn.z0,wC,pW.symm,wZ,pC.symm,tn.cZ,pZ,by omega,hwz,c16,by rw[List.length_map];exact rl,rl,by rw[hwl];exact hG,by rw[hwl];exact hr,rfl,hn,hco⟩ upd_same
 k_extra "rd"
 refine⟨B,L,rfl,hB,fun m0 H1 h0 h6 b1 f1=>?_⟩
 obtain⟨m,rfl⟩:∃ m:Nat,m0=(m:Int):=⟨m0.toNat,by omega⟩
 have m6:m≤6:=by omega
 k_extra "rd"
 intro p hp
 have npB:p≠B:=b1.ne hp
 refine⟨B,4,L,rfl,b1.new hp,by decide,by decide,fun d H2 d0 d1 b2 f2=>?_⟩
 have hp2:=f2 p _ npB upd_same
 obtain⟨sc,ex,hs1,hs2⟩:=pick (P:=fun x=>0≤x∧x≤1000000000) [6,2,40,10 ^ 9] d0 d1 (by decide)
 have ex':atI [V.int 6,V.int 2,V.int 40,V.int 1000000000] d=some (.int sc):=ex
 have f12:Fr1 B H H2:=(f1.trans (Fr1.new hp)).trans f2
 clear ex
 k_extra "rd"
 clear ex' hp2 f2 npB hp f1
 intro p hp
 have npB:p≠B:=b2.ne hp
 refine⟨B,4,L,rfl,b2.new hp,by decide,by decide,fun e H3 e0 e1 b3 f3=>?_⟩
 have hp3:=f3 p _ npB upd_same
 obtain⟨un,ex,hu1,hu2⟩:=pick (P:=fun x=>0 < x∧x≤60) [1,1,3,60] e0 e1 (by decide)
 have ex':atI [V.int 1,V.int 1,V.int 3,V.int 60] e=some (.int un):=ex
 have f13:Fr1 B H H3:=(f12.trans (Fr1.new hp)).trans f3
 clear ex
 k_extra "rd"
 clear ex' hp3 f3 npB hp f12 b2 b1
 intro C hC Z hZ
 have nCB:=b3.ne hC
 have nCL:=b3.neL hC
 have b4:=b3.new (o:=.lst []) hC
 have nZB:=b4.ne hZ
 have nZL:=b4.neL hZ
 have nCZ:C≠Z:=fun z=>by rw[← z,upd_same] at hZ;cases hZ
 have f14:=f13.trans (Fr1.new (B:=B) (o:=.lst []) hC)
 have f15:=f14.trans (Fr1.new (B:=B) (o:=.lst []) hZ)
 have free:∀(H':Hp)(a:Addr),Fr1 B H H'→a≠B→H' a=none→H a=none:=fun H' a f n h=>by
  cases e:H a with
  | none=>rfl
  | some o=>rw[f a o n e] at h;cases h
 have c0:=free _ _ f13 nCB hC
 have z0:=free _ _ f14 nZB hZ
 have b5:=b4.new (o:=.lst []) hZ
 have c5:=(Same.new (o:=.lst []) hZ) C _ upd_same
 have z5:upd (upd H3 C (.lst [])) Z (.lst []) Z=_:=upd_same
 generalize upd (upd H3 C (.lst [])) Z (.lst [])=H5 at b5 c5 z5 f15 ⊢
 clear hC hZ b4 f13 f14 b3
 refine⟨_,rfl,_,rfl,B,(m:Int),L,rfl,b5,h0,h6,fun F xs0 cs0 H6 nF b6 f6 hF6 hCl6 l16 hG6=>?_⟩
 have nFB:=b5.ne nF
 have nFL:=b5.neL nF
 have c6:=f6 _ _ nCB c5
 have z6:=f6 _ _ nZB z5
 have f16:=f15.trans f6
 have tn:Tn H B L F C Z:=⟨nFB,nFL,nCB,nCL,nZB,nZL,(fun z=>by rw[z,c5] at nF;cases nF),(fun z=>by rw[z,z5] at nF;cases nF),nCZ,free _ _ f15 nFB nF,c0,z0⟩
 have t6:Tb H B L F C Z xs0 cs0 [] [] [] [] H6:=⟨b6,f16,hF6,hCl6,c6,ClsAt.nil,z6,RowsAt.nil,fun l h=>by cases h⟩
 clear b5 c5 z5 f15 f6 c6 z6 f16 nF b6 hF6 hCl6 nFB nFL nCB nCL nZB nZL nCZ c0 z0 hB
 refine⟨F,rfl,⟨_,SqL.of t6.f⟩,for_listN (K:=K) (a:=F) (xs:=xs0) (fun i σ H'=>∃ xs cs zs rss v6 v7 v8 v9,σ=[some (.ref B),some (.int (m:Int)),some (.int sc),some (.int un),some (.ref C),some (.ref Z),v6,v7,v8,v9,none]∧Tb H B L F C Z xs0 cs0 xs cs zs rss H'∧cs.length=i∧rss.length=i∧(∀ c∈cs,GoodU2 UM 122 m c)∧(∀ r∈rss,RwOk m r)∧NtOk cs rss) ⟨[],[],[],[],_,_,_,_,rfl,t6,rfl,rfl,(fun c h=>by cases h),(fun c h=>by cases h),NtOk.nil⟩ (fun i σ H' _ ⟨_,_,_,_,_,_,_,_,_,z,_⟩=>SqL.of z.f) ?_ ?_⟩
 ·clear t6
  rintro i y σ H7 NN BB hy ⟨xs,cs,zs,rss,v6,v7,v8,v9,rfl,t7,cl,rl,hG,hr,hn⟩ kN kB
  clear kB
  have hi:i < cs0.length:=by rw[← t7.hF.1];exact (List.getElem?_eq_some_iff.mp hy).1
  obtain⟨v,ev,hv⟩:=t7.hF.2 i cs0[i] (List.getElem?_eq_getElem hi)
  rw[ev] at hy
  cases hy
  obtain⟨g1,g2,g3⟩:=hG6 cs0[i] (List.getElem_mem hi)
  obtain⟨rc,pc,kc,rfl,e1,e2,e3⟩:=hv
  generalize cs0[i]=C0 at g1 g2 g3 e1 e2 e3
  simp only[gName_ap]
  refine seq_cut2 (fun σ' H'=>∃ r ys row v8,σ'=[some (.ref B),some (.int (m:Int)),some (.int sc),some (.int un),some (.ref C),some (.ref Z),some (.ref rc),some (.ref r),v8,v9,none]∧Tb H B L F C Z xs0 cs0 xs cs zs rss H'∧H' rc=some (.tup [.ref pc,.ref kc,.int C0.rk])∧H' pc=some (.tup [.int C0.n,.int C0.u])∧H' kc=some (.tup (C0.hp.map V.int))∧H' r=some (.lst ys)∧RowU UM 115 H' ys row∧(RwOk m row∧Nt1 C0.hp row)∧r≠B∧r≠L∧r≠F∧r≠C∧r≠Z∧V.ref r∉zs∧H r=none) ?_ fun tb'' key'=>?_
  ·rintro σ H8 ⟨r,ys,row,v8,rfl,t8,e1,e2,e3,hr8,hR8,⟨hw,hn1⟩,rB,rL,rF,rC,rZ,rz,r0⟩
   have zl:=t8.hZ.1
   have xl:=t8.hC.1
   refine⟨_,rfl,.inl ⟨rfl,_,SqL.of t8.z⟩,_,rfl,Z,zs,_,rfl,rfl,t8.z,small1000 (by omega),?_⟩
   have ts:TS H8 (upd H8 Z (.lst (zs++[.ref r]))):=TS.lst t8.z
   have t9:=t8.addRow tn hr8 hR8 rB rL rF rC rZ rz r0
   have k1:=ts _ _ e1
   have k2:=ts _ _ e2
   have k3:=ts _ _ e3
   have hr9:upd H8 Z (.lst (zs++[.ref r])) r=some (.lst ys):=by rw[upd_ne rZ];exact hr8
   have hR9:=hR8.ts ts
   generalize upd H8 Z (.lst (zs++[.ref r]))=H9 at t9 k1 k2 k3 hr9 hR9 ⊢
   clear ts e1 e2 e3 hr8 hR8 t8 key t7
   k_extra "rd"
   intro q1 hq1 q2 hq2
   have s1:=Same.new (o:=.tup [.int 0,.int 1]) hq1
   have s2:=Same.new (o:=.tup [.int 0,.int 1]) hq2
   refine⟨_,seqAt_tup ((s1.trans s2) _ _ k1),_,rfl,fun q3 hq3=>?_⟩
   have s3:=Same.new (o:=.lst [.ref q1,.ref q2,.ref pc]) hq3
   have s:=(s1.trans s2).trans s3
   have t10:=t9.same s
   have k1:=s _ _ k1
   have k2:=s _ _ k2
   have k3:=s _ _ k3
   have hr10:=s _ _ hr9
   have hR10:=hR9.ts (TS.of s)
   have m1:=s3 _ _ (s2 q1 _ upd_same)
   have m2:=s3 q2 _ upd_same
   have m3:upd (upd (upd H9 q1 (.tup [.int 0,.int 1])) q2 (.tup [.int 0,.int 1])) q3 (.lst [.ref q1,.ref q2,.ref pc]) q3=_:=upd_same
   have nq3:=(t9.same (s1.trans s2)).b.ne hq3
   generalize upd (upd (upd H9 q1 (.tup [.int 0,.int 1])) q2 (.tup [.int 0,.int 1])) q3 (.lst [.ref q1,.ref q2,.ref pc])=H10 at t10 k1 k2 k3 hr10 hR10 m1 m2 m3 ⊢
   clear s s1 s2 s3 hq1 hq2 hq3 hr9 hR9 t9
   refine⟨B,3,L,rfl,t10.b,by decide,by decide,fun d H11 d0 d1 b11 f11=>?_⟩
   have s11:=TS.fr t10.b f11
   have t11:=t10.pull tn f11 b11
   have k1:=s11 _ _ k1
   have k2:=s11 _ _ k2
   have k3:=s11 _ _ k3
   have hr11:=f11 _ _ rB hr10
   have hR11:=hR10.ts s11
   have m1:=s11 _ _ m1
   have m2:=s11 _ _ m2
   have m3:=f11 _ _ nq3 m3
   clear s11 t10 f11 b11 hr10 hR10
   obtain⟨mo,n,u,em,hmo,dmo⟩:∃ mo n u,atI [V.ref q1,V.ref q2,V.ref pc] d=some (.ref mo)∧H11 mo=some (.tup [.int n,.int u])∧Du UM 115 n u:=by
    have:d=0∨d=1∨d=2:=by omega
    have z0:Du UM 115 0 1:=⟨zero_pt,by decide⟩
    rcases this with rfl | rfl | rfl
    ·exact⟨q1,0,1,rfl,m1,z0⟩
    ·exact⟨q2,0,1,rfl,m2,z0⟩
    ·exact⟨pc,_,_,rfl,k2,g1⟩
   have t11c:=t11.c
   k_extra "rd"
   refine⟨.inl ⟨rfl,_,SqL.of t11c⟩,r,ys,row,UM,115,rfl,hr11,um_ok,hR11,by decide,by rw[hw.1];omega,fun s1 H12 s12 hs1=>?_⟩
   have sp:=sum_pt um_ok.pos hR11.mem
   have spn:=sumP_nn um_ok.pos (fun p hp=>(hR11.mem p hp).toOk) hw.2
   have sp':PtOk UM 121 (sumP row):=sp.mono (by rw[hw.1];omega)
   have da:=add_du um_ok.pos (j:=122) sp' (dmo.pt.mono (by decide:115≤121)) spn dmo.nn (by decide)
   refine⟨s1,mo,_,_,_,_,rfl,hs1,s12 _ _ hmo,sp.pos,dmo.pt.pos,(sp'.nsz um_ok.pos).mono (by decide),(sp.toOk.usz um_ok).mono (by decide),(dmo.pt.nsz um_ok.pos).mono (by decide),(dmo.pt.toOk.usz um_ok).mono (by decide),fun q4 hq4=>?_⟩
   have s13:=s12.trans (Same.new (o:=.tup [.int (addP (sumP row) (n,u)).1,.int (addP (sumP row) (n,u)).2]) hq4)
   have t13:=t11.same s13
   have k1:=s13 _ _ k1
   have k3:=s13 _ _ k3
   have q13:upd H12 q4 (.tup [.int (addP (sumP row) (n,u)).1,.int (addP (sumP row) (n,u)).2]) q4=_:=upd_same
   have eq4:upd H12 q4 (.tup [.int (lowN ((sumP row).1*u+n*(sumP row).2) ((sumP row).2*u)),.int (lowU ((sumP row).1*u+n*(sumP row).2) ((sumP row).2*u))])=upd H12 q4 (.tup [.int (addP (sumP row) (n,u)).1,.int (addP (sumP row) (n,u)).2]):=rfl
   rw[eq4]
   generalize upd H12 q4 (.tup [.int (addP (sumP row) (n,u)).1,.int (addP (sumP row) (n,u)).2])=H13 at t13 k1 k3 q13 ⊢
   clear s12 s13 hq4 hs1 t11 hr11 hR11 m1 m2 m3 hmo t11c sp sp' spn eq4 k2 em
   generalize addP (sumP row) (n,u)=dd at da q13
   k_extra "rd"
   intro q5 hq5
   have s14:=Same.new (o:=.tup [.ref q4,.ref kc,.int C0.rk]) hq5
   have t14:=t13.same s14
   have k3:=s14 _ _ k3
   have q14:=s14 _ _ q13
   have q15:upd H13 q5 (.tup [.ref q4,.ref kc,.int C0.rk]) q5=_:=upd_same
   generalize upd H13 q5 (.tup [.ref q4,.ref kc,.int C0.rk])=H14 at t14 k3 q14 q15 ⊢
   have tt:=t14.addClaim tn (v:=.ref q5) (c:=⟨dd.1,dd.2,C0.hp,C0.rk⟩) ⟨q5,q4,kc,rfl,q15,q14,k3⟩
   refine⟨xs,t14.c,small1000 (by omega),kN _ _ ⟨_,_,_,_,_,_,_,_,rfl,tt,?_,?_,?_,?_,hn.snoc (by omega) hn1⟩⟩
   ·rw[List.length_append,cl];rfl
   ·rw[List.length_append,rl];rfl
   ·intro c hc
    rcases List.mem_append.mp hc with hc | hc
    ·exact hG c hc
    ·rw[List.mem_singleton.mp hc]
     exact⟨da,g2,g3⟩
   ·intro q hq
    rcases List.mem_append.mp hq with hq | hq
    ·exact hr q hq
    ·rw[List.mem_singleton.mp hq]
     exact hw
  ·refine⟨_,rfl,(m:Int),rfl,by omega,by omega,fun l hl=>?_⟩
   refine comp_rangeR (k:=((m:Nat):Int).toNat) (fun a acc H8=>Same H7 H8∧H8 l=some (.lst acc)∧RowU UM 115 H8 acc (List.replicate a (0,1))) ⟨Same.new hl,upd_same,RowU.nil⟩ ?_ ?_
   ·rintro a acc H8 ha ⟨s8,hl8,hR8⟩
    simp only[gName_ap,tYes,if_true]
    refine⟨by decide,fun q hq=>?_⟩
    have s9:=Same.new (o:=.tup [.int 0,.int 1]) hq
    have nq:q≠l:=fun z=>by rw[z,hl8] at hq;cases hq
    have l9:=s9 _ _ hl8
    have len:=hR8.1
    rw[List.length_replicate] at len
    refine⟨l9,small1000 (by omega),?_,upd_same,?_⟩
    ·intro b o hb
     rw[upd_ne (fun z=>by rw[z,hl] at hb;cases hb)]
     exact s9 _ _ (s8 _ _ hb)
    ·rw[List.replicate_succ']
     exact ((hR8.ts (TS.of s9)).ts (TS.lst l9)).snoc (by rw[upd_ne nq,upd_same]) zero_pt
   ·rintro acc H8 ⟨s8,hl8,hR8⟩
    have t8:=t7.same s8
    have em:((m:Nat):Int).toNat=m:=Int.toNat_natCast m
    rw[em] at hR8
    have f1:=s8 _ _ e1
    have f2:=s8 _ _ e2
    have f3:=s8 _ _ e3
    have lB:=t7.b.ne hl
    have lL:=t7.b.neL hl
    have lF:l≠F:=fun z=>by rw[z,t7.f] at hl;cases hl
    have lC:l≠C:=fun z=>by rw[z,t7.c] at hl;cases hl
    have lZ:l≠Z:=fun z=>by rw[z,t7.z] at hl;cases hl
    have lz:=t7.hZ.fresh hl
    have l0:H l=none:=free _ _ t7.fr lB hl
    have hw:RwOk m (List.replicate m ((0,1):Int×Int)):=⟨List.length_replicate,fun p hp=>by rw[List.eq_of_mem_replicate hp];decide⟩
    have hn1:Nt1 C0.hp (List.replicate m ((0,1):Int×Int)):=Nt1.rep
    generalize List.replicate m ((0,1):Int×Int)=row0 at hR8 hw hn1
    simp only[gName_ap]
    clear s8 t7 hl em e1 e2 e3 cl rl hG hr hG6 free hn
    refine⟨_,rfl,rc,_,1,_,rfl,rfl,seqAt_tup f1,rfl,kc,rfl,⟨_,SqT.of f3⟩,for_tupN (K:=K) (a:=kc) (xs:=C0.hp.map V.int) (fun j σ H'=>∃ ys row v8,σ=[some (.ref B),some (.int (m:Int)),some (.int sc),some (.int un),some (.ref C),some (.ref Z),some (.ref rc),some (.ref l),v8,v9,none]∧Tb H B L F C Z xs0 cs0 xs cs zs rss H'∧H' rc=some (.tup [.ref pc,.ref kc,.int C0.rk])∧H' pc=some (.tup [.int C0.n,.int C0.u])∧H' kc=some (.tup (C0.hp.map V.int))∧H' l=some (.lst ys)∧RowU UM 115 H' ys row∧RwOk m row∧Nt1 C0.hp row) ⟨acc,row0,_,rfl,t8,f1,f2,f3,hl8,hR8,hw,hn1⟩ (fun j σ H' _ ⟨_,_,_,_,_,_,_,z,_⟩=>SqT.of z) ?_ ?_⟩
    ·clear t8 f1 f2 f3 hl8 hR8 hw hn1
     rintro j y σ H9 NN BB hy ⟨ys,row,v8,rfl,t9,k1,k2,k3,hl9,hR9,hw,hn1⟩ kN kB
     clear kB
     obtain⟨hj,rfl⟩:=int_at hy
     obtain⟨x0,x1⟩:=g3.1 C0.hp[j] (List.getElem_mem hj)
     have xm:=List.getElem_mem hj
     generalize C0.hp[j]=X at x0 x1 xm ⊢
     clear hy key key'
     simp only[gName_ap]
     k_extra "rd"
     refine⟨B,sc+1,L,rfl,t9.b,by omega,Sz.mono (j:=31) (Sz.of (by omega)) (by decide),fun d H10 d0 d1 b10 f10=>?_⟩
     have s10:=TS.fr t9.b f10
     have t10:=t9.pull tn f10 b10
     have k1:=s10 _ _ k1
     have k2:=s10 _ _ k2
     have k3:=s10 _ _ k3
     have hl10:=f10 _ _ lB hl9
     have hR10:=hR9.ts s10
     clear s10 t9 f10 b10 hl9 hR9
     k_extra "rd"
     refine⟨B,2,L,rfl,t10.b,by decide,by decide,fun d2 H11 c0 c1 b11 f11=>?_⟩
     have s11:=TS.fr t10.b f11
     have t11:=t10.pull tn f11 b11
     have k1:=s11 _ _ k1
     have k2:=s11 _ _ k2
     have k3:=s11 _ _ k3
     have hl11:=f11 _ _ lB hl10
     have hR11:=hR10.ts s11
     have om:IntMulOk d d2:=(Sz.of (k:=31) (by omega):Sz 31 d).ok (Sz.of (k:=2) (by omega)) (by decide)
     have dd:0≤d*d2∧d*d2≤1000000000:=by
      have:d2=0∨d2=1:=by omega
      rcases this with rfl | rfl<;>omega
     clear s11 t10 f11 b11 hl10 hR10
     k_extra "rd"
     refine⟨B,un,L,rfl,t11.b,hu1,Sz.mono (j:=6) (Sz.of (by omega)) (by decide),fun d3 H12 e0 e1 b12 f12=>?_⟩
     have s12:=TS.fr t11.b f12
     have t12:=t11.pull tn f12 b12
     have k1:=s12 _ _ k1
     have k2:=s12 _ _ k2
     have k3:=s12 _ _ k3
     have hl12:=f12 _ _ lB hl11
     have hR12:=hR11.ts s12
     clear s12 t11 f12 b12 hl11 hR11
     k_extra "rd"
     refine⟨_,_,rfl,by omega,Sz.mono (j:=7) (Sz.of (by omega)) (by decide),fun q hq=>?_⟩
     have du:=du_of dd.1 dd.2 (by omega:0 < 1+d3) (by omega)
     have s13:=Same.new (o:=.tup [.int (lowN (d*d2) (1+d3)),.int (lowU (d*d2) (1+d3))]) hq
     have t13:=t12.same s13
     have k1:=s13 _ _ k1
     have k2:=s13 _ _ k2
     have k3:=s13 _ _ k3
     have hl13:=s13 _ _ hl12
     have hR13:=hR12.ts (TS.of s13)
     have q13:upd H12 q (.tup [.int (lowN (d*d2) (1+d3)),.int (lowU (d*d2) (1+d3))]) q=_:=upd_same
     generalize upd H12 q (.tup [.int (lowN (d*d2) (1+d3)),.int (lowU (d*d2) (1+d3))])=H13 at t13 k1 k2 k3 hl13 hR13 q13 ⊢
     clear s13 t12 hl12 hR12 hq
     have hyl:ys.length=m:=by rw[hR13.1,hw.1]
     have hx:ixN ys.length X=some X.toNat:=by
      unfold ixN
      rw[if_pos (by omega),if_pos (by omega)]
     have nt:∀ a xs,H13 a=some (.tup xs)→a≠l:=fun a xs ha z=>by rw[z,hl13] at ha;cases ha
     refine⟨ys,hl13,X.toNat,hx,kN _ _ ⟨ys.set X.toNat (.ref q),row.set X.toNat (lowN (d*d2) (1+d3),lowU (d*d2) (1+d3)),_,rfl,t13.row hl13 lB lL lF lC lZ lz l0,by rw[upd_ne (nt _ _ k1)];exact k1,by rw[upd_ne (nt _ _ k2)];exact k2,by rw[upd_ne (nt _ _ k3)];exact k3,upd_same,?_,?_,hn1.put xm x0⟩⟩
     ·exact (hR13.ts (TS.lst hl13)).set (by rw[upd_ne (nt _ _ q13)];exact q13) du.pt
     ·refine⟨by rw[List.length_set];exact hw.1,fun p hp=>?_⟩
      rcases List.mem_or_eq_of_mem_set hp with hp | hp
      ·exact hw.2 p hp
      ·rw[hp];exact du.nn
    ·rintro σ H9 ⟨ys,row,v8,rfl,t9,k1,k2,k3,hl9,hR9,hw,hn1⟩
     exact key' _ _ ⟨l,ys,row,_,rfl,t9,k1,k2,k3,hl9,hR9,⟨hw,hn1⟩,lB,lL,lF,lC,lZ,lz,l0⟩
 ·rintro σ H7 ⟨xs,cs,zs,rss,v6,v7,v8,v9,rfl,t7,cl,rl,hG,hr,hn⟩
  have hl0:=t7.hF.1
  exact key _ _ ⟨m,sc,un,F,C,Z,xs0,cs0,xs,cs,zs,rss,_,_,_,_,rfl,t7,tn,m6,by omega,by omega,hG,hr,hn⟩
theorem ok__law_case(D:DefAt K mg "_law_case" s__law_case f fd)(T:Txt K mg cx)(d__law_many:DefOk P w K mg base CX0 2 "_law_many" ["_law_bag_here"] sp__law_many)(d__law_pull:DefOk P w K mg base CX0 1 "_law_pull" ["_law_bag_here","_law_many_here"] sp__law_pull)(d__law_tabled:DefOk P w K mg base CX0 5 "_law_tabled" ["_law_bag_here"] sp__law_tabled)(d__law_worths:DefOk P w K mg base CX0 2 "_law_worths" ["_law_bag_here","_law_many_here"] sp__law_worths)(d__law_claims:DefOk P w K mg base CX0 4 "_law_claims" ["_law_bag_here","_law_many_here"] sp__law_claims):DefOk P w K mg base CX0 6 "_law_case" ["_law_bag_here"] sp__law_case:=by
 refine D.ok (D.q sc__law_case (fun vs H Q E h=>?_) (fun cdv A outer s H vs Q E hr h=>?_)) (D.fn.binds fun _ _ _ _ _ _ us hl=>match us,hl with | [_],_=>rfl)
 ·obtain⟨_,_,rfl,_⟩:=h
  rfl
 obtain⟨B,L,rfl,hB,hQ⟩:=h
 refine⟨_,(qss_cons (qs_if (qt_cmpR op_eq (qe_d d__law_pull hr.le pass0 (by rfl) (qa_cons (qv 0) (qa_cons qe_int qa_nil))) qe_int (nomark _)) (qss_cons (qs_asg (qe_d d__law_tabled hr.le pass0 (by rfl) (qa_cons (qv 0) qa_nil)) (qg_tupK (K:=K) (n:=4) rfl rfl (qgs_cons (qg_name (i:=1) sc__law_case.nd rfl (Or.inl rfl)) (qgs_cons (qg_name (i:=2) sc__law_case.nd rfl (Or.inl rfl)) (qgs_cons (qg_name (i:=3) sc__law_case.nd rfl (Or.inl rfl)) (qgs_cons (qg_name (i:=4) sc__law_case.nd rfl (Or.inl rfl)) qgs_nil))))))
   (qss_one (qs_ret (qe_tup (qa_cons (qv 1) (qa_cons (qv 2) qa_nil)))))) qss_nil)
   (qss_cons (qs_set (i:=5) sc__law_case.nd rfl (Or.inl rfl) (qe_d d__law_many hr.le pass0 (by rfl) (qa_cons (qv 0) qa_nil)))
   (qss_one (qs_ret (qe_tup (qa_cons (qe_d d__law_worths hr.le pass0 (by rfl) (qa_cons (qv 0) (qa_cons (qv 5) qa_nil))) (qa_cons (qe_d d__law_claims hr.le pass0 (by rfl) (qa_cons (qv 0) (qa_cons (qv 5) qa_nil))) qa_nil))))))),?_⟩
 k_extra "rx"
 refine⟨B,2,L,rfl,hB,by decide,by decide,fun d H1 d0 d1 b1 f1=>?_⟩
 k_extra "rx"
 refine⟨rfl,?_⟩
 refine⟨_,rfl,brkD (fun h1=>?_) (fun h1=>?_)⟩
 ·k_extra "rx"
  refine⟨B,L,rfl,b1,fun T W C P Z ws xs cs ys ps zs rss H2 tf hT=>?_⟩
  refine⟨T,_,rfl,SqT.of hT,rfl,_,_,rfl,_,_,rfl,_,_,rfl,_,_,rfl,rfl,?_⟩
  have wB:=b1.ne tf.w0
  have cB:=b1.ne tf.c0
  dsimp only
  k_extra "rx"
  refine i_NewO (Nat.le_of_ble_eq_true rfl) fun T2 H3 hT2 s3 hT2'=>?_
  refine hQ T2 W C ws xs cs H3 ⟨tf.b.keep s3,(f1.trans tf.fr).trans (Fr1.of s3),(⟨tf.w,tf.c,tf.hC⟩:ShIn W C ws xs cs H2).same s3,⟨um_ok.pos,by decide,fun c hc=>?_,tf.c16,tf.w6,fun x hx=>(tf.wsz x hx).2.mono (by decide)⟩,fun x hx=>(tf.wsz x hx).1,wB,cB,fun c hc=>⟨(tf.hG c hc).1.pt,(tf.hG c hc).2.2.2,(tf.hG c hc).2.2.1⟩,fun x hx=>(tf.wsz x hx).2⟩ hT2'
  have g:=tf.hG c hc
  exact⟨g.1.pt.mono (by decide),g.1.nn,g.2.1⟩
 ·k_extra "rx"
  refine⟨B,L,rfl,b1,fun m H2 m0 m6 b2 f2=>?_⟩
  k_extra "rx"
  refine⟨B,m,L,rfl,b2,m0,m6,fun W ws H3 nW b3 f3 hW hwl hwz=>?_⟩
  have wB:=b2.ne nW
  k_extra "rx"
  refine⟨B,m,L,rfl,b3,m0,m6,fun C xs cs H4 nC b4 f4 hC hCl l16 hG=>?_⟩
  have cB:=b3.ne nC
  k_extra "rx"
  refine i_NewO (Nat.le_of_ble_eq_true rfl) fun T2 H5 hT2 s5 hT2'=>?_
  refine hQ T2 W C ws xs cs H5 ⟨b4.keep s5,(((f1.trans f2).trans f3).trans f4).trans (Fr1.of s5),(⟨f4 _ _ wB hW,hC,hCl⟩:ShIn W C ws xs cs H4).same s5,⟨um_ok.pos,by decide,fun c hc=>?_,l16,by omega,fun x hx=>(hwz x hx).2.mono (by decide)⟩,fun x hx=>(hwz x hx).1,wB,cB,fun c hc=>⟨(hG c hc).1.pt.mono (by decide),(hG c hc).2.2.2,by rw[hwl];exact (hG c hc).2.2.1⟩,fun x hx=>(hwz x hx).2.mono (by decide)⟩ hT2'
  have g:=hG c hc
  exact⟨g.1.pt.mono (by decide),g.1.nn,g.2.1⟩
theorem ok__law_claims(D:DefAt K mg "_law_claims" s__law_claims f fd)(T:Txt K mg cx)(d__law_pull:DefOk P w K mg base CX0 1 "_law_pull" ["_law_bag_here","_law_many_here"] sp__law_pull)(d__law_due:DefOk P w K mg base CX0 3 "_law_due" ["_law_bag_here","_law_scale"] sp__law_due)(d__law_heap:DefOk P w K mg base CX0 2 "_law_heap" ["_law_bag_here","_law_many_here"] sp__law_heap):DefOk P w K mg base CX0 4 "_law_claims" ["_law_bag_here","_law_many_here"] sp__law_claims:=by
 refine D.ok (D.q sc__law_claims (fun vs H Q E h=>?_) (fun cdv A outer s H vs Q E hr h=>?_)) (D.fn.binds fun _ _ _ _ _ _ us hl=>match us,hl with | [_,_],_=>rfl)
 ·obtain⟨_,_,_,rfl,_⟩:=h
  rfl
 obtain⟨B,m,L,rfl,hB,m0,m6,hQ⟩:=h
 refine⟨_,(qss_cons (qs_set (i:=2) sc__law_claims.nd rfl (Or.inl rfl) (qe_ix ix_seqA (qe_lst (qa_cons qe_int (qa_cons qe_int (qa_cons qe_int (qa_cons (qe_op op_pow qe_int qe_int) qa_nil))))) (qe_d d__law_pull hr.le pass0 (by rfl) (qa_cons (qv 0) (qa_cons qe_int qa_nil))) (fun _ _=>rfl)))
   (qss_cons (qs_setC (k:=3) ["_law_k"] [("_law_bag_here", 0)] sc__law_claims.nd rfl rfl rfl (qi_range1 (by rfl) T.n_range (qa_cons (qe_ix ix_seqA (qe_lst (qa_cons qe_int (qa_cons qe_int (qa_cons qe_int (qa_cons qe_int qa_nil))))) (qe_d d__law_pull hr.le pass0 (by rfl) (qa_cons (qv 0) (qa_cons qe_int qa_nil))) (fun _ _=>rfl)) qa_nil)) (gext_name (by decide)) (fun cl C fp s2 H2=>⟨(qg_name (i:=0) (show (["_law_k","_law_bag_here"]:List Str).Nodup by decide +kernel) rfl (Or.inl rfl)),qf_nil,(qe_op op_sub (qe_d d__law_pull hr.le pass0 (by rfl) (qa_cons (qv 1) (qa_cons qe_int qa_nil))) qe_int)⟩) rfl (by decide +kernel) (by decide +kernel) (free_of (by rfl)) (fr_of (by rfl)))
   (qss_cons (qs_set (i:=4) sc__law_claims.nd rfl (Or.inl rfl) (qe_lst qa_nil))
   (qss_cons (qs_for PassesOwn.never rfl (qi_range1 (by rfl) T.n_range (qa_cons (qe_ix ix_seqA (qe_lst (qa_cons qe_int (qa_cons qe_int (qa_cons qe_int (qa_cons qe_int (qa_cons qe_int (qa_cons qe_int (qa_cons qe_int (qa_cons qe_int (qa_cons qe_int (qa_cons qe_int qa_nil))))))))))) (qe_d d__law_pull hr.le pass0 (by rfl) (qa_cons (qv 0) (qa_cons qe_int qa_nil))) (fun _ _=>rfl)) qa_nil)) (qg_name (i:=5) sc__law_claims.nd rfl (Or.inl rfl)) (qss_one (qs_if (qw_and (qt_cmpR (op_neD hr.units) (qv 4) (qe_lst qa_nil) (nomark _)) (qw_and1 (qt_cmpR op_eq (qe_d d__law_pull hr.le pass0 (by rfl) (qa_cons (qv 0) (qa_cons qe_int qa_nil))) qe_int (nomark _)))).pt (qss_one (qs_expr (qe_bmK (K:=K) rfl PySem.F.plainAttrs_list PySem.F.slot_list_append PySem.F.type_list_append mt_append (qv 4) (qa_cons (qe_ix ix_seqA (qv 4) (qe_d d__law_pull hr.le pass0 (by rfl) (qa_cons (qv 0) (qa_cons (qe_callB call_lenF (by rfl) T.n_len bt_len (qa_cons (qv 4) qa_nil)) qa_nil))) (fun _ _=>rfl)) qa_nil)))) (qss_one (qs_expr (qe_bmK (K:=K) rfl PySem.F.plainAttrs_list PySem.F.slot_list_append PySem.F.type_list_append mt_append (qv 4) (qa_cons (qe_tup (qa_cons (qe_d d__law_due hr.le pass0 (by rfl) (qa_cons (qv 0) (qa_cons (qv 2) qa_nil))) (qa_cons (qe_d d__law_heap hr.le pass0 (by rfl) (qa_cons (qv 0) (qa_cons (qv 1) qa_nil))) (qa_cons (qe_ix ix_seqA (qv 3) (qe_d d__law_pull hr.le pass0 (by rfl) (qa_cons (qv 0) (qa_cons (qe_callB call_lenF (by rfl) T.n_len bt_len (qa_cons (qv 3) qa_nil)) qa_nil))) (fun _ _=>rfl)) qa_nil)))) qa_nil)))))))
   (qss_one (qs_ret (qv 4))))))),?_⟩
 k_extra "rx"
 refine i_NewO (by decide) fun p H1 hp s1 hp1=>?_
 k_extra "rx"
 refine⟨B,4,L,rfl,hB.keep s1,by decide,by decide,fun d H2 d0 d1 b2 f2=>?_⟩
 obtain⟨sc,ex,hx1,hx2⟩:=pick (P:=fun x=>0≤x∧x≤1000000000) [12,3,100,10 ^ 9] d0 d1 (by decide)
 refine i_ixL (f2 p _ (hB.ne hp) hp1) ex ?_
 have f12:Fr1 B H H2:=(Fr1.of s1).trans f2
 clear ex f2 hp1 s1 hp
 k_extra "rx"
 refine⟨by show 4≤sizeLine;decide,fun q hq=>⟨_,rfl,B,4,L,rfl,b2.new hq,by decide,by decide,fun d6 H3 g0 g1 b3 f3=>?_⟩⟩
 have hq3:=f3 q _ (b2.ne hq) upd_same
 have f13:Fr1 B H H3:=f12.trans ((Fr1.new hq).trans f3)
 obtain⟨nr,ex2,hr1,hr2⟩:=pick (P:=fun x=>0 < x∧x≤16) [1,2,3,16] g0 g1 (by decide)
 refine⟨q,_,d6,_,rfl,rfl,seqAt_lst hq3,ex2,nr,rfl,by omega,by omega,fun l hl=>?_⟩
 clear ex2 hq3 f3 hq f12 b2 d0 d1 g0 g1
 have nlB:=b3.ne hl
 have nlL:=b3.neL hl
 have nl0:H l=none:=fr_none f13 nlB hl
 refine comp_rangeR (k:=nr.toNat) (fun i acc H4=>∃ rs:List Int,acc=rs.map V.int∧rs.length=i∧(∀ r∈rs,Sz 10 r)∧BagAt H4 B L∧Fr1 B H H4∧H4 l=some (.lst acc)) ⟨[],rfl,rfl,(fun r h=>by cases h),b3.new hl,f13.trans (Fr1.new hl),upd_same⟩ ?_ ?_
 ·rintro i acc H4 hi ⟨rs,rfl,hlen,hrz,b4,f4,hl4⟩
  refine i_gName (i_yes ?_)
  rw[if_pos rfl]
  k_extra "rx"
  refine⟨B,30,L,rfl,b4,by decide,by decide,fun d5 H5 e0 e1 b5 f5=>?_⟩
  k_extra "rx"
  exact⟨f5 _ _ nlB hl4,small1000 (by rw[List.length_map];omega),rs++[d5 - 9],by rw[List.map_append];rfl,by rw[List.length_append,hlen];rfl,(fun r hr=>by rcases List.mem_append.mp hr with hr | hr;exact hrz r hr;rw[List.mem_singleton.mp hr];exact (Sz.of (k:=6) (by omega):Sz 6 (d5 - 9)).mono (by decide)),b5.put nlB nlL,fr_new (f4.trans f5) Fr1.upd nl0,upd_same⟩
 ·rintro acc H4 ⟨rs,rfl,hrs,hrz,b4,f4,hl4⟩
  clear b3 f13 hl
  k_extra "rx"
  refine i_NewO (by decide) fun F H5 hF s5 hF5=>?_
  have nFB:=b4.ne hF
  have nFL:=b4.neL hF
  have nFl:F≠l:=fun z=>by rw[z,hl4] at hF;cases hF
  have nF0:H F=none:=fr_none f4 nFB hF
  have b5:=b4.keep s5
  have f5:Fr1 B H H5:=f4.trans (Fr1.of s5)
  have hl5:=s5 _ _ hl4
  clear b4 f4 hl4 hF s5
  k_extra "rx"
  refine⟨by show 10≤sizeLine;decide,fun q hq=>⟨_,rfl,B,10,L,rfl,b5.new hq,by decide,by decide,fun d6 H6 g0 g1 b6 f6=>?_⟩⟩
  have hq6:=f6 q _ (b5.ne hq) upd_same
  have s5:=Same.new (o:=.lst [.int 4,.int 3,.int 5,.int 2,.int 1,.int 6,.int 8,.int 0,.int 11,.int 16]) hq
  have hl6:=f6 _ _ nlB (s5 _ _ hl5)
  have hF6:=f6 _ _ nFB (s5 _ _ hF5)
  have F6:Fr1 B H H6:=f5.trans ((Fr1.new hq).trans f6)
  obtain⟨nc,ex3,hc1,hc2⟩:=pick (P:=fun x=>0≤x∧x≤16) [4,3,5,2,1,6,8,0,11,16] g0 g1 (by decide)
  refine⟨q,_,d6,_,rfl,rfl,seqAt_lst hq6,ex3,nc,rfl,by omega,by omega,for_rangeN (lo:=0) (n:=nc.toNat) (fun i σ H7=>∃ xs cs v,σ=[some (.ref B),some (.int m),some (.int sc),some (.ref l),some (.ref F),v]∧Fr1 B H H7∧BagAt H7 B L∧H7 l=some (.lst (rs.map V.int))∧H7 F=some (.lst xs)∧ClsAt H7 xs cs∧cs.length=i∧∀ c∈cs,GoodU2 UM 115 m c)
   ⟨[],[],none,rfl,F6,b6,hl6,hF6,ClsAt.nil,rfl,fun c hc=>by cases hc⟩ ?_ ?_⟩
  ·clear ex3 hq6 s5 hl6 hF6 F6 b6 f6 hq hl5 hF5 f5 b5 g0 g1
   rintro i σ H7 NN BB hi ⟨xs,cs,v,rfl,F7,b7,hl7,hF7,hC7,hlen,hG⟩ kN kB
   clear kB
   have hxl:xs.length=i:=by rw[hC7.1];exact hlen
   have fin:∀(H8:Hp)(v':V)(c':Cl)(w5:Option V),Fr1 B H H8→BagAt H8 B L→H8 l=some (.lst (rs.map V.int))→H8 F=some (.lst xs)→ClsAt H8 xs cs→ClAt H8 v' c'→GoodU2 UM 115 m c' →
     rAppend (.ref F) [v'] H8 fun _ H9=>NN [some (.ref B),some (.int m),some (.int sc),some (.ref l),some (.ref F),w5] H9:=fun H8 v' c' w5 F8 b8 hl8 hF8 hC8 c8 g8=>by
    refine i_app hF8 (by omega) fun H9 hF9 f9=>kN _ _ ⟨_,cs++[c'],_,rfl,fr_new F8 f9 nF0,b8.frm f9 nFB nFL,f9 _ _ nFl.symm hl8,hF9,(hC8.ts (TS.frl hF8 f9)).snoc (c8.ts (TS.frl hF8 f9)),by rw[List.length_append,hlen];rfl,fun c hc=>?_⟩
    rcases List.mem_append.mp hc with hc | hc
    ·exact hG c hc
    ·rw[List.mem_singleton.mp hc];exact g8
   refine i_gName ?_
   refine if_cut (fun H8=>BagAt H8 B L∧H8 F=some (.lst xs)∧H8 l=some (.lst (rs.map V.int))∧ClsAt H8 xs cs∧Fr1 B H H8) ?_ fun u' ku=>?_
   ·rintro H8 ⟨b8,hF8,hl8,hC8,F8⟩
    k_extra "rx"
    refine i_tBM ?_
    k_extra "rx"
    refine⟨.inl ⟨rfl,_,SqL.of hF8⟩,?_⟩
    k_extra "rx"
    refine⟨B,sc,L,rfl,b8,hx1,hx2,fun pd n u H9x np b9x f9x hp9x du=>?_⟩
    have t9x:=TS.fr b8 f9x
    have hF9x:=f9x _ _ nFB hF8
    have hl9x:=f9x _ _ nlB hl8
    have hC9x:=hC8.ts t9x
    have F9x:=F8.trans f9x
    clear np t9x
    k_extra "rx"
    refine⟨B,m,L,rfl,b9x,m0,m6,fun th hs H10 nt b10 f10 ht10 hl10 hb10=>?_⟩
    have t10:=TS.fr b9x f10
    have hF10:=f10 _ _ nFB hF9x
    have hll:=f10 _ _ nlB hl9x
    have hC10:=hC9x.ts t10
    have F10:=F9x.trans f10
    have hp10:=t10 _ _ hp9x
    clear nt t10 hF9x hl9x hC9x F9x hp9x
    k_extra "rx"
    refine⟨B,_,L,rfl,b10,by rw[List.length_map];omega,Sz.mono (j:=6) (Sz.of (by rw[List.length_map];omega)) (by decide),fun j H11 j0 j1 b11 f11=>?_⟩
    have t11:=TS.fr b10 f11
    have hp11:=t11 _ _ hp10
    have ht11:=t11 _ _ ht10
    rw[List.length_map] at j1
    refine i_ixL (f11 _ _ nlB hll) (atI_ints (ws:=rs) j0 j1) ?_
    k_extra "rx"
    refine i_NewO (by show 3≤64;decide) fun r H12 hr s12 hr12=>?_
    exact fin H12 _ ⟨n,u,hs,rs.getD j.toNat 0⟩ _ ((F10.trans f11).trans (Fr1.of s12)) (b11.keep s12) (s12 _ _ (f11 _ _ nlB hll)) (s12 _ _ (f11 _ _ nFB hF10)) ((hC10.ts t11).ts (TS.of s12)) ⟨r,pd,th,rfl,hr12,s12 _ _ hp11,s12 _ _ ht11⟩ ⟨du,hl10,hb10,rk_at hrz (by omega)⟩
   k_extra "rx"
   refine i_NewO (by decide) fun e H8 he s8 he8=>?_
   have hF8:=s8 _ _ hF7
   have hl8:=s8 _ _ hl7
   have hC8:=hC7.ts (TS.of s8)
   have b8:=b7.keep s8
   have F8:=F7.trans (Fr1.of s8)
   refine⟨.lst (cs.map cD),.lst [],den_lst hF8 hC8.dens,den_lst he8 dens0,fun _ j d e h1 h2=>by simp at h2,?_⟩
   clear s8 hF7 hl7 hC7 b7 F7 he he8
   k_extra "rx"
   refine brkNB (fun h1=>?_) (fun h1=>?_)
   ·have hpos:0 < xs.length:=by
     rcases Nat.eq_zero_or_pos xs.length with z | z
     ·exfalso
      have z2:cs=[]:=List.length_eq_zero_iff.mp (by rw[← hC8.1];exact z)
      simp[z2] at h1
     ·exact z
    k_extra "rx"
    refine⟨B,7,L,rfl,b8,by decide,by decide,fun d9 H9 k0 k1 b9 f9=>?_⟩
    have t9:=TS.fr b8 f9
    have gF:=f9 _ _ nFB hF8
    have gl:=f9 _ _ nlB hl8
    have gC:=hC8.ts t9
    have gFr:=F8.trans f9
    clear t9 hF8 hl8 hC8 b8 F8 f9
    k_extra "rx"
    refine⟨rfl,?_⟩
    k_extra "rx"
    refine brkD (fun h2=>?_) (fun h2=>?_)
    ·k_extra "rx"
     refine i_tBM ?_
     k_extra "rx"
     refine⟨.inl ⟨rfl,_,SqL.of gF⟩,?_⟩
     k_extra "rx"
     refine⟨B,_,L,rfl,b9,by omega,Sz.mono (j:=6) (Sz.of (by omega)) (by decide),fun j H10 j0 j1 b10 f10=>?_⟩
     have gC10:=gC.ts (TS.fr b9 f10)
     have hj:j.toNat < cs.length:=by rw[← gC.1];omega
     obtain⟨v',ev,hv'⟩:=gC10.2 j.toNat cs[j.toNat] (List.getElem?_eq_getElem hj)
     have ej:atI xs j=some v':=by
      have:=atI_nat ev
      rwa [Int.toNat_of_nonneg j0] at this
     refine i_ixL (f10 _ _ nFB gF) ej ?_
     exact fin _ _ _ _ (gFr.trans f10) b10 (f10 _ _ nlB gl) (f10 _ _ nFB gF) gC10 hv' (hG _ (List.getElem_mem hj))
    ·exact ku _ ⟨b9,gF,gl,gC,gFr⟩
   ·k_extra "rx"
    exact ku _ ⟨b8,hF8,hl8,hC8,F8⟩
  ·rintro σ H7 ⟨xs,cs,v,rfl,F7,b7,hl7,hF7,hC7,hlen,hG⟩
   exact⟨_,rfl,hQ F xs cs H7 nF0 b7 F7 hF7 hC7 (by omega) hG⟩
theorem ok__law_need(D:DefAt K mg "_law_need" s__law_need f fd)(T:Txt K mg cx)(d__law_sum:DefOk P w K mg base CX0 4 "_law_sum" ["_law_row_here"] sp__law_sum)(d__law_lies:DefOk P w K mg base CX0 1 "_law_lies" ["_law_touched","_law_heap_here"] sp__law_lies):DefOk P w K mg base CX0 5 "_law_need" ["_law_claims_here","_law_places","_law_heap_here"] sp__law_need:=by
 refine D.ok (D.q sc__law_need (fun vs H Q E h=>?_) (fun cdv A outer s H vs Q E hr h=>?_)) (D.fn.binds fun _ _ _ _ _ _ us hl=>match us,hl with | [_,_,_],_=>rfl)
 ·obtain⟨_,_,_,_,_,_,_,_,_,_,_,_,_,_,rfl,_⟩:=h
  rfl
 obtain⟨w,c,p,pl,h,U,k,ws,xs,cs,ys,ps,q,hs,rfl,x,hh,hQ⟩:=h
 refine⟨_,(qss_one (qs_ret (qe_d d__law_sum hr.le pass0 (by rfl) (qa_cons (qe_comp ["_law_at"] [("_law_claims_here", 0),("_law_heap_here", 2)] rfl (qi_listK (K:=K) rfl (qv 1)) (gext_name (by decide)) (fun cl C fp s2 H2=>⟨(qg_name (i:=0) (show (["_law_at","_law_claims_here","_law_heap_here"]:List Str).Nodup by decide +kernel) rfl (Or.inl rfl)),(qf_one (qt_val (qe_d d__law_lies hr.le pass0 (by rfl) (qa_cons (qe_ix ix_seqA (qe_ix ix_seqA (qv 1) (qv 0) (fun _ _=>rfl)) qe_int (fun _ _=>rfl)) (qa_cons (qv 2) qa_nil))))),(qe_ix ix_seqA (qe_ix ix_seqA (qv 1) (qv 0) (fun _ _=>rfl)) qe_int (fun _ _=>rfl))⟩) rfl (by decide +kernel) (by decide +kernel) (free_of (by rfl)) (fr_of (by rfl))) qa_nil)))),?_⟩
 have xpl:H pl=some (.lst (((List.range cs.length).filter q).map fun i:Nat=>V.int (i:Int))):=by
  have:=x.pl
  unfold plV plL at this
  rwa [List.map_map] at this
 refine⟨_,rfl,pl,rfl,⟨_,SqL.of xpl⟩,fun l hl=>?_⟩
 refine comp_listR (K:=K) (a:=pl) (xs:=((List.range cs.length).filter q).map fun i:Nat=>V.int (i:Int)) (fun a acc H2=>Same H H2∧H2 l=some (.lst acc)∧RowU U k H2 acc (((((List.range cs.length).filter q).take a).filter (inn cs hs)).map (dueP cs))) ⟨Same.new hl,upd_same,RowU.nil⟩ (fun a acc H2 _ ⟨s2,_,_⟩=>SqL.of (s2 _ _ xpl)) ?_ ?_
 ·rintro a y acc H2 hy ⟨s2,hl2,hR⟩
  have al:=(List.getElem?_eq_some_iff.mp hy).1
  rw[List.length_map] at al
  rw[List.getElem?_map,List.getElem?_eq_getElem al] at hy
  cases hy
  have hi:((List.range cs.length).filter q)[a] < cs.length:=List.mem_range.mp (List.mem_filter.mp (List.getElem_mem al)).1
  rw[filt_take (inn cs hs) (dueP cs) al]
  have len:acc.length≤16:=by
   rw[hR.1,List.length_map]
   refine Nat.le_trans (List.length_filter_le _ _) ?_
   rw[List.length_take]
   have:=List.length_filter_le q (List.range cs.length)
   rw[List.length_range] at this
   have:=x.c16
   omega
  generalize ((List.range cs.length).filter q)[a]=i at hi ⊢
  generalize ((((List.range cs.length).filter q).take a).filter (inn cs hs)).map (dueP cs)=A' at hR ⊢
  obtain⟨v,ev,rc,pc,kc,rfl,e1,e2,e3⟩:=x.hC.2 i cs[i] (List.getElem?_eq_getElem hi)
  have a1:atI xs (i:Int)=some (.ref rc):=atI_nat ev
  have po:=x.dueAt hi
  have ein:inn cs hs i=lies cs[i].hp hs:=by unfold inn;rw[heapP_at hi]
  have h6:=(x.due _ (List.getElem_mem hi)).2
  rw[ein]
  rw[dueP_at hi] at po ⊢
  have g1:=s2 _ _ e1
  have g2:=s2 _ _ e2
  have g3:=s2 _ _ e3
  have gh:=s2 _ _ hh
  have gc:=s2 _ _ x.c
  generalize cs[i]=C at h6 g1 g2 g3 po ⊢
  clear e1 e2 e3 ev ein hQ xpl x
  simp only[gName_ap]
  k_extra "rd"
  refine⟨kc,h,C.hp,hs,rfl,g3,gh,h6,fun H3 s3=>?_⟩
  have k1:=s3 _ _ g1
  have k2:=s3 _ _ g2
  have kc':=s3 _ _ gc
  have kl:=s3 _ _ hl2
  have kR:=hR.ts (TS.of s3)
  have s23:=s2.trans s3
  clear g1 g2 g3 gh gc hl2 hR s2 s3
  cases e:lies C.hp hs with
  | true =>
   have nl:pc≠l:=fun z=>by rw[z,kl] at k2;cases k2
   k_extra "rd"
   refine⟨small1000 (by omega),?_,(kR.ts (TS.lst kl)).snoc (by rw[upd_ne nl];exact k2) po⟩
   intro b o hb
   rw[upd_ne (fun z=>by rw[z,hl] at hb;cases hb)]
   exact s23 _ _ hb
  | false =>
   k_extra "rd"
   rw[List.append_nil]
   exact kR
 ·rintro acc H2 ⟨s2,hl2,hR⟩
  rw[List.length_map,List.take_length] at hR
  have hk:=x.hk
  have len:((((List.range cs.length).filter q).filter (inn cs hs)).map (dueP cs)).length≤16:=by
   rw[List.length_map]
   have h1:=List.length_filter_le (inn cs hs) ((List.range cs.length).filter q)
   have h2:=List.length_filter_le q (List.range cs.length)
   rw[List.length_range] at h2
   have:=x.c16
   omega
  obtain⟨o1,o2⟩:=sum_ok x.hU.pos fun r hr=>(hR.mem r hr).toOk
  have z:=(sum_pt x.hU.pos hR.mem).mono (j:=4716) (by omega)
  rw[List.map_map] at o2
  exact⟨l,acc,_,U,k,rfl,hl2,x.hU,hR,by omega,len,fun r H3 s3 hr=>hQ r _ H3 (s2.trans s3) hr z (o2.trans need_eq)⟩
theorem ok__law_left(D:DefAt K mg "_law_left" s__law_left f fd)(T:Txt K mg cx)(d__law_less:DefOk P w K mg base CX0 3 "_law_less" ["_law_one","_law_other"] sp__law_less)(d__law_sum:DefOk P w K mg base CX0 4 "_law_sum" ["_law_row_here"] sp__law_sum)(d__law_worth:DefOk P w K mg base CX0 1 "_law_worth" ["_law_worths_here","_law_heap_here"] sp__law_worth)(d__law_lies:DefOk P w K mg base CX0 1 "_law_lies" ["_law_touched","_law_heap_here"] sp__law_lies):DefOk P w K mg base CX0 5 "_law_left" ["_law_worths_here","_law_claims_here","_law_parts","_law_places","_law_heap_here"] sp__law_left:=by
 refine D.ok (D.q sc__law_left (fun vs H Q E h=>?_) (fun cdv A outer s H vs Q E hr h=>?_)) (D.fn.binds fun _ _ _ _ _ _ us hl=>match us,hl with | [_,_,_,_,_],_=>rfl)
 ·obtain⟨_,_,_,_,_,_,_,_,_,_,_,_,_,_,rfl,_⟩:=h
  rfl
 obtain⟨w,c,p,pl,h,U,k,ws,xs,cs,ys,ps,q,hs,rfl,x,hh,h6,hb,hQ⟩:=h
 refine⟨_,(qss_cons (qs_setC (k:=5) ["_law_at"] [("_law_parts", 2),("_law_places", 3),("_law_claims_here", 1),("_law_heap_here", 4)] sc__law_left.nd rfl rfl rfl (qi_range1 (by rfl) T.n_range (qa_cons (qe_callB call_lenF (by rfl) T.n_len bt_len (qa_cons (qv 1) qa_nil)) qa_nil)) (gext_name (by decide)) (fun cl C fp s2 H2=>⟨(qg_name (i:=0) (show (["_law_at","_law_parts","_law_places","_law_claims_here","_law_heap_here"]:List Str).Nodup by decide +kernel) rfl (Or.inl rfl)),(qf_one (qw_and (qt_cmpR (op_notInK (K:=K) rfl) (qv 0) (qv 2) (by rfl)) (qw_and1 (qt_val (qe_d d__law_lies hr.le pass0 (by rfl) (qa_cons (qe_ix ix_seqA (qe_ix ix_seqA (qv 3) (qv 0) (fun _ _=>rfl)) qe_int (fun _ _=>rfl)) (qa_cons (qv 4) qa_nil)))))).pt),(qe_ix ix_seqA (qv 1) (qv 0) (fun _ _=>rfl))⟩) rfl (by decide +kernel) (by decide +kernel) (free_of (by rfl)) (fr_of (by rfl)))
   (qss_one (qs_ret (qe_d d__law_less hr.le pass0 (by rfl) (qa_cons (qe_tup (qa_cons (qe_d d__law_worth hr.le pass0 (by rfl) (qa_cons (qv 0) (qa_cons (qv 4) qa_nil))) (qa_cons qe_int qa_nil))) (qa_cons (qe_d d__law_sum hr.le pass0 (by rfl) (qa_cons (qv 5) qa_nil)) qa_nil)))))),?_⟩
 have hxl:xs.length=cs.length:=x.hC.1
 refine⟨_,rfl,c,_,rfl,seqAt_lst x.c,_,rfl,by omega,by rw[hxl];have:=x.c16;omega,fun l hl=>?_⟩
 refine comp_rangeR (k:=((xs.length:Nat):Int).toNat) (fun a acc H2=>Same H H2∧H2 l=some (.lst acc)∧RowU U k H2 acc (((List.range a).filter fun i=>!q i && inn cs hs i).map fun i=>ps.getD i (0,1))) ⟨Same.new hl,upd_same,RowU.nil⟩ ?_ ?_
 ·rintro i acc H2 hi0 ⟨s2,hl2,hR⟩
  have hi:i < cs.length:=by omega
  have hi2:i < ps.length:=by rw[← x.len];exact hi
  rw[filt_succ (fun i=>!q i && inn cs hs i) (fun i=>ps.getD i (0,1))]
  have len:acc.length≤16:=by
   rw[hR.1,List.length_map]
   refine Nat.le_trans (List.length_filter_le _ _) ?_
   rw[List.length_range]
   have:=x.c16
   omega
  generalize (((List.range i).filter fun i=>!q i && inn cs hs i).map fun i=>ps.getD i (0,1))=A' at hR ⊢
  obtain⟨v,ev,rc,pc,kc,rfl,e1,e2,e3⟩:=x.hC.2 i cs[i] (List.getElem?_eq_getElem hi)
  obtain⟨r,er,hr,po⟩:=x.hR.2 i ps[i] (List.getElem?_eq_getElem hi2)
  have a1:atI xs (0+(i:Int))=some (.ref rc):=by rw[Int.zero_add];exact atI_nat ev
  have a2:atI ys (0+(i:Int))=some (.ref r):=by rw[Int.zero_add];exact atI_nat er
  have ein:inn cs hs i=lies cs[i].hp hs:=by unfold inn;rw[heapP_at hi]
  have h6c:=(x.due _ (List.getElem_mem hi)).2
  have ep:ps.getD i (0,1)=ps[i]:=by simp[List.getD_eq_getElem?_getD,hi2]
  have ei:decide (0+(i:Int)∈plL cs.length q)=q i:=by rw[Int.zero_add];exact plL_mem hi
  rw[ein,ep]
  have g1:=s2 _ _ e1
  have g3:=s2 _ _ e3
  have gr:=s2 _ _ hr
  have gh:=s2 _ _ hh
  have gc:=s2 _ _ x.c
  have gp:=s2 _ _ x.p
  have gpl:=s2 _ _ x.pl
  generalize cs[i]=C at h6c g1 g3 ⊢
  generalize ps[i]=P at gr po ⊢
  clear e1 e2 e3 ev ein hQ x hr er ep
  simp only[gName_ap]
  refine⟨_,rfl,_,rfl,pl,plV _ q,rfl,.inl (SqL.of gpl),rfl,flat_plV,?_⟩
  unfold plV
  rw[inV_int,ei]
  clear gpl ei
  cases hq:q i with
  | true =>
   k_extra "rd"
   rw[List.append_nil]
   exact hR
  | false =>
   k_extra "rd"
   refine⟨kc,h,C.hp,hs,rfl,g3,gh,h6c,fun H3 s3=>?_⟩
   have kr:=s3 _ _ gr
   have kp:=s3 _ _ gp
   have kl:=s3 _ _ hl2
   have kR:=hR.ts (TS.of s3)
   have s23:=s2.trans s3
   clear g1 g3 gh gc gr gp hl2 hR s2 s3
   cases e:lies C.hp hs with
   | true =>
    have nl:r≠l:=fun z=>by rw[z,kl] at kr;cases kr
    k_extra "rd"
    refine⟨small1000 (by omega),?_,(kR.ts (TS.lst kl)).snoc (by rw[upd_ne nl];exact kr) po⟩
    intro b o hb
    rw[upd_ne (fun z=>by rw[z,hl] at hb;cases hb)]
    exact s23 _ _ hb
   | false =>
    k_extra "rd"
    rw[List.append_nil]
    exact kR
 ·rintro acc H2 ⟨s2,hl2,hR⟩
  have e0:((xs.length:Nat):Int).toNat=cs.length:=by rw[Int.toNat_natCast];exact hxl
  rw[e0] at hR
  have hk:=x.hk
  have len:(((List.range cs.length).filter fun i=>!q i && inn cs hs i).map fun i=>ps.getD i (0,1)).length≤16:=by
   rw[List.length_map]
   have h1:=List.length_filter_le (fun i=>!q i && inn cs hs i) (List.range cs.length)
   rw[List.length_range] at h1
   have:=x.c16
   omega
  obtain⟨o1,o2⟩:=sum_ok x.hU.pos fun r hr=>(hR.mem r hr).toOk
  have z:=(sum_pt x.hU.pos hR.mem).mono (j:=4716) (by omega)
  rw[List.map_map] at o2
  have o3:num U (sumP (((List.range cs.length).filter fun i=>!q i && inn cs hs i).map fun i=>ps.getD i (0,1)))=paidN U cs ps q hs:=o2.trans left_eq
  generalize ((List.range cs.length).filter fun i=>!q i && inn cs hs i).map (fun i=>ps.getD i (0,1))=row at hR len o1 o3 z
  have hww:=s2 _ _ x.w
  have hhh:=s2 _ _ hh
  have zw:=worth_sz (hs:=hs) x.wz h6
  have hU:=x.hU
  have zU:=hU.sz
  have c16:=x.c16
  have po:∀ H',Same H2 H'→RowU U k H' acc row:=fun H' s=>hR.ts (TS.of s)
  clear o2 x hR
  k_extra "rd"
  refine⟨w,h,ws,hs,rfl,hww,hhh,h6,hb,fun H3 s3=>?_⟩
  k_extra "rd"
  intro t ht
  have s4:=s3.trans (Same.new (o:=.tup [.int (worthOf ws hs),.int 1]) ht)
  refine⟨l,acc,row,U,k,rfl,s4 _ _ hl2,hU,po _ s4,by omega,len,fun r H5 s5 hr=>?_⟩
  have ts5:=s5 t _ upd_same
  refine⟨t,r,_,_,_,_,rfl,ts5,hr,by decide,o1.pos,zw.mono (by decide),by decide,(z.nsz hU.pos).mono (by decide),(o1.usz hU).mono (by decide),fun r2 hr2=>?_⟩
  have e1:low (worthOf ws hs*(sumP row).2 - (sumP row).1*1) (1*(sumP row).2)=low (worthOf ws hs*U - paidN U cs ps q hs) U:=by
   have:=less_ok hU.pos (int_ok (U:=U) (w:=worthOf ws hs)) o1
   rw[num_int,o3] at this
   exact this
  have zr:Sz 4720 (worthOf ws hs*U - paidN U cs ps q hs):=by
   have a:=zw.mul zU
   have b:=z.sz
   rw[o3] at b
   exact Sz.mono (Sz.sub (k:=4716) (a.mono (by decide)) b) (by decide)
  refine hQ r2 (low (worthOf ws hs*U - paidN U cs ps q hs) U) _ ((s2.trans s4).trans (s5.trans (Same.new hr2))) ?_ ⟨low_ok hU.pos,by rw[num_low hU.pos];exact zr⟩ (num_low hU.pos)
  rw[upd_same,← e1]
  rfl
theorem ok__law_level(D:DefAt K mg "_law_level" s__law_level f fd)(T:Txt K mg cx)(d__law_heaps:DefOk P w K mg base CX0 1 "_law_heaps" ["_law_many_here"] sp__law_heaps)(d__law_need:DefOk P w K mg base CX0 5 "_law_need" ["_law_claims_here","_law_places","_law_heap_here"] sp__law_need)(d__law_over:DefOk P w K mg base CX0 3 "_law_over" ["_law_one","_law_other"] sp__law_over)(d__law_below:DefOk P w K mg base CX0 1 "_law_below" ["_law_one","_law_other"] sp__law_below)(d__law_left:DefOk P w K mg base CX0 5 "_law_left" ["_law_worths_here","_law_claims_here","_law_parts","_law_places","_law_heap_here"] sp__law_left)(d__law_lies:DefOk P w K mg base CX0 1 "_law_lies" ["_law_touched","_law_heap_here"] sp__law_lies):DefOk P w K mg base CX0 6 "_law_level" ["_law_worths_here","_law_claims_here","_law_parts","_law_places"] sp__law_level:=by
 refine D.ok (D.q sc__law_level (fun vs H Q E h=>?_) (fun cdv A outer s H vs Q E hr h=>?_)) (D.fn.binds fun _ _ _ _ _ _ us hl=>match us,hl with | [_,_,_,_],_=>rfl)
 ·obtain⟨_,_,_,_,_,_,_,_,_,_,_,_,rfl,_⟩:=h
  rfl
 obtain⟨w,c,p,pl,U,k,ws,xs,cs,ys,ps,q,rfl,x,hQ⟩:=h
 have hwl:(ws.map V.int).length=ws.length:=List.length_map _
 have zRD:∀ i,Sz 4720 (roomN U ws cs ps q (Srt.sub i))∧Sz 4720 (dueN U cs q (Srt.sub i)):=fun i=>by
  have hk:=x.hk
  have pz:∀(l:List Nat)(f:Nat→Int×Int),l.length≤16→(∀ i∈l,PtOk U k (f i))→Sz 4716 (l.map fun i=>num U (f i)).sum:=fun l f hl hf=>Sz.mono (psum_sz (k:=k) (n:=16) hl fun i hi=>(hf i hi).sz) (by omega)
  have il:=Nat.le_trans (insL_len cs (Srt.sub i)) x.c16
  constructor
  ·unfold roomN
   have a:=(worth_sz (hs:=Srt.sub i) x.wz (sub_len i)).mul x.hU.sz
   refine Sz.mono (Sz.sub (k:=4716) (a.mono (by decide)) (pz _ _ (Nat.le_trans (List.length_filter_le _ _) il) fun i hi=>?_)) (by decide)
   exact x.partAt (insL_lt (List.mem_filter.mp hi).1)
  ·exact Sz.mono (pz _ _ (Nat.le_trans (List.length_filter_le _ _) il) fun i hi=>x.dueAt (insL_lt (List.mem_filter.mp hi).1)) (by decide)
 generalize hR':(fun i=>roomN U ws cs ps q (Srt.sub i))=R at hQ
 generalize hD':(fun i=>dueN U cs q (Srt.sub i))=D at hQ
 have eR:∀ i,roomN U ws cs ps q (Srt.sub i)=R i:=fun i=>by rw[← hR']
 have eD:∀ i,dueN U cs q (Srt.sub i)=D i:=fun i=>by rw[← hD']
 have zR:∀ i,Sz 4720 (R i)∧Sz 4720 (D i):=fun i=>by rw[← eR,← eD];exact zRD i
 clear hR' hD' zRD
 refine⟨_,(qss_cons (qs_set (i:=4) sc__law_level.nd rfl (Or.inl rfl) (qe_tup (qa_cons qe_int (qa_cons qe_int qa_nil))))
   (qss_cons (qs_set (i:=5) sc__law_level.nd rfl (Or.inr rfl) (qe_lst qa_nil))
   (qss_cons (qs_for PassesOwn.never rfl (qi_listK (K:=K) rfl (qe_d d__law_heaps hr.le pass0 (by rfl) (qa_cons (qe_callB call_lenF (by rfl) T.n_len bt_len (qa_cons (qv 0) qa_nil)) qa_nil))) (qg_name (i:=6) sc__law_level.nd rfl (Or.inl rfl)) (qss_cons (qs_set (i:=7) sc__law_level.nd rfl (Or.inl rfl) (qe_d d__law_need hr.le pass0 (by rfl) (qa_cons (qv 1) (qa_cons (qv 3) (qa_cons (qv 6) qa_nil)))))
   (qss_one (qs_if (qt_cmpR op_gt (qe_ix ix_seqA (qv 7) qe_int (fun _ _=>rfl)) qe_int (nomark _)) (qss_cons (qs_set (i:=8) sc__law_level.nd rfl (Or.inl rfl) (qe_d d__law_over hr.le pass0 (by rfl) (qa_cons (qe_d d__law_left hr.le pass0 (by rfl) (qa_cons (qv 0) (qa_cons (qv 1) (qa_cons (qv 2) (qa_cons (qv 3) (qa_cons (qv 6) qa_nil)))))) (qa_cons (qv 7) qa_nil))))
   (qss_cons (qs_if (qt_val (qe_d d__law_below hr.le pass0 (by rfl) (qa_cons (qv 8) (qa_cons (qv 4) qa_nil)))) (qss_cons (qs_set (i:=4) sc__law_level.nd rfl (Or.inl rfl) (qv 8))
   (qss_one (qs_set (i:=5) sc__law_level.nd rfl (Or.inr rfl) (qe_lst qa_nil)))) qss_nil)
   (qss_one (qs_if (qt_cmpR (op_eqP hr.units) (qv 8) (qv 4) (nomark _)) (qss_one (qs_expr (qe_bmK (K:=K) rfl PySem.F.plainAttrs_list PySem.F.slot_list_append PySem.F.type_list_append mt_append (qv 5) (qa_cons (qv 6) qa_nil)))) qss_nil)))) qss_nil))))
   (qss_cons (qs_if (qt_cmpR (op_eqP hr.units) (qv 4) (qe_tup (qa_cons qe_int (qa_cons qe_int qa_nil))) (nomark _)) (qss_one (qs_ret (qe_tup (qa_cons (qv 4) (qa_cons (qe_callTy call_listF (by rfl) T.n_list bt_list (qa_cons (qv 3) qa_nil)) qa_nil))))) qss_nil)
   (qss_one (qs_ret (qe_tup (qa_cons (qv 4) (qa_cons (qe_comp1 "_law_at" ["_law_at"] [("_law_tight", 5),("_law_claims_here", 1)] rfl (qi_listK (K:=K) rfl (qv 3)) (gext_name (by decide)) (fun c0 cl C fp s2 H2=>⟨(qg_name (i:=0) (show (["_law_at","_law_tight","_law_claims_here"]:List Str).Nodup by decide +kernel) rfl (Or.inr rfl)),(qf_one (qt_val (qe_callB (call_anyF rfl) (by rfl) T.n_any bt_any (qa_cons (qe_comp ["_law_heap_here"] [("_law_claims_here", 2),("_law_at", 0)] rfl (qi_listK (K:=K) rfl (qv 1)) (gext_name (by decide)) (fun cl C fp s2 H2=>⟨(qg_name (i:=0) (show (["_law_heap_here","_law_claims_here","_law_at"]:List Str).Nodup by decide +kernel) rfl (Or.inl rfl)),qf_nil,(qe_d d__law_lies hr.le pass0 (by rfl) (qa_cons (qe_ix ix_seqA (qe_ix ix_seqA (qv 1) (qv 2) (fun _ _=>rfl)) qe_int (fun _ _=>rfl)) (qa_cons (qv 0) qa_nil)))⟩) rfl (by decide +kernel) (by decide +kernel) (free_of (by rfl)) (fr_of (by rfl))) qa_nil)))),(qv 0)⟩) rfl (by decide +kernel) (by decide) (fun _ _=>rfl) (fun _=>rfl) (by decide +kernel) (free_of (by rfl)) (fr_of (by rfl))) qa_nil))))))))),?_⟩
 refine⟨by decide,fun r0 hr0=>?_⟩
 have s0:=Same.new (o:=.tup [.int 1,.int 1]) hr0
 have k0:upd H r0 (.tup [.int 1,.int 1]) r0=_:=upd_same
 generalize upd H r0 (.tup [.int 1,.int 1])=H0 at s0 k0 ⊢
 refine⟨by show 0≤sizeLine;decide,fun F0 hF0=>?_⟩
 have s1:=s0.trans (Same.new (o:=.lst []) hF0)
 have k1:=(Same.new (o:=.lst []) hF0) _ _ k0
 have f1:upd H0 F0 (.lst []) F0=_:=upd_same
 have nF0:=s0.free hF0
 generalize upd H0 F0 (.lst [])=H1 at s1 k1 f1 ⊢
 refine⟨_,rfl,w,_,rfl,seqAt_lst (s1 _ _ x.w),ws.length,by rw[hwl],x.w6,fun E es H2 s2 nE hE hS=>?_⟩
 obtain⟨ts,rfl,hts⟩:=subs_fn hS
 have nEF:E≠F0:=fun z=>by rw[z,f1] at nE;cases nE
 have n64:=pow64 x.w6
 have ol:∀ i,i < 2 ^ ws.length→∀ y∈Srt.sub i,0≤y∧y < (ws.length:Int):=fun i hi=>sub_in ws.length x.w6 i hi
 generalize 2 ^ ws.length=n at hE hts hQ n64 ol ⊢
 refine⟨E,rfl,⟨_,SqL.of hE⟩,for_listN (K:=K) (a:=E) (xs:=(List.range n).map fun i=>V.ref (ts i)) (fun j σ H'=>∃ r F lv v6 v7 v8,σ=[some (.ref w),some (.ref c),some (.ref p),some (.ref pl),some (.ref r),some (.ref F),v6,v7,v8]∧Same H H'∧H F=none∧E≠F∧H' E=some (.lst ((List.range n).map fun i=>V.ref (ts i)))∧(∀ i,i < n→H' (ts i)=some (.tup ((Srt.sub i).map V.int)))∧H' r=some (.tup [.int lv.1,.int lv.2])∧Lvl R D j lv∧Sz 4720 lv.1∧Sz 4720 lv.2∧H' F=some (.lst (((List.range j).filter (tightB R D lv)).map fun i=>V.ref (ts i)))) ⟨r0,F0,(1,1),_,_,_,rfl,s1.trans s2,nF0,nEF,hE,hts,s2 _ _ k1,Lvl.zero,by decide,by decide,s2 _ _ f1⟩ (fun j σ H' _ ⟨_,_,_,_,_,_,_,_,_,_,z,_⟩=>SqL.of z) ?_ ?_⟩
 ·clear hE hts k1 f1 s1 s2 nE nEF nF0 hF0 s0 k0 hr0 hQ hS
  rintro j y σ H3 NN BB hy ⟨r,F,lv,v6,v7,v8,rfl,s3,nF,nEF,hE,hts,hr,L3,z1,z2,hF⟩ kN kB
  clear kB
  have jl:=(List.getElem?_eq_some_iff.mp hy).1
  rw[List.length_map,List.length_range] at jl
  rw[List.getElem?_map,List.getElem?_range jl] at hy
  cases hy
  have x3:=x.same s3
  have t3:=hts j jl
  have flen:(((List.range j).filter (tightB R D lv)).map fun i=>V.ref (ts i)).length≤64:=by
   rw[List.length_map]
   refine Nat.le_trans (List.length_filter_le _ _) ?_
   rw[List.length_range]
   omega
  simp only[gName_ap]
  k_extra "rd"
  refine⟨w,c,p,pl,ts j,U,k,ws,xs,cs,ys,ps,q,Srt.sub j,rfl,x3,t3,fun r1 d H4 s4 hr1 po ed=>?_⟩
  have s34:=s3.trans s4
  have x4:=x3.same s4
  have t4:=s4 _ _ t3
  have hr4:=s4 _ _ hr
  have hE4:=s4 _ _ hE
  have hF4:=s4 _ _ hF
  have hts4:∀ i,i < n→H4 (ts i)=some (.tup ((Srt.sub i).map V.int)):=fun i hi=>s4 _ _ (hts i hi)
  have hb:=pos_num x.hU.pos po.toOk
  rw[ed,eD] at hb
  rw[eD] at ed
  clear s3 s4 x3 t3 hr hE hF hts
  by_cases hD:0 < D j
  ·have hd1:0 < d.1:=hb.mpr hD
   k_extra "rd"
   refine⟨w,c,p,pl,ts j,U,k,ws,xs,cs,ys,ps,q,Srt.sub j,rfl,x4,t4,sub_len j,ol j jl,fun r2 d2 H5 s5 hr2 po2 ed2=>?_⟩
   rw[eR] at ed2
   have hU:=x.hU
   obtain⟨g1,g2⟩:=over_low hU.pos po2.toOk po.toOk ed2 ed hD
   refine⟨r2,r1,_,_,_,_,rfl,hr2,s5 _ _ hr1,po2.pos,hd1,(po2.nsz hU.pos).mono (by decide),po2.toOk.usz hU,(po.nsz hU.pos).mono (by decide),(po.toOk.usz hU).mono (by decide),fun r3 hr3=>?_⟩
   have s6:=s5.trans (Same.new (o:=.tup [.int (lowN (d2.1*d.2) (d2.2*d.1)),.int (lowU (d2.1*d.2) (d2.2*d.1))]) hr3)
   have h6:upd H5 r3 (.tup [.int (lowN (d2.1*d.2) (d2.2*d.1)),.int (lowU (d2.1*d.2) (d2.2*d.1))]) r3=some (.tup [.int (low (R j) (D j)).1,.int (low (R j) (D j)).2]):=by
    rw[upd_same,← g2]
    rfl
   have s46:=s34.trans s6
   have hr6:=s6 _ _ hr4
   have hE6:=s6 _ _ hE4
   have hF6:=s6 _ _ hF4
   have t6:=s6 _ _ t4
   have hts6:∀ i,i < n→upd H5 r3 (.tup [.int (lowN (d2.1*d.2) (d2.2*d.1)),.int (lowU (d2.1*d.2) (d2.2*d.1))]) (ts i)=some (.tup ((Srt.sub i).map V.int)):=fun i hi=>s6 _ _ (hts4 i hi)
   generalize upd H5 r3 (.tup [.int (lowN (d2.1*d.2) (d2.2*d.1)),.int (lowU (d2.1*d.2) (d2.2*d.1))])=H6 at h6 s46 hr6 hE6 hF6 t6 hts6 ⊢
   clear g1 g2 s5 s6 hr3 hr2 hr1 x4 s34 hE4 hF4 hts4 t4 hr4 po po2 ed ed2 hb hd1
   obtain⟨zh1,zh2⟩:=low_sz (zR j).1 (zR j).2
   k_extra "rd"
   refine⟨r3,r,_,_,_,_,rfl,h6,hr6,zh1.mono (by decide),zh2.mono (by decide),z1.mono (by decide),z2.mono (by decide),?_⟩
   by_cases hlt:(low (R j) (D j)).1*lv.2 < lv.1*(low (R j) (D j)).2
   ·have L4:=L3.fall hD hlt
    have te:=tight_none L3 hD hlt
    have ej:((List.range (j+1)).filter (tightB R D (low (R j) (D j)))).map (fun i=>V.ref (ts i))=[V.ref (ts j)]:=by
     rw[filt_succ,te,if_pos (by unfold tightB;rw[decide_eq_true hD,decide_eq_true rfl];rfl)]
     rfl
    k_extra "rd"
    intro F2 hF2
    have s7:=Same.new (o:=.lst []) hF2
    have g6:=s7 _ _ h6
    have nF2:=s46.free hF2
    have nE2:E≠F2:=fun z=>by rw[z,hF2] at hE6;cases hE6
    have gE:=s7 _ _ hE6
    have gts:∀ i,i < n→upd H6 F2 (.lst []) (ts i)=some (.tup ((Srt.sub i).map V.int)):=fun i hi=>s7 _ _ (hts6 i hi)
    have s67:=s46.trans s7
    have gF:upd H6 F2 (.lst []) F2=_:=upd_same
    refine⟨_,_,g6,_,_,g6,?_⟩
    generalize upd H6 F2 (.lst [])=H7 at g6 gE gts s67 gF ⊢
    have nt:∀ a ys,H7 a=some (.tup ys)→a≠F2:=fun a ys ha z=>by rw[z,gF] at ha;cases ha
    refine brkD (fun _=>?_) (fun z=>absurd ⟨rfl,rfl⟩ z)
    refine⟨_,rfl,.inl ⟨rfl,_,SqL.of gF⟩,_,rfl,F2,[],_,rfl,rfl,gF,by show 0 < sizeLine;decide,kN _ _ ⟨r3,F2,low (R j) (D j),_,_,_,rfl,?_,nF2,nE2,by rw[upd_ne nE2];exact gE,fun i hi=>by rw[upd_ne (nt _ _ (gts i hi))];exact gts i hi,by rw[upd_ne (nt _ _ g6)];exact g6,L4,zh1,zh2,by rw[upd_same,ej];rfl⟩⟩
    intro b o hb
    rw[upd_ne (fun z=>by rw[z,nF2] at hb;cases hb)]
    exact s67 _ _ hb
   ·have L4:=L3.stay hD hlt
    have nt:∀ a ys,H6 a=some (.tup ys)→a≠F:=fun a ys ha z=>by rw[z,hF6] at ha;cases ha
    k_extra "rd"
    refine brkD (fun he=>?_) (fun he=>?_)
    ·have he':low (R j) (D j)=lv:=Prod.ext he.1 he.2
     have ej:((List.range (j+1)).filter (tightB R D lv)).map (fun i=>V.ref (ts i))=((List.range j).filter (tightB R D lv)).map (fun i=>V.ref (ts i))++[V.ref (ts j)]:=by
      rw[filt_succ,if_pos (by unfold tightB;rw[decide_eq_true hD,decide_eq_true he'];rfl)]
     refine⟨_,rfl,.inl ⟨rfl,_,SqL.of hF6⟩,_,rfl,F,_,_,rfl,rfl,hF6,small1000 (by omega),kN _ _ ⟨r,F,lv,_,_,_,rfl,?_,nF,nEF,by rw[upd_ne nEF];exact hE6,fun i hi=>by rw[upd_ne (nt _ _ (hts6 i hi))];exact hts6 i hi,by rw[upd_ne (nt _ _ hr6)];exact hr6,L4,z1,z2,by rw[upd_same,ej]⟩⟩
     intro b o hb
     rw[upd_ne (fun z=>by rw[z,nF] at hb;cases hb)]
     exact s46 _ _ hb
    ·have ej:((List.range (j+1)).filter (tightB R D lv)).map (fun i=>V.ref (ts i))=((List.range j).filter (tightB R D lv)).map (fun i=>V.ref (ts i)):=by
      rw[filt_succ,if_neg (by unfold tightB;rw[Bool.and_eq_true,decide_eq_true_eq,decide_eq_true_eq];exact fun z=>he (by rw[z.2];exact⟨rfl,rfl⟩)),List.append_nil]
     exact kN _ _ ⟨r,F,lv,_,_,_,rfl,s46,nF,nEF,hE6,hts6,hr6,L4,z1,z2,by rw[ej];exact hF6⟩
  ·have hd1:¬ 0 < d.1:=fun z=>hD (hb.mp z)
   have L4:=L3.skip hD
   have ej:((List.range (j+1)).filter (tightB R D lv)).map (fun i=>V.ref (ts i))=((List.range j).filter (tightB R D lv)).map (fun i=>V.ref (ts i)):=by
    rw[filt_succ,if_neg (by unfold tightB;rw[Bool.and_eq_true,decide_eq_true_eq];exact fun z=>hD z.1),List.append_nil]
   k_extra "rd"
   exact kN _ _ ⟨r,F,lv,_,_,_,rfl,s34,nF,nEF,hE4,hts4,hr4,L4,z1,z2,by rw[ej];exact hF4⟩
 ·rintro σ H3 ⟨r,F,lv,v6,v7,v8,rfl,s3,nF,nEF,hE,hts,hr,L3,z1,z2,hF⟩
  rw[List.length_map,List.length_range] at L3 hF
  have x3:=x.same s3
  k_extra "rd"
  intro t1 ht1
  have s4:=Same.new (o:=.tup [.int 1,.int 1]) ht1
  refine⟨_,_,s4 _ _ hr,?_⟩
  have x4:=x3.same s4
  have hr4:=s4 _ _ hr
  have hF4:=s4 _ _ hF
  have hts4:∀ i,i < n→upd H3 t1 (.tup [.int 1,.int 1]) (ts i)=some (.tup ((Srt.sub i).map V.int)):=fun i hi=>s4 _ _ (hts i hi)
  have s34:=s3.trans s4
  generalize upd H3 t1 (.tup [.int 1,.int 1])=H4 at x4 hr4 hF4 hts4 s34 ⊢
  clear x3 s4 ht1 hr hF hE hts s3
  refine brkD (fun he=>?_) (fun he=>?_)
  ·have hl:lv=(1,1):=Prod.ext he.1 he.2
   refine⟨_,rfl,_,rfl,pl,_,rfl,seqAt_lst x4.pl,fun F2 hF2=>⟨by show 2≤sizeLine;decide,fun T hT=>?_⟩⟩
   have s5:=(Same.new (o:=.lst (plV cs.length q)) hF2).trans (Same.new (o:=.tup [.ref r,.ref F2]) hT)
   refine hQ T r F2 lv _ (s34.trans s5) upd_same (s5 _ _ hr4) (s34.free hF2) ?_ L3 z1 z2
   rw[(Same.new (o:=.tup [.ref r,.ref F2]) hT) F2 _ upd_same]
   rw[plV_one fun i hi=>(by unfold haltQ;rw[decide_eq_true hl,Bool.true_or,Bool.and_true]:haltQ R D n lv cs q i=q i)]
  ·have hl:decide (lv=(1,1))=false:=decide_eq_false fun z=>he (by rw[z];exact⟨rfl,rfl⟩)
   have xpl:H4 pl=some (.lst (((List.range cs.length).filter q).map fun i:Nat=>V.int (i:Int))):=by
    have:=x4.pl
    unfold plV plL at this
    rwa [List.map_map] at this
   refine⟨_,rfl,_,rfl,pl,rfl,⟨_,SqL.of xpl⟩,fun l hl'=>?_⟩
   refine comp_listR (K:=K) (a:=pl) (xs:=((List.range cs.length).filter q).map fun i:Nat=>V.int (i:Int)) (fun a acc H5=>Same H4 H5∧H5 l=some (.lst acc)∧acc=((((List.range cs.length).filter q).take a).filter fun i=>((List.range n).filter (tightB R D lv)).any fun j=>inn cs (Srt.sub j) i).map fun i:Nat=>V.int (i:Int)) ⟨Same.new hl',upd_same,rfl⟩ (fun a acc H5 _ ⟨s5,_,_⟩=>SqL.of (s5 _ _ xpl)) ?_ ?_
   ·rintro a y acc H5 hy ⟨s5,hl5,rfl⟩
    have al:=(List.getElem?_eq_some_iff.mp hy).1
    rw[List.length_map] at al
    rw[List.getElem?_map,List.getElem?_eq_getElem al] at hy
    cases hy
    have hi:((List.range cs.length).filter q)[a] < cs.length:=List.mem_range.mp (List.mem_filter.mp (List.getElem_mem al)).1
    rw[filt_take (fun i=>((List.range n).filter (tightB R D lv)).any fun j=>inn cs (Srt.sub j) i) (fun i:Nat=>V.int (i:Int)) al]
    have len:(((((List.range cs.length).filter q).take a).filter fun i=>((List.range n).filter (tightB R D lv)).any fun j=>inn cs (Srt.sub j) i).map fun i:Nat=>V.int (i:Int)).length≤16:=by
     rw[List.length_map]
     refine Nat.le_trans (List.length_filter_le _ _) ?_
     rw[List.length_take]
     have:=List.length_filter_le q (List.range cs.length)
     rw[List.length_range] at this
     have:=x.c16
     omega
    generalize ((((List.range cs.length).filter q).take a).filter fun i=>((List.range n).filter (tightB R D lv)).any fun j=>inn cs (Srt.sub j) i).map (fun i:Nat=>V.int (i:Int))=A' at hl5 len ⊢
    generalize ((List.range cs.length).filter q)[a]=i at hi ⊢
    obtain⟨v,ev,rc,pc,kc,rfl,e1,e2,e3⟩:=x4.hC.2 i cs[i] (List.getElem?_eq_getElem hi)
    have a1:atI xs (i:Int)=some (.ref rc):=atI_nat ev
    have h6:=(x.due _ (List.getElem_mem hi)).2
    have ein:∀ hs,inn cs hs i=lies cs[i].hp hs:=fun hs=>by unfold inn;rw[heapP_at hi]
    simp only[gName_ap]
    refine⟨_,rfl,F,rfl,⟨_,SqL.of (s5 _ _ hF4)⟩,fun l2 hl2=>?_⟩
    have tl64:((List.range n).filter (tightB R D lv)).length≤64:=by
     refine Nat.le_trans (List.length_filter_le _ _) ?_
     rw[List.length_range]
     omega
    have tln:∀ j∈(List.range n).filter (tightB R D lv),j < n:=fun j hj=>List.mem_range.mp (List.mem_filter.mp hj).1
    generalize (List.range n).filter (tightB R D lv)=TL at tl64 tln hF4 ⊢
    refine comp_listR (K:=K) (a:=F) (xs:=TL.map fun i=>V.ref (ts i)) (fun b acc H6=>Same H5 H6∧H6 l2=some (.lst acc)∧acc=((TL.take b).map fun j=>inn cs (Srt.sub j) i).map V.bl) ⟨Same.new hl2,upd_same,rfl⟩ (fun b acc H6 _ ⟨s6,_,_⟩=>SqL.of (s6 _ _ (s5 _ _ hF4))) ?_ ?_
    ·rintro b y acc H6 hy ⟨s6,hl6,rfl⟩
     have bl:=(List.getElem?_eq_some_iff.mp hy).1
     rw[List.length_map] at bl
     rw[List.getElem?_map,List.getElem?_eq_getElem bl] at hy
     cases hy
     have tj:=hts4 _ (tln _ (List.getElem_mem bl))
     rw[take_map_succ _ bl,List.map_append,ein (Srt.sub TL[b])]
     have blen:((TL.take b).map fun j=>inn cs (Srt.sub j) i).length≤64:=by rw[List.length_map,List.length_take];omega
     generalize ((TL.take b).map fun j=>inn cs (Srt.sub j) i)=B' at hl6 blen ⊢
     generalize TL[b]=jj at tj ⊢
     have s56:=s5.trans s6
     have g1:=s56 _ _ e1
     have g3:=s56 _ _ e3
     have gc:=s56 _ _ x4.c
     have gt:=s56 _ _ tj
     generalize cs[i]=C at h6 g1 g3 ⊢
     clear e1 e2 e3 ein hF4 hts4 x4 x xpl tln hQ ev
     simp only[gName_ap,tYes,if_true]
     k_extra "rd"
     refine⟨kc,ts jj,C.hp,Srt.sub jj,rfl,g3,gt,h6,fun H7 s7=>?_⟩
     refine⟨s7 _ _ hl6,small1000 (by omega),?_,rfl⟩
     intro b o hb
     rw[upd_ne (fun z=>by rw[z,hl2] at hb;cases hb)]
     exact s7 _ _ (s6 _ _ hb)
    ·rintro acc H6 ⟨s6,hl6,rfl⟩
     have e6:TL.take (TL.map fun i=>V.ref (ts i)).length=TL:=by rw[List.length_map,List.take_length]
     rw[e6] at hl6
     refine⟨l2,_,rfl,hl6,_,rfl,?_⟩
     have ea:(TL.map fun j=>inn cs (Srt.sub j) i).any id=TL.any fun j=>inn cs (Srt.sub j) i:=by rw[List.any_map];rfl
     rw[ea]
     have s56:=s5.trans s6
     have hl56:=s6 _ _ hl5
     clear e1 e2 e3 ein hF4 hts4 x4 x xpl tln hQ ev ea
     cases (TL.any fun j=>inn cs (Srt.sub j) i) with
     | true =>
      simp only[if_true]
      refine⟨_,rfl,hl56,small1000 (by omega),?_,upd_same,rfl⟩
      intro b o hb
      rw[upd_ne (fun z=>by rw[z,hl'] at hb;cases hb)]
      exact s56 _ _ hb
     | false =>
      simp only[Bool.false_eq_true,if_false,List.append_nil]
      exact⟨s56,hl56,trivial⟩
   ·rintro acc H5 ⟨s5,hl5,rfl⟩
    rw[List.length_map,List.take_length] at hl5
    refine⟨by show 2≤sizeLine;decide,fun T hT=>?_⟩
    have s6:=s5.trans (Same.new (o:=.tup [.ref r,.ref l]) hT)
    refine hQ T r l lv _ (s34.trans s6) upd_same (s6 _ _ hr4) (s34.free hl') ?_ L3 z1 z2
    rw[(Same.new (o:=.tup [.ref r,.ref l]) hT) l _ hl5]
    unfold plV plL haltQ
    rw[List.map_map,List.filter_filter]
    congr 3
    refine List.filter_congr fun i _=>?_
    rw[hl,Bool.false_or,Bool.and_comm]
theorem ok__law_filled(D:DefAt K mg "_law_filled" s__law_filled f fd)(T:Txt K mg cx)(d__law_level:DefOk P w K mg base CX0 6 "_law_level" ["_law_worths_here","_law_claims_here","_law_parts","_law_places"] sp__law_level)(d__law_times:DefOk P w K mg base CX0 3 "_law_times" ["_law_one","_law_other"] sp__law_times):DefOk P w K mg base CX0 7 "_law_filled" ["_law_worths_here","_law_claims_here","_law_parts","_law_places"] sp__law_filled:=by
 refine D.ok (D.q sc__law_filled (fun vs H Q E h=>?_) (fun cdv A outer s H vs Q E hr h=>?_)) (D.fn.binds fun _ _ _ _ _ _ us hl=>match us,hl with | [_,_,_,_],_=>rfl)
 ·obtain⟨_,_,_,_,_,_,_,_,_,_,_,_,_,rfl,_⟩:=h
  rfl
 obtain⟨w,c,p,pl,U0,r,U,ws,xs,cs,ys,ps,q,rfl,x,hC,hI,hrr,hQ⟩:=h
 refine⟨_,(qss_cons (qs_set (i:=4) sc__law_filled.nd rfl (Or.inl rfl) (qe_callTy call_listF (by rfl) T.n_list bt_list (qa_cons (qv 2) qa_nil)))
   (qss_cons (qs_set (i:=5) sc__law_filled.nd rfl (Or.inl rfl) (qe_callTy call_listF (by rfl) T.n_list bt_list (qa_cons (qv 3) qa_nil)))
   (qss_cons (qs_while PassesOwn.never (qt_cmpR (op_neD hr.units) (qv 5) (qe_lst qa_nil) (nomark _)) (qss_cons (qs_asg (qe_d d__law_level hr.le pass0 (by rfl) (qa_cons (qv 0) (qa_cons (qv 1) (qa_cons (qv 4) (qa_cons (qv 5) qa_nil))))) (qg_tupK (K:=K) (n:=2) rfl rfl (qgs_cons (qg_name (i:=6) sc__law_filled.nd rfl (Or.inl rfl)) (qgs_cons (qg_name (i:=7) sc__law_filled.nd rfl (Or.inr rfl)) qgs_nil))))
   (qss_cons (qs_for PassesOwn.never rfl (qi_listK (K:=K) rfl (qv 7)) (qg_name (i:=8) sc__law_filled.nd rfl (Or.inl rfl)) (qss_one (qs_asg (qe_d d__law_times hr.le pass0 (by rfl) (qa_cons (qe_ix ix_seqA (qe_ix ix_seqA (qv 1) (qv 8) (fun _ _=>rfl)) qe_int (fun _ _=>rfl)) (qa_cons (qv 6) qa_nil))) (qg_sub (qv 4) (qv 8) set_list))))
   (qss_one (qs_setC (k:=5) ["_law_at"] [("_law_done", 7)] sc__law_filled.nd rfl rfl rfl (qi_listK (K:=K) rfl (qv 5)) (gext_name (by decide)) (fun cl C fp s2 H2=>⟨(qg_name (i:=0) (show (["_law_at","_law_done"]:List Str).Nodup by decide +kernel) rfl (Or.inl rfl)),(qf_one (qt_cmpR (op_notInK (K:=K) rfl) (qv 0) (qv 1) (by rfl))),(qv 0)⟩) rfl (by decide +kernel) (by decide +kernel) (free_of (by rfl)) (fr_of (by rfl)))))))
   (qss_one (qs_ret (qv 4)))))),?_⟩
 refine⟨_,rfl,p,_,rfl,seqAt_lst x.p,fun Rw hRw=>?_⟩
 have s1:=Same.new (o:=.lst ys) hRw
 refine⟨_,rfl,pl,_,rfl,seqAt_lst (s1 _ _ x.pl),fun Gg hGg=>?_⟩
 have s2:=Same.new (o:=.lst (plV cs.length q)) hGg
 have s12:=s1.trans s2
 have gR:=s2 Rw _ upd_same
 have gG:upd (upd H Rw (.lst ys)) Gg (.lst (plV cs.length q)) Gg=_:=upd_same
 have nRG:Gg≠Rw:=fun z=>by rw[z,upd_same] at hGg;cases hGg
 generalize upd (upd H Rw (.lst ys)) Gg (.lst (plV cs.length q))=H2 at s12 gR gG ⊢
 clear s1 s2 hGg
 refine⟨fun m σ H'=>∃ Gg r U ys' ps' q' v6 v7 v8 f,σ=[some (.ref w),some (.ref c),some (.ref p),some (.ref pl),some (.ref Rw),some (.ref Gg),v6,v7,v8]∧Same H H'∧H' Rw=some (.lst ys')∧RowV H' ys' ps'∧H' Gg=some (.lst (plV cs.length q'))∧Gg≠Rw∧FI U0 ws cs r U ps' q'∧m=(plL cs.length q').length∧r+m≤19∧m≤f∧fillP ws cs f ps' q'=fillP ws cs (plL cs.length q).length ps q,⟨_,Gg,r,U,ys,ps,q,_,_,_,_,rfl,s12,gR,x.hR.ts (TS.of s12),gG,nRG,hI,rfl,hrr,Nat.le_refl _,rfl⟩,?_⟩
 clear gR gG nRG s12 hI hrr
 rintro m σ H3 ⟨Gg,r,U,ys',ps',q',v6,v7,v8,f,rfl,s3,gR,hR,gG,nRG,hI,rfl,hrr,hf,hE⟩
 have pe:(plV cs.length q').length=(plL cs.length q').length:=List.length_map _
 k_extra "rx"
 refine i_NewO (by decide) fun e He he se he'=>?_
 refine⟨.lst ((plL cs.length q').map Dt.int),.lst [],den_lst (se _ _ gG) (ints_dens _),den_lst he' dens0,fun _ j d e h1 h2=>by simp at h2,?_⟩
 refine⟨_,rfl,?_⟩
 have s3:=s3.trans se
 have gR:=se _ _ gR
 have gG:=se _ _ gG
 have hR:=hR.ts (TS.of se)
 clear he' he se
 refine i_ite (fun hb=>?_) (fun hb=>?_)
 ·have hne:plL cs.length q'≠[]:=fun z=>by rw[z] at hb;simp at hb
  have hb:0 < (plL cs.length q').length:=List.length_pos_iff.mpr hne
  have hlt:=hI.less hC hne
  obtain⟨U1,hI1,_⟩:=hI.next hC
  obtain⟨hL,hHq⟩:=hI.lvl hC
  obtain⟨f,rfl⟩:∃ g,f=g+1:=⟨f - 1,by omega⟩
  rw[fill_step f hne] at hE
  have xl:=FdIn.lv (p:=Rw) (pl:=Gg) (ys:=ys') ⟨s3 _ _ x.w,s3 _ _ x.c,x.hC.ts (TS.of s3),gR,hR,gG⟩ hC hI (by omega)
  have hlv:=fun lv L=>hI.lv_eq (lv:=lv) hC L
  have hlz:=fun lv L=>hI.lv_sz (lv:=lv) hC (by omega) L
  refine⟨fun σ' H''=>∃ Gg ys2 v6 v7 v8,σ'=[some (.ref w),some (.ref c),some (.ref p),some (.ref pl),some (.ref Rw),some (.ref Gg),v6,v7,v8]∧Same H H''∧H'' Rw=some (.lst ys2)∧RowV H'' ys2 (stp (lvP ws cs ps' q') cs ps' (hqP ws cs ps' q'))∧H'' Gg=some (.lst (plV cs.length fun i=>q' i && !hqP ws cs ps' q' i))∧Gg≠Rw,fun σ' H'' ⟨G2,ys2,a6,a7,a8,e1,e2,e3,e4,e5,e6⟩=>⟨_,hlt,G2,r+1,U1,ys2,_,_,a6,a7,a8,f,e1,e2,e3,e4,e5,e6,hI1,rfl,by omega,by omega,hE⟩,?_⟩
  have dz:∀ i,i < cs.length→0 < (dueP cs i).2∧Sz 20000 (dueP cs i).1∧Sz 4400 (dueP cs i).2:=fun i hi=>by
   have d:=(hC.dp hi).1
   exact⟨d.pos,(d.nsz hC.u0).mono (by decide),(Sz.le hC.uz (le_of_dvd' d.toOk.dvd hC.u0)).mono (by decide)⟩
  have plen:=hI.len
  clear hE hlt hI1 hf hrr hQ hb hI
  refine seq_cut2 (fun σ' H'=>∃ rt F ys2 v8,σ'=[some (.ref w),some (.ref c),some (.ref p),some (.ref pl),some (.ref Rw),some (.ref Gg),some (.ref rt),some (.ref F),v8]∧Same H H'∧H' Rw=some (.lst ys2)∧RowV H' ys2 (stp (lvP ws cs ps' q') cs ps' (hqP ws cs ps' q'))∧H' Gg=some (.lst (plV cs.length q'))∧H' F=some (.lst (plV cs.length (hqP ws cs ps' q')))) ?_ fun tb' key=>?_
  ·clear gR hR gG s3 hL hHq xl hlv hlz hne
   generalize hqP ws cs ps' q'=hq
   rintro σ' H5 ⟨rt,F,ys2,v8,rfl,s5,gR,hR,gG,hF⟩
   rw[plV_eq] at gG
   refine⟨_,rfl,Gg,rfl,⟨_,SqL.of gG⟩,fun l hl=>?_⟩
   have nl:l≠Rw:=fun z=>by rw[z,gR] at hl;cases hl
   refine comp_listR (K:=K) (a:=Gg) (xs:=((List.range cs.length).filter q').map fun i:Nat=>V.int (i:Int)) (fun a acc H6=>Same H5 H6∧H6 l=some (.lst acc)∧acc=((((List.range cs.length).filter q').take a).filter fun i=>!hq i).map fun i:Nat=>V.int (i:Int)) ⟨Same.new hl,upd_same,rfl⟩ (fun a acc H6 _ ⟨s6,_,_⟩=>SqL.of (s6 _ _ gG)) ?_ ?_
   ·rintro a y acc H6 hy ⟨s6,hl6,rfl⟩
    have al:=(List.getElem?_eq_some_iff.mp hy).1
    rw[List.length_map] at al
    rw[List.getElem?_map,List.getElem?_eq_getElem al] at hy
    cases hy
    have hi:((List.range cs.length).filter q')[a] < cs.length:=List.mem_range.mp (List.mem_filter.mp (List.getElem_mem al)).1
    rw[filt_take (fun i=>!hq i) (fun i:Nat=>V.int (i:Int)) al]
    have len:(((((List.range cs.length).filter q').take a).filter fun i=>!hq i).map fun i:Nat=>V.int (i:Int)).length≤16:=by
     rw[List.length_map]
     refine Nat.le_trans (List.length_filter_le _ _) ?_
     rw[List.length_take]
     have:=List.length_filter_le q' (List.range cs.length)
     rw[List.length_range] at this
     have:=hC.c16
     omega
    generalize ((((List.range cs.length).filter q').take a).filter fun i=>!hq i).map (fun i:Nat=>V.int (i:Int))=A' at hl6 len ⊢
    generalize ((List.range cs.length).filter q')[a]=i at hi ⊢
    have ei:decide ((i:Int)∈plL cs.length hq)=hq i:=plL_mem hi
    simp only[gName_ap]
    refine⟨_,rfl,_,rfl,F,plV _ hq,rfl,.inl (SqL.of (s6 _ _ hF)),rfl,flat_plV,?_⟩
    unfold plV
    rw[inV_int,ei]
    cases hq i with
    | true =>
     refine⟨_,rfl,i_itF ?_⟩
     exact⟨s6,hl6,by simp⟩
    | false =>
     refine⟨_,rfl,i_itT ⟨_,rfl,hl6,small1000 (by omega),same_put hl s6,upd_same,by simp⟩⟩
   ·rintro acc H6 ⟨s6,hl6,rfl⟩
    rw[List.length_map,List.take_length] at hl6
    refine i_gName ⟨l,ys2,_,_,_,rfl,s5.trans s6,s6 _ _ gR,hR.ts (TS.of s6),?_,nl⟩
    rw[hl6,plV_eq,List.filter_filter]
    congr 3
    exact List.filter_congr fun i _=>Bool.and_comm _ _
  ·k_extra "rx"
   refine⟨w,c,Rw,Gg,U,_,ws,xs,cs,ys',ps',q',rfl,xl,fun T rt F lv H4 s4 hT hrt nF hF hL2 _ _=>?_⟩
   refine⟨T,_,rfl,SqT.of hT,rfl,_,_,rfl,_,_,rfl,rfl,?_⟩
   have el:=hlv lv hL2
   rw[el,hHq] at hF
   obtain⟨l0,zl1,zl2⟩:=hlz lv hL2
   clear hL hHq hlv hL2 hlz hne xl
   subst el
   generalize lvP ws cs ps' q'=lv at key hrt l0 zl1 zl2 ⊢
   generalize hqP ws cs ps' q'=hq at hF key ⊢
   have s34:=s3.trans s4
   have gR4:=s4 _ _ gR
   have gG4:=s4 _ _ gG
   have hR4:=hR.ts (TS.of s4)
   have nFR:F≠Rw:=fun z=>by rw[z,gR] at nF;cases nF
   clear gR gG hR s4 s3 nF
   have hF':=hF
   rw[plV_eq] at hF'
   refine⟨_,rfl,F,rfl,⟨_,SqL.of hF'⟩,for_listN (K:=K) (a:=F) (xs:=((List.range cs.length).filter hq).map fun i:Nat=>V.int (i:Int)) (fun j σ H'=>∃ ys2 v8,σ=[some (.ref w),some (.ref c),some (.ref p),some (.ref pl),some (.ref Rw),some (.ref Gg),some (.ref rt),some (.ref F),v8]∧Same H H'∧H' Rw=some (.lst ys2)∧RowV H' ys2 (midP lv cs ps' (((List.range cs.length).filter hq).take j))∧H' Gg=some (.lst (plV cs.length q'))∧H' rt=some (.tup [.int lv.1,.int lv.2])∧H' F=some (.lst (((List.range cs.length).filter hq).map fun i:Nat=>V.int (i:Int)))) ⟨ys',_,rfl,s34,gR4,by rw[List.take_zero,midP_nil];exact hR4,gG4,hrt,hF'⟩ (fun j σ H' _ ⟨_,_,_,_,_,_,_,_,z⟩=>SqL.of z) ?_ ?_⟩
   ·clear s34 gR4 hR4 gG4 hT hrt hF hF'
    rintro j y σ H5 NN BB hy ⟨ys2,v8,rfl,s5,gR,hR,gG,hrt,hF⟩ kN kB
    clear kB key
    have al:=(List.getElem?_eq_some_iff.mp hy).1
    rw[List.length_map] at al
    rw[List.getElem?_map,List.getElem?_eq_getElem al] at hy
    cases hy
    have hi:((List.range cs.length).filter hq)[j] < cs.length:=List.mem_range.mp (List.mem_filter.mp (List.getElem_mem al)).1
    rw[List.take_succ_eq_append_getElem al] at kN
    have hyl:ys2.length=cs.length:=by rw[hR.1,midP_len,plen]
    generalize ((List.range cs.length).filter hq).take j=A' at hR kN
    generalize ((List.range cs.length).filter hq)[j]=i at hi kN ⊢
    obtain⟨v,ev,rc,pc,kc,rfl,e1,e2,e3⟩:=x.hC.2 i cs[i] (List.getElem?_eq_getElem hi)
    have a1:atI xs (i:Int)=some (.ref rc):=atI_nat ev
    obtain⟨d0,d1,d2⟩:=dz i hi
    have ed:dueP cs i=(cs[i].n,cs[i].u):=dueP_at hi
    rw[ed] at d0 d1 d2
    have en:newP lv cs i=(lowN (cs[i].n*lv.1) (cs[i].u*lv.2),lowU (cs[i].n*lv.1) (cs[i].u*lv.2)):=by unfold newP;rw[ed,Int.mul_comm lv.1,Int.mul_comm lv.2];rfl
    have g1:=s5 _ _ e1
    have g2:=s5 _ _ e2
    have gc:=s5 _ _ x.c
    generalize cs[i]=C at g1 g2 d0 d1 d2 en
    k_extra "rx"
    refine⟨pc,rt,_,_,_,_,rfl,g2,hrt,d0,l0,d1,d2,zl1.mono (by decide),zl2,fun r1 hr1=>?_⟩
    have s6:=Same.new (o:=.tup [.int (lowN (C.n*lv.1) (C.u*lv.2)),.int (lowU (C.n*lv.1) (C.u*lv.2))]) hr1
    have g6:upd H5 r1 (.tup [.int (lowN (C.n*lv.1) (C.u*lv.2)),.int (lowU (C.n*lv.1) (C.u*lv.2))]) r1=some (.tup [.int (newP lv cs i).1,.int (newP lv cs i).2]):=by rw[upd_same,en]
    generalize upd H5 r1 (.tup [.int (lowN (C.n*lv.1) (C.u*lv.2)),.int (lowU (C.n*lv.1) (C.u*lv.2))])=H6 at s6 g6 ⊢
    clear g1 g2 gc d0 d1 d2 en ed e1 e2 e3 a1 ev
    k_extra "rx"
    refine i_setN (k:=i) (s6 _ _ gR) (ixN_nat (by omega)) rfl fun H7 g7 f7=>?_
    have ts:TS H6 H7:=TS.frl (s6 _ _ gR) f7
    refine kN _ _ ⟨_,_,rfl,same_fr hRw (s5.trans s6) f7,g7,?_,f7 _ _ nRG (s6 _ _ gG),ts _ _ (s6 _ _ hrt),f7 _ _ nFR (s6 _ _ hF)⟩
    rw[← midP_snoc]
    exact ((hR.ts (TS.of s6)).ts ts).set (ts _ _ g6)
   ·rintro σ H5 ⟨ys2,v8,rfl,s5,gR,hR,gG,hrt,hF⟩
    refine key _ _ ⟨rt,F,ys2,_,rfl,s5,gR,?_,gG,by rw[plV_eq];exact hF⟩
    rw[List.length_map,List.take_length,midP_all plen] at hR
    exact hR
 ·have hz:plL cs.length q'=[]:=by
   by_cases z:plL cs.length q'=[]
   ·exact z
   ·exfalso
    simp[z] at hb
  rw[fill_nil f hz] at hE
  refine⟨_,rfl,hQ Rw ys' He s3 hRw gR ?_⟩
  rw[← hE]
  exact hR
theorem ok__law_fair(D:DefAt K mg "_law_fair" s__law_fair f fd)(T:Txt K mg cx)(d__law_filled:DefOk P w K mg base CX0 7 "_law_filled" ["_law_worths_here","_law_claims_here","_law_parts","_law_places"] sp__law_filled):DefOk P w K mg base CX0 8 "_law_fair" ["_law_worths_here","_law_claims_here"] sp__law_fair:=by
 refine D.ok (D.q sc__law_fair (fun vs H Q E h=>?_) (fun cdv A outer s H vs Q E hr h=>?_)) (D.fn.binds fun _ _ _ _ _ _ us hl=>match us,hl with | [_,_],_=>rfl)
 ·obtain⟨_,_,_,_,_,_,rfl,_⟩:=h
  rfl
 obtain⟨w,c,U0,ws,xs,cs,rfl,x,hC,w0,hQ⟩:=h
 refine⟨_,(qss_cons (qs_setC (k:=2) ["_law_claim"] [] sc__law_fair.nd rfl rfl rfl (qi_listK (K:=K) rfl (qv 1)) (gext_name (by decide)) (fun cl C fp s2 H2=>⟨(qg_name (i:=0) (show (["_law_claim"]:List Str).Nodup by decide +kernel) rfl (Or.inl rfl)),qf_nil,(qe_tup (qa_cons qe_int (qa_cons qe_int qa_nil)))⟩) rfl (by decide +kernel) (by decide +kernel) (free_of (by rfl)) (fr_of (by rfl)))
   (qss_cons (qs_for PassesOwn.never rfl (qi_listK (K:=K) rfl (qe_srt rfl (qe_comp ["_law_claim"] [] rfl (qi_listK (K:=K) rfl (qv 1)) (gext_name (by decide)) (fun cl C fp s2 H2=>⟨(qg_name (i:=0) (show (["_law_claim"]:List Str).Nodup by decide +kernel) rfl (Or.inl rfl)),qf_nil,(qe_ix ix_seqA (qv 0) qe_int (fun _ _=>rfl))⟩) rfl (by decide +kernel) (by decide +kernel) (free_of (by rfl)) (fr_of (by rfl))) (by rfl) T.n_sorted bt_sorted (by rfl) T.n_set bt_set)) (qg_name (i:=3) sc__law_fair.nd rfl (Or.inr rfl)) (qss_cons (qs_setC (k:=4) ["_law_at"] [("_law_claims_here", 1),("_law_rank", 3)] sc__law_fair.nd rfl rfl rfl (qi_range1 (by rfl) T.n_range (qa_cons (qe_callB call_lenF (by rfl) T.n_len bt_len (qa_cons (qv 1) qa_nil)) qa_nil)) (gext_name (by decide)) (fun cl C fp s2 H2=>⟨(qg_name (i:=0) (show (["_law_at","_law_claims_here","_law_rank"]:List Str).Nodup by decide +kernel) rfl (Or.inl rfl)),(qf_one (qw_and (qt_cmpR op_eq (qe_ix ix_seqA (qe_ix ix_seqA (qv 1) (qv 0) (fun _ _=>rfl)) qe_int (fun _ _=>rfl)) (qv 2) (nomark _)) (qw_and1 (qt_cmpR op_gt (qe_ix ix_seqA (qe_ix ix_seqA (qe_ix ix_seqA (qv 1) (qv 0) (fun _ _=>rfl)) qe_int (fun _ _=>rfl)) qe_int (fun _ _=>rfl)) qe_int (nomark _)))).pt),(qv 0)⟩) rfl (by decide +kernel) (by decide +kernel) (free_of (by rfl)) (fr_of (by rfl)))
   (qss_one (qs_set (i:=2) sc__law_fair.nd rfl (Or.inl rfl) (qe_d d__law_filled hr.le pass0 (by rfl) (qa_cons (qv 0) (qa_cons (qv 1) (qa_cons (qv 2) (qa_cons (qv 4) qa_nil)))))))))
   (qss_one (qs_ret (qv 2))))),?_⟩
 have hxl:xs.length=cs.length:=x.hC.1
 have c16:=hC.c16
 refine seq_cut (fun σ' H'=>∃ P ys v3 v4,σ'=[some (.ref w),some (.ref c),some (.ref P),v3,v4]∧Same H H'∧H P=none∧H' P=some (.lst ys)∧RowV H' ys (row0 cs)) ?_ fun tb' key=>?_
 ·rintro σ' H1 ⟨P,ys,v3,v4,rfl,s1,nP,hP,hR⟩
  have x1:=x.same s1
  refine⟨_,rfl,c,rfl,⟨_,SqL.of x1.c⟩,fun l hl=>?_⟩
  refine comp_listR (K:=K) (a:=c) (xs:=xs) (fun i acc H2=>Same H1 H2∧H2 l=some (.lst acc)∧acc=((cs.take i).map (·.rk)).map V.int) ⟨Same.new hl,upd_same,rfl⟩ (fun i acc H2 _ ⟨s2,_,_⟩=>SqL.of (s2 _ _ x1.c)) ?_ ?_
  ·rintro i y acc H2 hy ⟨s2,hl2,rfl⟩
   have hi:i < cs.length:=by rw[← hxl];exact (List.getElem?_eq_some_iff.mp hy).1
   obtain⟨v,ev,rc,pc,kc,rfl,e1,e2,e3⟩:=x1.hC.2 i cs[i] (List.getElem?_eq_getElem hi)
   rw[ev] at hy
   cases hy
   rw[take_map_succ _ hi,List.map_append]
   have len:((cs.take i).map (·.rk)).length≤16:=by rw[List.length_map,List.length_take];omega
   generalize (cs.take i).map (·.rk)=A' at hl2 len ⊢
   have g1:=s2 _ _ e1
   simp only[gName_ap,tYes,if_true]
   k_extra "rx"
   exact⟨hl2,small1000 (by rw[List.length_map];omega),same_put hl s2,upd_same,rfl⟩
  ·rintro acc H2 ⟨s2,hl2,rfl⟩
   have ez:cs.take xs.length=cs:=by rw[hxl,List.take_length]
   rw[ez] at hl2
   refine⟨l,_,rfl,hl2,by rw[List.length_map];omega,fun Z zs hlt hmem hZ=>?_⟩
   have s3:=Same.new (o:=.lst (zs.map V.int)) hZ
   have gZ:upd H2 Z (.lst (zs.map V.int)) Z=_:=upd_same
   have s13:=(s1.trans s2).trans s3
   have hP3:=(s2.trans s3) _ _ hP
   have hR3:=hR.ts (TS.of (s2.trans s3))
   have nPZ:P≠Z:=fun z=>by rw[← z,s2 _ _ hP] at hZ;cases hZ
   generalize upd H2 Z (.lst (zs.map V.int))=H3 at s13 gZ hP3 hR3 ⊢
   have rk:RkOk cs zs:=⟨hlt,hmem⟩
   obtain⟨fi0,bd0⟩:=FI.row0 hC w0
   clear hl2 s2 s3 hZ hl hP hR x1 s1 nPZ
   refine⟨Z,rfl,⟨_,SqL.of gZ⟩,for_listN (K:=K) (a:=Z) (xs:=zs.map V.int) (fun j σ H'=>∃ P ys v3 v4 U r,σ=[some (.ref w),some (.ref c),some (.ref P),v3,v4]∧Same H H'∧H P=none∧H' P=some (.lst ys)∧H' Z=some (.lst (zs.map V.int))∧RowV H' ys (shareL ws cs (zs.take j) (row0 cs))∧FI U0 ws cs r U (shareL ws cs (zs.take j) (row0 cs)) q0∧Bd U cs (shareL ws cs (zs.take j) (row0 cs)) q0∧r+cntR cs (zs.drop j)≤16) ⟨P,ys,_,_,U0,0,rfl,s13,nP,hP3,gZ,hR3,fi0,bd0,by have:=cntR_le (cs:=cs) (zs:=zs.drop 0);omega⟩ (fun j σ H' _ ⟨_,_,_,_,_,_,_,_,_,_,z,_⟩=>SqL.of z) ?_ ?_⟩
   ·clear hP3 hR3 gZ s13 fi0 bd0 nP
    rintro j y σ H4 NN BB hy ⟨P,ys,v3,v4,U,r,rfl,s4,nP,hP,gZ,hR,fi,bd,hr4⟩ kN kB
    clear kB
    obtain⟨jl,rfl⟩:=int_at hy
    have ed:zs.drop j=zs[j]::zs.drop (j+1):=List.drop_eq_getElem_cons jl
    have et:zs.take (j+1)=zs.take j++[zs[j]]:=List.take_succ_eq_append_getElem jl
    have nz:zs[j]∉zs.drop (j+1):=fun z=>by
     have h1:=hlt.sublist (List.drop_sublist j zs)
     rw[ed] at h1
     have:=(List.pairwise_cons.mp h1).1 _ z
     omega
    rw[ed] at hr4
    rw[et,shareL_snoc] at kN
    obtain⟨U',r',fi',bd',hr'⟩:=share_step hC nz fi bd hr4
    have fq:=fi.of_q0 bd (qR cs zs[j])
    have cl:=cntR_cons (cs:=cs) nz
    generalize zs[j]=z at kN fi' bd' fq cl hr4 nz ed et ⊢
    generalize shareL ws cs (zs.take j) (row0 cs)=ps at hR fi bd fi' bd' fq kN
    have x4:=x.same s4
    clear hy
    simp only[gName_ap]
    refine seq_cut (fun σ' H'=>∃ Pl,σ'=[some (.ref w),some (.ref c),some (.ref P),some (.int z),some (.ref Pl)]∧Same H4 H'∧H' Pl=some (.lst (plV cs.length (qR cs z)))) ?_ fun tb' key=>?_
    ·rintro σ' H5 ⟨Pl,rfl,s5,hPl⟩
     have x5:=x4.same s5
     k_extra "rx"
     refine⟨w,c,P,Pl,U0,r,U,ws,xs,cs,ys,ps,qR cs z,rfl,⟨x5.w,x5.c,x5.hC,s5 _ _ hP,hR.ts (TS.of s5),hPl⟩,hC,fq,by omega,fun F ys' H6 s6 nF hF hRF=>?_⟩
     refine i_gName (kN _ _ ⟨F,ys',_,_,U',r',rfl,(s4.trans s5).trans s6,(s4.trans s5).free nF,hF,s6 _ _ (s5 _ _ gZ),hRF,fi',bd',hr'⟩)
    ·clear kN fi' bd' fi bd fq hR
     refine⟨_,rfl,c,_,rfl,seqAt_lst x4.c,_,rfl,by omega,by rw[hxl];omega,fun l hl=>?_⟩
     refine comp_rangeR (k:=((xs.length:Nat):Int).toNat) (fun i acc H5=>Same H4 H5∧H5 l=some (.lst acc)∧acc=((List.range i).filter (qR cs z)).map fun i:Nat=>V.int (i:Int)) ⟨Same.new hl,upd_same,rfl⟩ ?_ ?_
     ·rintro i acc H5 hi0 ⟨s5,hl5,rfl⟩
      have hi:i < cs.length:=by omega
      obtain⟨v,ev,rc,pc,kc,rfl,e1,e2,e3⟩:=x4.hC.2 i cs[i] (List.getElem?_eq_getElem hi)
      have a1:atI xs (0+(i:Int))=some (.ref rc):=by rw[Int.zero_add];exact atI_nat ev
      have eq:=qR_pos hC (z:=z) hi
      rw[filt_succ (qR cs z) (fun i:Nat=>V.int (i:Int)),eq]
      have len:(((List.range i).filter (qR cs z)).map fun i:Nat=>V.int (i:Int)).length≤16:=by
       rw[List.length_map]
       refine Nat.le_trans (List.length_filter_le _ _) ?_
       rw[List.length_range]
       omega
      generalize ((List.range i).filter (qR cs z)).map (fun i:Nat=>V.int (i:Int))=A' at hl5 len ⊢
      have f1:=s5 _ _ e1
      have f2:=s5 _ _ e2
      have fc:=s5 _ _ x4.c
      generalize cs[i]=C0 at f1 f2 eq ⊢
      clear e1 e2 e3 ev eq
      simp only[gName_ap]
      k_extra "rx"
      refine⟨rfl,?_⟩
      refine⟨_,rfl,brkD (fun h1=>?_) (fun h1=>?_)⟩
      ·rw[decide_eq_true (V.int.inj h1),Bool.true_and]
       k_extra "rx"
       refine i_ite (fun h2=>?_) (fun h2=>?_)
       ·k_extra "rx"
        exact⟨hl5,small1000 (by omega),same_put hl s5,upd_same,by rw[if_pos h2,Int.zero_add]⟩
       ·exact⟨s5,hl5,by rw[if_neg (by rw[h2];exact Bool.false_ne_true),List.append_nil]⟩
      ·have h3:¬ C0.rk=z:=fun z'=>h1 (by rw[z'])
       rw[decide_eq_false h3,Bool.false_and]
       exact i_itF ⟨s5,hl5,by simp⟩
     ·rintro acc H5 ⟨s5,hl5,rfl⟩
      rw[Int.toNat_natCast,hxl] at hl5
      exact i_gName (key _ _ ⟨l,rfl,s5,by rw[plV_eq];exact hl5⟩)
   ·rintro σ H4 ⟨P,ys,v3,v4,U,r,rfl,s4,nP,hP,gZ,hR,fi,bd,hr4⟩
    rw[List.length_map,List.take_length] at hR
    k_extra "rx"
    exact hQ P ys zs H4 s4 nP hP rk hR
 ·refine⟨_,rfl,c,rfl,⟨_,SqL.of x.c⟩,fun l hl=>?_⟩
  refine comp_listR (K:=K) (a:=c) (xs:=xs) (fun i acc H2=>Same H H2∧H2 l=some (.lst acc)∧RowV H2 acc (List.replicate i (0,1))) ⟨Same.new hl,upd_same,⟨rfl,fun i p h=>by simp at h⟩⟩ (fun i acc H2 _ ⟨s2,_,_⟩=>SqL.of (s2 _ _ x.c)) ?_ ?_
  ·rintro i y acc H2 hy ⟨s2,hl2,hR⟩
   have hi:i < cs.length:=by rw[← hxl];exact (List.getElem?_eq_some_iff.mp hy).1
   have len:=hR.1
   rw[List.length_replicate] at len
   simp only[gName_ap,tYes,if_true]
   k_extra "rx"
   refine i_NewO (by decide) fun t H3 ht s3 ht'=>?_
   have l3:=s3 _ _ hl2
   have nt:t≠l:=fun z=>by rw[z,hl2] at ht;cases ht
   refine⟨l3,small1000 (by omega),same_put hl (s2.trans s3),upd_same,?_⟩
   rw[List.replicate_succ']
   exact ((hR.ts (TS.of s3)).ts (TS.lst l3)).snoc (by rw[upd_ne nt];exact ht')
  ·rintro acc H2 ⟨s2,hl2,hR⟩
   rw[hxl] at hR
   exact i_gName (key _ _ ⟨l,acc,_,_,rfl,s2,hl,hl2,hR⟩)
theorem ok_over(D:DefAt K mg "over" s_over f fd)(T:Txt K mg cx)(d_lowest:DefOk P w K mg base (CXR P w) 2 "lowest" ["number","under"] (sp_lowest K cx)):DefOk P w K mg base (CXR P w) 3 "over" ["one","other"] (sp_over K cx):=by
 refine D.ok (D.qR sc_over (fun vs H Q E h=>?_) (fun cdv A outer s H vs Q E hr h=>?_)) (D.fn.binds fun _ _ _ _ _ _ us hl=>match us,hl with | [_,_],_=>rfl)
 ·obtain⟨_,_,_,_,_,_,rfl,_⟩:=h
  rfl
 obtain⟨p,q,n1,u1,n2,u2,rfl,hp,hq,h1,z1,z2,z3,z4,hE,hQ⟩:=h
 refine⟨_,(qss_cons (qs_if (qt_cmpR op_lt (qe_ix ix_seqA (qv 1) qe_int (fun _ _=>rfl)) qe_int (nomark _)) (qss_one (qs_raise raisesR T.x_BadPart rfl (by rfl) (qa_cons qe_str qa_nil))) qss_nil)
   (qss_one (qs_ret (qe_d d_lowest hr.le passR (by rfl) (qa_cons (qe_op op_mulB (qe_ix ix_seqA (qv 0) qe_int (fun _ _=>rfl)) (qe_ix ix_seqA (qv 1) qe_int (fun _ _=>rfl))) (qa_cons (qe_op op_mulB (qe_ix ix_seqA (qv 0) qe_int (fun _ _=>rfl)) (qe_ix ix_seqA (qv 1) qe_int (fun _ _=>rfl))) qa_nil)))))),?_⟩
 k_extra "rd"
 refine brkD (fun h2=>?_) (fun h2=>?_)
 ·k_extra "rd"
 ·k_extra "rd"
  have h3:0 < n2:=by omega
  exact⟨z1.ok z4 (by decide),z2.ok z3 (by decide),_,_,rfl,(z2.mul z3).mono (by decide),fun h=>absurd h (by have:=mul_pos' h1 h3;omega),fun _ r hr=>hQ h3 r hr⟩
theorem ok_fill(D:DefAt K mg "fill" s_fill f fd)(T:Txt K mg cx)(d_over:DefOk P w K mg base (CXR P w) 3 "over" ["one","other"] (sp_over K cx)):DefOk P w K mg base CX0 4 "fill" ["due","paid"] sp_fill:=by
 refine D.ok (D.q sc_fill (fun vs H Q E h=>?_) (fun cdv A outer s H vs Q E hr h=>?_)) (D.fn.binds fun _ _ _ _ _ _ us hl=>match us,hl with | [_,_],_=>rfl)
 ·obtain⟨_,_,_,_,rfl,_⟩:=h
  rfl
 obtain⟨p,q,d,e,rfl,hp,hq,h0,h1,hc,h2,z1,z2,z3,z4,hQ⟩:=h
 refine⟨_,(qss_cons (qs_if (qt_cmpR (op_eqP hr.units) (qv 0) (qe_tup (qa_cons qe_int (qa_cons qe_int qa_nil))) (nomark _)) (qss_one (qs_ret (qe_tup (qa_cons qe_int (qa_cons qe_int qa_nil))))) qss_nil)
   (qss_one (qs_ret (qe_d d_over hr.le passR0 (by rfl) (qa_cons (qv 1) (qa_cons (qv 0) qa_nil)))))),?_⟩
 k_extra "rx"
 refine i_NewO (Nat.le_of_ble_eq_true rfl) fun r H1 _ s1 hr1=>?_
 have hp1:=s1 _ _ hp
 have hq1:=s1 _ _ hq
 refine⟨p,r,_,_,_,_,rfl,rfl,hp1,hr1,?_⟩
 refine⟨_,rfl,brkD (fun h=>?_) (fun h=>?_)⟩
 ·k_extra "rx"
  refine i_NewO (Nat.le_of_ble_eq_true rfl) fun t H2 _ s2 ht=>?_
  refine hQ t H2 (s1.trans s2) ?_
  unfold fillF
  rw[if_pos h.1]
  exact ht
 ·have hn:0 < d.1:=by
   by_cases e:d.1=0
   ·rw[e,Int.gcd_zero_left] at hc
    exact absurd ⟨e,by omega⟩ h
   ·omega
  k_extra "rx"
  refine⟨q,p,_,_,_,_,rfl,hq1,hp1,h2,z3,z4,z1,z2,fun h=>absurd h (by omega),fun _ t ht=>?_⟩
  refine hQ t _ (s1.trans (Same.new ht)) ?_
  unfold fillF
  rw[if_neg (by omega),upd_same]
  rfl
theorem ok_counted(D:DefAt K mg "counted" s_counted f fd)(T:Txt K mg cx)(d_fill:DefOk P w K mg base CX0 4 "fill" ["due","paid"] sp_fill)(d_below:DefOk P w K mg base CX0 1 "below" ["one","other"] sp_below):DefOk P w K mg base CX0 5 "counted" ["claims","parts","place"] sp_counted:=by
 refine D.ok (D.q sc_counted (fun vs H Q E h=>?_) (fun cdv A outer s H vs Q E hr h=>?_)) (D.fn.binds fun _ _ _ _ _ _ us hl=>match us,hl with | [_,_,_],_=>rfl)
 ·obtain⟨_,_,_,_,_,_,_,_,_,rfl,_⟩:=h
  rfl
 obtain⟨c,p,M,ws,xs,cs,ys,ps,a,rfl,hc,hCs,hC,ha,hp,hR,pl,pz,hM,hQ⟩:=h
 refine⟨_,(qss_cons (qs_set (i:=3) sc_counted.nd rfl (Or.inl rfl) (qe_ix ix_seqA (qe_ix ix_seqA (qv 0) (qv 2) (fun _ _=>rfl)) qe_int (fun _ _=>rfl)))
   (qss_cons (qs_set (i:=4) sc_counted.nd rfl (Or.inl rfl) (qe_d d_fill hr.le pass0 (by rfl) (qa_cons (qe_ix ix_seqA (qe_ix ix_seqA (qv 0) (qv 2) (fun _ _=>rfl)) qe_int (fun _ _=>rfl)) (qa_cons (qe_ix ix_seqA (qv 1) (qv 2) (fun _ _=>rfl)) qa_nil))))
   (qss_cons (qs_set (i:=5) sc_counted.nd rfl (Or.inl rfl) (qe_lst qa_nil))
   (qss_cons (qs_for PassesOwn.never rfl (qi_enumK (K:=K) rfl (by rfl) T.n_enumerate (qa_cons (qv 0) qa_nil)) (qg_tupK (K:=K) (n:=2) rfl rfl (qgs_cons (qg_name (i:=6) sc_counted.nd rfl (Or.inl rfl)) (qgs_cons (qg_name (i:=7) sc_counted.nd rfl (Or.inl rfl)) qgs_nil))) (qss_one (qs_if (qt_cmpR op_lt (qe_ix ix_seqA (qv 7) qe_int (fun _ _=>rfl)) (qv 3) (nomark _)) (qss_one (qs_expr (qe_bmK (K:=K) rfl PySem.F.plainAttrs_list PySem.F.slot_list_append PySem.F.type_list_append mt_append (qv 5) (qa_cons (qv 6) qa_nil)))) (qss_one (qs_if (qw_and (qt_cmpR op_eq (qe_ix ix_seqA (qv 7) qe_int (fun _ _=>rfl)) (qv 3) (nomark _)) (qw_and1 (qt_not (qt_val (qe_d d_below hr.le pass0 (by rfl) (qa_cons (qv 4) (qa_cons (qe_d d_fill hr.le pass0 (by rfl) (qa_cons (qe_ix ix_seqA (qv 7) qe_int (fun _ _=>rfl)) (qa_cons (qe_ix ix_seqA (qv 1) (qv 6) (fun _ _=>rfl)) qa_nil))) qa_nil))))))).pt (qss_one (qs_expr (qe_bmK (K:=K) rfl PySem.F.plainAttrs_list PySem.F.slot_list_append PySem.F.type_list_append mt_append (qv 5) (qa_cons (qv 6) qa_nil)))) qss_nil)))))
   (qss_one (qs_ret (qv 5))))))),?_⟩
 have hxl:=hCs.1
 have c16:=hC.c16
 have atP:∀ i,i < cs.length→∃ r,atI ys (i:Int)=some (.ref r)∧H r=some (.tup [.int (ps.getD i (0,1)).1,.int (ps.getD i (0,1)).2]):=fun i hi=>by
  obtain⟨r,er,hr⟩:=hR.2 i ps[i] (List.getElem?_eq_getElem (by omega))
  have ep:ps.getD i (0,1)=ps[i]:=by simp[List.getD_eq_getElem?_getD,show i < ps.length by omega]
  exact⟨r,atI_nat er,by rw[ep];exact hr⟩
 have atC:∀ i,i < cs.length→∃ rc pc kc,xs[i]?=some (.ref rc)∧H rc=some (.tup [.ref pc,.ref kc,.int (rkP cs i)])∧H pc=some (.tup [.int (dueP cs i).1,.int (dueP cs i).2]):=fun i hi=>by
  obtain⟨v,ev,rc,pc,kc,rfl,e1,e2,e3⟩:=hCs.2 i cs[i] (List.getElem?_eq_getElem hi)
  refine⟨rc,pc,kc,ev,?_,?_⟩
  ·rw[rkP_at hi];exact e1
  ·rw[dueP_at hi];exact e2
 have dz:∀ i,i < cs.length→0≤(dueP cs i).1∧0 < (dueP cs i).2∧Int.gcd (dueP cs i).1 (dueP cs i).2=1∧Sz 400 (dueP cs i).1∧Sz 400 (dueP cs i).2:=fun i hi=>by
  have d:=(hC.dp hi).1
  exact⟨(hC.dp hi).2,d.pos,d.cop,(d.nsz hC.u0).mono (by decide),(Sz.le hC.uz (le_of_dvd' d.toOk.dvd hC.u0)).mono (by decide)⟩
 have fz:∀ i,i < cs.length→Sz 20000 (flP cs ps i).1∧Sz 20000 (flP cs ps i).2:=fun i hi=>by
  obtain⟨d0,d1,_,d2,d3⟩:=dz i hi
  have zp1:=(pz i hi).nsz hM.pos
  have zp2:=(pz i hi).toOk.usz hM
  unfold flP fillF
  split
  ·exact⟨by decide,by decide⟩
  ·obtain⟨a,b⟩:=low_sz ((zp1.mul d3).mono (by decide:4100≤4400)) (zp2.mul d2)
   exact⟨a.mono (by decide),b.mono (by decide)⟩
 obtain⟨ra,a2,ha2⟩:=atP a ha
 obtain⟨rc,pc,kc,ev,hc1,hc2⟩:=atC a ha
 have a1:atI xs (a:Int)=some (.ref rc):=atI_nat ev
 obtain⟨d0,d1,d2,d3,d4⟩:=dz a ha
 k_extra "rx"
 refine⟨pc,ra,dueP cs a,ps.getD a (0,1),rfl,hc2,ha2,d0,d1,d2,(pz a ha).pos,d3,d4,((pz a ha).nsz hM.pos).mono (by decide),(pz a ha).toOk.usz hM,fun t H1 s1 ht=>?_⟩
 k_extra "rx"
 refine i_NewO (by decide) fun F H2 hF s2 hF2=>?_
 have F0:H F=none:=by
  cases e:H F with
  | none=>rfl
  | some o=>rw[s1 _ _ e] at hF;cases hF
 have s02:=s1.trans s2
 have ht2:=s2 _ _ ht
 clear s1 s2 hF ht
 k_extra "rx"
 refine⟨_,rfl,c,rfl,⟨_,SqL.of (s02 _ _ hc)⟩,for_enumN (K:=K) (a:=c) (xs:=xs) (fun j σ H'=>∃ v6 v7,σ=[some (.ref c),some (.ref p),some (.int (a:Int)),some (.int (rkP cs a)),some (.ref t),some (.ref F),v6,v7]∧Same H H'∧H' t=some (.tup [.int (flP cs ps a).1,.int (flP cs ps a).2])∧H' F=some (.lst (((List.range j).filter (cntB cs ps a)).map fun i:Nat=>V.int (i:Int)))) ⟨_,_,rfl,s02,ht2,hF2⟩ (fun i σ H' _ ⟨_,_,_,s,_⟩=>SqL.of (s _ _ hc)) ?_ ?_⟩
 ·rintro i y q σ H3 H4 NN BB hy hq s4 hq4 ⟨v6,v7,rfl,s3,ht3,hF3⟩ kN kB
  clear kB hQ
  have hi:i < cs.length:=by rw[← hxl];exact (List.getElem?_eq_some_iff.mp hy).1
  obtain⟨rb,b2,hb2⟩:=atP i hi
  obtain⟨rd,pd,kd,ed,hd1,hd2⟩:=atC i hi
  rw[ed] at hy
  cases hy
  have s34:=s3.trans s4
  have gt:=s4 _ _ ht3
  have gF:=s4 _ _ hF3
  have gb:=s34 _ _ hb2
  have g1:=s34 _ _ hd1
  have g2:=s34 _ _ hd2
  have gp:=s34 _ _ hp
  have len:(((List.range i).filter (cntB cs ps a)).map fun i:Nat=>V.int (i:Int)).length≤16:=by
   rw[List.length_map]
   refine Nat.le_trans (List.length_filter_le _ _) ?_
   rw[List.length_range]
   omega
  rw[filt_succ (cntB cs ps a) (fun i:Nat=>V.int (i:Int))] at kN
  generalize ((List.range i).filter (cntB cs ps a)).map (fun i:Nat=>V.int (i:Int))=A' at gF len kN
  have ec:cntB cs ps a i=(decide (rkP cs i < rkP cs a) || (decide (rkP cs i=rkP cs a) && !decide ((flP cs ps a).1*(flP cs ps i).2 < (flP cs ps i).1*(flP cs ps a).2))):=rfl
  have put:cntB cs ps a i=true→∀ H5,Same H4 H5→rAppend (.ref F) [.int (i:Int)] H5 fun _ H6=>NN [some (.ref c),some (.ref p),some (.int (a:Int)),some (.int (rkP cs a)),some (.ref t),some (.ref F),some (.int (i:Int)),some (.ref rd)] H6:=fun hc H5 s5=>by
   refine i_app (s5 _ _ gF) (by omega) fun H6 g6 f6=>?_
   refine kN _ _ ⟨_,_,rfl,same_fr F0 (s34.trans s5) f6,TS.frl (s5 _ _ gF) f6 _ _ (s5 _ _ gt),?_⟩
   rw[hc,if_pos rfl]
   exact g6
  have skp:cntB cs ps a i=false→∀ H5,Same H4 H5→NN [some (.ref c),some (.ref p),some (.int (a:Int)),some (.int (rkP cs a)),some (.ref t),some (.ref F),some (.int (i:Int)),some (.ref rd)] H5:=fun hc H5 s5=>by
   refine kN _ _ ⟨_,_,rfl,s34.trans s5,s5 _ _ gt,?_⟩
   rw[hc,if_neg Bool.false_ne_true,List.append_nil]
   exact s5 _ _ gF
  clear kN
  refine⟨q,_,rfl,SqT.of hq4,rfl,_,_,rfl,_,_,rfl,rfl,?_⟩
  dsimp only
  k_extra "rx"
  refine brkD (fun h1=>?_) (fun h1=>?_)
  ·refine i_tBM ?_
   k_extra "rx"
   refine⟨.inl ⟨rfl,_,SqL.of gF⟩,?_⟩
   k_extra "rx"
   exact put (by rw[ec,decide_eq_true h1];rfl) H4 fun _ _ h=>h
  ·rw[decide_eq_false h1,Bool.false_or] at ec
   k_extra "rx"
   refine⟨rfl,?_⟩
   refine⟨_,rfl,brkD (fun h2=>?_) (fun h2=>?_)⟩
   ·have h2:=V.int.inj h2
    rw[decide_eq_true h2,Bool.true_and] at ec
    obtain⟨d0,d1,d2,d3,d4⟩:=dz i hi
    k_extra "rx"
    refine⟨pd,rb,dueP cs i,ps.getD i (0,1),rfl,g2,gb,d0,d1,d2,(pz i hi).pos,d3,d4,((pz i hi).nsz hM.pos).mono (by decide),(pz i hi).toOk.usz hM,fun t2 H5 s5 ht5=>?_⟩
    obtain⟨p1,p2⟩:=fz a ha
    obtain⟨q1,q2⟩:=fz i hi
    k_extra "rx"
    refine⟨t,t2,_,_,_,_,rfl,s5 _ _ gt,ht5,p1,p2,q1,q2,?_⟩
    refine⟨_,rfl,brkN (fun h3=>?_) (fun h3=>?_)⟩
    ·have h3:¬ (flP cs ps a).1*(flP cs ps i).2 < (flP cs ps i).1*(flP cs ps a).2:=h3
     have gF5:=s5 _ _ gF
     k_extra "rx"
     refine i_tBM ?_
     k_extra "rx"
     refine⟨.inl ⟨rfl,_,SqL.of gF5⟩,?_⟩
     k_extra "rx"
     exact put (by rw[ec,decide_eq_false h3];rfl) H5 s5
    ·have h3:(flP cs ps a).1*(flP cs ps i).2 < (flP cs ps i).1*(flP cs ps a).2:=h3
     refine i_tNext ?_
     exact skp (by rw[ec,decide_eq_true h3];rfl) H5 s5
   ·refine i_tNext ?_
    exact skp (by rw[ec,decide_eq_false fun z=>h2 (by rw[z])];rfl) H4 fun _ _ h=>h
 ·rintro σ H3 ⟨v6,v7,rfl,s3,ht3,hF3⟩
  rw[hxl] at hF3
  k_extra "rx"
  exact hQ F H3 s3 hF3
theorem ok_papers(D:DefAt K mg "papers" s_papers f fd)(T:Txt K mg cx)(d_one_under:DefOk P w K mg base CX0 2 "one_under" ["row"] sp_one_under)(d_numbers_over:DefOk P w K mg base CX0 1 "numbers_over" ["row","under"] sp_numbers_over)(d_counted:DefOk P w K mg base CX0 5 "counted" ["claims","parts","place"] sp_counted)(d_heaps:DefOk P w K mg base CX0 1 "heaps" ["many"] sp_heaps)(d_below:DefOk P w K mg base CX0 1 "below" ["one","other"] sp_below)(d_within:DefOk P w K mg base CX0 1 "within" ["touched","heap"] sp_within)(d_heap_worth:DefOk P w K mg base CX0 1 "heap_worth" ["worths","heap"] sp_heap_worth):DefOk P w K mg base CX0 6 "papers" ["worths","claims","parts","place"] sp_papers:=by
 refine D.ok (D.q sc_papers (fun vs H Q E h=>?_) (fun cdv A outer s H vs Q E hr h=>?_)) (D.fn.binds fun _ _ _ _ _ _ us hl=>match us,hl with | [_,_,_,_],_=>rfl)
 ·obtain⟨_,_,_,_,_,_,_,_,_,_,rfl,_⟩:=h
  rfl
 obtain⟨w,c,p,M,ws,xs,cs,ys,ps,a,rfl,sh,hC,ha,hp,hR,pl,bt,pz,hM,hQ⟩:=h
 refine⟨_,(qss_cons (qs_if (qt_not (qt_val (qe_d d_below hr.le pass0 (by rfl) (qa_cons (qe_ix ix_seqA (qv 2) (qv 3) (fun _ _=>rfl)) (qa_cons (qe_ix ix_seqA (qe_ix ix_seqA (qv 1) (qv 3) (fun _ _=>rfl)) qe_int (fun _ _=>rfl)) qa_nil))))) (qss_one (qs_ret (qe_lst qa_nil))) qss_nil)
   (qss_cons (qs_set (i:=4) sc_papers.nd rfl (Or.inl rfl) (qe_d d_one_under hr.le pass0 (by rfl) (qa_cons (qv 2) qa_nil)))
   (qss_cons (qs_set (i:=5) sc_papers.nd rfl (Or.inr rfl) (qe_d d_numbers_over hr.le pass0 (by rfl) (qa_cons (qv 2) (qa_cons (qv 4) qa_nil))))
   (qss_cons (qs_set (i:=6) sc_papers.nd rfl (Or.inl rfl) (qe_d d_counted hr.le pass0 (by rfl) (qa_cons (qv 1) (qa_cons (qv 2) (qa_cons (qv 3) qa_nil)))))
   (qss_cons (qs_set (i:=7) sc_papers.nd rfl (Or.inl rfl) (qe_lst qa_nil))
   (qss_cons (qs_for PassesOwn.never rfl (qi_listK (K:=K) rfl (qe_d d_heaps hr.le pass0 (by rfl) (qa_cons (qe_callB call_lenF (by rfl) T.n_len bt_len (qa_cons (qv 0) qa_nil)) qa_nil))) (qg_name (i:=8) sc_papers.nd rfl (Or.inr rfl)) (qss_cons (qs_set (i:=9) sc_papers.nd rfl (Or.inl rfl) (qe_callB (call_sumF rfl) (by rfl) T.n_sum bt_sum (qa_cons (qe_comp ["other"] [("numbers", 5),("claims", 1),("heap", 8)] rfl (qi_listK (K:=K) rfl (qv 6)) (gext_name (by decide)) (fun cl C fp s2 H2=>⟨(qg_name (i:=0) (show (["other","numbers","claims","heap"]:List Str).Nodup by decide +kernel) rfl (Or.inl rfl)),(qf_one (qt_val (qe_d d_within hr.le pass0 (by rfl) (qa_cons (qe_ix ix_seqA (qe_ix ix_seqA (qv 2) (qv 0) (fun _ _=>rfl)) qe_int (fun _ _=>rfl)) (qa_cons (qv 3) qa_nil))))),(qe_ix ix_seqA (qv 1) (qv 0) (fun _ _=>rfl))⟩) rfl (by decide +kernel) (by decide +kernel) (free_of (by rfl)) (fr_of (by rfl))) qa_nil)))
   (qss_one (qs_if (qw_and (qt_val (qe_d d_within hr.le pass0 (by rfl) (qa_cons (qe_ix ix_seqA (qe_ix ix_seqA (qv 1) (qv 3) (fun _ _=>rfl)) qe_int (fun _ _=>rfl)) (qa_cons (qv 8) qa_nil)))) (qw_and1 (qt_cmpR op_eq (qv 9) (qe_op op_mulB (qe_d d_heap_worth hr.le pass0 (by rfl) (qa_cons (qv 0) (qa_cons (qv 8) qa_nil))) (qv 4)) (nomark _)))).pt (qss_one (qs_expr (qe_bmK (K:=K) rfl PySem.F.plainAttrs_list PySem.F.slot_list_append PySem.F.type_list_append mt_append (qv 7) (qa_cons (qv 8) qa_nil)))) qss_nil))))
   (qss_one (qs_ret (qv 7))))))))),?_⟩
 have hxl:=sh.hC.1
 have c16:=hC.c16
 have w6:=hC.w6
 have hRU:RowU M 3700 H ys ps:=hR.toU fun i hi=>pz i (by omega)
 have h6:∀ c∈cs,c.hp.length≤6:=fun c hc=>(hC.due c hc).2.2
 obtain⟨r,er,hr⟩:=hR.2 a ps[a] (List.getElem?_eq_getElem (by omega))
 have ep:ps.getD a (0,1)=ps[a]:=by simp[List.getD_eq_getElem?_getD,show a < ps.length by omega]
 have a2:atI ys (a:Int)=some (.ref r):=atI_nat er
 obtain⟨v,ev,rc,pc,kc,rfl,e1,e2,e3⟩:=sh.hC.2 a cs[a] (List.getElem?_eq_getElem ha)
 have a1:atI xs (a:Int)=some (.ref rc):=atI_nat ev
 have shc:=sh.c
 have ed:dueP cs a=(cs[a].n,cs[a].u):=dueP_at ha
 have ein:∀ j,inn cs (Srt.sub j) a=lies cs[a].hp (Srt.sub j):=fun j=>by unfold inn;rw[heapP_at ha]
 have ha6:=h6 _ (List.getElem_mem ha)
 have dd:=(hC.dp ha).1
 have pza:=pz a ha
 have lt:=lt_num bt.vp (bt.ok a ha) (bt.od a ha)
 have dz1:Sz 20000 cs[a].n:=by have:=(dd.nsz hC.u0).mono (by decide:_≤20000);rw[ed] at this;exact this
 have dz2:Sz 20000 cs[a].u:=by have:=(Sz.le hC.uz (le_of_dvd' dd.toOk.dvd hC.u0)).mono (by decide:_≤20000);rw[ed] at this;exact this
 have hPL:papL M ws cs ps a=if num M (ps.getD a (0,1)) < num M (dueP cs a) then (ordL (2 ^ ws.length)).filter (papB M ws cs ps a) else []:=rfl
 rw[ed,ep] at lt
 rw[ed,ep] at hPL
 rw[ep] at pza
 generalize ps[a]=P0 at hr lt pza hPL
 generalize cs[a]=C0 at e1 e2 e3 ein ha6 lt dz1 dz2 hPL
 have wl:(ws.map V.int).length=ws.length:=List.length_map _
 k_extra "rx"
 refine⟨r,pc,_,_,_,_,rfl,hr,e2,(pza.nsz hM.pos).mono (by decide),(pza.toOk.usz hM).mono (by decide),dz1,dz2,?_⟩
 refine⟨_,rfl,brkN (fun h1=>?_) (fun h1=>?_)⟩
 ·rw[if_neg fun z=>h1 (lt.mpr z)] at hPL
  k_extra "rx"
  refine i_NewO (by decide) fun F H2 _ s2 hF2=>?_
  exact hQ F [] H2 s2 hF2 ⟨fun _=>F,by rw[hPL];rfl,fun i hi=>by rw[hPL] at hi;cases hi⟩
 ·rw[if_pos (lt.mp h1)] at hPL
  clear lt h1 dz1 dz2 pza ed ep
  k_extra "rx"
  obtain⟨u0,ud,uo⟩:=undP_ok fun q hq=>(hRU.mem q hq).toOk
  have uz:Sz 4000 (undP ps):=Sz.le hM.sz (le_of_dvd' ud hM.pos)
  have uo':∀ i,i < cs.length→Ok (undP ps) (ps.getD i (0,1)):=fun i hi=>uo _ (by
   have:ps.getD i (0,1)=ps[i]:=by simp[List.getD_eq_getElem?_getD,show i < ps.length by omega]
   rw[this]
   exact List.getElem_mem _)
  have pe:∀ j,papB M ws cs ps a j=papB (undP ps) ws cs ps a j:=fun j=>papB_any hM.pos u0 bt.ok uo'
  have nums:=nums_at (U:=undP ps) pl
  have nz:∀ i,i < cs.length→Sz 3700 (num (undP ps) (ps.getD i (0,1))):=fun i hi=>Sz.le (pz i hi).sz (num_le u0 hM.pos (uo' i hi) ud)
  refine⟨p,ys,ps,M,3700,rfl,hp,hM,hRU,by decide,by omega,?_⟩
  k_extra "rx"
  refine⟨p,_,ys,ps,M,3700,rfl,hp,hM,hRU,by decide,by omega,uz,fun N hN=>?_⟩
  rw[nums]
  have s1:=Same.new (o:=.lst (((List.range cs.length).map fun i=>num (undP ps) (ps.getD i (0,1))).map V.int)) hN
  have n1:upd H N (.lst (((List.range cs.length).map fun i=>num (undP ps) (ps.getD i (0,1))).map V.int)) N=_:=upd_same
  generalize upd H N (.lst (((List.range cs.length).map fun i=>num (undP ps) (ps.getD i (0,1))).map V.int))=H1 at s1 n1 ⊢
  have sh1:=sh.same s1
  clear uo nums hN
  k_extra "rx"
  refine⟨c,p,M,ws,xs,cs,ys,ps,a,rfl,sh1.c,sh1.hC,hC,ha,s1 _ _ hp,hR.ts (TS.of s1),pl,pz,hM,fun G H2 s2 hG=>?_⟩
  have hcl:((List.range cs.length).filter (cntB cs ps a)).length≤16:=by
   have:=List.length_filter_le (cntB cs ps a) (List.range cs.length)
   rw[List.length_range] at this
   omega
  have hcm:∀ i∈(List.range cs.length).filter (cntB cs ps a),i < cs.length:=fun i hi=>List.mem_range.mp (List.mem_filter.mp hi).1
  have sF:=fun j=>sp_filt (U:=undP ps) (cs:=cs) (ps:=ps) (a:=a) (j:=j)
  generalize (List.range cs.length).filter (cntB cs ps a)=cl at hG hcl hcm sF
  have s02:=s1.trans s2
  have n2:=s2 _ _ n1
  have sh2:=sh.same s02
  have f1:=s02 _ _ e1
  have f3:=s02 _ _ e3
  clear sh1 n1 s1 s2 e1 e2 e3 hR hRU sh hr er shc
  k_extra "rx"
  refine i_NewO (by decide) fun F H3 hF s3 hF3=>?_
  have F0:H F=none:=s02.free hF
  have nNF:N≠F:=fun z=>by rw[z,hF] at n2;cases n2
  have nGF:G≠F:=fun z=>by rw[z,hF] at hG;cases hG
  have nwF:w≠F:=fun z=>by have:=sh2.w;rw[z,hF] at this;cases this
  have ncF:c≠F:=fun z=>by have:=sh2.c;rw[z,hF] at this;cases this
  have s03:=s02.trans s3
  have n3:=s3 _ _ n2
  have G3:=s3 _ _ hG
  have sh3:=sh2.same s3
  have h1:=s3 _ _ f1
  have h3:=s3 _ _ f3
  clear sh2 n2 s02 s3 f1 f3 hG hF
  k_extra "rx"
  refine⟨_,rfl,w,_,rfl,seqAt_lst sh3.w,ws.length,by rw[wl],w6,fun E0 es H4 s4 nE hE hO=>?_⟩
  obtain⟨ts,rfl,hts⟩:=hO
  have nEF:E0≠F:=fun z=>by rw[z,hF3] at nE;cases nE
  have o5:∀ i∈ordL (2 ^ ws.length),i < 2 ^ ws.length:=fun i hi=>ord_lt hi
  have hOl:(ordL (2 ^ ws.length)).length≤64:=by rw[len_ord _ w6];exact pow64 w6
  have F4:=s4 _ _ hF3
  have s04:=s03.trans s4
  have n4:=s4 _ _ n3
  have G4:=s4 _ _ G3
  have sh4:=sh3.same s4
  have i1:=s4 _ _ h1
  have i3:=s4 _ _ h3
  have tf:=(List.filter_congr fun j (_:j∈ordL (2 ^ ws.length))=>pe j)
  rw[tf] at hPL
  clear sh3 n3 s03 s4 h1 h3 G3 hF3 nE tf pe
  generalize ordL (2 ^ ws.length)=O at hE o5 hOl hPL ⊢
  refine⟨E0,rfl,⟨_,SqL.of hE⟩,for_listN (K:=K) (a:=E0) (xs:=O.map fun i=>V.ref (ts i)) (fun j σ H'=>∃ v8 v9,σ=[some (.ref w),some (.ref c),some (.ref p),some (.int (a:Int)),some (.int (undP ps)),some (.ref N),some (.ref G),some (.ref F),v8,v9]∧Fr1 F H4 H'∧H' F=some (.lst (((O.take j).filter (papB (undP ps) ws cs ps a)).map fun i=>V.ref (ts i)))) ⟨_,_,rfl,Fr1.refl,F4⟩ (fun j σ H' _ ⟨_,_,_,f,_⟩=>SqL.of (f _ _ nEF hE)) ?_ ?_⟩
  ·rintro j y σ H5 NN BB hy ⟨v8,v9,rfl,f5,hF5⟩ kN kB
   clear kB hQ
   have jl:=(List.getElem?_eq_some_iff.mp hy).1
   rw[List.length_map] at jl
   rw[List.getElem?_map,List.getElem?_eq_getElem jl] at hy
   cases hy
   have oj:=o5 O[j] (List.getElem_mem jl)
   rw[filt_take (papB (undP ps) ws cs ps a) (fun i=>V.ref (ts i)) jl] at kN
   have fl0:(((O.take j).filter (papB (undP ps) ws cs ps a)).map fun i=>V.ref (ts i)).length≤64:=by
    rw[List.length_map]
    refine Nat.le_trans (List.length_filter_le _ _) ?_
    rw[List.length_take]
    omega
   generalize ((O.take j).filter (papB (undP ps) ws cs ps a)).map (fun i=>V.ref (ts i))=A0 at hF5 fl0 kN
   have tsf:=TS.frl F4 f5
   have t5:=tsf _ _ (hts _ oj)
   have g1:=tsf _ _ i1
   have g3:=tsf _ _ i3
   have n5:=f5 _ _ nNF n4
   have G5:=f5 _ _ nGF G4
   have w5:=f5 _ _ nwF sh4.w
   have c5:=f5 _ _ ncF sh4.c
   have C5:=sh4.hC.ts tsf
   generalize O[j]=h at oj t5 kN ⊢
   have hpb:papB (undP ps) ws cs ps a h=(lies C0.hp (Srt.sub h) && decide (spN (undP ps) cs ps a h=worthOf ws (Srt.sub h)*undP ps)):=by unfold papB;rw[ein]
   refine i_gName ?_
   refine⟨_,rfl,G,rfl,⟨_,SqL.of G5⟩,fun l2 hl2=>?_⟩
   refine comp_listR (K:=K) (a:=G) (xs:=cl.map fun i:Nat=>V.int (i:Int)) (fun b acc H8=>Same H5 H8∧H8 l2=some (.lst acc)∧acc=(((cl.take b).filter (inn cs (Srt.sub h))).map fun i=>num (undP ps) (ps.getD i (0,1))).map V.int) ⟨Same.new hl2,upd_same,rfl⟩ (fun b acc H8 _ ⟨s8,_,_⟩=>SqL.of (s8 _ _ G5)) ?_ ?_
   ·rintro b y acc H8 hy ⟨s8,hl8,rfl⟩
    have al:=(List.getElem?_eq_some_iff.mp hy).1
    rw[List.length_map] at al
    rw[List.getElem?_map,List.getElem?_eq_getElem al] at hy
    cases hy
    have hi:=hcm _ (List.getElem_mem al)
    have e1:=filt_take (inn cs (Srt.sub h)) (fun i=>num (undP ps) (ps.getD i (0,1))) al
    have len:(((cl.take b).filter (inn cs (Srt.sub h))).map fun i=>num (undP ps) (ps.getD i (0,1))).length≤16:=by
     rw[List.length_map]
     refine Nat.le_trans (List.length_filter_le _ _) ?_
     rw[List.length_take]
     omega
    rw[e1,List.map_append]
    generalize ((cl.take b).filter (inn cs (Srt.sub h))).map (fun i=>num (undP ps) (ps.getD i (0,1)))=A' at hl8 len ⊢
    generalize cl[b]=i at hi ⊢
    have b1:=atI_range (fun i=>num (undP ps) (ps.getD i (0,1))) V.int hi
    obtain⟨v,ev,rd,pd,kd,rfl,d1,d2,d3⟩:=C5.2 i cs[i] (List.getElem?_eq_getElem hi)
    have b2:atI xs (i:Int)=some (.ref rd):=atI_nat ev
    have ei:inn cs (Srt.sub h) i=lies cs[i].hp (Srt.sub h):=by unfold inn;rw[heapP_at hi]
    have hi6:=h6 _ (List.getElem_mem hi)
    rw[ei]
    have k1:=s8 _ _ d1
    have k3:=s8 _ _ d3
    have kt:=s8 _ _ t5
    have kn:=s8 _ _ n5
    have kc:=s8 _ _ c5
    generalize cs[i]=C1 at k1 k3 hi6 ⊢
    clear e1 d1 d2 d3 ev ei kN
    simp only[gName_ap]
    k_extra "rx"
    refine⟨kd,ts h,C1.hp,Srt.sub h,rfl,k3,kt,hi6,fun H9 s9=>?_⟩
    have kl:=s9 _ _ hl8
    have kn9:=s9 _ _ kn
    have s89:=s8.trans s9
    refine⟨_,rfl,i_ite (fun h1=>?_) (fun h1=>?_)⟩
    ·rw[if_pos h1]
     k_extra "rx"
     exact⟨kl,small1000 (by rw[List.length_map];omega),same_put hl2 s89,upd_same,rfl⟩
    ·rw[if_neg (by rw[h1];exact Bool.false_ne_true)]
     exact⟨s89,kl,(List.append_nil _).symm⟩
   ·rintro acc H8 ⟨s8,hl8,rfl⟩
    rw[List.length_map,List.take_length] at hl8
    refine⟨l2,_,rfl,hl8,?_⟩
    rw[sF]
    have s58:=s8
    refine i_gName ?_
    dsimp only
    have c8:=s8 _ _ c5
    have w8:=s8 _ _ w5
    have t8:=s8 _ _ t5
    have m1:=s8 _ _ g1
    have m3:=s8 _ _ g3
    have hF8:=s8 _ _ hF5
    have skp:papB (undP ps) ws cs ps a h=false→∀ s H9,Same H8 H9→NN [some (.ref w),some (.ref c),some (.ref p),some (.int (a:Int)),some (.int (undP ps)),some (.ref N),some (.ref G),some (.ref F),some (.ref (ts h)),some (.int s)] H9:=fun hc s H9 s9=>by
     refine kN _ _ ⟨_,_,rfl,(f5.trans (Fr1.of s8)).trans (Fr1.of s9),?_⟩
     rw[hc,if_neg Bool.false_ne_true,List.append_nil]
     exact s9 _ _ hF8
    k_extra "rx"
    refine⟨kc,ts h,C0.hp,Srt.sub h,rfl,m3,t8,ha6,fun H9 s9=>?_⟩
    refine⟨_,rfl,brk (fun h1=>?_) (fun h1=>?_)⟩
    ·rw[h1,Bool.true_and] at hpb
     k_extra "rx"
     refine⟨w,ts h,ws,Srt.sub h,rfl,s9 _ _ w8,s9 _ _ t8,sub_len h,sub_in ws.length w6 h oj,fun H10 s10=>?_⟩
     refine⟨_,rfl,_,_,rfl,rfl,Sz.ok (worth_sz hC.wz (sub_len h)) uz (by decide),?_⟩
     refine⟨rfl,?_⟩
     refine⟨_,rfl,brkD (fun h2=>?_) (fun h2=>?_)⟩
     ·have h2:=V.int.inj h2
      rw[decide_eq_true h2] at hpb
      have s810:=s9.trans s10
      have hF10:=s810 _ _ hF8
      refine i_tBM ?_
      k_extra "rx"
      refine⟨.inl ⟨rfl,_,SqL.of hF10⟩,?_⟩
      k_extra "rx"
      refine i_app hF10 (by omega) fun H11 g11 f11=>?_
      refine kN _ _ ⟨_,_,rfl,((f5.trans (Fr1.of s8)).trans (Fr1.of s810)).trans f11,?_⟩
      rw[hpb,if_pos rfl]
      exact g11
     ·refine i_tNext ?_
      exact skp (by rw[hpb,decide_eq_false fun z=>h2 (by rw[z])]) _ H10 (s9.trans s10)
    ·refine i_tNext ?_
     exact skp (by rw[hpb,h1];rfl) _ H9 s9
  ·rintro σ H5 ⟨v8,v9,rfl,f5,hF5⟩
   rw[List.length_map,List.take_length,← hPL] at hF5
   k_extra "rx"
   exact hQ F _ H5 (same_fr F0 s04 f5) hF5 ⟨ts,rfl,fun i hi=>TS.frl F4 f5 _ _ (hts i (o5 i (by rw[hPL] at hi;exact (List.mem_filter.mp hi).1)))⟩
theorem ok__law_row(D:DefAt K mg "_law_row" s__law_row f fd)(T:Txt K mg cx)(d__law_pull:DefOk P w K mg base CX0 1 "_law_pull" ["_law_bag_here","_law_many_here"] sp__law_pull)(d__law_times:DefOk P w K mg base CX0 3 "_law_times" ["_law_one","_law_other"] sp__law_times):DefOk P w K mg base CX0 4 "_law_row" ["_law_bag_here","_law_claims_here"] sp__law_row:=by
 refine D.ok (D.q sc__law_row (fun vs H Q E h=>?_) (fun cdv A outer s H vs Q E hr h=>?_)) (D.fn.binds fun _ _ _ _ _ _ us hl=>match us,hl with | [_,_],_=>rfl)
 ·obtain⟨_,_,_,_,_,_,rfl,_⟩:=h
  rfl
 obtain⟨B,L,c,ws,xs,cs,rfl,b0,hc,hCs,cB,hC,hQ⟩:=h
 refine⟨_,(qss_cons (qs_set (i:=2) sc__law_row.nd rfl (Or.inr rfl) (qe_op op_add qe_int (qe_d d__law_pull hr.le pass0 (by rfl) (qa_cons (qv 0) (qa_cons qe_int qa_nil)))))
   (qss_one (qs_ret (qe_comp ["_law_claim"] [("_law_bag_here", 0),("_law_base", 2)] rfl (qi_listK (K:=K) rfl (qv 1)) (gext_name (by decide)) (fun cl C fp s2 H2=>⟨(qg_name (i:=0) (show (["_law_claim","_law_bag_here","_law_base"]:List Str).Nodup by decide +kernel) rfl (Or.inl rfl)),qf_nil,(qe_d d__law_times hr.le pass0 (by rfl) (qa_cons (qe_ix ix_seqA (qv 0) qe_int (fun _ _=>rfl)) (qa_cons (qe_tup (qa_cons (qe_d d__law_pull hr.le pass0 (by rfl) (qa_cons (qv 1) (qa_cons (qe_op op_add (qv 2) qe_int) qa_nil))) (qa_cons (qv 2) qa_nil))) qa_nil)))⟩) rfl (by decide +kernel) (by decide +kernel) (free_of (by rfl)) (fr_of (by rfl)))))),?_⟩
 have hxl:=hCs.1
 have c16:=hC.c16
 k_extra "rx"
 refine⟨B,12,L,rfl,b0,by decide,by decide,fun d H1 d0 d1 b1 f1=>?_⟩
 k_extra "rx"
 have c1:=f1 _ _ cB hc
 have ts1:=TS.fr b0 f1
 have C1:=hCs.ts ts1
 have hb0:0 < 1+d:=by omega
 have hb4:Sz 4 (1+d):=Sz.of (by omega)
 generalize 1+d=b at hb0 hb4 ⊢
 refine⟨_,rfl,c,rfl,⟨_,SqL.of c1⟩,fun l hl=>?_⟩
 have l0:H l=none:=none_of' f1 hl (b1.ne hl)
 have od:∀ i,i < cs.length→Ok UM (dueP cs i):=fun i hi=>(hC.dp hi).1.toOk
 have dn:∀ i,i < cs.length→0≤num UM (dueP cs i):=fun i hi=>(nn_num um_ok.pos (od i hi)).mp (hC.dp hi).2
 have hW:0 < UM*b:=Int.mul_pos um_ok.pos hb0
 have dW:UM∣UM*b:=⟨b,rfl⟩
 refine comp_listR (K:=K) (a:=c) (xs:=xs) (fun i acc H6=>∃ ps:List (Int×Int),ps.length=i∧BagAt H6 B L∧Fr1 B H H6∧H6 l=some (.lst acc)∧RowV H6 acc ps∧∀ j,j < i→Ok (UM*b) (ps.getD j (0,1))∧0≤num (UM*b) (ps.getD j (0,1))∧num (UM*b) (ps.getD j (0,1))≤num (UM*b) (dueP cs j)) ⟨[],rfl,b1.new hl,f1.trans (Fr1.new hl),upd_same,⟨rfl,fun i p h=>by simp at h⟩,fun j hj=>by omega⟩ (fun i acc H6 _ ⟨_,_,_,f6,_⟩=>SqL.of (f6 _ _ cB hc)) ?_ ?_
 ·rintro i y acc H6 hy ⟨ps,pl,b6,f6,hl6,hA,hp⟩
  have hi:i < cs.length:=by rw[← hxl];exact (List.getElem?_eq_some_iff.mp hy).1
  have tsf:=TS.fr b0 f6
  obtain⟨v,ev,rc,pc,kc,rfl,e1,e2,e3⟩:=(hCs.ts tsf).2 i cs[i] (List.getElem?_eq_getElem hi)
  rw[ev] at hy
  cases hy
  have dd:=(hC.dp hi).1
  have ed:dueP cs i=(cs[i].n,cs[i].u):=dueP_at hi
  have odi:=od i hi
  have dni:=dn i hi
  have dz1:Sz 20000 (dueP cs i).1:=(dd.nsz hC.u0).mono (by decide)
  have dz2:Sz 4400 (dueP cs i).2:=(Sz.le hC.uz (le_of_dvd' dd.toOk.dvd hC.u0)).mono (by decide)
  have len:=hA.1
  have lB:l≠B:=b0.ne l0
  rw[ed] at odi dni dz1 dz2
  have hp2:∀ x:Int×Int,Ok (UM*b) x→0≤num (UM*b) x→num (UM*b) x≤num (UM*b) (cs[i].n,cs[i].u)→∀ j,j < i+1→Ok (UM*b) ((ps++[x]).getD j (0,1))∧0≤num (UM*b) ((ps++[x]).getD j (0,1))∧num (UM*b) ((ps++[x]).getD j (0,1))≤num (UM*b) (dueP cs j):=fun x o1 o2 o3 j hj=>by
   by_cases e:j < i
   ·have:(ps++[x]).getD j (0,1)=ps.getD j (0,1):=by rw[List.getD_eq_getElem?_getD,List.getElem?_append_left (by omega),List.getD_eq_getElem?_getD]
    rw[this]
    exact hp j e
   ·have ej:j=i:=by omega
    subst ej
    have:(ps++[x]).getD j (0,1)=x:=by rw[List.getD_eq_getElem?_getD,List.getElem?_append_right (by omega)];simp[pl]
    rw[this,ed]
    exact⟨o1,o2,o3⟩
  clear hp ed dd
  generalize cs[i]=C0 at e1 e2 odi dni dz1 dz2 hp2
  simp only[gName_ap,tYes,if_true]
  k_extra "rx"
  refine⟨B,_,L,rfl,b6,by omega,Sz.mono (j:=5) (Sz.add (k:=4) hb4 (by decide)) (by decide),fun k H7 k0 k1 b7 f7=>?_⟩
  have ts7:=TS.fr b6 f7
  have g2:=ts7 _ _ e2
  have l7:=f7 _ _ lB hl6
  have A7:=hA.ts ts7
  k_extra "rx"
  refine i_NewO (Nat.le_of_ble_eq_true rfl) fun t H8 _ s8 ht=>?_
  have g8:=s8 _ _ g2
  have l8:=s8 _ _ l7
  have A8:=A7.ts (TS.of s8)
  have b8:=b7.keep s8
  have f8:=(f6.trans f7).trans (Fr1.of s8)
  clear e1 e2 e3 hl6 hA g2 l7 A7 s8 b7 f7 ts7 ev b6
  obtain⟨o1,o2,o3⟩:=cut_num (m:=(C0.n,C0.u)) (k:=(k,b)) um_ok.pos odi hb0 k0 (by show k≤b;omega) (Int.dvd_refl b) hb0 dni
  k_extra "rx"
  refine⟨pc,t,_,_,_,_,rfl,g8,ht,odi.pos,hb0,dz1,dz2,Sz.le (y:=b) (hb4.mono (by decide)) (by omega),hb4.mono (by decide),fun r hr=>?_⟩
  have s9:=Same.new (o:=.tup [.int (lowN (C0.n*k) (C0.u*b)),.int (lowU (C0.n*k) (C0.u*b))]) hr
  have g9:upd H8 r (.tup [.int (lowN (C0.n*k) (C0.u*b)),.int (lowU (C0.n*k) (C0.u*b))]) r=some (.tup [.int (low (C0.n*k) (C0.u*b)).1,.int (low (C0.n*k) (C0.u*b)).2]):=upd_same
  generalize upd H8 r (.tup [.int (lowN (C0.n*k) (C0.u*b)),.int (lowU (C0.n*k) (C0.u*b))])=H9 at s9 g9 ⊢
  have l9:=s9 _ _ l8
  have nr:r≠l:=fun z=>by rw[z,l8] at hr;cases hr
  have b9:=b8.keep s9
  refine⟨l9,small1000 (by omega),ps++[low (C0.n*k) (C0.u*b)],by rw[List.length_append,pl];rfl,b9.put lB (b0.neL l0),frB' (f8.trans (Fr1.of s9)) l0 Fr1.upd,upd_same,((A8.ts (TS.of s9)).ts (TS.lst l9)).snoc (by rw[upd_ne nr];exact g9),hp2 _ o1 o2 o3⟩
 ·rintro acc H6 ⟨ps,pl,b6,f6,hl6,hA,hp⟩
  rw[hxl] at pl hp
  refine hQ l acc ps (UM*b) H6 b6 f6 hl6 hA pl ⟨hW,fun i hi=>(hp i hi).1,fun i hi=>(od i hi).up dW,fun i hi=>(hp i hi).2.1,fun i hi=>(hp i hi).2.2⟩ dW (((by decide:Sz 90 UM).mul hb4).mono (by decide)) l0
theorem ok__law_bend(D:DefAt K mg "_law_bend" s__law_bend f fd)(T:Txt K mg cx)(d__law_pull:DefOk P w K mg base CX0 1 "_law_pull" ["_law_bag_here","_law_many_here"] sp__law_pull)(d__law_low:DefOk P w K mg base CX0 2 "_law_low" ["_law_number","_law_under"] sp__law_low)(d__law_less:DefOk P w K mg base CX0 3 "_law_less" ["_law_one","_law_other"] sp__law_less)(d__law_plus:DefOk P w K mg base CX0 3 "_law_plus" ["_law_one","_law_other"] sp__law_plus)(d__law_times:DefOk P w K mg base CX0 3 "_law_times" ["_law_one","_law_other"] sp__law_times)(d__law_row:DefOk P w K mg base CX0 4 "_law_row" ["_law_bag_here","_law_claims_here"] sp__law_row)(d__law_below:DefOk P w K mg base CX0 1 "_law_below" ["_law_one","_law_other"] sp__law_below):DefOk P w K mg base CX0 5 "_law_bend" ["_law_bag_here","_law_claims_here","_law_parts"] sp__law_bend:=by
 refine D.ok (D.q sc__law_bend (fun vs H Q E h=>?_) (fun cdv A outer s H vs Q E hr h=>?_)) (D.fn.binds fun _ _ _ _ _ _ us hl=>match us,hl with | [_,_,_],_=>rfl)
 ·obtain⟨_,_,_,_,_,_,_,_,_,_,rfl,_⟩:=h
  rfl
 obtain⟨B,L,c,f,U,ws,xs,cs,ys,fs,rfl,b0,c0,hCs,cB,fB,hC,hf,hF,fl,bt,dU,uz,hQ⟩:=h
 refine⟨_,(qss_cons (qs_set (i:=2) sc__law_bend.nd rfl (Or.inl rfl) (qe_callTy call_listF (by rfl) T.n_list bt_list (qa_cons (qv 2) qa_nil)))
   (qss_cons (qs_set (i:=3) sc__law_bend.nd rfl (Or.inl rfl) (qe_d d__law_pull hr.le pass0 (by rfl) (qa_cons (qv 0) (qa_cons qe_int qa_nil))))
   (qss_cons (qs_if (qw_or (qt_cmpR (op_eqD hr.units) (qv 1) (qe_lst qa_nil) (nomark _)) (qw_or1 (qt_cmpR op_eq (qv 3) qe_int (nomark _)))).pt (qss_one (qs_ret (qv 2))) qss_nil)
   (qss_cons (qs_set (i:=4) sc__law_bend.nd rfl (Or.inl rfl) (qe_d d__law_pull hr.le pass0 (by rfl) (qa_cons (qv 0) (qa_cons (qe_callB call_lenF (by rfl) T.n_len bt_len (qa_cons (qv 1) qa_nil)) qa_nil))))
   (qss_cons (qs_set (i:=5) sc__law_bend.nd rfl (Or.inl rfl) (qe_d d__law_pull hr.le pass0 (by rfl) (qa_cons (qv 0) (qa_cons (qe_callB call_lenF (by rfl) T.n_len bt_len (qa_cons (qv 1) qa_nil)) qa_nil))))
   (qss_cons (qs_set (i:=6) sc__law_bend.nd rfl (Or.inl rfl) (qe_d d__law_low hr.le pass0 (by rfl) (qa_cons (qe_op op_add qe_int (qe_d d__law_pull hr.le pass0 (by rfl) (qa_cons (qv 0) (qa_cons qe_int qa_nil)))) (qa_cons (qe_op op_add qe_int (qe_d d__law_pull hr.le pass0 (by rfl) (qa_cons (qv 0) (qa_cons qe_int qa_nil)))) qa_nil))))
   (qss_cons (qs_if (qt_cmpR op_lt (qv 3) qe_int (nomark _)) (qss_cons (qs_set (i:=7) sc__law_bend.nd rfl (Or.inl rfl) (qe_ix ix_seqA (qe_lst (qa_cons (qe_ix ix_seqA (qv 2) (qv 4) (fun _ _=>rfl)) (qa_cons (qv 6) qa_nil))) (qe_d d__law_pull hr.le pass0 (by rfl) (qa_cons (qv 0) (qa_cons qe_int qa_nil))) (fun _ _=>rfl)))
   (qss_cons (qs_for PassesOwn.never rfl (qi_tupK (K:=K) rfl (qe_tup (qa_cons (qe_ix ix_seqA (qv 2) (qv 4) (fun _ _=>rfl)) (qa_cons (qe_d d__law_less hr.le pass0 (by rfl) (qa_cons (qe_ix ix_seqA (qe_ix ix_seqA (qv 1) (qv 5) (fun _ _=>rfl)) qe_int (fun _ _=>rfl)) (qa_cons (qe_ix ix_seqA (qv 2) (qv 5) (fun _ _=>rfl)) qa_nil))) qa_nil)))) (qg_name (i:=8) sc__law_bend.nd rfl (Or.inl rfl)) (qss_one (qs_if (qt_val (qe_d d__law_below hr.le pass0 (by rfl) (qa_cons (qv 8) (qa_cons (qv 7) qa_nil)))) (qss_one (qs_set (i:=7) sc__law_bend.nd rfl (Or.inl rfl) (qv 8))) qss_nil)))
   (qss_cons (qs_asg (qe_d d__law_less hr.le pass0 (by rfl) (qa_cons (qe_ix ix_seqA (qv 2) (qv 4) (fun _ _=>rfl)) (qa_cons (qv 7) qa_nil))) (qg_sub (qv 2) (qv 4) set_list))
   (qss_one (qs_asg (qe_d d__law_plus hr.le pass0 (by rfl) (qa_cons (qe_ix ix_seqA (qv 2) (qv 5) (fun _ _=>rfl)) (qa_cons (qv 7) qa_nil))) (qg_sub (qv 2) (qv 5) set_list)))))) qss_nil)
   (qss_cons (qs_if (qt_cmpR op_eq (qv 3) qe_int (nomark _)) (qss_one (qs_asg (qe_d d__law_times hr.le pass0 (by rfl) (qa_cons (qe_ix ix_seqA (qv 2) (qv 4) (fun _ _=>rfl)) (qa_cons (qe_tup (qa_cons qe_int (qa_cons qe_int qa_nil))) qa_nil))) (qg_sub (qv 2) (qv 4) set_list))) qss_nil)
   (qss_cons (qs_if (qt_cmpR op_eq (qv 3) qe_int (nomark _)) (qss_one (qs_asg (qe_ix ix_seqA (qe_ix ix_seqA (qv 1) (qv 4) (fun _ _=>rfl)) qe_int (fun _ _=>rfl)) (qg_sub (qv 2) (qv 4) set_list))) qss_nil)
   (qss_cons (qs_if (qt_cmpR op_eq (qv 3) qe_int (nomark _)) (qss_one (qs_set (i:=2) sc__law_bend.nd rfl (Or.inl rfl) (qe_d d__law_row hr.le pass0 (by rfl) (qa_cons (qv 0) (qa_cons (qv 1) qa_nil))))) qss_nil)
   (qss_one (qs_ret (qv 2))))))))))))),?_⟩
 have hxl:=hCs.1
 have c16:=hC.c16
 refine⟨_,rfl,f,_,rfl,seqAt_lst hf,fun P hP=>?_⟩
 have s1:=Same.new (o:=.lst ys) hP
 have g1:upd H P (.lst ys) P=_:=upd_same
 generalize upd H P (.lst ys)=H1 at s1 g1 ⊢
 have x1:BS H H1 B L c P xs cs ys fs:=⟨b0.keep s1,Fr1.of s1,s1 _ _ c0,hCs.ts (TS.of s1),g1,hF.ts (TS.of s1),fl,hP⟩
 clear g1 s1 hF
 refine i_gName ?_
 dsimp only
 k_extra "rx"
 refine⟨B,6,L,rfl,x1.b,by decide,by decide,fun way H2 wy0 wy1 b2 f2=>?_⟩
 have x2:=x1.pull b0 cB f2 b2
 clear x1 f2 b2
 have hW:0 < U*12:=Int.mul_pos bt.vp (by decide)
 have dW:U∣U*12:=⟨12,rfl⟩
 have bW:=bt.up hW dW
 have dM:UM∣U*12:=Int.dvd_trans dU dW
 have mz:Sz 3304 (U*12):=uz.mul (by decide:Sz 4 12)
 have hM:UOk (U*12):=⟨hW,mz.mono (by decide)⟩
 k_extra "rx"
 refine i_NewO (by decide) fun e H3 _ s3 he=>?_
 have x3:=x2.same s3
 clear x2 s3
 refine⟨.lst (cs.map cD),.lst [],den_lst x3.c x3.hC.dens,den_lst he dens0,fun _ j d e h1 h2=>by simp at h2,?_⟩
 have hW2:0 < U*12*2:=Int.mul_pos hW (by decide)
 have dW2:U*12∣U*12*2:=⟨2,rfl⟩
 have fin:∀ pxs ps H',BS H H' B L c P xs cs pxs ps→Btw (U*12*2) cs ps→Q (.ref P) H':=fun pxs ps H' x b=>hQ P pxs ps (U*12*2) H' x.b x.fr x.p x.r x.len b (Int.dvd_trans dM dW2) ((mz.mul (by decide:Sz 2 2)).mono (by decide)) hP
 refine⟨_,rfl,brk (fun h1=>?_) (fun h1=>?_)⟩
 ·refine i_brkT ?_
  k_extra "rx"
  exact fin _ _ _ x3 (bW.up hW2 dW2)
 ·have hpos:0 < cs.length:=by
   rcases Nat.eq_zero_or_pos cs.length with z | z
   ·exfalso
    have z2:cs=[]:=List.length_eq_zero_iff.mp z
    simp[z2] at h1
   ·exact z
  clear h1 he
  k_extra "rx"
  refine⟨rfl,?_⟩
  refine⟨_,rfl,brkD (fun h1=>?_) (fun h1=>?_)⟩
  ·k_extra "rx"
   exact fin _ _ _ x3 (bW.up hW2 dW2)
  ·clear h1
   have x3c:=x3.c
   k_extra "rx"
   refine⟨B,_,L,rfl,x3.b,by omega,Sz.mono (j:=6) (Sz.of (by omega)) (by decide),fun a' H4 a0 a1 b4 f4=>?_⟩
   have x4:=x3.pull b0 cB f4 b4
   clear x3 x3c f4 b4
   obtain⟨a,rfl⟩:∃ a:Nat,a'=(a:Int):=⟨a'.toNat,by omega⟩
   have ha:a < cs.length:=by omega
   have x4c:=x4.c
   k_extra "rx"
   refine⟨B,_,L,rfl,x4.b,by omega,Sz.mono (j:=6) (Sz.of (by omega)) (by decide),fun o' H5 o0 o1 b5 f5=>?_⟩
   have x5:=x4.pull b0 cB f5 b5
   clear x4 x4c f5 b5
   obtain⟨o,rfl⟩:∃ o:Nat,o'=(o:Int):=⟨o'.toNat,by omega⟩
   have ho:o < cs.length:=by omega
   k_extra "rx"
   refine⟨B,3,L,rfl,x5.b,by decide,by decide,fun n H6 n0 n1 b6 f6=>?_⟩
   have x6:=x5.pull b0 cB f6 b6
   clear x5 f6 b6
   k_extra "rx"
   refine⟨B,4,L,rfl,x6.b,by decide,by decide,fun d H7 d0 d1 b7 f7=>?_⟩
   have x7:=x6.pull b0 cB f7 b7
   clear x6 f7 b7
   have hb:0 < 1+d∧1+d∣12:=⟨by omega,by rcases (by omega:d=0∨d=1∨d=2∨d=3) with rfl | rfl | rfl | rfl<;>decide⟩
   have hb9:Sz 9000 (1+d):=Sz.mono (j:=3) (Sz.of (by omega)) (by decide)
   have hn:0 < 1+n:=by omega
   have hnz:Sz 3 (1+n):=Sz.of (by omega)
   k_extra "rx"
   generalize 1+n=n' at hn hnz ⊢
   generalize 1+d=d' at hb hb9 ⊢
   refine⟨n',d',rfl,hb.1,hb9,fun T hT=>?_⟩
   have s8:=Same.new (o:=.tup [.int (lowN n' d'),.int (lowU n' d')]) hT
   have g8:upd H7 T (.tup [.int (lowN n' d'),.int (lowU n' d')]) T=some (.tup [.int (low n' d').1,.int (low n' d').2]):=upd_same
   generalize upd H7 T (.tup [.int (lowN n' d'),.int (lowU n' d')])=H8 at s8 g8 ⊢
   have x8:=x7.same s8
   have so:Ok (U*12) (low n' d'):=⟨low_pos hb.1,Int.dvd_trans (Int.dvd_trans low_u hb.2) ⟨U,Int.mul_comm _ _⟩,low_cop hb.1⟩
   have sn:0≤num (U*12) (low n' d'):=by
    refine (nn_num hW so).mp ?_
    have kx:=low_x (n:=n') hb.1
    by_cases z:0≤(low n' d').1
    ·exact z
    ·have h1:=Int.mul_neg_of_neg_of_pos (Int.not_le.mp z) hb.1
     have h2:=Int.mul_pos hn (low_pos (n:=n') hb.1)
     omega
   have sz1:Sz 20000 (low n' d').1:=Sz.le (hnz.mono (by decide)) (natAbs_div_le _ _)
   have sz2:Sz 4400 (low n' d').2:=(so.usz hM).mono (by decide)
   clear x7 s8 hT hn hnz hb hb9 d0 d1 n0 n1
   generalize low n' d'=stp' at g8 so sn sz1 sz2
   refine i_gName ?_
   dsimp only
   refine seq_cut (fun σ' H'=>∃ pxs ps v7 v8,σ'=[some (.ref B),some (.ref c),some (.ref P),some (.int way),some (.int (a:Int)),some (.int (o:Int)),some (.ref T),v7,v8]∧BS H H' B L c P xs cs pxs ps∧Btw (U*12) cs ps) ?_ fun tb1 key1=>?_
   ·clear x8 g8
    rintro σ' H9 ⟨pxs,ps,v7,v8,rfl,x9,b9⟩
    refine seq_cut (fun σ' H'=>∃ pxs ps v7 v8,σ'=[some (.ref B),some (.ref c),some (.ref P),some (.int way),some (.int (a:Int)),some (.int (o:Int)),some (.ref T),v7,v8]∧BS H H' B L c P xs cs pxs ps∧Btw (U*12*2) cs ps) ?_ fun tb2 key2=>?_
    ·clear x9 b9
     rintro σ' H10 ⟨pxs,ps,v7,v8,rfl,x10,b10⟩
     refine seq_cut (fun σ' H'=>∃ pxs ps v7 v8,σ'=[some (.ref B),some (.ref c),some (.ref P),some (.int way),some (.int (a:Int)),some (.int (o:Int)),some (.ref T),v7,v8]∧BS H H' B L c P xs cs pxs ps∧Btw (U*12*2) cs ps) ?_ fun tb3 key3=>?_
     ·clear x10 b10
      rintro σ' H11 ⟨pxs,ps,v7,v8,rfl,x11,b11⟩
      k_extra "rx"
      refine⟨rfl,?_⟩
      refine⟨_,rfl,brkD (fun h1=>?_) (fun h1=>?_)⟩
      ·k_extra "rx"
       refine⟨B,L,c,ws,xs,cs,rfl,x11.b,x11.c,x11.hC,cB,hC,fun F zs os M H12 b12 f12 hF12 hR12 ol bo dMo mzo nF=>?_⟩
       k_extra "rx"
       exact hQ F zs os M H12 b12 (x11.fr.trans f12) hF12 hR12 ol bo dMo mzo (none_of' x11.fr nF (x11.b.ne nF))
      ·refine i_tNext ?_
       k_extra "rx"
       exact fin _ _ _ x11 b11
     ·obtain⟨rc,pc,kc,e1,e2,e3⟩:=x10.cl ha
      have x10c:=x10.c
      k_extra "rx"
      refine⟨rfl,?_⟩
      refine⟨_,rfl,brkD (fun h1=>?_) (fun h1=>?_)⟩
      ·k_extra "rx"
       refine i_setN (k:=a) x10.p (ixN_nat (by rw[x10.r.1,x10.len];exact ha)) rfl fun H11 g11 f11=>?_
       have ts:=TS.frl x10.p f11
       exact key3 _ _ ⟨_,_,_,_,rfl,x10.put b0 c0 f11 g11 ((x10.r.ts ts).set (ts _ _ e3)) (by rw[List.length_set];exact x10.len),b10.put (by rw[x10.len];exact ha) (b10.od a ha) ((nn_num hW2 (b10.od a ha)).mp (hC.dp ha).2) (Int.le_refl _)⟩
      ·refine i_tNext ?_
       exact key3 _ _ ⟨_,_,_,_,rfl,x10,b10⟩
    ·obtain⟨r,e1,e2⟩:=x9.at ha
     have x9p:=x9.p
     have pt:=b9.pt hC dM mz ha
     k_extra "rx"
     refine⟨rfl,?_⟩
     refine⟨_,rfl,brkD (fun h1=>?_) (fun h1=>?_)⟩
     ·k_extra "rx"
      refine i_NewO (Nat.le_of_ble_eq_true rfl) fun t H10 _ s10 ht=>?_
      have x10:=x9.same s10
      have e2':=s10 _ _ e2
      obtain⟨o1,o2,o3⟩:=cut_num (m:=ps.getD a (0,1)) (k:=(1,2)) (b:=2) hW (b9.ok a ha) (by decide) (by decide) (by decide) (by decide) (by decide) (b9.nn a ha)
      clear x9 s10 e2
      k_extra "rx"
      refine⟨r,t,_,_,_,_,rfl,e2',ht,pt.pos,by decide,(pt.nsz hW).mono (by decide),(pt.toOk.usz hM).mono (by decide),by decide,by decide,fun t2 ht2=>?_⟩
      have s11:=Same.new (o:=.tup [.int (lowN ((ps.getD a (0,1)).1*1) ((ps.getD a (0,1)).2*2)),.int (lowU ((ps.getD a (0,1)).1*1) ((ps.getD a (0,1)).2*2))]) ht2
      have g11:upd H10 t2 (.tup [.int (lowN ((ps.getD a (0,1)).1*1) ((ps.getD a (0,1)).2*2)),.int (lowU ((ps.getD a (0,1)).1*1) ((ps.getD a (0,1)).2*2))]) t2=some (.tup [.int (low ((ps.getD a (0,1)).1*1) ((ps.getD a (0,1)).2*2)).1,.int (low ((ps.getD a (0,1)).1*1) ((ps.getD a (0,1)).2*2)).2]):=upd_same
      generalize upd H10 t2 (.tup [.int (lowN ((ps.getD a (0,1)).1*1) ((ps.getD a (0,1)).2*2)),.int (lowU ((ps.getD a (0,1)).1*1) ((ps.getD a (0,1)).2*2))])=H11 at s11 g11 ⊢
      have x11:=x10.same s11
      have o3':=Int.le_trans o3 ((b9.up hW2 dW2).le a ha)
      have o1:Ok (U*12*2) (low ((ps.getD a (0,1)).1*1) ((ps.getD a (0,1)).2*2)):=o1
      have o2:0≤num (U*12*2) (low ((ps.getD a (0,1)).1*1) ((ps.getD a (0,1)).2*2)):=o2
      have o3':num (U*12*2) (low ((ps.getD a (0,1)).1*1) ((ps.getD a (0,1)).2*2))≤num (U*12*2) (dueP cs a):=o3'
      generalize low ((ps.getD a (0,1)).1*1) ((ps.getD a (0,1)).2*2)=X at g11 o1 o2 o3'
      k_extra "rx"
      refine i_setN (k:=a) x11.p (ixN_nat (by rw[x11.r.1,x11.len];exact ha)) rfl fun H12 g12 f12=>?_
      have ts:=TS.frl x11.p f12
      exact key2 _ _ ⟨_,_,_,_,rfl,x11.put b0 c0 f12 g12 ((x11.r.ts ts).set (ts _ _ g11)) (by rw[List.length_set];exact x11.len),(b9.up hW2 dW2).put (by rw[x11.len];exact ha) o1 o2 o3'⟩
     ·refine i_tNext ?_
      exact key2 _ _ ⟨_,_,_,_,rfl,x9,b9.up hW2 dW2⟩
   ·obtain⟨r,e1,e2⟩:=x8.at ha
    have x8p:=x8.p
    have pa:=bW.pt hC dM mz ha
    k_extra "rx"
    refine brkD (fun h1=>?_) (fun h1=>?_)
    ·k_extra "rx"
     refine i_NewO (Nat.le_of_ble_eq_true rfl) fun lt H9 _ s9 hlt=>?_
     have x9:=x8.same s9
     have e29:=s9 _ _ e2
     have T9:=s9 _ _ g8
     clear x8 s9 e2 g8 x8p
     k_extra "rx"
     refine⟨B,2,L,rfl,x9.b,by decide,by decide,fun k H10 k0 k1 b10 f10=>?_⟩
     have x10:=x9.pull b0 cB f10 b10
     have ts10:=TS.fr x9.b f10
     have e210:=ts10 _ _ e29
     have T10:=ts10 _ _ T9
     have lB:lt≠B:=fun z=>by rw[z] at hlt;obtain⟨_,_,_,_,y,_⟩:=x9.b;rw[y] at hlt;cases hlt
     have hlt10:=f10 _ _ lB hlt
     clear x9 f10 b10 e29 T9 hlt
     obtain⟨rm,m,em,hm,om,m0,mz1⟩:∃ rm m,atI [V.ref r,V.ref T] k=some (.ref rm)∧H10 rm=some (.tup [.int (m:Int×Int).1,.int m.2])∧Ok (U*12) m∧0≤num (U*12) m∧Sz 20000 m.1:=by
      rcases (by omega:k=0∨k=1) with rfl | rfl
      ·exact⟨r,_,rfl,e210,pa.toOk,bW.nn a ha,(pa.nsz hW).mono (by decide)⟩
      ·exact⟨T,_,rfl,T10,so,sn,sz1⟩
     refine i_ixL hlt10 em ?_
     clear hlt10 em T10 k0 k1 lB ts10
     have x10p:=x10.p
     have x10c:=x10.c
     obtain⟨ro,e5,e6⟩:=x10.at ho
     obtain⟨rc,pc,kc,e7,e8,e9⟩:=x10.cl ho
     have po:=bW.pt hC dM mz ho
     have ddo:=(hC.dp ho).1
     have dzo:0 < (dueP cs o).2∧Sz 20000 (dueP cs o).1∧Sz 4400 (dueP cs o).2:=⟨ddo.pos,(ddo.nsz hC.u0).mono (by decide),(Sz.le hC.uz (le_of_dvd' ddo.toOk.dvd hC.u0)).mono (by decide)⟩
     refine i_gName ?_
     dsimp only
     k_extra "rx"
     unfold tFor iTup
     k_extra "rx"
     refine⟨pc,ro,_,_,_,_,rfl,e9,e6,dzo.1,po.pos,dzo.2.1,dzo.2.2,(po.nsz hW).mono (by decide),(po.toOk.usz hM).mono (by decide),fun t hr=>?_⟩
     have le:=less_ok hW (bW.od o ho) po.toOk
     have s11:=Same.new (o:=.tup [.int (lowN ((dueP cs o).1*(fs.getD o (0,1)).2 - (fs.getD o (0,1)).1*(dueP cs o).2) ((dueP cs o).2*(fs.getD o (0,1)).2)),.int (lowU ((dueP cs o).1*(fs.getD o (0,1)).2 - (fs.getD o (0,1)).1*(dueP cs o).2) ((dueP cs o).2*(fs.getD o (0,1)).2))]) hr
     have g11:upd H10 t (.tup [.int (lowN ((dueP cs o).1*(fs.getD o (0,1)).2 - (fs.getD o (0,1)).1*(dueP cs o).2) ((dueP cs o).2*(fs.getD o (0,1)).2)),.int (lowU ((dueP cs o).1*(fs.getD o (0,1)).2 - (fs.getD o (0,1)).1*(dueP cs o).2) ((dueP cs o).2*(fs.getD o (0,1)).2))]) t=some (.tup [.int (low ((dueP cs o).1*(fs.getD o (0,1)).2 - (fs.getD o (0,1)).1*(dueP cs o).2) ((dueP cs o).2*(fs.getD o (0,1)).2)).1,.int (low ((dueP cs o).1*(fs.getD o (0,1)).2 - (fs.getD o (0,1)).1*(dueP cs o).2) ((dueP cs o).2*(fs.getD o (0,1)).2)).2]):=upd_same
     generalize upd H10 t (.tup [.int (lowN ((dueP cs o).1*(fs.getD o (0,1)).2 - (fs.getD o (0,1)).1*(dueP cs o).2) ((dueP cs o).2*(fs.getD o (0,1)).2)),.int (lowU ((dueP cs o).1*(fs.getD o (0,1)).2 - (fs.getD o (0,1)).1*(dueP cs o).2) ((dueP cs o).2*(fs.getD o (0,1)).2))])=H11 at s11 g11 ⊢
     rw[le] at g11
     have od2:Ok (U*12) (low (num (U*12) (dueP cs o) - num (U*12) (fs.getD o (0,1))) (U*12)):=low_ok hW
     have nd2:num (U*12) (low (num (U*12) (dueP cs o) - num (U*12) (fs.getD o (0,1))) (U*12))=num (U*12) (dueP cs o) - num (U*12) (fs.getD o (0,1)):=num_low hW
     have zd2:Sz 20000 (low (num (U*12) (dueP cs o) - num (U*12) (fs.getD o (0,1))) (U*12)).1:=by
      have z:=due_sz hC dM hW mz ho
      have:=bW.nn o ho
      have:=bW.le o ho
      exact Sz.le ((Sz.le z (show (num (U*12) (dueP cs o) - num (U*12) (fs.getD o (0,1))).natAbs≤(num (U*12) (dueP cs o)).natAbs by omega)).mono (by decide)) (natAbs_div_le _ _)
     generalize low (num (U*12) (dueP cs o) - num (U*12) (fs.getD o (0,1))) (U*12)=D at g11 od2 nd2 zd2
     have x11:=x10.same s11
     have hm11:=s11 _ _ hm
     have e211:=s11 _ _ e210
     clear x10 hm e210 e5 e6 e7 e8 e9 s11 x10p x10c le hr
     k_extra "rx"
     refine i_NewO (Nat.le_of_ble_eq_true rfl) fun tp H12 _ s12 htp=>?_
     have x12:=x11.same s12
     have hm12:=s12 _ _ hm11
     have e212:=s12 _ _ e211
     have g12:=s12 _ _ g11
     clear x11 hm11 e211 g11 s12
     refine⟨tp,rfl,⟨_,SqT.of htp⟩,for_tupN (K:=K) (a:=tp) (xs:=[.ref r,.ref t]) (fun j σ H'=>∃ rm m v8,σ=[some (.ref B),some (.ref c),some (.ref P),some (.int way),some (.int (a:Int)),some (.int (o:Int)),some (.ref T),some (.ref rm),v8]∧H'=H12∧H12 rm=some (.tup [.int (m:Int×Int).1,.int m.2])∧Ok (U*12) m∧0≤num (U*12) m∧Sz 20000 m.1∧(1≤j→num (U*12) m≤num (U*12) (fs.getD a (0,1)))∧(2≤j→num (U*12) m≤num (U*12) D)) ⟨rm,m,_,rfl,rfl,hm12,om,m0,mz1,(fun h=>by omega),(fun h=>by omega)⟩ (fun i σ H' _ ⟨_,_,_,_,e,_⟩=>by rw[e];exact SqT.of htp) ?_ ?_⟩
     ·rintro j y σ H' N' B' hy ⟨rm,m,v8,rfl,rfl,hm,om,m0,mz1,l1,l2⟩ kN kB
      clear kB key1
      obtain⟨ry,qy,rfl,hqy,oqy,qy0,qyz,q1,q2⟩:∃ ry qy,y=.ref ry∧H' ry=some (.tup [.int (qy:Int×Int).1,.int qy.2])∧Ok (U*12) qy∧0≤num (U*12) qy∧Sz 20000 qy.1∧(j=0→qy=fs.getD a (0,1))∧(j≠0→qy=D):=by
       have jl:=(List.getElem?_eq_some_iff.mp hy).1
       have jl:j < 2:=jl
       rcases (by omega:j=0∨j=1) with rfl | rfl
       ·cases hy
        exact⟨r,_,rfl,e212,pa.toOk,bW.nn a ha,(pa.nsz hW).mono (by decide),fun _=>rfl,fun z=>absurd rfl z⟩
       ·cases hy
        exact⟨t,_,rfl,g12,od2,by rw[nd2];have:=bW.le o ho;omega,zd2,fun z=>by omega,fun _=>rfl⟩
      have lt:=lt_num hW oqy om
      refine i_gName ?_
      k_extra "rx"
      refine⟨ry,rm,_,_,_,_,rfl,hqy,hm,qyz,(oqy.usz hM).mono (by decide),mz1,(om.usz hM).mono (by decide),?_⟩
      refine⟨_,rfl,brkD (fun h2=>?_) (fun h2=>?_)⟩
      ·have h2:=lt.mp h2
       k_extra "rx"
       refine kN _ _ ⟨ry,qy,_,rfl,rfl,hqy,oqy,qy0,qyz,fun _=>?_,fun hj=>?_⟩
       ·by_cases z:j=0
        ·rw[q1 z];exact Int.le_refl _
        ·have:=l1 (by omega);omega
       ·rw[q2 (by omega)];exact Int.le_refl _
      ·have h2:¬ num (U*12) qy < num (U*12) m:=fun z=>h2 (lt.mpr z)
       refine i_tNext ?_
       refine kN _ _ ⟨rm,m,_,rfl,rfl,hm,om,m0,mz1,fun _=>?_,fun hj=>?_⟩
       ·by_cases z:j=0
        ·rw[← q1 z];omega
        ·exact l1 (by omega)
       ·rw[← q2 (by omega)];omega
     ·clear hm12 om m0 mz1
      rintro σ H' ⟨rm,m,v8,rfl,rfl,hm,om,m0,mz1,l1,l2⟩
      have l1:=l1 (by show 1≤2;decide)
      have l2:=l2 (by show 2≤2;decide)
      rw[nd2] at l2
      have x12p:=x12.p
      k_extra "rx"
      refine⟨r,rm,_,_,_,_,rfl,e212,hm,pa.pos,om.pos,(pa.nsz hW).mono (by decide),(pa.toOk.usz hM).mono (by decide),mz1,(om.usz hM).mono (by decide),fun t2 ht2=>?_⟩
      have le:=less_ok hW pa.toOk om
      have s13:=Same.new (o:=.tup [.int (lowN ((fs.getD a (0,1)).1*m.2 - m.1*(fs.getD a (0,1)).2) ((fs.getD a (0,1)).2*m.2)),.int (lowU ((fs.getD a (0,1)).1*m.2 - m.1*(fs.getD a (0,1)).2) ((fs.getD a (0,1)).2*m.2))]) ht2
      have g13:upd H' t2 (.tup [.int (lowN ((fs.getD a (0,1)).1*m.2 - m.1*(fs.getD a (0,1)).2) ((fs.getD a (0,1)).2*m.2)),.int (lowU ((fs.getD a (0,1)).1*m.2 - m.1*(fs.getD a (0,1)).2) ((fs.getD a (0,1)).2*m.2))]) t2=some (.tup [.int (low ((fs.getD a (0,1)).1*m.2 - m.1*(fs.getD a (0,1)).2) ((fs.getD a (0,1)).2*m.2)).1,.int (low ((fs.getD a (0,1)).1*m.2 - m.1*(fs.getD a (0,1)).2) ((fs.getD a (0,1)).2*m.2)).2]):=upd_same
      generalize upd H' t2 (.tup [.int (lowN ((fs.getD a (0,1)).1*m.2 - m.1*(fs.getD a (0,1)).2) ((fs.getD a (0,1)).2*m.2)),.int (lowU ((fs.getD a (0,1)).1*m.2 - m.1*(fs.getD a (0,1)).2) ((fs.getD a (0,1)).2*m.2))])=H13 at s13 g13 ⊢
      rw[le] at g13
      have ox:Ok (U*12) (low (num (U*12) (fs.getD a (0,1)) - num (U*12) m) (U*12)):=low_ok hW
      have nx:num (U*12) (low (num (U*12) (fs.getD a (0,1)) - num (U*12) m) (U*12))=num (U*12) (fs.getD a (0,1)) - num (U*12) m:=num_low hW
      generalize low (num (U*12) (fs.getD a (0,1)) - num (U*12) m) (U*12)=X at g13 ox nx
      have x13:=x12.same s13
      have hm13:=s13 _ _ hm
      clear x12 hm x12p ht2 s13 le e212 g12
      k_extra "rx"
      refine i_setN (k:=a) x13.p (ixN_nat (by rw[x13.r.1,x13.len];exact ha)) rfl fun H14 g14 f14=>?_
      have ts:=TS.frl x13.p f14
      have x14:=x13.put b0 c0 f14 g14 ((x13.r.ts ts).set (ts _ _ g13)) (by rw[List.length_set];exact x13.len)
      have pa0:=bW.le a ha
      have pa1:=bW.nn a ha
      have b14:=bW.put (by rw[x13.len];exact ha) ox (by omega) (by omega)
      have hm14:=ts _ _ hm13
      have eo:(fs.set a X).getD o (0,1)=if o=a then X else fs.getD o (0,1):=by
       rw[List.getD_eq_getElem?_getD,List.getElem?_set]
       by_cases h:a=o
       ·subst h
        rw[if_pos rfl,if_pos (by omega),if_pos rfl]
        rfl
       ·rw[if_neg h,if_neg fun z=>h z.symm,List.getD_eq_getElem?_getD]
      have lo:num (U*12) ((fs.set a X).getD o (0,1))+num (U*12) m≤num (U*12) (dueP cs o):=by
       rw[eo]
       split
       ·rename_i e
        subst e
        omega
       ·omega
      clear x13 hm13 g14 f14 ts g13 eo nx ox
      generalize fs.set a X=ps2 at x14 b14 lo
      have po2:=b14.pt hC dM mz ho
      have po3:=b14.nn o ho
      obtain⟨ro2,e5,e6⟩:=x14.at ho
      have x14p:=x14.p
      refine i_tNext ?_
      k_extra "rx"
      refine⟨ro2,rm,_,_,_,_,rfl,e6,hm14,po2.pos,om.pos,(po2.nsz hW).mono (by decide),(po2.toOk.usz hM).mono (by decide),mz1,(om.usz hM).mono (by decide),fun t3 ht3=>?_⟩
      have ad:=add_ok hW po2.toOk om
      have s15:=Same.new (o:=.tup [.int (lowN ((ps2.getD o (0,1)).1*m.2+m.1*(ps2.getD o (0,1)).2) ((ps2.getD o (0,1)).2*m.2)),.int (lowU ((ps2.getD o (0,1)).1*m.2+m.1*(ps2.getD o (0,1)).2) ((ps2.getD o (0,1)).2*m.2))]) ht3
      have g15:upd H14 t3 (.tup [.int (lowN ((ps2.getD o (0,1)).1*m.2+m.1*(ps2.getD o (0,1)).2) ((ps2.getD o (0,1)).2*m.2)),.int (lowU ((ps2.getD o (0,1)).1*m.2+m.1*(ps2.getD o (0,1)).2) ((ps2.getD o (0,1)).2*m.2))]) t3=some (.tup [.int (addP (ps2.getD o (0,1)) m).1,.int (addP (ps2.getD o (0,1)) m).2]):=upd_same
      generalize upd H14 t3 (.tup [.int (lowN ((ps2.getD o (0,1)).1*m.2+m.1*(ps2.getD o (0,1)).2) ((ps2.getD o (0,1)).2*m.2)),.int (lowU ((ps2.getD o (0,1)).1*m.2+m.1*(ps2.getD o (0,1)).2) ((ps2.getD o (0,1)).2*m.2))])=H15 at s15 g15 ⊢
      rw[ad] at g15
      have oy:Ok (U*12) (low (num (U*12) (ps2.getD o (0,1))+num (U*12) m) (U*12)):=low_ok hW
      have ny:num (U*12) (low (num (U*12) (ps2.getD o (0,1))+num (U*12) m) (U*12))=num (U*12) (ps2.getD o (0,1))+num (U*12) m:=num_low hW
      generalize low (num (U*12) (ps2.getD o (0,1))+num (U*12) m) (U*12)=Y at g15 oy ny
      have x15:=x14.same s15
      clear x14 x14p e5 e6 hm14 ad s15 ht3
      k_extra "rx"
      refine i_setN (k:=o) x15.p (ixN_nat (by rw[x15.r.1,x15.len];exact ho)) rfl fun H16 g16 f16=>?_
      have ts:=TS.frl x15.p f16
      exact key1 _ _ ⟨_,_,_,_,rfl,x15.put b0 c0 f16 g16 ((x15.r.ts ts).set (ts _ _ g15)) (by rw[List.length_set];exact x15.len),b14.put (by rw[x15.len];exact ho) oy (by omega) (by omega)⟩
    ·refine i_tNext ?_
     exact key1 _ _ ⟨_,_,_,_,rfl,x8,bW⟩
theorem ok__law_ahead(D:DefAt K mg "_law_ahead" s__law_ahead f fd)(T:Txt K mg cx)(d__law_fill:DefOk P w K mg base CX0 4 "_law_fill" ["_law_due_here","_law_paid"] sp__law_fill)(d__law_below:DefOk P w K mg base CX0 1 "_law_below" ["_law_one","_law_other"] sp__law_below):DefOk P w K mg base CX0 5 "_law_ahead" ["_law_claims_here","_law_parts","_law_place"] sp__law_ahead:=by
 refine D.ok (D.q sc__law_ahead (fun vs H Q E h=>?_) (fun cdv A outer s H vs Q E hr h=>?_)) (D.fn.binds fun _ _ _ _ _ _ us hl=>match us,hl with | [_,_,_],_=>rfl)
 ·obtain⟨_,_,_,_,_,_,_,_,_,rfl,_⟩:=h
  rfl
 obtain⟨c,p,M,ws,xs,cs,ys,ps,a,rfl,hc,hCs,hC,ha,hp,hR,pl,pz,hM,hQ⟩:=h
 refine⟨_,(qss_cons (qs_set (i:=3) sc__law_ahead.nd rfl (Or.inl rfl) (qe_ix ix_seqA (qe_ix ix_seqA (qv 0) (qv 2) (fun _ _=>rfl)) qe_int (fun _ _=>rfl)))
   (qss_cons (qs_set (i:=4) sc__law_ahead.nd rfl (Or.inl rfl) (qe_d d__law_fill hr.le pass0 (by rfl) (qa_cons (qe_ix ix_seqA (qe_ix ix_seqA (qv 0) (qv 2) (fun _ _=>rfl)) qe_int (fun _ _=>rfl)) (qa_cons (qe_ix ix_seqA (qv 1) (qv 2) (fun _ _=>rfl)) qa_nil))))
   (qss_cons (qs_set (i:=5) sc__law_ahead.nd rfl (Or.inl rfl) (qe_lst qa_nil))
   (qss_cons (qs_for PassesOwn.never rfl (qi_range1 (by rfl) T.n_range (qa_cons (qe_callB call_lenF (by rfl) T.n_len bt_len (qa_cons (qv 0) qa_nil)) qa_nil)) (qg_name (i:=6) sc__law_ahead.nd rfl (Or.inl rfl)) (qss_cons (qs_set (i:=7) sc__law_ahead.nd rfl (Or.inl rfl) (qe_and (qe_cmpR op_eq (qe_ix ix_seqA (qe_ix ix_seqA (qv 0) (qv 6) (fun _ _=>rfl)) qe_int (fun _ _=>rfl)) (qv 3) (nomark _)) (qe_one (qe_not (qe_d d__law_below hr.le pass0 (by rfl) (qa_cons (qv 4) (qa_cons (qe_d d__law_fill hr.le pass0 (by rfl) (qa_cons (qe_ix ix_seqA (qe_ix ix_seqA (qv 0) (qv 6) (fun _ _=>rfl)) qe_int (fun _ _=>rfl)) (qa_cons (qe_ix ix_seqA (qv 1) (qv 6) (fun _ _=>rfl)) qa_nil))) qa_nil)))))))
   (qss_one (qs_if (qw_or (qt_cmpR op_lt (qe_ix ix_seqA (qe_ix ix_seqA (qv 0) (qv 6) (fun _ _=>rfl)) qe_int (fun _ _=>rfl)) (qv 3) (nomark _)) (qw_or1 (qt_val (qv 7)))).pt (qss_one (qs_expr (qe_bmK (K:=K) rfl PySem.F.plainAttrs_list PySem.F.slot_list_append PySem.F.type_list_append mt_append (qv 5) (qa_cons (qv 6) qa_nil)))) qss_nil))))
   (qss_one (qs_ret (qv 5))))))),?_⟩
 have hxl:=hCs.1
 have c16:=hC.c16
 have atP:∀ i,i < cs.length→∃ r,atI ys (i:Int)=some (.ref r)∧H r=some (.tup [.int (ps.getD i (0,1)).1,.int (ps.getD i (0,1)).2]):=fun i hi=>by
  obtain⟨r,er,hr⟩:=hR.2 i ps[i] (List.getElem?_eq_getElem (by omega))
  have ep:ps.getD i (0,1)=ps[i]:=by simp[List.getD_eq_getElem?_getD,show i < ps.length by omega]
  exact⟨r,atI_nat er,by rw[ep];exact hr⟩
 have atC:∀ i,i < cs.length→∃ rc pc kc,xs[i]?=some (.ref rc)∧H rc=some (.tup [.ref pc,.ref kc,.int (rkP cs i)])∧H pc=some (.tup [.int (dueP cs i).1,.int (dueP cs i).2]):=fun i hi=>by
  obtain⟨v,ev,rc,pc,kc,rfl,e1,e2,e3⟩:=hCs.2 i cs[i] (List.getElem?_eq_getElem hi)
  refine⟨rc,pc,kc,ev,?_,?_⟩
  ·rw[rkP_at hi];exact e1
  ·rw[dueP_at hi];exact e2
 have dz:∀ i,i < cs.length→0≤(dueP cs i).1∧0 < (dueP cs i).2∧Int.gcd (dueP cs i).1 (dueP cs i).2=1∧Sz 400 (dueP cs i).1∧Sz 400 (dueP cs i).2:=fun i hi=>by
  have d:=(hC.dp hi).1
  exact⟨(hC.dp hi).2,d.pos,d.cop,(d.nsz hC.u0).mono (by decide),(Sz.le hC.uz (le_of_dvd' d.toOk.dvd hC.u0)).mono (by decide)⟩
 have fz:∀ i,i < cs.length→Sz 20000 (flP cs ps i).1∧Sz 20000 (flP cs ps i).2:=fun i hi=>by
  obtain⟨d0,d1,_,d2,d3⟩:=dz i hi
  have zp1:=(pz i hi).nsz hM.pos
  have zp2:=(pz i hi).toOk.usz hM
  unfold flP fillF
  split
  ·exact⟨by decide,by decide⟩
  ·obtain⟨a,b⟩:=low_sz ((zp1.mul d3).mono (by decide:4100≤4400)) (zp2.mul d2)
   exact⟨a.mono (by decide),b.mono (by decide)⟩
 obtain⟨ra,a2,ha2⟩:=atP a ha
 obtain⟨rc,pc,kc,ev,hc1,hc2⟩:=atC a ha
 have a1:atI xs (a:Int)=some (.ref rc):=atI_nat ev
 obtain⟨d0,d1,d2,d3,d4⟩:=dz a ha
 k_extra "rx"
 refine⟨pc,ra,dueP cs a,ps.getD a (0,1),rfl,hc2,ha2,d0,(pz a ha).pos,d3.mono (by decide),d4.mono (by decide),((pz a ha).nsz hM.pos).mono (by decide),(pz a ha).toOk.usz hM,fun t H1 s1 ht=>?_⟩
 k_extra "rx"
 refine i_NewO (by decide) fun F H2 hF s2 hF2=>?_
 have F0:H F=none:=s1.free hF
 have s02:=s1.trans s2
 have ht2:=s2 _ _ ht
 clear s1 s2 hF ht
 k_extra "rx"
 refine⟨_,rfl,c,_,rfl,seqAt_lst (s02 _ _ hc),_,rfl,by omega,by omega,for_rangeN (lo:=0) (n:=((xs.length:Nat):Int).toNat) (fun j σ H'=>∃ v6 v7,σ=[some (.ref c),some (.ref p),some (.int (a:Int)),some (.int (rkP cs a)),some (.ref t),some (.ref F),v6,v7]∧Same H H'∧H' t=some (.tup [.int (flP cs ps a).1,.int (flP cs ps a).2])∧H' F=some (.lst (((List.range j).filter (cntB cs ps a)).map fun i:Nat=>V.int (i:Int)))) ⟨_,_,rfl,s02,ht2,hF2⟩ ?_ ?_⟩
 ·rintro i σ H4 NN BB hi0 ⟨v6,v7,rfl,s34,gt,gF⟩ kN kB
  clear kB hQ
  have hi:i < cs.length:=by omega
  obtain⟨rb,b2,hb2⟩:=atP i hi
  obtain⟨rd,pd,kd,ed,hd1,hd2⟩:=atC i hi
  have b3:atI xs (i:Int)=some (.ref rd):=atI_nat ed
  have ei:(0+(i:Int))=(i:Int):=Int.zero_add _
  have gb:=s34 _ _ hb2
  have g1:=s34 _ _ hd1
  have g2:=s34 _ _ hd2
  have gp:=s34 _ _ hp
  have gc:=s34 _ _ hc
  have len:(((List.range i).filter (cntB cs ps a)).map fun i:Nat=>V.int (i:Int)).length≤16:=by
   rw[List.length_map]
   refine Nat.le_trans (List.length_filter_le _ _) ?_
   rw[List.length_range]
   omega
  rw[filt_succ (cntB cs ps a) (fun i:Nat=>V.int (i:Int))] at kN
  generalize ((List.range i).filter (cntB cs ps a)).map (fun i:Nat=>V.int (i:Int))=A' at gF len kN
  have ec:cntB cs ps a i=(decide (rkP cs i < rkP cs a) || (decide (rkP cs i=rkP cs a) && !decide ((flP cs ps a).1*(flP cs ps i).2 < (flP cs ps i).1*(flP cs ps a).2))):=rfl
  refine i_gName ?_
  rw[ei]
  dsimp only
  refine seq_cut (fun σ' H'=>∃ b,σ'=[some (.ref c),some (.ref p),some (.int (a:Int)),some (.int (rkP cs a)),some (.ref t),some (.ref F),some (.int (i:Int)),some (.bl b)]∧Same H4 H'∧b=(decide (rkP cs i=rkP cs a) && !decide ((flP cs ps a).1*(flP cs ps i).2 < (flP cs ps i).1*(flP cs ps a).2))) ?_ fun tb' key=>?_
  ·rintro σ' H5 ⟨b,rfl,s5,eb⟩
   rw[← eb] at ec
   have gF5:=s5 _ _ gF
   have g15:=s5 _ _ g1
   have gc5:=s5 _ _ gc
   have put:cntB cs ps a i=true→rAppend (.ref F) [.int (i:Int)] H5 fun _ H6=>NN [some (.ref c),some (.ref p),some (.int (a:Int)),some (.int (rkP cs a)),some (.ref t),some (.ref F),some (.int (i:Int)),some (.bl b)] H6:=fun hc=>by
    refine i_app gF5 (by omega) fun H6 g6 f6=>?_
    refine kN _ _ ⟨_,_,rfl,same_fr F0 (s34.trans s5) f6,TS.frl gF5 f6 _ _ (s5 _ _ gt),?_⟩
    rw[hc,if_pos rfl]
    exact g6
   k_extra "rx"
   refine brkD (fun h1=>?_) (fun h1=>?_)
   ·refine i_brkT ?_
    refine i_tBM ?_
    k_extra "rx"
    refine⟨.inl ⟨rfl,_,SqL.of gF5⟩,?_⟩
    k_extra "rx"
    exact put (by rw[ec,decide_eq_true h1];rfl)
   ·rw[decide_eq_false h1,Bool.false_or] at ec
    k_extra "rx"
    refine brk (fun h2=>?_) (fun h2=>?_)
    ·refine i_tBM ?_
     k_extra "rx"
     refine⟨.inl ⟨rfl,_,SqL.of gF5⟩,?_⟩
     k_extra "rx"
     exact put (by rw[ec,h2])
    ·refine i_tNext ?_
     refine kN _ _ ⟨_,_,rfl,s34.trans s5,s5 _ _ gt,?_⟩
     rw[ec,h2,if_neg Bool.false_ne_true,List.append_nil]
     exact gF5
  ·clear kN
   k_extra "rx"
   refine i_tAndV ?_
   k_extra "rx"
   refine⟨rfl,?_⟩
   refine⟨_,rfl,brkD (fun h2=>?_) (fun h2=>?_)⟩
   ·have h2:=V.int.inj h2
    obtain⟨d0,d1,d2,d3,d4⟩:=dz i hi
    show tNotV _ _ _ _
    rw[tNotV_ap]
    k_extra "rx"
    refine⟨pd,rb,dueP cs i,ps.getD i (0,1),rfl,g2,gb,d0,(pz i hi).pos,d3.mono (by decide),d4.mono (by decide),((pz i hi).nsz hM.pos).mono (by decide),(pz i hi).toOk.usz hM,fun t2 H5 s5 ht5=>?_⟩
    obtain⟨p1,p2⟩:=fz a ha
    obtain⟨q1,q2⟩:=fz i hi
    k_extra "rx"
    refine⟨t,t2,_,_,_,_,rfl,s5 _ _ gt,ht5,p1,p2,q1,q2,?_⟩
    refine⟨_,rfl,i_gName (key _ _ ⟨_,rfl,s5,?_⟩)⟩
    rw[decide_eq_true h2]
    rfl
   ·refine i_gName (key _ _ ⟨_,rfl,fun _ _ h=>h,?_⟩)
    rw[decide_eq_false fun z=>h2 (by rw[z])]
    rfl
 ·rintro σ H3 ⟨v6,v7,rfl,s3,ht3,hF3⟩
  rw[Int.toNat_natCast,hxl] at hF3
  k_extra "rx"
  exact hQ F H3 s3 hF3
theorem ok__law_papers(D:DefAt K mg "_law_papers" s__law_papers f fd)(T:Txt K mg cx)(d__law_ahead:DefOk P w K mg base CX0 5 "_law_ahead" ["_law_claims_here","_law_parts","_law_place"] sp__law_ahead)(d__law_heaps:DefOk P w K mg base CX0 1 "_law_heaps" ["_law_many_here"] sp__law_heaps)(d__law_lies:DefOk P w K mg base CX0 1 "_law_lies" ["_law_touched","_law_heap_here"] sp__law_lies)(d__law_sum:DefOk P w K mg base CX0 4 "_law_sum" ["_law_row_here"] sp__law_sum)(d__law_worth:DefOk P w K mg base CX0 1 "_law_worth" ["_law_worths_here","_law_heap_here"] sp__law_worth):DefOk P w K mg base CX0 6 "_law_papers" ["_law_worths_here","_law_claims_here","_law_parts","_law_place"] sp__law_papers:=by
 refine D.ok (D.q sc__law_papers (fun vs H Q E h=>?_) (fun cdv A outer s H vs Q E hr h=>?_)) (D.fn.binds fun _ _ _ _ _ _ us hl=>match us,hl with | [_,_,_,_],_=>rfl)
 ·obtain⟨_,_,_,_,_,_,_,_,_,_,rfl,_⟩:=h
  rfl
 obtain⟨w,c,p,M,ws,xs,cs,ys,ps,a,rfl,sh,hC,ha,hp,hR,pl,bt,pz,hM,hQ⟩:=h
 refine⟨_,(qss_cons (qs_if (qt_cmpR (op_eqP hr.units) (qe_ix ix_seqA (qv 2) (qv 3) (fun _ _=>rfl)) (qe_ix ix_seqA (qe_ix ix_seqA (qv 1) (qv 3) (fun _ _=>rfl)) qe_int (fun _ _=>rfl)) (nomark _)) (qss_one (qs_ret (qe_lst qa_nil))) qss_nil)
   (qss_cons (qs_set (i:=4) sc__law_papers.nd rfl (Or.inl rfl) (qe_d d__law_ahead hr.le pass0 (by rfl) (qa_cons (qv 1) (qa_cons (qv 2) (qa_cons (qv 3) qa_nil)))))
   (qss_cons (qs_set (i:=5) sc__law_papers.nd rfl (Or.inl rfl) (qe_lst qa_nil))
   (qss_cons (qs_for PassesOwn.never rfl (qi_listK (K:=K) rfl (qe_d d__law_heaps hr.le pass0 (by rfl) (qa_cons (qe_callB call_lenF (by rfl) T.n_len bt_len (qa_cons (qv 0) qa_nil)) qa_nil))) (qg_name (i:=6) sc__law_papers.nd rfl (Or.inr rfl)) (qss_one (qs_if (qt_val (qe_d d__law_lies hr.le pass0 (by rfl) (qa_cons (qe_ix ix_seqA (qe_ix ix_seqA (qv 1) (qv 3) (fun _ _=>rfl)) qe_int (fun _ _=>rfl)) (qa_cons (qv 6) qa_nil)))) (qss_cons (qs_set (i:=7) sc__law_papers.nd rfl (Or.inl rfl) (qe_d d__law_sum hr.le pass0 (by rfl) (qa_cons (qe_comp ["_law_at"] [("_law_parts", 2),("_law_claims_here", 1),("_law_heap_here", 6)] rfl (qi_listK (K:=K) rfl (qv 4)) (gext_name (by decide)) (fun cl C fp s2 H2=>⟨(qg_name (i:=0) (show (["_law_at","_law_parts","_law_claims_here","_law_heap_here"]:List Str).Nodup by decide +kernel) rfl (Or.inl rfl)),(qf_one (qt_val (qe_d d__law_lies hr.le pass0 (by rfl) (qa_cons (qe_ix ix_seqA (qe_ix ix_seqA (qv 2) (qv 0) (fun _ _=>rfl)) qe_int (fun _ _=>rfl)) (qa_cons (qv 3) qa_nil))))),(qe_ix ix_seqA (qv 1) (qv 0) (fun _ _=>rfl))⟩) rfl (by decide +kernel) (by decide +kernel) (free_of (by rfl)) (fr_of (by rfl))) qa_nil)))
   (qss_one (qs_if (qt_cmpR (op_eqP hr.units) (qv 7) (qe_tup (qa_cons (qe_d d__law_worth hr.le pass0 (by rfl) (qa_cons (qv 0) (qa_cons (qv 6) qa_nil))) (qa_cons qe_int qa_nil))) (nomark _)) (qss_one (qs_expr (qe_bmK (K:=K) rfl PySem.F.plainAttrs_list PySem.F.slot_list_append PySem.F.type_list_append mt_append (qv 5) (qa_cons (qv 6) qa_nil)))) qss_nil))) qss_nil)))
   (qss_one (qs_ret (qv 5))))))),?_⟩
 have hxl:=sh.hC.1
 have c16:=hC.c16
 have w6:=hC.w6
 have h6:∀ c∈cs,c.hp.length≤6:=fun c hc=>(hC.due c hc).2.2
 obtain⟨r,er,hr⟩:=hR.2 a ps[a] (List.getElem?_eq_getElem (by omega))
 have ep:ps.getD a (0,1)=ps[a]:=by simp[List.getD_eq_getElem?_getD,show a < ps.length by omega]
 have a2:atI ys (a:Int)=some (.ref r):=atI_nat er
 obtain⟨v,ev,rc,pc,kc,rfl,e1,e2,e3⟩:=sh.hC.2 a cs[a] (List.getElem?_eq_getElem ha)
 have a1:atI xs (a:Int)=some (.ref rc):=atI_nat ev
 have shc:=sh.c
 have ed:dueP cs a=(cs[a].n,cs[a].u):=dueP_at ha
 have ein:∀ j,inn cs (Srt.sub j) a=lies cs[a].hp (Srt.sub j):=fun j=>by unfold inn;rw[heapP_at ha]
 have ha6:=h6 _ (List.getElem_mem ha)
 have hPR:papR M ws cs ps a=if ps.getD a (0,1)=dueP cs a then [] else (List.range (2 ^ ws.length)).filter (papB M ws cs ps a):=rfl
 rw[ed,ep] at hPR
 generalize ps[a]=P0 at hr hPR
 generalize cs[a]=C0 at e1 e2 e3 ein ha6 hPR
 have wl:(ws.map V.int).length=ws.length:=List.length_map _
 k_extra "rx"
 refine⟨r,pc,_,_,_,_,rfl,rfl,hr,e2,?_⟩
 refine⟨_,rfl,brkD (fun h1=>?_) (fun h1=>?_)⟩
 ·rw[if_pos (Prod.ext h1.1 h1.2)] at hPR
  k_extra "rx"
  refine i_NewO (by decide) fun F H2 _ s2 hF2=>?_
  exact hQ F [] H2 s2 hF2 ⟨fun _=>F,by rw[hPR];rfl,fun i hi=>by rw[hPR] at hi;cases hi⟩
 ·rw[if_neg fun z=>h1 (by rw[z];exact⟨rfl,rfl⟩)] at hPR
  clear h1 ed ep
  k_extra "rx"
  refine⟨c,p,M,ws,xs,cs,ys,ps,a,rfl,shc,sh.hC,hC,ha,hp,hR,pl,pz,hM,fun G H2 s02 hG=>?_⟩
  have hcl:((List.range cs.length).filter (cntB cs ps a)).length≤16:=by
   have:=List.length_filter_le (cntB cs ps a) (List.range cs.length)
   rw[List.length_range] at this
   omega
  have hcm:∀ i∈(List.range cs.length).filter (cntB cs ps a),i < cs.length:=fun i hi=>List.mem_range.mp (List.mem_filter.mp hi).1
  have sF:=fun j=>sp_filt (U:=M) (cs:=cs) (ps:=ps) (a:=a) (j:=j)
  generalize (List.range cs.length).filter (cntB cs ps a)=cl at hG hcl hcm sF
  have sh2:=sh.same s02
  have f1:=s02 _ _ e1
  have f3:=s02 _ _ e3
  have p2:=s02 _ _ hp
  have R2:=hR.ts (TS.of s02)
  clear e1 e2 e3 hR sh hr er shc hp
  k_extra "rx"
  refine i_NewO (by decide) fun F H3 hF s3 hF3=>?_
  have F0:H F=none:=s02.free hF
  have nGF:G≠F:=fun z=>by rw[z,hF] at hG;cases hG
  have nwF:w≠F:=fun z=>by have:=sh2.w;rw[z,hF] at this;cases this
  have ncF:c≠F:=fun z=>by have:=sh2.c;rw[z,hF] at this;cases this
  have npF:p≠F:=fun z=>by rw[z,hF] at p2;cases p2
  have s03:=s02.trans s3
  have G3:=s3 _ _ hG
  have sh3:=sh2.same s3
  have h1:=s3 _ _ f1
  have h3:=s3 _ _ f3
  have p3:=s3 _ _ p2
  have R3:=R2.ts (TS.of s3)
  clear sh2 s02 s3 f1 f3 hG hF p2 R2
  k_extra "rx"
  refine⟨_,rfl,w,_,rfl,seqAt_lst sh3.w,ws.length,by rw[wl],w6,fun E0 zs H4 s4 nE hE hS=>?_⟩
  have nEF:E0≠F:=fun z=>by rw[z,hF3] at nE;cases nE
  have F4:=s4 _ _ hF3
  have s04:=s03.trans s4
  have G4:=s4 _ _ G3
  have sh4:=sh3.same s4
  have i1:=s4 _ _ h1
  have i3:=s4 _ _ h3
  have p4:=s4 _ _ p3
  have R4:=R3.ts (TS.of s4)
  clear sh3 s03 s4 h1 h3 G3 hF3 nE p3 R3
  have p64:=pow64 w6
  obtain⟨ts,hts⟩:∃ ts:Nat→Addr,∀ i,i < 2 ^ ws.length→zs[i]?=some (.ref (ts i))∧H4 (ts i)=some (.tup ((Srt.sub i).map V.int)):=⟨fun i=>if h:i < 2 ^ ws.length then Classical.choose (hS.2 i h) else 0,fun i hi=>by
   dsimp only
   rw[dif_pos hi]
   exact Classical.choose_spec (hS.2 i hi)⟩
  refine⟨E0,rfl,⟨_,SqL.of hE⟩,for_listN (K:=K) (a:=E0) (xs:=zs) (fun j σ H'=>∃ v8 v9,σ=[some (.ref w),some (.ref c),some (.ref p),some (.int (a:Int)),some (.ref G),some (.ref F),v8,v9]∧Fr1 F H4 H'∧H' F=some (.lst (((List.range j).filter (papB M ws cs ps a)).map fun i=>V.ref (ts i)))) ⟨_,_,rfl,Fr1.refl,F4⟩ (fun j σ H' _ ⟨_,_,_,f,_⟩=>SqL.of (f _ _ nEF hE)) ?_ ?_⟩
  ·rintro h y σ H5 NN BB hy ⟨v8,v9,rfl,f5,hF5⟩ kN kB
   clear kB hQ
   have oj:h < 2 ^ ws.length:=by rw[← hS.1];exact (List.getElem?_eq_some_iff.mp hy).1
   obtain⟨eh,hh⟩:=hts h oj
   rw[eh] at hy
   cases hy
   rw[filt_succ (papB M ws cs ps a) (fun i=>V.ref (ts i))] at kN
   have fl0:(((List.range h).filter (papB M ws cs ps a)).map fun i=>V.ref (ts i)).length≤64:=by
    rw[List.length_map]
    refine Nat.le_trans (List.length_filter_le _ _) ?_
    rw[List.length_range]
    omega
   generalize ((List.range h).filter (papB M ws cs ps a)).map (fun i=>V.ref (ts i))=A0 at hF5 fl0 kN
   have tsf:=TS.frl F4 f5
   have t5:=tsf _ _ hh
   have g1:=tsf _ _ i1
   have g3:=tsf _ _ i3
   have G5:=f5 _ _ nGF G4
   have w5:=f5 _ _ nwF sh4.w
   have c5:=f5 _ _ ncF sh4.c
   have C5:=sh4.hC.ts tsf
   have p5:=f5 _ _ npF p4
   have R5:=R4.ts tsf
   have hpb:papB M ws cs ps a h=(lies C0.hp (Srt.sub h) && decide (spN M cs ps a h=worthOf ws (Srt.sub h)*M)):=by unfold papB;rw[ein]
   have skp:papB M ws cs ps a h=false→∀ v9 H9,Same H5 H9→NN [some (.ref w),some (.ref c),some (.ref p),some (.int (a:Int)),some (.ref G),some (.ref F),some (.ref (ts h)),v9] H9:=fun hc v9 H9 s9=>by
    refine kN _ _ ⟨_,_,rfl,f5.trans (Fr1.of s9),?_⟩
    rw[hc,if_neg Bool.false_ne_true,List.append_nil]
    exact s9 _ _ hF5
   refine i_gName ?_
   k_extra "rx"
   refine⟨kc,ts h,C0.hp,Srt.sub h,rfl,g3,t5,ha6,fun H6 s6=>?_⟩
   refine⟨_,rfl,brk (fun h1=>?_) (fun h1=>?_)⟩
   ·rw[h1,Bool.true_and] at hpb
    have G6:=s6 _ _ G5
    have C6:=C5.ts (TS.of s6)
    have c6:=s6 _ _ c5
    have w6':=s6 _ _ w5
    have t6:=s6 _ _ t5
    have p6:=s6 _ _ p5
    have R6:=R5.ts (TS.of s6)
    clear G5 C5 c5 w5 t5 p5 R5
    k_extra "rx"
    refine⟨_,rfl,G,rfl,⟨_,SqL.of G6⟩,fun l2 hl2=>?_⟩
    refine comp_listR (K:=K) (a:=G) (xs:=cl.map fun i:Nat=>V.int (i:Int)) (fun b acc H8=>Same H6 H8∧H8 l2=some (.lst acc)∧RowU M 3700 H8 acc (((cl.take b).filter (inn cs (Srt.sub h))).map fun i=>ps.getD i (0,1))) ⟨Same.new hl2,upd_same,RowU.nil⟩ (fun b acc H8 _ ⟨s8,_,_⟩=>SqL.of (s8 _ _ G6)) ?_ ?_
    ·rintro b y acc H8 hy ⟨s8,hl8,hA⟩
     have al:=(List.getElem?_eq_some_iff.mp hy).1
     rw[List.length_map] at al
     rw[List.getElem?_map,List.getElem?_eq_getElem al] at hy
     cases hy
     have hi:=hcm _ (List.getElem_mem al)
     rw[filt_take (inn cs (Srt.sub h)) (fun i=>ps.getD i (0,1)) al]
     have len:acc.length≤16:=by
      rw[hA.1,List.length_map]
      refine Nat.le_trans (List.length_filter_le _ _) ?_
      rw[List.length_take]
      omega
     generalize ((cl.take b).filter (inn cs (Srt.sub h))).map (fun i=>ps.getD i (0,1))=A' at hA ⊢
     generalize cl[b]=i at hi ⊢
     obtain⟨v,ev,rd,pd,kd,rfl,d1,d2,d3⟩:=C6.2 i cs[i] (List.getElem?_eq_getElem hi)
     obtain⟨rb,er,hb⟩:=R6.2 i ps[i] (List.getElem?_eq_getElem (by omega))
     have ep:ps.getD i (0,1)=ps[i]:=by simp[List.getD_eq_getElem?_getD,show i < ps.length by omega]
     have b1:atI ys (i:Int)=some (.ref rb):=atI_nat er
     have b2:atI xs (i:Int)=some (.ref rd):=atI_nat ev
     have ei:inn cs (Srt.sub h) i=lies cs[i].hp (Srt.sub h):=by unfold inn;rw[heapP_at hi]
     have hi6:=h6 _ (List.getElem_mem hi)
     have po:=pz i hi
     rw[ei]
     rw[ep] at po ⊢
     have k1:=s8 _ _ d1
     have k3:=s8 _ _ d3
     have kt:=s8 _ _ t6
     have kp:=s8 _ _ p6
     have kb:=s8 _ _ hb
     have kc:=s8 _ _ c6
     generalize cs[i]=C1 at k1 k3 hi6 ⊢
     generalize ps[i]=P1 at kb po ⊢
     clear d1 d2 d3 ev ei kN hb er ep skp
     simp only[gName_ap]
     k_extra "rx"
     refine⟨kd,ts h,C1.hp,Srt.sub h,rfl,k3,kt,hi6,fun H9 s9=>?_⟩
     have kl:=s9 _ _ hl8
     have kp9:=s9 _ _ kp
     have kb9:=s9 _ _ kb
     have s89:=s8.trans s9
     have A9:=hA.ts (TS.of s9)
     refine⟨_,rfl,i_ite (fun h1=>?_) (fun h1=>?_)⟩
     ·rw[if_pos h1]
      have nl:rb≠l2:=fun z=>by rw[z,kl] at kb9;cases kb9
      k_extra "rx"
      exact⟨kl,small1000 (by omega),same_put hl2 s89,upd_same,(A9.ts (TS.lst kl)).snoc (by rw[upd_ne nl];exact kb9) po⟩
     ·rw[if_neg (by rw[h1];exact Bool.false_ne_true),List.append_nil]
      exact⟨s89,kl,A9⟩
    ·rintro acc H8 ⟨s8,hl8,hA⟩
     rw[List.length_map,List.take_length] at hA
     have len:((cl.filter (inn cs (Srt.sub h))).map fun i=>ps.getD i (0,1)).length≤16:=by
      rw[List.length_map]
      exact Nat.le_trans (List.length_filter_le _ _) hcl
     obtain⟨o1,o2⟩:=sum_ok hM.pos fun r hr=>(hA.mem r hr).toOk
     rw[List.map_map] at o2
     have o3:num M (sumP ((cl.filter (inn cs (Srt.sub h))).map fun i=>ps.getD i (0,1)))=spN M cs ps a h:=o2.trans (sF h)
     refine⟨l2,acc,_,M,3700,rfl,hl8,hM,hA,by decide,len,fun t H9 s9 ht=>?_⟩
     generalize sumP ((cl.filter (inn cs (Srt.sub h))).map fun i=>ps.getD i (0,1))=S at o1 o3 ht
     have s89:=s8.trans s9
     have w9:=s89 _ _ w6'
     have t9:=s89 _ _ t6
     have F9:=(s6.trans s89) _ _ hF5
     clear hA hl8 o2 len
     refine i_gName ?_
     k_extra "rx"
     refine⟨w,ts h,ws,Srt.sub h,rfl,w9,t9,sub_len h,sub_in ws.length w6 h oj,fun H10 s10=>?_⟩
     k_extra "rx"
     refine i_NewO (Nat.le_of_ble_eq_true rfl) fun t2 H11 _ s11 ht2=>?_
     have s911:=s10.trans s11
     refine⟨t,t2,_,_,_,_,rfl,rfl,s911 _ _ ht,ht2,?_⟩
     have iff:(S.1=worthOf ws (Srt.sub h)∧S.2=1)↔spN M cs ps a h=worthOf ws (Srt.sub h)*M:=by
      constructor
      ·intro z
       rw[← o3,show S=(worthOf ws (Srt.sub h),1) from Prod.ext z.1 z.2,num_int]
      ·intro z
       rw[num_inj hM.pos o1 (int_ok (w:=worthOf ws (Srt.sub h))) (by rw[o3,z,num_int])]
       exact⟨rfl,rfl⟩
     refine⟨_,rfl,brkD (fun h2=>?_) (fun h2=>?_)⟩
     ·rw[decide_eq_true (iff.mp h2)] at hpb
      have F11:=s911 _ _ F9
      refine i_tBM ?_
      k_extra "rx"
      refine⟨.inl ⟨rfl,_,SqL.of F11⟩,?_⟩
      k_extra "rx"
      refine i_app F11 (by omega) fun H12 g12 f12=>?_
      refine kN _ _ ⟨_,_,rfl,(f5.trans (Fr1.of ((s6.trans s89).trans s911))).trans f12,?_⟩
      rw[hpb,if_pos rfl]
      exact g12
     ·refine i_tNext ?_
      exact skp (by rw[hpb,decide_eq_false fun z=>h2 (iff.mpr z)]) _ H11 ((s6.trans s89).trans s911)
   ·refine i_tNext ?_
    exact skp (by rw[hpb,h1];rfl) _ H6 s6
  ·rintro σ H5 ⟨v8,v9,rfl,f5,hF5⟩
   rw[hS.1,← hPR] at hF5
   k_extra "rx"
   exact hQ F _ H5 (same_fr F0 s04 f5) hF5 ⟨ts,rfl,fun i hi=>TS.frl F4 f5 _ _ (hts i (List.mem_range.mp (by rw[hPR] at hi;exact (List.mem_filter.mp hi).1))).2⟩
theorem ok__law_fill(D:DefAt K mg "_law_fill" s__law_fill f fd)(T:Txt K mg cx)(d__law_over:DefOk P w K mg base CX0 3 "_law_over" ["_law_one","_law_other"] sp__law_over):DefOk P w K mg base CX0 4 "_law_fill" ["_law_due_here","_law_paid"] sp__law_fill:=by
 refine D.ok (D.q sc__law_fill (fun vs H Q E h=>?_) (fun cdv A outer s H vs Q E hr h=>?_)) (D.fn.binds fun _ _ _ _ _ _ us hl=>match us,hl with | [_,_],_=>rfl)
 ·obtain⟨_,_,_,_,rfl,_⟩:=h
  rfl
 obtain⟨p,q,d,e,rfl,hp,hq,d0,e0,dz1,dz2,ez1,ez2,hQ⟩:=h
 refine⟨_,(qss_cons (qs_if (qt_cmpR op_eq (qe_ix ix_seqA (qv 0) qe_int (fun _ _=>rfl)) qe_int (nomark _)) (qss_one (qs_ret (qe_tup (qa_cons qe_int (qa_cons qe_int qa_nil))))) qss_nil)
   (qss_one (qs_ret (qe_d d__law_over hr.le pass0 (by rfl) (qa_cons (qv 1) (qa_cons (qv 0) qa_nil)))))),?_⟩
 k_extra "rx"
 refine⟨rfl,?_⟩
 refine⟨_,rfl,brkD (fun h1=>?_) (fun h1=>?_)⟩
 ·have h1:=V.int.inj h1
  k_extra "rx"
  refine i_NewO (Nat.le_of_ble_eq_true rfl) fun t H2 _ s2 ht=>?_
  refine hQ t H2 s2 ?_
  unfold fillF
  rw[if_pos h1]
  exact ht
 ·have h1:d.1≠0:=fun z=>h1 (by rw[z])
  k_extra "rx"
  refine⟨q,p,_,_,_,_,rfl,hq,hp,e0,by omega,ez1,ez2,dz1,dz2,fun t ht=>?_⟩
  refine hQ t _ (Same.new ht) ?_
  unfold fillF
  rw[if_neg h1,upd_same]
  rfl
theorem ok_good_paper(D:DefAt K mg "good_paper" s_good_paper f fd)(T:Txt K mg cx)(d_papers:DefOk P w K mg base CX0 6 "papers" ["worths","claims","parts","place"] sp_papers):DefOk P w K mg base CX0 7 "good_paper" ["worths","claims","parts","place","heap"] sp_good_paper:=by
 refine D.ok (D.q sc_good_paper (fun vs H Q E h=>?_) (fun cdv A outer s H vs Q E hr h=>?_)) (D.fn.binds fun _ _ _ _ _ _ us hl=>match us,hl with | [_,_,_,_,_],_=>rfl)
 ·obtain⟨_,_,_,_,_,_,_,_,_,_,_,_,rfl,_⟩:=h
  rfl
 obtain⟨w,c,p,M,ws,xs,cs,ys,ps,t,ts,a,rfl,sh,hC,ha,hp,hR,pl,bt,pz,hM,ht,hQ⟩:=h
 refine⟨_,(qss_one (qs_ret (qe_cmpR (op_inT hr.units) (qv 4) (qe_d d_papers hr.le pass0 (by rfl) (qa_cons (qv 0) (qa_cons (qv 1) (qa_cons (qv 2) (qa_cons (qv 3) qa_nil))))) (by rfl)))),?_⟩
 k_extra "rx"
 refine⟨w,c,p,M,ws,xs,cs,ys,ps,a,rfl,sh,hC,ha,hp,hR,pl,bt,pz,hM,fun F zs H1 s1 hF hZ=>?_⟩
 obtain⟨f,rfl,hf⟩:=hZ
 exact⟨t,F,ts,papL M ws cs ps a,f,fun i=>Srt.sub i,rfl,rfl,s1 _ _ ht,hF,hf,hQ H1 s1⟩
theorem ok__law_looked(D:DefAt K mg "_law_looked" s__law_looked f fd)(T:Txt K mg cx)(d_good_paper:DefOk P w K mg base CX0 7 "good_paper" ["worths","claims","parts","place","heap"] sp_good_paper)(d__law_truth:DefOk P w K mg base CX0 1 "_law_truth" ["_law_found","_law_due_here"] sp__law_truth):DefOk P w K mg base CX0 8 "_law_looked" ["_law_worths_here","_law_claims_here","_law_parts","_law_place","_law_heap_here","_law_due_here"] sp__law_looked:=by
 refine D.ok (D.q sc__law_looked (fun vs H Q E h=>?_) (fun cdv A outer s H vs Q E hr h=>?_)) (D.fn.binds fun _ _ _ _ _ _ us hl=>match us,hl with | [_,_,_,_,_,_],_=>rfl)
 ·obtain⟨_,_,_,_,_,_,_,_,_,_,_,_,_,rfl,_⟩:=h
  rfl
 obtain⟨w,c,p,M,ws,xs,cs,ys,ps,t,ts,a,d,rfl,sh,hC,ha,hp,hR,pl,bt,pz,hM,ht,hd,hQ⟩:=h
 refine⟨_,(qss_cons (qs_set (i:=6) sc__law_looked.nd rfl (Or.inl rfl) (qe_tup (qa_cons (qe_callTy call_listF (by rfl) T.n_list bt_list (qa_cons (qv 0) qa_nil)) (qa_cons (qe_callTy call_listF (by rfl) T.n_list bt_list (qa_cons (qv 1) qa_nil)) (qa_cons (qe_callTy call_listF (by rfl) T.n_list bt_list (qa_cons (qv 2) qa_nil)) qa_nil)))))
   (qss_cons (qs_set (i:=7) sc__law_looked.nd rfl (Or.inl rfl) (qe_d d_good_paper hr.le pass0 (by rfl) (qa_cons (qe_ix ix_seqA (qv 6) qe_int (fun _ _=>rfl)) (qa_cons (qe_ix ix_seqA (qv 6) qe_int (fun _ _=>rfl)) (qa_cons (qe_ix ix_seqA (qv 6) qe_int (fun _ _=>rfl)) (qa_cons (qv 3) (qa_cons (qv 4) qa_nil)))))))
   (qss_one (qs_ret (qe_and (qe_cmpR (op_eqD hr.units) (qv 6) (qe_tup (qa_cons (qv 0) (qa_cons (qv 1) (qa_cons (qv 2) qa_nil)))) (nomark _)) (qe_one (qe_d d__law_truth hr.le pass0 (by rfl) (qa_cons (qv 7) (qa_cons (qv 5) qa_nil))))))))),?_⟩
 refine⟨_,rfl,w,_,rfl,seqAt_lst sh.w,fun w' hw'=>?_⟩
 have s1:=Same.new (o:=.lst (ws.map V.int)) hw'
 have g1:upd H w' (.lst (ws.map V.int)) w'=_:=upd_same
 generalize upd H w' (.lst (ws.map V.int))=H1 at s1 g1 ⊢
 refine⟨_,rfl,c,_,rfl,seqAt_lst (s1 _ _ sh.c),fun c' hc'=>?_⟩
 have s2:=Same.new (o:=.lst xs) hc'
 have g2:upd H1 c' (.lst xs) c'=_:=upd_same
 generalize upd H1 c' (.lst xs)=H2 at s2 g2 ⊢
 refine⟨_,rfl,p,_,rfl,seqAt_lst ((s1.trans s2) _ _ hp),fun p' hp'=>?_⟩
 have s3:=Same.new (o:=.lst ys) hp'
 have g3:upd H2 p' (.lst ys) p'=_:=upd_same
 generalize upd H2 p' (.lst ys)=H3 at s3 g3 ⊢
 have s03:=(s1.trans s2).trans s3
 have gw:=(s2.trans s3) _ _ g1
 have gc:=s3 _ _ g2
 clear s1 s2 s3 g1 g2 hw' hc' hp'
 refine⟨by show 3≤sizeLine;decide,fun T hT0=>?_⟩
 have s4:=Same.new (o:=.tup [.ref w',.ref c',.ref p']) hT0
 have hT:upd H3 T (.tup [.ref w',.ref c',.ref p']) T=_:=upd_same
 generalize upd H3 T (.tup [.ref w',.ref c',.ref p'])=H4 at s4 hT ⊢
 clear hT0
 have s04:=s03.trans s4
 have sh4:=sh.same s04
 have hp4:=s04 _ _ hp
 have hR4:=hR.ts (TS.of s04)
 have sg:ShIn w' c' ws xs cs H4:=⟨s4 _ _ gw,s4 _ _ gc,sh4.hC⟩
 have gp:=s4 _ _ g3
 have ht4:=s04 _ _ ht
 clear sh hp hR gw gc g3 s03 s4 ht
 k_extra "rx"
 refine⟨w',c',p',M,ws,xs,cs,ys,ps,t,ts,a,rfl,sg,hC,ha,gp,hR4,pl,bt,pz,hM,ht4,fun H5 s5=>?_⟩
 have ebd:((papL M ws cs ps a).any fun j=>decide (Srt.sub j=ts))=d:=by
  rw[Bool.eq_iff_iff,hd,List.any_eq_true]
  constructor
  ·rintro ⟨j,hj,e⟩
   exact⟨j,(pap_mem bt ha hC.w6).mp hj,of_decide_eq_true e⟩
  ·rintro ⟨j,hj,e⟩
   exact⟨j,(pap_mem bt ha hC.w6).mpr hj,decide_eq_true e⟩
 generalize ((papL M ws cs ps a).any fun j=>decide (Srt.sub j=ts))=b at ebd ⊢
 k_extra "rx"
 refine i_tAndV ?_
 k_extra "rx"
 refine i_NewO (Nat.le_of_ble_eq_true rfl) fun T2 H6 _ s6 hT2=>?_
 have s46:=s5.trans s6
 have sh6:=sh4.same s46
 have sg6:=sg.same s46
 have hR6:=hR4.ts (TS.of s46)
 refine⟨rsD ws cs ps,rsD ws cs ps,den_tup (s46 _ _ hT) (dens1 (den_lst sg6.w (ints_dens ws)) (dens1 (den_lst sg6.c sg6.hC.dens) (dens1 (den_lst (s46 _ _ gp) hR6.dens) dens0))),den_tup hT2 (dens1 (den_lst sh6.w (ints_dens ws)) (dens1 (den_lst sh6.c sh6.hC.dens) (dens1 (den_lst (s46 _ _ hp4) hR6.dens) dens0))),cmp_rs,?_⟩
 refine⟨_,rfl,brk (fun _=>?_) (fun z=>absurd z (by simp))⟩
 k_extra "rx"
 refine⟨b,d,rfl,?_⟩
 have fin:∀(b:Bool)(Hz:Hp),Same H4 Hz→b=true→Q (.bl b) Hz:=fun b Hz s hb=>by rw[hb];exact hQ Hz (s04.trans s)
 exact fin _ _ s46 (decide_eq_true ebd)
theorem ok_law(D:DefAt K mg "law" s_law f fd)(T:Txt K mg cx)(d__law_bag:DefOk P w K mg base CX0 1 "_law_bag" ["_law_script"] (sp__law_bag K cx))(d__law_case:DefOk P w K mg base CX0 6 "_law_case" ["_law_bag_here"] sp__law_case)(d__law_bend:DefOk P w K mg base CX0 5 "_law_bend" ["_law_bag_here","_law_claims_here","_law_parts"] sp__law_bend)(d__law_fair:DefOk P w K mg base CX0 8 "_law_fair" ["_law_worths_here","_law_claims_here"] sp__law_fair)(d__law_papers:DefOk P w K mg base CX0 6 "_law_papers" ["_law_worths_here","_law_claims_here","_law_parts","_law_place"] sp__law_papers)(d__law_heap:DefOk P w K mg base CX0 2 "_law_heap" ["_law_bag_here","_law_many_here"] sp__law_heap)(d__law_pull:DefOk P w K mg base CX0 1 "_law_pull" ["_law_bag_here","_law_many_here"] sp__law_pull)(d__law_looked:DefOk P w K mg base CX0 8 "_law_looked" ["_law_worths_here","_law_claims_here","_law_parts","_law_place","_law_heap_here","_law_due_here"] sp__law_looked):FnOk P w K mg base CX0 9 f fd ["_law_script"] (sp_law K cx):=by
 refine D.q sc_law (fun vs H Q E h=>?_) (fun cdv A outer s H vs Q E hr h=>?_)
 ·obtain⟨_,_,rfl,_⟩:=h
  rfl
 obtain⟨s0,ns,rfl,hS,hl,hQ⟩:=h
 have hQt:Q (.bl true)=fun _=>True:=by funext H';exact eq_true (hQ H')
 clear hQ
 refine⟨_,(qss_cons (qs_set (i:=1) sc_law.nd rfl (Or.inl rfl) (qe_d d__law_bag hr.le pass0 (by rfl) (qa_cons (qv 0) qa_nil)))
   (qss_cons (qs_asg (qe_d d__law_case hr.le pass0 (by rfl) (qa_cons (qv 1) qa_nil)) (qg_tupK (K:=K) (n:=2) rfl rfl (qgs_cons (qg_name (i:=2) sc_law.nd rfl (Or.inl rfl)) (qgs_cons (qg_name (i:=3) sc_law.nd rfl (Or.inl rfl)) qgs_nil))))
   (qss_cons (qs_set (i:=4) sc_law.nd rfl (Or.inl rfl) (qe_d d__law_bend hr.le pass0 (by rfl) (qa_cons (qv 1) (qa_cons (qv 3) (qa_cons (qe_d d__law_fair hr.le pass0 (by rfl) (qa_cons (qv 2) (qa_cons (qv 3) qa_nil))) qa_nil)))))
   (qss_cons (qs_for PassesOwn.never rfl (qi_range1 (by rfl) T.n_range (qa_cons (qe_callB call_lenF (by rfl) T.n_len bt_len (qa_cons (qv 3) qa_nil)) qa_nil)) (qg_name (i:=5) sc_law.nd rfl (Or.inl rfl)) (qss_cons (qs_set (i:=6) sc_law.nd rfl (Or.inl rfl) (qe_d d__law_papers hr.le pass0 (by rfl) (qa_cons (qv 2) (qa_cons (qv 3) (qa_cons (qv 4) (qa_cons (qv 5) qa_nil))))))
   (qss_cons (qs_set (i:=7) sc_law.nd rfl (Or.inl rfl) (qe_d d__law_heap hr.le pass0 (by rfl) (qa_cons (qv 1) (qa_cons (qe_callB call_lenF (by rfl) T.n_len bt_len (qa_cons (qv 2) qa_nil)) qa_nil))))
   (qss_cons (qs_if (qw_and (qt_cmpR (op_neD hr.units) (qv 6) (qe_lst qa_nil) (nomark _)) (qw_and1 (qt_cmpR op_gt (qe_d d__law_pull hr.le pass0 (by rfl) (qa_cons (qv 1) (qa_cons qe_int qa_nil))) qe_int (nomark _)))).pt (qss_one (qs_set (i:=7) sc_law.nd rfl (Or.inl rfl) (qe_ix ix_seqA (qv 6) (qe_d d__law_pull hr.le pass0 (by rfl) (qa_cons (qv 1) (qa_cons (qe_callB call_lenF (by rfl) T.n_len bt_len (qa_cons (qv 6) qa_nil)) qa_nil))) (fun _ _=>rfl)))) qss_nil)
   (qss_one (qs_for PassesOwn.never rfl (qi_tupK (K:=K) rfl (qe_tup (qa_cons (qv 7) (qa_cons (qe_revT (qv 7) (qo_some (qe_un un_neg qe_int))) (qa_cons (qe_op op_catG (qv 7) (qe_tup (qa_cons (qe_callB call_lenF (by rfl) T.n_len bt_len (qa_cons (qv 2) qa_nil)) qa_nil))) (qa_cons (qe_slice sl_tupG (qv 7) (qo_some qe_int) qo_none) (qa_cons (qe_op op_catG (qv 7) (qe_slice sl_tupG (qv 7) (qo_some (qe_un un_neg qe_int)) qo_none)) (qa_cons (qe_op op_catG (qe_tup (qa_cons (qe_un un_neg qe_int) qa_nil)) (qv 7)) (qa_cons (qe_tup (qa_cons (qe_un un_neg qe_int) qa_nil)) qa_nil))))))))) (qg_name (i:=8) sc_law.nd rfl (Or.inl rfl)) (qss_one (qs_if (qt_not (qt_val (qe_d d__law_looked hr.le pass0 (by rfl) (qa_cons (qv 2) (qa_cons (qv 3) (qa_cons (qv 4) (qa_cons (qv 5) (qa_cons (qv 8) (qa_cons (qe_cmpR (op_inT hr.units) (qv 8) (qv 6) (by rfl)) qa_nil))))))))) (qss_one (qs_ret qe_bl)) qss_nil))))))))
   (qss_one (qs_ret qe_bl)))))),?_⟩
 refine⟨_,rfl,s0,ns,rfl,hS,hl,fun B L H1 s1 nB b1=>?_⟩
 clear hl hS s1
 refine⟨_,rfl,B,L,rfl,b1,fun T W C ws xs cs H2 x2 hT=>?_⟩
 refine⟨T,_,rfl,SqT.of hT,rfl,_,_,rfl,_,_,rfl,rfl,?_⟩
 dsimp only
 clear hT b1 nB
 have hC:=x2.fc
 have w0:=x2.w0
 have c16:=hC.c16
 have w6:=hC.w6
 k_extra "rx"
 refine⟨W,C,UM,ws,xs,cs,rfl,x2.sh,hC,w0,fun F ys zs H3 s3 nF hF rk hR=>?_⟩
 have x3:=x2.same s3
 have FB:F≠B:=x2.b.ne nF
 clear x2 s3 nF
 have hxl:=x3.sh.hC.1
 obtain⟨U,ff,pf,fl,dU,uz⟩:=fair_of hC w0 rk
 have bf:=ff.btw
 clear rk pf ff
 generalize shareL ws cs zs (row0 cs)=fs at hR fl bf
 k_extra "rx"
 refine⟨B,L,C,F,U,ws,xs,cs,ys,fs,rfl,x3.b,x3.sh.c,x3.sh.hC,x3.cB,FB,hC,hF,hR,fl,bf,dU,uz,fun P zs2 os M H4 b4 f4 hP hRP ol bo dM mz nP=>?_⟩
 have x4:=x3.pull f4 b4
 have PB:P≠B:=x3.b.ne nP
 clear x3 hF hR b4 f4 nP bf fl
 have hM:UOk M:=⟨bo.vp,mz.mono (by decide)⟩
 have oz:∀ i,i < cs.length→PtOk M 3700 (os.getD i (0,1)):=fun i hi=>(bo.pt hC dM mz hi).mono (by decide)
 k_extra "rx"
 refine⟨_,rfl,C,_,rfl,seqAt_lst x4.sh.c,_,rfl,by omega,by omega,for_rangeN (lo:=0) (n:=((xs.length:Nat):Int).toNat) (fun j σ H'=>∃ v5 v6 v7 v8,σ=[some (.ref s0),some (.ref B),some (.ref W),some (.ref C),some (.ref P),v5,v6,v7,v8]∧Cas H1 B L W C ws xs cs H'∧H' P=some (.lst zs2)∧RowV H' zs2 os) ⟨_,_,_,_,rfl,x4,hP,hRP⟩ ?_ ?_⟩
 ·clear x4 hP hRP
  rintro i σ H5 NN BB hi0 ⟨v5,v6,v7,v8,rfl,x5,hP,hRP⟩ kN kB
  clear kB
  have hi:i < cs.length:=by omega
  refine i_gName ?_
  rw[Int.zero_add]
  dsimp only
  refine seq_cut3 (fun σ' H'=>∃ S h hs,∃ f:Nat→Addr,∃ v8,σ'=[some (.ref s0),some (.ref B),some (.ref W),some (.ref C),some (.ref P),some (.int (i:Int)),some (.ref S),some (.ref h),v8]∧Cas H1 B L W C ws xs cs H'∧H' P=some (.lst zs2)∧RowV H' zs2 os∧H' S=some (.lst ((papR M ws cs os i).map fun j=>V.ref (f j)))∧(∀ j∈papR M ws cs os i,H' (f j)=some (.tup ((Srt.sub j).map V.int)))∧H' h=some (.tup ((hs:List Int).map V.int))∧hs.length≤6) ?_ fun tb' key=>?_
  ·clear x5 hP hRP
   rintro σ' H6 ⟨S,h,hs,f,v8,rfl,x6,hP,hRP,hS,hf,hh,h6⟩
   have wl:(ws.map V.int).length=ws.length:=List.length_map _
   have x6w:=x6.sh.w
   have hl:(hs.map V.int).length=hs.length:=List.length_map _
   unfold tFor iTup
   k_extra "rx"
   refine i_tRevT ?_
   k_extra "rx"
   refine i_part1 ⟨rfl,h,_,rfl,hh,fun p1 hp1=>?_⟩
   have t1:=Same.new (o:=.tup (hs.map V.int).reverse) hp1
   have e1:upd H6 p1 (.tup (hs.map V.int).reverse) p1=some (.tup (hs.reverse.map V.int)):=by rw[upd_same,List.map_reverse]
   generalize upd H6 p1 (.tup (hs.map V.int).reverse)=H7 at t1 e1 ⊢
   have hh7:=t1 _ _ hh
   have w7:=t1 _ _ x6w
   clear hp1
   k_extra "rx"
   refine i_NewO (Nat.le_of_ble_eq_true rfl) fun q1 H8 _ t2 hq1=>?_
   have hh8:=t2 _ _ hh7
   refine⟨h,q1,_,_,rfl,rfl,hh8,hq1,by rw[hl];exact Nat.le_trans (by show hs.length+1≤7;omega) (by decide),fun p2 H9 t3 hp2=>?_⟩
   have e2:H9 p2=some (.tup ((hs++[((ws.map V.int).length:Int)]).map V.int)):=by rw[hp2,List.map_append];rfl
   have hh9:=t3 _ _ hh8
   k_extra "rx"
   refine i_tSl ?_
   k_extra "rx"
   refine i_partC (i_noPart ⟨h,_,rfl,hh9,fun p3 H10 t4 hp3=>?_⟩)
   obtain⟨l3,el3⟩:=cut_intsT hs (some 1) none
   rw[el3] at hp3
   have hh10:=t4 _ _ hh9
   k_extra "rx"
   refine i_tSl ?_
   k_extra "rx"
   refine i_part1 (i_noPart ⟨h,_,rfl,hh10,fun p4 H11 t5 hp4=>?_⟩)
   have ll:=cutV_length (hs.map V.int) (some (-1)) none
   obtain⟨l4,el4⟩:=cut_intsT hs (some (-1)) none
   rw[el4] at hp4 ll
   have hh11:=t5 _ _ hh10
   refine⟨h,p4,_,_,rfl,rfl,hh11,hp4,Nat.le_trans (by omega:_≤12) (by decide),fun p5 H12 t6 hp5=>?_⟩
   rw[← List.map_append] at hp5
   have hh12:=t6 _ _ hh11
   k_extra "rx"
   refine i_NewO (Nat.le_of_ble_eq_true rfl) fun q2 H13 _ t7 hq2=>?_
   have hh13:=t7 _ _ hh12
   k_extra "rx"
   refine⟨q2,h,_,_,rfl,rfl,hq2,hh13,by rw[hl];exact Nat.le_trans (by show 1+hs.length≤7;omega) (by decide),fun p6 H14 t8 hp6=>?_⟩
   have e6:H14 p6=some (.tup ((-1::hs).map V.int)):=by rw[hp6];rfl
   k_extra "rx"
   refine i_NewO (Nat.le_of_ble_eq_true rfl) fun p7 H15 _ t9 hp7=>?_
   have e7:H15 p7=some (.tup (([-1]:List Int).map V.int)):=hp7
   k_extra "rx"
   refine i_NewO (Nat.le_of_ble_eq_true rfl) fun tp H16 _ t10 htp=>?_
   have u10:=t10
   have u9:=t9.trans u10
   have u8:=t8.trans u9
   have u7:=t7.trans u8
   have u6:=t6.trans u7
   have u5:=t5.trans u6
   have u4:=t4.trans u5
   have u3:=t3.trans u4
   have u2:=t2.trans u3
   have u1:=t1.trans u2
   have x16:=x6.same u1
   have hP16:=u1 _ _ hP
   have hRP16:=hRP.ts (TS.of u1)
   have hS16:=u1 _ _ hS
   have hf16:∀ j∈papR M ws cs os i,H16 (f j)=some (.tup ((Srt.sub j).map V.int)):=fun j hj=>u1 _ _ (hf j hj)
   have all:∀(k:Nat)(y:V),[V.ref h,V.ref p1,V.ref p2,V.ref p3,V.ref p5,V.ref p6,V.ref p7][k]?=some y→∃ r,∃ l:List Int,y=.ref r∧H16 r=some (.tup (l.map V.int)):=fun k y hy=>by
    match k,hy with
    | 0,hy=>cases hy;exact⟨h,hs,rfl,u1 _ _ hh⟩
    | 1,hy=>cases hy;exact⟨p1,_,rfl,u2 _ _ e1⟩
    | 2,hy=>cases hy;exact⟨p2,_,rfl,u4 _ _ e2⟩
    | 3,hy=>cases hy;exact⟨p3,_,rfl,u5 _ _ hp3⟩
    | 4,hy=>cases hy;exact⟨p5,_,rfl,u7 _ _ hp5⟩
    | 5,hy=>cases hy;exact⟨p6,_,rfl,u9 _ _ e6⟩
    | 6,hy=>cases hy;exact⟨p7,_,rfl,u10 _ _ e7⟩
    | k+7,hy=>simp at hy
   clear x6 hP hRP hS hf x6w t1 t2 t3 t4 t5 t6 t7 t8 t9 t10 u1 u2 u3 u4 u5 u6 u7 u8 u9 u10 e1 e2 e6 e7 hp3 hp4 hp5 hp6 hp7 hp2 hq1 hq2 hh hh7 hh8 hh9 hh10 hh11 hh12 hh13 w7 el3 el4 ll
   refine⟨tp,rfl,⟨_,SqT.of htp⟩,for_tupN (K:=K) (a:=tp) (xs:=[.ref h,.ref p1,.ref p2,.ref p3,.ref p5,.ref p6,.ref p7]) (fun j σ H'=>∃ v8,σ=[some (.ref s0),some (.ref B),some (.ref W),some (.ref C),some (.ref P),some (.int (i:Int)),some (.ref S),some (.ref h),v8]∧Same H16 H') ⟨_,rfl,fun _ _ h=>h⟩ (fun k σ H' _ ⟨_,_,s⟩=>SqT.of (s _ _ htp)) ?_ ?_⟩
   ·rintro k y σ H17 N2 B2 hy ⟨v8,rfl,s17⟩ kN2 kB2
    clear kB2 kN
    obtain⟨r,l,rfl,hr⟩:=all k y hy
    have hr17:=s17 _ _ hr
    have hS17:=s17 _ _ hS16
    refine i_gName ?_
    k_extra "rx"
    refine⟨r,S,l,papR M ws cs os i,f,fun j=>Srt.sub j,rfl,rfl,hr17,hS17,fun j hj=>s17 _ _ (hf16 j hj),?_⟩
    k_extra "rx"
    refine⟨W,C,P,M,ws,xs,cs,zs2,os,r,l,i,_,rfl,x16.sh.same s17,hC,hi,s17 _ _ hP16,hRP16.ts (TS.of s17),ol,bo,oz,hM,hr17,?_,fun H18 s18=>?_⟩
    ·rw[List.any_eq_true]
     exact⟨fun ⟨j,hj,e⟩=>⟨j,hj,of_decide_eq_true e⟩,fun ⟨j,hj,e⟩=>⟨j,hj,decide_eq_true e⟩⟩
    ·refine⟨_,rfl,i_brkF ?_⟩
     refine i_tNext ?_
     exact kN2 _ _ ⟨_,rfl,s17.trans s18⟩
   ·rintro σ H17 ⟨v8,rfl,s17⟩
    exact kN _ _ ⟨_,_,_,_,rfl,x16.same s17,s17 _ _ hP16,hRP16.ts (TS.of s17)⟩
  ·have x5w:=x5.sh.w
   have wl:(ws.map V.int).length=ws.length:=List.length_map _
   k_extra "rx"
   refine⟨W,C,P,M,ws,xs,cs,zs2,os,i,rfl,x5.sh,hC,hi,hP,hRP,ol,bo,oz,hM,fun S zs3 H6 s6 hS hZ=>?_⟩
   obtain⟨f,rfl,hf⟩:=hZ
   have x6:=x5.same s6
   have hP6:=s6 _ _ hP
   have hRP6:=hRP.ts (TS.of s6)
   have x6w:=x6.sh.w
   have SB:S≠B:=fun z=>by
    obtain⟨_,i0,_,_,e,_⟩:=x6.b
    rw[z,e] at hS
    have h2:=congrArg (fun l=>l[1]?) (HO.lst.inj (Option.some.inj hS))
    have h2:some (V.int i0)=((papR M ws cs os i).map fun j=>V.ref (f j))[1]?:=h2
    rw[List.getElem?_map] at h2
    cases e2:(papR M ws cs os i)[1]? with
    | none=>rw[e2] at h2;cases h2
    | some j=>rw[e2] at h2;cases h2
   clear x5 hP hRP x5w s6
   k_extra "rx"
   refine⟨B,_,L,rfl,x6.b,by omega,by omega,fun h hs H7 nh b7 f7 hh h6 hb=>?_⟩
   have x7:=x6.pull f7 b7
   have hP7:=f7 _ _ PB hP6
   have ts7:=TS.fr x6.b f7
   have hRP7:=hRP6.ts ts7
   have hS7:=f7 _ _ SB hS
   have hf7:∀ j∈papR M ws cs os i,H7 (f j)=some (.tup ((Srt.sub j).map V.int)):=fun j hj=>ts7 _ _ (hf j hj)
   clear x6 hP6 hRP6 hS hf x6w nh b7 f7 ts7 hb
   have pr64:(papR M ws cs os i).length≤64:=by
    unfold papR
    split
    ·exact Nat.zero_le _
    ·refine Nat.le_trans (List.length_filter_le _ _) ?_
     rw[List.length_range]
     exact pow64 w6
   refine i_gName ?_
   dsimp only
   k_extra "rx"
   refine i_NewO (by decide) fun e H8 _ s8 he=>?_
   have x8:=x7.same s8
   have hP8:=s8 _ _ hP7
   have hRP8:=hRP7.ts (TS.of s8)
   have hS8:=s8 _ _ hS7
   have hf8:∀ j∈papR M ws cs os i,H8 (f j)=some (.tup ((Srt.sub j).map V.int)):=fun j hj=>s8 _ _ (hf7 j hj)
   have hh8:=s8 _ _ hh
   clear x7 hP7 hRP7 hS7 hf7 s8 hh
   refine⟨.lst ((papR M ws cs os i).map fun i=>.tup ((Srt.sub i).map Dt.int)),.lst [],den_lst hS8 (dens_hps hf8),den_lst he dens0,fun _ j d e h1 h2=>by simp at h2,?_⟩
   refine⟨_,rfl,brkNB (fun h1=>?_) (fun h1=>?_)⟩
   ·have hpos:0 < (papR M ws cs os i).length:=by
     rcases Nat.eq_zero_or_pos (papR M ws cs os i).length with z | z
     ·exfalso
      have z2:=List.length_eq_zero_iff.mp z
      simp[z2] at h1
     ·exact z
    clear h1 he
    k_extra "rx"
    refine⟨B,3,L,rfl,x8.b,by decide,by decide,fun d H9 d0 d1 b9 f9=>?_⟩
    have x9:=x8.pull f9 b9
    have hP9:=f9 _ _ PB hP8
    have ts9:=TS.fr x8.b f9
    have hRP9:=hRP8.ts ts9
    have hS9:=f9 _ _ SB hS8
    have hf9:∀ j∈papR M ws cs os i,H9 (f j)=some (.tup ((Srt.sub j).map V.int)):=fun j hj=>ts9 _ _ (hf8 j hj)
    have hh9:=ts9 _ _ hh8
    clear x8 hP8 hRP8 hS8 hf8 b9 f9 ts9 hh8
    k_extra "rx"
    refine brkD (fun h2=>?_) (fun h2=>?_)
    ·have lp:((papR M ws cs os i).map fun j=>V.ref (f j)).length=(papR M ws cs os i).length:=List.length_map _
     k_extra "rx"
     refine⟨B,_,L,rfl,x9.b,by omega,Sz.mono (j:=8) (Sz.of (by omega)) (by decide),fun k H10 k0 k1 b10 f10=>?_⟩
     have x10:=x9.pull f10 b10
     have hP10:=f10 _ _ PB hP9
     have ts10:=TS.fr x9.b f10
     have hRP10:=hRP9.ts ts10
     have hS10:=f10 _ _ SB hS9
     have hf10:∀ j∈papR M ws cs os i,H10 (f j)=some (.tup ((Srt.sub j).map V.int)):=fun j hj=>ts10 _ _ (hf9 j hj)
     have hk:k.toNat < (papR M ws cs os i).length:=by omega
     have ek:atI ((papR M ws cs os i).map fun j=>V.ref (f j)) k=some (.ref (f (papR M ws cs os i)[k.toNat])):=by
      have:((papR M ws cs os i).map fun j=>V.ref (f j))[k.toNat]?=some (.ref (f (papR M ws cs os i)[k.toNat])):=by rw[List.getElem?_map,List.getElem?_eq_getElem hk];rfl
      have:=atI_nat this
      rwa [Int.toNat_of_nonneg k0] at this
     refine i_ixL hS10 ek ?_
     refine i_gName (key _ _ ⟨S,_,Srt.sub (papR M ws cs os i)[k.toNat],f,_,rfl,x10,hP10,hRP10,hS10,hf10,hf10 _ (List.getElem_mem hk),sub_len _⟩)
    ·exact key _ _ ⟨S,h,hs,f,_,rfl,x9,hP9,hRP9,hS9,hf9,hh9,h6⟩
   ·exact key _ _ ⟨S,h,hs,f,_,rfl,x8,hP8,hRP8,hS8,hf8,hh8,h6⟩
 ·rintro σ H5 ⟨v5,v6,v7,v8,rfl,x5,hP,hRP⟩
  k_extra "rx"
  show Q (.bl true) H5
  rw[hQt]
  trivial
abbrev fnO(x:Str)(s:Stmt)(oc:Value)(od:Option Addr)(kV dc pm:Value)(an:Option Addr)(cd ct:Value)(sl:Array (Option Value)):Option Obj:=some ⟨oc,od,.func (PySem.W.fnOf x x (defArgs s) (defBody s) (defScope s) .none kV dc pm an cd ct),sl⟩
end
theorem all_mk{l:PySem.W.OpenLaw}{w:World}{K:PySem.W.Frag}{h:Heap}{mg:Str→Option Value}{fa f0 f1 f2 f3 f4 f5 f6 f7 f8 f9 f10 f11 f12 f13 f14 f15 f16 f17 f18 f19 f20 f21 f22 f23 f24 f25 f26 f27 f28 f29 f30 f31 f32 f33 f34 f35 f36 f37 f38 f39 f40 f41 f42 f43 f44 f45 f46 c0:Addr}(X:K.In h)(G:h.Ns mainGlobals mg)(hfa:mg "law" = some (.ref fa))
  {od0 an0 od1 an1 od2 an2 od3 an3 od4 an4 od5 an5 od6 an6 od7 an7 od8 an8 od9 an9 od10 an10 od11 an11 od12 an12 od13 an13 od14 an14 od15 an15 od16 an16 od17 an17 od18 an18 od19 an19 od20 an20 od21 an21 od22 an22 od23 an23 od24 an24 od25 an25 od26 an26 od27 an27 od28 an28 od29 an29 od30 an30 od31 an31 od32 an32 od33 an33 od34 an34 od35 an35 od36 an36 od37 an37 od38 an38 od39 an39 od40 an40 od41 an41 od42 an42 od43 an43 od44 an44 od45 an45 od46 an46:Option Addr} {sl0 sl1 sl2 sl3 sl4 sl5 sl6 sl7 sl8 sl9 sl10 sl11 sl12 sl13 sl14 sl15 sl16 sl17 sl18 sl19 sl20 sl21 sl22 sl23 sl24 sl25 sl26 sl27 sl28 sl29 sl30 sl31 sl32 sl33 sl34 sl35 sl36 sl37 sl38 sl39 sl40 sl41 sl42 sl43 sl44 sl45 sl46:Array (Option Value)} {oc0 kV0 dc0 pm0 cd0 ct0 oc1 kV1 dc1 pm1 cd1 ct1 oc2 kV2 dc2 pm2 cd2 ct2 oc3 kV3 dc3 pm3 cd3 ct3 oc4 kV4 dc4 pm4 cd4 ct4 oc5 kV5 dc5 pm5 cd5 ct5 oc6 kV6 dc6 pm6 cd6 ct6 oc7 kV7 dc7 pm7 cd7 ct7 oc8 kV8 dc8 pm8 cd8 ct8 oc9 kV9 dc9 pm9 cd9 ct9 oc10 kV10 dc10 pm10 cd10 ct10 oc11 kV11 dc11 pm11 cd11 ct11 oc12 kV12 dc12 pm12 cd12 ct12 oc13 kV13 dc13 pm13 cd13 ct13 oc14 kV14 dc14 pm14 cd14 ct14 oc15 kV15 dc15 pm15 cd15 ct15 oc16 kV16 dc16 pm16 cd16 ct16 oc17 kV17 dc17 pm17 cd17 ct17 oc18 kV18 dc18 pm18 cd18 ct18 oc19 kV19 dc19 pm19 cd19 ct19 oc20 kV20 dc20 pm20 cd20 ct20 oc21 kV21 dc21 pm21 cd21 ct21 oc22 kV22 dc22 pm22 cd22 ct22 oc23 kV23 dc23 pm23 cd23 ct23 oc24 kV24 dc24 pm24 cd24 ct24 oc25 kV25 dc25 pm25 cd25 ct25 oc26 kV26 dc26 pm26 cd26 ct26 oc27 kV27 dc27 pm27 cd27 ct27 oc28 kV28 dc28 pm28 cd28 ct28 oc29 kV29 dc29 pm29 cd29 ct29 oc30 kV30 dc30 pm30 cd30 ct30 oc31 kV31 dc31 pm31 cd31 ct31 oc32 kV32 dc32 pm32 cd32 ct32 oc33 kV33 dc33 pm33 cd33 ct33 oc34 kV34 dc34 pm34 cd34 ct34 oc35 kV35 dc35 pm35 cd35 ct35 oc36 kV36 dc36 pm36 cd36 ct36 oc37 kV37 dc37 pm37 cd37 ct37 oc38 kV38 dc38 pm38 cd38 ct38 oc39 kV39 dc39 pm39 cd39 ct39 oc40 kV40 dc40 pm40 cd40 ct40 oc41 kV41 dc41 pm41 cd41 ct41 oc42 kV42 dc42 pm42 cd42 ct42 oc43 kV43 dc43 pm43 cd43 ct43 oc44 kV44 dc44 pm44 cd44 ct44 oc45 kV45 dc45 pm45 cd45 ct45 oc46 kV46 dc46 pm46 cd46 ct46:Value}
  (a0:PySem.W.nsIn K mainGlobals "common_factor" = some (some (.ref f0))) (l0:K.lookup f0=fnO "common_factor" s_common_factor oc0 od0 kV0 dc0 pm0 an0 cd0 ct0 sl0) (c0':PySem.W.codeIn K cd0 "common_factor" = true) (k0:PySem.W.keepIn K (.ref f0)=true)
  (a1:PySem.W.nsIn K mainGlobals "lowest" = some (some (.ref f1))) (l1:K.lookup f1=fnO "lowest" s_lowest oc1 od1 kV1 dc1 pm1 an1 cd1 ct1 sl1) (c1':PySem.W.codeIn K cd1 "lowest" = true) (k1:PySem.W.keepIn K (.ref f1)=true)
  (a2:PySem.W.nsIn K mainGlobals "over" = some (some (.ref f2))) (l2:K.lookup f2=fnO "over" s_over oc2 od2 kV2 dc2 pm2 an2 cd2 ct2 sl2) (c2':PySem.W.codeIn K cd2 "over" = true) (k2:PySem.W.keepIn K (.ref f2)=true)
  (a3:PySem.W.nsIn K mainGlobals "below" = some (some (.ref f3))) (l3:K.lookup f3=fnO "below" s_below oc3 od3 kV3 dc3 pm3 an3 cd3 ct3 sl3) (c3':PySem.W.codeIn K cd3 "below" = true) (k3:PySem.W.keepIn K (.ref f3)=true)
  (a4:PySem.W.nsIn K mainGlobals "one_under" = some (some (.ref f4))) (l4:K.lookup f4=fnO "one_under" s_one_under oc4 od4 kV4 dc4 pm4 an4 cd4 ct4 sl4) (c4':PySem.W.codeIn K cd4 "one_under" = true) (k4:PySem.W.keepIn K (.ref f4)=true)
  (a5:PySem.W.nsIn K mainGlobals "numbers_over" = some (some (.ref f5))) (l5:K.lookup f5=fnO "numbers_over" s_numbers_over oc5 od5 kV5 dc5 pm5 an5 cd5 ct5 sl5) (c5':PySem.W.codeIn K cd5 "numbers_over" = true) (k5:PySem.W.keepIn K (.ref f5)=true)
  (a6:PySem.W.nsIn K mainGlobals "heaps" = some (some (.ref f6))) (l6:K.lookup f6=fnO "heaps" s_heaps oc6 od6 kV6 dc6 pm6 an6 cd6 ct6 sl6) (c6':PySem.W.codeIn K cd6 "heaps" = true) (k6:PySem.W.keepIn K (.ref f6)=true)
  (a7:PySem.W.nsIn K mainGlobals "within" = some (some (.ref f7))) (l7:K.lookup f7=fnO "within" s_within oc7 od7 kV7 dc7 pm7 an7 cd7 ct7 sl7) (c7':PySem.W.codeIn K cd7 "within" = true) (k7:PySem.W.keepIn K (.ref f7)=true)
  (a8:PySem.W.nsIn K mainGlobals "heap_worth" = some (some (.ref f8))) (l8:K.lookup f8=fnO "heap_worth" s_heap_worth oc8 od8 kV8 dc8 pm8 an8 cd8 ct8 sl8) (c8':PySem.W.codeIn K cd8 "heap_worth" = true) (k8:PySem.W.keepIn K (.ref f8)=true)
  (a9:PySem.W.nsIn K mainGlobals "fill" = some (some (.ref f9))) (l9:K.lookup f9=fnO "fill" s_fill oc9 od9 kV9 dc9 pm9 an9 cd9 ct9 sl9) (c9':PySem.W.codeIn K cd9 "fill" = true) (k9:PySem.W.keepIn K (.ref f9)=true)
  (a10:PySem.W.nsIn K mainGlobals "counted" = some (some (.ref f10))) (l10:K.lookup f10=fnO "counted" s_counted oc10 od10 kV10 dc10 pm10 an10 cd10 ct10 sl10) (c10':PySem.W.codeIn K cd10 "counted" = true) (k10:PySem.W.keepIn K (.ref f10)=true)
  (a11:PySem.W.nsIn K mainGlobals "papers" = some (some (.ref f11))) (l11:K.lookup f11=fnO "papers" s_papers oc11 od11 kV11 dc11 pm11 an11 cd11 ct11 sl11) (c11':PySem.W.codeIn K cd11 "papers" = true) (k11:PySem.W.keepIn K (.ref f11)=true)
  (a12:PySem.W.nsIn K mainGlobals "good_paper" = some (some (.ref f12))) (l12:K.lookup f12=fnO "good_paper" s_good_paper oc12 od12 kV12 dc12 pm12 an12 cd12 ct12 sl12) (c12':PySem.W.codeIn K cd12 "good_paper" = true) (k12:PySem.W.keepIn K (.ref f12)=true)
  (a13:PySem.W.nsIn K mainGlobals "_law_bag" = some (some (.ref f13))) (l13:K.lookup f13=fnO "_law_bag" s__law_bag oc13 od13 kV13 dc13 pm13 an13 cd13 ct13 sl13) (c13':PySem.W.codeIn K cd13 "_law_bag" = true) (k13:PySem.W.keepIn K (.ref f13)=true)
  (a14:PySem.W.nsIn K mainGlobals "_law_pull" = some (some (.ref f14))) (l14:K.lookup f14=fnO "_law_pull" s__law_pull oc14 od14 kV14 dc14 pm14 an14 cd14 ct14 sl14) (c14':PySem.W.codeIn K cd14 "_law_pull" = true) (k14:PySem.W.keepIn K (.ref f14)=true)
  (a15:PySem.W.nsIn K mainGlobals "_law_gcd" = some (some (.ref f15))) (l15:K.lookup f15=fnO "_law_gcd" s__law_gcd oc15 od15 kV15 dc15 pm15 an15 cd15 ct15 sl15) (c15':PySem.W.codeIn K cd15 "_law_gcd" = true) (k15:PySem.W.keepIn K (.ref f15)=true)
  (a16:PySem.W.nsIn K mainGlobals "_law_low" = some (some (.ref f16))) (l16:K.lookup f16=fnO "_law_low" s__law_low oc16 od16 kV16 dc16 pm16 an16 cd16 ct16 sl16) (c16':PySem.W.codeIn K cd16 "_law_low" = true) (k16:PySem.W.keepIn K (.ref f16)=true)
  (a17:PySem.W.nsIn K mainGlobals "_law_plus" = some (some (.ref f17))) (l17:K.lookup f17=fnO "_law_plus" s__law_plus oc17 od17 kV17 dc17 pm17 an17 cd17 ct17 sl17) (c17':PySem.W.codeIn K cd17 "_law_plus" = true) (k17:PySem.W.keepIn K (.ref f17)=true)
  (a18:PySem.W.nsIn K mainGlobals "_law_less" = some (some (.ref f18))) (l18:K.lookup f18=fnO "_law_less" s__law_less oc18 od18 kV18 dc18 pm18 an18 cd18 ct18 sl18) (c18':PySem.W.codeIn K cd18 "_law_less" = true) (k18:PySem.W.keepIn K (.ref f18)=true)
  (a19:PySem.W.nsIn K mainGlobals "_law_times" = some (some (.ref f19))) (l19:K.lookup f19=fnO "_law_times" s__law_times oc19 od19 kV19 dc19 pm19 an19 cd19 ct19 sl19) (c19':PySem.W.codeIn K cd19 "_law_times" = true) (k19:PySem.W.keepIn K (.ref f19)=true)
  (a20:PySem.W.nsIn K mainGlobals "_law_over" = some (some (.ref f20))) (l20:K.lookup f20=fnO "_law_over" s__law_over oc20 od20 kV20 dc20 pm20 an20 cd20 ct20 sl20) (c20':PySem.W.codeIn K cd20 "_law_over" = true) (k20:PySem.W.keepIn K (.ref f20)=true)
  (a21:PySem.W.nsIn K mainGlobals "_law_below" = some (some (.ref f21))) (l21:K.lookup f21=fnO "_law_below" s__law_below oc21 od21 kV21 dc21 pm21 an21 cd21 ct21 sl21) (c21':PySem.W.codeIn K cd21 "_law_below" = true) (k21:PySem.W.keepIn K (.ref f21)=true)
  (a22:PySem.W.nsIn K mainGlobals "_law_sum" = some (some (.ref f22))) (l22:K.lookup f22=fnO "_law_sum" s__law_sum oc22 od22 kV22 dc22 pm22 an22 cd22 ct22 sl22) (c22':PySem.W.codeIn K cd22 "_law_sum" = true) (k22:PySem.W.keepIn K (.ref f22)=true)
  (a23:PySem.W.nsIn K mainGlobals "_law_truth" = some (some (.ref f23))) (l23:K.lookup f23=fnO "_law_truth" s__law_truth oc23 od23 kV23 dc23 pm23 an23 cd23 ct23 sl23) (c23':PySem.W.codeIn K cd23 "_law_truth" = true) (k23:PySem.W.keepIn K (.ref f23)=true)
  (a24:PySem.W.nsIn K mainGlobals "_law_heaps" = some (some (.ref f24))) (l24:K.lookup f24=fnO "_law_heaps" s__law_heaps oc24 od24 kV24 dc24 pm24 an24 cd24 ct24 sl24) (c24':PySem.W.codeIn K cd24 "_law_heaps" = true) (k24:PySem.W.keepIn K (.ref f24)=true)
  (a25:PySem.W.nsIn K mainGlobals "_law_lies" = some (some (.ref f25))) (l25:K.lookup f25=fnO "_law_lies" s__law_lies oc25 od25 kV25 dc25 pm25 an25 cd25 ct25 sl25) (c25':PySem.W.codeIn K cd25 "_law_lies" = true) (k25:PySem.W.keepIn K (.ref f25)=true)
  (a26:PySem.W.nsIn K mainGlobals "_law_worth" = some (some (.ref f26))) (l26:K.lookup f26=fnO "_law_worth" s__law_worth oc26 od26 kV26 dc26 pm26 an26 cd26 ct26 sl26) (c26':PySem.W.codeIn K cd26 "_law_worth" = true) (k26:PySem.W.keepIn K (.ref f26)=true)
  (a27:PySem.W.nsIn K mainGlobals "_law_many" = some (some (.ref f27))) (l27:K.lookup f27=fnO "_law_many" s__law_many oc27 od27 kV27 dc27 pm27 an27 cd27 ct27 sl27) (c27':PySem.W.codeIn K cd27 "_law_many" = true) (k27:PySem.W.keepIn K (.ref f27)=true)
  (a28:PySem.W.nsIn K mainGlobals "_law_heap" = some (some (.ref f28))) (l28:K.lookup f28=fnO "_law_heap" s__law_heap oc28 od28 kV28 dc28 pm28 an28 cd28 ct28 sl28) (c28':PySem.W.codeIn K cd28 "_law_heap" = true) (k28:PySem.W.keepIn K (.ref f28)=true)
  (a29:PySem.W.nsIn K mainGlobals "_law_worths" = some (some (.ref f29))) (l29:K.lookup f29=fnO "_law_worths" s__law_worths oc29 od29 kV29 dc29 pm29 an29 cd29 ct29 sl29) (c29':PySem.W.codeIn K cd29 "_law_worths" = true) (k29:PySem.W.keepIn K (.ref f29)=true)
  (a30:PySem.W.nsIn K mainGlobals "_law_due" = some (some (.ref f30))) (l30:K.lookup f30=fnO "_law_due" s__law_due oc30 od30 kV30 dc30 pm30 an30 cd30 ct30 sl30) (c30':PySem.W.codeIn K cd30 "_law_due" = true) (k30:PySem.W.keepIn K (.ref f30)=true)
  (a31:PySem.W.nsIn K mainGlobals "_law_claims" = some (some (.ref f31))) (l31:K.lookup f31=fnO "_law_claims" s__law_claims oc31 od31 kV31 dc31 pm31 an31 cd31 ct31 sl31) (c31':PySem.W.codeIn K cd31 "_law_claims" = true) (k31:PySem.W.keepIn K (.ref f31)=true)
  (a32:PySem.W.nsIn K mainGlobals "_law_row" = some (some (.ref f32))) (l32:K.lookup f32=fnO "_law_row" s__law_row oc32 od32 kV32 dc32 pm32 an32 cd32 ct32 sl32) (c32':PySem.W.codeIn K cd32 "_law_row" = true) (k32:PySem.W.keepIn K (.ref f32)=true)
  (a33:PySem.W.nsIn K mainGlobals "_law_ceil" = some (some (.ref f33))) (l33:K.lookup f33=fnO "_law_ceil" s__law_ceil oc33 od33 kV33 dc33 pm33 an33 cd33 ct33 sl33) (c33':PySem.W.codeIn K cd33 "_law_ceil" = true) (k33:PySem.W.keepIn K (.ref f33)=true)
  (a34:PySem.W.nsIn K mainGlobals "_law_tabled" = some (some (.ref f34))) (l34:K.lookup f34=fnO "_law_tabled" s__law_tabled oc34 od34 kV34 dc34 pm34 an34 cd34 ct34 sl34) (c34':PySem.W.codeIn K cd34 "_law_tabled" = true) (k34:PySem.W.keepIn K (.ref f34)=true)
  (a35:PySem.W.nsIn K mainGlobals "_law_need" = some (some (.ref f35))) (l35:K.lookup f35=fnO "_law_need" s__law_need oc35 od35 kV35 dc35 pm35 an35 cd35 ct35 sl35) (c35':PySem.W.codeIn K cd35 "_law_need" = true) (k35:PySem.W.keepIn K (.ref f35)=true)
  (a36:PySem.W.nsIn K mainGlobals "_law_left" = some (some (.ref f36))) (l36:K.lookup f36=fnO "_law_left" s__law_left oc36 od36 kV36 dc36 pm36 an36 cd36 ct36 sl36) (c36':PySem.W.codeIn K cd36 "_law_left" = true) (k36:PySem.W.keepIn K (.ref f36)=true)
  (a37:PySem.W.nsIn K mainGlobals "_law_level" = some (some (.ref f37))) (l37:K.lookup f37=fnO "_law_level" s__law_level oc37 od37 kV37 dc37 pm37 an37 cd37 ct37 sl37) (c37':PySem.W.codeIn K cd37 "_law_level" = true) (k37:PySem.W.keepIn K (.ref f37)=true)
  (a38:PySem.W.nsIn K mainGlobals "_law_filled" = some (some (.ref f38))) (l38:K.lookup f38=fnO "_law_filled" s__law_filled oc38 od38 kV38 dc38 pm38 an38 cd38 ct38 sl38) (c38':PySem.W.codeIn K cd38 "_law_filled" = true) (k38:PySem.W.keepIn K (.ref f38)=true)
  (a39:PySem.W.nsIn K mainGlobals "_law_fair" = some (some (.ref f39))) (l39:K.lookup f39=fnO "_law_fair" s__law_fair oc39 od39 kV39 dc39 pm39 an39 cd39 ct39 sl39) (c39':PySem.W.codeIn K cd39 "_law_fair" = true) (k39:PySem.W.keepIn K (.ref f39)=true)
  (a40:PySem.W.nsIn K mainGlobals "_law_case" = some (some (.ref f40))) (l40:K.lookup f40=fnO "_law_case" s__law_case oc40 od40 kV40 dc40 pm40 an40 cd40 ct40 sl40) (c40':PySem.W.codeIn K cd40 "_law_case" = true) (k40:PySem.W.keepIn K (.ref f40)=true)
  (a41:PySem.W.nsIn K mainGlobals "_law_fill" = some (some (.ref f41))) (l41:K.lookup f41=fnO "_law_fill" s__law_fill oc41 od41 kV41 dc41 pm41 an41 cd41 ct41 sl41) (c41':PySem.W.codeIn K cd41 "_law_fill" = true) (k41:PySem.W.keepIn K (.ref f41)=true)
  (a42:PySem.W.nsIn K mainGlobals "_law_ahead" = some (some (.ref f42))) (l42:K.lookup f42=fnO "_law_ahead" s__law_ahead oc42 od42 kV42 dc42 pm42 an42 cd42 ct42 sl42) (c42':PySem.W.codeIn K cd42 "_law_ahead" = true) (k42:PySem.W.keepIn K (.ref f42)=true)
  (a43:PySem.W.nsIn K mainGlobals "_law_bend" = some (some (.ref f43))) (l43:K.lookup f43=fnO "_law_bend" s__law_bend oc43 od43 kV43 dc43 pm43 an43 cd43 ct43 sl43) (c43':PySem.W.codeIn K cd43 "_law_bend" = true) (k43:PySem.W.keepIn K (.ref f43)=true)
  (a44:PySem.W.nsIn K mainGlobals "_law_papers" = some (some (.ref f44))) (l44:K.lookup f44=fnO "_law_papers" s__law_papers oc44 od44 kV44 dc44 pm44 an44 cd44 ct44 sl44) (c44':PySem.W.codeIn K cd44 "_law_papers" = true) (k44:PySem.W.keepIn K (.ref f44)=true)
  (a45:PySem.W.nsIn K mainGlobals "_law_looked" = some (some (.ref f45))) (l45:K.lookup f45=fnO "_law_looked" s__law_looked oc45 od45 kV45 dc45 pm45 an45 cd45 ct45 sl45) (c45':PySem.W.codeIn K cd45 "_law_looked" = true) (k45:PySem.W.keepIn K (.ref f45)=true)
  (a46:PySem.W.nsIn K mainGlobals "law" = some (some (.ref f46))) (l46:K.lookup f46=fnO "law" s_law oc46 od46 kV46 dc46 pm46 an46 cd46 ct46 sl46) (c46':PySem.W.codeIn K cd46 "law" = true) (k46:PySem.W.keepIn K (.ref f46)=true)
  (x0:PySem.W.nsIn K mainGlobals "BadPart" = some (some (.ref c0))) (y0:PySem.W.excIn K c0 veTail "ValueError.__new__" = true)
  (z0:PySem.W.nsIn K mainGlobals "sorted" = some none)
  (z1:PySem.W.nsIn K mainGlobals "range" = some none)
  (z2:PySem.W.nsIn K mainGlobals "all" = some none)
  (z3:PySem.W.nsIn K mainGlobals "sum" = some none)
  (z4:PySem.W.nsIn K mainGlobals "enumerate" = some none)
  (z5:PySem.W.nsIn K mainGlobals "len" = some none)
  (z6:PySem.W.nsIn K mainGlobals "list" = some none)
  (z7:PySem.W.nsIn K mainGlobals "abs" = some none)
  (z8:PySem.W.nsIn K mainGlobals "isinstance" = some none)
  (z9:PySem.W.nsIn K mainGlobals "bool" = some none)
  (z10:PySem.W.nsIn K mainGlobals "tuple" = some none)
  (z11:PySem.W.nsIn K mainGlobals "min" = some none)
  (z12:PySem.W.nsIn K mainGlobals "any" = some none)
  (z13:PySem.W.nsIn K mainGlobals "set" = some none)
  : ∃ fd:FuncData,(∀(s:Shared)(v:Value),BindsTo s fd ⟨[v],[]⟩ [("_law_script", v)])∧∀ base:Heap,K.In base→base.Ns mainGlobals mg→FnOk l.prog w K mg base CX0 9 fa fd ["_law_script"] (sp_law K (fun _=>0)):=by
 have e:=hfa.symm.trans (PySem.W.mg_of X G a46)
 cases e
 have T:Txt K mg (fun x=>if x = "BadPart" then c0 else 0):=⟨PySem.W.mg_none_of X G z0,PySem.W.mg_none_of X G z1,PySem.W.mg_none_of X G z2,PySem.W.mg_none_of X G z3,PySem.W.mg_none_of X G z4,PySem.W.mg_none_of X G z5,PySem.W.mg_none_of X G z6,PySem.W.mg_none_of X G z7,PySem.W.mg_none_of X G z8,PySem.W.mg_none_of X G z9,PySem.W.mg_none_of X G z10,PySem.W.mg_none_of X G z11,PySem.W.mg_none_of X G z12,PySem.W.mg_none_of X G z13,⟨by simpa using PySem.W.mg_of X G x0,by simpa using y0⟩⟩
 have D0:DefAt K mg "common_factor" s_common_factor _ _:=⟨fun_mk (st:=s_common_factor) l0 c0' k0,PySem.W.mg_of X G a0⟩
 have D1:DefAt K mg "lowest" s_lowest _ _:=⟨fun_mk (st:=s_lowest) l1 c1' k1,PySem.W.mg_of X G a1⟩
 have D2:DefAt K mg "over" s_over _ _:=⟨fun_mk (st:=s_over) l2 c2' k2,PySem.W.mg_of X G a2⟩
 have D3:DefAt K mg "below" s_below _ _:=⟨fun_mk (st:=s_below) l3 c3' k3,PySem.W.mg_of X G a3⟩
 have D4:DefAt K mg "one_under" s_one_under _ _:=⟨fun_mk (st:=s_one_under) l4 c4' k4,PySem.W.mg_of X G a4⟩
 have D5:DefAt K mg "numbers_over" s_numbers_over _ _:=⟨fun_mk (st:=s_numbers_over) l5 c5' k5,PySem.W.mg_of X G a5⟩
 have D6:DefAt K mg "heaps" s_heaps _ _:=⟨fun_mk (st:=s_heaps) l6 c6' k6,PySem.W.mg_of X G a6⟩
 have D7:DefAt K mg "within" s_within _ _:=⟨fun_mk (st:=s_within) l7 c7' k7,PySem.W.mg_of X G a7⟩
 have D8:DefAt K mg "heap_worth" s_heap_worth _ _:=⟨fun_mk (st:=s_heap_worth) l8 c8' k8,PySem.W.mg_of X G a8⟩
 have D9:DefAt K mg "fill" s_fill _ _:=⟨fun_mk (st:=s_fill) l9 c9' k9,PySem.W.mg_of X G a9⟩
 have D10:DefAt K mg "counted" s_counted _ _:=⟨fun_mk (st:=s_counted) l10 c10' k10,PySem.W.mg_of X G a10⟩
 have D11:DefAt K mg "papers" s_papers _ _:=⟨fun_mk (st:=s_papers) l11 c11' k11,PySem.W.mg_of X G a11⟩
 have D12:DefAt K mg "good_paper" s_good_paper _ _:=⟨fun_mk (st:=s_good_paper) l12 c12' k12,PySem.W.mg_of X G a12⟩
 have D13:DefAt K mg "_law_bag" s__law_bag _ _:=⟨fun_mk (st:=s__law_bag) l13 c13' k13,PySem.W.mg_of X G a13⟩
 have D14:DefAt K mg "_law_pull" s__law_pull _ _:=⟨fun_mk (st:=s__law_pull) l14 c14' k14,PySem.W.mg_of X G a14⟩
 have D15:DefAt K mg "_law_gcd" s__law_gcd _ _:=⟨fun_mk (st:=s__law_gcd) l15 c15' k15,PySem.W.mg_of X G a15⟩
 have D16:DefAt K mg "_law_low" s__law_low _ _:=⟨fun_mk (st:=s__law_low) l16 c16' k16,PySem.W.mg_of X G a16⟩
 have D17:DefAt K mg "_law_plus" s__law_plus _ _:=⟨fun_mk (st:=s__law_plus) l17 c17' k17,PySem.W.mg_of X G a17⟩
 have D18:DefAt K mg "_law_less" s__law_less _ _:=⟨fun_mk (st:=s__law_less) l18 c18' k18,PySem.W.mg_of X G a18⟩
 have D19:DefAt K mg "_law_times" s__law_times _ _:=⟨fun_mk (st:=s__law_times) l19 c19' k19,PySem.W.mg_of X G a19⟩
 have D20:DefAt K mg "_law_over" s__law_over _ _:=⟨fun_mk (st:=s__law_over) l20 c20' k20,PySem.W.mg_of X G a20⟩
 have D21:DefAt K mg "_law_below" s__law_below _ _:=⟨fun_mk (st:=s__law_below) l21 c21' k21,PySem.W.mg_of X G a21⟩
 have D22:DefAt K mg "_law_sum" s__law_sum _ _:=⟨fun_mk (st:=s__law_sum) l22 c22' k22,PySem.W.mg_of X G a22⟩
 have D23:DefAt K mg "_law_truth" s__law_truth _ _:=⟨fun_mk (st:=s__law_truth) l23 c23' k23,PySem.W.mg_of X G a23⟩
 have D24:DefAt K mg "_law_heaps" s__law_heaps _ _:=⟨fun_mk (st:=s__law_heaps) l24 c24' k24,PySem.W.mg_of X G a24⟩
 have D25:DefAt K mg "_law_lies" s__law_lies _ _:=⟨fun_mk (st:=s__law_lies) l25 c25' k25,PySem.W.mg_of X G a25⟩
 have D26:DefAt K mg "_law_worth" s__law_worth _ _:=⟨fun_mk (st:=s__law_worth) l26 c26' k26,PySem.W.mg_of X G a26⟩
 have D27:DefAt K mg "_law_many" s__law_many _ _:=⟨fun_mk (st:=s__law_many) l27 c27' k27,PySem.W.mg_of X G a27⟩
 have D28:DefAt K mg "_law_heap" s__law_heap _ _:=⟨fun_mk (st:=s__law_heap) l28 c28' k28,PySem.W.mg_of X G a28⟩
 have D29:DefAt K mg "_law_worths" s__law_worths _ _:=⟨fun_mk (st:=s__law_worths) l29 c29' k29,PySem.W.mg_of X G a29⟩
 have D30:DefAt K mg "_law_due" s__law_due _ _:=⟨fun_mk (st:=s__law_due) l30 c30' k30,PySem.W.mg_of X G a30⟩
 have D31:DefAt K mg "_law_claims" s__law_claims _ _:=⟨fun_mk (st:=s__law_claims) l31 c31' k31,PySem.W.mg_of X G a31⟩
 have D32:DefAt K mg "_law_row" s__law_row _ _:=⟨fun_mk (st:=s__law_row) l32 c32' k32,PySem.W.mg_of X G a32⟩
 have D33:DefAt K mg "_law_ceil" s__law_ceil _ _:=⟨fun_mk (st:=s__law_ceil) l33 c33' k33,PySem.W.mg_of X G a33⟩
 have D34:DefAt K mg "_law_tabled" s__law_tabled _ _:=⟨fun_mk (st:=s__law_tabled) l34 c34' k34,PySem.W.mg_of X G a34⟩
 have D35:DefAt K mg "_law_need" s__law_need _ _:=⟨fun_mk (st:=s__law_need) l35 c35' k35,PySem.W.mg_of X G a35⟩
 have D36:DefAt K mg "_law_left" s__law_left _ _:=⟨fun_mk (st:=s__law_left) l36 c36' k36,PySem.W.mg_of X G a36⟩
 have D37:DefAt K mg "_law_level" s__law_level _ _:=⟨fun_mk (st:=s__law_level) l37 c37' k37,PySem.W.mg_of X G a37⟩
 have D38:DefAt K mg "_law_filled" s__law_filled _ _:=⟨fun_mk (st:=s__law_filled) l38 c38' k38,PySem.W.mg_of X G a38⟩
 have D39:DefAt K mg "_law_fair" s__law_fair _ _:=⟨fun_mk (st:=s__law_fair) l39 c39' k39,PySem.W.mg_of X G a39⟩
 have D40:DefAt K mg "_law_case" s__law_case _ _:=⟨fun_mk (st:=s__law_case) l40 c40' k40,PySem.W.mg_of X G a40⟩
 have D41:DefAt K mg "_law_fill" s__law_fill _ _:=⟨fun_mk (st:=s__law_fill) l41 c41' k41,PySem.W.mg_of X G a41⟩
 have D42:DefAt K mg "_law_ahead" s__law_ahead _ _:=⟨fun_mk (st:=s__law_ahead) l42 c42' k42,PySem.W.mg_of X G a42⟩
 have D43:DefAt K mg "_law_bend" s__law_bend _ _:=⟨fun_mk (st:=s__law_bend) l43 c43' k43,PySem.W.mg_of X G a43⟩
 have D44:DefAt K mg "_law_papers" s__law_papers _ _:=⟨fun_mk (st:=s__law_papers) l44 c44' k44,PySem.W.mg_of X G a44⟩
 have D45:DefAt K mg "_law_looked" s__law_looked _ _:=⟨fun_mk (st:=s__law_looked) l45 c45' k45,PySem.W.mg_of X G a45⟩
 have D46:DefAt K mg "law" s_law _ _:=⟨fun_mk (st:=s_law) l46 c46' k46,PySem.W.mg_of X G a46⟩
 refine⟨PySem.W.fnOf "law" "law" (defArgs s_law) (defBody s_law) (defScope s_law) .none kV46 dc46 pm46 an46 cd46 ct46,fun s v=>.of_eq rfl,fun base _ _=>?_⟩
 have d__law_bag:=ok__law_bag (P:=l.prog) (w:=w) (base:=base) D13 T
 have d__law_pull:=ok__law_pull (P:=l.prog) (w:=w) (base:=base) D14 T
 have d__law_many:=ok__law_many D27 T d__law_pull
 have d__law_gcd:=ok__law_gcd (P:=l.prog) (w:=w) (base:=base) D15 T
 have d__law_low:=ok__law_low D16 T d__law_gcd
 have d__law_due:=ok__law_due D30 T d__law_low d__law_pull
 have d__law_heap:=ok__law_heap D28 T d__law_pull
 have d__law_claims:=ok__law_claims D31 T d__law_pull d__law_due d__law_heap
 have d__law_plus:=ok__law_plus D17 T d__law_low
 have d__law_sum:=ok__law_sum D22 T d__law_plus
 have d__law_ceil:=ok__law_ceil (P:=l.prog) (w:=w) (base:=base) D33 T
 have d__law_tabled:=ok__law_tabled D34 T d__law_many d__law_claims d__law_pull d__law_low d__law_sum d__law_plus d__law_ceil
 have d__law_worths:=ok__law_worths D29 T d__law_pull
 have d__law_case:=ok__law_case D40 T d__law_many d__law_pull d__law_tabled d__law_worths d__law_claims
 have d__law_less:=ok__law_less D18 T d__law_low
 have d__law_times:=ok__law_times D19 T d__law_low
 have d__law_row:=ok__law_row D32 T d__law_pull d__law_times
 have d__law_below:=ok__law_below (P:=l.prog) (w:=w) (base:=base) D21 T
 have d__law_bend:=ok__law_bend D43 T d__law_pull d__law_low d__law_less d__law_plus d__law_times d__law_row d__law_below
 have d__law_heaps:=ok__law_heaps (P:=l.prog) (w:=w) (base:=base) D24 T
 have d__law_lies:=ok__law_lies (P:=l.prog) (w:=w) (base:=base) D25 T
 have d__law_need:=ok__law_need D35 T d__law_sum d__law_lies
 have d__law_over:=ok__law_over D20 T d__law_low
 have d__law_worth:=ok__law_worth (P:=l.prog) (w:=w) (base:=base) D26 T
 have d__law_left:=ok__law_left D36 T d__law_less d__law_sum d__law_worth d__law_lies
 have d__law_level:=ok__law_level D37 T d__law_heaps d__law_need d__law_over d__law_below d__law_left d__law_lies
 have d__law_filled:=ok__law_filled D38 T d__law_level d__law_times
 have d__law_fair:=ok__law_fair D39 T d__law_filled
 have d__law_fill:=ok__law_fill D41 T d__law_over
 have d__law_ahead:=ok__law_ahead D42 T d__law_fill d__law_below
 have d__law_papers:=ok__law_papers D44 T d__law_ahead d__law_heaps d__law_lies d__law_sum d__law_worth
 have d_common_factor:=ok_common_factor (P:=l.prog) (w:=w) (base:=base) D0 T
 have d_one_under:=ok_one_under D4 T d_common_factor
 have d_numbers_over:=ok_numbers_over (P:=l.prog) (w:=w) (base:=base) D5 T
 have d_lowest:=ok_lowest D1 T d_common_factor
 have d_over:=ok_over D2 T d_lowest
 have d_fill:=ok_fill D9 T d_over
 have d_below:=ok_below (P:=l.prog) (w:=w) (base:=base) D3 T
 have d_counted:=ok_counted D10 T d_fill d_below
 have d_heaps:=ok_heaps (P:=l.prog) (w:=w) (base:=base) D6 T
 have d_within:=ok_within (P:=l.prog) (w:=w) (base:=base) D7 T
 have d_heap_worth:=ok_heap_worth (P:=l.prog) (w:=w) (base:=base) D8 T
 have d_papers:=ok_papers D11 T d_one_under d_numbers_over d_counted d_heaps d_below d_within d_heap_worth
 have d_good_paper:=ok_good_paper D12 T d_papers
 have d__law_truth:=ok__law_truth (P:=l.prog) (w:=w) (base:=base) D23 T
 have d__law_looked:=ok__law_looked D45 T d_good_paper d__law_truth
 have d_law:=ok_law D46 T d__law_bag d__law_case d__law_bend d__law_fair d__law_papers d__law_heap d__law_pull d__law_looked
 exact d_law
theorem walk{l:PySem.W.OpenLaw}{q:Program}{loose:List Str}{XP:(Str→Option Value)→Heap→Prop}{YP:World→Heap→Prop}{d:DefRec}{K:Params→PySem.W.Frag}(hn:l.most=some 63)(hdf:d.params.defaults=[])
  (hY:∀(w:World)(h:Heap),YP w h→(K w.params).In h)
  (F:∀(w:World)(mg:Str→Option Value)(fa:Addr)(h:Heap),(K w.params).In h→h.Ns mainGlobals mg→mg d.name=some (.ref fa) →
   ∃ fd:FuncData,(∀(s:Shared)(u:Value),BindsTo s fd ⟨[u],[]⟩ [("_law_script", u)])∧∀ base:Heap,(K w.params).In base→base.Ns mainGlobals mg→FnOk l.prog w (K w.params) mg base CX0 9 fa fd ["_law_script"] (sp_law (K w.params) (fun _=>0))) :
  PySem.W.WalkO q loose XP YP l.row.toRowW d [] (fun f vs=>PySem.call f vs) :=
 L2.walk_of (n:=63) (k:=9) (x := "_law_script") (CX:=fun _=>CX0) (sp:=fun w=>sp_law (K w.params) (fun _=>0)) hn (by decide) hdf ⟨rfl,by decide,by decide⟩ hY F (fun _ _ a ns hl _ hS=>⟨a,ns,rfl,hS,hl,fun _=>rfl⟩) fun _ _ _ _ _ z=>z
end Toy
def PySem.W.Fast.tw7000068587317234738:Unit:=()
def PySem.W.Fast.tw17647362923524159981:Unit:=()
def PySem.W.Fast.tw8558698834245020634:Unit:=()
def PySem.W.Fast.tw14930358398297806638:Unit:=()
def PySem.W.Fast.tw16474712729889319351:Unit:=()
def PySem.W.Fast.tw14719952451695654760:Unit:=()
def PySem.W.Fast.tw4579931269082239344:Unit:=()
def PySem.W.Fast.tw16605334191381513438:Unit:=()
def PySem.W.Fast.tw13227307333374137148:Unit:=()
def PySem.W.Fast.tw8621636728954603257:Unit:=()
def PySem.W.Fast.tw15669335100025279598:Unit:=()
def PySem.W.Fast.tw14733865712552632041:Unit:=()
def PySem.W.Fast.tw821798330975662626:Unit:=()
def PySem.W.Fast.tw10847141887123624845:Unit:=()
def PySem.W.Fast.tw791346365844799362:Unit:=()
def PySem.W.Fast.tw10488405653035205485:Unit:=()
def PySem.W.Fast.tw17357162671579750106:Unit:=()
def PySem.W.Fast.tw1197841544907354118:Unit:=()
def PySem.W.Fast.tw261058257464048966:Unit:=()
def PySem.W.Fast.tw9132705033464169766:Unit:=()
def PySem.W.Fast.tw14898004381286914069:Unit:=()
def PySem.W.Fast.tw2775193182831824862:Unit:=()
def PySem.W.Fast.tw7471276512042451732:Unit:=()
def PySem.W.Fast.tw10118182418692189641:Unit:=()
def PySem.W.Fast.tw9870599669629179946:Unit:=()
def PySem.W.Fast.tw13154705604501582084:Unit:=()
def PySem.W.Fast.tw14135183164907958030:Unit:=()
open PySem PySem.W PyProof.Rows
set_option maxRecDepth 100000 in
set_option maxHeartbeats 0 in
theorem PySem.Challenge.cw_keelbond_k18_papers_judged_holds : PySem.Challenge.rw_keelbond_k18_papers_judged.Holds := by
 w_on;o_law;k_head;(case hw=>w_witness2)
 k_fill
 refine Toy.walk (l:=PySem.Challenge.rw_keelbond_k18_papers_judged) rfl rfl (fun w h Y=>PySem.W.kIn_of Y) ?F
 case F =>
  intro w mg fa h KX G hmg
  refine' Toy.all_mk KX G hmg ?a0 ?l0 ?c0' ?k0 ?a1 ?l1 ?c1' ?k1 ?a2 ?l2 ?c2' ?k2 ?a3 ?l3 ?c3' ?k3 ?a4 ?l4 ?c4' ?k4 ?a5 ?l5 ?c5' ?k5 ?a6 ?l6 ?c6' ?k6 ?a7 ?l7 ?c7' ?k7 ?a8 ?l8 ?c8' ?k8 ?a9 ?l9 ?c9' ?k9 ?a10 ?l10 ?c10' ?k10 ?a11 ?l11 ?c11' ?k11 ?a12 ?l12 ?c12' ?k12 ?a13 ?l13 ?c13' ?k13 ?a14 ?l14 ?c14' ?k14 ?a15 ?l15 ?c15' ?k15 ?a16 ?l16 ?c16' ?k16 ?a17 ?l17 ?c17' ?k17 ?a18 ?l18 ?c18' ?k18 ?a19 ?l19 ?c19' ?k19 ?a20 ?l20 ?c20' ?k20 ?a21 ?l21 ?c21' ?k21 ?a22 ?l22 ?c22' ?k22 ?a23 ?l23 ?c23' ?k23 ?a24 ?l24 ?c24' ?k24 ?a25 ?l25 ?c25' ?k25 ?a26 ?l26 ?c26' ?k26 ?a27 ?l27 ?c27' ?k27 ?a28 ?l28 ?c28' ?k28 ?a29 ?l29 ?c29' ?k29 ?a30 ?l30 ?c30' ?k30 ?a31 ?l31 ?c31' ?k31 ?a32 ?l32 ?c32' ?k32 ?a33 ?l33 ?c33' ?k33 ?a34 ?l34 ?c34' ?k34 ?a35 ?l35 ?c35' ?k35 ?a36 ?l36 ?c36' ?k36 ?a37 ?l37 ?c37' ?k37 ?a38 ?l38 ?c38' ?k38 ?a39 ?l39 ?c39' ?k39 ?a40 ?l40 ?c40' ?k40 ?a41 ?l41 ?c41' ?k41 ?a42 ?l42 ?c42' ?k42 ?a43 ?l43 ?c43' ?k43 ?a44 ?l44 ?c44' ?k44 ?a45 ?l45 ?c45' ?k45 ?a46 ?l46 ?c46' ?k46 ?x0 ?y0 ?z0 ?z1 ?z2 ?z3 ?z4 ?z5 ?z6 ?z7 ?z8 ?z9 ?z10 ?z11 ?z12 ?z13
  (case a0=>k_is);(case l0=>k_is);(case c0'=>k_is);(case k0=>k_is);(case a1=>k_is);(case l1=>k_is);(case c1'=>k_is);(case k1=>k_is);(case a2=>k_is);(case l2=>k_is);(case c2'=>k_is);(case k2=>k_is);(case a3=>k_is);(case l3=>k_is);(case c3'=>k_is);(case k3=>k_is);(case a4=>k_is);(case l4=>k_is);(case c4'=>k_is);(case k4=>k_is);(case a5=>k_is);(case l5=>k_is);(case c5'=>k_is);(case k5=>k_is);(case a6=>k_is);(case l6=>k_is);(case c6'=>k_is);(case k6=>k_is);(case a7=>k_is);(case l7=>k_is);(case c7'=>k_is);(case k7=>k_is);(case a8=>k_is);(case l8=>k_is);(case c8'=>k_is);(case k8=>k_is);(case a9=>k_is);(case l9=>k_is);(case c9'=>k_is);(case k9=>k_is);(case a10=>k_is);(case l10=>k_is);(case c10'=>k_is);(case k10=>k_is);(case a11=>k_is);(case l11=>k_is);(case c11'=>k_is);(case k11=>k_is);(case a12=>k_is);(case l12=>k_is);(case c12'=>k_is);(case k12=>k_is);(case a13=>k_is);(case l13=>k_is);(case c13'=>k_is);(case k13=>k_is);(case a14=>k_is);(case l14=>k_is);(case c14'=>k_is);(case k14=>k_is);(case a15=>k_is);(case l15=>k_is);(case c15'=>k_is);(case k15=>k_is);(case a16=>k_is);(case l16=>k_is);(case c16'=>k_is);(case k16=>k_is);(case a17=>k_is);(case l17=>k_is);(case c17'=>k_is);(case k17=>k_is);(case a18=>k_is);(case l18=>k_is);(case c18'=>k_is);(case k18=>k_is);(case a19=>k_is);(case l19=>k_is);(case c19'=>k_is);(case k19=>k_is);(case a20=>k_is);(case l20=>k_is);(case c20'=>k_is);(case k20=>k_is);(case a21=>k_is);(case l21=>k_is);(case c21'=>k_is);(case k21=>k_is);(case a22=>k_is);(case l22=>k_is);(case c22'=>k_is);(case k22=>k_is);(case a23=>k_is);(case l23=>k_is);(case c23'=>k_is);(case k23=>k_is);(case a24=>k_is);(case l24=>k_is);(case c24'=>k_is);(case k24=>k_is);(case a25=>k_is);(case l25=>k_is);(case c25'=>k_is);(case k25=>k_is);(case a26=>k_is);(case l26=>k_is);(case c26'=>k_is);(case k26=>k_is);(case a27=>k_is);(case l27=>k_is);(case c27'=>k_is);(case k27=>k_is);(case a28=>k_is);(case l28=>k_is);(case c28'=>k_is);(case k28=>k_is);(case a29=>k_is);(case l29=>k_is);(case c29'=>k_is);(case k29=>k_is);(case a30=>k_is);(case l30=>k_is);(case c30'=>k_is);(case k30=>k_is);(case a31=>k_is);(case l31=>k_is);(case c31'=>k_is);(case k31=>k_is);(case a32=>k_is);(case l32=>k_is);(case c32'=>k_is);(case k32=>k_is);(case a33=>k_is);(case l33=>k_is);(case c33'=>k_is);(case k33=>k_is);(case a34=>k_is);(case l34=>k_is);(case c34'=>k_is);(case k34=>k_is);(case a35=>k_is);(case l35=>k_is);(case c35'=>k_is);(case k35=>k_is);(case a36=>k_is);(case l36=>k_is);(case c36'=>k_is);(case k36=>k_is);(case a37=>k_is);(case l37=>k_is);(case c37'=>k_is);(case k37=>k_is);(case a38=>k_is);(case l38=>k_is);(case c38'=>k_is);(case k38=>k_is);(case a39=>k_is);(case l39=>k_is);(case c39'=>k_is);(case k39=>k_is);(case a40=>k_is);(case l40=>k_is);(case c40'=>k_is);(case k40=>k_is);(case a41=>k_is);(case l41=>k_is);(case c41'=>k_is);(case k41=>k_is);(case a42=>k_is);(case l42=>k_is);(case c42'=>k_is);(case k42=>k_is);(case a43=>k_is);(case l43=>k_is);(case c43'=>k_is);(case k43=>k_is);(case a44=>k_is);(case l44=>k_is);(case c44'=>k_is);(case k44=>k_is);(case a45=>k_is);(case l45=>k_is);(case c45'=>k_is);(case k45=>k_is);(case a46=>k_is);(case l46=>k_is);(case c46'=>k_is);(case k46=>k_is);(case x0=>k_is);(case y0=>k_exc);(case z0=>k_is);(case z1=>k_is);(case z2=>k_is);(case z3=>k_is);(case z4=>k_is);(case z5=>k_is);(case z6=>k_is);(case z7=>k_is);(case z8=>k_is);(case z9=>k_is);(case z10=>k_is);(case z11=>k_is);(case z12=>k_is);(case z13=>k_is)
