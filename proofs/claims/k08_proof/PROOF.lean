import PyProof.Rows.All
import Wide.All
import OpenK.AllK
import Wide.FinOn
import Lean
import PyProof.EqAt
import PyProof.EqKinds
import PyProof.TupleCall
import PyProof.Rows.SortRuns
import PyProof.Rows.SortShell
import PyProof.ZipIter
import PySem.Challenge.RW_keelbond_k08_tables_judged
set_option Elab.async false
set_option linter.all false
set_option maxRecDepth 100000
namespace L2
open PySem PySem.Spec PyProof.Rows
abbrev Key:=Sum Int Str
def keyIs:Key→Value→Bool
 | .inl k,v=>Value.isInt k v
 | .inr x,v=>Value.isStrOf x v
def keyH(w:World):Key→Int
 | .inl k=>hashInt k
 | .inr x=>hashStr w x
theorem keyIs_shape:∀{k:Key}{v:Value},keyIs k v=true→(∃ i t,k=Sum.inl i∧v=Value.int i t)∨(∃ x t,k=Sum.inr x∧v=Value.str x t)
 | .inl i,v,h=>by
  obtain⟨t,e⟩:=Value.isInt_shape (k:=i) (v:=v) h
  exact .inl ⟨i,t,rfl,e⟩
 | .inr x,v,h=>by
  obtain⟨t,e⟩:=Value.isStrOf_shape (x:=x) (v:=v) h
  exact .inr ⟨x,t,rfl,e⟩
theorem key_ll(a b:Int):decide ((Sum.inl a:Key)=Sum.inl b)=(a == b):=by
 by_cases e:a=b
 ·subst e;simp
 ·have h:¬ (Sum.inl a:Key)=Sum.inl b:=fun q=>e (Sum.inl.inj q)
  rw[decide_eq_false h]
  exact (beq_eq_false_iff_ne.mpr e).symm
theorem key_rr(a b:Str):decide ((Sum.inr a:Key)=Sum.inr b)=decide (a=b):=by
 by_cases e:a=b
 ·subst e;simp
 ·have h:¬ (Sum.inr a:Key)=Sum.inr b:=fun q=>e (Sum.inr.inj q)
  rw[decide_eq_false h,decide_eq_false e]
theorem key_lr(a:Int)(b:Str):decide ((Sum.inl a:Key)=Sum.inr b)=false:=decide_eq_false (fun q=>nomatch q)
theorem key_rl(a:Str)(b:Int):decide ((Sum.inr a:Key)=Sum.inl b)=false:=decide_eq_false (fun q=>nomatch q)
def mixKind(prog:Program)(w:World):PySem.KeyKind prog w Key where
 is:=keyIs
 hash:=keyH w
 inj:=fun v a b ha hb=>by
  rcases keyIs_shape ha with ⟨i,t,rfl,rfl⟩ | ⟨x,t,rfl,rfl⟩
  ·rcases keyIs_shape hb with ⟨j,u,rfl,e⟩ | ⟨y,u,rfl,e⟩
   ·injection e with e1 _;rw[e1]
   ·exact nomatch e
  ·rcases keyIs_shape hb with ⟨j,u,rfl,e⟩ | ⟨y,u,rfl,e⟩
   ·exact nomatch e
   ·injection e with e1 _;rw[e1]
 byValue:=fun k v h=>by
  rcases keyIs_shape h with ⟨i,t,rfl,rfl⟩ | ⟨x,t,rfl,rfl⟩<;>rfl
 pyHash:=fun hv h=>by
  rcases keyIs_shape hv with ⟨i,t,rfl,rfl⟩ | ⟨x,t,rfl,rfl⟩
  ·exact wpAny_pyHash_int h
  ·exact wpAny_pyHash_str h
 eqBool:=fun hu hv h=>by
  rcases keyIs_shape hu with ⟨i,t,rfl,rfl⟩ | ⟨x,t,rfl,rfl⟩
  ·rcases keyIs_shape hv with ⟨j,u,rfl,rfl⟩ | ⟨y,u,rfl,rfl⟩
   ·rw[key_ll] at h;exact wpAny_eqBool_int h
   ·rw[key_lr] at h;exact SeqAt.EqAt.int_str i t y u _ _ _ _ h
  ·rcases keyIs_shape hv with ⟨j,u,rfl,rfl⟩ | ⟨y,u,rfl,rfl⟩
   ·rw[key_rl] at h;exact SeqAt.EqAt.str_int x t j u _ _ _ _ h
   ·rw[key_rr] at h;exact wpAny_eqBool_str h
 «strs»:=fun k x t v h=>by
  rcases keyIs_shape h with ⟨i,u,rfl,e⟩ | ⟨y,u,rfl,e⟩
  ·exact nomatch e
  ·injection e with e1 _
   subst e1
   cases v<;>rfl
end L2
namespace L2
open PySem PySem.Spec PyProof.Rows
inductive V where
 | non | bl (b:Bool) | int (i:Int) | str (x:Str) | byt (b:Array UInt8) | flt (b:UInt64) | ref (a:Addr) | ty (n:String)
 deriving DecidableEq
def RelV:V→Value→Prop
 | .non,u=>u=Value.none
 | .bl b,u=>u=Value.bool b
 | .int i,u=>∃ t,u=Value.int i t
 | .str x,u=>∃ t,u=Value.str x t
 | .byt b,u=>∃ t,u=Value.bytes b t
 | .flt b,u=>∃ t,u=Value.float b t
 | .ref a,u=>u=Value.ref a
 | .ty n,u=>u=Value.type n
abbrev Vals:List V→List Value→Prop:=Paired RelV
theorem Vals.length{xs:List V}{us:List Value}(r:Vals xs us):xs.length=us.length:=Paired.length r
theorem Vals.get:∀{xs:List V}{us:List Value}{i:Nat}{x:V},Vals xs us→xs[i]?=some x→∃ u,us[i]?=some u∧RelV x u
 | _,_,_,_,.nil,e=>by simp at e
 | _,_,0,_,.cons r _,e=>by simp at e;subst e;exact⟨_,rfl,r⟩
 | _,_,i+1,x,.cons _ t,e=>by
  obtain⟨u,h1,h2⟩:=Vals.get (i:=i) (x:=x) t (by simpa using e)
  exact⟨u,by simpa using h1,h2⟩
theorem Vals.set{x:V}{u:Value}(r:RelV x u):∀{xs:List V}{us:List Value}(i:Nat),Vals xs us→Vals (xs.set i x) (us.set i u)
 | _,_,_,.nil=>.nil
 | _,_,0,.cons _ t=>.cons r t
 | _,_,i+1,.cons q t=>.cons q (Vals.set r i t)
theorem Vals.append:∀{xs ys:List V}{us ws:List Value},Vals xs us→Vals ys ws→Vals (xs++ys) (us++ws)
 | _,_,_,_,.nil,s=>s
 | _,_,_,_,.cons r t,s=>.cons r (Vals.append t s)
theorem Vals.take:∀{xs:List V}{us:List Value}(n:Nat),Vals xs us→Vals (xs.take n) (us.take n)
 | _,_,0,_=>.nil
 | _,_,_+1,.nil=>.nil
 | _,_,n+1,.cons r t=>.cons r (Vals.take n t)
theorem Vals.drop:∀{xs:List V}{us:List Value}(n:Nat),Vals xs us→Vals (xs.drop n) (us.drop n)
 | _,_,0,r=>r
 | _,_,_+1,.nil=>.nil
 | _,_,n+1,.cons _ t=>Vals.drop n t
def RelO:Option V→Option Value→Prop
 | some v,some u=>RelV v u
 | none,none=>True
 | _,_=>False
def KV{κ:Type}:List (κ×V)→List (κ×Value)→Prop:=Paired fun (p:κ×V) (q:κ×Value)=>p.1=q.1∧RelV p.2 q.2
def kV:Key→V
 | .inl i=>.int i
 | .inr x=>.str x
inductive HO where
 | lst (xs:List V)
 | tup (xs:List V)
 | dK (kvs:List (Key×V)) | dT (kvs:List (List Key×V))
 | set (S:Int→Bool) (n:Nat)
 | ins (C dx:Addr) (fs:List (Str×V))
 | own (x:Addr)
 | xd (fs:List (Str×V))
 | met (f x:Addr)
 | rng (lo hi:Int)
 | frz (o:Obj) (u:HO)
 | tbl (ps:Array Value)
 | ext (φ:Heap→Prop)
abbrev Hp:=Addr→Option HO
def upd(H:Hp)(a:Addr)(o:HO):Hp:=fun b=>if b=a then some o else H b
theorem upd_same{H:Hp}{a:Addr}{o:HO}:upd H a o a=some o:=by unfold upd;rw[if_pos rfl]
theorem upd_ne{H:Hp}{a b:Addr}{o:HO}(h:b≠a):upd H a o b=H b:=by unfold upd;rw[if_neg h]
theorem upd_upd{H:Hp}{a:Addr}{o u:HO}:upd (upd H a o) a u=upd H a u:=by
 funext b;unfold upd;split<;>rfl
theorem ne_of{H:Hp}{a b:Addr}{o u:HO}(h:H a=some o)(h':H b=some u)(d:o≠u):a≠b:=by
 intro e;subst e;rw[h] at h';exact d (Option.some.inj h')
theorem ne_of_none{H:Hp}{a b:Addr}{o:HO}(h:H a=some o)(h':H b=none):a≠b:=by
 intro e;subst e;rw[h] at h';cases h'
section
variable (P:Program)(w:World)
def ObjOk(H:Hp)(h:Heap)(a:Addr):HO→Prop
 | .lst xs=>xs.length≤sizeLine∧∃(its:List Value)(n:Nat),Vals xs its∧h.get? a=some { cls:=.type "list", data:=.seq its.toArray n }
 | .tup xs=>xs.length≤sizeLine∧∃ its:List Value,Vals xs its∧IsTup h a its.toArray
 | .dK kvs=>kvs.length≤sizeLine∧(a == sysModules)=false∧∃ vs,KV kvs vs∧h.DictOf (mixKind P w) a vs
 | .dT kvs=>kvs.length≤sizeLine∧(a == sysModules)=false∧∃ xs:List (List Key×Addr×Value),
   Paired (fun (p:List Key×V) (q:List Key×Addr×Value)=>p.1=q.1∧H q.2.1=some (.tup (p.1.map kV))∧RelV p.2 q.2.2) kvs xs ∧
   ∃ o es ep,h.get? a=some o∧o.ExactDict∧o.data=.dict es ep∧es.toList=xs.map (entryOfKey (tupleKind (mixKind P w)))∧(xs.map (·.1)).Nodup
 | .set S n=>h.SetOf (intKind P w) a S n
 | .ins C dx fs=>H dx=some (.own a)∧fs.length≤1000∧dx≠a∧h.get? a=some (PySem.W.instObj C dx) ∧
   ∃ mA,h.Ns1 dx mA∧(∀ f,RelO (fs.lookup f) (mA f))∧PySem.Within mA (fs.map (·.1))
 | .own _=>∃ o,h.get? a=some o
 | .xd fs=>∃ mA,h.Ns1 a mA∧∀ f,RelO (fs.lookup f) (mA f)
 | .rng lo hi=>∃ t u v,h.get? a=some { cls:=.type "range", data:=.fields #[.int lo t,.int hi u,.int 1 v] }
 | .frz o u=>h.get? a=some o∧ObjOk H h a u
 | .tbl ps=>h.get? a=some { cls:=.none,data:=.fields ps }
 | .met f x=>h.get? a=some (PySem.W.methodObj (.ref f) (.ref x))
 | .ext φ=>φ h∧(∃ o,h.get? a=some o)∧∀ h1 h2:Heap,φ h1→(∀ o,h1.get? a=some o→h2.get? a=some o)→φ h2
def HOk(H:Hp)(h:Heap):Prop:=∀ a o,H a=some o→ObjOk P w H h a o
end
section
variable {P:Program}{w:World}{H H':Hp}{h h':Heap}{a:Addr}{o:HO}
theorem ObjOk.lt(x:ObjOk P w H h a o):a < h.objs.size:=by
 cases o with
 | lst xs=>obtain⟨_,_,_,_,e⟩:=x;exact Heap.lt_size e
 | tup xs=>obtain⟨_,_,_,p⟩:=x;exact p.lt
 | dK kvs=>obtain⟨_,_,_,_,o,_,_,e,_⟩:=x;exact Heap.lt_size e
 | dT kvs=>obtain⟨_,_,_,_,o,_,_,e,_⟩:=x;exact Heap.lt_size e
 | set S n=>obtain⟨o,_,_,_,e,_⟩:=x;exact Heap.lt_size e
 | ins C dx fs=>obtain⟨_,_,_,e,_⟩:=x;exact Heap.lt_size e
 | own y=>obtain⟨_,e⟩:=x;exact Heap.lt_size e
 | xd fs=>obtain⟨_,⟨_,_,_,e,_⟩,_⟩:=x;exact Heap.lt_size e
 | rng lo hi=>obtain⟨_,_,_,e⟩:=x;exact Heap.lt_size e
 | frz ob u=>obtain⟨e,_⟩:=x;exact Heap.lt_size e
 | tbl ps=>exact Heap.lt_size (show h.get? a=some _ from x)
 | met f y=>exact Heap.lt_size (show h.get? a=some _ from x)
 | ext φ=>obtain⟨_,⟨_,e⟩,_⟩:=x;exact Heap.lt_size e
theorem Paired.mapP{α β:Type}{F G:α→β→Prop}:∀{l₁:List α}{l₂:List β},Paired F l₁ l₂→(∀ a b,F a b→G a b)→Paired G l₁ l₂
 | _,_,.nil,_=>.nil
 | _,_,.cons r t,f=>.cons (f _ _ r) (Paired.mapP t f)
theorem ObjOk.stay(x:ObjOk P w H h a o)(k:∀ b u,(b=a∨H b=some (.own a))→h.get? b=some u→h'.get? b=some u)
  (ho:∀ b,H b=some (.own a)→H' b=some (.own a)) (ht:∀ b xs,H b=some (.tup xs)→H' b=some (.tup xs)):ObjOk P w H' h' a o:=by
 induction o with
 | lst xs=>obtain⟨z,its,n,r,e⟩:=x;exact⟨z,its,n,r,k _ _ (.inl rfl) e⟩
 | tup xs=>obtain⟨z,its,r,ob,e,c⟩:=x;exact⟨z,its,r,ob,k _ _ (.inl rfl) e,c⟩
 | dK kvs=>obtain⟨z,y,vs,r,ob,es,ep,e,c⟩:=x;exact⟨z,y,vs,r,ob,es,ep,k _ _ (.inl rfl) e,c⟩
 | dT kvs =>
  obtain⟨z,y,xs,r,ob,es,ep,e,c⟩:=x
  exact⟨z,y,xs,Paired.mapP r fun p q z=>⟨z.1,ht _ _ z.2.1,z.2.2⟩,ob,es,ep,k _ _ (.inl rfl) e,c⟩
 | set S n=>obtain⟨ob,es,ep,t,e,c⟩:=x;exact⟨ob,es,ep,t,k _ _ (.inl rfl) e,c⟩
 | ins C dx fs =>
  obtain⟨d,z,ne,e,mA,⟨od,es,ep,e2,c⟩,r⟩:=x
  exact⟨ho _ d,z,ne,k _ _ (.inl rfl) e,mA,⟨od,es,ep,k _ _ (.inr d) e2,c⟩,r⟩
 | own y=>obtain⟨ob,e⟩:=x;exact⟨ob,k _ _ (.inl rfl) e⟩
 | xd fs=>obtain⟨mA,⟨od,es,ep,e,c⟩,r⟩:=x;exact⟨mA,⟨od,es,ep,k _ _ (.inl rfl) e,c⟩,r⟩
 | rng lo hi=>obtain⟨t,u,v,e⟩:=x;exact⟨t,u,v,k _ _ (.inl rfl) e⟩
 | frz ob u ih=>obtain⟨e,q⟩:=x;exact⟨k _ _ (.inl rfl) e,ih q⟩
 | tbl ps =>
  have e:h.get? a=some { cls:=.none,data:=.fields ps }:=x
  show h'.get? a=some { cls:=.none,data:=.fields ps }
  exact k a _ (.inl rfl) e
 | met f y =>
  have e:h.get? a=some (PySem.W.methodObj (.ref f) (.ref y)):=x
  show h'.get? a=some (PySem.W.methodObj (.ref f) (.ref y))
  exact k a _ (.inl rfl) e
 | ext φ=>obtain⟨p,⟨o,e⟩,st⟩:=x;exact⟨st _ _ p fun o q=>k _ _ (.inl rfl) q,⟨o,k _ _ (.inl rfl) e⟩,st⟩
theorem HOk.lt(x:HOk P w H h)(e:H a=some o):a < h.objs.size:=(x a o e).lt
theorem HOk.fresh(x:HOk P w H h)(e:h.objs.size≤a):H a=none:=by
 cases q:H a with
 | none=>rfl
 | some u=>exact absurd (Nat.lt_of_lt_of_le (x.lt q) e) (Nat.lt_irrefl _)
theorem HOk.kept(x:HOk P w H h)(k:∀ b u,h.get? b=some u→h'.get? b=some u):HOk P w H h':=fun a o e =>
 (x a o e).stay (fun b u _ q=>k b u q) (fun _ q=>q) fun _ _ q=>q
theorem HOk.laid(x:HOk P w H h)(k:∀ b u,h.get? b=some u→h'.get? b=some u)(hp:h.objs.size≤a)(new:ObjOk P w (upd H a o) h' a o):HOk P w (upd H a o) h':=fun b u e=>by
 have hn:=x.fresh hp
 by_cases hb:b=a
 ·subst hb;rw[upd_same] at e;cases e;exact new
 ·rw[upd_ne hb] at e
  exact (x b u e).stay (fun c v _ q=>k c v q) (fun c q=>by rw[upd_ne (ne_of_none q hn)];exact q) fun c xs q=>by rw[upd_ne (ne_of_none q hn)];exact q
end
def Rd(H:Hp)(a:Addr)(u:HO):Prop:=H a=some u∨∃ o,H a=some (.frz o u)
theorem Rd.ok{P:Program}{w:World}{H:Hp}{h:Heap}{a:Addr}{u:HO}(r:Rd H a u)(x:HOk P w H h):ObjOk P w H h a u:=by
 rcases r with r | ⟨o,r⟩
 ·exact x a u r
 ·obtain⟨_,q⟩:=x a _ r
  exact q
def Mut:Option HO→Prop
 | some (.lst _)=>True
 | some (.dK _)=>True
 | some (.dT _)=>True
 | some (.set _ _)=>True
 | some (.ins _ _ _)=>True
 | some (.ext _)=>True
 | _=>False
section
variable {P:Program}{w:World}{H:Hp}{h h':Heap}{x e:Addr}{o':HO}
theorem HOk.write(ok:HOk P w H h)(mu:Mut (H x))(he:e=x∨H e=some (.own x))(k:∀ b u,b≠e→h.get? b=some u→h'.get? b=some u)(heo:∃ u,h'.get? e=some u)
  (new:ObjOk P w (upd H x o') h' x o'):HOk P w (upd H x o') h':=fun b u q=>by
 have nown:∀ c y,H c=some (.own y)→c≠x:=fun c y r z=>by subst z;rw[r] at mu;exact mu
 have ntup:∀ c xs,H c=some (.tup xs)→c≠x:=fun c xs r z=>by subst z;rw[r] at mu;exact mu
 by_cases hb:b=x
 ·subst hb;rw[upd_same] at q;cases q;exact new
 ·rw[upd_ne hb] at q
  by_cases hbe:b=e
  ·have q':H b=some (.own x):=by
    rcases he with z | z
    ·exact absurd (hbe.trans z) hb
    ·rw[hbe];exact z
   rw[q] at q';cases q'
   obtain⟨v,hv⟩:=heo
   exact⟨v,by rw[hbe];exact hv⟩
  ·refine (ok b u q).stay (fun c v hc r=>k c v ?_ r) (fun c r=>by rw[upd_ne (nown c b r)];exact r) fun c xs r=>by rw[upd_ne (ntup c xs r)];exact r
   rcases hc with rfl | hc
   ·exact hbe
   ·rintro rfl
    rcases he with z | z
    ·exact nown c b hc z
    ·rw[hc] at z;cases z;exact hb rfl
end
structure Un(fs ex:List Addr)(H H':Hp)(h h':Heap):Prop where
 keep:∀ b o,h.get? b=some o→H b=none→b∉fs→b∉ex→h'.get? b=some o
 slot:∀ b o,h.get? b=some o→H b=none→b∈fs→b∉ex→∃ sl,h'.get? b=some { o with slots:=sl }
 free:∀ b o,h.get? b=some o→H b=none→b∉ex→H' b=none
 there:∀ b o,h.get? b=some o→b∉ex→∃ o',h'.get? b=some o'
 tups:∀ b xs,H b=some (.tup xs)→H' b=some (.tup xs)
 frzs:∀ b o u,H b=some (.frz o u)→H' b=some (.frz o u)
 tbls:∀ b ps,H b=some (.tbl ps)→∃ more,H' b=some (.tbl (ps++more))
section
variable {fs fs' ex ex':List Addr}{H H1 H2:Hp}{h h1 h2 h':Heap}{a x e:Addr}{o:HO}
theorem Un.any(u:Un fs ex H H1 h h1){b:Addr}{ob:Obj}(q:h.get? b=some ob)(n:H b=none)(hx:b∉ex):∃ sl,h1.get? b=some { ob with slots:=sl }:=by
 by_cases hb:b∈fs
 ·exact u.slot b ob q n hb hx
 ·exact⟨ob.slots,u.keep b ob q n hb hx⟩
theorem Un.kept(k:∀ b u,h.get? b=some u→h'.get? b=some u):Un fs ex H H h h' :=
 ⟨fun b ob q _ _ _=>k b ob q,fun b ob q _ _ _=>⟨ob.slots,k b ob q⟩,fun _ _ _ n _=>n,fun b ob q _=>⟨ob,k b ob q⟩,fun _ _ q=>q,fun _ _ _ q=>q,fun _ ps q=>⟨#[],by rw[q];simp⟩⟩
theorem Un.refl:Un fs ex H H h h:=Un.kept fun _ _ q=>q
theorem Un.laid(k:∀ b u,h.get? b=some u→h'.get? b=some u)(hp:h.objs.size≤a)(hn:H a=none):Un fs ex H (upd H a o) h h' where
 keep:=fun b u q _ _ _=>k b u q
 slot:=fun b u q _ _ _=>⟨u.slots,k b u q⟩
 free:=fun b u q n _=>by rw[upd_ne (Nat.ne_of_lt (Nat.lt_of_lt_of_le (Heap.lt_size q) hp))];exact n
 there:=fun b u q _=>⟨u,k b u q⟩
 tups:=fun b xs q=>by rw[upd_ne (ne_of_none q hn)];exact q
 frzs:=fun b u xs q=>by rw[upd_ne (ne_of_none q hn)];exact q
 tbls:=fun b ps q=>⟨#[],by rw[upd_ne (ne_of_none q hn),q];simp⟩
theorem Un.write(mu:Mut (H x))(he:e=x∨H e=some (.own x))(k:∀ b u,b≠e→h.get? b=some u→h'.get? b=some u)(heo:∃ u,h'.get? e=some u):Un fs ex H (upd H x o) h h':=by
 have hx:∀ b,H b=none→b≠x:=fun b n z=>by subst z;rw[n] at mu;exact mu
 have hb:∀ b,H b=none→b≠e:=fun b n z=>by
  subst z
  rcases he with r | r
  ·exact hx b n r
  ·rw[n] at r;cases r
 have hm:∀ b u,H b=some u→¬ Mut (some u)→b≠x:=fun b u q nm z=>by subst z;rw[q] at mu;exact nm mu
 refine⟨fun b u q n _ _=>k b u (hb b n) q,fun b u q n _ _=>⟨u.slots,k b u (hb b n) q⟩,fun b u q n _=>by rw[upd_ne (hx b n)];exact n,fun b u q _=>?_,
  fun b xs q=>by rw[upd_ne (hm b _ q fun z=>z)];exact q,fun b u xs q=>by rw[upd_ne (hm b _ q fun z=>z)];exact q,fun b ps q=>⟨#[],by rw[upd_ne (hm b _ q fun z=>z),q];simp⟩⟩
 by_cases hbe:b=e
 ·subst hbe;exact heo
 ·exact⟨u,k b u hbe q⟩
end
def trk(h:Heap)(H:Hp):List Addr:=(List.range h.objs.size).filter fun a=>(H a).isSome
def hidT(h:Heap)(H:Hp):Heap:=PySem.W.hideAll h (trk h H)
theorem hidT_size(h:Heap)(H:Hp):(hidT h H).objs.size=h.objs.size:=PySem.W.hideAll_size _ _
theorem hidT_get{h:Heap}{H:Hp}{b:Addr}{o:Obj}(e:h.get? b=some o)(n:H b=none):(hidT h H).get? b=some o :=
 PySem.W.hideAll_get _ e fun hm=>by
  have q:(H b).isSome=true:=(List.mem_filter.mp hm).2
  rw[n] at q;simp at q
theorem of_hidT{h:Heap}{H:Hp}{b:Addr}{o:Obj}(e:(hidT h H).get? b=some o):h.get? b=some o∧H b=none:=by
 have e':h.get? b=some o:=PySem.W.of_hideAll (trk h H) e
 refine⟨e',?_⟩
 cases q:H b with
 | none=>rfl
 | some x =>
  have hm:b∈trk h H:=List.mem_filter.mpr ⟨List.mem_range.mpr (Heap.lt_size e'),by simp[q]⟩
  have z:(hidT h H).get? b=none:=PySem.W.hideAll_none (trk h H) hm
  rw[z] at e;cases e
def allNews(g h:Heap)(L:Addr):List (Addr×Obj):=(List.range h.objs.size).filterMap fun a=>if a=L∨(g.get? a).isSome=true then none else (h.get? a).map fun o=>(a,o)
def rest(g h:Heap)(L d:Addr):List (Addr×Obj):=(allNews g h L).filter fun p=>decide (p.1≠d)
end L2
namespace L2
open PySem PySem.Spec PyProof.Rows
structure Mod(K:PySem.W.Frag)(mg:Str→Option Value)(base:Heap):Prop where
 kin:K.In base
 glob:base.Ns mainGlobals mg
 blt:∃ mb,base.Ns builtinsNs mb∧∀ x:Str,x ≠ "__name__" → mb x=bootBuiltins x
 nolimit:base.NoLimit
structure Cx where
 prog:Program
 w:World
 K:PySem.W.Frag
 mg:Str→Option Value
 base:Heap
 A:Around
 N:List Str
 s₀:Shared
 H₀:Hp
 env:Env
 outer:List Env
 stack:List Env
 ex:List Addr
 fn:Str→Bool
 calm:Bool
 pn:List (Addr×Obj)
 xe:Value→Shared→Prop
def frs(l:List Env):List Addr:=l.filterMap (·.frame)
abbrev Cx.fs(X:Cx):List Addr:=frs X.outer
def Vis(sc:Scope)(x:Str):Prop:=sc.names.lookup x=some .local∨sc.names.lookup x=some .cell∨sc.names.lookup x=some .free
def Loc(sc:Scope)(x:Str):Prop:=sc.names.lookup x=some .local∨sc.names.lookup x=some .cell
def Look(env:Env)(h:Heap)(m:Str→Option Value)(x:Str)(u:Value):Prop :=
 (env.kindOf x=some .local∧m x=some u)∨((env.kindOf x=some .cell∨env.kindOf x=some .free)∧∃ c,env.cells.lookup x=some c∧h.IsCell c (some u))
structure Cx.Ok(X:Cx):Prop where
 mod:Mod X.K X.mg X.base
 kind:X.env.scope.kind=.function
 glob:X.env.globals=mainGlobals
 blt:X.env.builtins=builtinsNs
 above:X.s₀.heap.objs.size≤X.env.locals
 inj:∀ x y c,X.env.cells.lookup x=some c→X.env.cells.lookup y=some c→x=y
 has:∀ x,(X.env.kindOf x=some .cell∨X.env.kindOf x=some .free)→∃ c,X.env.cells.lookup x=some c
 cab:∀ x c,X.fn x=true→X.env.cells.lookup x=some c→X.s₀.heap.objs.size≤c
 hd:X.calm=true→X.A.handled=none
 frames:X.A.frames=some X.stack
 stk:X.stack=X.outer∨(X.stack=X.env::X.outer∧X.env.frame=some X.env.locals)
 exf:∀ b∈X.ex,b≠X.env.locals∧∀ x c,X.env.cells.lookup x=some c→c≠b
 bs:∀ b o,X.base.get? b=some o→X.s₀.heap.get? b=some o∧X.H₀ b=none
 bsz:X.base.objs.size≤X.s₀.heap.objs.size
 noex:∀ b o,X.base.get? b=some o→b∉X.ex
 exfs:∀ b∈X.ex,b∉X.fs
 funs:X.s₀.heap.FunFrames X.base X.outer
 frf:∀ b∈X.fs,X.H₀ b=none
structure Inv(X:Cx)(pins:List (Addr×Obj))(σ:List (Option V))(H:Hp)(s:Shared):Prop where
 ok:X.Ok
 os:s.os=X.s₀.os
 bare:AllBare s.gens
 base:Un X.fs X.ex X.H₀ H X.s₀.heap s.heap
 loc:∃ m,s.heap.Ns X.env.locals m∧∀(i:Nat)(x:Str)(v:V),X.N[i]?=some x→σ[i]?=some (some v)→Vis X.env.scope x→∃ u,RelV v u∧Look X.env s.heap m x u
 cell:∀ x c,X.env.cells.lookup x=some c→∃ v,s.heap.IsCell c v
 free:H X.env.locals=none
 freeC:∀ x c,X.env.cells.lookup x=some c→H c=none
 pin:∀ p∈X.pn++pins,s.heap.get? p.1=some p.2∧H p.1=none∧p.1≠X.env.locals∧p.1∉X.fs∧∀ v,p.2.data≠.cell v
 hok:HOk X.prog X.w H s.heap
 len:σ.length=X.N.length
section
variable {X:Cx}{pins:List (Addr×Obj)}{σ:List (Option V)}{H H':Hp}{s:Shared}{h':Heap}
theorem Cx.Ok.nofr(ok:X.Ok){b:Addr}{o:Obj}(e:X.base.get? b=some o):b∉X.fs:=fun hb=>by
 have:=(ok.funs.mem hb).1
 rw[e] at this;cases this
theorem Inv.bs(I:Inv X pins σ H s):∀ b o,X.base.get? b=some o→s.heap.get? b=some o∧H b=none:=fun b o e =>
 ⟨I.base.keep b o (I.ok.bs b o e).1 (I.ok.bs b o e).2 (I.ok.nofr e) (I.ok.noex b o e),I.base.free b o (I.ok.bs b o e).1 (I.ok.bs b o e).2 (I.ok.noex b o e)⟩
theorem Inv.bk(I:Inv X pins σ H s):∀ b o,X.base.get? b=some o→s.heap.get? b=some o:=fun b o e=>(I.bs b o e).1
theorem Inv.mod(I:Inv X pins σ H s):Mod X.K X.mg X.base:=I.ok.mod
theorem Inv.kIn(I:Inv X pins σ H s):X.K.In s.heap:=I.ok.mod.kin.keeps I.bk
theorem Inv.lt(I:Inv X pins σ H s):X.env.locals < s.heap.objs.size:=let ⟨_,hn,_⟩:=I.loc;hn.lt
theorem Inv.sz(I:Inv X pins σ H s):X.s₀.heap.objs.size≤s.heap.objs.size:=Nat.le_trans I.ok.above (Nat.le_of_lt I.lt)
theorem Inv.nofs(I:Inv X pins σ H s){a:Addr}(h:s.heap.objs.size≤a):a∉X.fs:=fun hb=>by
 obtain⟨_,o,ho,_⟩:=I.ok.funs.mem hb
 exact absurd (Nat.lt_of_lt_of_le (Heap.lt_size ho) (Nat.le_trans I.sz h)) (Nat.lt_irrefl _)
theorem Inv.cne(I:Inv X pins σ H s):∀ x c,X.env.cells.lookup x=some c→c≠X.env.locals:=fun x c e z=>by
 obtain⟨v,o,ho,hd⟩:=I.cell x c e
 obtain⟨m,⟨o',es,ep,ho',hd',_⟩,_⟩:=I.loc
 rw[z,ho'] at ho;cases ho;rw[hd'] at hd;cases hd
theorem Inv.funs(I:Inv X pins σ H s):s.heap.FunFrames X.base X.outer:=by
 have all:∀(l:List Env),(∀ b∈frs l,b∈X.fs)→X.s₀.heap.FunFrames X.base l→s.heap.FunFrames X.base l:=by
  intro l
  induction l with
  | nil=>intro _ _;trivial
  | cons env r ih =>
   intro hs hl
   obtain⟨hk,⟨L,o,hf,hn,ho,hd⟩,hr⟩:=hl
   have hL:L∈X.fs:=hs L (by unfold frs;rw[List.filterMap_cons,hf];exact List.mem_cons_self)
   obtain⟨sl,e⟩:=I.base.slot L o ho (I.ok.frf L hL) hL fun z=>I.ok.exfs L z hL
   exact⟨hk,⟨L,_,hf,hn,e,hd⟩,ih (fun b hb=>hs b (by unfold frs;rw[List.filterMap_cons,hf];exact List.mem_cons_of_mem _ hb)) hr⟩
 exact all X.outer (fun _ hb=>hb) I.ok.funs
theorem Inv.stack(I:Inv X pins σ H s):s.heap.FunFrames X.base X.stack:=by
 rcases I.ok.stk with e | ⟨e,hf⟩
 ·rw[e];exact I.funs
 ·rw[e]
  obtain⟨m,hn,_⟩:=I.loc
  refine .cons (by rw[I.ok.kind];decide) hf hn ?_ I.funs
  exact Heap.get?_none_of_le (Nat.le_trans I.ok.bsz I.ok.above)
theorem Inv.stkSub(I:Inv X pins σ H s):∀ b∈frs X.stack,b∈X.env.locals::X.fs:=fun b hb=>by
 rcases I.ok.stk with e | ⟨e,hf⟩
 ·rw[e] at hb;exact List.mem_cons_of_mem _ hb
 ·rw[e] at hb
  unfold frs at hb
  rw[List.filterMap_cons,hf] at hb
  exact hb
theorem Inv.stkFree(I:Inv X pins σ H s):∀ b∈frs X.stack,H b=none:=fun b hb=>by
 rcases List.mem_cons.mp (I.stkSub b hb) with e | hb
 ·rw[e];exact I.free
 ·obtain⟨_,o,ho,_⟩:=I.ok.funs.mem hb
  exact I.base.free b o ho (I.ok.frf b hb) fun z=>I.ok.exfs b z hb
theorem Inv.step{g':Array GenState}{t':Nat}{d':Drawn}{ch:List Addr}(I:Inv X pins σ H s)
  (hch:∀ b∈ch,(b∈X.ex∨X.s₀.heap.objs.size≤b)∧b≠X.env.locals∧(∀ x c,X.env.cells.lookup x=some c→c≠b)∧∀ p∈X.pn++pins,p.1≠b)
  (keep:∀ b o,b≠X.env.locals→b∉X.fs→b∉ch→s.heap.get? b=some o→H b=none→h'.get? b=some o)
  (slot:∀ b o,b≠X.env.locals→b∈X.fs→b∉ch→s.heap.get? b=some o→H b=none→∃ sl,h'.get? b=some { o with slots:=sl }) (free:∀ b o,b∉ch→s.heap.get? b=some o→H b=none→H' b=none)
  (there:∀ b o,b∉ch→s.heap.get? b=some o→∃ o',h'.get? b=some o')
  (tups:∀ b xs,H b=some (.tup xs)→H' b=some (.tup xs)) (frzs:∀ b o u,H b=some (.frz o u)→H' b=some (.frz o u)) (tbls:∀ b ps,H b=some (.tbl ps)→∃ more,H' b=some (.tbl (ps++more)))
  (ns:∀ m,s.heap.Ns X.env.locals m→h'.Ns X.env.locals m) (hok:HOk X.prog X.w H' h') (hg:AllBare g') :
  Inv X pins σ H' { s with heap:=h',gens:=g',drawn:=d',toks:=t' }:=by
 have neL:∀ b o,X.s₀.heap.get? b=some o→b≠X.env.locals:=fun b o e=>Nat.ne_of_lt (Nat.lt_of_lt_of_le (Heap.lt_size e) I.ok.above)
 have neC:∀ b o,X.s₀.heap.get? b=some o→b∉X.ex→b∉ch:=fun b o e hx hb=>by
  rcases (hch b hb).1 with z | z
  ·exact hx z
  ·exact absurd (Nat.lt_of_lt_of_le (Heap.lt_size e) z) (Nat.lt_irrefl _)
 have cellK:∀ x c,X.env.cells.lookup x=some c→∀ v,s.heap.IsCell c v→h'.IsCell c v:=fun x c e v ⟨o,ho,hd⟩=>by
  have nch:c∉ch:=fun z=>(hch c z).2.2.1 x c e rfl
  by_cases hc:c∈X.fs
  ·obtain⟨sl,q⟩:=slot c o (I.cne x c e) hc nch ho (I.freeC x c e)
   exact⟨_,q,hd⟩
  ·exact⟨o,keep c o (I.cne x c e) hc nch ho (I.freeC x c e),hd⟩
 refine⟨I.ok,I.os,hg,⟨fun b o e n hb hx=>?_,fun b o e n hb hx=>?_,fun b o e n hx=>?_,fun b o e hx=>?_,fun b xs e=>tups b xs (I.base.tups b xs e),fun b o xs e=>frzs b o xs (I.base.frzs b o xs e),fun b ps e=>?_⟩,?_,fun x c e=>?_,?_,fun x c e=>?_,fun p hp=>?_,hok,I.len⟩
 ·exact keep b o (neL b o e) hb (neC b o e hx) (I.base.keep b o e n hb hx) (I.base.free b o e n hx)
 ·obtain⟨sl,e1⟩:=I.base.slot b o e n hb hx
  obtain⟨sl',e2⟩:=slot b _ (neL b o e) hb (neC b o e hx) e1 (I.base.free b o e n hx)
  exact⟨sl',e2⟩
 ·obtain⟨o',e1⟩:=I.base.there b o e hx
  exact free b o' (neC b o e hx) e1 (I.base.free b o e n hx)
 ·obtain⟨o',e1⟩:=I.base.there b o e hx
  exact there b o' (neC b o e hx) e1
 ·obtain⟨m1,e1⟩:=I.base.tbls b ps e
  obtain⟨m2,e2⟩:=tbls b _ e1
  exact⟨m1++m2,by rw[e2,Array.append_assoc]⟩
 ·obtain⟨m,hn,hl⟩:=I.loc
  refine⟨m,ns m hn,fun i x v e1 e2 e3=>?_⟩
  obtain⟨u,r,l⟩:=hl i x v e1 e2 e3
  refine⟨u,r,?_⟩
  rcases l with l | ⟨k,c,e,z⟩
  ·exact .inl l
  ·exact .inr ⟨k,c,e,cellK x c e _ z⟩
 ·obtain⟨v,z⟩:=I.cell x c e
  exact⟨v,cellK x c e v z⟩
 ·obtain⟨m,⟨o,_,_,ho,_⟩,_⟩:=I.loc
  exact free _ o (fun z=>(hch _ z).2.1 rfl) ho I.free
 ·obtain⟨v,o,ho,hd⟩:=I.cell x c e
  exact free c o (fun z=>(hch c z).2.2.1 x c e rfl) ho (I.freeC x c e)
 ·obtain⟨e,n,ne,nf,d⟩:=I.pin p hp
  have nch:p.1∉ch:=fun z=>(hch p.1 z).2.2.2 p hp rfl
  exact⟨keep p.1 p.2 ne nf nch e n,free p.1 p.2 nch e n,ne,nf,d⟩
theorem Inv.un{t':Nat}(I:Inv X pins σ H s)(u:Un X.fs [] H H' s.heap h')(hok:HOk X.prog X.w H' h'):Inv X pins σ H' { s with heap:=h',toks:=t' }:=by
 obtain⟨m,⟨o,es,ep,ho,r⟩,_⟩:=id I.loc
 obtain⟨sl,hL⟩:=u.any ho I.free (by simp)
 exact I.step (g':=s.gens) (d':=s.drawn) (ch:=[]) (fun _ z=>nomatch z) (fun b o _ hb _ e n=>u.keep b o e n hb (by simp)) (fun b o _ hb _ e n=>u.slot b o e n hb (by simp)) (fun b o _ e n=>u.free b o e n (by simp)) (fun b o _ e=>u.there b o e (by simp)) u.tups u.frzs u.tbls (fun m' hm=>by
  obtain⟨o',es',ep',ho',r'⟩:=hm
  rw[ho] at ho';cases ho'
  exact⟨_,es',ep',hL,r'⟩) hok I.bare
theorem Inv.call{g':Array GenState}{t':Nat}{d':Drawn}{ch:List Addr}(I:Inv X pins σ H s)(u:Un (frs X.stack) ch H H' s.heap h')(hok:HOk X.prog X.w H' h')(hg:AllBare g')
  (hch:∀ b∈ch,(b∈X.ex∨X.s₀.heap.objs.size≤b)∧b≠X.env.locals∧(∀ x c,X.env.cells.lookup x=some c→c≠b)∧∀ p∈X.pn++pins,p.1≠b) :
  Inv X pins σ H' { s with heap:=h',gens:=g',drawn:=d',toks:=t' }:=by
 obtain⟨m,⟨o,es,ep,ho,r⟩,_⟩:=id I.loc
 obtain⟨sl,hL⟩:=u.any ho I.free fun z=>(hch _ z).2.1 rfl
 exact I.step (ch:=ch) hch (fun b o hL hb hc e n=>u.keep b o e n (fun z=>(List.mem_cons.mp (I.stkSub b z)).elim hL hb) hc) (fun b o _ _ hc e n=>u.any e n hc) (fun b o hc e n=>u.free b o e n hc) (fun b o hc e=>u.there b o e hc) u.tups u.frzs u.tbls (fun m' hm=>by
  obtain⟨o',es',ep',ho',r'⟩:=hm
  rw[ho] at ho';cases ho'
  exact⟨_,es',ep',hL,r'⟩) hok hg
theorem Inv.turned{t':Nat}{it:Addr}(I:Inv X pins σ H s)(k:∀ b o,b≠it→s.heap.get? b=some o→h'.get? b=some o)(hn:H it=none)(hL:it≠X.env.locals)
  (h1:it∈X.ex∨X.s₀.heap.objs.size≤it) (h2:∀ x c,X.env.cells.lookup x=some c→c≠it) (h3:∀ p∈X.pn++pins,p.1≠it):Inv X pins σ H { s with heap:=h',toks:=t' }:=by
 have nit:∀ b u,H b=some u→b≠it:=fun b u e z=>by rw[z,hn] at e;cases e
 refine I.step (g':=s.gens) (d':=s.drawn) (ch:=[it]) (fun b hb=>?_) (fun b o _ _ hc e _=>k b o (fun z=>hc (by simp[z])) e) (fun b o _ _ hc e _=>⟨o.slots,k b o (fun z=>hc (by simp[z])) e⟩) (fun _ _ _ _ n=>n)
  (fun b o hc e=>⟨o,k b o (fun z=>hc (by simp[z])) e⟩) (fun _ _ e=>e) (fun _ _ _ e=>e) (fun b ps e=>⟨#[],by rw[e];simp⟩) (fun m hm=>?_) (fun b u e=>?_) I.bare
 ·have e:b=it:=by simpa using hb
  subst e
  exact⟨h1,hL,h2,h3⟩
 ·obtain⟨o,es,ep,ho,r⟩:=hm
  exact⟨o,es,ep,k _ o (Ne.symm hL) ho,r⟩
 ·refine (I.hok b u e).stay (fun c v hc q=>k c v ?_ q) (fun _ q=>q) fun _ _ q=>q
  rcases hc with z | z
  ·rw[z];exact nit b u e
  ·exact nit c _ z
theorem Inv.tok(I:Inv X pins σ H s)(t:Nat):Inv X pins σ H { s with toks:=t }:=I.un (h':=s.heap) (t':=t) Un.refl I.hok
theorem Inv.kept{t':Nat}(I:Inv X pins σ H s)(k:∀ b u,s.heap.get? b=some u→h'.get? b=some u):Inv X pins σ H { s with heap:=h',toks:=t' }:=I.un (Un.kept k) (I.hok.kept k)
theorem Inv.laid{a:Addr}{o:HO}{t':Nat}(I:Inv X pins σ H s)(k:∀ b u,s.heap.get? b=some u→h'.get? b=some u)(hp:s.heap.objs.size≤a)(new:ObjOk X.prog X.w (upd H a o) h' a o) :
  Inv X pins σ (upd H a o) { s with heap:=h',toks:=t' }:=I.un (Un.laid k hp (I.hok.fresh hp)) (I.hok.laid k hp new)
theorem Inv.write{x e:Addr}{o:HO}{t':Nat}(I:Inv X pins σ H s)(mu:Mut (H x))(he:e=x∨H e=some (.own x))(k:∀ b u,b≠e→s.heap.get? b=some u→h'.get? b=some u)(heo:∃ u,h'.get? e=some u)
  (new:ObjOk X.prog X.w (upd H x o) h' x o):Inv X pins σ (upd H x o) { s with heap:=h',toks:=t' }:=I.un (Un.write mu he k heo) (I.hok.write mu he k heo new)
theorem Inv.weak{σ':List (Option V)}(I:Inv X pins σ H s)(hl:σ'.length=σ.length)(w:∀(i:Nat) v,σ'[i]?=some (some v)→σ[i]?=some (some v)):Inv X pins σ' H s :=
 ⟨I.ok,I.os,I.bare,I.base,let ⟨m,hn,hl'⟩:=I.loc;⟨m,hn,fun i x v e1 e2 e3=>hl' i x v e1 (w i v e2) e3⟩,I.cell,I.free,I.freeC,I.pin,I.hok,hl.trans I.len⟩
theorem Inv.pins_of{pins':List (Addr×Obj)}(I:Inv X pins σ H s)(h:∀ p∈pins',s.heap.get? p.1=some p.2∧H p.1=none∧p.1≠X.env.locals∧p.1∉X.fs∧∀ v,p.2.data≠.cell v):Inv X pins' σ H s :=
 ⟨I.ok,I.os,I.bare,I.base,I.loc,I.cell,I.free,I.freeC,fun p hp=>(List.mem_append.mp hp).elim (fun z=>I.pin p (List.mem_append_left _ z)) (h p),I.hok,I.len⟩
theorem nodup_ix{N:List Str}(hN:N.Nodup){i j:Nat}{x:Str}(a:N[i]?=some x)(b:N[j]?=some x):i=j:=by
 obtain⟨h1,e1⟩:=List.getElem?_eq_some_iff.mp a
 obtain⟨h2,e2⟩:=List.getElem?_eq_some_iff.mp b
 exact (List.getElem_inj hN).mp (e1.trans e2.symm)
theorem store_ok2{M:Model}{A:Around}{E:Value→Shared→Prop}{i:Nat}{x:Str}{v:V}{u:Value}{Q:Unit→Shared→Prop}(I:Inv X pins σ H s)(hN:X.N.Nodup)(hi:X.N[i]?=some x)(hx:Loc X.env.scope x)(r:RelV v u)
  (h:∀ s',Inv X pins (σ.set i (some v)) H s'→(∃ a,Heap.SameBut a s.heap s'.heap∧(a=X.env.locals∨X.env.cells.lookup x=some a))→Q () s') (hf:X.fn x=true∨X.env.scope.names.lookup x=some .local:=by first | exact .inl rfl | exact .inr rfl | assumption):wpAny M A (storeName X.env x u) Q E s:=by
 obtain⟨m,hn,hl⟩:=id I.loc
 have hcls:(X.env.scope.kind == .class || (X.env.scope.kind == .module && X.env.locals != X.env.globals))=false:=by rw[I.ok.kind];rfl
 have hiσ:i < σ.length:=by rw[I.len];exact (List.getElem?_eq_some_iff.mp hi).1
 have cne:=I.cne
 have tracked:∀{a:Addr}{h':Heap},(∃ o,s.heap.get? a=some o∧H a=none)→Heap.SameBut a s.heap h'→HOk X.prog X.w H h':=fun {a h'} ha hs b ob e=>by
  obtain⟨_,_,hfree⟩:=ha
  refine (I.hok b ob e).stay (fun c w' hc q=>(hs.2 c ?_).trans q) (fun _ q=>q) fun _ _ q=>q
  rintro rfl
  rcases hc with rfl | hc
  ·rw[hfree] at e;cases e
  ·rw[hfree] at hc;cases hc
 rcases hx with hk | hk
 ·refine wpAny_storeName_local hk hn (fun h' hn' hs=>?_) hcls
  obtain⟨oL,_,_,hoL,_⟩:=id hn
  refine h _ ⟨I.ok,I.os,I.bare,⟨fun b o e n hb hx=>?_,fun b o e n hb hx=>?_,I.base.free,fun b o e hx=>?_,I.base.tups,I.base.frzs,I.base.tbls⟩,⟨_,hn',fun j y v' e1 e2 e3=>?_⟩,fun y c e=>?_,I.free,I.freeC,fun p hp=>?_,tracked ⟨oL,hoL,I.free⟩ hs,by simpa using I.len⟩ ⟨_,hs,.inl rfl⟩
  ·exact (hs.2 b (Nat.ne_of_lt (Nat.lt_of_lt_of_le (Heap.lt_size e) I.ok.above))).trans (I.base.keep b o e n hb hx)
  ·obtain⟨sl,e1⟩:=I.base.slot b o e n hb hx
   exact⟨sl,(hs.2 b (Nat.ne_of_lt (Nat.lt_of_lt_of_le (Heap.lt_size e) I.ok.above))).trans e1⟩
  ·obtain⟨o',e1⟩:=I.base.there b o e hx
   exact⟨o',(hs.2 b (Nat.ne_of_lt (Nat.lt_of_lt_of_le (Heap.lt_size e) I.ok.above))).trans e1⟩
  ·by_cases hj:j=i
   ·subst hj
    rw[hi] at e1;cases e1
    rw[List.getElem?_set_self hiσ] at e2
    cases e2
    exact⟨u,r,.inl ⟨hk,by simp⟩⟩
   ·rw[List.getElem?_set_ne (Ne.symm hj)] at e2
    obtain⟨u',r',q⟩:=hl j y v' e1 e2 e3
    refine⟨u',r',?_⟩
    rcases q with ⟨k,e⟩ | ⟨k,c,e,z⟩
    ·refine .inl ⟨k,?_⟩
     have:y≠x:=fun e=>hj (nodup_ix hN e1 (e▸hi))
     simp[this,e]
    ·exact .inr ⟨k,c,e,z.sameBut hs (cne y c e)⟩
  ·obtain⟨w',z⟩:=I.cell y c e
   exact⟨w',z.sameBut hs (cne y c e)⟩
  ·obtain⟨e,n,ne,nf,d⟩:=I.pin p hp
   exact⟨(hs.2 p.1 ne).trans e,n,ne,nf,d⟩
 ·have hfn:X.fn x=true:=by
   rcases hf with z | z
   ·exact z
   ·rw[z] at hk;cases hk
  obtain⟨c,hc⟩:=I.ok.has x (.inl hk)
  obtain⟨w',z⟩:=I.cell x c hc
  refine wpAny_storeName_cell I.ok.kind hk hc z (fun h' hc' hs=>?_)
  obtain⟨oc,hoc,hocd⟩:=id z
  refine h { s with heap:=h' } ⟨I.ok,I.os,I.bare,⟨fun b o e n hb hx=>?_,fun b o e n hb hx=>?_,I.base.free,fun b o e hx=>?_,I.base.tups,I.base.frzs,I.base.tbls⟩,⟨m,hn.sameBut hs (Ne.symm (cne x c hc)),fun j y v' e1 e2 e3=>?_⟩,fun y c' e=>?_,I.free,I.freeC,fun p hp=>?_,tracked ⟨oc,hoc,I.freeC x c hc⟩ hs,by simpa using I.len⟩ ⟨c,hs,.inr hc⟩
  ·exact (hs.2 b (Nat.ne_of_lt (Nat.lt_of_lt_of_le (Heap.lt_size e) (I.ok.cab x c hfn hc)))).trans (I.base.keep b o e n hb hx)
  ·obtain⟨sl,e1⟩:=I.base.slot b o e n hb hx
   exact⟨sl,(hs.2 b (Nat.ne_of_lt (Nat.lt_of_lt_of_le (Heap.lt_size e) (I.ok.cab x c hfn hc)))).trans e1⟩
  ·obtain⟨o',e1⟩:=I.base.there b o e hx
   exact⟨o',(hs.2 b (Nat.ne_of_lt (Nat.lt_of_lt_of_le (Heap.lt_size e) (I.ok.cab x c hfn hc)))).trans e1⟩
  ·by_cases hj:j=i
   ·subst hj
    rw[hi] at e1;cases e1
    rw[List.getElem?_set_self hiσ] at e2
    cases e2
    exact⟨u,r,.inr ⟨.inl hk,c,hc,hc'⟩⟩
   ·rw[List.getElem?_set_ne (Ne.symm hj)] at e2
    obtain⟨u',r',q⟩:=hl j y v' e1 e2 e3
    refine⟨u',r',?_⟩
    rcases q with q | ⟨k,c',e,z'⟩
    ·exact .inl q
    ·refine .inr ⟨k,c',e,z'.sameBut hs ?_⟩
     rintro rfl
     exact hj (nodup_ix hN e1 (I.ok.inj _ _ _ e hc▸hi))
  ·by_cases hcc:c'=c
   ·subst hcc;exact⟨_,hc'⟩
   ·obtain⟨w2,z2⟩:=I.cell y c' e
    exact⟨w2,z2.sameBut hs hcc⟩
  ·obtain⟨e,n,ne,nf,d⟩:=I.pin p hp
   refine⟨(hs.2 p.1 ?_).trans e,n,ne,nf,d⟩
   intro q
   rw[q,hoc] at e
   have q':oc=p.2:=Option.some.inj e
   exact d w' (by rw[← q'];exact hocd)
theorem store_ok{M:Model}{A:Around}{E:Value→Shared→Prop}{i:Nat}{x:Str}{v:V}{u:Value}{Q:Unit→Shared→Prop}(I:Inv X pins σ H s)(hN:X.N.Nodup)(hi:X.N[i]?=some x)(hx:Loc X.env.scope x)(r:RelV v u)
  (h:∀ s',Inv X pins (σ.set i (some v)) H s'→Q () s') (hf:X.fn x=true∨X.env.scope.names.lookup x=some .local:=by first | exact .inl rfl | exact .inr rfl | assumption):wpAny M A (storeName X.env x u) Q E s :=
 store_ok2 I hN hi hx r (fun s' I' _=>h s' I') hf
theorem Inv.call'{s':Shared}{ch:List Addr}(I:Inv X pins σ H s)(ho:s'.os=s.os)(u:Un (frs X.stack) ch H H' s.heap s'.heap)(hok:HOk X.prog X.w H' s'.heap)(hg:AllBare s'.gens)
  (hch:∀ b∈ch,(b∈X.ex∨X.s₀.heap.objs.size≤b)∧b≠X.env.locals∧(∀ x c,X.env.cells.lookup x=some c→c≠b)∧∀ p∈X.pn++pins,p.1≠b):Inv X pins σ H' s':=by
 obtain⟨h',g',d',t',o'⟩:=s'
 have e:o'=s.os:=ho
 subst e
 exact I.call (g':=g') (t':=t') (d':=d') u hok hg hch
end
abbrev XK:=Value→Option Addr→Hp→Prop
abbrev St:=List (Option V)
abbrev VK:=V→Hp→Prop
abbrev TE:=St→Hp→VK→Prop
abbrev TT:=St→Hp→(Bool→Hp→Prop)→Prop
abbrev TA:=St→Hp→(List V→Hp→Prop)→Prop
structure Ends where
 nx:St→Hp→Prop
 rt:VK
 bk:St→Hp→Prop:=fun _ _=>False
 ct:St→Hp→Prop:=fun _ _=>False
abbrev TS:=Ends→St→Hp→Prop
def EP(X:Cx)(pins:List (Addr×Obj))(σ:St)(Q:VK)(u:Value)(s':Shared):Prop:=∃ v H',Inv X pins σ H' s'∧RelV v u∧Q v H'
def TP(X:Cx)(pins:List (Addr×Obj))(σ:St)(Q:Bool→Hp→Prop)(b:Bool)(s':Shared):Prop:=∃ H',Inv X pins σ H' s'∧Q b H'
def AP(X:Cx)(pins:List (Addr×Obj))(σ:St)(Q:List V→Hp→Prop)(us:List Value)(s':Shared):Prop:=∃ vs H',Inv X pins σ H' s'∧Vals vs us∧Q vs H'
def SP(X:Cx)(pins:List (Addr×Obj))(D:Ends)(f:Flow)(s':Shared):Prop :=
 match f with
 | .next=>∃ σ' H',Inv X pins σ' H' s'∧D.nx σ' H'
 | .brk=>∃ σ' H',Inv X pins σ' H' s'∧D.bk σ' H'
 | .cont=>∃ σ' H',Inv X pins σ' H' s'∧D.ct σ' H'
 | .ret u=>∃ v σ' H',Inv X pins σ' H' s'∧RelV v u∧D.rt v H'
def PE(X:Cx)(e:Expr)(t:TE):Prop :=
 ∀ (pins:List (Addr×Obj)) (s:Shared) (σ:St) (H:Hp) (Q:VK),Inv X pins σ H s→t σ H Q→wpAny (model X.prog X.w) X.A (eval e X.env) (EP X pins σ Q) X.xe s
def PT(X:Cx)(e:Expr)(t:TT):Prop :=
 ∀ (pins:List (Addr×Obj)) (s:Shared) (σ:St) (H:Hp) (Q:Bool→Hp→Prop),Inv X pins σ H s→t σ H Q→wpAny (model X.prog X.w) X.A (isTrue e X.env (eval e X.env)) (TP X pins σ Q) X.xe s
def PW(X:Cx)(e:Expr)(t:TT):Prop :=
 ∀(whole:Sem Value) (pins:List (Addr×Obj)) (s:Shared) (σ:St) (H:Hp) (Q:Bool→Hp→Prop),Inv X pins σ H s→t σ H Q→wpAny (model X.prog X.w) X.A (isTrue e X.env whole) (TP X pins σ Q) X.xe s
theorem PW.pt{X:Cx}{e:Expr}{t:TT}(h:PW X e t):PT X e t:=h _
def PA(X:Cx)(es:List Expr)(t:TA):Prop :=
 ∀(pos:Pos) (pins:List (Addr×Obj)) (s:Shared) (σ:St) (H:Hp) (Q:List V→Hp→Prop),Inv X pins σ H s→t σ H Q→wpAny (model X.prog X.w) X.A (spliced (backTo pos (starEach es X.env))) (AP X pins σ Q) X.xe s
def PS(X:Cx)(st:Stmt)(t:TS):Prop :=
 ∀ (pins:List (Addr×Obj)) (s:Shared) (σ:St) (H:Hp) (D:Ends),Inv X pins σ H s→t D σ H→wpAny (model X.prog X.w) X.A (exec st X.env) (SP X pins D) X.xe s
def PSs(X:Cx)(st:List Stmt)(t:TS):Prop :=
 ∀ (pins:List (Addr×Obj)) (s:Shared) (σ:St) (H:Hp) (D:Ends),Inv X pins σ H s→t D σ H→wpAny (model X.prog X.w) X.A (execs st X.env) (SP X pins D) X.xe s
theorem thn{α:Type}{t:Sem α}{Q Q':α→Shared→Prop}{M:Model}{A:Around}{E:Value→Shared→Prop}{s:Shared}(h:wpAny M A t Q E s)(hQ:∀ a s,Q a s→Q' a s):wpAny M A t Q' E s:=wpAny_mono h hQ fun _ _ x=>x
end L2
namespace L2
open PySem PySem.Spec PyProof.Rows
section
variable {X:Cx}
def tVar(i:Nat):TE:=fun σ H Q=>∃ v,σ[i]?=some (some v)∧Q v H
def tC(v:V):TE:=fun _ H Q=>Q v H
theorem pe_var{i:Nat}{x:Str}{pos:Pos}(hN:X.N[i]?=some x)(hv:Vis X.env.scope x)(hd:(x == ("__debug__" : Str))=false:=by decide)(hcd:(x == ("__classdict__" : Str))=false:=by decide):PE X (.Name x pos) (tVar i):=by
 intro pins s σ H Q I h
 obtain⟨v,e,h⟩:=h
 obtain⟨m,hn,hl⟩:=I.loc
 obtain⟨u,r,l⟩:=hl i x v hN e hv
 have fin:EP X pins σ Q u s:=⟨v,H,I,r,h⟩
 rcases l with ⟨hk,hm⟩ | ⟨hk,c,hc,hcell⟩
 ·exact wpAny_Name (wpAny_loadName_local I.ok.kind hk hn hm fin) hd
 ·rcases hk with hk | hk
  ·exact wpAny_Name (wpAny_loadName_cell I.ok.kind hk hc hcell fin) hd
  ·exact wpAny_Name (wpAny_loadName_free I.ok.kind hk hc hcell fin hcd) hd
theorem pe_int{i j pos}:PE X (.Constant (.int i) j pos) (tC (.int i)):=fun _ _ _ H _ I h=>wpAny_Constant_int ⟨.int i,H,I.tok _,⟨_,rfl⟩,h⟩
theorem pe_bl{b j pos}:PE X (.Constant (.bool b) j pos) (tC (.bl b)):=fun _ _ _ H _ I h=>Constant_bool ⟨.bl b,H,I,rfl,h⟩
theorem pe_str{x j pos}:PE X (.Constant (.str x) j pos) (tC (.str x)):=fun _ _ _ H _ I h=>Calls.Constant_str ⟨.str x,H,I.tok _,⟨_,rfl⟩,h⟩
def Gl(X:Cx)(x:Str):Prop:=X.env.kindOf x=some .globalImplicit
theorem ld_glob{E:Value→Shared→Prop}{pins:List (Addr×Obj)}{s:Shared}{σ:St}{H:Hp}{x:Str}{u:Value}{pos:Pos}{Q:Value→Shared→Prop}(I:Inv X pins σ H s)(hg:Gl X x)(hm:X.mg x=some u)(h:Q u s)
  (hd:(x == ("__debug__" : Str))=false:=by decide):wpAny (model X.prog X.w) X.A (eval (.Name x pos) X.env) Q E s :=
 Calls.Name_function_global I.ok.kind hg (Calls.loadGlobal_global (by rw[I.ok.glob];exact I.mod.glob.keeps I.bk) hm h) hd
theorem ld_blt{E:Value→Shared→Prop}{pins:List (Addr×Obj)}{s:Shared}{σ:St}{H:Hp}{x:Str}{u:Value}{pos:Pos}{Q:Value→Shared→Prop}(I:Inv X pins σ H s)(hg:Gl X x)(hm:X.mg x=none)(hv:bootBuiltins x=some u)(h:Q u s)
  (hn:x ≠ "__name__" := by decide) (hd:(x == ("__debug__" : Str))=false:=by decide):wpAny (model X.prog X.w) X.A (eval (.Name x pos) X.env) Q E s:=by
 obtain⟨mb,h1,h2⟩:=I.mod.blt
 exact Calls.Name_function_global I.ok.kind hg (Calls.loadGlobal_builtin (by rw[I.ok.glob];exact I.mod.glob.keeps I.bk) hm (by rw[I.ok.blt];exact h1.keeps I.bk) ((h2 x hn).trans hv) h) hd
theorem pe_bltn{x:Str}{v:V}{u:Value}{pos:Pos}(hg:Gl X x)(hm:X.mg x=none)(hv:bootBuiltins x=some u)(r:RelV v u)(hn:x ≠ "__name__" := by decide)(hd:(x == ("__debug__" : Str))=false:=by decide):PE X (.Name x pos) (tC v) :=
 fun _ _ _ H _ I h=>ld_blt I hg hm hv ⟨v,H,I,r,h⟩ hn hd
variable {a b:Expr}{ta tb:TE}{pos:Pos}
def tIsN(ta:TE):TE:=fun σ H Q=>ta σ H fun x H1=>Q (.bl (decide (x=.non))) H1
def tNotN(ta:TE):TE:=fun σ H Q=>ta σ H fun x H1=>Q (.bl (!decide (x=.non))) H1
def tB(t:TE):TT:=fun σ H Q=>t σ H fun x H1=>∃ c,x=.bl c∧Q c H1
theorem pt_val{e:Expr}{t:TE}(h:PE X e t)(he:∀ whole,isTrue e X.env whole=(do let v ← whole;standAt e.pos;holding [v] (truthy v)):=by intro _;rfl):PT X e (tB t):=by
 intro pins s σ H Q I hw
 refine isTrue_plain (thn (h pins s σ H _ I hw) fun v s1 ⟨x,H1,I1,r1,q1⟩=>?_) (he _)
 obtain⟨d,rfl,q⟩:=q1
 cases r1
 exact wpAny_truthy_bool ⟨H1,I1,q⟩
variable {tA tB':TT}{rest:List Expr}
def tAnd(t u:TT):TT:=fun σ H Q=>t σ H fun c H1=>if c=true then u σ H1 Q else Q false H1
def tOr(t u:TT):TT:=fun σ H Q=>t σ H fun c H1=>if c=true then Q true H1 else u σ H1 Q
def tNot(t:TT):TT:=fun σ H Q=>t σ H fun c H1=>Q (!c) H1
theorem pw_and1(ha:PT X a tA):PW X (.BoolOp .And [a] pos) tA:=by
 intro wh pins s σ H Q I h
 refine isTrue_and (thn (ha pins s σ H Q I h) fun c s1 e=>?_)
 cases c with
 | true=>exact isTrue_and_nil e
 | false=>exact e
theorem pw_or1(ha:PT X a tA):PW X (.BoolOp .Or [a] pos) tA:=by
 intro wh pins s σ H Q I h
 refine isTrue_or (thn (ha pins s σ H Q I h) fun c s1 e=>?_)
 cases c with
 | false=>exact isTrue_or_nil e
 | true=>exact e
theorem pw_and(ha:PT X a tA)(hb:PW X (.BoolOp .And (b::rest) pos) tB'):PW X (.BoolOp .And (a::b::rest) pos) (tAnd tA tB'):=by
 intro wh pins s σ H Q I h
 refine isTrue_and (thn (ha pins s σ H _ I h) fun c s1 ⟨H1,I1,q1⟩=>?_)
 cases c with
 | true=>exact hb wh pins s1 σ H1 Q I1 q1
 | false=>exact⟨H1,I1,q1⟩
theorem pw_or(ha:PT X a tA)(hb:PW X (.BoolOp .Or (b::rest) pos) tB'):PW X (.BoolOp .Or (a::b::rest) pos) (tOr tA tB'):=by
 intro wh pins s σ H Q I h
 refine isTrue_or (thn (ha pins s σ H _ I h) fun c s1 ⟨H1,I1,q1⟩=>?_)
 cases c with
 | true=>exact⟨H1,I1,q1⟩
 | false=>exact hb wh pins s1 σ H1 Q I1 q1
theorem pt_not(ha:PT X a tA):PT X (.UnaryOp .Not a pos) (tNot tA):=by
 intro pins s σ H Q I h
 exact isTrue_not (ha pins s σ H (fun c H1=>Q (!c) H1) I h)
def tAndV(ta tb:TE):TE:=fun σ H Q=>ta σ H fun x H1=>∃ c,x=.bl c∧if c=true then tb σ H1 Q else Q (.bl false) H1
def tOrV(ta tb:TE):TE:=fun σ H Q=>ta σ H fun x H1=>∃ c,x=.bl c∧if c=true then Q (.bl true) H1 else tb σ H1 Q
def tNotV(ta:TE):TE:=fun σ H Q=>ta σ H fun x H1=>∃ c,x=.bl c∧Q (.bl (!c)) H1
theorem pe_one{op}{t:TE}(h:PE X a t):PE X (.BoolOp op [a] pos) t:=fun pins s σ H Q I hw=>BoolOp_one (h pins s σ H Q I hw)
theorem pe_and(ha:PE X a ta)(hb:PE X (.BoolOp .And (b::rest) pos) tb):PE X (.BoolOp .And (a::b::rest) pos) (tAndV ta tb):=by
 intro pins s σ H Q I h
 refine BoolOp_and (thn (ha pins s σ H _ I h) fun v s1 ⟨x,H1,I1,r1,q1⟩=>?_)
 obtain⟨c,rfl,q1⟩:=q1
 cases r1
 refine wpAny_truthy_bool ?_
 cases c with
 | true=>exact hb pins s1 σ H1 Q I1 q1
 | false=>exact⟨.bl false,H1,I1,rfl,q1⟩
theorem pe_or(ha:PE X a ta)(hb:PE X (.BoolOp .Or (b::rest) pos) tb):PE X (.BoolOp .Or (a::b::rest) pos) (tOrV ta tb):=by
 intro pins s σ H Q I h
 refine BoolOp_or (thn (ha pins s σ H _ I h) fun v s1 ⟨x,H1,I1,r1,q1⟩=>?_)
 obtain⟨c,rfl,q1⟩:=q1
 cases r1
 refine wpAny_truthy_bool ?_
 cases c with
 | false=>exact hb pins s1 σ H1 Q I1 q1
 | true=>exact⟨.bl true,H1,I1,rfl,q1⟩
theorem pe_not(ha:PE X a ta):PE X (.UnaryOp .Not a pos) (tNotV ta):=by
 intro pins s σ H Q I h
 refine UnaryOp_ (thn (ha pins s σ H _ I h) fun v s1 ⟨x,H1,I1,r1,q1⟩=>?_)
 obtain⟨c,rfl,q1⟩:=q1
 cases r1
 exact not_of (wpAny_truthy_bool ⟨.bl (!c),H1,I1,rfl,q1⟩)
def tIf(t:TT)(ta tb:TE):TE:=fun σ H Q=>t σ H fun c H1=>if c=true then ta σ H1 Q else tb σ H1 Q
end
end L2
namespace L2
open PySem PySem.Spec PyProof.Rows
def SqL(K:PySem.W.Frag)(H:Hp)(a:Addr)(xs:List V):Prop :=
 Rd H a (.lst xs) ∨
  ∃(o:Obj)(its:Array Value)(n:Nat),K.lookup a=some o∧o.cls=.type "list" ∧ o.dict=none∧o.data=.seq its n∧its.size≤sizeLine∧Vals xs its.toList
def SqT(K:PySem.W.Frag)(H:Hp)(a:Addr)(xs:List V):Prop :=
 Rd H a (.tup xs) ∨
  ∃(o:Obj)(its:Array Value)(n:Nat),K.lookup a=some o∧o.cls=.type "tuple" ∧ o.data=.seq its n∧its.size≤sizeLine∧Vals xs its.toList
def absV:Value→Option V
 | .none=>some .non
 | .bool b=>some (.bl b)
 | .int i _=>some (.int i)
 | .str x _=>some (.str x)
 | .bytes b _=>some (.byt b)
 | .float b _=>some (.flt b)
 | .ref a=>some (.ref a)
 | .type n=>some (.ty n)
 | _=>none
theorem RelV.abs{x:V}{u:Value}(r:RelV x u):absV u=some x:=by
 cases x with
 | non=>cases r;rfl
 | bl _=>cases r;rfl
 | int _=>obtain⟨t,rfl⟩:=r;rfl
 | str _=>obtain⟨t,rfl⟩:=r;rfl
 | byt _=>obtain⟨t,rfl⟩:=r;rfl
 | flt _=>obtain⟨t,rfl⟩:=r;rfl
 | ref _=>cases r;rfl
 | ty _=>cases r;rfl
theorem RelV.inj{x y:V}{u:Value}(r:RelV x u)(q:RelV y u):x=y:=Option.some.inj (r.abs.symm.trans q.abs)
theorem Vals.inj:∀{xs ys:List V}{us:List Value},Vals xs us→Vals ys us→xs=ys
 | _,_,_,.nil,.nil=>rfl
 | _,_,_,.cons r t,.cons r' t'=>by rw[r.inj r',Vals.inj t t']
section
variable {X:Cx}{pins:List (Addr×Obj)}{σ:St}{H:Hp}{s:Shared}{a:Addr}{xs ys:List V}
theorem SqL.of{K:PySem.W.Frag}(h:H a=some (.lst xs)):SqL K H a xs:=.inl (.inl h)
theorem SqT.of{K:PySem.W.Frag}(h:H a=some (.tup xs)):SqT K H a xs:=.inl (.inl h)
theorem Inv.list(I:Inv X pins σ H s)(h:SqL X.K H a xs):∃ its:List Value,Vals xs its∧PlainL s.heap a its.toArray∧xs.length≤sizeLine:=by
 rcases h with h | ⟨o,its,n,hk,hc,hd,hs,hz,r⟩
 ·obtain⟨z,its,n,r,e⟩:=h.ok I.hok
  exact⟨its,r,⟨_,n,e,rfl,rfl,rfl⟩,z⟩
 ·refine⟨its.toList,r,⟨o,n,I.kIn a o hk,hc,hd,by simpa using hs⟩,?_⟩
  have e:=r.length
  simp only[Array.length_toList] at e
  omega
theorem Inv.tuple(I:Inv X pins σ H s)(h:SqT X.K H a xs):∃ its:List Value,Vals xs its∧IsTup s.heap a its.toArray∧xs.length≤sizeLine:=by
 rcases h with h | ⟨o,its,n,hk,hc,hs,hz,r⟩
 ·obtain⟨z,its,r,p⟩:=h.ok I.hok
  exact⟨its,r,p,z⟩
 ·refine⟨its.toList,r,⟨o,I.kIn a o hk,hc,n,by simpa using hs⟩,?_⟩
  have e:=r.length
  simp only[Array.length_toList] at e
  omega
theorem Inv.list_inj(I:Inv X pins σ H s)(h:SqL X.K H a xs)(h':SqL X.K H a ys):xs=ys:=by
 obtain⟨its,r,⟨o,n,e,_,_,d⟩,_⟩:=I.list h
 obtain⟨its',r',⟨o',n',e',_,_,d'⟩,_⟩:=I.list h'
 rw[e] at e';cases e'
 rw[d] at d'
 injection d' with d1 _
 have:its=its':=by simpa using congrArg Array.toList d1
 subst this
 exact r.inj r'
theorem Inv.tuple_inj(I:Inv X pins σ H s)(h:SqT X.K H a xs)(h':SqT X.K H a ys):xs=ys:=by
 obtain⟨its,r,⟨o,e,_,n,d⟩,_⟩:=I.tuple h
 obtain⟨its',r',⟨o',e',_,n',d'⟩,_⟩:=I.tuple h'
 rw[e] at e';cases e'
 rw[d] at d'
 injection d' with d1 _
 have:its=its':=by simpa using congrArg Array.toList d1
 subst this
 exact r.inj r'
end
abbrev Cx.wish(X:Cx)(E:Value→Shared→Prop):Cx:={ X with xe:=E }
abbrev Cx.nox(X:Cx):Cx:=X.wish fun _ _=>False
theorem Cx.Ok.wish{X:Cx}(ok:X.Ok)(E:Value→Shared→Prop):(X.wish E).Ok :=
 ⟨ok.mod,ok.kind,ok.glob,ok.blt,ok.above,ok.inj,ok.has,ok.cab,ok.hd,ok.frames,ok.stk,ok.exf,ok.bs,ok.bsz,ok.noex,ok.exfs,ok.funs,ok.frf⟩
theorem Cx.Ok.unwish{X:Cx}{E:Value→Shared→Prop}(ok:(X.wish E).Ok):X.Ok :=
 ⟨ok.mod,ok.kind,ok.glob,ok.blt,ok.above,ok.inj,ok.has,ok.cab,ok.hd,ok.frames,ok.stk,ok.exf,ok.bs,ok.bsz,ok.noex,ok.exfs,ok.funs,ok.frf⟩
section
variable {X:Cx}{pins:List (Addr×Obj)}{σ:St}{H:Hp}{s:Shared}{E:Value→Shared→Prop}
theorem Inv.wish(I:Inv X pins σ H s)(E:Value→Shared→Prop):Inv (X.wish E) pins σ H s:=⟨I.ok.wish E,I.os,I.bare,I.base,I.loc,I.cell,I.free,I.freeC,I.pin,I.hok,I.len⟩
theorem Inv.unwish(I:Inv (X.wish E) pins σ H s):Inv X pins σ H s:=⟨I.ok.unwish,I.os,I.bare,I.base,I.loc,I.cell,I.free,I.freeC,I.pin,I.hok,I.len⟩
theorem SP.unwish{D:Ends}{f:Flow}{s':Shared}(h:SP (X.wish E) pins D f s'):SP X pins D f s':=by
 cases f with
 | next=>obtain⟨σ',H',I,q⟩:=h;exact⟨σ',H',I.unwish,q⟩
 | brk=>obtain⟨σ',H',I,q⟩:=h;exact⟨σ',H',I.unwish,q⟩
 | cont=>obtain⟨σ',H',I,q⟩:=h;exact⟨σ',H',I.unwish,q⟩
 | ret u=>obtain⟨v,σ',H',I,r,q⟩:=h;exact⟨v,σ',H',I.unwish,r,q⟩
theorem PSs.nox{st:List Stmt}{t:TS}(h:PSs X.nox st t):PSs X st t:=fun pins s σ H D I hw =>
 wpAny_mono (h pins s σ H D (I.wish _) hw) (fun _ _ q=>q.unwish) fun _ _ z=>False.elim z
end
section
variable {X:Cx}{st:Stmt}{rest:List Stmt}{t u:TS}{e:Expr}{te:TE}{pos:Pos}
def tNext:TS:=fun D σ H=>D.nx σ H
def tSeq(t u:TS):TS:=fun D σ H=>t { D with nx:=u D } σ H
theorem pss_nil:PSs X [] tNext:=fun _ _ σ H _ I h=>wpAny_execs_nil ⟨σ,H,I,h⟩
theorem pss_cons(h1:PS X st t)(h2:PSs X rest u):PSs X (st::rest) (tSeq t u):=by
 intro pins s σ H D I h
 refine wpAny_execs_cons (thn (h1 pins s σ H { D with nx:=u D } I h) fun f s1 q=>?_)
 cases f with
 | next =>
  obtain⟨σ',H',I',q⟩:=q
  exact h2 pins s1 σ' H' D I' q
 | ret v=>exact q
 | brk=>exact q
 | cont=>exact q
theorem pss_one(h1:PS X st t):PSs X [st] t:=by
 intro pins s σ H D I h
 refine wpAny_execs_cons (thn (h1 pins s σ H D I h) fun f s1 q=>?_)
 cases f with
 | next=>exact wpAny_execs_nil q
 | ret v=>exact q
 | brk=>exact q
 | cont=>exact q
theorem Inv.quiet{pins:List (Addr×Obj)}{σ:St}{H:Hp}{s:Shared}(I:Inv X pins σ H s):interactive X.env=false:=by simp[interactive,I.ok.kind]
def tDrop(te:TE):TS:=fun D σ H=>te σ H fun _ H1=>D.nx σ H1
theorem ps_expr(he:PE X e te)(hs:swapsWith e none pos.line X.env=pure false:=by rfl):PS X (.Expr e pos) (tDrop te):=by
 intro pins s σ H D I h
 exact wpAny_Expr_any (thn (he pins s σ H _ I h) fun v s1 ⟨x,H1,I1,r1,q1⟩=>⟨σ,H1,I1,q1⟩) I.quiet hs
def tRet(te:TE):TS:=fun D σ H=>te σ H D.rt
theorem ps_ret(he:PE X e te):PS X (.Return (some e) pos) (tRet te):=by
 intro pins s σ H D I h
 exact wpAny_Return_some (thn (he pins s σ H _ I h) fun v s1 ⟨x,H1,I1,r1,q1⟩=>⟨x,σ,H1,I1,r1,q1⟩)
def tRetN:TS:=fun D _ H=>D.rt .non H
def tIfS(c:TT)(t u:TS):TS:=fun D σ H=>c σ H fun b H1=>if b=true then t D σ H1 else u D σ H1
theorem ps_if{c:Expr}{a b:List Stmt}{tc:TT}(hc:PT X c tc)(ha:PSs X a t)(hb:PSs X b u):PS X (.If c a b pos) (tIfS tc t u):=by
 intro pins s σ H D I h
 refine wpAny_If (thn (hc pins s σ H _ I h) fun d s1 ⟨H1,I1,q1⟩=>?_)
 cases d with
 | true=>exact ha pins s1 σ H1 D I1 q1
 | false=>exact hb pins s1 σ H1 D I1 q1
end
abbrev TG:=V→St→Hp→(St→Hp→Prop)→Prop
abbrev TGs:=List V→St→Hp→(St→Hp→Prop)→Prop
def PG(X:Cx)(target:Expr)(t:TG):Prop :=
 ∀ (pins:List (Addr×Obj)) (s:Shared) (σ:St) (H:Hp) (v:V) (u:Value) (Q:St→Hp→Prop),Inv X pins σ H s→RelV v u→t v σ H Q →
  wpAny (model X.prog X.w) X.A (assign target X.env u) (fun _ s'=>∃ σ' H',Inv X pins σ' H' s'∧Q σ' H') X.xe s
def PGs(X:Cx)(ts:List Expr)(t:TGs):Prop :=
 ∀ (pins:List (Addr×Obj)) (s:Shared) (σ:St) (H:Hp) (vs:List V) (us:List Value) (Q:St→Hp→Prop),Inv X pins σ H s→Vals vs us→t vs σ H Q →
  wpAny (model X.prog X.w) X.A (assignInOrder ((assignEach ts X.env).map (·.2)) us) (fun _ s'=>∃ σ' H',Inv X pins σ' H' s'∧Q σ' H') X.xe s
abbrev TSet:=V→V→V→Hp→(Hp→Prop)→Prop
def PSet(X:Cx)(t:TSet):Prop :=
 ∀ (pins:List (Addr×Obj)) (s:Shared) (σ:St) (H:Hp) (o i v:V) (ov iv u:Value) (Q:Hp→Prop),Inv X pins σ H s→RelV o ov→RelV i iv→RelV v u→t o i v H Q →
  wpAny (model X.prog X.w) X.A (setItem ov iv u) (fun _ s'=>∃ H',Inv X pins σ H' s'∧Q H') X.xe s
abbrev TIp:=V→V→Hp→VK→Prop
def PIp(X:Cx)(op:Operator)(t:TIp):Prop :=
 ∀ (pins:List (Addr×Obj)) (s:Shared) (σ:St) (H:Hp) (x y:V) (v u:Value) (Q:VK),Inv X pins σ H s→RelV x v→RelV y u→t x y H Q →
  wpAny (model X.prog X.w) X.A (inplaceOp op v u) (EP X pins σ Q) X.xe s
section
variable {X:Cx}{pos:Pos}
def gName(i:Nat):TG:=fun v σ H Q=>Q (σ.set i (some v)) H
theorem pg_name{i:Nat}{x:Str}(hN:X.N.Nodup)(hi:X.N[i]?=some x)(hx:Loc X.env.scope x)(hf:X.fn x=true∨X.env.scope.names.lookup x=some .local:=by first | exact .inl rfl | exact .inr rfl | assumption):PG X (.Name x pos) (gName i):=by
 intro pins s σ H v u Q I r h
 exact wpAny_assign_Name (store_ok I hN hi hx r (fun s' I'=>⟨_,H,I',h⟩) hf)
def gNil:TGs:=fun vs σ H Q=>vs=[]∧Q σ H
def gCons(t:TG)(u:TGs):TGs:=fun vs σ H Q=>∃ v r,vs=v::r∧t v σ H fun σ' H'=>u r σ' H' Q
theorem pgs_nil:PGs X [] gNil:=by
 intro pins s σ H vs us Q I r h
 obtain⟨e,h⟩:=h
 subst e
 cases r
 exact assignInOrder_nil ⟨σ,H,I,h⟩
theorem pgs_cons{e:Expr}{es:List Expr}{t:TG}{u:TGs}(h1:PG X e t)(h2:PGs X es u)
  (hs:(assignEach (e::es) X.env).map (·.2)=assign e X.env::(assignEach es X.env).map (·.2):=by rfl):PGs X (e::es) (gCons t u):=by
 intro pins s σ H vs us Q I r h
 obtain⟨v,vr,e1,h⟩:=h
 subst e1
 cases r with
 | cons r rr =>
  rw[hs]
  refine assignInOrder_cons (thn (h1 pins s σ H _ _ _ I r h) fun _ s1 ⟨σ1,H1,I1,q1⟩=>?_)
  exact h2 pins s1 σ1 H1 _ _ Q I1 rr q1
def gTup(K:PySem.W.Frag)(n:Nat)(t:TGs):TG:=fun v σ H Q=>∃ a xs,v=.ref a∧SqT K H a xs∧xs.length=n∧t xs σ H Q
theorem pg_tup{es:List Expr}{k:Nat}{t:TGs}{n:Nat}(hc:X.calm=true)(h:PGs X es t)
  (hn:(assignEach es X.env).length=n:=by rfl) (hst:(assignEach es X.env).findIdx? (·.1)=none:=by rfl):PG X (.Tuple es k pos) (gTup X.K n t):=by
 intro pins s σ H v u Q I r hw
 obtain⟨a,xs,e1,hq,hl,hw⟩:=hw
 subst e1
 cases r
 obtain⟨its,rv,ht,hz⟩:=I.tuple hq
 refine assign_Tuple_tuple (I.ok.hd hc) ht (by simp[hn,← hl,rv.length]) hst fun h' hx=>?_
 have I1:Inv X pins σ H { s with heap:=h' }:=I.kept (t':=s.toks) fun b o e=>hx b o (Nat.ne_of_lt (Heap.lt_size e)) e
 exact h pins _ σ H xs _ Q I1 (by simpa using rv) hw
def gSub(to ti:TE)(t:TSet):TG:=fun v σ H Q=>to σ H fun o H1=>ti σ H1 fun i H2=>t o i v H2 fun H3=>Q σ H3
theorem pg_sub{o i:Expr}{to ti:TE}{t:TSet}(ho:PE X o to)(hi:PE X i ti)(hs:PSet X t)
  (ha:∀ v,assign (.Subscript o i pos) X.env v=(do
   let ov ← holding [v] (eval o X.env)
   let iv ← holding [v,ov] (eval i X.env)
   standAt pos
   holding [v,ov,iv] (setItem ov iv v)
   release [v,ov,iv] []):=by intro _;rfl):PG X (.Subscript o i pos) (gSub to ti t):=by
 intro pins s σ H v u Q I r h
 rw[ha]
 refine wpAny_bind (wpAny_holding (thn (ho pins s σ H _ I h) fun ov s1 ⟨x,H1,I1,r1,q1⟩=>?_))
 refine wpAny_bind (wpAny_holding (thn (hi pins s1 σ H1 _ I1 q1) fun iv s2 ⟨y,H2,I2,r2,q2⟩=>?_))
 refine wpAny_bind (wpAny_standAt (wpAny_bind (wpAny_holding (thn (hs pins s2 σ H2 x y v ov iv u _ I2 r1 r2 r q2) fun _ s3 ⟨H3,I3,q3⟩=>?_))))
 exact wpAny_release ⟨σ,H3,I3,q3⟩
def tAsg(te:TE)(g:TG):TS:=fun D σ H=>te σ H fun x H1=>g x σ H1 D.nx
theorem ps_asg{tg e:Expr}{te:TE}{g:TG}(he:PE X e te)(hg:PG X tg g)(hs:swapsWithSole [tg] e pos.line X.env=pure false:=by rfl)(hw:swappedStores [tg] e X.env=pure none:=by rfl)
  (h1:(assignEach [tg] X.env).map (·.2)=[assign tg X.env]:=by rfl):PS X (.Assign [tg] e pos) (tAsg te g):=by
 intro pins s σ H D I h
 refine wpAny_Assign_stores (thn (he pins s σ H _ I h) fun v s1 ⟨x,H1,I1,r1,q1⟩=>?_) hs hw
 rw[h1]
 exact thn (hg pins s1 σ H1 x v _ I1 r1 q1) fun _ s2 q=>q
theorem ps_set{i:Nat}{x:Str}{e:Expr}{te:TE}{pos':Pos}(hN:X.N.Nodup)(hi:X.N[i]?=some x)(hx:Loc X.env.scope x)(he:PE X e te)(hs:swapsWith e (some (.Name x pos')) pos.line X.env=pure false:=by rfl)(hf:X.fn x=true∨X.env.scope.names.lookup x=some .local:=by first | exact .inl rfl | exact .inr rfl | assumption) :
  PS X (.Assign [.Name x pos'] e pos) (tAsg te (gName i)):=by
 intro pins s σ H D I h
 refine wpAny_Assign_Name (thn (he pins s σ H _ I h) fun v s1 ⟨y,H1,I1,r1,q1⟩=>?_) hs
 exact store_ok I1 hN hi hx r1 (fun s2 I2=>⟨_,H1,I2,q1⟩) hf
def tPar(i j:Nat)(ta:TA):TS:=fun D σ H=>ta σ H fun vs H1=>∃ v w,vs=[v,w]∧D.nx ((σ.set i (some v)).set j (some w)) H1
theorem ps_par{i j:Nat}{x y:Str}{a b:Expr}{ta:TA}{px py pt:Pos}{kt k2 pt2}(hc:X.calm=true)(hN:X.N.Nodup)(hi:X.N[i]?=some x)(hj:X.N[j]?=some y)(hij:i≠j)
  (hx:X.env.scope.names.lookup x=some .local) (hy:X.env.scope.names.lookup y=some .local) (ha:PA X [a,b] ta)
  (hw:swappedStores [.Tuple [.Name x px,.Name y py] kt pt] (.Tuple [a,b] k2 pt2) X.env=pure (some [x,y]))
  (hs:swapsWithSole [.Tuple [.Name x px,.Name y py] kt pt] (.Tuple [a,b] k2 pt2) pos.line X.env=pure false:=by rfl) :
  PS X (.Assign [.Tuple [.Name x px,.Name y py] kt pt] (.Tuple [a,b] k2 pt2) pos) (tPar i j ta):=by
 intro pins s σ H D I h
 rw[exec_Assign_arm]
 refine wpAny_bind (wpAny_standAt ?_)
 rw[hs]
 refine wpAny_bind (wpAny_pure ?_)
 rw[if_neg (by decide)]
 refine wpAny_bind (Tuple_ (thn (ha _ pins s σ H _ I h) fun us s1 ⟨vs,H1,I1,r1,q1⟩=>?_))
 obtain⟨v,w,e1,q1⟩:=q1
 subst e1
 obtain⟨u1,u2,rfl,rv,rw'⟩:∃ u1 u2,us=[u1,u2]∧RelV v u1∧RelV w u2:=by
  cases r1 with
  | cons p q =>
   cases q with
   | cons p' q' =>
    cases q'
    exact⟨_,_,rfl,p,p'⟩
 refine wpAny_newObj_type ?_ (by show 2≤sizeLine;decide)
 have I2:Inv X pins σ H1 { s1 with heap:=s1.heap.push { cls:=.type "tuple", data:=.seq [u1,u2].toArray } }:=I1.kept (t':=s1.toks) fun b o e=>Heap.get?_push_of_some _ e
 rw[hw]
 refine wpAny_bind (wpAny_pure ?_)
 show wpAny (model X.prog X.w) X.A (do rule "assign.swapped-stores"; let items ← unpackItems (.ref s1.heap.objs.size) 2 none;assignInOrder [fun v=>bindName X.env y v,fun v=>bindName X.env x v] items.reverse;pure Flow.next) _ _ _
 refine wpAny_bind (wpAny_rule (wpAny_bind (unpackItems_tuple (items:=#[u1,u2]) (I.ok.hd hc) (IsTup.new s1.heap _) fun h' hx'=>?_)))
 have I3:=I2.kept (h':=h') (t':=s1.toks) fun b o e=>hx' b o (Nat.ne_of_lt (Heap.lt_size e)) e
 show wpAny _ _ (assignInOrder [fun v=>bindName X.env y v,fun v=>bindName X.env x v] [u2,u1] >>= fun _=>pure Flow.next) _ _ _
 refine wpAny_bind (assignInOrder_cons (wpAny_bindName (store_ok I3 hN hj (.inl hy) rw' (fun s2 I4=>?_) (.inr hy))))
 refine assignInOrder_cons (wpAny_bindName (store_ok I4 hN hi (.inl hx) rv (fun s3 I5=>assignInOrder_nil (wpAny_pure ?_)) (.inr hx)))
 rw[List.set_comm _ _ (Ne.symm hij)] at I5
 exact⟨_,H1,I5,q1⟩
def tAugS(to ti te:TE)(tget:V→V→Hp→VK→Prop)(tip:TIp)(tset:TSet):TS:=fun D σ H=>to σ H fun o H1=>ti σ H1 fun i H2=>tget o i H2 fun x H3=>te σ H3 fun y H4=>tip x y H4 fun z H5=>tset o i z H5 fun H6=>D.nx σ H6
def PGet(X:Cx)(t:V→V→Hp→VK→Prop):Prop :=
 ∀ (pins:List (Addr×Obj)) (s:Shared) (σ:St) (H:Hp) (o i:V) (ov iv:Value) (Q:VK),Inv X pins σ H s→RelV o ov→RelV i iv→t o i H Q →
  wpAny (model X.prog X.w) X.A (getItem ov iv) (EP X pins σ Q) X.xe s
theorem ps_augS{o i e:Expr}{to ti te:TE}{tget:V→V→Hp→VK→Prop}{tip:TIp}{tset:TSet}{op:Operator}{tpos:Pos}(ho:PE X o to)(hi:PE X i ti)(hg:PGet X tget)(he:PE X e te)(hp:PIp X op tip)(hs:PSet X tset)
  (ha:∀ ov iv new,augStore i ov iv new=(do holding [new,ov,iv] (setItem ov iv new);release [new,ov,iv] [];pure .next):=by intros;rfl):PS X (.AugAssign (.Subscript o i tpos) op e pos) (tAugS to ti te tget tip tset):=by
 intro pins s σ H D I h
 refine wpAny_AugAssign_SubscriptAny (thn (ho pins s σ H _ I h) fun ov s1 ⟨x1,H1,I1,r1,q1⟩=>?_) ha
 refine thn (hi pins s1 σ H1 _ I1 q1) fun iv s2 ⟨x2,H2,I2,r2,q2⟩=>?_
 refine thn (hg pins s2 σ H2 x1 x2 ov iv _ I2 r1 r2 q2) fun old s3 ⟨x3,H3,I3,r3,q3⟩=>?_
 refine thn (he pins s3 σ H3 _ I3 q3) fun v s4 ⟨x4,H4,I4,r4,q4⟩=>?_
 refine thn (hp pins s4 σ H4 x3 x4 old v _ I4 r3 r4 q4) fun new s5 ⟨x5,H5,I5,r5,q5⟩=>?_
 exact thn (hs pins s5 σ H5 x1 x2 x5 ov iv new _ I5 r1 r2 r5 q5) fun _ s6 ⟨H6,I6,q6⟩=>⟨σ,H6,I6,q6⟩
def ipI(f:Int→Int→Int):TIp:=fun x y H Q=>∃ i j,x=.int i∧y=.int j∧Q (.int (f i j)) H
theorem ip_add:PIp X .Add (ipI fun i j=>i+j):=by
 intro pins s σ H x y v u Q I r1 r2 h
 obtain⟨i,j,e1,e2,q⟩:=h
 subst e1;subst e2
 obtain⟨t,rfl⟩:=r1
 obtain⟨t',rfl⟩:=r2
 exact iadd_int ⟨.int _,H,I.tok _,⟨_,rfl⟩,q⟩
end
section
variable {X:Cx}{pos:Pos}
def tWhile(c:TT)(tb:TS):TS:=fun D σ H=>∃ W:Nat→St→Hp→Prop,(∃ m,W m σ H)∧∀ m σ H,W m σ H →
 c σ H fun b H1=>if b=true then ∃ N:St→Hp→Prop,(∀ σ' H',N σ' H'→∃ m',m' < m∧W m' σ' H')∧tb { D with nx:=N,ct:=N,bk:=D.nx } σ H1 else D.nx σ H1
theorem ps_while{c:Expr}{body:List Stmt}{tc:TT}{tb:TS}(hp:PassesOwn (model X.prog X.w) X.A X.env X.xe)(hc:PT X c tc)(hb:PSs X body tb):PS X (.While c body [] pos) (tWhile tc tb):=by
 intro pins s σ H D I h
 obtain⟨W,⟨m0,w0⟩,turn⟩:=h
 refine wpAny_While (codeAny_whileLoop (fun n s'=>∃ σ' H',Inv X pins σ' H' s'∧W n σ' H') ?_ m0 ⟨σ,H,I,w0⟩)
 rintro n s1 ⟨σ1,H1,I1,w1⟩
 refine wpAny_passesOwn hp (thn (hc pins s1 σ1 H1 _ I1 (turn n σ1 H1 w1)) fun b s2 ⟨H2,I2,q2⟩=>?_)
 cases b with
 | true =>
  obtain⟨N,hN,q2⟩:=q2
  rw[if_pos rfl]
  refine wpAny_passesOwn hp (thn (hb pins s2 σ1 H2 _ I2 q2) fun f s3 q3=>?_)
  cases f with
  | next =>
   obtain⟨σ3,H3,I3,n3⟩:=q3
   obtain⟨m',hm,w3⟩:=hN σ3 H3 n3
   exact⟨m',hm,σ3,H3,I3,w3⟩
  | cont =>
   obtain⟨σ3,H3,I3,n3⟩:=q3
   obtain⟨m',hm,w3⟩:=hN σ3 H3 n3
   exact⟨m',hm,σ3,H3,I3,w3⟩
  | brk=>exact q3
  | ret v=>exact q3
 | false =>
  rw[if_neg Bool.false_ne_true]
  exact wpAny_execs_nil ⟨σ1,H2,I2,q2⟩
end
structure It where
 go:Nat→Hp→Prop
 yld:Nat→Hp→V→Hp→Prop
 stop:Nat→Hp→Prop
def FpOk(X:Cx)(pins:List (Addr×Obj))(H:Hp)(b:Addr):Prop :=
 H b=none∧b≠X.env.locals∧b∉X.fs∧(b∈X.ex∨X.s₀.heap.objs.size≤b)∧(∀ x c,X.env.cells.lookup x=some c→c≠b)∧∀ p∈X.pn++pins,p.1≠b
theorem Inv.fpOk{X:Cx}{pins:List (Addr×Obj)}{σ:St}{H H':Hp}{s:Shared}{b:Addr}(I:Inv X pins σ H s)(hb:s.heap.objs.size≤b)(hn:H' b=none):FpOk X pins H' b:=by
 refine⟨hn,Nat.ne_of_gt (Nat.lt_of_lt_of_le I.lt hb),I.nofs hb,.inr (Nat.le_trans I.sz hb),fun x c e z=>?_,fun p hp z=>?_⟩
 ·obtain⟨v,q⟩:=I.cell x c e
  exact absurd (Nat.lt_of_lt_of_le q.lt (by rw[z];exact hb)) (Nat.lt_irrefl _)
 ·exact absurd (Nat.lt_of_lt_of_le (Heap.lt_size (I.pin p hp).1) (by rw[z];exact hb)) (Nat.lt_irrefl _)
structure Turn(P:Program)(w:World)(K:PySem.W.Frag)(tg:Expr)(J:It)(fp:List Addr)(it:Addr)(tn:Nat→Heap→Prop):Prop where
 mem:it∈fp
 obj:∀ i h,tn i h→∀ b∈fp,∃ o,h.get? b=some o∧∀ v,o.data≠.cell v
 keep:∀ i h h',tn i h→(∀ b∈fp,∀ o,h.get? b=some o→h'.get? b=some o)→tn i h'
 item:∀(X:Cx),X.prog=P→X.w=w→X.K=K→X.calm=true→∀(i:Nat) (pins:List (Addr×Obj)) (s:Shared) (σ:St) (H:Hp) (E:Value→Shared→Prop),Inv X pins σ H s→(∀ b∈fp,FpOk X pins H b)→tn i s.heap→J.go i H →
  wpAny (model P w) X.A (pyNext (.ref it)) (fun r s1=>∃ u,r=some u ∧
   wpAny (model P w) X.A (letOwnedTupleGo tg (.ref it) u) (fun _ s2=>∃ x H',Inv X pins σ H' s2∧RelV x u∧J.yld i H x H'∧tn (i+1) s2.heap∧∀ b∈fp,H' b=none) E s1) E s
 done:∀(X:Cx),X.prog=P→X.w=w→X.K=K→X.calm=true→∀(i:Nat) (pins:List (Addr×Obj)) (s:Shared) (σ:St) (H:Hp) (E:Value→Shared→Prop),Inv X pins σ H s→(∀ b∈fp,FpOk X pins H b)→tn i s.heap→J.stop i H →
  wpAny (model P w) X.A (pyNext (.ref it)) (fun r s1=>r=none∧Inv X pins σ H s1) E s
 self:∀(A:Around)(i:Nat)(s:Shared)(Q:Value→Shared→Prop)(E:Value→Shared→Prop),tn i s.heap→Q (.ref it) s→wpAny (model P w) A (pyIter (.ref it)) Q E s
abbrev TI:=St→Hp→(It→Hp→Prop)→Prop
def PIE(X:Cx)(pins:List (Addr×Obj))(σ:St)(tg:Expr)(R:It→Hp→Prop)(itv:Value)(s2:Shared):Prop :=
 ∃(it:Addr)(fp:List Addr)(tn:Nat→Heap→Prop)(J:It)(H':Hp),itv=.ref it∧Inv X pins σ H' s2∧Turn X.prog X.w X.K tg J fp it tn∧tn 0 s2.heap∧(∀ b∈fp,FpOk X pins H' b)∧R J H'
def PI(X:Cx)(tg iter:Expr)(wi:TI):Prop :=
 ∀ (pins:List (Addr×Obj)) (s:Shared) (σ:St) (H:Hp) (R:It→Hp→Prop),Inv X pins σ H s→wi σ H R →
  wpAny (model X.prog X.w) X.A (eval iter X.env) (fun v s1=>wpAny (model X.prog X.w) X.A (pyIter v) (PIE X pins σ tg R) X.xe s1) X.xe s
theorem go_of{M:Model}{A:Around}{E:Value→Shared→Prop}{s:Shared}{tg:Expr}{it:Addr}{u:Value}{o:Obj}{n:String}{vs:Array Value}{Q:Unit→Shared→Prop}(ho:s.heap.get? it=some o)(hc:o.cls=.type n)(hd:o.data=.fields vs)
  (hn:["enumerate", "zip", "dict_itemiterator", "dict_reverseitemiterator", "odict_iterator", "itertools.zip_longest", "itertools.pairwise"].contains n=false) (hQ:Q () s):wpAny M A (letOwnedTupleGo tg (.ref it) u) Q E s:=by
 unfold letOwnedTupleGo
 cases tg<;>first
  | exact wpAny_pure hQ
  | (cases u<;>first
    | exact wpAny_pure hQ
    | (refine wpAny_bind (wpAny_load ho ?_)
       rw[hc,hd]
       show wpAny M A (if (["enumerate", "zip", "dict_itemiterator", "dict_reverseitemiterator", "odict_iterator", "itertools.zip_longest", "itertools.pairwise"].contains n && vs[0]? == some (rawInt _))=true then _ else _) Q E s
       rw[if_neg (by intro h;rw[hn,Bool.false_and] at h;cases h)]
       exact wpAny_pure hQ))
def Itl(K:PySem.W.Frag)(a:Addr):It :=
 ⟨fun i H=>∃ xs x,SqL K H a xs∧xs[i]?=some x,fun i H x H'=>H'=H∧∀ xs,SqL K H a xs→xs[i]?=some x,fun i H=>∃ xs,SqL K H a xs∧xs.length≤i⟩
def Itt(K:PySem.W.Frag)(a:Addr):It :=
 ⟨fun i H=>∃ xs x,SqT K H a xs∧xs[i]?=some x,fun i H x H'=>H'=H∧∀ xs,SqT K H a xs→xs[i]?=some x,fun i H=>∃ xs,SqT K H a xs∧xs.length≤i⟩
def Itr(lo:Int)(n:Nat):It:=⟨fun i _=>i < n,fun i H x H'=>H'=H∧x=.int (lo+i),fun i _=>n≤i⟩
theorem turn_list{P:Program}{w:World}{K:PySem.W.Frag}{tg:Expr}(a it:Addr):Turn P w K tg (Itl K a) [it] it (fun i h=>h.IsListIter it a i) where
 mem:=by simp
 obj:=fun i h st b hb=>by
  have e:b=it:=by simpa using hb
  subst e
  obtain⟨o,e,c,d⟩:=st
  exact⟨o,e,fun v z=>by rw[d] at z;cases z⟩
 keep:=fun i h h' st k=>st.at fun o e=>k it (by simp) o e
 item:=by
  intro X hP hw hK hc i pins s σ H E I hf st hg
  subst hP hw hK
  obtain⟨xs,x,hq,hx⟩:=hg
  obtain⟨its,rv,p,hz⟩:=I.list hq
  obtain⟨u,hu,ru⟩:=rv.get hx
  obtain⟨f0,f1,f2,f3,f4,f5⟩:=hf it (by simp)
  refine wpAny_pyNext_list_item st p.isList (x:=u) (by simpa using hu) fun h' st' sb=>?_
  have I1:Inv X pins σ H { s with heap:=h' }:=I.turned (t':=s.toks) (fun b o hb e=>(sb.2 b hb).trans e) f0 f1 f3 f4 f5
  obtain⟨o,e,c,d⟩:=id st'
  exact⟨u,rfl,go_of (s:={ s with heap:=h' }) e c d (by decide) ⟨x,H,I1,ru,⟨rfl,fun ys hy=>by rw[I.list_inj hy hq];exact hx⟩,st',fun b hb=>(hf b hb).1⟩⟩
 done:=by
  intro X hP hw hK hc i pins s σ H E I hf st hg
  subst hP hw hK
  obtain⟨xs,hq,hx⟩:=hg
  obtain⟨its,rv,p,hz⟩:=I.list hq
  obtain⟨f0,f1,f2,f3,f4,f5⟩:=hf it (by simp)
  have hl:=rv.length
  exact wpAny_pyNext_list_end (I.ok.hd hc) st p.isList (by simp;omega) fun h' eb=>⟨rfl,I.turned (t':=s.toks) (fun b o hb e=>eb b o hb e) f0 f1 f3 f4 f5⟩
 self:=fun _ _ _ _ _ st h=>wpAny_pyIter_listiter st h
theorem turn_tuple{P:Program}{w:World}{K:PySem.W.Frag}{tg:Expr}(a it:Addr):Turn P w K tg (Itt K a) [it] it (fun i h=>h.IsTupleIter it a i) where
 mem:=by simp
 obj:=fun i h st b hb=>by
  have e:b=it:=by simpa using hb
  subst e
  obtain⟨o,e,c,d⟩:=st
  exact⟨o,e,fun v z=>by rw[d] at z;cases z⟩
 keep:=fun i h h' st k=>st.at fun o e=>k it (by simp) o e
 item:=by
  intro X hP hw hK hc i pins s σ H E I hf st hg
  subst hP hw hK
  obtain⟨xs,x,hq,hx⟩:=hg
  obtain⟨its,rv,p,hz⟩:=I.tuple hq
  obtain⟨u,hu,ru⟩:=rv.get hx
  obtain⟨f0,f1,f2,f3,f4,f5⟩:=hf it (by simp)
  refine wpAny_pyNext_tuple_item st (show s.heap.IsTuple a its.toArray from p) (x:=u) (by simpa using hu) fun h' st' sb=>?_
  have I1:Inv X pins σ H { s with heap:=h' }:=I.turned (t':=s.toks) (fun b o hb e=>(sb.2 b hb).trans e) f0 f1 f3 f4 f5
  obtain⟨o,e,c,d⟩:=id st'
  exact⟨u,rfl,go_of (s:={ s with heap:=h' }) e c d (by decide) ⟨x,H,I1,ru,⟨rfl,fun ys hy=>by rw[I.tuple_inj hy hq];exact hx⟩,st',fun b hb=>(hf b hb).1⟩⟩
 done:=by
  intro X hP hw hK hc i pins s σ H E I hf st hg
  subst hP hw hK
  obtain⟨xs,hq,hx⟩:=hg
  obtain⟨its,rv,p,hz⟩:=I.tuple hq
  obtain⟨f0,f1,f2,f3,f4,f5⟩:=hf it (by simp)
  have hl:=rv.length
  exact wpAny_pyNext_tuple_end (I.ok.hd hc) st (show s.heap.IsTuple a its.toArray from p) (by simp;omega) fun h' eb=>⟨rfl,I.turned (t':=s.toks) (fun b o hb e=>eb b o hb e) f0 f1 f3 f4 f5⟩
 self:=fun _ _ _ _ _ st h=>wpAny_pyIter_tupleiter st h
theorem turn_range{P:Program}{w:World}{K:PySem.W.Frag}{tg:Expr}(it:Addr)(lo:Int)(n:Nat):Turn P w K tg (Itr lo n) [it] it (fun i h=>IsRangeIter h it (lo+(i:Nat)*1) ((n:Int) - (i:Nat)) 1) where
 mem:=by simp
 obj:=fun i h st b hb=>by
  have e:b=it:=by simpa using hb
  subst e
  exact⟨_,st,fun v z=>by
   have z':Data.fields _=Data.cell v:=z
   cases z'⟩
 keep:=fun i h h' st k=>k it (by simp) _ st
 item:=by
  intro X hP hw hK hc i pins s σ H E I hf st hg
  subst hP hw hK
  obtain⟨f0,f1,f2,f3,f4,f5⟩:=hf it (by simp)
  have W:=Walks.range (prog:=X.prog) (w:=X.w) (I.ok.hd hc) it lo 1 n
  refine W.item i s _ _ hg st fun v h' tk hv st' kk=>?_
  obtain⟨t,rfl⟩:=hv
  have I1:Inv X pins σ H { s with heap:=h',toks:=tk }:=I.turned (fun b o hb e=>kk b o (by simpa using hb) e) f0 f1 f3 f4 f5
  refine⟨_,rfl,go_of (s:={ s with heap:=h',toks:=tk }) (n := "range_iterator") st' rfl rfl (by decide) ⟨.int (lo+i),H,I1,⟨t,?_⟩,⟨rfl,rfl⟩,st',fun b hb=>(hf b hb).1⟩⟩
  rw[Int.mul_one]
 done:=by
  intro X hP hw hK hc i pins s σ H E I hf st hg
  subst hP hw hK
  obtain⟨f0,f1,f2,f3,f4,f5⟩:=hf it (by simp)
  exact wpAny_pyNext_range_end (I.ok.hd hc) st (by have:n≤i:=hg;omega) fun h' eb=>⟨rfl,I.turned (t':=s.toks) (fun b o hb e=>eb b o hb e) f0 f1 f3 f4 f5⟩
 self:=fun _ _ _ _ _ st h=>wpAny_pyIter_rangeiter st h
end L2
namespace L2
open PySem PySem.Spec PyProof.Rows
section
variable {X:Cx}{tg:Expr}
def iList(K:PySem.W.Frag)(tl:TE):TI:=fun σ H R=>tl σ H fun x H1=>∃ a,x=.ref a∧(∃ xs,SqL K H1 a xs)∧R (Itl K a) H1
def iTup(K:PySem.W.Frag)(tl:TE):TI:=fun σ H R=>tl σ H fun x H1=>∃ a,x=.ref a∧(∃ xs,SqT K H1 a xs)∧R (Itt K a) H1
theorem pi_list{l:Expr}{tl:TE}(hl:PE X l tl):PI X tg l (iList X.K tl):=by
 intro pins s σ H R I h
 refine thn (hl pins s σ H _ I h) fun v s1 ⟨x,H1,I1,r1,q1⟩=>?_
 obtain⟨a,e,⟨xs,hq⟩,q⟩:=q1
 subst e
 cases r1
 obtain⟨its,rv,p,hz⟩:=I1.list hq
 refine wpAny_pyIter_list p.isList ?_
 refine⟨s1.heap.objs.size,[s1.heap.objs.size],_,_,H1,rfl,I1.kept (t':=s1.toks) fun b o e=>Heap.get?_push_of_some _ e,turn_list a _,⟨_,Heap.get?_push_size _ rfl,rfl,rfl⟩,fun b hb=>?_,q⟩
 have e:b=s1.heap.objs.size:=by simpa using hb
 subst e
 exact I1.fpOk (Nat.le_refl _) (I1.hok.fresh (Nat.le_refl _))
theorem pi_tup{l:Expr}{tl:TE}(hl:PE X l tl):PI X tg l (iTup X.K tl):=by
 intro pins s σ H R I h
 refine thn (hl pins s σ H _ I h) fun v s1 ⟨x,H1,I1,r1,q1⟩=>?_
 obtain⟨a,e,⟨xs,hq⟩,q⟩:=q1
 subst e
 cases r1
 obtain⟨its,rv,p,hz⟩:=I1.tuple hq
 refine wpAny_pyIter_tuple (show s1.heap.IsTuple a its.toArray from p) ?_
 refine⟨s1.heap.objs.size,[s1.heap.objs.size],_,_,H1,rfl,I1.kept (t':=s1.toks) fun b o e=>Heap.get?_push_of_some _ e,turn_tuple a _,⟨_,Heap.get?_push_size _ rfl,rfl,rfl⟩,fun b hb=>?_,q⟩
 have e:b=s1.heap.objs.size:=by simpa using hb
 subst e
 exact I1.fpOk (Nat.le_refl _) (I1.hok.fresh (Nat.le_refl _))
theorem range_it{pins:List (Addr×Obj)}{σ:St}{H:Hp}{s:Shared}{R:It→Hp→Prop}{E:Value→Shared→Prop}{lo hi:Int}{t u v:Tok}{tk:Nat}(I:Inv X pins σ H s)(h1:-(2 ^ 62)≤lo)(h2:lo < 2 ^ 62)(h3:-(2 ^ 62)≤hi)(h4:hi < 2 ^ 62)
  (q:R (Itr lo (hi - lo).toNat) H):wpAny (model X.prog X.w) X.A (pyIter (.ref s.heap.objs.size)) (PIE X pins σ tg R) E { s with heap:=s.heap.push { cls:=.type "range", data:=.fields #[.int lo t,.int hi u,.int 1 v] },toks:=tk }:=by
 refine wpAny_pyIter_range (IsRange.new ..) (small_one h1 h2 h3 h4) ?_
 have I1:Inv X pins σ H { s with heap:=s.heap.push { cls:=.type "range", data:=.fields #[.int lo t,.int hi u,.int 1 v] },toks:=tk }:=I.kept fun b o e=>Heap.get?_push_of_some _ e
 refine⟨(s.heap.push { cls:=.type "range", data:=.fields #[.int lo t,.int hi u,.int 1 v] }).objs.size,[(s.heap.push { cls:=.type "range", data:=.fields #[.int lo t,.int hi u,.int 1 v] }).objs.size],_,_,H,rfl,
  I1.kept (t':=tk) fun b o e=>Heap.get?_push_of_some _ e,turn_range _ lo (hi - lo).toNat,?_,fun b hb=>?_,q⟩
 ·have e1:lo+((0:Nat):Int)*1=lo:=by simp
  have e2:(((hi - lo).toNat:Nat):Int) - ((0:Nat):Int)=Builtin.Range.rangeSize lo hi 1:=by rw[rangeSize_one];split<;>omega
  show IsRangeIter _ _ (lo+((0:Nat):Int)*1) ((((hi - lo).toNat:Nat):Int) - ((0:Nat):Int)) 1
  rw[e1,e2]
  exact Heap.get?_push_size _ rfl
 ·have e:b=(s.heap.push { cls:=.type "range", data:=.fields #[.int lo t,.int hi u,.int 1 v] }).objs.size:=by simpa using hb
  subst e
  exact I1.fpOk (Nat.le_refl _) (I1.hok.fresh (Nat.le_refl _))
def iRng1(ta:TA):TI:=fun σ H R=>ta σ H fun vs H1=>∃ j:Int,vs=[.int j]∧-(2 ^ 62)≤j∧j < 2 ^ 62∧R (Itr 0 j.toNat) H1
theorem pi_range1{a:Expr}{ta:TA}{p pos:Pos}(hg:Gl X "range")(hm:X.mg "range" = none)(ha:PA X [a] ta)(hs:starEach [a] X.env=[(false,eval a X.env)]:=by rfl):PI X tg (.Call (.Name "range" p) [a] [] pos) (iRng1 ta):=by
 intro pins s σ H R I h
 refine Call_ (ld_blt I hg hm boot_range (PyProof.Rows.callWith_type1 (thn (ha pos pins s σ H _ I h) fun us s1 ⟨vs,H1,I1,r1,q1⟩=>?_) hs rfl))
 obtain⟨j,e,q1,q2,q⟩:=q1
 subst e
 cases r1 with
 | cons r rr =>
  cases rr
  obtain⟨t,rfl⟩:=r
  exact call_range_1 (range_it I1 (by omega) (by omega) q1 q2 (by simpa using q))
def tFor(wi:TI)(g:TG)(tb:TS):TS:=fun D σ H=>wi σ H fun J H1=>∃ W:Nat→Nat→St→Hp→Prop,(∃ m,W 0 m σ H1)∧∀ i m σ H,W i m σ H →
 (J.stop i H∧D.nx σ H)∨(J.go i H∧∃ N:St→Hp→Prop,(∀ σ' H',N σ' H'→∃ m',m' < m∧W (i+1) m' σ' H')∧∀ x H',J.yld i H x H'→g x σ H' fun σ2 H2=>tb { D with nx:=N,ct:=N,bk:=D.nx } σ2 H2)
def pinsAt(fp:List Addr)(h:Heap):List (Addr×Obj):=fp.filterMap fun b=>(h.get? b).map fun o=>(b,o)
theorem mem_pinsAt{fp:List Addr}{h:Heap}{b:Addr}{o:Obj}(hb:b∈fp)(e:h.get? b=some o):(b,o)∈pinsAt fp h:=List.mem_filterMap.mpr ⟨b,hb,by rw[e];rfl⟩
theorem of_pinsAt{fp:List Addr}{h:Heap}{p:Addr×Obj}(hp:p∈pinsAt fp h):p.1∈fp∧h.get? p.1=some p.2:=by
 obtain⟨b,hb,e⟩:=List.mem_filterMap.mp hp
 cases q:h.get? b with
 | none=>rw[q] at e;cases e
 | some o =>
  rw[q] at e
  have e':(b,o)=p:=Option.some.inj e
  subst e'
  exact⟨hb,q⟩
theorem Inv.pinned{pins:List (Addr×Obj)}{σ:St}{H:Hp}{s:Shared}{fp:List Addr}(I:Inv X pins σ H s)(hf:∀ b∈fp,FpOk X pins H b)(ho:∀ b∈fp,∃ o,s.heap.get? b=some o∧∀ v,o.data≠.cell v):Inv X (pins++pinsAt fp s.heap) σ H s :=
 I.pins_of fun p hp=>(List.mem_append.mp hp).elim (fun z=>I.pin p (List.mem_append_right _ z)) fun z=>by
  obtain⟨hb,e⟩:=of_pinsAt z
  obtain⟨f0,f1,f2,_⟩:=hf p.1 hb
  obtain⟨o,e',d⟩:=ho p.1 hb
  rw[e] at e';cases e'
  exact⟨e,f0,f1,f2,d⟩
theorem Inv.unpinned{pins pl:List (Addr×Obj)}{σ:St}{H:Hp}{s:Shared}(I:Inv X (pins++pl) σ H s):Inv X pins σ H s:=I.pins_of fun p hp=>I.pin p (List.mem_append_right _ (List.mem_append_left _ hp))
theorem ps_for{iter:Expr}{body:List Stmt}{wi:TI}{g:TG}{tb:TS}{pos:Pos}(hp:PassesOwn (model X.prog X.w) X.A X.env X.xe)(hc:X.calm=true)(hi:PI X tg iter wi)(hg:PG X tg g)(hb:PSs X body tb)
  (hs:∀ x,foldedSetIterable iter X.env x=pure x:=by intro _;rfl):PS X (.For tg iter body [] pos) (tFor wi g tb):=by
 intro pins s σ H D I h
 refine wpAny_For (thn (hi pins s σ H _ I h) fun v s1 h1=>thn h1 fun itv s2 h2=>?_) hs
 obtain⟨it,fp,tn,J,H2,e,I2,T,st2,f2,W,⟨m0,w0⟩,turn⟩:=h2
 subst e
 have stat:∀{H':Hp},(∀ b∈fp,H' b=none)→∀ b∈fp,FpOk X pins H' b:=fun hn b hb=>⟨hn b hb,(f2 b hb).2⟩
 refine codeAny_forLoop_any (fun n s'=>∃ i σ' H',Inv X pins σ' H' s'∧tn i s'.heap∧(∀ b∈fp,H' b=none)∧W i n σ' H') ?_ m0 ⟨0,σ,H2,I2,st2,fun b hb=>(f2 b hb).1,w0⟩
 rintro n s3 ⟨i,σ3,H3,I3,st3,fr3,w3⟩
 rcases turn i n σ3 H3 w3 with ⟨stop,qn⟩ | ⟨go,N,hN,step⟩
 ·refine wpAny_passesOwn hp (thn (T.done X rfl rfl rfl hc i pins s3 σ3 H3 X.xe I3 (stat fr3) st3 stop) fun r s4 ⟨hr,I4⟩=>?_)
  subst hr
  exact wpAny_execs_nil ⟨σ3,H3,I4,qn⟩
 ·refine wpAny_passesOwn hp (thn (T.item X rfl rfl rfl hc i pins s3 σ3 H3 X.xe I3 (stat fr3) st3 go) fun r s4 ⟨u,hr,h4⟩=>?_)
  subst hr
  refine wpAny_passesOwn hp (thn h4 fun _ s5 ⟨x,H5,I5,r5,y5,st5,fr5⟩=>?_)
  have I5':=I5.pinned (stat fr5) (T.obj _ _ st5)
  refine wpAny_passesOwn hp (thn (hg _ s5 σ3 H5 x u _ I5' r5 (step x H5 y5)) fun _ s6 ⟨σ6,H6,I6,q6⟩=>?_)
  refine wpAny_passesOwn hp (thn (hb _ s6 σ6 H6 _ I6 q6) fun f s7 q7=>?_)
  have again:∀{σ7:St}{H7:Hp},Inv X (pins++pinsAt fp s5.heap) σ7 H7 s7→N σ7 H7→∃ m,m < n∧∃ i σ' H',Inv X pins σ' H' s7∧tn i s7.heap∧(∀ b∈fp,H' b=none)∧W i m σ' H':=fun {σ7 H7} I7 n7=>by
   obtain⟨m',hm,w7⟩:=hN σ7 H7 n7
   refine⟨m',hm,i+1,σ7,H7,I7.unpinned,T.keep _ _ _ st5 fun b hb o e=>(I7.pin (b,o) (List.mem_append_right _ (List.mem_append_right _ (mem_pinsAt hb e)))).1,fun b hb=>?_,w7⟩
   obtain⟨o,e,d⟩:=T.obj _ _ st5 b hb
   exact (I7.pin (b,o) (List.mem_append_right _ (List.mem_append_right _ (mem_pinsAt hb e)))).2.1
  cases f with
  | next=>obtain⟨σ7,H7,I7,n7⟩:=q7;exact again I7 n7
  | cont=>obtain⟨σ7,H7,I7,n7⟩:=q7;exact again I7 n7
  | brk=>obtain⟨σ7,H7,I7,q7⟩:=q7;exact⟨σ7,H7,I7.unpinned,q7⟩
  | ret v=>obtain⟨x7,σ7,H7,I7,r7,q7⟩:=q7;exact⟨x7,σ7,H7,I7.unpinned,r7,q7⟩
end
theorem for_list{K:PySem.W.Frag}{a:Addr}{xs:List V}{g:TG}{tb:TS}{D:Ends}{σ:St}{H:Hp}(Pv:Nat→St→Hp→Prop)(h0:Pv 0 σ H)(hl:∀ i σ H,i≤xs.length→Pv i σ H→SqL K H a xs)
  (hs:∀ i x σ H,xs[i]?=some x→Pv i σ H→g x σ H fun σ2 H2=>tb { D with nx:=Pv (i+1),ct:=Pv (i+1),bk:=D.nx } σ2 H2) (hd:∀ σ H,Pv xs.length σ H→D.nx σ H) :
  ∃ W:Nat→Nat→St→Hp→Prop,(∃ m,W 0 m σ H)∧∀ i m σ H,W i m σ H →
   ((Itl K a).stop i H∧D.nx σ H)∨((Itl K a).go i H∧∃ N:St→Hp→Prop,(∀ σ' H',N σ' H'→∃ m',m' < m∧W (i+1) m' σ' H')∧∀ x H',(Itl K a).yld i H x H'→g x σ H' fun σ2 H2=>tb { D with nx:=N,ct:=N,bk:=D.nx } σ2 H2):=by
 refine⟨fun i m σ H=>m=xs.length - i∧i≤xs.length∧Pv i σ H,⟨xs.length,by simp,Nat.zero_le _,h0⟩,?_⟩
 rintro i m σ H ⟨rfl,hi,p⟩
 have q:=hl i σ H hi p
 by_cases hlt:i < xs.length
 ·refine .inr ⟨⟨xs,xs[i],q,by simp[hlt]⟩,Pv (i+1),fun σ' H' p'=>⟨xs.length - (i+1),by omega,rfl,hlt,p'⟩,fun x H' y=>?_⟩
  obtain⟨e,y⟩:=y
  subst e
  exact hs i x σ _ (y xs q) p
 ·have e:i=xs.length:=by omega
  subst e
  exact .inl ⟨⟨xs,q,Nat.le_refl _⟩,hd σ H p⟩
theorem for_tup{K:PySem.W.Frag}{a:Addr}{xs:List V}{g:TG}{tb:TS}{D:Ends}{σ:St}{H:Hp}(Pv:Nat→St→Hp→Prop)(h0:Pv 0 σ H)(hl:∀ i σ H,i≤xs.length→Pv i σ H→SqT K H a xs)
  (hs:∀ i x σ H,xs[i]?=some x→Pv i σ H→g x σ H fun σ2 H2=>tb { D with nx:=Pv (i+1),ct:=Pv (i+1),bk:=D.nx } σ2 H2) (hd:∀ σ H,Pv xs.length σ H→D.nx σ H) :
  ∃ W:Nat→Nat→St→Hp→Prop,(∃ m,W 0 m σ H)∧∀ i m σ H,W i m σ H →
   ((Itt K a).stop i H∧D.nx σ H)∨((Itt K a).go i H∧∃ N:St→Hp→Prop,(∀ σ' H',N σ' H'→∃ m',m' < m∧W (i+1) m' σ' H')∧∀ x H',(Itt K a).yld i H x H'→g x σ H' fun σ2 H2=>tb { D with nx:=N,ct:=N,bk:=D.nx } σ2 H2):=by
 refine⟨fun i m σ H=>m=xs.length - i∧i≤xs.length∧Pv i σ H,⟨xs.length,by simp,Nat.zero_le _,h0⟩,?_⟩
 rintro i m σ H ⟨rfl,hi,p⟩
 have q:=hl i σ H hi p
 by_cases hlt:i < xs.length
 ·refine .inr ⟨⟨xs,xs[i],q,by simp[hlt]⟩,Pv (i+1),fun σ' H' p'=>⟨xs.length - (i+1),by omega,rfl,hlt,p'⟩,fun x H' y=>?_⟩
  obtain⟨e,y⟩:=y
  subst e
  exact hs i x σ _ (y xs q) p
 ·have e:i=xs.length:=by omega
  subst e
  exact .inl ⟨⟨xs,q,Nat.le_refl _⟩,hd σ H p⟩
theorem for_range{lo:Int}{n:Nat}{g:TG}{tb:TS}{D:Ends}{σ:St}{H:Hp}(Pv:Nat→St→Hp→Prop)(h0:Pv 0 σ H)
  (hs:∀ i σ H,i < n→Pv i σ H→g (.int (lo+i)) σ H fun σ2 H2=>tb { D with nx:=Pv (i+1),ct:=Pv (i+1),bk:=D.nx } σ2 H2) (hd:∀ σ H,Pv n σ H→D.nx σ H) :
  ∃ W:Nat→Nat→St→Hp→Prop,(∃ m,W 0 m σ H)∧∀ i m σ H,W i m σ H →
   ((Itr lo n).stop i H∧D.nx σ H)∨((Itr lo n).go i H∧∃ N:St→Hp→Prop,(∀ σ' H',N σ' H'→∃ m',m' < m∧W (i+1) m' σ' H')∧∀ x H',(Itr lo n).yld i H x H'→g x σ H' fun σ2 H2=>tb { D with nx:=N,ct:=N,bk:=D.nx } σ2 H2):=by
 refine⟨fun i m σ H=>m=n - i∧i≤n∧Pv i σ H,⟨n,by simp,Nat.zero_le _,h0⟩,?_⟩
 rintro i m σ H ⟨rfl,hi,p⟩
 by_cases hlt:i < n
 ·refine .inr ⟨hlt,Pv (i+1),fun σ' H' p'=>⟨n - (i+1),by omega,rfl,hlt,p'⟩,fun x H' y=>?_⟩
  obtain⟨e,y⟩:=y
  subst e y
  exact hs i σ _ hlt p
 ·have e:i=n:=by omega
  subst e
  exact .inl ⟨Nat.le_refl _,hd σ H p⟩
end L2
namespace L2
open PySem PySem.Spec PyProof.Rows
abbrev R2:=V→V→Hp→VK→Prop
def OpR(X:Cx)(f:Value→Value→Sem Value)(r:R2):Prop :=
 ∀ (pins:List (Addr×Obj)) (s:Shared) (σ:St) (H:Hp) (x y:V) (v u:Value) (Q:VK),Inv X pins σ H s→RelV x v→RelV y u→r x y H Q →
  wpAny (model X.prog X.w) X.A (f v u) (EP X pins σ Q) X.xe s
def UnR(X:Cx)(f:Value→Sem Value)(r:V→Hp→VK→Prop):Prop :=
 ∀ (pins:List (Addr×Obj)) (s:Shared) (σ:St) (H:Hp) (x:V) (v:Value) (Q:VK),Inv X pins σ H s→RelV x v→r x H Q →
  wpAny (model X.prog X.w) X.A (f v) (EP X pins σ Q) X.xe s
def CallR(X:Cx)(f:Value)(r:List V→Hp→VK→Prop):Prop :=
 ∀ (pins:List (Addr×Obj)) (s:Shared) (σ:St) (H:Hp) (xs:List V) (us:List Value) (Q:VK),Inv X pins σ H s→Vals xs us→r xs H Q →
  wpAny (model X.prog X.w) X.A (call f us) (EP X pins σ Q) X.xe s
def tOp(r:R2)(ta tb:TE):TE:=fun σ H Q=>ta σ H fun x H1=>tb σ H1 fun y H2=>r x y H2 Q
def tUn(r:V→Hp→VK→Prop)(ta:TE):TE:=fun σ H Q=>ta σ H fun x H1=>r x H1 Q
def rI(C:Int→Int→Prop)(g:Int→Int→V):R2:=fun x y H Q=>∃ i j,x=.int i∧y=.int j∧C i j∧Q (g i j) H
def rI0(g:Int→Int→V):R2:=fun x y H Q=>∃ i j,x=.int i∧y=.int j∧Q (g i j) H
def rU(g:Int→V):V→Hp→VK→Prop:=fun x H Q=>∃ i,x=.int i∧Q (g i) H
section
variable {X:Cx}{a b c:Expr}{ta tb tc:TE}{pos:Pos}
theorem binT(ha:PE X a ta)(hb:PE X b tb){pins:List (Addr×Obj)}{s:Shared}{σ:St}{H:Hp}{R:V→V→Hp→Prop}(I:Inv X pins σ H s)
  (h:ta σ H fun x H1=>tb σ H1 fun y H2=>R x y H2) {Q:Value→Shared→Prop} {f:Value→Value→Sem Value}
  (hf:∀ v u s2 x y H2,Inv X pins σ H2 s2→RelV x v→RelV y u→R x y H2→wpAny (model X.prog X.w) X.A (f v u) Q X.xe s2) :
  wpAny (model X.prog X.w) X.A (eval a X.env) (fun v s₁=>wpAny (model X.prog X.w) X.A (eval b X.env) (fun u s₂=>wpAny (model X.prog X.w) X.A (f v u) Q X.xe s₂) X.xe s₁) X.xe s:=by
 refine thn (ha pins s σ H _ I h) fun v s1 ⟨x,H1,I1,r1,q1⟩=>?_
 refine thn (hb pins s1 σ H1 _ I1 q1) fun u s2 ⟨y,H2,I2,r2,q2⟩=>?_
 exact hf v u s2 x y H2 I2 r1 r2 q2
theorem pe_op{op:Operator}{r:R2}(ho:OpR X (binaryOp op) r)(ha:PE X a ta)(hb:PE X b tb):PE X (.BinOp a op b pos) (tOp r ta tb):=by
 intro pins s σ H Q I h
 exact wpAny_BinOp (binT ha hb I h fun v u s2 x y H2 I2 rx ry q=>ho pins s2 σ H2 x y v u Q I2 rx ry q)
theorem pe_un{op:UnaryOp}{r:V→Hp→VK→Prop}(ho:UnR X (unaryOp op) r)(ha:PE X a ta):PE X (.UnaryOp op a pos) (tUn r ta):=by
 intro pins s σ H Q I h
 exact UnaryOp_ (thn (ha pins s σ H _ I h) fun v s1 ⟨x,H1,I1,r1,q1⟩=>ho pins s1 σ H1 x v Q I1 r1 q1)
theorem opI{f:Value→Value→Sem Value}{C:Int→Int→Prop}{g:Int→Int→Int}
  (rule:∀(i j:Int)(t u:Tok)(s:Shared)(Q:Value→Shared→Prop)(E:Value→Shared→Prop),C i j→Q (.int (g i j) s.toks) { s with toks:=s.toks+1 }→wpAny (model X.prog X.w) X.A (f (.int i t) (.int j u)) Q E s) :
  OpR X f (rI C fun i j=>.int (g i j)):=by
 intro pins s σ H x y v u Q I rx ry h
 obtain⟨i,j,rfl,rfl,hc,q⟩:=h
 obtain⟨t,rfl⟩:=rx
 obtain⟨t',rfl⟩:=ry
 exact rule i j t t' s _ _ hc ⟨.int (g i j),H,I.tok _,⟨_,rfl⟩,q⟩
theorem opI0{f:Value→Value→Sem Value}{g:Int→Int→Int}
  (rule:∀(i j:Int)(t u:Tok)(s:Shared)(Q:Value→Shared→Prop)(E:Value→Shared→Prop),Q (.int (g i j) s.toks) { s with toks:=s.toks+1 }→wpAny (model X.prog X.w) X.A (f (.int i t) (.int j u)) Q E s) :
  OpR X f (rI0 fun i j=>.int (g i j)):=by
 intro pins s σ H x y v u Q I rx ry h
 obtain⟨i,j,rfl,rfl,q⟩:=h
 obtain⟨t,rfl⟩:=rx
 obtain⟨t',rfl⟩:=ry
 exact rule i j t t' s _ _ ⟨.int (g i j),H,I.tok _,⟨_,rfl⟩,q⟩
theorem opB0{f:Value→Value→Sem Value}{g:Int→Int→Bool}
  (rule:∀(i j:Int)(t u:Tok)(s:Shared)(Q:Value→Shared→Prop)(E:Value→Shared→Prop),Q (.bool (g i j)) s→wpAny (model X.prog X.w) X.A (f (.int i t) (.int j u)) Q E s) :
  OpR X f (rI0 fun i j=>.bl (g i j)):=by
 intro pins s σ H x y v u Q I rx ry h
 obtain⟨i,j,rfl,rfl,q⟩:=h
 obtain⟨t,rfl⟩:=rx
 obtain⟨t',rfl⟩:=ry
 exact rule i j t t' s _ _ ⟨.bl (g i j),H,I,rfl,q⟩
def CPow(i j:Int):Prop:=0≤j∧j≤1000000∧i.natAbs < 2 ^ 64
def CMul(i j:Int):Prop:=(-(2 ^ 64) < i∧i < 2 ^ 64)∨(-(2 ^ 64) < j∧j < 2 ^ 64)
theorem op_add:OpR X (binaryOp .Add) (rI0 fun i j=>.int (i+j)):=opI0 fun _ _ _ _ _ _ _ q=>add_int q
theorem op_sub:OpR X (binaryOp .Sub) (rI0 fun i j=>.int (i - j)):=opI0 fun _ _ _ _ _ _ _ q=>sub_int q
theorem op_mod:OpR X (binaryOp .Mod) (rI (fun _ j=>0 < j) fun i j=>.int (i % j)):=opI fun i j _ _ _ _ _ hc q=>by
 have h1:(0:Int) < j:=hc
 exact mod_int' (by omega) (by rw[Int.fmod_eq_emod_of_nonneg i (by omega)];exact q)
theorem op_pow:OpR X (binaryOp .Pow) (rI CPow fun i j=>.int (i ^ j.toNat)):=opI fun _ _ _ _ _ _ _ hc q=>pow_int_small hc.1 hc.2.1 hc.2.2 q
theorem unI{f:Value→Sem Value}{g:Int→Int}
  (rule:∀(i:Int)(t:Tok)(s:Shared)(Q:Value→Shared→Prop)(E:Value→Shared→Prop),Q (.int (g i) s.toks) { s with toks:=s.toks+1 }→wpAny (model X.prog X.w) X.A (f (.int i t)) Q E s) :
  UnR X f (rU fun i=>.int (g i)):=by
 intro pins s σ H x v Q I rx h
 obtain⟨i,rfl,q⟩:=h
 obtain⟨t,rfl⟩:=rx
 exact rule i t s _ _ ⟨.int (g i),H,I.tok _,⟨_,rfl⟩,q⟩
theorem un_neg:UnR X (unaryOp .USub) (rU fun i=>.int (-i)):=unI fun _ _ _ _ _ q=>neg_int q
end
def scal:V→V→Bool
 | .non,.non=>true | .non,.int _=>true | .int _,.non=>true | .non,.bl _=>true | .bl _,.non=>true | .non,.str _=>true | .str _,.non=>true
 | .int _,.int _=>true | .bl _,.bl _=>true | .str _,.str _=>true | .byt _,.byt _=>true
 | .int _,.str _=>true | .str _,.int _=>true | .bl _,.str _=>true | .str _,.bl _=>true
 | _,_=>false
def rEq:R2:=fun x y H Q=>scal x y=true∧Q (.bl (decide (x=y))) H
def rNe:R2:=fun x y H Q=>scal x y=true∧Q (.bl (!decide (x=y))) H
theorem dec_int{i j:Int}:decide (V.int i=V.int j)=(i == j):=by
 rw[Bool.eq_iff_iff]
 simp
theorem dec_bl{i j:Bool}:decide (V.bl i=V.bl j)=(i == j):=by
 rw[Bool.eq_iff_iff]
 simp
theorem dec_str{i j:Str}:decide (V.str i=V.str j)=(i == j):=by
 rw[Bool.eq_iff_iff]
 simp
theorem dec_byt{i j:Array UInt8}:decide (V.byt i=V.byt j)=(i.toList == j.toList):=by
 rw[Bool.eq_iff_iff]
 cases i
 cases j
 simp
section
variable {X:Cx}{a b c:Expr}{ta tb tc:TE}{pos:Pos}
theorem fin_bl{pins:List (Addr×Obj)}{σ:St}{H:Hp}{s:Shared}{Q:VK}{k k':Bool}(I:Inv X pins σ H s)(q:Q (.bl k) H)(e:k=k'):EP X pins σ Q (.bool k') s:=by
 subst e
 exact⟨.bl k,H,I,rfl,q⟩
theorem op_eq:OpR X (compareOp .Eq) rEq:=by
 intro pins s σ H x y v u Q I rx ry h
 obtain⟨hs,q⟩:=h
 cases x with
 | non =>
  cases rx
  cases y with
  | non=>cases ry;exact PySem.EqNone.eq_none_none (fin_bl I q (by simp))
  | bl j=>cases ry;exact PySem.EqNone.eq_none_bool (fin_bl I q (by simp))
  | int j=>obtain⟨t',rfl⟩:=ry;exact PySem.EqNone.eq_none_int (fin_bl I q (by simp))
  | str j=>obtain⟨t',rfl⟩:=ry;exact PySem.EqNone.eq_none_str (fin_bl I q (by simp))
  | _=>exact absurd (show false=true from hs) Bool.false_ne_true
 | bl i =>
  cases rx
  cases y with
  | non=>cases ry;exact PySem.EqNone.eq_bool_none (fin_bl I q (by simp))
  | bl j=>cases ry;exact eq_bool (fin_bl I q dec_bl)
  | str j=>obtain⟨t',rfl⟩:=ry;exact PySem.EqMixed.eq_bool_str (fin_bl I q (by simp))
  | _=>exact absurd (show false=true from hs) Bool.false_ne_true
 | int i =>
  obtain⟨t,rfl⟩:=rx
  cases y with
  | non=>cases ry;exact PySem.EqNone.eq_int_none (fin_bl I q (by simp))
  | int j=>obtain⟨t',rfl⟩:=ry;exact eq_int (fin_bl I q dec_int)
  | str j=>obtain⟨t',rfl⟩:=ry;exact PySem.EqMixed.eq_int_str (fin_bl I q (by simp))
  | _=>exact absurd (show false=true from hs) Bool.false_ne_true
 | str i =>
  obtain⟨t,rfl⟩:=rx
  cases y with
  | non=>cases ry;exact PySem.EqNone.eq_str_none (fin_bl I q (by simp))
  | bl j=>cases ry;exact PySem.EqMixed.eq_str_bool (fin_bl I q (by simp))
  | int j=>obtain⟨t',rfl⟩:=ry;exact PySem.EqMixed.eq_str_int (fin_bl I q (by simp))
  | str j=>obtain⟨t',rfl⟩:=ry;exact eq_str (fin_bl I q dec_str)
  | _=>exact absurd (show false=true from hs) Bool.false_ne_true
 | byt i =>
  obtain⟨t,rfl⟩:=rx
  cases y with
  | byt j=>obtain⟨t',rfl⟩:=ry;exact PySem.W.eq_bytes (fin_bl I q dec_byt)
  | _=>exact absurd (show false=true from hs) Bool.false_ne_true
 | _=>cases y<;>exact absurd (show false=true from hs) Bool.false_ne_true
theorem op_ne:OpR X (compareOp .NotEq) rNe:=by
 intro pins s σ H x y v u Q I rx ry h
 obtain⟨hs,q⟩:=h
 cases x with
 | non =>
  cases rx
  cases y with
  | non=>cases ry;exact PySem.EqNone.ne_none_none (fin_bl I q (by simp))
  | bl j=>cases ry;exact PySem.EqNone.ne_none_bool (fin_bl I q (by simp))
  | int j=>obtain⟨t',rfl⟩:=ry;exact PySem.EqNone.ne_none_int (fin_bl I q (by simp))
  | str j=>obtain⟨t',rfl⟩:=ry;exact PySem.EqNone.ne_none_str (fin_bl I q (by simp))
  | _=>exact absurd (show false=true from hs) Bool.false_ne_true
 | bl i =>
  cases rx
  cases y with
  | non=>cases ry;exact PySem.EqNone.ne_bool_none (fin_bl I q (by simp))
  | bl j=>cases ry;exact ne_bool (fin_bl I q (congrArg not dec_bl))
  | str j=>obtain⟨t',rfl⟩:=ry;exact PySem.EqMixed.ne_bool_str (fin_bl I q (by simp))
  | _=>exact absurd (show false=true from hs) Bool.false_ne_true
 | int i =>
  obtain⟨t,rfl⟩:=rx
  cases y with
  | non=>cases ry;exact PySem.EqNone.ne_int_none (fin_bl I q (by simp))
  | int j=>obtain⟨t',rfl⟩:=ry;exact ne_int (fin_bl I q (congrArg not dec_int))
  | str j=>obtain⟨t',rfl⟩:=ry;exact PySem.EqMixed.ne_int_str (fin_bl I q (by simp))
  | _=>exact absurd (show false=true from hs) Bool.false_ne_true
 | str i =>
  obtain⟨t,rfl⟩:=rx
  cases y with
  | non=>cases ry;exact PySem.EqNone.ne_str_none (fin_bl I q (by simp))
  | bl j=>cases ry;exact PySem.EqMixed.ne_str_bool (fin_bl I q (by simp))
  | int j=>obtain⟨t',rfl⟩:=ry;exact PySem.EqMixed.ne_str_int (fin_bl I q (by simp))
  | str j=>obtain⟨t',rfl⟩:=ry;exact ne_str (fin_bl I q (congrArg not dec_str))
  | _=>exact absurd (show false=true from hs) Bool.false_ne_true
 | byt i =>
  obtain⟨t,rfl⟩:=rx
  cases y with
  | byt j=>obtain⟨t',rfl⟩:=ry;exact PySem.W.ne_bytes (fin_bl I q (congrArg not dec_byt))
  | _=>exact absurd (show false=true from hs) Bool.false_ne_true
 | _=>cases y<;>exact absurd (show false=true from hs) Bool.false_ne_true
theorem op_lt:OpR X (compareOp .Lt) (rI0 fun i j=>.bl (decide (i < j))):=opB0 fun _ _ _ _ _ _ _ q=>lt_int q
theorem op_le:OpR X (compareOp .LtE) (rI0 fun i j=>.bl (decide (i≤j))):=opB0 fun _ _ _ _ _ _ _ q=>le_int q
theorem op_gt:OpR X (compareOp .Gt) (rI0 fun i j=>.bl (decide (j < i))):=opB0 fun _ _ _ _ _ _ _ q=>gt_int q
theorem op_ge:OpR X (compareOp .GtE) (rI0 fun i j=>.bl (decide (j≤i))):=opB0 fun _ _ _ _ _ _ _ q=>ge_int q
theorem nomark(b:Expr){op:CmpOp}(h:op≠.In:=by decide)(h2:op≠.NotIn:=by decide):behindInMarks op b=false:=by
 have e1:(op == CmpOp.In)=false:=by cases op<;>first | rfl | exact absurd rfl h
 have e2:(op == CmpOp.NotIn)=false:=by cases op<;>first | rfl | exact absurd rfl h2
 cases b<;>simp[behindInMarks,e1,e2]
theorem pe_cmpR{op:CmpOp}{r:R2}(ho:OpR X (compareOp op) r)(ha:PE X a ta)(hb:PE X b tb)(hm:behindInMarks op b=false):PE X (.Compare a [op] [b] pos) (tOp r ta tb):=by
 intro pins s σ H Q I h
 exact wpAny_Compare1 (binT ha hb I h fun v u s2 x y H2 I2 rx ry q=>ho pins s2 σ H2 x y v u Q I2 rx ry q) hm
def tTest(t:TE):TT:=fun σ H Q=>t σ H fun x H'=>∃ k,x=.bl k∧Q k H'
theorem pt_cmpR{op:CmpOp}{r:R2}(ho:OpR X (compareOp op) r)(ha:PE X a ta)(hb:PE X b tb)(hm:behindInMarks op b=false):PT X (.Compare a [op] [b] pos) (tTest (tOp r ta tb)):=by
 intro pins s σ H Q I h
 refine wpAny_isTrue_Compare1 (thn (ha pins s σ H _ I h) fun v s1 ⟨x,H1,I1,r1,q1⟩=>thn (hb pins s1 σ H1 _ I1 q1) fun u s2 ⟨y,H2,I2,r2,q2⟩ =>
  thn (ho pins s2 σ H2 x y v u _ I2 r1 r2 q2) fun c s3 ⟨z,H3,I3,r3,k,e,q3⟩=>?_) hm
 subst e
 cases r3
 exact wpAny_truthy_bool ⟨H3,I3,q3⟩
def tChain(r r':R2)(ta tb tc:TE):TE:=fun σ H Q=>ta σ H fun x H1=>tb σ H1 fun y H2=>r x y H2 fun z H3=>∃ k,z=.bl k ∧
 (if k=true then tc σ H3 fun w' H4=>r' y w' H4 Q else Q (.bl false) H3)
theorem line63:(sizeLine:Nat) < 2 ^ 63:=by rw[sizeLine_eq];decide
theorem vals1{x:V}{us:List Value}(r:Vals [x] us):∃ u,us=[u]∧RelV x u:=by
 cases r with
 | cons r1 r2=>cases r2;exact⟨_,rfl,r1⟩
theorem vals2{x y:V}{us:List Value}(r:Vals [x,y] us):∃ u w',us=[u,w']∧RelV x u∧RelV y w':=by
 cases r with
 | cons r1 r2 =>
  cases r2 with
  | cons r3 r4=>cases r4;exact⟨_,_,rfl,r1,r3⟩
theorem call_abs:CallR X (.builtin "abs") (fun xs H Q=>∃ i,xs=[.int i]∧Q (.int (if i < 0 then -i else i)) H):=by
 intro pins s σ H xs us Q I r h
 obtain⟨i,rfl,q⟩:=h
 obtain⟨u,rfl,t,rfl⟩:=vals1 r
 exact call_abs_int fun u tk=>⟨.int (if i < 0 then -i else i),H,I.tok _,⟨_,rfl⟩,q⟩
theorem call_max2(hc:X.calm=true):CallR X (.builtin "max") (fun xs H Q=>∃ i j,xs=[.int i,.int j]∧Q (.int (if j > i then j else i)) H):=by
 intro pins s σ H xs us Q I r h
 obtain⟨i,j,rfl,q⟩:=h
 obtain⟨u,w',rfl,⟨t,rfl⟩,⟨t',rfl⟩⟩:=vals2 r
 refine max_two_ints (I.ok.hd hc) fun h' tk k=>⟨_,H,I.kept k,?_,q⟩
 by_cases hj:j > i
 ·rw[if_pos hj,if_pos hj];exact⟨_,rfl⟩
 ·rw[if_neg hj,if_neg hj];exact⟨_,rfl⟩
end
end L2
namespace L2
open PySem PySem.Spec PyProof.Rows
structure ObjM(h:Heap)(x dx C:Addr)(mA:Str→Option Value):Prop where
 obj:h.get? x=some (PySem.W.instObj C dx)
 ns:h.Ns1 dx mA
 ne:dx≠x
theorem lookIn_ns{h:Heap}{dx:Addr}{mA:Str→Option Value}(n:h.Ns1 dx mA):∃ od,h.get? dx=some od∧∀ name,PySem.W.lookIn name od=some (mA name):=by
 obtain⟨o,es,ep,ho,hd,hk,_,hm⟩:=n
 refine⟨o,ho,fun name=>?_⟩
 have e:=hm name
 unfold nsFind findBy at e
 rw[← Array.find?_toList] at e
 unfold PySem.W.lookIn
 rw[hd]
 dsimp only
 split
 ·rename_i y q
  rw[q] at e
  exact congrArg some e
 ·rename_i q
  rw[q] at e
  have a:es.toList.any (·.refKey)=false:=by
   rw[List.any_eq_false]
   intro y hy
   obtain⟨z,t,hkey⟩:=hk y (Array.mem_toList_iff.mp hy)
   simp[DictEntry.refKey,hkey]
  have a':¬ es.toList.any (·.refKey)=true:=by rw[a];exact Bool.false_ne_true
  rw[if_neg a']
  exact congrArg some e
theorem ObjM.look{h:Heap}{x dx C:Addr}{mA:Str→Option Value}(I:ObjM h x dx C mA):∃ od,PySem.W.InstAt h x (PySem.W.instObj C dx) C (some od)∧∀ name,PySem.W.lookIn name od=some (mA name) :=
 let ⟨od,ho,hl⟩:=lookIn_ns I.ns
 ⟨od,⟨I.obj,rfl,rfl,ho⟩,hl⟩
section
variable {prog:Program}{w:World}{A:Around}{E:Value→Shared→Prop}{s:Shared}{K:PySem.W.Frag}{x dx C f:Addr}{mA:Str→Option Value}{name:Str}{v:Value}
end
section
variable {P:Program}{w:World}{H H':Hp}{h h':Heap}{a C dx:Addr}{fs fs':List (Str×V)}
theorem ins_get(hok:HOk P w H h)(e:H a=some (.ins C dx fs)):∃ mA,ObjM h a dx C mA∧(∀ f,RelO (fs.lookup f) (mA f))∧PySem.Within mA (fs.map (·.1))∧fs.length≤1000∧H dx=some (.own a):=by
 obtain⟨d,z,ne,ob,mA,n,r,q⟩:=(show ObjOk P w H h a (.ins C dx fs) from hok a _ e)
 exact⟨mA,⟨ob,n,ne⟩,r,q,z,d⟩
end
structure Cls(K:PySem.W.Frag)(C:Addr):Prop where
 pg:PySem.W.plainGet K C Str.empty=true
 hd:PySem.W.hasDictIn K C=true
 po:PySem.W.plainOver K C=true
 sa:PySem.W.findIn K (.ref C) "__setattr__" = some (some (.builtin "object.__setattr__"))
theorem Cls.get{K:PySem.W.Frag}{C:Addr}(c:Cls K C)(f:Str):PySem.W.plainGet K C f=true:=c.pg
structure Con(K:PySem.W.Frag)(C:Addr)(f:Str)(v:V)(u:Value):Prop where
 at_:PySem.W.findIn K (.ref C) f=some (some u)
 rel:RelV v u
 get:PySem.W.specialIn K u "__get__" = some none
 cp:PySem.W.copiedNames.contains f=false
structure Meth(K:PySem.W.Frag)(C:Addr)(m:Str)(f:Addr):Prop where
 at_:PySem.W.findIn K (.ref C) m=some (some (.ref f))
 fn:PySem.W.isFn K (.ref f)=true
 kp:PySem.W.keepIn K (.ref f)=true
section
variable {X:Cx}{pins:List (Addr×Obj)}{σ:St}{H:Hp}{s:Shared}{a C dx:Addr}{fs:List (Str×V)}{f:Str}{v:V}{A:Around}{E:Value→Shared→Prop}
end
section
variable {X:Cx}{o e value:Expr}{f:Str}{pos pos' tpos:Pos}{ta tv:TE}
end
section
variable {X:Cx}{pins:List (Addr×Obj)}{σ:St}{H:Hp}{s:Shared}{A:Around}{E:Value→Shared→Prop}{Q:Value→Shared→Prop}{c:Value}{b:Bool}
inductive TyOf (K:PySem.W.Frag) (H:Hp):V→Value→Prop where
 | non:TyOf K H .non (.type "NoneType")
 | bl (x:Bool):TyOf K H (.bl x) (.type "bool")
 | int (i:Int):TyOf K H (.int i) (.type "int")
 | str (x:Str):TyOf K H (.str x) (.type "str")
 | flt (x:UInt64):TyOf K H (.flt x) (.type "float")
 | lst {a:Addr} {xs:List V} (e:H a=some (.lst xs)):TyOf K H (.ref a) (.type "list")
 | frz {a:Addr} {o:Obj} {xs:List V} (e:H a=some (.frz o (.lst xs))):TyOf K H (.ref a) (.type "list")
 | tup {a:Addr} {xs:List V} (e:H a=some (.tup xs)):TyOf K H (.ref a) (.type "tuple")
 | dK {a:Addr} {kvs:List (Key×V)} (e:H a=some (.dK kvs)):TyOf K H (.ref a) (.type "dict")
 | dT {a:Addr} {kvs:List (List Key×V)} (e:H a=some (.dT kvs)):TyOf K H (.ref a) (.type "dict")
 | ins {a C dx:Addr} {fs:List (Str×V)} (e:H a=some (.ins C dx fs)) (cl:Cls K C) (ha:PySem.W.findIn K (.ref C) "__class__" = some (some (.builtin "object.__class__")))
   (hn:PySem.W.specialIn K (.builtin "object.__class__") "__get__" = some (some (.builtin "getset_descriptor.__get__"))) (htk:PySem.W.takesIn K (.builtin "object.__class__")=some true)
   (hm:PySem.W.mroIn K C (.type "object")=some true):TyOf K H (.ref a) (.ref C)
theorem isinst_ok{x:V}{u t:Value}(I:Inv X pins σ H s)(rx:RelV x u)(ty:TyOf X.K H x t)(e:PySem.W.kitOne X.K t c=some b)(h:∀ tk,Q (.bool b) { s with toks:=tk }) :
  wpAny (model X.prog X.w) A (call (.builtin "isinstance") [u,c]) Q E s:=by
 cases ty with
 | non=>cases (show u=Value.none from rx);exact PySem.W.kia_one PySem.W.kitx_none I.kIn True.intro e (fun z=>nomatch z) h
 | bl y=>cases (show u=Value.bool y from rx);exact PySem.W.kia_one PySem.W.kitx_bool I.kIn True.intro e (fun z=>nomatch z) h
 | int i=>obtain⟨t,q⟩:=(show ∃ t,u=Value.int i t from rx);cases q;exact PySem.W.kia_one PySem.W.kitx_int I.kIn True.intro e (fun z=>nomatch z) h
 | str y=>obtain⟨t,q⟩:=(show ∃ t,u=Value.str y t from rx);cases q;exact PySem.W.kia_one PySem.W.kitx_str I.kIn True.intro e (fun z=>nomatch z) h
 | flt y=>obtain⟨t,q⟩:=(show ∃ t,u=Value.float y t from rx);cases q;exact PySem.W.kia_one PySem.W.kitx_float I.kIn True.intro e (fun z=>nomatch z) h
 | @lst a xs ea =>
  cases (show u=Value.ref a from rx)
  obtain⟨_,_,n,_,h1⟩:=(show ObjOk X.prog X.w H s.heap a (.lst xs) from I.hok a _ ea)
  exact PySem.W.kia_one PySem.W.kitx_list I.kIn ⟨_,h1,rfl⟩ e (fun z=>nomatch z) h
 | @frz a ob xs ea =>
  cases (show u=Value.ref a from rx)
  obtain⟨_,_,_,n,_,h1⟩:=(show ObjOk X.prog X.w H s.heap a (.frz ob (.lst xs)) from I.hok a _ ea)
  exact PySem.W.kia_one PySem.W.kitx_list I.kIn ⟨_,h1,rfl⟩ e (fun z=>nomatch z) h
 | @tup a xs ea =>
  cases (show u=Value.ref a from rx)
  obtain⟨_,_,_,p⟩:=(show ObjOk X.prog X.w H s.heap a (.tup xs) from I.hok a _ ea)
  obtain⟨o,h1,h2,_⟩:=p
  exact PySem.W.kia_one PySem.W.kitx_tuple I.kIn ⟨o,h1,h2⟩ e (fun z=>nomatch z) h
 | @dK a kvs ea =>
  cases (show u=Value.ref a from rx)
  obtain⟨_,_,vs,_,p⟩:=(show ObjOk X.prog X.w H s.heap a (.dK kvs) from I.hok a _ ea)
  obtain⟨o,es,ep,h1,h2,_⟩:=p
  exact PySem.W.kia_one PySem.W.kitx_dict I.kIn ⟨o,h1,h2.1⟩ e (fun z=>nomatch z) h
 | @dT a kvs ea =>
  cases (show u=Value.ref a from rx)
  obtain⟨_,_,xs,_,o,es,ep,h1,h2,_⟩:=(show ObjOk X.prog X.w H s.heap a (.dT kvs) from I.hok a _ ea)
  exact PySem.W.kia_one PySem.W.kitx_dict I.kIn ⟨o,h1,h2.1⟩ e (fun z=>nomatch z) h
 | @ins a C dx fs ea cl ha hn htk hm =>
  cases (show u=Value.ref a from rx)
  obtain⟨mA,O,_⟩:=ins_get I.hok ea
  obtain⟨od,J,_⟩:=O.look
  exact PySem.W.kia_one (PySem.W.kitx_own (cl.get _) cl.hd ha hn htk hm) I.kIn J e (fun z=>nomatch z) h
end
end L2
namespace L2
open PySem PySem.Spec PyProof.Rows
structure Room(k:Nat)(A:Around):Prop where
 hd:A.handled=none
 dp:A.depth+3*k+5 < recursionLimit
 un:A.units+16*k+200 < cLine
theorem Room.mono{j k:Nat}{A:Around}(r:Room k A)(h:j≤k):Room j A:=⟨r.hd,by have:=r.dp;omega,by have:=r.un;omega⟩
theorem Room.deeper{k:Nat}{A:Around}(r:Room (k+1) A)(env:Env):Room k (A.deeper env) :=
 ⟨r.hd,by have:=r.dp;show A.depth+1+3*k+5 < _;omega,by have:=r.un;show A.units+3+16*k+200 < _;omega⟩
theorem Room.depth{k:Nat}{A:Around}(r:Room k A):A.depth < recursionLimit:=by have:=r.dp;omega
theorem Room.units{k:Nat}{A:Around}(r:Room k A):A.units+64 < cLine:=by have:=r.un;omega
def tNil:TA:=fun _ H Q=>Q [] H
def tCons(ta:TE)(tr:TA):TA:=fun σ H Q=>ta σ H fun x H1=>tr σ H1 fun xs H2=>Q (x::xs) H2
section
variable {X:Cx}{e:Expr}{es:List Expr}{te:TE}{t:TA}{pos:Pos}
theorem pa_nil:PA X [] tNil:=fun _ _ _ _ H Q I h=>Calls.spliced_nil ⟨[],H,I,.nil,h⟩
theorem pa_cons(ha:PE X e te)(hr:PA X es t)(hs:starEach (e::es) X.env=(false,eval e X.env)::starEach es X.env:=by rfl):PA X (e::es) (tCons te t):=by
 intro pos pins s σ H Q I h
 rw[hs]
 show wpAny _ _ (spliced ((false,eval e X.env)::backTo pos (starEach es X.env))) _ _ s
 refine Calls.spliced_cons (thn (ha pins s σ H _ I h) fun u s1 ⟨x,H1,I1,r1,q1⟩=>?_)
 exact thn (hr pos pins s1 σ H1 _ I1 q1) fun us s2 ⟨xs,H2,I2,r2,q2⟩=>⟨x::xs,H2,I2,.cons r1 r2,q2⟩
def tTup(t:TA):TE:=fun σ H Q=>t σ H fun xs H1=>xs.length≤sizeLine∧∀ p,H1 p=none→Q (.ref p) (upd H1 p (.tup xs))
def tLst(t:TA):TE:=fun σ H Q=>t σ H fun xs H1=>xs.length≤sizeLine∧∀ p,H1 p=none→Q (.ref p) (upd H1 p (.lst xs))
theorem pe_tup{x1}(h:PA X es t):PE X (.Tuple es x1 pos) (tTup t):=by
 intro pins s σ H Q I hq
 refine wpAny_Tuple_spliced (thn (h pos pins s σ H _ I hq) fun us s1 ⟨xs,H1,I1,r,z,q⟩=>⟨by rw[← r.length];exact z,?_⟩)
 have hf:H1 s1.heap.objs.size=none:=I1.hok.fresh (Nat.le_refl _)
 refine⟨.ref s1.heap.objs.size,upd H1 s1.heap.objs.size (.tup xs),I1.laid (t':=s1.toks) (fun b u e=>Heap.get?_push_of_some _ e) (Nat.le_refl _) ?_,rfl,q _ hf⟩
 exact⟨z,us,r,⟨_,Heap.get?_push_size _ rfl,rfl,_,rfl⟩⟩
theorem pe_lst(h:PA X es t):PE X (.List es pos) (tLst t):=by
 intro pins s σ H Q I hq
 refine wpAny_List_spliced (thn (h pos pins s σ H _ I hq) fun us s1 ⟨xs,H1,I1,r,z,q⟩=>⟨by rw[← r.length];exact z,?_⟩)
 have hf:H1 s1.heap.objs.size=none:=I1.hok.fresh (Nat.le_refl _)
 refine⟨.ref s1.heap.objs.size,upd H1 s1.heap.objs.size (.lst xs),I1.laid (t':=s1.toks) (fun b u e=>Heap.get?_push_of_some _ e) (Nat.le_refl _) ?_,rfl,q _ hf⟩
 exact⟨z,us,0,r,Heap.get?_push_size _ rfl⟩
end
abbrev Sp:=List V→Hp→VK→XK→Prop
abbrev CXT:=List Env→Hp→Shared→XK→Value→Shared→Prop
structure Env0(P:Program)(w:World)(K:PySem.W.Frag)(mg:Str→Option Value)(base:Heap)(A:Around)(outer:List Env)(s:Shared)(H:Hp):Prop where
 frames:A.frames=some outer
 mod:Mod K mg base
 bs:∀ b o,base.get? b=some o→s.heap.get? b=some o∧H b=none
 bsz:base.objs.size≤s.heap.objs.size
 funs:s.heap.FunFrames base outer
 frf:∀ b∈frs outer,H b=none
 hok:HOk P w H s.heap
 bare:AllBare s.gens
def CE(outer:List Env)(P:Program)(w:World)(H:Hp)(s:Shared)(Q:VK)(u:Value)(s':Shared):Prop :=
 ∃ v H',s'.os=s.os∧AllBare s'.gens∧Un (frs outer) [] H H' s.heap s'.heap∧HOk P w H' s'.heap∧RelV v u∧Q v H'
def CR(CX:CXT)(outer:List Env)(P:Program)(w:World)(H:Hp)(s:Shared)(Q:VK)(E:XK)(r:Result)(s':Shared):Prop :=
 match r with
 | .ok (.ret u)=>CE outer P w H s Q u s'
 | .ok _=>False
 | .error e=>CX outer H s E e s'
structure FnOk(P:Program)(w:World)(K:PySem.W.Frag)(mg:Str→Option Value)(base:Heap)(CX:CXT)(k:Nat)(f:Addr)(fd:FuncData)(ps:List Str)(sp:Sp):Prop where
 len:∀ vs H Q E,sp vs H Q E→vs.length=ps.length
 run:∀(A:Around)(outer:List Env)(s:Shared)(H:Hp)(args:Args)(us:List Value)(vs:List V)(Q:VK)(E:XK),Room k A→Env0 P w K mg base A outer s H→BindsTo s fd args (ps.zip us)→Vals vs us→sp vs H Q E →
  codeAny (model P w) A (.call (.ref f) args) (CR CX outer P w H s Q E) s
section
variable {X:Cx}{pins:List (Addr×Obj)}{σ:St}{H:Hp}{s s':Shared}
theorem Inv.env0(I:Inv X pins σ H s):Env0 X.prog X.w X.K X.mg X.base X.A X.stack s H :=
 ⟨I.ok.frames,I.ok.mod,I.bs,Nat.le_trans I.ok.bsz I.sz,I.stack,I.stkFree,I.hok,I.bare⟩
theorem Inv.after{Q:VK}{u:Value}(I:Inv X pins σ H s)(h:CE X.stack X.prog X.w H s Q u s'):EP X pins σ Q u s':=by
 obtain⟨v,H',os,bare,un,hok,r,q⟩:=h
 obtain⟨hh,g,d,t,os'⟩:=s'
 obtain rfl:os'=s.os:=os
 exact⟨v,H',I.call (h':=hh) (g':=g) (d':=d) (t':=t) (ch:=[]) un hok bare (fun b z=>absurd z (by simp)),r,q⟩
end
def tCall(sp:Sp)(dvs:List V)(E:XK)(t:TA):TE:=fun σ H Q=>t σ H fun vs H1=>sp (vs++dvs) H1 Q E
def Binds(K:PySem.W.Frag)(fd:FuncData)(ps:List Str)(ds:List Value):Prop :=
 ∀(s:Shared)(us:List Value),K.In s.heap→(us++ds).length=ps.length→BindsTo s fd ⟨us,[]⟩ (ps.zip (us++ds))
theorem Binds.all{K:PySem.W.Frag}{fd:FuncData}{ps:List Str}(h:∀ us:List Value,us.length=ps.length→bindArgs fd ⟨us,[]⟩=pure (ps.zip us)):Binds K fd ps []:=fun s us _ hl=>by
 rw[List.append_nil] at hl ⊢
 exact .of_eq (h us hl)
def Passes(CX:CXT)(X:Cx)(E:XK):Prop:=∀ (pins:List (Addr×Obj)) (σ:St) (H:Hp) (s:Shared) (e:Value) (s':Shared),Inv X pins σ H s→CX X.stack H s E e s'→X.xe e s'
section
variable {X:Cx}{CX:CXT}{k:Nat}{f C:Addr}{fd:FuncData}{ps:List Str}{sp:Sp}{dvs:List V}{ds:List Value}{E:XK}{x m:Str}{p pos apos:Pos}{e o:Expr}{es:List Expr}{ta:TE}{t:TA}
theorem run_fn{pins:List (Addr×Obj)}{σ:St}{H:Hp}{s:Shared}{Q:VK}{us:List Value}{vs:List V}(F:FnOk X.prog X.w X.K X.mg X.base CX k f fd ps sp)(hr:Room k X.A)(hb:Binds X.K fd ps ds)(hd:Vals dvs ds)(hx:Passes CX X E)
  (I:Inv X pins σ H s) (r:Vals vs us) (h:sp (vs++dvs) H Q E):wpAny (model X.prog X.w) X.A (call (.ref f) us) (EP X pins σ Q) X.xe s:=by
 have r2:Vals (vs++dvs) (us++ds):=r.append hd
 have hl:(us++ds).length=ps.length:=by rw[← r2.length];exact F.len _ _ _ _ h
 refine wpAny_call (codeAny_mono (F.run X.A X.stack s H ⟨us,[]⟩ (us++ds) (vs++dvs) Q E hr I.env0 (hb s us I.kIn hl) r2 h) fun r s' hq=>?_)
 cases r with
 | error e=>exact hx pins σ H s e s' I hq
 | ok fl =>
  cases fl with
  | ret u=>exact I.after hq
  | next=>exact False.elim hq
  | brk=>exact False.elim hq
  | cont=>exact False.elim hq
theorem pe_call(F:FnOk X.prog X.w X.K X.mg X.base CX k f fd ps sp)(hr:Room k X.A)(hg:Gl X x)(hm:X.mg x=some (.ref f))(hk:PySem.W.keepIn X.K (.ref f)=true)(hb:Binds X.K fd ps ds)(hd:Vals dvs ds)(hx:Passes CX X E)
  (ha:PA X (e::es) t) (hdb:(x == ("__debug__" : Str))=false:=by decide) (he:starEach (e::es) X.env=(false,eval e X.env)::starEach es X.env:=by rfl) (hpl:(backTo pos (starEach es X.env)).any (·.1)=false:=by rfl) :
  PE X (.Call (.Name x p) (e::es) [] pos) (tCall sp dvs E t):=by
 intro pins s σ H Q I h
 refine wpAny_Call_Name_kw (ld_glob I hg hm ?_ hdb)
 refine PySem.W.callWith_K (h₀:=X.base) I.ok.mod.kin hk (thn (ha pos pins s σ H _ I h) fun us s1 ⟨vs,H1,I1,r,q⟩=>⟨I1.kIn,?_⟩) he hpl
 exact run_fn F hr hb hd hx I1 r q
structure Mk(K:PySem.W.Frag)(C f:Addr):Prop where
 makes:PySem.W.makesIn K C=true
 init:PySem.W.findIn K (.ref C) "__init__" = some (some (.ref f))
 fn:PySem.W.isFn K (.ref f)=true
 kp:PySem.W.keepIn K (.ref C)=true
end
section
variable {X:Cx}{CX:CXT}{k:Nat}{f C:Addr}{fd:FuncData}{ps ks:List Str}{sp:Sp}{E:XK}{x m:Str}{p pos apos kpos:Pos}{e o:Expr}{es:List Expr}{kws:List Keyword}{te ta:TE}{t tk:TA}{nm:Option Str}
structure KBinds(K:PySem.W.Frag)(fd:FuncData)(ps ks:List Str)(g:List Value→List Value→List Value)(gV:List V→List V→List V):Prop where
 to:∀(s:Shared)(us ws:List Value),K.In s.heap→(g us ws).length=ps.length→BindsTo s fd ⟨us,ks.zip ws⟩ (ps.zip (g us ws))
 rel:∀{vs:List V}{us:List Value}{zs:List V}{ws:List Value},Vals vs us→Vals zs ws→Vals (gV vs zs) (g us ws)
variable {g:List Value→List Value→List Value}{gV:List V→List V→List V}
end
structure FnScope(N P:List Str)(sc:Scope):Prop where
 kind:sc.kind=.function
 co:sc.isCoroutine=false
 gen:sc.isGenerator=false
 nd:N.Nodup
 pre:N.take P.length=P
 par:∀ x∈P,sc.names.lookup x=some .local∨sc.names.lookup x=some .cell
 nofree:∀ y∈sc.names,y.2≠.free
theorem bindL_out{kindOf:Str→Option NameKind}{x:Str}:∀ {binds:List (Str×Value)} {m:Str→Option Value},(∀ v,(x,v)∉binds)→bindL kindOf binds m x=m x
 | [],_,_=>rfl
 | (n,v)::r,m,h=>by
  unfold bindL
  rw[bindL_out fun w hw=>h w (List.mem_cons_of_mem _ hw)]
  split
  ·have:x≠n:=by rintro rfl;exact h v List.mem_cons_self
   simp[this]
  ·rfl
theorem bindC_out{kindOf:Str→Option NameKind}{x:Str}:∀ {binds:List (Str×Value)} {m:Str→Option Value},(∀ v,(x,v)∉binds)→bindC kindOf binds m x=m x
 | [],_,_=>rfl
 | (n,v)::r,m,h=>by
  unfold bindC
  rw[bindC_out fun w hw=>h w (List.mem_cons_of_mem _ hw)]
  split
  ·rfl
  ·have:x≠n:=by rintro rfl;exact h v List.mem_cons_self
   simp[this]
theorem bindL_get{kindOf:Str→Option NameKind}{x:Str}{v:Value}:∀{P:List Str}{vs:List Value}{i:Nat}{m:Str→Option Value},P.Nodup→P[i]?=some x→vs[i]?=some v→kindOf x=some .local →
  bindL kindOf (P.zip vs) m x=some v
 | [],_,_,_,_,h,_,_=>by simp at h
 | _::_,[],_,_,_,_,h,_=>by simp at h
 | p::P,w::vs,0,m,nd,h1,h2,hk=>by
  simp at h1 h2;subst h1;subst h2
  show bindL kindOf ((p,w)::P.zip vs) m p=_
  unfold bindL
  rw[bindL_out fun v hv=>(List.nodup_cons.mp nd).1 (List.of_mem_zip hv).1,if_pos hk]
  simp
 | p::P,w::vs,i+1,m,nd,h1,h2,hk=>by
  show bindL kindOf ((p,w)::P.zip vs) m x=_
  unfold bindL
  exact bindL_get (i:=i) (List.nodup_cons.mp nd).2 (by simpa using h1) (by simpa using h2) hk
theorem bindC_get{kindOf:Str→Option NameKind}{x:Str}{v:Value}:∀{P:List Str}{vs:List Value}{i:Nat}{m:Str→Option Value},P.Nodup→P[i]?=some x→vs[i]?=some v→kindOf x≠some .local →
  bindC kindOf (P.zip vs) m x=some v
 | [],_,_,_,_,h,_,_=>by simp at h
 | _::_,[],_,_,_,_,h,_=>by simp at h
 | p::P,w::vs,0,m,nd,h1,h2,hk=>by
  simp at h1 h2;subst h1;subst h2
  show bindC kindOf ((p,w)::P.zip vs) m p=_
  unfold bindC
  rw[bindC_out fun v hv=>(List.nodup_cons.mp nd).1 (List.of_mem_zip hv).1,if_neg hk]
  simp
 | p::P,w::vs,i+1,m,nd,h1,h2,hk=>by
  show bindC kindOf ((p,w)::P.zip vs) m x=_
  unfold bindC
  exact bindC_get (i:=i) (List.nodup_cons.mp nd).2 (by simpa using h1) (by simpa using h2) hk
def start(N:List Str)(vs:List V):St:=vs.map some++List.replicate (N.length - vs.length) none
def cxOf(CX:CXT)(P:Program)(w:World)(K:PySem.W.Frag)(mg:Str→Option Value)(base:Heap)(N:List Str)(qual:Str)(scope:Scope)(f:Addr)(cd:Value)(A:Around)(outer:List Env)(s:Shared)(H:Hp)(E:XK):Cx where
 prog:=P
 w:=w
 K:=K
 mg:=mg
 base:=base
 A:=A.deeper (envOfC qual scope s.heap.objs.size f cd)
 N:=N
 s₀:=s
 H₀:=H
 env:=envOfC qual scope s.heap.objs.size f cd
 outer:=outer
 stack:=envOfC qual scope s.heap.objs.size f cd::outer
 ex:=[]
 calm:=true
 fn:=fun _=>true
 pn:=[]
 xe:=fun e s'=>wpAny (model P w) (A.deeper (envOfC qual scope s.heap.objs.size f cd)) (leaving (envOfC qual scope s.heap.objs.size f cd) e) (fun _ s''=>CX outer H s E e s'') (fun e' s''=>CX outer H s E e' s'') s'
theorem cell_has{sc:Scope}{n:Nat}{x:Str}(h:sc.names.lookup x=some .cell):∃ c,(cellsFrom n sc.names []).lookup x=some c:=by
 have q:=PySem.W.cellsFrom_some sc.names n [] (.inl h)
 exact Option.isSome_iff_exists.mp q
theorem inv_start{CX:CXT}{P:Program}{w:World}{K:PySem.W.Frag}{mg:Str→Option Value}{base:Heap}{N ps:List Str}{qual:Str}{scope:Scope}{f:Addr}{cd:Value}{A:Around}{outer:List Env}{s s1:Shared}{H:Hp}{E:XK}{us:List Value}{vs:List V}
  (S:FnScope N ps scope) (hd:A.handled=none) (e0:Env0 P w K mg base A outer s H) (hl:vs.length=ps.length) (r:Vals vs us)
  (x:InCallC s s.heap.objs.size (bindL (envOfC qual scope s.heap.objs.size f cd).kindOf (ps.zip us) fun _=>none) (cellsFrom (s.heap.objs.size+1) scope.names []) (bindC (envOfC qual scope s.heap.objs.size f cd).kindOf (ps.zip us) fun _=>none) s1) :
  Inv (cxOf CX P w K mg base N qual scope f cd A outer s H E) [] (start N vs) H s1:=by
 have hpl:ps.length≤N.length:=by have:=congrArg List.length S.pre;rw[List.length_take] at this;omega
 obtain⟨h1,tk,rfl,hk⟩:=x.done
 have noA:∀ b:Addr,b∉(cxOf CX P w K mg base N qual scope f cd A outer s H E).ex:=fun b z=>absurd (show b∈([]:List Addr) from z) (by simp)
 refine⟨⟨e0.mod,S.kind,rfl,rfl,Nat.le_refl _,fun y z c h1 h2=>?_,fun y hy=>?_,fun y c _ h=>?_,fun _=>hd,Around.frames_deeper e0.frames,.inr ⟨rfl,rfl⟩,fun b z=>absurd z (noA b),e0.bs,e0.bsz,fun b _ _=>noA b,fun b z=>absurd z (noA b),e0.funs,e0.frf⟩,
  rfl,e0.bare,Un.kept hk,⟨_,x.toInCall.ns,fun i y v h1 h2 h3=>?_⟩,fun y c h=>⟨_,x.cell y c h⟩,e0.hok.fresh (Nat.le_refl _),fun y c h=>?_,fun p hp=>absurd (show p∈([]:List (Addr×Obj)) from hp) (by simp),e0.hok.kept hk,?_⟩
 ·exact name_of_addr x.apart (PySem.mem_of_lookup h1) (PySem.mem_of_lookup h2)
 ·have hy:scope.names.lookup y=some .cell∨scope.names.lookup y=some .free:=hy
  rcases hy with hy | hy
  ·exact cell_has hy
  ·exact absurd rfl (S.nofree _ (PySem.mem_of_lookup hy))
 ·exact Nat.le_of_lt (x.above y c (PySem.mem_of_lookup h))
 ·have hi:i < vs.length:=by
   unfold start at h2
   by_cases hi:i < vs.length
   ·exact hi
   ·rw[List.getElem?_append_right (by simpa using hi)] at h2
    rw[List.getElem?_replicate] at h2
    split at h2<;>cases h2
  have ha:vs[i]?=some v:=by
   unfold start at h2
   rw[List.getElem?_append_left (by simpa using hi),List.getElem?_map] at h2
   cases e:vs[i]? with
   | none=>rw[e] at h2;cases h2
   | some a=>rw[e] at h2;cases h2;rfl
  obtain⟨u,hu,rv⟩:=r.get ha
  have hp:ps[i]?=some y:=by
   rw[← S.pre,List.getElem?_take_of_lt (by omega)];exact h1
  have ndP:ps.Nodup:=by rw[← S.pre];exact S.nd.sublist (List.take_sublist _ _)
  refine⟨u,rv,?_⟩
  rcases S.par y (List.mem_of_getElem? hp) with k | k
  ·exact .inl ⟨k,bindL_get ndP hp hu k⟩
  ·obtain⟨c,e⟩:=cell_has (n:=s.heap.objs.size+1) k
   refine .inr ⟨.inl k,c,e,?_⟩
   have q:=x.cell y c e
   rw[bindC_get ndP hp hu (by show scope.names.lookup y≠_;rw[k];decide)] at q
   exact q
 ·exact e0.hok.fresh (Nat.le_of_lt (x.above y c (PySem.mem_of_lookup h)))
 ·unfold start
  show _=N.length
  rw[List.length_append,List.length_map,List.length_replicate]
  omega
theorem fn_of{CX:CXT}{P:Program}{w:World}{K:PySem.W.Frag}{mg:Str→Option Value}{base:Heap}{k:Nat}{f:Addr}{name qual:Str}{params:Arguments}{body:List Stmt}{scope:Scope}{dV kV doc pm cdv ct oc:Value}{an od:Option Addr}
  {osl:Array (Option Value)} {N ps:List Str} {sp:Sp} (lk:K.lookup f=some ⟨oc,od,.func (PySem.W.fnOf name qual params body scope dV kV doc pm an cdv ct),osl⟩) (hcd:PySem.W.codeIn K cdv qual=true) (S:FnScope N ps scope)
  (len:∀ vs H Q E,sp vs H Q E→vs.length=ps.length)
  (hbody:∀(A:Around)(outer:List Env)(s:Shared)(H:Hp)(vs:List V)(Q:VK)(E:XK),Room k (A.deeper (envOfC qual scope s.heap.objs.size f cdv))→sp vs H Q E →
   ∃ t,PSs (cxOf CX P w K mg base N qual scope f cdv A outer s H E) body t∧t { nx:=fun _ H'=>Q .non H',rt:=Q } (start N vs) H) :
  FnOk P w K mg base CX (k+1) f (PySem.W.fnOf name qual params body scope dV kV doc pm an cdv ct) ps sp:=by
 refine⟨len,fun A outer s H args us vs Q E hr e0 hb r hsp=>?_⟩
 have hl:=len _ _ _ _ hsp
 have KX:K.In s.heap:=e0.mod.kin.keeps fun b o e=>(e0.bs b o e).1
 have lim:s.heap.NoLimit:=e0.mod.nolimit.keeps fun b o e=>(e0.bs b o e).1
 have hkind:∀ y∈ps.zip us,scope.names.lookup y.1=some .local∨(scope.names.lookup y.1=some .cell∧((cellsFrom (s.heap.objs.size+1) scope.names []).lookup y.1).isSome=true):=fun ⟨n,v⟩ hy=>by
  rcases S.par n (List.of_mem_zip hy).1 with q | q
  ·exact .inl q
  ·exact .inr ⟨q,PySem.W.cellsFrom_some _ _ _ (.inl q)⟩
 refine codeAny_call_function hr.depth (KX _ _ lk) rfl S.co S.gen rfl (PySem.W.codeRec_of KX hcd) (hb _ _ _ _ ?_)
 refine wpAny_newFunctionEnv_cells S.kind hkind fun env he s1 x=>?_
 subst he
 refine⟨lim.keeps x.toInCall.keep,codeAny_func ?_⟩
 obtain⟨t,ht,hq⟩:=hbody A outer s H vs Q E (hr.deeper _) hsp
 have I:Inv (cxOf CX P w K mg base N qual scope f cdv A outer s H E) [] (start N vs) H s1:=inv_start S hr.hd e0 hl r x
 refine wpAny_mono (ht [] s1 (start N vs) H _ I hq) (fun fl s' hs=>?_) fun e s' hs=>hs
 have fin:∀{σ':St}{H':Hp}{v:V}{u:Value},Inv (cxOf CX P w K mg base N qual scope f cdv A outer s H E) [] σ' H' s'→RelV v u→Q v H'→CE outer P w H s Q u s' :=
  fun {σ' H' v u} J rv q=>⟨v,H',J.os,J.bare,J.base,J.hok,rv,q⟩
 cases fl with
 | ret u =>
  obtain⟨v,σ',H',J,rv,q⟩:=hs
  exact fin J rv q
 | next =>
  obtain⟨σ',H',J,q⟩:=hs
  exact fin (v:=V.non) (u:=Value.none) J rfl q
 | brk =>
  obtain⟨_,_,_,q⟩:=hs
  exact False.elim q
 | cont =>
  obtain⟨_,_,_,q⟩:=hs
  exact False.elim q
end L2
namespace L2
open PySem PySem.Spec PyProof.Rows
section
variable {X:Cx}{x:Str}{p pos:Pos}{e:Expr}{es:List Expr}{t:TA}{id T:String}{r:List V→Hp→VK→Prop}
def tCB(r:List V→Hp→VK→Prop)(t:TA):TE:=fun σ H Q=>t σ H fun vs H1=>r vs H1 Q
theorem pe_callB(hc:CallR X (.builtin id) r)(hg:Gl X x)(hm:X.mg x=none)(hv:bootBuiltins x=some (.builtin id))(ha:PA X (e::es) t)(hn:x ≠ "__name__" := by decide)(hdb:(x == ("__debug__" : Str))=false:=by decide)
  (he:starEach (e::es) X.env=(false,eval e X.env)::starEach es X.env:=by rfl) (hpl:(backTo pos (starEach es X.env)).any (·.1)=false:=by rfl):PE X (.Call (.Name x p) (e::es) [] pos) (tCB r t):=by
 intro pins s σ H Q I h
 refine wpAny_Call_Name_kw (ld_blt I hg hm hv ?_ hn hdb)
 exact PyProof.Rows.callWith_builtin1 (thn (ha pos pins s σ H _ I h) fun us s1 ⟨vs,H1,I1,r1,q1⟩=>hc pins s1 σ H1 vs us Q I1 r1 q1) he hpl
theorem pe_callTy(hc:CallR X (.type T) r)(hg:Gl X x)(hm:X.mg x=none)(hv:bootBuiltins x=some (.type T))(ha:PA X (e::es) t)(hn:x ≠ "__name__" := by decide)(hdb:(x == ("__debug__" : Str))=false:=by decide)
  (he:starEach (e::es) X.env=(false,eval e X.env)::starEach es X.env:=by rfl) (hpl:(backTo pos (starEach es X.env)).any (·.1)=false:=by rfl):PE X (.Call (.Name x p) (e::es) [] pos) (tCB r t):=by
 intro pins s σ H Q I h
 refine wpAny_Call_Name_kw (ld_blt I hg hm hv ?_ hn hdb)
 exact PyProof.Rows.callWith_type1 (thn (ha pos pins s σ H _ I h) fun us s1 ⟨vs,H1,I1,r1,q1⟩=>hc pins s1 σ H1 vs us Q I1 r1 q1) he hpl
end
end L2
namespace HT
open PySem PyProof.Rows
section
open PySem.SeqAt
open PySem.AutoSeq1 (wpAny_loadPart')
open PySem.MeetsSeq PySem.MeetsSeq2 PySem.MeetsSeq3
end
section
variable {prog:Program}{w:World}{A:Around}{E:Value→Shared→Prop}{s:Shared}
def sIx(n d:Nat):Option Int→Nat
 | none=>d
 | some v=>if v < 0 then (v+(n:Int)).toNat else min v.toNat n
theorem sIx_none(n d:Nat):sIx n d none=d:=rfl
theorem sIx_nat(n d k:Nat):sIx n d (some (k:Int))=min k n:=by
 show (if (k:Int) < 0 then ((k:Int)+(n:Int)).toNat else min (k:Int).toNat n)=min k n
 rw[if_neg (by omega),Int.toNat_natCast]
end
end HT
namespace L2
open PySem PySem.Spec PyProof.Rows
abbrev TO:=St→Hp→(Option Int→Hp→Prop)→Prop
def PO(X:Cx)(e:Option Expr)(t:TO):Prop :=
 ∀ (pins:List (Addr×Obj)) (s:Shared) (σ:St) (H:Hp) (Q:Option Int→Hp→Prop),Inv X pins σ H s→t σ H Q →
  wpAny (model X.prog X.w) X.A (evalPart e X.env) (fun u s'=>∃ o H',Inv X pins σ H' s'∧IsPart u o∧Q o H') X.xe s
def tNoPart:TO:=fun _ H Q=>Q none H
def tPart(t:TE):TO:=fun σ H Q=>t σ H fun x H1=>∃ i,x=.int i∧Q (some i) H1
section
variable {X:Cx}{e:Expr}{te:TE}{lo hi:Option Expr}{tl th:TO}{pos p2:Pos}
theorem po_none:PO X none tNoPart:=by
 intro pins s σ H Q I h
 rw[evalPart_none]
 exact wpAny_pure ⟨none,H,I,.none,h⟩
theorem po_some(h:PE X e te):PO X (some e) (tPart te):=by
 intro pins s σ H Q I hw
 rw[evalPart_some]
 refine thn (h pins s σ H _ I hw) fun u s1 ⟨x,H1,I1,r1,q1⟩=>?_
 obtain⟨i,rfl,q⟩:=q1
 obtain⟨t,rfl⟩:=r1
 exact⟨some i,H1,I1,.int i t,q⟩
def SlR(X:Cx)(r:V→Option Int→Option Int→Hp→VK→Prop):Prop :=
 ∀ (pins:List (Addr×Obj)) (s:Shared) (σ:St) (H:Hp) (x:V) (v vl vu:Value) (lo hi:Option Int) (sl:Addr) (Q:VK),Inv X pins σ H s→RelV x v→s.heap.IsSliceOf sl vl vu .none→IsPart vl lo→IsPart vu hi→r x lo hi H Q →
  ∃ T id,typeLookup (.type T) "__getitem__" = pure (some (.builtin id))∧s.TypeIs v T∧wpAny (model X.prog X.w) X.A (getItem v (.ref sl)) (EP X pins σ Q) X.xe s
def tSl(r:V→Option Int→Option Int→Hp→VK→Prop)(te:TE)(tl th:TO):TE:=fun σ H Q=>te σ H fun x H1=>tl σ H1 fun l H2=>th σ H2 fun u H3=>r x l u H3 Q
theorem pe_slice{r:V→Option Int→Option Int→Hp→VK→Prop}(hr:SlR X r)(he:PE X e te)(hl:PO X lo tl)(hu:PO X hi th):PE X (.Subscript e (.Slice lo hi none p2) pos) (tSl r te tl th):=by
 intro pins s σ H Q I h
 refine Subscript_ (thn (he pins s σ H _ I h) fun v s1 ⟨x,H1,I1,r1,q1⟩=>?_)
 refine wpAny_Slice (thn (hl pins s1 σ H1 _ I1 q1) fun vl s2 ⟨l,H2,I2,pl,q2⟩=>thn (hu pins s2 σ H2 _ I2 q2) fun vu s3 ⟨u,H3,I3,pu,q3⟩=>?_)
 rw[evalPart_none]
 refine wpAny_pure ?_
 have I4:Inv X pins σ H3 { s3 with heap:=s3.heap.push { cls:=.type "slice", data:=.fields #[vl,vu,.none] } }:=I3.kept (t':=s3.toks) fun b ob q=>Heap.get?_push_of_some _ q
 obtain⟨T,id,hT,ht,hg⟩:=hr pins { s3 with heap:=s3.heap.push { cls:=.type "slice", data:=.fields #[vl,vu,.none] } } σ H3 x v vl vu l u s3.heap.objs.size Q I4 r1 (Heap.IsSliceOf.new ..) pl pu q3
 show wpAny (model X.prog X.w) X.A (subscriptTail e (.Slice lo hi none p2) v (.ref s3.heap.objs.size)) (EP X pins σ Q) X.xe { s3 with heap:=s3.heap.push { cls:=.type "slice", data:=.fields #[vl,vu,.none] } }
 exact tail_any (ops:=[.ref s3.heap.objs.size,v]) ht hT hg (by with_unfolding_all rfl)
def cutV(xs:List V)(lo hi:Option Int):List V:=(xs.drop (HT.sIx xs.length 0 lo)).take (HT.sIx xs.length xs.length hi - HT.sIx xs.length 0 lo)
theorem cutV_length(xs:List V)(lo hi:Option Int):(cutV xs lo hi).length≤xs.length:=by
 unfold cutV
 rw[List.length_take,List.length_drop]
 omega
end
end L2
namespace L2
open PySem PySem.Spec PyProof.Rows
def ixN(n:Nat)(i:Int):Option Nat:=if 0≤i then (if i < n then some i.toNat else none) else if -(n:Int)≤i then some (i+n).toNat else none
def atI{α:Type}(xs:List α)(i:Int):Option α:=(ixN xs.length i).bind fun j=>xs[j]?
theorem ixN_seq{n:Nat}{i:Int}{j:Nat}(h:ixN n i=some j):seqIndex? i n=some j∧j < n∧-(n:Int)≤i∧i < n:=by
 unfold ixN at h
 by_cases h0:0≤i
 ·rw[if_pos h0] at h
  by_cases h1:i < n
  ·rw[if_pos h1] at h
   have e:i.toNat=j:=Option.some.inj h
   exact⟨by rw[seqIndex_of h0 h1,e],by omega,by omega,h1⟩
  ·rw[if_neg h1] at h;cases h
 ·rw[if_neg h0] at h
  by_cases h1:-(n:Int)≤i
  ·rw[if_pos h1] at h
   have e:(i+n).toNat=j:=Option.some.inj h
   exact⟨by rw[seqIndex_neg (by omega) h1,e],by omega,h1,by omega⟩
  ·rw[if_neg h1] at h;cases h
theorem atI_get{α:Type}{xs:List α}{i:Int}{v:α}(h:atI xs i=some v):∃ j,seqIndex? i xs.length=some j∧xs[j]?=some v∧j < xs.length∧-(xs.length:Int)≤i∧i < xs.length:=by
 unfold atI at h
 cases e:ixN xs.length i with
 | none=>rw[e] at h;cases h
 | some j =>
  rw[e] at h
  obtain⟨h1,h2,h3,h4⟩:=ixN_seq e
  exact⟨j,h1,h,h2,h3,h4⟩
theorem atI_nat{α:Type}{xs:List α}{j:Nat}{v:α}(h:xs[j]?=some v):atI xs (j:Int)=some v:=by
 have hj:j < xs.length:=(List.getElem?_eq_some_iff.mp h).1
 have e:ixN xs.length (j:Int)=some j:=by
  unfold ixN
  rw[if_pos (by omega),if_pos (by omega)];simp
 unfold atI;rw[e];exact h
def PlainIx(b:Expr):Prop:=∀ o i,subscripted b false o i=operate [o,i] (getItem o i)
def IxR(X:Cx)(r:R2):Prop :=
 ∀(value slice:Expr) (pins:List (Addr×Obj)) (s:Shared) (σ:St) (H:Hp) (x y:V) (v u:Value) (Q:VK),Inv X pins σ H s→RelV x v→RelV y u→r x y H Q →
  subscripted slice false v u=operate [v,u] (getItem v u)→wpAny (model X.prog X.w) X.A (subscriptTail value slice v u) (EP X pins σ Q) X.xe s
def MtR(X:Cx)(id:String)(r:V→List V→Hp→VK→Prop):Prop :=
 ∀ (pins:List (Addr×Obj)) (s:Shared) (σ:St) (H:Hp) (x:V) (xs:List V) (v:Value) (us:List Value) (Q:VK),Inv X pins σ H s→RelV x v→Vals xs us→r x xs H Q →
  wpAny (model X.prog X.w) X.A (call (.builtin id) (v::us)) (EP X pins σ Q) X.xe s
section
variable {X:Cx}{a b:Expr}{ta tb:TE}{pos:Pos}
theorem pe_ix{r:R2}(hr:IxR X r)(ha:PE X a ta)(hb:PE X b tb)(hs:PlainIx b):PE X (.Subscript a b pos) (tOp r ta tb):=by
 intro pins s σ H Q I h
 exact Subscript_ (binT ha hb I h fun v u s2 x y H2 I2 rx ry q=>hr a b pins s2 σ H2 x y v u Q I2 rx ry q (hs _ _))
def rIxL(K:PySem.W.Frag):R2:=fun x y H Q=>∃ p xs i v,x=.ref p∧y=.int i∧SqL K H p xs∧atI xs i=some v∧Q v H
def rIxT(K:PySem.W.Frag):R2:=fun x y H Q=>∃ p xs i v,x=.ref p∧y=.int i∧SqT K H p xs∧atI xs i=some v∧Q v H
theorem ix_list:IxR X (rIxL X.K):=by
 intro value slice pins s σ H x y v u Q I rx ry h hs
 obtain⟨p,xs,i,z,rfl,rfl,hq,he,q⟩:=h
 cases rx
 obtain⟨t,rfl⟩:=ry
 obtain⟨its,r,pl,hz⟩:=I.list hq
 obtain⟨j,h1,h2,h3,h4,h5⟩:=atI_get he
 obtain⟨w,ew,rw'⟩:=r.get h2
 have hl:=r.length
 have hn:=line63
 have fin:EP X pins σ Q w s:=⟨z,H,I,rw',q⟩
 by_cases h0:0≤i
 ·have hj:i.toNat=j:=by
   rw[seqIndex_of h0 h5] at h1
   exact Option.some.inj h1
  exact item_listR pl.isList h0 (by omega) (by rw[hj];simpa using ew) fin hs
 ·have hj:(i+(its.toArray.size:Int)).toNat=j:=by
   rw[seqIndex_neg (by omega) h4] at h1
   rw[List.size_toArray,← hl]
   exact Option.some.inj h1
  exact subscriptTail_builtinR (x:=w) pl.isList.typeIs slot_list_getitem.lookup
   (wpAny_getItem_list_neg (Q:=fun r s'=>r=w∧EP X pins σ Q r s') pl.isList (by omega) (by rw[List.size_toArray]<;>omega) (by omega) (by rw[hj];simpa using ew) ⟨rfl,fin⟩) hs
theorem ix_tup:IxR X (rIxT X.K):=by
 intro value slice pins s σ H x y v u Q I rx ry h hs
 obtain⟨p,xs,i,z,rfl,rfl,hq,he,q⟩:=h
 cases rx
 obtain⟨t,rfl⟩:=ry
 obtain⟨its,r,pl,hz⟩:=I.tuple hq
 obtain⟨j,h1,h2,h3,h4,h5⟩:=atI_get he
 obtain⟨w,ew,rw'⟩:=r.get h2
 have hl:=r.length
 have hn:=line63
 have fin:EP X pins σ Q w s:=⟨z,H,I,rw',q⟩
 exact subscriptTail_builtinR (x:=w) pl.typeIs slot_tuple_getitem.lookup
  (getItem_tuple (j:=j) (Q:=fun r s'=>r=w∧EP X pins σ Q r s') pl (by omega) (by omega) (by rw[List.size_toArray,← hl];exact h1) (by simpa using ew) ⟨rfl,fin⟩) hs
theorem mapSeq_set(its:List Value)(n j:Nat)(u:Value):Obj.mapSeq (·.setIfInBounds j u) { cls:=.type "list", data:=.seq its.toArray n }={ cls:=.type "list", data:=.seq (its.set j u).toArray n }:=by
 simp[Obj.mapSeq]
theorem Inv.lst{pins:List (Addr×Obj)}{σ:St}{H:Hp}{s:Shared}{p:Addr}{xs:List V}(I:Inv X pins σ H s)(h:H p=some (.lst xs)) :
  ∃(its:List Value)(n:Nat),Vals xs its∧s.heap.get? p=some { cls:=.type "list", data:=.seq its.toArray n }∧xs.length≤sizeLine:=by
 obtain⟨z,its,n,r,e⟩:=I.hok p _ h
 exact⟨its,n,r,e,z⟩
theorem Inv.lstUpd{pins:List (Addr×Obj)}{σ:St}{H:Hp}{s:Shared}{p:Addr}{xs ys:List V}{its its':List Value}{n n':Nat}{f:Obj→Obj}(I:Inv X pins σ H s)(h:H p=some (.lst xs))
  (ho:s.heap.get? p=some { cls:=.type "list", data:=.seq its.toArray n }) (hf:f { cls:=.type "list", data:=.seq its.toArray n }={ cls:=.type "list", data:=.seq its'.toArray n' }) (r:Vals ys its') (hz:ys.length≤sizeLine) (t:Nat) :
  Inv X pins σ (upd H p (.lst ys)) { s with heap:=s.heap.update p f,toks:=t }:=by
 have e:(s.heap.update p f).get? p=some { cls:=.type "list", data:=.seq its'.toArray n' }:=by
  rw[Heap.get?_update_self f ho (by rw[hf]<;>rfl),hf]
 refine I.write (x:=p) (e:=p) (by rw[h];trivial) (.inl rfl) (fun b u hb q=>(Heap.get?_update_other _ _ (Ne.symm hb)).trans q) ⟨_,e⟩ ?_
 exact⟨hz,its',n',r,e⟩
def rSetL:V→V→V→Hp→(Hp→Prop)→Prop:=fun o i v H Q=>∃ p xs k j,o=.ref p∧i=.int k∧H p=some (.lst xs)∧ixN xs.length k=some j∧Q (upd H p (.lst (xs.set j v)))
theorem set_list:PSet X rSetL:=by
 intro pins s σ H o i v ov iv u Q I ro ri rv h
 obtain⟨p,xs,k,j,rfl,rfl,hp,hj,q⟩:=h
 cases ro
 obtain⟨t,rfl⟩:=ri
 obtain⟨its,n,r,ho,hz⟩:=I.lst hp
 obtain⟨h1,h2,h3,h4⟩:=ixN_seq hj
 have hl:=r.length
 have hn:=line63
 have I':Inv X pins σ (upd H p (.lst (xs.set j v))) { s with heap:=s.heap.update p (Obj.mapSeq (·.setIfInBounds j u)) } :=
  I.lstUpd hp ho (mapSeq_set its n j u) (r.set rv j) (by rw[List.length_set];exact hz) s.toks
 by_cases h0:0≤k
 ·have hk:k.toNat=j:=by
   rw[seqIndex_of h0 h4] at h1
   exact Option.some.inj h1
  exact PySem.W.ki_setAt ho h0 (by omega) (by rw[List.size_toArray,← hl];exact h4) (by rw[hk];exact⟨_,I',q⟩)
 ·have hk:(k+(its.toArray.size:Int)).toNat=j:=by
   rw[seqIndex_neg (by omega) h3] at h1
   rw[List.size_toArray,← hl]
   exact Option.some.inj h1
  exact PySem.W.ki_setBack ho (by omega) (by rw[List.size_toArray,← hl];exact h3) (by omega) (by rw[hk];exact⟨_,I',q⟩)
theorem slice_bounds(lo hi:Option Int)(n:Nat):(sliceBounds lo hi none n).1=((HT.sIx n 0 lo:Nat):Int)∧(sliceBounds lo hi none n).2.1=((HT.sIx n n hi:Nat):Int)∧(sliceBounds lo hi none n).2.2=1:=by
 refine⟨?_,?_,rfl⟩
 ·cases lo with
  | none=>simp[sliceBounds,HT.sIx]
  | some i =>
   simp only[sliceBounds,HT.sIx,Option.getD_none,show (1:Int) > 0 by decide,if_true]
   by_cases h:i < 0
   ·simp only[h,if_true]<;>omega
   ·simp only[h,if_false]<;>omega
 ·cases hi with
  | none=>simp[sliceBounds,HT.sIx]
  | some i =>
   simp only[sliceBounds,HT.sIx,Option.getD_none,show (1:Int) > 0 by decide,if_true]
   by_cases h:i < 0
   ·simp only[h,if_true]<;>omega
   ·simp only[h,if_false]<;>omega
theorem slicePick_cut(its:List Value)(lo hi:Option Int):slicePick its.toArray lo hi none=((its.drop (HT.sIx its.length 0 lo)).take (HT.sIx its.length its.length hi - HT.sIx its.length 0 lo)).toArray:=by
 obtain⟨h1,h2,h3⟩:=slice_bounds lo hi its.toArray.size
 unfold slicePick
 rw[h1,h2,h3]
 simp only[sliceRange_one,pick_run,List.size_toArray]<;>rfl
def rSlL(K:PySem.W.Frag):V→Option Int→Option Int→Hp→VK→Prop:=fun x lo hi H Q=>∃ a xs,x=.ref a∧SqL K H a xs∧∀ p,H p=none→Q (.ref p) (upd H p (.lst (cutV xs lo hi)))
theorem sl_list:SlR X (rSlL X.K):=by
 intro pins s σ H x v vl vu lo hi sl Q I rx hs pl pu h
 obtain⟨a,xs,rfl,hx,q⟩:=h
 cases rx
 obtain⟨its,r,ht,hz⟩:=I.list hx
 have hlen:=r.length
 refine⟨"list", _,slot_list_getitem.lookup,ht.isList.typeIs,?_⟩
 refine wpAny_getItem_list_slice ht.isList hs pl pu .none (by simp) ?_ (by rw[List.size_toArray]<;>omega)
 rw[slicePick_cut,← hlen]
 refine⟨.ref s.heap.objs.size,_,I.laid (t':=s.toks) (o:=.lst (cutV xs lo hi)) (fun b ob q=>Heap.get?_push_of_some _ q) (Nat.le_refl _) ?_,rfl,q _ (I.hok.fresh (Nat.le_refl _))⟩
 exact⟨Nat.le_trans (cutV_length xs lo hi) hz,_,0,(r.drop (HT.sIx xs.length 0 lo)).take (HT.sIx xs.length xs.length hi - HT.sIx xs.length 0 lo),Heap.get?_push_size _ rfl⟩
def flatV:V→Bool
 | .non=>true
 | .bl _=>true
 | .int _=>true
 | .str _=>true
 | _=>false
def eqV:V→V→Bool
 | .non,.non=>true
 | .bl a,.bl b=>a == b
 | .bl a,.int b=>(if a then 1 else 0) == b
 | .int a,.bl b=>a == (if b then 1 else 0)
 | .int a,.int b=>a == b
 | .str a,.str b=>a == b
 | _,_=>false
theorem eqAt_V{A:Around}{s:Shared}{y x:V}{u v:Value}(ry:RelV y u)(rx:RelV x v)(fy:flatV y=true)(fx:flatV x=true):SeqAt.EqAt A s u v (eqV y x):=by
 cases y with
 | non =>
  cases ry
  cases x with
  | non=>cases rx;exact SeqAt.EqAt.same _
  | bl b=>cases rx;exact SeqAt.EqAt.none_bool b
  | int b=>obtain⟨t,rfl⟩:=rx;exact SeqAt.EqAt.none_int b t
  | str b=>obtain⟨t,rfl⟩:=rx;exact SeqAt.EqAt.none_str b t
  | _=>exact absurd (show false=true from fx) Bool.false_ne_true
 | bl a =>
  cases ry
  cases x with
  | non=>cases rx;exact SeqAt.EqAt.bool_none a
  | bl b=>cases rx;exact SeqAt.EqAt.bool_bool a b
  | int b=>obtain⟨t,rfl⟩:=rx;exact SeqAt.EqAt.bool_int a b t
  | str b=>obtain⟨t,rfl⟩:=rx;exact SeqAt.EqAt.bool_str a b t
  | _=>exact absurd (show false=true from fx) Bool.false_ne_true
 | int a =>
  obtain⟨t',rfl⟩:=ry
  cases x with
  | non=>cases rx;exact SeqAt.EqAt.int_none a t'
  | bl b=>cases rx;exact SeqAt.EqAt.int_bool a t' b
  | int b=>obtain⟨t,rfl⟩:=rx;exact SeqAt.EqAt.int_int a t' b t
  | str b=>obtain⟨t,rfl⟩:=rx;exact SeqAt.EqAt.int_str a t' b t
  | _=>exact absurd (show false=true from fx) Bool.false_ne_true
 | str a =>
  obtain⟨t',rfl⟩:=ry
  cases x with
  | non=>cases rx;exact SeqAt.EqAt.str_none a t'
  | bl b=>cases rx;exact SeqAt.EqAt.str_bool a t' b
  | int b=>obtain⟨t,rfl⟩:=rx;exact SeqAt.EqAt.str_int a t' b t
  | str b=>obtain⟨t,rfl⟩:=rx;exact SeqAt.EqAt.str_str a t' b t
  | _=>exact absurd (show false=true from fx) Bool.false_ne_true
 | _=>exact absurd (show false=true from fy) Bool.false_ne_true
def eqU(x:V)(u:Value):Bool:=match u with
 | .none=>eqV .non x
 | .bool b=>eqV (.bl b) x
 | .int i _=>eqV (.int i) x
 | .str z _=>eqV (.str z) x
 | _=>false
theorem eqU_of{x y:V}{u:Value}(r:RelV y u)(f:flatV y=true):eqU x u=eqV y x:=by
 cases y with
 | non=>cases r;rfl
 | bl b=>cases r;rfl
 | int i=>obtain⟨t,rfl⟩:=r;rfl
 | str z=>obtain⟨t,rfl⟩:=r;rfl
 | _=>exact absurd (show false=true from f) Bool.false_ne_true
theorem any_eqU{x:V}:∀{xs:List V}{us:List Value},Vals xs us→xs.all flatV=true→us.any (eqU x)=xs.any fun y=>eqV y x
 | _,_,.nil,_=>rfl
 | y::xs,u::us,.cons r t,f=>by
  rw[List.all_cons,Bool.and_eq_true] at f
  rw[List.any_cons,List.any_cons,eqU_of r f.1,any_eqU t f.2]
theorem mem_eqAt{A:Around}{s:Shared}{x:V}{v:Value}(rx:RelV x v)(fx:flatV x=true):∀{xs:List V}{us:List Value},Vals xs us→xs.all flatV=true→∀ u∈us,SeqAt.EqAt A s u v (eqU x u)
 | _,_,.nil,_=>fun u hu=>by cases hu
 | y::xs,u::us,.cons r t,f=>fun u' hu=>by
  rw[List.all_cons,Bool.and_eq_true] at f
  rcases List.mem_cons.mp hu with rfl | hu
  ·rw[eqU_of r f.1];exact eqAt_V r rx f.1 fx
  ·exact mem_eqAt rx fx t f.2 u' hu
def inV(x:V)(xs:List V):Bool:=xs.any fun y=>eqV y x
def rIn(K:PySem.W.Frag)(neg:Bool):R2:=fun x y H Q=>∃ p xs,y=.ref p∧(SqL K H p xs∨SqT K H p xs)∧flatV x=true∧xs.all flatV=true∧Q (.bl (if neg then !inV x xs else inV x xs)) H
theorem op_in_seq:OpR X (compareOp .In) (rIn X.K false):=by
 intro pins s σ H x y v u Q I rx ry h
 obtain⟨p,xs,rfl,hq,fx,fs,q⟩:=h
 cases ry
 rcases hq with hq | hq
 ·obtain⟨its,r,pl,hz⟩:=I.list hq
  refine SeqAt.in_listAt (eqU x) pl.isList (fun w hw=>mem_eqAt rx fx r fs w (by simpa using hw)) ⟨.bl _,H,I,rfl,?_⟩
  rw[show its.toArray.any (eqU x)=its.any (eqU x) by simp,any_eqU r fs]
  exact q
 ·obtain⟨its,r,pl,hz⟩:=I.tuple hq
  refine SeqAt.in_tupleAt (eqU x) pl (fun w hw=>mem_eqAt rx fx r fs w (by simpa using hw)) ⟨.bl _,H,I,rfl,?_⟩
  rw[show its.toArray.any (eqU x)=its.any (eqU x) by simp,any_eqU r fs]
  exact q
theorem op_notIn_seq:OpR X (compareOp .NotIn) (rIn X.K true):=by
 intro pins s σ H x y v u Q I rx ry h
 obtain⟨p,xs,rfl,hq,fx,fs,q⟩:=h
 cases ry
 rcases hq with hq | hq
 ·obtain⟨its,r,pl,hz⟩:=I.list hq
  refine SeqAt.notIn_listAt (eqU x) pl.isList (fun w hw=>mem_eqAt rx fx r fs w (by simpa using hw)) ⟨.bl _,H,I,rfl,?_⟩
  rw[show its.toArray.any (eqU x)=its.any (eqU x) by simp,any_eqU r fs]
  exact q
 ·obtain⟨its,r,pl,hz⟩:=I.tuple hq
  refine SeqAt.notIn_tupleAt (eqU x) pl (fun w hw=>mem_eqAt rx fx r fs w (by simpa using hw)) ⟨.bl _,H,I,rfl,?_⟩
  rw[show its.toArray.any (eqU x)=its.any (eqU x) by simp,any_eqU r fs]
  exact q
theorem call_len_seq:CallR X (.builtin "len") (fun xs H Q=>∃ p ys,xs=[.ref p]∧(SqL X.K H p ys∨SqT X.K H p ys)∧Q (.int ys.length) H):=by
 intro pins s σ H xs us Q I r h
 obtain⟨p,ys,rfl,hq,q⟩:=h
 obtain⟨u,rfl,rx⟩:=vals1 r
 cases rx
 have hn:=line63
 rcases hq with hq | hq
 ·obtain⟨its,r',pl,hz⟩:=I.list hq
  have hlen:=r'.length
  exact Calls.call_len_list pl.isList (by simp only[List.size_toArray]<;>omega) ⟨.int ys.length,H,I.tok _,⟨s.toks+1,by rw[List.size_toArray,hlen]⟩,q⟩
 ·obtain⟨its,r',pl,hz⟩:=I.tuple hq
  have hlen:=r'.length
  exact len_tuple pl (by simp only[List.size_toArray]<;>omega) ⟨.int ys.length,H,I.tok _,⟨s.toks+1,by rw[List.size_toArray,hlen]⟩,q⟩
theorem call_list_of:CallR X (.type "list") (fun xs H Q=>∃ p ys,xs=[.ref p]∧(SqL X.K H p ys∨SqT X.K H p ys)∧∀ l,H l=none→Q (.ref l) (upd H l (.lst ys))):=by
 intro pins s σ H xs us Q I r h
 obtain⟨p,ys,rfl,hq,q⟩:=h
 obtain⟨u,rfl,rx⟩:=vals1 r
 cases rx
 have fin:∀(its:List Value),Vals ys its→ys.length≤sizeLine→∀(h':Heap)(c':Nat),(∀ b o',s.heap.get? b=some o'→h'.get? b=some o') →
   h'.get? s.heap.objs.size=some { cls:=.type "list", dict:=none,data:=.seq its.toArray c',slots:=#[] }→EP X pins σ Q (.ref s.heap.objs.size) { s with heap:=h' }:=fun its r' hz h' c' kp e =>
  ⟨.ref s.heap.objs.size,_,I.laid (t':=s.toks) kp (Nat.le_refl _) (show ObjOk X.prog X.w _ h' _ (.lst ys) from ⟨hz,its,c',r',e⟩),rfl,q _ (I.hok.fresh (Nat.le_refl _))⟩
 rcases hq with hq | hq
 ·obtain⟨its,r',pl,hz⟩:=I.list hq
  have hlen:=r'.length
  obtain⟨o,ho,hc,n,hd⟩:=pl.isList
  exact call_list_seq p (.inl rfl) ho hc hd (fun h' c' kp e=>fin its r' hz h' c' kp e) (by simp only[List.size_toArray]<;>omega)
 ·obtain⟨its,r',pl,hz⟩:=I.tuple hq
  have hlen:=r'.length
  obtain⟨o,ho,hc,n,hd⟩:=pl
  exact call_list_seq p (.inr rfl) ho hc hd (fun h' c' kp e=>fin its r' hz h' c' kp e) (by simp only[List.size_toArray]<;>omega)
theorem call_tuple_of:CallR X (.type "tuple") (fun xs H Q=>∃ p ys,xs=[.ref p]∧((SqL X.K H p ys∧∀ l,H l=none→Q (.ref l) (upd H l (.tup ys)))∨(SqT X.K H p ys∧Q (.ref p) H))):=by
 intro pins s σ H xs us Q I r h
 obtain⟨p,ys,rfl,h⟩:=h
 obtain⟨u,rfl,rx⟩:=vals1 r
 cases rx
 rcases h with ⟨hq,q⟩ | ⟨hq,q⟩
 ·obtain⟨its,r',pl,hz⟩:=I.list hq
  have hlen:=r'.length
  refine call_tuple_list pl.isList (fun h' kp=>?_) (by simp only[List.size_toArray]<;>omega)
  have I1:Inv X pins σ H { s with heap:=h' }:=I.kept (t':=s.toks) kp
  have I2:Inv X pins σ (upd H h'.objs.size (.tup ys)) { s with heap:=h'.push { cls:=.type "tuple", data:=.seq its.toArray } } :=
   I1.laid (t':=s.toks) (fun b o e=>Heap.get?_push_of_some _ e) (Nat.le_refl _) (show ObjOk X.prog X.w _ _ _ (.tup ys) from ⟨hz,its,r',IsTup.new _ _⟩)
  exact⟨.ref h'.objs.size,_,I2,rfl,q _ (I1.hok.fresh (Nat.le_refl _))⟩
 ·obtain⟨its,r',pl,hz⟩:=I.tuple hq
  exact call_tuple_same pl ⟨.ref p,H,I,rfl,q⟩
def tyV(K:PySem.W.Frag)(T:String)(x:V)(H:Hp):Prop:=match x with
 | .str _=>T = "str"
 | .int _=>T = "int"
 | .ref p=>(T = "list" ∧ ∃ xs,SqL K H p xs)∨(T = "tuple" ∧ ∃ o,K.lookup p=some o∧o.cls=.type "tuple" ∧ o.dict=none) ∨
   (T = "dict" ∧ ((∃ kvs,H p=some (.dK kvs))∨∃ kvs,H p=some (.dT kvs)))∨(T = "set" ∧ ∃ S n,H p=some (.set S n))
 | _=>False
theorem tyV_is{pins:List (Addr×Obj)}{σ:St}{H:Hp}{s:Shared}{T:String}{x:V}{v:Value}(I:Inv X pins σ H s)(r:RelV x v)(ty:tyV X.K T x H) :
  s.TypeIs v T∧∀ a,v=.ref a→∃ ob,s.heap.get? a=some ob∧ob.dict=none:=by
 cases x with
 | str z =>
  obtain⟨t,rfl⟩:=r
  cases (show T = "str" from ty)
  exact⟨typeIs_str s z t,fun _ e=>nomatch e⟩
 | int i =>
  obtain⟨t,rfl⟩:=r
  cases (show T = "int" from ty)
  exact⟨typeIs_int s i t,fun _ e=>nomatch e⟩
 | ref p =>
  cases r
  rcases ty with ⟨rfl,xs,hq⟩ | ⟨rfl,o,hk,hc,hd⟩ | ⟨rfl,hk⟩ | ⟨rfl,S,n,hk⟩
  ·obtain⟨its,_,pl,_⟩:=I.list hq
   refine⟨pl.isList.typeIs,fun a e=>?_⟩
   cases e
   obtain⟨o,n,e,c,hd,_⟩:=pl
   exact⟨o,e,hd⟩
  ·refine⟨⟨o,I.kIn p o hk,hc⟩,fun a e=>?_⟩
   cases e
   exact⟨o,I.kIn _ o hk,hd⟩
  ·have z:∃ o,s.heap.get? p=some o∧o.ExactDict:=by
    rcases hk with ⟨kvs,hk⟩ | ⟨kvs,hk⟩
    ·obtain⟨_,_,_,_,o,_,_,e,ex,_⟩:=I.hok p _ hk
     exact⟨o,e,ex⟩
    ·obtain⟨_,_,_,_,o,_,_,e,ex,_⟩:=I.hok p _ hk
     exact⟨o,e,ex⟩
   obtain⟨o,e,ex⟩:=z
   refine⟨⟨o,e,ex.1⟩,fun a e2=>?_⟩
   cases e2
   exact⟨o,e,ex.2.1⟩
  ·obtain⟨o,_,_,_,e,ex,_⟩:=I.hok p _ hk
   refine⟨⟨o,e,ex.1⟩,fun a e2=>?_⟩
   cases e2
   exact⟨o,e,ex.2.1⟩
 | _=>exact False.elim ty
def tBM(K:PySem.W.Frag)(T:String)(r:V→List V→Hp→VK→Prop)(to:TE)(t:TA):TE:=fun σ H Q=>to σ H fun x H1=>tyV K T x H1∧t σ H1 fun xs H2=>r x xs H2 Q
variable {o e:Expr}{es:List Expr}{to:TE}{t:TA}{name:Str}{apos cpos:Pos}{T id:String}{r:V→List V→Hp→VK→Prop}
theorem pe_bm(pa:PlainAttrs T)(slot:Slot T name id)(hty:typeOf (.builtin id)=pure (.type "method_descriptor"))(hm:MtR X id r)(ho:PE X o to)(ha:PA X (e::es) t)
  (hbase:attributeBase o name X.env (eval o X.env)=eval o X.env:=by rfl)
  (hfew:((backTo cpos (starEach (e::es) X.env)).all (fun x=>!x.1) && (backToKw cpos (keywordEach [] X.env)).all (fun x=>x.1.isSome)
   && decide ((e::es).length+([]:List Keyword).length+(if ([]:List Keyword).isEmpty then 0 else 1) < 30))=true:=by rfl)
  (hline:(apos.endLine == cpos.line)=true:=by rfl) (hs:starEach (e::es) X.env=(false,eval e X.env)::starEach es X.env:=by rfl) (hplain:(backTo cpos (starEach es X.env)).any (·.1)=false:=by rfl) :
  PE X (.Call (.Attribute o name apos) (e::es) [] cpos) (tBM X.K T r to t):=by
 intro pins s σ H Q I h
 refine wpAny_Call_method_late hbase hfew hline rfl (thn (ho pins s σ H _ I h) fun v s1 ⟨x,H1,I1,r1,ty,q1⟩=>?_)
 obtain⟨h1,h2⟩:=tyV_is I1 r1 ty
 refine⟨T,id,pa,slot,hty,h1,h2,?_⟩
 have hA:=ha cpos pins s1 σ H1 _ I1 q1
 rw[hs] at hA ⊢
 refine Calls.callWith_builtin (by show (false || (backTo cpos (starEach es X.env)).any (·.1))=false;rw[hplain]<;>rfl) (Calls.evalArgs_plain ?_)
 exact thn hA fun us s2 ⟨vs,H2,I2,r2,q2⟩=>hm pins s2 σ H2 x vs v us Q I2 r1 r2 q2
end
end L2
namespace L2
open PySem PySem.Spec PyProof.Rows
def MtM(X:Cx)(id:String)(r:V→List V→Hp→VK→Prop):Prop :=
 ∀ (pins:List (Addr×Obj)) (s:Shared) (σ:St) (H:Hp) (x:V) (xs:List V) (v:Value) (us:List Value) (Q:VK),Inv X pins σ H s→RelV x v→Vals xs us→r x xs H Q →
  wpAny (model X.prog X.w) X.A (call (.builtin id) (v::us)) (EP X pins σ Q) X.xe s
theorem Vals.one:∀{x:V}{us:List Value},Vals [x] us→∃ u,us=[u]∧RelV x u
 | _,_,.cons r .nil=>⟨_,rfl,r⟩
theorem Vals.two:∀{x y:V}{us:List Value},Vals [x,y] us→∃ u v,us=[u,v]∧RelV x u∧RelV y v
 | _,_,_,.cons r (.cons q .nil)=>⟨_,_,rfl,r,q⟩
theorem Vals.eraseIdx:∀{xs:List V}{us:List Value}(i:Nat),Vals xs us→Vals (xs.eraseIdx i) (us.eraseIdx i)
 | _,_,_,.nil=>.nil
 | _,_,0,.cons _ t=>t
 | _,_,i+1,.cons r t=>.cons r (Vals.eraseIdx i t)
theorem len_erase{α:Type}:∀(l:List α)(i:Nat),(l.eraseIdx i).length≤l.length
 | [],_=>Nat.le_refl _
 | _::_,0=>Nat.le_succ _
 | _::r,i+1=>Nat.succ_le_succ (len_erase r i)
section
variable {X:Cx}{pins:List (Addr×Obj)}{σ:St}{H:Hp}{s:Shared}{l b:Addr}{xs ys zs:List V}
theorem Inv.lset{its its':List Value}{n:Nat}{f:Array Value→Array Value}{t':Nat}(I:Inv X pins σ H s)(hH:H l=some (.lst xs))
  (e:s.heap.get? l=some { cls:=.type "list", data:=.seq its.toArray n }) (hf:f its.toArray=its'.toArray) (hv:Vals ys its') (hz:ys.length≤sizeLine) :
  Inv X pins σ (upd H l (.lst ys)) { s with heap:=s.heap.update l (Obj.mapSeq f),toks:=t' }:=by
 have q:=PySem.IsL.update e f
 rw[hf] at q
 refine I.write (x:=l) (e:=l) (by rw[hH];exact trivial) (.inl rfl) (fun b' u hb hu=>(Heap.get?_update_other s.heap (Obj.mapSeq f) (Ne.symm hb)).trans hu) ⟨_,q⟩ ?_
 exact⟨hz,its',_,hv,q⟩
theorem Inv.lnew{its:List Value}{t':Nat}(I:Inv X pins σ H s)(hv:Vals ys its)(hz:ys.length≤sizeLine) :
  Inv X pins σ (upd H s.heap.objs.size (.lst ys)) { s with heap:=s.heap.push { cls:=.type "list", data:=.seq its.toArray },toks:=t' } :=
 I.laid (fun _ _ q=>Heap.get?_push_of_some _ q) (Nat.le_refl _) ⟨hz,its,0,hv,Heap.get?_push_size _ rfl⟩
theorem Inv.fresh(I:Inv X pins σ H s):H s.heap.objs.size=none:=I.hok.fresh (Nat.le_refl _)
theorem Inv.lstM(I:Inv X pins σ H s)(hH:H l=some (.lst xs)):xs.length≤sizeLine∧∃(its:List Value)(n:Nat),Vals xs its∧xs.length=its.length∧s.heap.get? l=some { cls:=.type "list", data:=.seq its.toArray n }:=by
 obtain⟨z,its,n,r,e⟩:=I.hok l _ hH
 exact⟨z,its,n,r,r.length,e⟩
end
section
variable {X:Cx}
def rAppend:V→List V→Hp→VK→Prop:=fun x vs H Q=>∃ l xs y,x=.ref l∧vs=[y]∧H l=some (.lst xs)∧xs.length < sizeLine∧Q .non (upd H l (.lst (xs++[y])))
theorem mt_append:MtM X "list.append" rAppend:=by
 intro pins s σ H x vs v us Q I rx rv h
 obtain⟨l,xs,y,rfl,rfl,hH,hz,q⟩:=h
 cases rx
 obtain⟨u,rfl,ru⟩:=rv.one
 obtain⟨z,its,n,r,hl,e⟩:=I.lstM hH
 refine call_meets F.slot_list_append ⟨_,e,rfl⟩ F.entry_list_append (F.args_list_append_2 _ _) (PySem.list_append l its.toArray n u (by rw[List.size_toArray];omega)) ⟨e,?_⟩
 refine⟨.non,_,I.lset (its':=its++[u]) hH e (by simp) (r.append (.cons ru .nil)) ?_,rfl,q⟩
 rw[List.length_append,List.length_singleton]
 omega
def rPopAt:V→List V→Hp→VK→Prop:=fun x vs H Q=>∃ l xs i k y,x=.ref l∧vs=[.int i]∧H l=some (.lst xs)∧-(2 ^ 63)≤i∧i < 2 ^ 63∧seqIndex? i xs.length=some k∧xs[k]?=some y∧Q y (upd H l (.lst (xs.eraseIdx k)))
theorem mt_popAt:MtM X "list.pop" rPopAt:=by
 intro pins s σ H x vs v us Q I rx rv h
 obtain⟨l,xs,i,k,y,rfl,rfl,hH,h1,h2,hk,hy,q⟩:=h
 cases rx
 obtain⟨u,rfl,ru⟩:=rv.one
 obtain⟨t,rfl⟩:=ru
 obtain⟨z,its,n,r,hl,e⟩:=I.lstM hH
 obtain⟨w,hw,rw'⟩:=r.get hy
 refine call_meets F.slot_list_pop ⟨_,e,rfl⟩ F.entry_list_pop (F.args_list_pop_2 _ _)
  (MeetsSeq.list_pop_at l its.toArray n i t k w (fitsIndex_both h1 h2) (by rw[List.size_toArray,← hl];exact hk) (by rw[← Array.getElem?_toList];exact hw) (by rw[List.size_toArray];omega)) ⟨e,?_⟩
 refine⟨y,_,I.lset (its':=its.eraseIdx k) hH e ?_ (r.eraseIdx k) ?_,rw',q⟩
 ·show its.toArray.eraseIdxIfInBounds k=(its.eraseIdx k).toArray
  rw[List.eraseIdxIfInBounds_toArray]
 ·have:=len_erase xs k
  omega
def rCat:R2:=fun x y H Q=>∃ l b xs zs,x=.ref l∧y=.ref b∧H l=some (.lst xs)∧H b=some (.lst zs)∧xs.length+zs.length≤sizeLine∧∀ p,H p=none→Q (.ref p) (upd H p (.lst (xs++zs)))
theorem op_cat:OpR X (binaryOp .Add) rCat:=by
 intro pins s σ H x y v u Q I rx ry h
 obtain⟨l,b,xs,zs,rfl,rfl,hH,hB,hz,q⟩:=h
 cases rx
 cases ry
 obtain⟨z,its,n,r,hl,e⟩:=I.lstM hH
 obtain⟨z2,its2,n2,r2,hl2,e2⟩:=I.lstM hB
 refine PySem.P.add_list e e2 ?_ (by rw[List.size_toArray,List.size_toArray];omega)
 have ea:its.toArray++its2.toArray=(its++its2).toArray:=by simp
 rw[ea]
 exact⟨.ref _,_,I.lnew (t':=s.toks) (r.append r2) (by rw[List.length_append];omega),rfl,q _ I.fresh⟩
end
section
variable {prog:Program}{w:World}{A:Around}{E:Value→Shared→Prop}{s:Shared}
end
section
variable {X:Cx}
end
end L2
namespace Att
open PySem PySem.W PySem.Calls PyProof.Rows
theorem ints_of_wellAll{P:Params}{h:Heap}:∀(ns:List Int)(vs:List Value),WellAll P h vs (ns.map WData.int)→IntsAre vs ns:=by
 intro ns
 induction ns with
 | nil =>
  intro vs w
  rw[List.map_nil] at w
  cases w
  exact .nil
 | cons n ns ih =>
  intro vs w
  rw[List.map_cons] at w
  cases w with
  | cons a b =>
   cases a
   exact .cons _ _ (ih _ b)
theorem script_of{l:OpenLaw}{n:Nat}(hn:l.most=some n){P:Params}{h:Heap}{args:List WData}{vals:List Value}
  (hpre:l.row.toRowW.claim.pre args=true) (hwl:WellAll P h vals args) :
  ∃ a vs ns,vals=[Value.ref a]∧args=[WData.list (ns.map WData.int)]∧h.get? a=some { cls:=.type "list", data:=.seq vs.toArray }∧IntsAre vs ns∧ns.length≤n:=by
 have hsh:WShape.hasAll [] args [.list .int]=true:=(pre_splitW hpre).1
 have hc:l.pre.holds [] { args:=args }=true:=(pre_splitW hpre).2
 obtain⟨d,r,rfl,h1,h2⟩:=hasAllW_cons hsh
 obtain rfl:=hasAllW_nil h2
 obtain⟨xs,rfl,h3⟩:=hasW_list h1
 obtain⟨ns,rfl⟩:=items_int h3
 have hlen:ns.length≤n:=by
  unfold OpenLaw.pre at hc
  have h4:(WTm.not (.lt (.lit (.int (n:Int))) (.len (.arg 0)))).holds [] { args:=[.list (ns.map .int)] }=true:=by
   have h4:=(holds_andW hc).1
   rw[hn] at h4
   exact h4
  have h5:=condW_of h4 (w_not (w_lt w_lit (w_len_list (w_arg rfl))))
  rw[List.length_map] at h5
  refine Nat.le_of_not_lt fun q=>?_
  have q':(n:Int) < ((ns.length:Nat):Int):=by omega
  first
   | (rw[decide_eq_true q'] at h5;exact absurd h5 (by decide))
   | (simp at h5;omega)
 cases hwl with
 | cons w1 w2 =>
  cases w2
  cases w1 with
  | list ho hall=>exact⟨_,_,ns,rfl,rfl,ho,ints_of_wellAll ns _ hall,hlen⟩
theorem post_true(l:OpenLaw)(args:List WData):l.row.toRowW.claim.post args (.bool true) args=true :=
 postW_of (r:=l.row.toRowW) (X:=(true == true))
  (show WShape.has [] (.bool true) .bool=true by first | rfl | decide | simp[WShape.has,WShape.arms,WShape.armsAll])
  (show (WTm.eq .res (.lit (.bool true))).value [] { args:=args,res:=some (.bool true),after:=args }=some (.bool (true == true)) from w_eq_bool (w_res rfl) w_lit) rfl
theorem attach_call{l:OpenLaw}{n:Nat}{q:Program}{loose:List Str}{XP:(Str→Option Value)→Heap→Prop}{YP:World→Heap→Prop}{d:DefRec}
  (hn:l.most=some n) (hdf:d.params.defaults=[])
  (call:∀(w:World)(s₀ s₁:Shared)(mg mb:Str→Option Value)(fa:Addr)(o:Obj)(pm cd doc:Value)(a:Addr)(vs:List Value)(ns:List Int),
   Ground q loose [] XP w s₀ mg mb s₁.heap→YP w s₁.heap →
   s₁.heap.get? fa=some o→o.data=.func (docDef d.name d.params d.body d.scope pm cd doc)→s₁.heap.CodeRec cd d.name→mg d.name=some (.ref fa) →
   s₁.heap.get? a=some { cls:=.type "list", data:=.seq vs.toArray }→IntsAre vs ns→ns.length≤n→s₁.gens=#[] →
   codeAny (model l.prog w) callerA (.call (.ref fa) ⟨[.ref a],[]⟩) (fun r s'=>r=.ok (.ret (.bool true))∧OldK s₁.heap s'.heap∧s'.os=s₁.os∧AllBare s'.gens) s₁) :
  WalkO q loose XP YP l.row.toRowW d [] (fun f vs=>PySem.call f vs):=by
 intro w s₀ s₁ mg mb G Y fa o pm cd doc dV kV ho hd hcd hD hmg hg args vals as hpre hlay hrd hwl hlo
 obtain rfl:dV=.none:=Dflts.none hD hdf
 obtain rfl:kV=.none:=Dflts.noKw hD
 obtain⟨a,vs,ns,rfl,rfl,hobj,hints,hlen⟩:=script_of hn hpre hwl
 refine enter_call (codeAny_mono (call w s₀ s₁ mg mb fa o pm cd doc a vs ns G Y ho (fd_plain hd) hcd hmg hobj hints hlen hg) fun r s' hq=>?_)
 obtain⟨rfl,h2,h3,h4⟩:=hq
 exact⟨.inl ⟨.bool true,.bool true,[],rfl,fun _=>rfl,.bool true,post_true l _,fun _=>⟨List.Pairwise.nil,fun _ hm=>(nomatch hm)⟩⟩,h2,h3,h4⟩
section
variable {prog:Program}{w:World}{A:Around}{E:Value→Shared→Prop}{s:Shared}{K:Frag}
end
end Att
namespace L2
open PySem PySem.Spec PyProof.Rows
theorem vals_ints:∀{vs:List Value}{ns:List Int},IntsAre vs ns→Vals (ns.map V.int) vs
 | _,_,.nil=>.nil
 | _,_,.cons n t h=>.cons ⟨t,rfl⟩ (vals_ints h)
def Only(H:Hp):Prop:=∀ b,H b=none∨∃ o xs,H b=some (.frz o (.lst xs))
theorem law_call{P:Program}{w:World}{K:PySem.W.Frag}{mg mb:Str→Option Value}{CX:CXT}{k:Nat}{fa a:Addr}{fd:FuncData}{x:Str}{sp:Sp}{s₁:Shared}{vs:List Value}{ns:List Int}
  (KX:K.In s₁.heap) (hns:s₁.heap.Ns mainGlobals mg) (hb:s₁.heap.Ns builtinsNs mb) (hbb:∀ x:Str,x ≠ "__name__" → mb x=bootBuiltins x) (hlim:s₁.heap.NoLimit) (hg:s₁.gens=#[])
  (ha:s₁.heap.get? a=some { cls:=.type "list", data:=.seq vs.toArray }) (hi:IntsAre vs ns) (hl:ns.length≤sizeLine) (hr:Room k callerA)
  (F:∀ base:Heap,K.In base→base.Ns mainGlobals mg→FnOk P w K mg base CX k fa fd [x] sp) (hbind:∀(s:Shared)(u:Value),BindsTo s fd ⟨[u],[]⟩ [(x,u)])
  (hsp:∀ H:Hp,Only H→SqL K H a (ns.map V.int)→sp [.ref a] H (fun v _=>v=.bl true) fun _ _ _=>False)
  (hCX:∀ H e s',CX [] H s₁ (fun _ _ _=>False) e s'→False) :
  codeAny (model P w) callerA (.call (.ref fa) ⟨[.ref a],[]⟩) (fun r s'=>r=.ok (.ret (.bool true))∧OldK s₁.heap s'.heap∧s'.os=s₁.os∧AllBare s'.gens) s₁:=by
 have rv:=vals_ints hi
 have lenV:=hi.length
 have core:∀ H:Hp,Only H→SqL K H a (ns.map V.int)→HOk P w H s₁.heap→(∀ b,H b≠none→b=a)→(H a≠none→K.lookup a=none) →
   codeAny (model P w) callerA (.call (.ref fa) ⟨[.ref a],[]⟩) (fun r s'=>r=.ok (.ret (.bool true))∧OldK s₁.heap s'.heap∧s'.os=s₁.os∧AllBare s'.gens) s₁:=by
  intro H hO hS hok hA hK
  have base_of:∀{b:Addr}{o:Obj},s₁.heap.get? b=some o→H b=none→(hidT s₁.heap H).get? b=some o:=fun e n=>hidT_get e n
  have noA:∀{b:Addr}{o:Obj}{es:Array DictEntry}{ep:Nat},s₁.heap.get? b=some o→o.data=.dict es ep→H b=none:=fun {b o es ep} e d=>by
   cases q:H b with
   | none=>rfl
   | some u =>
    have e':b=a:=hA b (by rw[q];simp)
    subst e'
    rw[ha] at e;cases e
    have d':Data.seq vs.toArray _=Data.dict es ep:=d
    cases d'
  have nsK:∀{b:Addr}{m:Str→Option Value},s₁.heap.Ns b m→(hidT s₁.heap H).Ns b m:=fun {b m} ⟨o,es,ep,e,d,r⟩=>⟨o,es,ep,base_of e (noA e d),d,r⟩
  have hKb:K.In (hidT s₁.heap H):=fun b o e=>base_of (KX b o e) (by
   cases q:H b with
   | none=>rfl
   | some u =>
    have e':b=a:=hA b (by rw[q];simp)
    subst e'
    rw[hK (by rw[q];simp)] at e;cases e)
  have hM:Mod K mg (hidT s₁.heap H):=⟨hKb,nsK hns,⟨mb,nsK hb,hbb⟩,let ⟨mc,h1,h2⟩:=hlim;⟨mc,nsK h1,h2⟩⟩
  have e0:Env0 P w K mg (hidT s₁.heap H) callerA [] s₁ H:=⟨rfl,hM,fun b o e=>of_hidT e,Nat.le_of_eq (hidT_size _ _),trivial,fun b hb=>absurd (show b∈([]:List Addr) from hb) (by simp),hok,.of_eq hg⟩
  refine codeAny_mono ((F _ hKb (nsK hns)).run callerA [] s₁ H ⟨[.ref a],[]⟩ [.ref a] [.ref a] _ _ hr e0 (hbind s₁ (.ref a)) (.cons rfl .nil) (hsp H hO hS)) fun r s' h=>?_
  cases r with
  | error e=>exact (hCX H e s' h).elim
  | ok fl =>
   cases fl with
   | next=>exact False.elim h
   | brk=>exact False.elim h
   | cont=>exact False.elim h
   | ret u =>
    obtain⟨v,H',os,bare,un,hok',r',q⟩:=h
    have q':v=.bl true:=q
    subst q'
    obtain rfl:u=Value.bool true:=r'
    refine⟨rfl,OldK.of_keep fun b o e=>?_,os,bare⟩
    cases q:H b with
    | none=>exact un.keep b o e q (by intro z;exact absurd (show b∈([]:List Addr) from z) (by simp)) (by simp)
    | some u =>
     rcases hO b with z | ⟨ob,xs,z⟩
     ·rw[q] at z;cases z
     ·have z2:=un.frzs b ob _ z
      obtain⟨e1,_⟩:=hok b _ z
      obtain⟨e2,_⟩:=hok' b _ z2
      rw[e] at e1;cases e1
      exact e2
 cases hk:K.lookup a with
 | some o =>
  have e:=KX a o hk
  rw[ha] at e
  cases e
  refine core (fun _=>none) (fun _=>.inl rfl) (.inr ⟨_,vs.toArray,_,hk,rfl,rfl,rfl,by rw[List.size_toArray,lenV];exact hl,by simpa using rv⟩) (fun b u z=>by have z':(none:Option HO)=some u:=z;cases z') (fun b z=>absurd rfl z) fun z=>absurd rfl z
 | none =>
  refine core (fun b=>if b=a then some (.frz { cls:=.type "list", data:=.seq vs.toArray } (.lst (ns.map V.int))) else none) (fun b=>?_) (.inl (.inr ⟨{ cls:=.type "list", data:=.seq vs.toArray },if_pos rfl⟩)) (fun b u z=>?_) (fun b z=>?_) fun _=>hk
  ·by_cases hb:b=a
   ·exact .inr ⟨_,_,if_pos hb⟩
   ·exact .inl (if_neg hb)
  ·by_cases hb:b=a
   ·have z':=(if_pos hb).symm.trans z
    cases z'
    subst hb
    exact⟨ha,by rw[List.length_map];exact hl,vs,_,rv,ha⟩
   ·have z':=(if_neg hb).symm.trans z
    cases z'
  ·by_cases hb:b=a
   ·exact hb
   ·exact absurd (if_neg hb) z
end L2
namespace L2
open PySem PySem.Spec PyProof.Rows
theorem walk_of{l:PySem.W.OpenLaw}{n k:Nat}{q:Program}{loose:List Str}{XP:(Str→Option Value)→Heap→Prop}{YP:World→Heap→Prop}{d:DefRec}{K:Params→PySem.W.Frag}{CX:World→CXT}{sp:World→Sp}{x:Str}
  (hn:l.most=some n) (hn2:n≤sizeLine) (hdf:d.params.defaults=[]) (hr:Room k callerA)
  (hY:∀(w:World)(h:Heap),YP w h→(K w.params).In h)
  (F:∀(w:World)(mg:Str→Option Value)(fa:Addr)(h:Heap),(K w.params).In h→h.Ns mainGlobals mg→mg d.name=some (.ref fa) →
   ∃ fd:FuncData,(∀(s:Shared)(u:Value),BindsTo s fd ⟨[u],[]⟩ [(x,u)]) ∧
    ∀ base:Heap,(K w.params).In base→base.Ns mainGlobals mg→FnOk l.prog w (K w.params) mg base (CX w) k fa fd [x] (sp w))
  (hsp:∀(w:World)(H:Hp)(a:Addr)(ns:List Int),ns.length≤n→Only H→SqL (K w.params) H a (ns.map V.int)→sp w [.ref a] H (fun v _=>v=.bl true) fun _ _ _=>False)
  (hCX:∀(w:World)(H:Hp)(s:Shared)(e:Value)(s':Shared),CX w [] H s (fun _ _ _=>False) e s'→False) :
  PySem.W.WalkO q loose XP YP l.row.toRowW d [] (fun f vs=>PySem.call f vs):=by
 refine Att.attach_call hn hdf fun w s₀ s₁ mg mb fa o pm cd doc a vs ns G Y ho hd hcd hmg hobj hints hlen hg=>?_
 have KX:=hY w _ Y
 obtain⟨fd,hb,hF⟩:=F w mg fa _ KX G.T.g hmg
 exact law_call KX G.T.g G.T.b G.T.builtins G.T.nolimit hg hobj hints (Nat.le_trans hlen hn2) hr hF hb (fun H hO hS=>hsp w H a ns hlen hO hS) fun H e s'=>hCX w H s₁ e s'
end L2
namespace L2
open PySem PySem.Spec PyProof.Rows
def defArgs(s:Stmt):Arguments:=match s with
 | .FunctionDef _ a _ _ _ _ _ _ _ _=>a
 | _=>{ posonlyargs:=[],args:=[],vararg:=none,kwonlyargs:=[],kw_defaults:=[],kwarg:=none,defaults:=[] }
def defBody(s:Stmt):List Stmt:=match s with
 | .FunctionDef _ _ b _ _ _ _ _ _ _=>b
 | _=>[]
def defScope(s:Stmt):Scope:=match s with
 | .FunctionDef _ _ _ _ _ _ sc _ _ _=>sc
 | _=>{ kind:=.function,names:=[],isGenerator:=false,isCoroutine:=false }
abbrev CX0:CXT:=fun _ _ _ _ _ _=>False
abbrev E0:XK:=fun _ _ _=>False
theorem pass0{X:Cx}:Passes CX0 X E0:=fun _ _ _ _ _ _ _ h=>h.elim
structure Fun(K:PySem.W.Frag)(x qual:Str)(st:Stmt)(f:Addr)(fd:FuncData):Prop where
 ex:∃(oc:Value)(od:Option Addr)(kV doc pm:Value)(an:Option Addr)(cdv ct:Value) (osl:Array (Option Value)),
  fd=PySem.W.fnOf x qual (defArgs st) (defBody st) (defScope st) .none kV doc pm an cdv ct∧K.lookup f=some ⟨oc,od,.func fd,osl⟩∧PySem.W.codeIn K cdv qual=true
 kp:PySem.W.keepIn K (.ref f)=true
section
variable {P:Program}{w:World}{K:PySem.W.Frag}{mg:Str→Option Value}{base:Heap}
theorem Fun.ok{x qual:Str}{st:Stmt}{f:Addr}{fd:FuncData}{N ps:List Str}{k:Nat}{sp:Sp}(F:Fun K x qual st f fd)(S:FnScope N ps (defScope st))(len:∀ vs H Q E,sp vs H Q E→vs.length=ps.length)
  (hbody:∀(cdv:Value)(A:Around)(outer:List Env)(s:Shared)(H:Hp)(vs:List V)(Q:VK)(E:XK),Room k (A.deeper (envOfC qual (defScope st) s.heap.objs.size f cdv))→sp vs H Q E →
   ∃ t,PSs (cxOf CX0 P w K mg base N qual (defScope st) f cdv A outer s H E).nox (defBody st) t∧t { nx:=fun _ H'=>Q .non H',rt:=Q } (start N vs) H):FnOk P w K mg base CX0 (k+1) f fd ps sp:=by
 obtain⟨oc,od,kV,doc,pm,an,cdv,ct,osl,rfl,lk,hcd⟩:=F.ex
 refine fn_of lk hcd S len fun A outer s H vs Q E hr hsp=>?_
 obtain⟨t,h,q⟩:=hbody cdv A outer s H vs Q E hr hsp
 exact⟨t,h.nox,q⟩
theorem Fun.binds{x qual:Str}{st:Stmt}{f:Addr}{fd:FuncData}{ps:List Str}(F:Fun K x qual st f fd)
  (h:∀(kV doc pm:Value)(an:Option Addr)(cdv ct:Value)(us:List Value),us.length=ps.length→bindArgs (PySem.W.fnOf x qual (defArgs st) (defBody st) (defScope st) .none kV doc pm an cdv ct) ⟨us,[]⟩=pure (ps.zip us)):Binds K fd ps []:=by
 obtain⟨oc,od,kV,doc,pm,an,cdv,ct,osl,rfl,lk,hcd⟩:=F.ex
 exact .all (h kV doc pm an cdv ct)
theorem fun_mk{x qual:Str}{st:Stmt}{f:Addr}{oc:Value}{od an:Option Addr}{osl:Array (Option Value)}{kV doc pm cdv ct:Value}(l:K.lookup f=some ⟨oc,od,.func (PySem.W.fnOf x qual (defArgs st) (defBody st) (defScope st) .none kV doc pm an cdv ct),osl⟩)
  (c:PySem.W.codeIn K cdv qual=true) (k:PySem.W.keepIn K (.ref f)=true):Fun K x qual st f (PySem.W.fnOf x qual (defArgs st) (defBody st) (defScope st) .none kV doc pm an cdv ct):=⟨⟨oc,od,kV,doc,pm,an,cdv,ct,osl,rfl,l,c⟩,k⟩
end
theorem small1000{n:Nat}(h:n≤1000):n < sizeLine:=Nat.lt_of_le_of_lt h (by decide)
section
variable {X:Cx}
end
theorem ite2{c A B:Prop}[Decidable c](h1:c→A)(h2:¬ c→B):if c then A else B:=by
 by_cases h:c
 ·rw[if_pos h]
  exact h1 h
 ·rw[if_neg h]
  exact h2 h
def Same(H H':Hp):Prop:=∀ b o,H b=some o→H' b=some o
theorem Same.trans{H H1 H2:Hp}(a:Same H H1)(b:Same H1 H2):Same H H2:=fun c o h=>b c o (a c o h)
theorem Same.free{H H':Hp}(e:Same H H'){l:Addr}(h:H' l=Option.none):H l=Option.none:=by
 cases q:H l with
 | none=>rfl
 | some o =>
  rw[e l o q] at h
  cases h
theorem Same.seq{K:PySem.W.Frag}{H H':Hp}{a:Addr}{xs:List V}(e:Same H H')(h:SqL K H a xs):SqL K H' a xs:=by
 rcases h with (h | ⟨o,h⟩) | h
 ·exact .inl (.inl (e _ _ h))
 ·exact .inl (.inr ⟨o,e _ _ h⟩)
 ·exact .inr h
end L2
namespace L2
open PySem PySem.Spec PyProof.Rows
section
variable {P:Program}{w:World}{H H':Hp}{h h':Heap}{a:Addr}{o:HO}
theorem ObjOk.there(x:ObjOk P w H h a o):∃ ob,h.get? a=some ob:=by
 induction o with
 | lst xs=>obtain⟨_,its,n,_,e⟩:=x;exact⟨_,e⟩
 | tup xs=>obtain⟨_,its,_,ob,e,_⟩:=x;exact⟨_,e⟩
 | dK kvs=>obtain⟨_,_,vs,_,ob,es,ep,e,_⟩:=x;exact⟨_,e⟩
 | dT kvs=>obtain⟨_,_,xs,_,ob,es,ep,e,_⟩:=x;exact⟨_,e⟩
 | set S n=>obtain⟨ob,es,ep,tb,e,_⟩:=(x:h.SetOf (intKind P w) a S n);exact⟨_,e⟩
 | ins C dx fs=>obtain⟨_,_,_,e,_⟩:=x;exact⟨_,e⟩
 | own x'=>exact x
 | xd fs=>obtain⟨mA,⟨ob,es,ep,e,_⟩,_⟩:=x;exact⟨_,e⟩
 | met f y=>exact⟨_,x⟩
 | rng lo hi=>obtain⟨t,u,v,e⟩:=x;exact⟨_,e⟩
 | frz ob u ih=>exact⟨_,x.1⟩
 | tbl ps=>exact⟨_,x⟩
 | ext φ=>exact x.2.1
theorem HOk.stays(x:HOk P w H h)(k:∀ b u,H b≠none→h.get? b=some u→h'.get? b=some u):HOk P w H h':=fun a o e =>
 (x a o e).stay (fun b u hb q=>k b u (by
  rcases hb with z | z
  ·rw[z,e];exact Option.some_ne_none _
  ·rw[z];exact Option.some_ne_none _) q) (fun _ q=>q) fun _ _ q=>q
end
def Fly(outer:List Env)(H':Hp)(h₀ h':Heap)(e:Addr)(cls:Value):Prop :=
 ∃ B a0,Heap.FlyingW B outer e cls a0 h'∧∀ b o,h'.get? b=some o→(H' b≠none∨∃ o₀,h₀.get? b=some o₀)→b∉frs outer→B.get? b=some o
def CXR(P:Program)(w:World):CXT:=fun outer H s E e s'=>∃ ea cls H',e=.ref ea∧s'.os=s.os∧AllBare s'.gens∧Un (frs outer) [] H H' s.heap s'.heap∧HOk P w H' s'.heap∧Fly outer H' s.heap s'.heap ea cls∧E cls none H'
theorem frs_cons{env:Env}{l:List Env}{L:Addr}(hf:env.frame=some L){b:Addr}:b∈frs (env::l)↔b=L∨b∈frs l:=by
 unfold frs
 rw[List.filterMap_cons,hf]
 exact List.mem_cons
theorem Un.onSlots{fs fs':List Addr}{H H1:Hp}{h h1 h2:Heap}(u:Un fs [] H H1 h h1)(hsub:∀ b o,h.get? b=some o→b∈fs'→b∈fs)
  (k:∀ b o,(∃ o₀,h.get? b=some o₀)→h1.get? b=some o→b∉fs'→h2.get? b=some o) (sl:∀ b o,h1.get? b=some o→b∈fs'→∃ sl,h2.get? b=some { o with slots:=sl }):Un fs [] H H1 h h2 where
 keep:=fun b o e n hb hx=>k b o ⟨o,e⟩ (u.keep b o e n hb hx) fun z=>hb (hsub b o e z)
 slot:=fun b o e n hb hx=>by
  obtain⟨s1,e1⟩:=u.slot b o e n hb hx
  by_cases z:b∈fs'
  ·obtain⟨s2,e2⟩:=sl b _ e1 z
   exact⟨s2,e2⟩
  ·exact⟨s1,k b _ ⟨o,e⟩ e1 z⟩
 free:=u.free
 there:=fun b o e hx=>by
  obtain⟨o1,e1⟩:=u.there b o e hx
  by_cases z:b∈fs'
  ·obtain⟨s2,e2⟩:=sl b _ e1 z
   exact⟨_,e2⟩
  ·exact⟨_,k b _ ⟨o,e⟩ e1 z⟩
 tups:=u.tups
 frzs:=u.frzs
 tbls:=u.tbls
section
variable {P:Program}{w:World}{K:PySem.W.Frag}{mg:Str→Option Value}{base:Heap}{N:List Str}{qual:Str}{scope:Scope}{f:Addr}{cd:Value}{A:Around}{outer:List Env}{s:Shared}{H:Hp}{E:XK}
abbrev cxR(P:Program)(w:World)(K:PySem.W.Frag)(mg:Str→Option Value)(base:Heap)(N:List Str)(qual:Str)(scope:Scope)(f:Addr)(cd:Value)(A:Around)(outer:List Env)(s:Shared)(H:Hp)(E:XK):Cx :=
 cxOf (CXR P w) P w K mg base N qual scope f cd A outer s H E
theorem frame_slots{l:List Env}{B h h':Heap}(hl:h.FunFrames B l)(k:h.UpToSlots h'){b:Addr}{o:Obj}(hb:b∈frs l)(e:h.get? b=some o):∃ sl,h'.get? b=some { o with slots:=sl }:=by
 obtain⟨_,o',e',nf⟩:=hl.mem hb
 rw[e] at e'
 cases e'
 exact k b o e nf
theorem raised_xe{pins:List (Addr×Obj)}{σ:St}{H1:Hp}{s1:Shared}{h2:Heap}{e:Addr}{cls:Value}{vs:List Value}
  (I:Inv (cxR P w K mg base N qual scope f cd A outer s H E) pins σ H1 s1) (hx:Heap.MadeExcOf s1.heap h2 e cls vs) (hE:E cls none H1) :
  (cxR P w K mg base N qual scope f cd A outer s H E).xe (.ref e) { s1 with heap:=h2 }:=by
 have hF:=I.stack
 have hin:∀ env∈(envOfC qual scope s.heap.objs.size f cd::outer),∀ b,env.frame=some b→b∈(envOfC qual scope s.heap.objs.size f cd::outer).filterMap (·.frame):=fun env he b hb=>List.mem_filterMap.mpr ⟨env,he,hb⟩
 have hfr:(envOfC qual scope s.heap.objs.size f cd).frame=some s.heap.objs.size:=rfl
 refine wpAny_leaves_madeW (s:={ s1 with heap:=h2 }) (base:=PySem.W.hideAll s1.heap ((envOfC qual scope s.heap.objs.size f cd::outer).filterMap (·.frame))) (h:=s1.heap) I.ok.frames hfr (fun b o q=>PySem.W.of_hideAll _ q) (PySem.W.funFrames_hide hF hin) hx fun h' t x1 x2 x3 x4=>?_
 have k1:∀ b o,s1.heap.get? b=some o→b∉frs (envOfC qual scope s.heap.objs.size f cd::outer)→h'.get? b=some o:=fun b o q n=>x1.1 b o (PySem.W.hideAll_get _ q n)
 have hF2:h2.FunFrames base (envOfC qual scope s.heap.objs.size f cd::outer):=hF.of_keeps fun b o q _=>⟨o,hx.keeps b o q,rfl⟩
 have k2:∀ b o,s1.heap.get? b=some o→b∈frs (envOfC qual scope s.heap.objs.size f cd::outer)→∃ sl,h'.get? b=some { o with slots:=sl }:=fun b o q n=>frame_slots hF2 x4 n (hx.keeps b o q)
 have old:∀ b o,s.heap.get? b=some o→b∈frs (envOfC qual scope s.heap.objs.size f cd::outer)→b∈frs outer:=fun b o q z=>by
  rcases (frs_cons hfr).mp z with z | z
  ·rw[z] at q
   exact absurd (Heap.lt_size q) (Nat.lt_irrefl _)
  ·exact z
 have un:Un (frs outer) [] H H1 s.heap h':=Un.onSlots (show Un (frs outer) [] H H1 s.heap s1.heap from I.base) old (fun b o _=>k1 b o) k2
 refine⟨e,cls,H1,rfl,I.os,I.bare,un,I.hok.stays fun b u n q=>k1 b u q fun z=>n (I.stkFree b z),⟨_,_,x1,fun b o q hb hn=>?_⟩,hE⟩
 have hs:b∉frs (envOfC qual scope s.heap.objs.size f cd::outer):=fun z=>by
  rcases hb with hb | ⟨o₀,hb⟩
  ·exact hb (I.stkFree b z)
  ·exact hn (old b o₀ hb z)
 have h1:∃ o1,s1.heap.get? b=some o1:=by
  rcases hb with hb | ⟨o₀,hb⟩
  ·cases q':H1 b with
   | none=>exact absurd q' hb
   | some u=>exact (I.hok b u q').there
  ·exact I.base.there b o₀ hb (by intro z;exact absurd (show b∈([]:List Addr) from z) (by simp))
 obtain⟨o1,h1⟩:=h1
 have:=k1 b o1 h1 hs
 rw[q] at this
 cases this
 exact PySem.W.hideAll_get _ h1 hs
theorem passR0{X:Cx}:Passes (CXR P w) X E0:=fun _ _ _ _ _ _ _ h=>by
 obtain⟨_,_,_,_,_,_,_,_,_,z⟩:=h
 exact z.elim
end
abbrev veTail:List Value:=[.type "ValueError", .type "Exception", .type "BaseException", .type "object"]
structure Exc(K:PySem.W.Frag)(mg:Str→Option Value)(x:Str)(C:Addr):Prop where
 bound:mg x=some (.ref C)
 isIn:PySem.W.excIn K C veTail "ValueError.__new__" = true
theorem Exc.obj{K:PySem.W.Frag}{mg:Str→Option Value}{x:Str}{C:Addr}{h:Heap}(O:Exc K mg x C)(X:K.In h) :
  ∃ bm N nm q bs hdct sn sub ab col dd k0 k1 k2 k3 k5 mN,h.get? C=some (excClassObj nm q C N bs bm hdct sn sub ab col dd k0 k1 k2 k3 k5 "ValueError.__new__")∧h.Ns N mN∧mN "__init__" = none∧OwnTail h veTail bm:=by
 have q:=O.isIn
 unfold PySem.W.excIn at q
 split at q
 case h_2=>cases q
 rename_i dd cd sl ho
 split at q
 case h_2=>cases q
 rename_i C' bm k0 k1 k2 k3 n k5 hm hs
 simp only[Bool.and_eq_true,beq_iff_eq,Bool.not_eq_true'] at q
 obtain⟨⟨⟨⟨⟨e1,e2⟩,hdel⟩,ht⟩,hok⟩,hni⟩:=q
 subst e1;subst e2
 cases cd with
 | mk nm bs mro ns qn hd sn sub ab col del =>
  dsimp only at hm hdel hok hni
  subst hm;subst hdel
  obtain rfl:sl=#[k0,k1,k2,k3,some (.builtin "ValueError.__new__"),k5]:=by
   cases sl with
   | mk l=>exact congrArg Array.mk hs
  exact⟨bm,ns,nm,qn,bs,hd,sn,sub,ab,col,dd,k0,k1,k2,k3,k5,_,X _ _ ho,.of_isNs (PySem.W.isNs_of_in X hok),PySem.W.nsMap_none_of_in X hok hni,PySem.W.tail_of_in X ht⟩
def Raises(X:Cx)(E:XK):Prop:=∀ (pins:List (Addr×Obj)) (σ:St) (H:Hp) (s:Shared) (h':Heap) (e:Addr) (cls:Value) (vs:List Value),Inv X pins σ H s→Heap.MadeExcOf s.heap h' e cls vs→E cls none H→X.xe (.ref e) { s with heap:=h' }
theorem raisesR{P:Program}{w:World}{K:PySem.W.Frag}{mg:Str→Option Value}{base:Heap}{N:List Str}{qual:Str}{scope:Scope}{f:Addr}{cd:Value}{A:Around}{outer:List Env}{s:Shared}{H:Hp}{E:XK} :
  Raises (cxR P w K mg base N qual scope f cd A outer s H E) E:=fun _ _ _ _ _ _ _ _ I hx hE=>raised_xe I hx hE
def tRaise(C:Addr)(E:XK)(t:TA):TS:=fun _ σ H=>t σ H fun vs H1=>vs.length≤sizeLine∧E (.ref C) none H1
theorem ps_raise{X:Cx}{E:XK}{x:Str}{C:Addr}{np cpos pos:Pos}{e:Expr}{es:List Expr}{t:TA}(hR:Raises X E)(O:Exc X.K X.mg x C)(hc:X.calm=true)(hg:Gl X x)(ha:PA X (e::es) t)
  (hdb:(x == ("__debug__" : Str))=false:=by decide) (he:starEach (e::es) X.env=(false,eval e X.env)::starEach es X.env:=by rfl) (hpl:(backTo cpos (starEach es X.env)).any (·.1)=false:=by rfl) :
  PS X (.Raise (some (.Call (.Name x np) (e::es) [] cpos)) none pos) (tRaise C E t):=by
 intro pins s σ H D I h
 obtain⟨tl,Nn,nm,q,bs,hdct,sn,sub,ab,col,dd,k0,k1,k2,k3,k5,mN,hC,hN,hni,T⟩:=O.obj I.ok.mod.kin
 refine wpAny_Raise_call_subT (C:=C) (nm:=nm) (q:=q) (N:=Nn) (bs:=bs) (bm:=tl) (hdct:=hdct) (sn:=sn) (sub:=sub) (ab:=ab) (col:=col) (dd:=dd) (k0:=k0) (k1:=k1) (k2:=k2) (k3:=k3) (k5:=k5)
  PySem.F.excBase_ValueError (mN:=mN) (T.hasType PySem.F.excBase_ValueError.hasBase) (I.ok.hd hc) (by rw[he];show (false || (backTo cpos (starEach es X.env)).any (·.1))=false;rw[hpl];rfl) hni (ld_glob I hg O.bound ⟨rfl,?_⟩ hdb)
 have hp:=ha cpos pins s σ H _ I h
 rw[he] at hp ⊢
 refine Calls.evalArgs_plain (thn hp fun us s2 ⟨vs,H1,I1,r,hl,hE⟩=>⟨rfl,?_,I1.bk _ _ hC,hN.keeps I1.bk,T.keeps I1.bk,fun h' e' hm=>hR pins σ H1 s2 h' e' _ us I1 hm hE⟩)
 show us.length≤sizeLine
 rw[← r.length]
 exact hl
abbrev XEx:=Value→St→Hp→Prop
abbrev Cx.pinned(X:Cx)(pn:List (Addr×Obj)):Cx:={ X with pn:=pn }
def tCallX(sp:Sp)(EX:XEx)(t:TA):TE:=fun σ H Q=>t σ H fun vs H1=>sp vs H1 Q fun cls _ H2=>EX cls σ H2
def tTry(C:Addr)(tb:XEx→TS)(th:TS):TS:=fun D σ H=>tb (fun cls σ' H'=>cls=.ref C∧th D σ' H') D σ H
theorem Fun.okR{P:Program}{w:World}{K:PySem.W.Frag}{mg:Str→Option Value}{base:Heap}{x qual:Str}{st:Stmt}{f:Addr}{fd:FuncData}{N ps:List Str}{k:Nat}{sp:Sp}(F:Fun K x qual st f fd)(S:FnScope N ps (defScope st))(len:∀ vs H Q E,sp vs H Q E→vs.length=ps.length)
  (hbody:∀(cdv:Value)(A:Around)(outer:List Env)(s:Shared)(H:Hp)(vs:List V)(Q:VK)(E:XK),Room k (A.deeper (envOfC qual (defScope st) s.heap.objs.size f cdv))→sp vs H Q E →
   ∃ t,PSs (cxR P w K mg base N qual (defScope st) f cdv A outer s H E) (defBody st) t∧t { nx:=fun _ H'=>Q .non H',rt:=Q } (start N vs) H):FnOk P w K mg base (CXR P w) (k+1) f fd ps sp:=by
 obtain⟨oc,od,kV,doc,pm,an,cdv,ct,osl,rfl,lk,hcd⟩:=F.ex
 exact fn_of lk hcd S len fun A outer s H vs Q E hr hsp=>hbody cdv A outer s H vs Q E hr hsp
end L2
namespace L2
open PySem PySem.Spec PyProof.Rows
theorem closure_ex{env:Env}:∀ (names:List (Str×NameKind)) (cs:List (Str×Addr)),(∀ y∈names,y.2=.free→∃ c,env.cells.lookup y.1=some c)→(∀ y c,cs.lookup y=some c→env.cells.lookup y=some c) →
  ∃ cl:List (Str×Addr),(forIn names cs fun (x:Str×NameKind) (r:List (Str×Addr))=>(if (x.2 == NameKind.free)=true then (cellOf env x.1 >>= fun a=>(pure (ForInStep.yield ((x.1,a)::r)):Sem _)) else pure (ForInStep.yield r)))=(pure cl:Sem (List (Str×Addr))) ∧
   (∀ y c,cl.lookup y=some c→env.cells.lookup y=some c)∧(∀ y c,cs.lookup y=some c→∃ c',cl.lookup y=some c')∧∀ y∈names,y.2=.free→∃ c,cl.lookup y.1=some c
 | [],cs,_,h2=>⟨cs,rfl,h2,fun y c e=>⟨c,e⟩,fun _ z=>nomatch z⟩
 | (n,k)::r,cs,h1,h2=>by
  have h1':∀ y∈r,y.2=.free→∃ c,env.cells.lookup y.1=some c:=fun y hy=>h1 y (List.mem_cons_of_mem _ hy)
  by_cases hk:k=.free
  ·subst hk
   obtain⟨c,hc⟩:=h1 (n,.free) List.mem_cons_self rfl
   obtain⟨cl,e,a1,a2,a3⟩:=closure_ex r ((n,c)::cs) h1' (fun y c' hy=>by
    rw[List.lookup_cons] at hy
    split at hy
    ·rename_i hyn
     have:y=n:=by simpa using hyn
     subst this
     cases hy
     exact hc
    ·exact h2 y c' hy)
   refine⟨cl,?_,a1,fun y c' hy=>?_,fun y hy hf=>?_⟩
   ·rw[List.forIn_cons]
    have e1:cellOf env n=(pure c:Sem Addr):=by unfold cellOf;rw[hc]
    simp only[beq_self_eq_true,if_true,e1,pure_bind]
    exact e
   ·by_cases hyn:(y == n)=true
    ·exact a2 y c (by rw[List.lookup_cons,hyn])
    ·exact a2 y c' (by rw[List.lookup_cons];simp only[hyn];exact hy)
   ·rcases List.mem_cons.mp hy with rfl | hy
    ·exact a2 n c (by rw[List.lookup_cons];simp)
    ·exact a3 y hy hf
  ·obtain⟨cl,e,a1,a2,a3⟩:=closure_ex r cs h1' h2
   refine⟨cl,?_,a1,a2,fun y hy hf=>?_⟩
   ·rw[List.forIn_cons]
    have hb:(k == NameKind.free)=false:=by simpa using hk
    simp only[hb,Bool.false_eq_true,if_false,pure_bind]
    exact e
   ·rcases List.mem_cons.mp hy with rfl | hy
    ·exact absurd hf hk
    ·exact a3 y hy hf
theorem closure_of{env:Env}{scope:Scope}(h:∀ y∈scope.names,y.2=.free→∃ c,env.cells.lookup y.1=some c) :
  ∃ cl,closureFor scope env=pure cl∧(∀ y c,cl.lookup y=some c→env.cells.lookup y=some c)∧∀ y∈scope.names,y.2=.free→∃ c,cl.lookup y.1=some c:=by
 obtain⟨cl,e,a1,_,a3⟩:=closure_ex (env:=env) scope.names [] h (fun y c z=>by simp at z)
 refine⟨cl,?_,a1,a3⟩
 unfold closureFor
 refine Eq.trans (congrArg (fun z=>z >>= fun (r:List (Str×Addr))=>(pure r:Sem (List (Str×Addr)))) ?_) (by rw[pure_bind])
 exact e
abbrev Cx.comp(X:Cx)(N':List Str)(scope:Scope)(cl:List (Str×Addr))(C:Addr)(fp:List Addr)(s2:Shared)(H2:Hp):Cx :=
 { X with N:=N',s₀:=s2,H₀:=H2,env:=compEnvC scope cl C X.env,outer:=X.stack,ex:=fp,fn:=fun _=>false,pn:=[],xe:=fun _ _=>False }
def PFs(X:Cx)(ifs:List Expr)(t:TT):Prop :=
 ∀ (pins:List (Addr×Obj)) (s:Shared) (σ:St) (H:Hp) (Q:Bool→Hp→Prop),Inv X pins σ H s→t σ H Q →
  wpAny (model X.prog X.w) X.A (forIn ifs true fun c r=>if r=true then do let ok ← isTrue c X.env (eval c X.env);pure (ForInStep.yield ok) else pure (ForInStep.yield r)) (TP X pins σ Q) X.xe s
def tYes:TT:=fun _ H Q=>Q true H
theorem pf_nil{X:Cx}:PFs X [] tYes:=fun _ _ _ H _ I h=>wpAny_tests_nil ⟨H,I,h⟩
theorem pf_one{X:Cx}{c:Expr}{t:TT}(h:PT X c t):PFs X [c] t:=fun pins s σ H Q I q=>wpAny_tests_one (h pins s σ H Q I q)
def compSt(n:Nat)(js:List Nat)(σ:St):St:=List.replicate n none++js.map fun j=>(σ[j]?).join
def Ext(σ σ':St):Prop:=σ.length=σ'.length∧∀(i:Nat) v,σ[i]?=some (some v)→σ'[i]?=some (some v)
def GExt(g:TG)(n:Nat):Prop:=∀(r:St) x H Q,g x (List.replicate n none++r) H Q→g x (List.replicate n none++r) H fun σ2 H2=>Ext (List.replicate n none++r) σ2∧Q σ2 H2
theorem ext_set{n k:Nat}(hk:k < n)(r:St){σ:St}(e:Ext (List.replicate n none++r) σ)(v:V):Ext (List.replicate n none++r) (σ.set k (some v)):=by
 refine⟨by rw[List.length_set];exact e.1,fun i w h=>?_⟩
 by_cases hi:i=k
 ·subst hi
  rw[List.getElem?_append_left (by simpa using hk),List.getElem?_replicate] at h
  split at h<;>cases h
 ·rw[List.getElem?_set_ne (fun z=>hi z.symm)]
  exact e.2 i w h
theorem Ext.refl(σ:St):Ext σ σ:=⟨rfl,fun _ _ h=>h⟩
theorem gext_name{n k:Nat}(hk:k < n):GExt (gName k) n:=fun r x H Q h=>⟨ext_set hk r (Ext.refl _) x,h⟩
def tComp(n:Nat)(js:List Nat)(wi:TI)(g:TG)(tt:TT)(te:TE):TE:=fun σ H Q=>wi σ H fun J H1=>∀ l,H1 l=none→∃ W:Nat→Nat→List V→Hp→Prop,(∃ m,W 0 m [] (upd H1 l (.lst [])))∧∀ i m acc H,W i m acc H →
 (J.stop i H∧Q (.ref l) H)∨(J.go i H∧∃ N:List V→Hp→Prop,(∀ acc' H',N acc' H'→∃ m',m' < m∧W (i+1) m' acc' H') ∧
  ∀ x H',J.yld i H x H'→g x (compSt n js σ) H' fun σ2 H2=>tt σ2 H2 fun b H3=>if b=true then te σ2 H3 fun y H4=>H4 l=some (.lst acc)∧acc.length < sizeLine∧N (acc++[y]) (upd H4 l (.lst (acc++[y]))) else N acc H3)
section
variable {prog:Program}{w:World}{A:Around}{R:Result→Shared→Prop}{s:Shared}
theorem compLoop_any{elt tg iter:Expr}{ifs:List Expr}{scope:Scope}{pos:Pos}{it acc:Value}{env:Env}(I:Nat→Shared→Prop){E:Value→Shared→Prop}(hE:∀ e s',E e s'→False)
  (turn:∀ n s,I n s→wpAny (model prog w) A (pyNext it) (fun r s₁=>match r with
   | none=>R (.ok .next) s₁
   | some v=>wpAny (model prog w) A (letOwnedTupleGo tg it v) (fun _ s₁=>wpAny (model prog w) A (assign tg env v) (fun _ s₂ =>
     wpAny (model prog w) A (forIn ifs true fun c r=>if r=true then do let ok ← isTrue c env (eval c env);pure (ForInStep.yield ok) else pure (ForInStep.yield r)) (fun ok s₃ =>
      if ok=true then wpAny (model prog w) A (eval elt env) (fun x s₄=>wpAny (model prog w) A (call (.builtin "list.append") [acc,x]) (fun _ s₅=>∃ m,m < n∧I m s₅) E s₄) E s₃
      else ∃ m,m < n∧I m s₃) E s₂) E s₁) E s₁) E s)
  (n:Nat) (h:I n s):codeAny (model prog w) A (.compLoop (.ListComp elt [⟨tg,iter,ifs,0⟩] scope pos) 0 it acc env) R s:=by
 refine codeAny_loop rfl I (fun n s hI=>?_) n h
 show wpAny _ A ((compTurn (.ListComp elt [⟨tg,iter,ifs,0⟩] scope pos) 0 it acc env).onRaise (fun x=>do noteFrame x env;theTreesLotGoes x)) _ _ s
 refine wpAny_noted ?_
 rw[compTurn_list]
 have up:∀{α:Type}{t:Sem α}{Q:α→Shared→Prop}{E':Value→Shared→Prop}{s:Shared},wpAny (model prog w) A t Q E s→wpAny (model prog w) A t Q E' s:=fun h=>wpAny_mono h (fun _ _ z=>z) fun _ _ z=>(hE _ _ z).elim
 refine wpAny_bind (wpAny_standAt (wpAny_bind (up (wpAny_mono (turn n s hI) (fun r s₁ h₁=>?_) fun _ _ z=>z))))
 cases r with
 | none=>exact wpAny_pure h₁
 | some v =>
  refine wpAny_bind (up (thn h₁ fun _ s₂ h₂=>wpAny_bind (up (thn h₂ fun _ s₃ h₃=>wpAny_bind (up (thn h₃ fun ok s₄ h₄=>?_))))))
  cases ok with
  | false=>exact wpAny_pure ⟨rfl,h₄⟩
  | true=>exact wpAny_bind (wpAny_bind (up (thn h₄ fun x s₅ h₅=>wpAny_bind (up (thn h₅ fun _ s₆ h₆=>wpAny_pure (wpAny_pure ⟨rfl,h₆⟩))))))
end
section
variable {X:Cx}
theorem Inv.fpComp{pins:List (Addr×Obj)}{σ:St}{H H':Hp}{s:Shared}{fp:List Addr}{N':List Str}{scope:Scope}{cl:List (Str×Addr)}{C:Addr}(I:Inv X pins σ H s)(f:∀ b∈fp,FpOk X pins H b)
  (hb:∀ b∈fp,b < s.heap.objs.size) (hC:s.heap.objs.size≤C) (hcl:∀ y c,cl.lookup y=some c→X.env.cells.lookup y=some c) (hn:∀ b∈fp,H' b=none) :
  ∀ b∈fp,FpOk (X.comp N' scope cl C fp s H) [] H' b:=fun b z=>by
 obtain⟨_,f1,f2,f3,f4,f5⟩:=f b z
 exact⟨hn b z,Nat.ne_of_lt (Nat.lt_of_lt_of_le (hb b z) hC),fun q=>(List.mem_cons.mp (I.stkSub b q)).elim f1 f2,.inl z,fun x c e=>f4 x c (hcl x c e),fun p hp=>absurd (show p∈([]:List (Addr×Obj))++[] from hp) (by simp)⟩
theorem Inv.comp{pins:List (Addr×Obj)}{σ:St}{H:Hp}{s s4:Shared}{fp:List Addr}{own:List Str}{fr:List (Str×Nat)}{scope:Scope}{cl:List (Str×Addr)}{C D:Addr}(I:Inv X pins σ H s)(f:∀ b∈fp,FpOk X pins H b)
  (hb:∀ b∈fp,b < s.heap.objs.size) (hkind:scope.kind=.function) (hcell:∀ y∈scope.names,y.2≠.cell)
  (hcl:∀ y c,cl.lookup y=some c→X.env.cells.lookup y=some c) (hcl2:∀ y∈scope.names,y.2=.free→∃ c,cl.lookup y.1=some c)
  (hfr:∀ p∈fr,X.N[p.2]?=some p.1∧(X.env.kindOf p.1=some .cell∨X.env.kindOf p.1=some .free)∧(p.1,NameKind.free)∈scope.names∧((relabel scope X.env).names.lookup p.1=some .cell∨(relabel scope X.env).names.lookup p.1=some .free))
  (hD:s.heap.objs.size≤D) (hC:s.heap.objs.size≤C) (hCD:C≠D) (hns:s4.heap.Ns C (fun _=>none)) (k:∀ b o,s.heap.get? b=some o→s4.heap.get? b=some o) (hl:s4.heap.get? D=some { cls:=.type "list", data:=.seq ([]:List Value).toArray })
  (os:s4.os=s.os) (bare:AllBare s4.gens):Inv (X.comp (own++fr.map (·.1)) scope cl C fp s H) [] (compSt own.length (fr.map (·.2)) σ) (upd H D (.lst [])) s4:=by
 have fresh:∀ b,s.heap.objs.size≤b→H b=none:=fun b h=>I.hok.fresh h
 have cellLt:∀ y c,X.env.cells.lookup y=some c→c < s.heap.objs.size:=fun y c e=>by
  obtain⟨v,q⟩:=I.cell y c e
  exact q.lt
 have relK:∀ y,((relabel scope X.env).names.lookup y=some .cell∨(relabel scope X.env).names.lookup y=some .free)→∃ z∈scope.names,z.1=y∧z.2=.free:=fun y h=>by
  have mem:∃ kk,(y,kk)∈(relabel scope X.env).names∧(kk=.cell∨kk=.free):=by
   rcases h with h | h
   ·exact⟨_,PySem.mem_of_lookup h,.inl rfl⟩
   ·exact⟨_,PySem.mem_of_lookup h,.inr rfl⟩
  obtain⟨kk,hm,hk⟩:=mem
  obtain⟨⟨n,k0⟩,hz,e⟩:=List.mem_map.mp hm
  refine⟨(n,k0),hz,?_,?_⟩
  ·dsimp only at e
   split at e<;>cases e<;>rfl
  ·dsimp only at e ⊢
   split at e
   ·rename_i hc
    simp only[Bool.and_eq_true,beq_iff_eq] at hc
    exact hc.1.1
   ·cases e
    rcases hk with hk | hk
    ·exact absurd hk (hcell _ hz)
    ·exact hk
 have ok:(X.comp (own++fr.map (·.1)) scope cl C fp s H).Ok :=
  {mod:=I.ok.mod
   kind:=hkind
   glob:=I.ok.glob
   blt:=I.ok.blt
   above:=hC
   inj:=fun x y c e1 e2=>I.ok.inj x y c (hcl x c e1) (hcl y c e2)
   has:=fun y hy=>by
    obtain⟨z,hz,rfl,hf⟩:=relK y hy
    exact hcl2 z hz hf
   cab:=fun x c z=>by cases (show false=true from z)
   hd:=I.ok.hd
   frames:=I.ok.frames
   stk:=.inl rfl
   exf:=fun b z=>⟨Nat.ne_of_lt (Nat.lt_of_lt_of_le (hb b z) hC),fun x c e=>(f b z).2.2.2.2.1 x c (hcl x c e)⟩
   bs:=fun b o e=>I.bs b o e
   bsz:=Nat.le_trans I.ok.bsz I.sz
   noex:=fun b o e z=>by
    obtain⟨_,_,_,h4,_⟩:=f b z
    rcases h4 with h4 | h4
    ·exact I.ok.noex b o e h4
    ·exact absurd (Heap.lt_size (I.ok.bs b o e).1) (Nat.not_lt.mpr h4)
   exfs:=fun b z q=>(List.mem_cons.mp (I.stkSub b q)).elim (f b z).2.1 (f b z).2.2.1
   funs:=I.stack
   frf:=I.stkFree }
 refine⟨ok,os,bare,Un.laid k hD (fresh D hD),⟨fun _=>none,hns,fun i x v h1 h2 h3=>?_⟩,fun x c e=>?_,?_,fun x c e=>?_,fun p hp=>absurd (show p∈([]:List (Addr×Obj))++[] from hp) (by simp),I.hok.laid k hD ⟨Nat.zero_le _,[],0,.nil,hl⟩,?_⟩
 ·-- a closed-over name
  have h2':(compSt own.length (fr.map (·.2)) σ)[i]?=some (some v):=h2
  have h1':(own++fr.map (·.1))[i]?=some x:=h1
  unfold compSt at h2'
  by_cases hi:i < own.length
  ·rw[List.getElem?_append_left (by simpa using hi),List.getElem?_replicate] at h2'
   split at h2'<;>cases h2'
  ·rw[List.getElem?_append_right (by simpa using hi),List.length_replicate,List.getElem?_map,List.getElem?_map] at h2'
   rw[List.getElem?_append_right (by omega),List.getElem?_map] at h1'
   cases e:fr[i - own.length]? with
   | none=>rw[e] at h1';cases h1'
   | some p =>
    rw[e] at h1' h2'
    have hx:p.1=x:=Option.some.inj h1'
    have hv:(σ[p.2]?).join=some v:=Option.some.inj h2'
    have hv':σ[p.2]?=some (some v):=by
     cases q:σ[p.2]? with
     | none=>rw[q] at hv;cases hv
     | some o=>rw[q] at hv;rw[show o=some v from hv]
    obtain⟨hN,hkx,hmem,hrel⟩:=hfr p (List.mem_of_getElem? e)
    obtain⟨m,hn,hl2⟩:=I.loc
    obtain⟨u,r,lk⟩:=hl2 p.2 p.1 v hN hv' (hkx.elim (fun z=>.inr (.inl z)) fun z=>.inr (.inr z))
    rcases lk with ⟨lk,_⟩ | ⟨_,c,hc,hcell'⟩
    ·rcases hkx with z | z
     ·rw[lk] at z;cases z
     ·rw[lk] at z;cases z
    ·subst hx
     obtain⟨c',hc'⟩:=hcl2 _ hmem rfl
     have:=hcl _ _ hc'
     rw[hc] at this
     cases this
     refine⟨u,r,.inr ⟨hrel,c,hc',?_⟩⟩
     obtain⟨ob,e1,e2⟩:=hcell'
     exact⟨ob,k _ _ e1,e2⟩
 ·obtain⟨v,ob,e1,e2⟩:=I.cell x c (hcl x c e)
  exact⟨v,ob,k _ _ e1,e2⟩
 ·show upd H D (.lst []) C=none
  rw[upd_ne hCD]
  exact fresh C hC
 ·rw[upd_ne (Nat.ne_of_lt (Nat.lt_of_lt_of_le (cellLt x c (hcl x c e)) hD))]
  exact I.freeC x c (hcl x c e)
 ·show (compSt own.length (fr.map (·.2)) σ).length=(own++fr.map (·.1)).length
  unfold compSt
  simp
theorem pe_comp{elt iter tg:Expr}{ifs:List Expr}{scope:Scope}{pos:Pos}{wi:TI}{g:TG}{tt:TT}{te:TE}(own:List Str)(fr:List (Str×Nat))(hc:X.calm=true)(hi:PI X tg iter wi)
  (hgx:GExt g own.length) (hB:∀ cl C fp s2 H2,PG (X.comp (own++fr.map (·.1)) scope cl C fp s2 H2) tg g∧PFs (X.comp (own++fr.map (·.1)) scope cl C fp s2 H2) ifs tt∧PE (X.comp (own++fr.map (·.1)) scope cl C fp s2 H2) elt te)
  (hkind:scope.kind=.function) (hcell:∀ y∈scope.names,y.2≠.cell) (hnames:∀ y∈scope.names,y.2=.local→scope.names.lookup y.1=some .local)
  (hfree:∀ y∈scope.names,y.2=.free→X.env.kindOf y.1=some .cell∨X.env.kindOf y.1=some .free)
  (hfr:∀ p∈fr,X.N[p.2]?=some p.1∧(X.env.kindOf p.1=some .cell∨X.env.kindOf p.1=some .free)∧(p.1,NameKind.free)∈scope.names∧((relabel scope X.env).names.lookup p.1=some .cell∨(relabel scope X.env).names.lookup p.1=some .free))
  (hs:∀ x,foldedSetIterable iter X.env x=pure x:=by intro _;rfl):PE X (.ListComp elt [⟨tg,iter,ifs,0⟩] scope pos) (tComp own.length (fr.map (·.2)) wi g tt te):=by
 intro pins s σ H Q I h
 obtain⟨cl,hclos,hcl,hcl2⟩:=closure_of (env:=X.env) (scope:=scope) fun y hy hf=>I.ok.has y.1 (hfree y hy hf)
 rw[eval_ListComp]
 refine wpAny_comprehension_free (use:=none) rfl hs hclos hkind hnames (thn (hi pins s σ H _ I h) fun v s1 h1=>thn h1 fun itv s2 h2=>?_)
 obtain⟨it,fp,tn,J,H2,e,I2,T,st2,f2,h3⟩:=h2
 subst e
 obtain⟨W,⟨m0,w0⟩,turn⟩:=h3 s2.heap.objs.size I2.fresh
 have hb:∀ b∈fp,b < s2.heap.objs.size:=fun b z=>by
  obtain⟨o,e,_⟩:=T.obj _ _ st2 b z
  exact Heap.lt_size e
 refine wpAny_newObj_type (wpAny_newFunctionEnv hcell (by intro y hy;simp at hy) (fun h₁ hns₁ hsb₁=>?_) hkind)
 dsimp only at hns₁ hsb₁ ⊢
 generalize hH2:s2.heap.push { cls:=.type "list", dict:=none,data:=.seq ([]:List Value).toArray }=G at hns₁ hsb₁ ⊢
 have hCs:G.objs.size=s2.heap.objs.size+1:=by rw[← hH2,Heap.size_push]
 have old:∀ b o,s2.heap.get? b=some o→h₁.get? b=some o:=fun b o e=>hsb₁.extBut b o (Nat.ne_of_lt (by rw[hCs];exact Nat.lt_succ_of_lt (Heap.lt_size e))) (Heap.get?_push_of_some _ (hH2▸Heap.get?_push_of_some _ e))
 have hD:h₁.get? s2.heap.objs.size=some { cls:=.type "list", data:=.seq ([]:List Value).toArray }:=hsb₁.extBut _ _ (Nat.ne_of_lt (by rw[hCs];exact Nat.lt_succ_self _)) (Heap.get?_push_of_some _ (hH2▸Heap.get?_push_size _ rfl))
 generalize hC:G.objs.size=C at hns₁ hsb₁ hCs ⊢
 have hns':h₁.Ns C (fun _=>none):=by
  have e:(fun x=>(([]:List (Str×Value)).reverse.lookup x))=fun _=>(none:Option Value):=by funext x;rfl
  rw[← e]
  exact hns₁
 have hle:s2.heap.objs.size≤C:=by rw[hCs];exact Nat.le_succ _
 have hne:C≠s2.heap.objs.size:=Nat.ne_of_gt (by rw[hCs];exact Nat.lt_succ_self _)
 let Y:Cx:=X.comp (own++fr.map (·.1)) scope cl C fp s2 H2
 have stat:∀{H':Hp},(∀ b∈fp,H' b=none)→∀ b∈fp,FpOk Y [] H' b:=fun hn=>Inv.fpComp I2 f2 hb hle hcl hn
 obtain⟨gY,pY,eY⟩:=hB cl C fp s2 H2
 have IY:Inv Y [] (compSt own.length (fr.map (·.2)) σ) (upd H2 s2.heap.objs.size (.lst [])) { s2 with heap:=h₁,toks:=s2.toks+([]:List (Str×Value)).length } :=
  Inv.comp (D:=s2.heap.objs.size) I2 f2 hb hkind hcell hcl hcl2 hfr (Nat.le_refl _) hle hne hns' old hD rfl I2.bare
 have loop:codeAny (model X.prog X.w) X.A (.compLoop (.ListComp elt [⟨tg,iter,ifs,0⟩] scope pos) 0 (.ref it) (.ref s2.heap.objs.size) (compEnvC scope cl C X.env)) (compPost (model X.prog X.w) X.A X.xe none (EP X pins σ Q) (.ref s2.heap.objs.size) C)
   { s2 with heap:=h₁,toks:=s2.toks+([]:List (Str×Value)).length }:=by
  refine compLoop_any (E:=fun _ _=>False) (fun n s'=>∃ i acc H',Inv Y [] (compSt own.length (fr.map (·.2)) σ) H' s'∧tn i s'.heap∧(∀ b∈fp,H' b=none)∧W i n acc H') (fun _ _ z=>z) ?_ m0
   ⟨0,[],_,IY,T.keep _ _ _ st2 fun b _ o e=>old b o e,fun b z=>by rw[upd_ne (Nat.ne_of_lt (hb b z))];exact (f2 b z).1,w0⟩
  rintro n s3 ⟨i,acc,H3,I3,st3,fr3,w3⟩
  rcases turn i n acc H3 w3 with ⟨stop,q⟩ | ⟨go,Nn,hN,step⟩
  ·refine thn (T.done Y rfl rfl rfl hc i [] s3 _ H3 _ I3 (stat fr3) st3 stop) fun r s4 ⟨hr,I4⟩=>?_
   subst hr
   obtain⟨m4,hn4,_⟩:=I4.loc
   refine⟨m4,hn4,fun h' hs'=>?_⟩
   have kb:∀ b o,b≠C→s4.heap.get? b=some o→h'.get? b=some o:=fun b o hne e=>hs'.extBut b o hne e
   have hok':HOk X.prog X.w H3 h':=HOk.stays (show HOk X.prog X.w H3 s4.heap from I4.hok) fun b u hn e=>kb b u (fun z=>hn (by rw[z];exact I4.free)) e
   have bI:Un (frs X.stack) fp H2 H3 s2.heap s4.heap:=I4.base
   have lt:∀ b o,s2.heap.get? b=some o→b≠C:=fun b o e=>Nat.ne_of_lt (Nat.lt_of_lt_of_le (Heap.lt_size e) hle)
   have un:Un (frs X.stack) fp H2 H3 s2.heap h' :=
    {keep:=fun b o e n hb hx=>kb b o (lt b o e) (bI.keep b o e n hb hx)
     slot:=fun b o e n hb hx=>by
      obtain⟨sl,e1⟩:=bI.slot b o e n hb hx
      exact⟨sl,kb b _ (lt b o e) e1⟩
     free:=bI.free
     there:=fun b o e hx=>by
      obtain⟨o1,e1⟩:=bI.there b o e hx
      exact⟨o1,kb b _ (lt b o e) e1⟩
     tups:=bI.tups
     frzs:=bI.frzs
     tbls:=bI.tbls }
   exact⟨.ref s2.heap.objs.size,H3,I2.call' (s':={ s4 with heap:=h' }) (ch:=fp) I4.os un hok' I4.bare (fun b z=>⟨(f2 b z).2.2.2.1,(f2 b z).2.1,(f2 b z).2.2.2.2.1,(f2 b z).2.2.2.2.2⟩),rfl,q⟩
  ·refine thn (T.item Y rfl rfl rfl hc i [] s3 _ H3 _ I3 (stat fr3) st3 go) fun r s4 ⟨u,hr,h4⟩=>?_
   subst hr
   refine thn h4 fun _ s5 ⟨x,H5,I5,r5,y5,st5,fr5⟩=>?_
   have I5':=I5.pinned (stat fr5) (T.obj _ _ st5)
   refine thn (gY _ s5 _ H5 x u _ I5' r5 (hgx _ x H5 _ (step x H5 y5))) fun _ s6 ⟨σ6,H6,I6,ex6,q6⟩=>?_
   refine thn (pY _ s6 σ6 H6 _ I6 q6) fun ok s7 ⟨H7,I7,q7⟩=>?_
   have again:∀{acc':List V}{H8:Hp}{s8:Shared},Inv Y ([]++pinsAt fp s5.heap) σ6 H8 s8→Nn acc' H8→∃ m,m < n∧∃ i acc H',Inv Y [] (compSt own.length (fr.map (·.2)) σ) H' s8∧tn i s8.heap∧(∀ b∈fp,H' b=none)∧W i m acc H':=fun {acc' H8 s8} I8 n8=>by
    obtain⟨m',hm,w8⟩:=hN acc' H8 n8
    refine⟨m',hm,i+1,acc',H8,I8.unpinned.weak ex6.1 ex6.2,T.keep _ _ _ st5 fun b hb o e=>(I8.pin (b,o) (List.mem_append_right _ (List.mem_append_right _ (mem_pinsAt hb e)))).1,fun b hb=>?_,w8⟩
    obtain⟨o,e,d⟩:=T.obj _ _ st5 b hb
    exact (I8.pin (b,o) (List.mem_append_right _ (List.mem_append_right _ (mem_pinsAt hb e)))).2.1
   cases ok with
   | false=>exact again I7 (by simpa using q7)
   | true =>
    have q7':=(by simpa using q7:te σ6 H7 _)
    refine thn (eY _ s7 σ6 H7 _ I7 q7') fun xv s8 ⟨y,H8,I8,r8,hl8,hz8,n8⟩=>?_
    refine thn (mt_append (X:=Y) _ s8 σ6 H8 (.ref s2.heap.objs.size) [y] (.ref s2.heap.objs.size) [xv] (fun v H9=>v=.non∧H9=upd H8 s2.heap.objs.size (.lst (acc++[y]))) I8 rfl (.cons r8 .nil) ⟨_,acc,y,rfl,rfl,hl8,hz8,rfl,rfl⟩) fun _ s9 ⟨v9,H9,I9,_,_,e9⟩=>?_
    subst e9
    exact again I9 n8
 exact codeAny_compStart_list loop (T.self X.A 0 _ _ _ (T.keep _ _ _ st2 fun b _ o e=>old b o e) loop)
theorem ps_setC{elt iter tg:Expr}{ifs:List Expr}{scope:Scope}{pos spos py:Pos}{wi:TI}{g:TG}{tt:TT}{te:TE}{k:Nat}{y:Str}(own:List Str)(fr:List (Str×Nat))(hNd:X.N.Nodup)(hk:X.N[k]?=some y)(hy:X.env.scope.names.lookup y=some .local)(hc:X.calm=true)(hi:PI X tg iter wi)
  (hgx:GExt g own.length) (hB:∀ cl C fp s2 H2,PG (X.comp (own++fr.map (·.1)) scope cl C fp s2 H2) tg g∧PFs (X.comp (own++fr.map (·.1)) scope cl C fp s2 H2) ifs tt∧PE (X.comp (own++fr.map (·.1)) scope cl C fp s2 H2) elt te)
  (hkind:scope.kind=.function) (hcell:∀ y∈scope.names,y.2≠.cell) (hnames:∀ y∈scope.names,y.2=.local→scope.names.lookup y.1=some .local)
  (hfree:∀ y∈scope.names,y.2=.free→X.env.kindOf y.1=some .cell∨X.env.kindOf y.1=some .free)
  (hfr:∀ p∈fr,X.N[p.2]?=some p.1∧(X.env.kindOf p.1=some .cell∨X.env.kindOf p.1=some .free)∧(p.1,NameKind.free)∈scope.names∧((relabel scope X.env).names.lookup p.1=some .cell∨(relabel scope X.env).names.lookup p.1=some .free))
  (hsw:swapsWith (.ListComp elt [⟨tg,iter,ifs,0⟩] scope pos) (some (.Name y py)) spos.line X.env=pure true:=by rfl)
  (hs:∀ x,foldedSetIterable iter X.env x=pure x:=by intro _;rfl):PS X (.Assign [.Name y py] (.ListComp elt [⟨tg,iter,ifs,0⟩] scope pos) spos) (tAsg (tComp own.length (fr.map (·.2)) wi g tt te) (gName k)):=by
 intro pins s σ H DD I h
 obtain⟨cl,hclos,hcl,hcl2⟩:=closure_of (env:=X.env) (scope:=scope) fun y hy hf=>I.ok.has y.1 (hfree y hy hf)
 rw[exec_Assign_Name_used _ _ _ _ hsw]
 refine wpAny_bind (wpAny_standAt (wpAny_bind ?_))
 refine wpAny_bind (thn (wpAny_comprehension_free (M:=model X.prog X.w) (A:=X.A) (E:=X.xe) (e:=.ListComp elt [⟨tg,iter,ifs,0⟩] scope pos) (first:=eval iter X.env) (newAcc:=newList []) (use:=some (assign (.Name y py) X.env)) (Q:=fun _ s'=>SP X pins DD .next s') rfl hs hclos hkind hnames
  (thn (hi pins s σ H _ I h) fun v s1 h1=>thn h1 fun itv s2 h2=>?_)) fun _ s' hq=>wpAny_pure (wpAny_pure hq))
 obtain⟨it,fp,tn,J,H2,e,I2,T,st2,f2,h3⟩:=h2
 subst e
 obtain⟨W,⟨m0,w0⟩,turn⟩:=h3 s2.heap.objs.size I2.fresh
 have hb:∀ b∈fp,b < s2.heap.objs.size:=fun b z=>by
  obtain⟨o,e,_⟩:=T.obj _ _ st2 b z
  exact Heap.lt_size e
 refine wpAny_newObj_type (wpAny_newFunctionEnv hcell (by intro y hy;simp at hy) (fun h₁ hns₁ hsb₁=>?_) hkind)
 dsimp only at hns₁ hsb₁ ⊢
 generalize hH2:s2.heap.push { cls:=.type "list", dict:=none,data:=.seq ([]:List Value).toArray }=G at hns₁ hsb₁ ⊢
 have hCs:G.objs.size=s2.heap.objs.size+1:=by rw[← hH2,Heap.size_push]
 have old:∀ b o,s2.heap.get? b=some o→h₁.get? b=some o:=fun b o e=>hsb₁.extBut b o (Nat.ne_of_lt (by rw[hCs];exact Nat.lt_succ_of_lt (Heap.lt_size e))) (Heap.get?_push_of_some _ (hH2▸Heap.get?_push_of_some _ e))
 have hD:h₁.get? s2.heap.objs.size=some { cls:=.type "list", data:=.seq ([]:List Value).toArray }:=hsb₁.extBut _ _ (Nat.ne_of_lt (by rw[hCs];exact Nat.lt_succ_self _)) (Heap.get?_push_of_some _ (hH2▸Heap.get?_push_size _ rfl))
 generalize hC:G.objs.size=C at hns₁ hsb₁ hCs ⊢
 have hns':h₁.Ns C (fun _=>none):=by
  have e:(fun x=>(([]:List (Str×Value)).reverse.lookup x))=fun _=>(none:Option Value):=by funext x;rfl
  rw[← e]
  exact hns₁
 have hle:s2.heap.objs.size≤C:=by rw[hCs];exact Nat.le_succ _
 have hne:C≠s2.heap.objs.size:=Nat.ne_of_gt (by rw[hCs];exact Nat.lt_succ_self _)
 let Y:Cx:=X.comp (own++fr.map (·.1)) scope cl C fp s2 H2
 have stat:∀{H':Hp},(∀ b∈fp,H' b=none)→∀ b∈fp,FpOk Y [] H' b:=fun hn=>Inv.fpComp I2 f2 hb hle hcl hn
 obtain⟨gY,pY,eY⟩:=hB cl C fp s2 H2
 have IY:Inv Y [] (compSt own.length (fr.map (·.2)) σ) (upd H2 s2.heap.objs.size (.lst [])) { s2 with heap:=h₁,toks:=s2.toks+([]:List (Str×Value)).length } :=
  Inv.comp (D:=s2.heap.objs.size) I2 f2 hb hkind hcell hcl hcl2 hfr (Nat.le_refl _) hle hne hns' old hD rfl I2.bare
 have loop:codeAny (model X.prog X.w) X.A (.compLoop (.ListComp elt [⟨tg,iter,ifs,0⟩] scope pos) 0 (.ref it) (.ref s2.heap.objs.size) (compEnvC scope cl C X.env)) (compPost (model X.prog X.w) X.A X.xe (some (assign (.Name y py) X.env)) (fun _ s'=>SP X pins DD .next s') (.ref s2.heap.objs.size) C)
   { s2 with heap:=h₁,toks:=s2.toks+([]:List (Str×Value)).length }:=by
  refine compLoop_any (E:=fun _ _=>False) (fun n s'=>∃ i acc H',Inv Y [] (compSt own.length (fr.map (·.2)) σ) H' s'∧tn i s'.heap∧(∀ b∈fp,H' b=none)∧W i n acc H') (fun _ _ z=>z) ?_ m0
   ⟨0,[],_,IY,T.keep _ _ _ st2 fun b _ o e=>old b o e,fun b z=>by rw[upd_ne (Nat.ne_of_lt (hb b z))];exact (f2 b z).1,w0⟩
  rintro n s3 ⟨i,acc,H3,I3,st3,fr3,w3⟩
  rcases turn i n acc H3 w3 with ⟨stop,q⟩ | ⟨go,Nn,hN,step⟩
  ·refine thn (T.done Y rfl rfl rfl hc i [] s3 _ H3 _ I3 (stat fr3) st3 stop) fun r s4 ⟨hr,I4⟩=>?_
   subst hr
   obtain⟨m4,hn4,_⟩:=I4.loc
   have IX:Inv X pins σ H3 s4:=I2.call' (s':=s4) (ch:=fp) I4.os (show Un (frs X.stack) fp H2 H3 s2.heap s4.heap from I4.base) I4.hok I4.bare (fun b z=>⟨(f2 b z).2.2.2.1,(f2 b z).2.1,(f2 b z).2.2.2.2.1,(f2 b z).2.2.2.2.2⟩)
   have hCL:C≠X.env.locals:=Nat.ne_of_gt (Nat.lt_of_lt_of_le I2.lt hle)
   show wpAny _ _ (assign (.Name y py) X.env (.ref s2.heap.objs.size)) _ _ s4
   have cellLt:∀ z c,X.env.cells.lookup z=some c→c < C:=fun z c e=>by
    obtain⟨v,q'⟩:=I2.cell z c e
    exact Nat.lt_of_lt_of_le q'.lt hle
   refine wpAny_assign_Name (store_ok2 IX hNd hk (Or.inl hy) (v:=.ref s2.heap.objs.size) (u:=.ref s2.heap.objs.size) rfl (fun s5 I5 k5=>?_) (Or.inr hy))
   obtain⟨a5,sb5,ha5⟩:=k5
   have hCa:C≠a5:=by
    rcases ha5 with z | z
    ·rw[z];exact hCL
    ·exact Nat.ne_of_gt (cellLt _ _ z)
   refine⟨m4,Heap.Ns.sameBut hn4 sb5 hCa,fun h' hs'=>?_⟩
   refine⟨σ.set k (some (.ref s2.heap.objs.size)),H3,?_,q⟩
   refine I5.turned (it:=C) (t':=s5.toks) (fun b o hne e=>hs'.extBut b o hne e) I4.free hCL (.inr (Nat.le_trans I2.sz hle)) (fun z c e=>Nat.ne_of_lt (cellLt z c e)) fun p hp=>?_
   exact Nat.ne_of_lt (Nat.lt_of_lt_of_le (Heap.lt_size (I2.pin p hp).1) hle)
  ·refine thn (T.item Y rfl rfl rfl hc i [] s3 _ H3 _ I3 (stat fr3) st3 go) fun r s4 ⟨u,hr,h4⟩=>?_
   subst hr
   refine thn h4 fun _ s5 ⟨x,H5,I5,r5,y5,st5,fr5⟩=>?_
   have I5':=I5.pinned (stat fr5) (T.obj _ _ st5)
   refine thn (gY _ s5 _ H5 x u _ I5' r5 (hgx _ x H5 _ (step x H5 y5))) fun _ s6 ⟨σ6,H6,I6,ex6,q6⟩=>?_
   refine thn (pY _ s6 σ6 H6 _ I6 q6) fun ok s7 ⟨H7,I7,q7⟩=>?_
   have again:∀{acc':List V}{H8:Hp}{s8:Shared},Inv Y ([]++pinsAt fp s5.heap) σ6 H8 s8→Nn acc' H8→∃ m,m < n∧∃ i acc H',Inv Y [] (compSt own.length (fr.map (·.2)) σ) H' s8∧tn i s8.heap∧(∀ b∈fp,H' b=none)∧W i m acc H':=fun {acc' H8 s8} I8 n8=>by
    obtain⟨m',hm,w8⟩:=hN acc' H8 n8
    refine⟨m',hm,i+1,acc',H8,I8.unpinned.weak ex6.1 ex6.2,T.keep _ _ _ st5 fun b hb o e=>(I8.pin (b,o) (List.mem_append_right _ (List.mem_append_right _ (mem_pinsAt hb e)))).1,fun b hb=>?_,w8⟩
    obtain⟨o,e,d⟩:=T.obj _ _ st5 b hb
    exact (I8.pin (b,o) (List.mem_append_right _ (List.mem_append_right _ (mem_pinsAt hb e)))).2.1
   cases ok with
   | false=>exact again I7 (by simpa using q7)
   | true =>
    have q7':=(by simpa using q7:te σ6 H7 _)
    refine thn (eY _ s7 σ6 H7 _ I7 q7') fun xv s8 ⟨y,H8,I8,r8,hl8,hz8,n8⟩=>?_
    refine thn (mt_append (X:=Y) _ s8 σ6 H8 (.ref s2.heap.objs.size) [y] (.ref s2.heap.objs.size) [xv] (fun v H9=>v=.non∧H9=upd H8 s2.heap.objs.size (.lst (acc++[y]))) I8 rfl (.cons r8 .nil) ⟨_,acc,y,rfl,rfl,hl8,hz8,rfl,rfl⟩) fun _ s9 ⟨v9,H9,I9,_,_,e9⟩=>?_
    subst e9
    exact again I9 n8
 exact codeAny_compStart_list loop (T.self X.A 0 _ _ _ (T.keep _ _ _ st2 fun b _ o e=>old b o e) loop)
end
theorem comp_list{K:PySem.W.Frag}{a l:Addr}{xs:List V}{n:Nat}{js:List Nat}{g:TG}{tt:TT}{te:TE}{σ:St}{H1:Hp}{Q:VK}(Pv:Nat→List V→Hp→Prop)(h0:Pv 0 [] (upd H1 l (.lst [])))(hl:∀ i acc H,i≤xs.length→Pv i acc H→SqL K H a xs)
  (hs:∀ i x acc H,xs[i]?=some x→Pv i acc H→g x (compSt n js σ) H fun σ2 H2=>tt σ2 H2 fun b H3=>if b=true then te σ2 H3 fun y H4=>H4 l=some (.lst acc)∧acc.length < sizeLine∧Pv (i+1) (acc++[y]) (upd H4 l (.lst (acc++[y]))) else Pv (i+1) acc H3)
  (hd:∀ acc H,Pv xs.length acc H→Q (.ref l) H) :
  ∃ W:Nat→Nat→List V→Hp→Prop,(∃ m,W 0 m [] (upd H1 l (.lst [])))∧∀ i m acc H,W i m acc H →
   ((Itl K a).stop i H∧Q (.ref l) H)∨((Itl K a).go i H∧∃ N:List V→Hp→Prop,(∀ acc' H',N acc' H'→∃ m',m' < m∧W (i+1) m' acc' H') ∧
    ∀ x H',(Itl K a).yld i H x H'→g x (compSt n js σ) H' fun σ2 H2=>tt σ2 H2 fun b H3=>if b=true then te σ2 H3 fun y H4=>H4 l=some (.lst acc)∧acc.length < sizeLine∧N (acc++[y]) (upd H4 l (.lst (acc++[y]))) else N acc H3):=by
 refine⟨fun i m acc H=>m=xs.length - i∧i≤xs.length∧Pv i acc H,⟨xs.length,by simp,Nat.zero_le _,h0⟩,?_⟩
 rintro i m acc H ⟨rfl,hi,p⟩
 have q:=hl i acc H hi p
 by_cases hlt:i < xs.length
 ·refine .inr ⟨⟨xs,xs[i],q,by simp[hlt]⟩,Pv (i+1),fun acc' H' p'=>⟨xs.length - (i+1),by omega,rfl,hlt,p'⟩,fun x H' y=>?_⟩
  obtain⟨e,y⟩:=y
  subst e
  exact hs i x acc _ (y xs q) p
 ·have e:i=xs.length:=by omega
  subst e
  exact .inl ⟨⟨xs,q,Nat.le_refl _⟩,hd acc H p⟩
theorem comp_range{lo:Int}{k:Nat}{l:Addr}{n:Nat}{js:List Nat}{g:TG}{tt:TT}{te:TE}{σ:St}{H1:Hp}{Q:VK}(Pv:Nat→List V→Hp→Prop)(h0:Pv 0 [] (upd H1 l (.lst [])))
  (hs:∀ i acc H,i < k→Pv i acc H→g (.int (lo+i)) (compSt n js σ) H fun σ2 H2=>tt σ2 H2 fun b H3=>if b=true then te σ2 H3 fun y H4=>H4 l=some (.lst acc)∧acc.length < sizeLine∧Pv (i+1) (acc++[y]) (upd H4 l (.lst (acc++[y]))) else Pv (i+1) acc H3)
  (hd:∀ acc H,Pv k acc H→Q (.ref l) H) :
  ∃ W:Nat→Nat→List V→Hp→Prop,(∃ m,W 0 m [] (upd H1 l (.lst [])))∧∀ i m acc H,W i m acc H →
   ((Itr lo k).stop i H∧Q (.ref l) H)∨((Itr lo k).go i H∧∃ N:List V→Hp→Prop,(∀ acc' H',N acc' H'→∃ m',m' < m∧W (i+1) m' acc' H') ∧
    ∀ x H',(Itr lo k).yld i H x H'→g x (compSt n js σ) H' fun σ2 H2=>tt σ2 H2 fun b H3=>if b=true then te σ2 H3 fun y H4=>H4 l=some (.lst acc)∧acc.length < sizeLine∧N (acc++[y]) (upd H4 l (.lst (acc++[y]))) else N acc H3):=by
 refine⟨fun i m acc H=>m=k - i∧i≤k∧Pv i acc H,⟨k,by simp,Nat.zero_le _,h0⟩,?_⟩
 rintro i m acc H ⟨rfl,hi,p⟩
 by_cases hlt:i < k
 ·refine .inr ⟨hlt,Pv (i+1),fun acc' H' p'=>⟨k - (i+1),by omega,rfl,hlt,p'⟩,fun x H' y=>?_⟩
  obtain⟨e,y⟩:=y
  subst e y
  exact hs i acc _ hlt p
 ·have e:i=k:=by omega
  subst e
  exact .inl ⟨Nat.le_refl _,hd acc H p⟩
theorem comp_listR{K:PySem.W.Frag}{a l:Addr}{xs:List V}{n:Nat}{js:List Nat}{g:TG}{tt:TT}{te:TE}{σ:St}{H1:Hp}{R:Hp→Prop}(Pv:Nat→List V→Hp→Prop)(h0:Pv 0 [] (upd H1 l (.lst [])))(hl:∀ i acc H,i≤xs.length→Pv i acc H→SqL K H a xs)
  (hs:∀ i x acc H,xs[i]?=some x→Pv i acc H→g x (compSt n js σ) H fun σ2 H2=>tt σ2 H2 fun b H3=>if b=true then te σ2 H3 fun y H4=>H4 l=some (.lst acc)∧acc.length < sizeLine∧Pv (i+1) (acc++[y]) (upd H4 l (.lst (acc++[y]))) else Pv (i+1) acc H3)
  (hd:∀ acc H,Pv xs.length acc H→R H) :
  ∃ W:Nat→Nat→List V→Hp→Prop,(∃ m,W 0 m [] (upd H1 l (.lst [])))∧∀ i m acc H,W i m acc H →
   ((Itl K a).stop i H∧R H)∨((Itl K a).go i H∧∃ N:List V→Hp→Prop,(∀ acc' H',N acc' H'→∃ m',m' < m∧W (i+1) m' acc' H') ∧
    ∀ x H',(Itl K a).yld i H x H'→g x (compSt n js σ) H' fun σ2 H2=>tt σ2 H2 fun b H3=>if b=true then te σ2 H3 fun y H4=>H4 l=some (.lst acc)∧acc.length < sizeLine∧N (acc++[y]) (upd H4 l (.lst (acc++[y]))) else N acc H3):=comp_list (Q:=fun _ H=>R H) Pv h0 hl hs hd
theorem comp_rangeR{lo:Int}{k:Nat}{l:Addr}{n:Nat}{js:List Nat}{g:TG}{tt:TT}{te:TE}{σ:St}{H1:Hp}{R:Hp→Prop}(Pv:Nat→List V→Hp→Prop)(h0:Pv 0 [] (upd H1 l (.lst [])))
  (hs:∀ i acc H,i < k→Pv i acc H→g (.int (lo+i)) (compSt n js σ) H fun σ2 H2=>tt σ2 H2 fun b H3=>if b=true then te σ2 H3 fun y H4=>H4 l=some (.lst acc)∧acc.length < sizeLine∧Pv (i+1) (acc++[y]) (upd H4 l (.lst (acc++[y]))) else Pv (i+1) acc H3)
  (hd:∀ acc H,Pv k acc H→R H) :
  ∃ W:Nat→Nat→List V→Hp→Prop,(∃ m,W 0 m [] (upd H1 l (.lst [])))∧∀ i m acc H,W i m acc H →
   ((Itr lo k).stop i H∧R H)∨((Itr lo k).go i H∧∃ N:List V→Hp→Prop,(∀ acc' H',N acc' H'→∃ m',m' < m∧W (i+1) m' acc' H') ∧
    ∀ x H',(Itr lo k).yld i H x H'→g x (compSt n js σ) H' fun σ2 H2=>tt σ2 H2 fun b H3=>if b=true then te σ2 H3 fun y H4=>H4 l=some (.lst acc)∧acc.length < sizeLine∧N (acc++[y]) (upd H4 l (.lst (acc++[y]))) else N acc H3):=comp_range (Q:=fun _ H=>R H) Pv h0 hs hd
end L2
namespace L2
open PySem PySem.Spec PyProof.Rows
open PySem.Builtin.Int (intBits)
abbrev Sz(k:Nat)(x:Int):Prop:=intBits x≤k
theorem Sz.of{k:Nat}{x:Int}(h:x.natAbs < 2 ^ k):Sz k x:=PySem.intBits_le_iff.mpr h
theorem Sz.lt{k:Nat}{x:Int}(h:Sz k x):x.natAbs < 2 ^ k:=PySem.intBits_le_iff.mp h
theorem Sz.mono{j k:Nat}{x:Int}(h:Sz j x)(q:j≤k):Sz k x:=Nat.le_trans h q
theorem Sz.le{k:Nat}{x y:Int}(h:Sz k y)(q:x.natAbs≤y.natAbs):Sz k x:=PySem.intBits_le_of_natAbs q h
theorem Sz.mul{j k:Nat}{x y:Int}(h:Sz j x)(q:Sz k y):Sz (j+k) (x*y):=PySem.intBits_mul_le h q
theorem Sz.add{k:Nat}{x y:Int}(h:Sz k x)(q:Sz k y):Sz (k+1) (x+y):=Nat.le_trans (PySem.intBits_add_le h q) (by omega)
theorem Sz.sub{k:Nat}{x y:Int}(h:Sz k x)(q:Sz k y):Sz (k+1) (x - y):=Nat.le_trans (PySem.intBits_sub_le h q) (by omega)
theorem Sz.neg{k:Nat}{x:Int}(h:Sz k x):Sz k (-x):=PySem.intBits_neg_le h
theorem Sz.ok{j k:Nat}{x y:Int}(h:Sz j x)(q:Sz k y)(e:j+k≤134217728):IntMulOk x y:=PySem.IntMulOk.of_le h q e
theorem Sz.okR{k:Nat}{x y:Int}(q:Sz k y)(e:k≤64):IntMulOk x y:=IntMulOk.of_right (Nat.le_trans q e)
theorem Sz.noPy{k:Nat}{x y:Int}(q:Sz k y)(e:k≤9000):Builtin.divisionGoesByPylong x y=false:=by
 refine PyProof.noPylong_of_log2 ?_
 by_cases h0:y.natAbs=0
 ·rw[h0];decide +kernel
 ·exact (Nat.log2_lt h0).mpr (Sz.lt (q.mono e))
section
variable {X:Cx}
def CMulB(i j:Int):Prop:=IntMulOk i j
def CDivB(i j:Int):Prop:=0 < j∧Sz 9000 j
theorem op_mulB:OpR X (binaryOp .Mult) (rI CMulB fun i j=>.int (i*j)):=opI fun _ _ _ _ _ _ _ hc q=>mul_int q hc
theorem op_fdivB:OpR X (binaryOp .FloorDiv) (rI CDivB fun i j=>.int (i / j)):=opI fun i j _ _ _ _ _ hc q=>by
 have h1:(0:Int) < j:=hc.1
 exact floordiv_int (by omega) (by rw[Int.fdiv_eq_ediv_of_nonneg i (by omega)];exact q) (.inl (Sz.noPy hc.2 (Nat.le_refl _)))
def tyNm(x:V)(H:Hp):Option String:=match x with
 | .non=>some "NoneType"
 | .bl _=>some "bool"
 | .int _=>some "int"
 | .str _=>some "str"
 | .ref a=>(match H a with
  | some (.lst _)=>some "list"
  | some (.tup _)=>some "tuple"
  | some (.dK _)=>some "dict"
  | _=>none)
 | _=>none
theorem tyNm_of{K:PySem.W.Frag}{H:Hp}{x:V}{n:String}(h:tyNm x H=some n):TyOf K H x (.type n):=by
 unfold tyNm at h
 split at h
 ·cases h;exact .non
 ·cases h;exact .bl _
 ·cases h;exact .int _
 ·cases h;exact .str _
 ·split at h
  ·cases h;exact .lst (by assumption)
  ·cases h;exact .tup (by assumption)
  ·cases h;exact .dK (by assumption)
  ·cases h
 ·cases h
def isiB(t c:String):Bool:=t == c || (t == "bool" && c == "int")
def isiNames:List String:=["NoneType", "bool", "int", "str", "list", "tuple", "dict"]
theorem kit_of(K:PySem.W.Frag):∀ t∈isiNames,∀ c∈["bool", "int", "str", "list", "tuple", "dict"],PySem.W.kitOne K (.type t) (.type c)=some (isiB t c):=by
 intro t ht c hc
 simp only[isiNames,List.mem_cons,List.not_mem_nil,or_false] at ht hc
 rcases ht with rfl | rfl | rfl | rfl | rfl | rfl | rfl<;>rcases hc with rfl | rfl | rfl | rfl | rfl | rfl<;>kernel_rfl
theorem tyNm_mem{x:V}{H:Hp}{n:String}(h:tyNm x H=some n):n∈isiNames:=by
 unfold tyNm at h
 split at h
 ·cases h;decide
 ·cases h;decide
 ·cases h;decide
 ·cases h;decide
 ·split at h
  ·cases h;decide
  ·cases h;decide
  ·cases h;decide
  ·cases h
 ·cases h
def rIsi:List V→Hp→VK→Prop:=fun xs H Q=>∃ x n t,xs=[x,.ty n]∧n∈["bool", "int", "str", "list", "tuple", "dict"]∧tyNm x H=some t∧Q (.bl (isiB t n)) H
theorem call_isi:CallR X (.builtin "isinstance") rIsi:=by
 intro pins s σ H xs us Q I r h
 obtain⟨x,n,t,rfl,hn,ty,q⟩:=h
 obtain⟨u,v,rfl,ru,rv⟩:=r.two
 obtain rfl:v=Value.type n:=rv
 exact isinst_ok I ru (tyNm_of ty) (kit_of X.K t (tyNm_mem ty) n hn) fun tk=>⟨.bl _,H,I.tok tk,rfl,q⟩
theorem isiN_int:("int" ∈ ["bool", "int", "str", "list", "tuple", "dict"])=True:=eq_true (by decide)
theorem isiN_bool:("bool" ∈ ["bool", "int", "str", "list", "tuple", "dict"])=True:=eq_true (by decide)
theorem isiN_list:("list" ∈ ["bool", "int", "str", "list", "tuple", "dict"])=True:=eq_true (by decide)
theorem isiN_tuple:("tuple" ∈ ["bool", "int", "str", "list", "tuple", "dict"])=True:=eq_true (by decide)
theorem isiN_str:("str" ∈ ["bool", "int", "str", "list", "tuple", "dict"])=True:=eq_true (by decide)
theorem isi_ii:isiB "int" "int" = true:=rfl
theorem isi_ib:isiB "int" "bool" = false:=rfl
theorem isi_bb:isiB "bool" "bool" = true:=rfl
theorem isi_bi:isiB "bool" "int" = true:=rfl
theorem isi_tt:isiB "tuple" "tuple" = true:=rfl
theorem isi_ll:isiB "list" "list" = true:=rfl
theorem isi_nt:isiB "NoneType" "tuple" = false:=rfl
theorem isi_ni:isiB "NoneType" "int" = false:=rfl
def seqAt(H:Hp)(p:Addr):Option (List V):=match H p with
 | some (.lst xs)=>some xs
 | some (.tup xs)=>some xs
 | some (.frz _ (.lst xs))=>some xs
 | _=>none
theorem sq_of{K:PySem.W.Frag}{H:Hp}{p:Addr}{xs:List V}(h:seqAt H p=some xs):SqL K H p xs∨SqT K H p xs:=by
 unfold seqAt at h
 split at h
 ·rename_i e;cases h;exact .inl (SqL.of e)
 ·rename_i e;cases h;exact .inr (SqT.of e)
 ·rename_i e;cases h;exact .inl (.inl (.inr ⟨_,e⟩))
 ·cases h
def rIxF:R2:=fun x y H Q=>∃ p xs i v,x=.ref p∧y=.int i∧seqAt H p=some xs∧atI xs i=some v∧Q v H
theorem ix_seqA:IxR X rIxF:=by
 intro value slice pins s σ H x y v u Q I rx ry h hs
 obtain⟨p,xs,i,z,e1,e2,hq,he,q⟩:=h
 rcases sq_of (K:=X.K) hq with h' | h'
 ·exact ix_list value slice pins s σ H x y v u Q I rx ry ⟨p,xs,i,z,e1,e2,h',he,q⟩ hs
 ·exact ix_tup value slice pins s σ H x y v u Q I rx ry ⟨p,xs,i,z,e1,e2,h',he,q⟩ hs
def rLenF:List V→Hp→VK→Prop:=fun xs H Q=>∃ p ys,xs=[.ref p]∧seqAt H p=some ys∧Q (.int ys.length) H
theorem call_lenF:CallR X (.builtin "len") rLenF:=by
 intro pins s σ H xs us Q I r h
 obtain⟨p,ys,e1,hq,q⟩:=h
 exact call_len_seq pins s σ H xs us Q I r ⟨p,ys,e1,sq_of hq,q⟩
def rGetF:V→V→Hp→VK→Prop:=fun x y H Q=>∃ p xs i v,x=.ref p∧y=.int i∧H p=some (.lst xs)∧0≤i∧atI xs i=some v∧Q v H
theorem get_list:PGet X rGetF:=by
 intro pins s σ H o i ov iv Q I r1 r2 h
 obtain⟨p,xs,k,v,rfl,rfl,hl,h0,he,q⟩:=h
 obtain rfl:ov=Value.ref p:=r1
 obtain⟨t,rfl⟩:=r2
 obtain⟨its,rv,pl,hz⟩:=I.list (SqL.of hl)
 obtain⟨j,h1,h2,h3,h4,h5⟩:=atI_get he
 obtain⟨u,hu,ru⟩:=rv.get h2
 have hlen:=rv.length
 have hn:=line63
 have hj:k.toNat=j:=by
  rw[seqIndex_of h0 h5] at h1
  exact Option.some.inj h1
 exact wpAny_getItem_list pl.isList h0 (by omega) (by rw[hj];simpa using hu) ⟨v,H,I,ru,q⟩
theorem atI_0{α:Type}{a:α}{l:List α}:atI (a::l) 0=some a:=atI_nat (j:=0) rfl
theorem atI_1{α:Type}{a b:α}{l:List α}:atI (a::b::l) 1=some b:=atI_nat (j:=1) rfl
theorem atI_2{α:Type}{a b c:α}{l:List α}:atI (a::b::c::l) 2=some c:=atI_nat (j:=2) rfl
theorem atI_3{α:Type}{a b c d:α}{l:List α}:atI (a::b::c::d::l) 3=some d:=atI_nat (j:=3) rfl
theorem ixN_4_0:ixN 4 0=some 0:=rfl
theorem ixN_4_1:ixN 4 1=some 1:=rfl
theorem ixN_4_2:ixN 4 2=some 2:=rfl
theorem ixN_4_3:ixN 4 3=some 3:=rfl
theorem atI_lt{α:Type}{xs:List α}{i:Int}(h0:0≤i)(h1:i < xs.length):∃ v,atI xs i=some v∧v∈xs:=by
 have hl:i.toNat < xs.length:=by omega
 refine⟨xs[i.toNat],?_,List.getElem_mem hl⟩
 have:=atI_nat (xs:=xs) (j:=i.toNat) (v:=xs[i.toNat]) (by simp[hl])
 rwa [Int.toNat_of_nonneg h0] at this
end
theorem bt_len:bootBuiltins "len" = some (.builtin "len"):=by decide +kernel
theorem bt_abs:bootBuiltins "abs" = some (.builtin "abs"):=by decide +kernel
theorem bt_isinstance:bootBuiltins "isinstance" = some (.builtin "isinstance"):=by decide +kernel
theorem bt_sum:bootBuiltins "sum" = some (.builtin "sum"):=by decide +kernel
theorem bt_all:bootBuiltins "all" = some (.builtin "all"):=by decide +kernel
theorem bt_max:bootBuiltins "max" = some (.builtin "max"):=by decide +kernel
theorem bt_int:bootBuiltins "int" = some (.type "int"):=by decide +kernel
theorem bt_bool:bootBuiltins "bool" = some (.type "bool"):=by decide +kernel
theorem bt_list:bootBuiltins "list" = some (.type "list"):=by decide +kernel
theorem bt_tuple:bootBuiltins "tuple" = some (.type "tuple"):=by decide +kernel
theorem scal_ii{i j:Int}:scal (.int i) (.int j)=true:=rfl
theorem scal_bb{i j:Bool}:scal (.bl i) (.bl j)=true:=rfl
theorem scal_ss{i j:Str}:scal (.str i) (.str j)=true:=rfl
theorem scal_nn:scal .non .non=true:=rfl
theorem sizeLine_1:(1≤sizeLine)=True:=eq_true (by decide)
theorem sizeLine_2:(2≤sizeLine)=True:=eq_true (by decide)
theorem sizeLine_3:(3≤sizeLine)=True:=eq_true (by decide)
theorem sizeLine_4:(4≤sizeLine)=True:=eq_true (by decide)
theorem sizeLine_5:(5≤sizeLine)=True:=eq_true (by decide)
theorem sizeLine_6:(6≤sizeLine)=True:=eq_true (by decide)
theorem sizeLine_7:(7≤sizeLine)=True:=eq_true (by decide)
theorem int_c2:(((2:Nat):Int))=2:=rfl
theorem pow_ok:(Int.natAbs 10 < 2 ^ 64)=True:=eq_true (by decide)
theorem int_01:((0:Int)≤1)=True:=eq_true (by decide)
section
variable {X:Cx}
def rListF:List V→Hp→VK→Prop:=fun xs H Q=>∃ p ys,xs=[.ref p]∧seqAt H p=some ys∧∀ l,H l=none→Q (.ref l) (upd H l (.lst ys))
theorem call_listF:CallR X (.type "list") rListF:=by
 intro pins s σ H xs us Q I r h
 obtain⟨p,ys,e1,hq,q⟩:=h
 exact call_list_of pins s σ H xs us Q I r ⟨p,ys,e1,sq_of hq,q⟩
def rTupF:List V→Hp→VK→Prop:=fun xs H Q=>∃ p ys,xs=[.ref p]∧H p=some (.lst ys)∧∀ l,H l=none→Q (.ref l) (upd H l (.tup ys))
theorem call_tupF:CallR X (.type "tuple") rTupF:=by
 intro pins s σ H xs us Q I r h
 obtain⟨p,ys,e1,hq,q⟩:=h
 exact call_tuple_of pins s σ H xs us Q I r ⟨p,ys,e1,.inl ⟨SqL.of hq,q⟩⟩
theorem cutV_all{ns:List V}{k:Nat}(h:ns.length≤k):cutV ns none (some (k:Int))=ns:=by
 unfold cutV
 rw[HT.sIx_none,HT.sIx_nat,List.drop_zero,Nat.sub_zero,Nat.min_eq_right h,List.take_length]
end
def DefOk(P:Program)(w:World)(K:PySem.W.Frag)(mg:Str→Option Value)(base:Heap)(CX:CXT)(k:Nat)(x:Str)(ps:List Str)(sp:Sp):Prop :=
 ∃ f fd,FnOk P w K mg base CX k f fd ps sp∧mg x=some (.ref f)∧PySem.W.keepIn K (.ref f)=true∧Binds K fd ps []
inductive Tg.{u} {α:Sort u} (a:α):Type
 | mk
def Hold(Q:VK)(_:Tg Q):VK:=Q
theorem Hold_ap{Q:VK}{k:Tg Q}{v:V}{H:Hp}:Hold Q k v H=Q v H:=propext Iff.rfl
def tD(sp:Sp)(E:XK)(t:TA):TE:=fun σ H Q=>t σ H fun vs H1=>sp vs H1 (Hold Q .mk) E
section
variable {X:Cx}{CX:CXT}{k:Nat}{ps:List Str}{sp:Sp}{E:XK}{x:Str}{p pos:Pos}{e:Expr}{es:List Expr}{t:TA}
theorem pe_d(d:DefOk X.prog X.w X.K X.mg X.base CX k x ps sp)(hr:Room k X.A)(hx:Passes CX X E)(hg:Gl X x)(ha:PA X (e::es) t)
  (hdb:(x == ("__debug__" : Str))=false:=by decide) (he:starEach (e::es) X.env=(false,eval e X.env)::starEach es X.env:=by rfl) (hpl:(backTo pos (starEach es X.env)).any (·.1)=false:=by rfl) :
  PE X (.Call (.Name x p) (e::es) [] pos) (tD sp E t):=by
 obtain⟨f,fd,F,hm,hk,hb⟩:=d
 intro pins s σ H Q I h
 refine pe_call (dvs:=[]) (ds:=[]) F hr hg hm hk hb .nil hx ha hdb he hpl pins s σ H Q I ?_
 have e0:tCall sp [] E t=tD sp E t:=by
  funext σ H Q
  unfold tCall tD Hold
  simp only[List.append_nil]
 rw[e0]
 exact h
end
structure DefAt(K:PySem.W.Frag)(mg:Str→Option Value)(x:Str)(st:Stmt)(f:Addr)(fd:FuncData):Prop where
 fn:Fun K x x st f fd
 mg:mg x=some (.ref f)
theorem DefAt.ok{P:Program}{w:World}{K:PySem.W.Frag}{mg:Str→Option Value}{base:Heap}{CX:CXT}{k:Nat}{x:Str}{st:Stmt}{f:Addr}{fd:FuncData}{ps:List Str}{sp:Sp}(D:DefAt K mg x st f fd)(F:FnOk P w K mg base CX k f fd ps sp)(b:Binds K fd ps []):DefOk P w K mg base CX k x ps sp :=
 ⟨f,fd,F,D.mg,D.fn.kp,b⟩
theorem pick{P:Int→Prop}(l:List Int){d:Int}(h0:0≤d)(h1:d < l.length)(hp:∀ x∈l,P x):∃ x,atI (l.map V.int) d=some (.int x)∧P x:=by
 obtain⟨v,e,hv⟩:=atI_lt (xs:=l.map V.int) h0 (by rw[List.length_map];exact h1)
 obtain⟨x,hx,rfl⟩:=List.mem_map.mp hv
 exact⟨x,e,hp x hx⟩
def Fr1(B:Addr)(H H':Hp):Prop:=∀ b o,b≠B→H b=some o→H' b=some o
theorem Fr1.refl{B:Addr}{H:Hp}:Fr1 B H H:=fun _ _ _ h=>h
theorem Fr1.trans{B:Addr}{H H1 H2:Hp}(a:Fr1 B H H1)(b:Fr1 B H1 H2):Fr1 B H H2:=fun c o n h=>b c o n (a c o n h)
theorem Fr1.upd{B:Addr}{H:Hp}{o:HO}:Fr1 B H (L2.upd H B o):=fun c u n h=>by rw[upd_ne n];exact h
theorem Fr1.new{B p:Addr}{H:Hp}{o:HO}(hp:H p=none):Fr1 B H (L2.upd H p o):=fun c u n h=>by rw[upd_ne (ne_of_none h hp)];exact h
theorem Same.new{p:Addr}{H:Hp}{o:HO}(hp:H p=none):Same H (L2.upd H p o):=fun c u h=>by rw[upd_ne (ne_of_none h hp)];exact h
theorem Room.le{j k:Nat}{A:Around}(r:Room k A)(h:j≤k:=by decide):Room j A:=r.mono h
def Brk(b:Bool)(A B:Prop)(_:Tg A)(_:Tg B):Prop:=if b=true then A else B
theorem Brk_t{A B:Prop}{k:Tg A}{l:Tg B}:Brk true A B k l=A:=by unfold Brk;rw[if_pos rfl]
theorem Brk_f{A B:Prop}{k:Tg A}{l:Tg B}:Brk false A B k l=B:=by unfold Brk;rw[if_neg Bool.false_ne_true]
theorem brk{b:Bool}{A B:Prop}{k:Tg A}{l:Tg B}(h1:b=true→A)(h2:b=false→B):Brk b A B k l:=by
 cases b with
 | true=>rw[Brk_t];exact h1 rfl
 | false=>rw[Brk_f];exact h2 rfl
theorem brkD{p:Prop}[Decidable p]{A B:Prop}{k:Tg A}{l:Tg B}(h1:p→A)(h2:¬ p→B):Brk (decide p) A B k l:=brk (fun h=>h1 (of_decide_eq_true h)) (fun h=>h2 (of_decide_eq_false h))
theorem brkN{p:Prop}[Decidable p]{A B:Prop}{k:Tg A}{l:Tg B}(h1:¬ p→A)(h2:p→B):Brk (!decide p) A B k l:=brk (fun h=>h1 (by simpa using h)) (fun h=>h2 (by simpa using h))
section
variable {σ:St}{H:Hp}{Q:VK}{D:Ends}{te ta tb:TE}{t u:TS}{c c':TT}{tr:TA}{QT:Bool→Hp→Prop}{QA:List V→Hp→Prop}{x y:V}{xs:List V}{v:V}
theorem tSeq_ap:tSeq t u D σ H=t { D with nx:=u D } σ H:=propext Iff.rfl
theorem tIfS_ap:tIfS c t u D σ H=c σ H fun b H1=>Brk b (t D σ H1) (u D σ H1) .mk .mk:=propext Iff.rfl
theorem tNext_ap:tNext D σ H=D.nx σ H:=propext Iff.rfl
theorem tDrop_ap:tDrop te D σ H=te σ H fun _ H1=>D.nx σ H1:=propext Iff.rfl
theorem tRet_ap:tRet te D σ H=te σ H D.rt:=propext Iff.rfl
theorem tRetN_ap:tRetN D σ H=D.rt .non H:=propext Iff.rfl
theorem tAsg_ap{g:TG}:tAsg te g D σ H=te σ H fun x H1=>g x σ H1 D.nx:=propext Iff.rfl
theorem gName_ap{i:Nat}{R:St→Hp→Prop}:gName i v σ H R=R (σ.set i (some v)) H:=propext Iff.rfl
theorem gSub_ap{to ti:TE}{ts:TSet}{R:St→Hp→Prop}:gSub to ti ts v σ H R=to σ H fun o H1=>ti σ H1 fun i H2=>ts o i v H2 fun H3=>R σ H3:=propext Iff.rfl
theorem tPar_ap{i j:Nat}:tPar i j tr D σ H=tr σ H fun vs H1=>∃ v w,vs=[v,w]∧D.nx ((σ.set i (some v)).set j (some w)) H1:=propext Iff.rfl
theorem tAugS_ap{to ti:TE}{tg:V→V→Hp→VK→Prop}{tp:TIp}{ts:TSet}:tAugS to ti te tg tp ts D σ H=to σ H fun o H1=>ti σ H1 fun i H2=>tg o i H2 fun x H3=>te σ H3 fun y H4=>tp x y H4 fun z H5=>ts o i z H5 fun H6=>D.nx σ H6:=propext Iff.rfl
theorem tVar_ap{i:Nat}:tVar i σ H Q=∃ v,σ[i]?=some (some v)∧Q v H:=propext Iff.rfl
theorem tC_ap:tC v σ H Q=Q v H:=propext Iff.rfl
theorem tB_ap:tB te σ H QT=te σ H fun x H1=>∃ c,x=.bl c∧QT c H1:=propext Iff.rfl
theorem tTest_ap:tTest te σ H QT=te σ H fun x H1=>∃ c,x=.bl c∧QT c H1:=propext Iff.rfl
theorem tOp_ap{r:R2}:tOp r ta tb σ H Q=ta σ H fun x H1=>tb σ H1 fun y H2=>r x y H2 Q:=propext Iff.rfl
theorem tUn_ap{r:V→Hp→VK→Prop}:tUn r ta σ H Q=ta σ H fun x H1=>r x H1 Q:=propext Iff.rfl
theorem tCB_ap{r:List V→Hp→VK→Prop}:tCB r tr σ H Q=tr σ H fun vs H1=>r vs H1 Q:=propext Iff.rfl
theorem tNil_ap:tNil σ H QA=QA [] H:=propext Iff.rfl
theorem tCons_ap:tCons ta tr σ H QA=ta σ H fun x H1=>tr σ H1 fun xs H2=>QA (x::xs) H2:=propext Iff.rfl
theorem tTup_ap:tTup tr σ H Q=tr σ H fun xs H1=>xs.length≤sizeLine∧∀ p,H1 p=none→Q (.ref p) (upd H1 p (.tup xs)):=propext Iff.rfl
theorem tLst_ap:tLst tr σ H Q=tr σ H fun xs H1=>xs.length≤sizeLine∧∀ p,H1 p=none→Q (.ref p) (upd H1 p (.lst xs)):=propext Iff.rfl
theorem tAnd_ap:tAnd c c' σ H QT=c σ H fun b H1=>Brk b (c' σ H1 QT) (QT false H1) .mk .mk:=propext Iff.rfl
theorem tOr_ap:tOr c c' σ H QT=c σ H fun b H1=>Brk b (QT true H1) (c' σ H1 QT) .mk .mk:=propext Iff.rfl
theorem tNot_ap:tNot c σ H QT=c σ H fun b H1=>QT (!b) H1:=propext Iff.rfl
theorem tAndV_ap:tAndV ta tb σ H Q=ta σ H fun x H1=>∃ c,x=.bl c∧Brk c (tb σ H1 Q) (Q (.bl false) H1) .mk .mk:=propext Iff.rfl
theorem tOrV_ap:tOrV ta tb σ H Q=ta σ H fun x H1=>∃ c,x=.bl c∧Brk c (Q (.bl true) H1) (tb σ H1 Q) .mk .mk:=propext Iff.rfl
theorem tNotV_ap:tNotV ta σ H Q=ta σ H fun x H1=>∃ c,x=.bl c∧Q (.bl (!c)) H1:=propext Iff.rfl
theorem tIf_ap:tIf c ta tb σ H Q=c σ H fun b H1=>Brk b (ta σ H1 Q) (tb σ H1 Q) .mk .mk:=propext Iff.rfl
theorem tD_ap{sp:Sp}{E:XK}:tD sp E tr σ H Q=tr σ H fun vs H1=>sp vs H1 (Hold Q .mk) E:=propext Iff.rfl
theorem tCallX_ap{sp:Sp}{EX:XEx}:tCallX sp EX tr σ H Q=tr σ H fun vs H1=>sp vs H1 (Hold Q .mk) fun cls _ H2=>EX cls σ H2:=propext Iff.rfl
theorem tTry_ap{C:Addr}{tb':XEx→TS}{th:TS}:tTry C tb' th D σ H=tb' (fun cls σ' H'=>cls=.ref C∧th D σ' H') D σ H:=propext Iff.rfl
theorem tRaise_ap{C:Addr}{E:XK}:tRaise C E tr D σ H=tr σ H fun vs H1=>vs.length≤sizeLine∧E (.ref C) none H1:=propext Iff.rfl
theorem tIsN_ap:tIsN ta σ H Q=ta σ H fun x H1=>Q (.bl (decide (x=.non))) H1:=propext Iff.rfl
theorem tNotN_ap:tNotN ta σ H Q=ta σ H fun x H1=>Q (.bl (!decide (x=.non))) H1:=propext Iff.rfl
theorem rI_ap{C:Int→Int→Prop}{g:Int→Int→V}:rI C g x y H Q=∃ i j,x=.int i∧y=.int j∧C i j∧Q (g i j) H:=propext Iff.rfl
theorem rI0_ap{g:Int→Int→V}:rI0 g x y H Q=∃ i j,x=.int i∧y=.int j∧Q (g i j) H:=propext Iff.rfl
theorem rU_ap{g:Int→V}:rU g x H Q=∃ i,x=.int i∧Q (g i) H:=propext Iff.rfl
theorem rEq_ap:rEq x y H Q=(scal x y=true∧Q (.bl (decide (x=y))) H):=propext Iff.rfl
theorem rNe_ap:rNe x y H Q=(scal x y=true∧Q (.bl (!decide (x=y))) H):=propext Iff.rfl
theorem ipI_ap{f:Int→Int→Int}:ipI f x y H Q=∃ i j,x=.int i∧y=.int j∧Q (.int (f i j)) H:=propext Iff.rfl
theorem rIxF_ap:rIxF x y H Q=∃ p xs i v,x=.ref p∧y=.int i∧seqAt H p=some xs∧atI xs i=some v∧Q v H:=propext Iff.rfl
theorem rLenF_ap:rLenF xs H Q=∃ p ys,xs=[.ref p]∧seqAt H p=some ys∧Q (.int ys.length) H:=propext Iff.rfl
theorem rGetF_ap:rGetF x y H Q=∃ p xs i v,x=.ref p∧y=.int i∧H p=some (.lst xs)∧0≤i∧atI xs i=some v∧Q v H:=propext Iff.rfl
theorem rSetL_ap{R:Hp→Prop}:rSetL x y v H R=∃ p xs k j,x=.ref p∧y=.int k∧H p=some (.lst xs)∧ixN xs.length k=some j∧R (upd H p (.lst (xs.set j v))):=propext Iff.rfl
theorem rIsi_ap:rIsi xs H Q=∃ x n t,xs=[x,.ty n]∧n∈["bool", "int", "str", "list", "tuple", "dict"]∧tyNm x H=some t∧Q (.bl (isiB t n)) H:=propext Iff.rfl
theorem rListF_ap:rListF xs H Q=∃ p ys,xs=[.ref p]∧seqAt H p=some ys∧∀ l,H l=none→Q (.ref l) (upd H l (.lst ys)):=propext Iff.rfl
theorem rTupF_ap:rTupF xs H Q=∃ p ys,xs=[.ref p]∧H p=some (.lst ys)∧∀ l,H l=none→Q (.ref l) (upd H l (.tup ys)):=propext Iff.rfl
end
theorem seqAt_lst{H:Hp}{p:Addr}{xs:List V}(h:H p=some (.lst xs)):seqAt H p=some xs:=by unfold seqAt;rw[h]
theorem seqAt_tup{H:Hp}{p:Addr}{xs:List V}(h:H p=some (.tup xs)):seqAt H p=some xs:=by unfold seqAt;rw[h]
end L2
namespace L2
open PySem PySem.Spec PyProof.Rows
structure QE(X:Cx)(e:Expr)(t:TE):Prop where
 p:PE X e t
structure QT(X:Cx)(e:Expr)(t:TT):Prop where
 p:PT X e t
structure QW(X:Cx)(e:Expr)(t:TT):Prop where
 p:PW X e t
structure QA(X:Cx)(e:List Expr)(t:TA):Prop where
 p:PA X e t
structure QS(X:Cx)(e:Stmt)(t:TS):Prop where
 p:PS X e t
structure QB(X:Cx)(e:List Stmt)(t:TS):Prop where
 p:PSs X e t
structure QI(X:Cx)(tg e:Expr)(t:TI):Prop where
 p:PI X tg e t
structure QG(X:Cx)(e:Expr)(t:TG):Prop where
 p:PG X e t
structure QGs(X:Cx)(e:List Expr)(t:TGs):Prop where
 p:PGs X e t
structure QF(X:Cx)(e:List Expr)(t:TT):Prop where
 p:PFs X e t
structure QO(X:Cx)(e:Option Expr)(t:TO):Prop where
 p:PO X e t
section
variable {X:Cx}{a b c e o:Expr}{es rest:List Expr}{ta tb tc te:TE}{t tr:TA}{tA tB':TT}{pos p:Pos}{x:Str}{st:Stmt}{sts:List Stmt}{ts us:TS}
theorem qv(i:Nat)(hN:X.N[i]?=some x:=by rfl)(hv:Vis X.env.scope x:=by first | exact Or.inl rfl | exact Or.inr (Or.inl rfl) | exact Or.inr (Or.inr rfl))(hd:(x == ("__debug__" : Str))=false:=by decide)
  (hcd:(x == ("__classdict__" : Str))=false:=by decide):QE X (.Name x pos) (tVar i):=⟨pe_var hN hv hd hcd⟩
theorem qe_int{i j}:QE X (.Constant (.int i) j pos) (tC (.int i)):=⟨pe_int⟩
theorem qe_bl{i j}:QE X (.Constant (.bool i) j pos) (tC (.bl i)):=⟨pe_bl⟩
theorem qe_str{i j}:QE X (.Constant (.str i) j pos) (tC (.str i)):=⟨pe_str⟩
theorem qe_bltn{v:V}{u:Value}(hg:Gl X x)(hm:X.mg x=none)(hv:bootBuiltins x=some u)(r:RelV v u)(hn:x ≠ "__name__" := by decide)(hd:(x == ("__debug__" : Str))=false:=by decide):QE X (.Name x pos) (tC v):=⟨pe_bltn hg hm hv r hn hd⟩
theorem qe_op{op:Operator}{r:R2}(ho:OpR X (binaryOp op) r)(ha:QE X a ta)(hb:QE X b tb):QE X (.BinOp a op b pos) (tOp r ta tb):=⟨pe_op ho ha.p hb.p⟩
theorem qe_un{op:UnaryOp}{r:V→Hp→VK→Prop}(ho:UnR X (unaryOp op) r)(ha:QE X a ta):QE X (.UnaryOp op a pos) (tUn r ta):=⟨pe_un ho ha.p⟩
theorem qe_not(ha:QE X a ta):QE X (.UnaryOp .Not a pos) (tNotV ta):=⟨pe_not ha.p⟩
theorem qe_one{op}(h:QE X a ta):QE X (.BoolOp op [a] pos) ta:=⟨pe_one h.p⟩
theorem qe_and(ha:QE X a ta)(hb:QE X (.BoolOp .And (b::rest) pos) tb):QE X (.BoolOp .And (a::b::rest) pos) (tAndV ta tb):=⟨pe_and ha.p hb.p⟩
theorem qe_or(ha:QE X a ta)(hb:QE X (.BoolOp .Or (b::rest) pos) tb):QE X (.BoolOp .Or (a::b::rest) pos) (tOrV ta tb):=⟨pe_or ha.p hb.p⟩
theorem qe_cmpR{op:CmpOp}{r:R2}(ho:OpR X (compareOp op) r)(ha:QE X a ta)(hb:QE X b tb)(hm:behindInMarks op b=false):QE X (.Compare a [op] [b] pos) (tOp r ta tb):=⟨pe_cmpR ho ha.p hb.p hm⟩
theorem qe_tup{x1}(h:QA X es t):QE X (.Tuple es x1 pos) (tTup t):=⟨pe_tup h.p⟩
theorem qe_lst(h:QA X es t):QE X (.List es pos) (tLst t):=⟨pe_lst h.p⟩
theorem qe_slice{r:V→Option Int→Option Int→Hp→VK→Prop}{lo hi:Option Expr}{tl th:TO}{p2:Pos}(hr:SlR X r)(he:QE X e te)(hl:QO X lo tl)(hu:QO X hi th):QE X (.Subscript e (.Slice lo hi none p2) pos) (tSl r te tl th):=⟨pe_slice hr he.p hl.p hu.p⟩
theorem qe_ix{r:R2}(hr:IxR X r)(ha:QE X a ta)(hb:QE X b tb)(hs:PlainIx b):QE X (.Subscript a b pos) (tOp r ta tb):=⟨pe_ix hr ha.p hb.p hs⟩
theorem qe_callB{id:String}{r:List V→Hp→VK→Prop}(hc:CallR X (.builtin id) r)(hg:Gl X x)(hm:X.mg x=none)(hv:bootBuiltins x=some (.builtin id))(ha:QA X (e::es) t)(hn:x ≠ "__name__" := by decide)(hdb:(x == ("__debug__" : Str))=false:=by decide)
  (he:starEach (e::es) X.env=(false,eval e X.env)::starEach es X.env:=by rfl) (hpl:(backTo pos (starEach es X.env)).any (·.1)=false:=by rfl):QE X (.Call (.Name x p) (e::es) [] pos) (tCB r t):=⟨pe_callB hc hg hm hv ha.p hn hdb he hpl⟩
theorem qe_callTy{T:String}{r:List V→Hp→VK→Prop}(hc:CallR X (.type T) r)(hg:Gl X x)(hm:X.mg x=none)(hv:bootBuiltins x=some (.type T))(ha:QA X (e::es) t)(hn:x ≠ "__name__" := by decide)(hdb:(x == ("__debug__" : Str))=false:=by decide)
  (he:starEach (e::es) X.env=(false,eval e X.env)::starEach es X.env:=by rfl) (hpl:(backTo pos (starEach es X.env)).any (·.1)=false:=by rfl):QE X (.Call (.Name x p) (e::es) [] pos) (tCB r t):=⟨pe_callTy hc hg hm hv ha.p hn hdb he hpl⟩
theorem qe_d{CX:CXT}{k:Nat}{ps:List Str}{sp:Sp}{E:XK}(d:DefOk X.prog X.w X.K X.mg X.base CX k x ps sp)(hr:Room k X.A)(hx:Passes CX X E)(hg:Gl X x)(ha:QA X (e::es) t)
  (hdb:(x == ("__debug__" : Str))=false:=by decide) (he:starEach (e::es) X.env=(false,eval e X.env)::starEach es X.env:=by rfl) (hpl:(backTo pos (starEach es X.env)).any (·.1)=false:=by rfl) :
  QE X (.Call (.Name x p) (e::es) [] pos) (tD sp E t):=⟨pe_d d hr hx hg ha.p hdb he hpl⟩
theorem qt_cmpR{op:CmpOp}{r:R2}(ho:OpR X (compareOp op) r)(ha:QE X a ta)(hb:QE X b tb)(hm:behindInMarks op b=false):QT X (.Compare a [op] [b] pos) (tTest (tOp r ta tb)):=⟨pt_cmpR ho ha.p hb.p hm⟩
theorem qt_not(ha:QT X a tA):QT X (.UnaryOp .Not a pos) (tNot tA):=⟨pt_not ha.p⟩
theorem qw_and(ha:QT X a tA)(hb:QW X (.BoolOp .And (b::rest) pos) tB'):QW X (.BoolOp .And (a::b::rest) pos) (tAnd tA tB'):=⟨pw_and ha.p hb.p⟩
theorem qw_and1(ha:QT X a tA):QW X (.BoolOp .And [a] pos) tA:=⟨pw_and1 ha.p⟩
theorem qw_or(ha:QT X a tA)(hb:QW X (.BoolOp .Or (b::rest) pos) tB'):QW X (.BoolOp .Or (a::b::rest) pos) (tOr tA tB'):=⟨pw_or ha.p hb.p⟩
theorem qw_or1(ha:QT X a tA):QW X (.BoolOp .Or [a] pos) tA:=⟨pw_or1 ha.p⟩
theorem QW.pt(h:QW X e tA):QT X e tA:=⟨h.p.pt⟩
theorem qt_val(h:QE X e te)(he:∀ whole,isTrue e X.env whole=(do let v ← whole;standAt e.pos;holding [v] (truthy v)):=by intro _;rfl):QT X e (tB te):=⟨pt_val h.p he⟩
theorem qa_nil:QA X [] tNil:=⟨pa_nil⟩
theorem qa_cons(ha:QE X e te)(hr:QA X es t)(hs:starEach (e::es) X.env=(false,eval e X.env)::starEach es X.env:=by rfl):QA X (e::es) (tCons te t):=⟨pa_cons ha.p hr.p hs⟩
theorem qi_list{tg:Expr}(hl:QE X e te):QI X tg e (iList X.K te):=⟨pi_list hl.p⟩
theorem qi_tup{tg:Expr}(hl:QE X e te):QI X tg e (iTup X.K te):=⟨pi_tup hl.p⟩
theorem qi_range1{tg:Expr}(hg:Gl X "range")(hm:X.mg "range" = none)(ha:QA X [a] t)(hs:starEach [a] X.env=[(false,eval a X.env)]:=by rfl):QI X tg (.Call (.Name "range" p) [a] [] pos) (iRng1 t):=⟨pi_range1 hg hm ha.p hs⟩
theorem qg_name{i:Nat}(hN:X.N.Nodup)(hi:X.N[i]?=some x)(hx:Loc X.env.scope x)(hf:X.fn x=true∨X.env.scope.names.lookup x=some .local:=by first | exact .inl rfl | exact .inr rfl | assumption):QG X (.Name x pos) (gName i):=⟨pg_name hN hi hx hf⟩
theorem qg_tup{k:Nat}{tg:TGs}{n:Nat}(hc:X.calm=true)(h:QGs X es tg)(hn:(assignEach es X.env).length=n:=by rfl)(hst:(assignEach es X.env).findIdx? (·.1)=none:=by rfl):QG X (.Tuple es k pos) (gTup X.K n tg):=⟨pg_tup hc h.p hn hst⟩
theorem qg_sub{i:Expr}{ti:TE}{tset:TSet}(ho:QE X o ta)(hi:QE X i ti)(hs:PSet X tset)
  (ha:∀ v,assign (.Subscript o i pos) X.env v=(do
   let ov ← holding [v] (eval o X.env)
   let iv ← holding [v,ov] (eval i X.env)
   standAt pos
   holding [v,ov,iv] (setItem ov iv v)
   release [v,ov,iv] []):=by intro _;rfl):QG X (.Subscript o i pos) (gSub ta ti tset):=⟨pg_sub ho.p hi.p hs ha⟩
theorem qgs_nil:QGs X [] gNil:=⟨pgs_nil⟩
theorem qgs_cons{tg:TG}{tgs:TGs}(h1:QG X e tg)(h2:QGs X es tgs)(hs:(assignEach (e::es) X.env).map (·.2)=assign e X.env::(assignEach es X.env).map (·.2):=by rfl):QGs X (e::es) (gCons tg tgs):=⟨pgs_cons h1.p h2.p hs⟩
theorem qss_nil:QB X [] tNext:=⟨pss_nil⟩
theorem qss_cons(h1:QS X st ts)(h2:QB X sts us):QB X (st::sts) (tSeq ts us):=⟨pss_cons h1.p h2.p⟩
theorem qss_one(h1:QS X st ts):QB X [st] ts:=⟨pss_one h1.p⟩
theorem qs_set{i:Nat}{pos':Pos}(hN:X.N.Nodup)(hi:X.N[i]?=some x)(hx:Loc X.env.scope x)(he:QE X e te)(hs:swapsWith e (some (.Name x pos')) pos.line X.env=pure false:=by rfl)(hf:X.fn x=true∨X.env.scope.names.lookup x=some .local:=by first | exact .inl rfl | exact .inr rfl | assumption) :
  QS X (.Assign [.Name x pos'] e pos) (tAsg te (gName i)):=⟨ps_set hN hi hx he.p hs hf⟩
theorem qs_par{i j:Nat}{y:Str}{px py pt:Pos}{kt k2 pt2}(hc:X.calm=true)(hN:X.N.Nodup)(hi:X.N[i]?=some x)(hj:X.N[j]?=some y)(hij:i≠j)
  (hx:X.env.scope.names.lookup x=some .local) (hy:X.env.scope.names.lookup y=some .local) (ha:QA X [a,b] t)
  (hw:swappedStores [.Tuple [.Name x px,.Name y py] kt pt] (.Tuple [a,b] k2 pt2) X.env=pure (some [x,y]))
  (hs:swapsWithSole [.Tuple [.Name x px,.Name y py] kt pt] (.Tuple [a,b] k2 pt2) pos.line X.env=pure false:=by rfl) :
  QS X (.Assign [.Tuple [.Name x px,.Name y py] kt pt] (.Tuple [a,b] k2 pt2) pos) (tPar i j t):=⟨ps_par hc hN hi hj hij hx hy ha.p hw hs⟩
theorem qs_asg{tg:Expr}{g:TG}(he:QE X e te)(hg:QG X tg g)(hs:swapsWithSole [tg] e pos.line X.env=pure false:=by rfl)(hw:swappedStores [tg] e X.env=pure none:=by rfl)(h1:List.map (fun x=>x.snd) (assignEach [tg] X.env)=[assign tg X.env]:=by rfl):QS X (.Assign [tg] e pos) (tAsg te g):=⟨ps_asg he.p hg.p hs hw h1⟩
theorem qs_augS{i:Expr}{ti:TE}{tget:V→V→Hp→VK→Prop}{tip:TIp}{tset:TSet}{op:Operator}{tpos:Pos}(ho:QE X o ta)(hi:QE X i ti)(hg:PGet X tget)(he:QE X e te)(hp:PIp X op tip)(hs:PSet X tset)
  (ha:∀ ov iv new,augStore i ov iv new=(do holding [new,ov,iv] (setItem ov iv new);release [new,ov,iv] [];pure .next):=by intros;rfl):QS X (.AugAssign (.Subscript o i tpos) op e pos) (tAugS ta ti te tget tip tset):=⟨ps_augS ho.p hi.p hg he.p hp hs ha⟩
theorem qs_ret(he:QE X e te):QS X (.Return (some e) pos) (tRet te):=⟨ps_ret he.p⟩
theorem qs_if{ss:List Stmt}(hc:QT X c tA)(ha:QB X sts ts)(hb:QB X ss us):QS X (.If c sts ss pos) (tIfS tA ts us):=⟨ps_if hc.p ha.p hb.p⟩
theorem qs_while(hp:PassesOwn (model X.prog X.w) X.A X.env X.xe)(hc:QT X c tA)(hb:QB X sts ts):QS X (.While c sts [] pos) (tWhile tA ts):=⟨ps_while hp hc.p hb.p⟩
theorem qs_for{tg iter:Expr}{wi:TI}{g:TG}(hp:PassesOwn (model X.prog X.w) X.A X.env X.xe)(hc:X.calm=true)(hi:QI X tg iter wi)(hg:QG X tg g)(hb:QB X sts ts)
  (hs:∀ x,foldedSetIterable iter X.env x=pure x:=by intro _;rfl):QS X (.For tg iter sts [] pos) (tFor wi g ts):=⟨ps_for hp hc hi.p hg.p hb.p hs⟩
theorem qs_expr(he:QE X e te)(hs:swapsWith e none pos.line X.env=pure false:=by rfl):QS X (.Expr e pos) (tDrop te):=⟨ps_expr he.p hs⟩
theorem qo_none:QO X none tNoPart:=⟨po_none⟩
theorem qo_some(h:QE X e te):QO X (some e) (tPart te):=⟨po_some h.p⟩
theorem qs_raise{E:XK}{C:Addr}{np cpos:Pos}(hR:Raises X E)(O:Exc X.K X.mg x C)(hc:X.calm=true)(hg:Gl X x)(ha:QA X (e::es) t)
  (hdb:(x == ("__debug__" : Str))=false:=by decide) (he:starEach (e::es) X.env=(false,eval e X.env)::starEach es X.env:=by rfl) (hpl:(backTo cpos (starEach es X.env)).any (·.1)=false:=by rfl) :
  QS X (.Raise (some (.Call (.Name x np) (e::es) [] cpos)) none pos) (tRaise C E t):=⟨ps_raise hR O hc hg ha.p hdb he hpl⟩
end
section
variable {X:Cx}{elt iter tg c:Expr}{ifs:List Expr}{scope:Scope}{pos spos py:Pos}{wi:TI}{g:TG}{tt:TT}{te:TE}
theorem qf_nil:QF X [] tYes:=⟨pf_nil⟩
theorem qf_one(h:QT X c tt):QF X [c] tt:=⟨pf_one h.p⟩
theorem qe_comp(own:List Str)(fr:List (Str×Nat))(hc:X.calm=true)(hi:QI X tg iter wi)
  (hgx:GExt g own.length) (hB:∀ cl C fp s2 H2,QG (X.comp (own++fr.map (·.1)) scope cl C fp s2 H2) tg g∧QF (X.comp (own++fr.map (·.1)) scope cl C fp s2 H2) ifs tt∧QE (X.comp (own++fr.map (·.1)) scope cl C fp s2 H2) elt te)
  (hkind:scope.kind=.function) (hcell:∀ y∈scope.names,y.2≠.cell) (hnames:∀ y∈scope.names,y.2=.local→scope.names.lookup y.1=some .local)
  (hfree:∀ y∈scope.names,y.2=.free→X.env.kindOf y.1=some .cell∨X.env.kindOf y.1=some .free)
  (hfr:∀ p∈fr,X.N[p.2]?=some p.1∧(X.env.kindOf p.1=some .cell∨X.env.kindOf p.1=some .free)∧(p.1,NameKind.free)∈scope.names∧((relabel scope X.env).names.lookup p.1=some .cell∨(relabel scope X.env).names.lookup p.1=some .free))
  (hs:∀ x,foldedSetIterable iter X.env x=pure x:=by intro _;rfl):QE X (.ListComp elt [⟨tg,iter,ifs,0⟩] scope pos) (tComp own.length (fr.map (·.2)) wi g tt te) :=
 ⟨pe_comp own fr hc hi.p hgx (fun cl C fp s2 H2=>⟨(hB cl C fp s2 H2).1.p,(hB cl C fp s2 H2).2.1.p,(hB cl C fp s2 H2).2.2.p⟩) hkind hcell hnames hfree hfr hs⟩
theorem qs_setC{k:Nat}{y:Str}(own:List Str)(fr:List (Str×Nat))(hNd:X.N.Nodup)(hk:X.N[k]?=some y)(hy:X.env.scope.names.lookup y=some .local)(hc:X.calm=true)(hi:QI X tg iter wi)
  (hgx:GExt g own.length) (hB:∀ cl C fp s2 H2,QG (X.comp (own++fr.map (·.1)) scope cl C fp s2 H2) tg g∧QF (X.comp (own++fr.map (·.1)) scope cl C fp s2 H2) ifs tt∧QE (X.comp (own++fr.map (·.1)) scope cl C fp s2 H2) elt te)
  (hkind:scope.kind=.function) (hcell:∀ y∈scope.names,y.2≠.cell) (hnames:∀ y∈scope.names,y.2=.local→scope.names.lookup y.1=some .local)
  (hfree:∀ y∈scope.names,y.2=.free→X.env.kindOf y.1=some .cell∨X.env.kindOf y.1=some .free)
  (hfr:∀ p∈fr,X.N[p.2]?=some p.1∧(X.env.kindOf p.1=some .cell∨X.env.kindOf p.1=some .free)∧(p.1,NameKind.free)∈scope.names∧((relabel scope X.env).names.lookup p.1=some .cell∨(relabel scope X.env).names.lookup p.1=some .free))
  (hsw:swapsWith (.ListComp elt [⟨tg,iter,ifs,0⟩] scope pos) (some (.Name y py)) spos.line X.env=pure true:=by rfl)
  (hs:∀ x,foldedSetIterable iter X.env x=pure x:=by intro _;rfl):QS X (.Assign [.Name y py] (.ListComp elt [⟨tg,iter,ifs,0⟩] scope pos) spos) (tAsg (tComp own.length (fr.map (·.2)) wi g tt te) (gName k)) :=
 ⟨ps_setC own fr hNd hk hy hc hi.p hgx (fun cl C fp s2 H2=>⟨(hB cl C fp s2 H2).1.p,(hB cl C fp s2 H2).2.1.p,(hB cl C fp s2 H2).2.2.p⟩) hkind hcell hnames hfree hfr hsw hs⟩
theorem tChain_ap{r r':R2}{ta tb tc:TE}{σ:St}{H:Hp}{Q:VK}:tChain r r' ta tb tc σ H Q=ta σ H fun x H1=>tb σ H1 fun y H2=>r x y H2 fun z H3=>∃ k,z=.bl k∧Brk k (tc σ H3 fun w' H4=>r' y w' H4 Q) (Q (.bl false) H3) .mk .mk:=propext Iff.rfl
end
theorem free_of{names:List (Str×NameKind)}{k:Str→Option NameKind}(h:names.all (fun y=>!decide (y.2=.free) || (decide (k y.1=some .cell) || decide (k y.1=some .free)))=true):∀ y∈names,y.2=.free→k y.1=some .cell∨k y.1=some .free:=fun y hy hf=>by
 have:=List.all_eq_true.mp h y hy
 simpa [hf] using this
theorem fr_of{N:List Str}{names rel:List (Str×NameKind)}{k:Str→Option NameKind}{fr:List (Str×Nat)}
  (h:fr.all (fun p=>decide (N[p.2]?=some p.1) && (decide (k p.1=some .cell) || decide (k p.1=some .free)) && decide ((p.1,NameKind.free)∈names) && (decide (rel.lookup p.1=some .cell) || decide (rel.lookup p.1=some .free)))=true) :
  ∀ p∈fr,N[p.2]?=some p.1∧(k p.1=some .cell∨k p.1=some .free)∧(p.1,NameKind.free)∈names∧(rel.lookup p.1=some .cell∨rel.lookup p.1=some .free):=fun p hp=>by
 have:=List.all_eq_true.mp h p hp
 simp only[Bool.and_eq_true,Bool.or_eq_true,decide_eq_true_eq] at this
 exact⟨this.1.1.1,this.1.1.2,this.1.2,this.2⟩
theorem DefAt.q{P:Program}{w:World}{K:PySem.W.Frag}{mg:Str→Option Value}{base:Heap}{x:Str}{st:Stmt}{f:Addr}{fd:FuncData}{N ps:List Str}{k:Nat}{sp:Sp}(D:DefAt K mg x st f fd)(S:FnScope N ps (defScope st))(len:∀ vs H Q E,sp vs H Q E→vs.length=ps.length)
  (hbody:∀(cdv:Value)(A:Around)(outer:List Env)(s:Shared)(H:Hp)(vs:List V)(Q:VK)(E:XK),Room k (A.deeper (envOfC x (defScope st) s.heap.objs.size f cdv))→sp vs H Q E →
   ∃ t,QB (cxOf CX0 P w K mg base N x (defScope st) f cdv A outer s H E).nox (defBody st) t∧t { nx:=fun _ H'=>Q .non H',rt:=Q } (start N vs) H):FnOk P w K mg base CX0 (k+1) f fd ps sp :=
 D.fn.ok S len fun cdv A outer s H vs Q E hr h=>by
  obtain⟨t,h1,h2⟩:=hbody cdv A outer s H vs Q E hr h
  exact⟨t,h1.p,h2⟩
theorem DefAt.qR{P:Program}{w:World}{K:PySem.W.Frag}{mg:Str→Option Value}{base:Heap}{x:Str}{st:Stmt}{f:Addr}{fd:FuncData}{N ps:List Str}{k:Nat}{sp:Sp}(D:DefAt K mg x st f fd)(S:FnScope N ps (defScope st))(len:∀ vs H Q E,sp vs H Q E→vs.length=ps.length)
  (hbody:∀(cdv:Value)(A:Around)(outer:List Env)(s:Shared)(H:Hp)(vs:List V)(Q:VK)(E:XK),Room k (A.deeper (envOfC x (defScope st) s.heap.objs.size f cdv))→sp vs H Q E →
   ∃ t,QB (cxR P w K mg base N x (defScope st) f cdv A outer s H E) (defBody st) t∧t { nx:=fun _ H'=>Q .non H',rt:=Q } (start N vs) H):FnOk P w K mg base (CXR P w) (k+1) f fd ps sp :=
 D.fn.okR S len fun cdv A outer s H vs Q E hr h=>by
  obtain⟨t,h1,h2⟩:=hbody cdv A outer s H vs Q E hr h
  exact⟨t,h1.p,h2⟩
end L2
namespace L2
open PySem PySem.Spec PyProof.Rows
inductive Dt where
 | non | bl (b:Bool) | int (i:Int) | str (x:Str) | tup (l:List Dt) | lst (l:List Dt)
mutual
def Den(H:Hp):Dt→V→Prop
 | .non,x=>x=.non
 | .bl b,x=>x=.bl b
 | .int i,x=>x=.int i
 | .str z,x=>x=.str z
 | .tup ds,x=>∃ a xs,x=.ref a∧H a=some (.tup xs)∧Dens H ds xs
 | .lst ds,x=>∃ a xs,x=.ref a∧H a=some (.lst xs)∧Dens H ds xs
def Dens(H:Hp):List Dt→List V→Prop
 | [],xs=>xs=[]
 | d::ds,xs=>∃ y ys,xs=y::ys∧Den H d y∧Dens H ds ys
end
theorem Dens.length{H:Hp}:∀{ds:List Dt}{xs:List V},Dens H ds xs→ds.length=xs.length
 | [],xs,h=>by
  unfold Dens at h
  rw[h]
  rfl
 | d::ds,xs,h=>by
  unfold Dens at h
  obtain⟨y,ys,rfl,_,h2⟩:=h
  rw[List.length_cons,List.length_cons,Dens.length h2]
theorem Dens.get{H:Hp}:∀{ds:List Dt}{xs:List V}{j:Nat}{d:Dt},Dens H ds xs→ds[j]?=some d→∃ y,xs[j]?=some y∧Den H d y
 | [],xs,j,d,h,e=>by simp at e
 | c::ds,xs,0,d,h,e=>by
  unfold Dens at h
  obtain⟨y,ys,rfl,h1,h2⟩:=h
  cases e
  exact⟨y,rfl,h1⟩
 | c::ds,xs,j+1,d,h,e=>by
  unfold Dens at h
  obtain⟨y,ys,rfl,h1,h2⟩:=h
  obtain⟨y',g,n⟩:=Dens.get (j:=j) h2 (by simpa using e)
  exact⟨y',by simpa using g,n⟩
mutual
theorem Den.same{H H':Hp}(s:∀ b o,H b=some o→H' b=some o):∀{d:Dt}{x:V},Den H d x→Den H' d x
 | .non,x,h=>by unfold Den at h ⊢;exact h
 | .bl b,x,h=>by unfold Den at h ⊢;exact h
 | .int i,x,h=>by unfold Den at h ⊢;exact h
 | .str z,x,h=>by unfold Den at h ⊢;exact h
 | .tup ds,x,h=>by
  unfold Den at h ⊢
  obtain⟨a,xs,e,h1,h2⟩:=h
  exact⟨a,xs,e,s _ _ h1,Dens.same s h2⟩
 | .lst ds,x,h=>by
  unfold Den at h ⊢
  obtain⟨a,xs,e,h1,h2⟩:=h
  exact⟨a,xs,e,s _ _ h1,Dens.same s h2⟩
theorem Dens.same{H H':Hp}(s:∀ b o,H b=some o→H' b=some o):∀{ds:List Dt}{xs:List V},Dens H ds xs→Dens H' ds xs
 | [],xs,h=>by unfold Dens at h ⊢;exact h
 | d::ds,xs,h=>by
  unfold Dens at h ⊢
  obtain⟨y,ys,e,h1,h2⟩:=h
  exact⟨y,ys,e,Den.same s h1,Dens.same s h2⟩
end
mutual
theorem Den.inj{H:Hp}:∀{d e:Dt}{x:V},Den H d x→Den H e x→d=e
 | d,e,x,h1,h2=>by
  cases d with
  | tup ds =>
   unfold Den at h1
   obtain⟨a,xs,rfl,g1,g2⟩:=h1
   cases e<;>unfold Den at h2
   case tup es =>
    obtain⟨b,ys,eb,k1,k2⟩:=h2
    cases eb
    rw[g1] at k1
    cases k1
    rw[Dens.inj g2 k2]
   case lst es =>
    obtain⟨b,ys,eb,k1,k2⟩:=h2
    cases eb
    rw[g1] at k1
    cases k1
   all_goals cases h2
  | lst ds =>
   unfold Den at h1
   obtain⟨a,xs,rfl,g1,g2⟩:=h1
   cases e<;>unfold Den at h2
   case lst es =>
    obtain⟨b,ys,eb,k1,k2⟩:=h2
    cases eb
    rw[g1] at k1
    cases k1
    rw[Dens.inj g2 k2]
   case tup es =>
    obtain⟨b,ys,eb,k1,k2⟩:=h2
    cases eb
    rw[g1] at k1
    cases k1
   all_goals cases h2
  | non=>unfold Den at h1;subst h1;cases e<;>unfold Den at h2<;>first | (obtain⟨_,_,z,_⟩:=h2;cases z;done) | (cases h2;rfl) | (cases h2;done) | rfl
  | bl b=>unfold Den at h1;subst h1;cases e<;>unfold Den at h2<;>first | (obtain⟨_,_,z,_⟩:=h2;cases z;done) | (cases h2;rfl) | (cases h2;done) | rfl
  | int b=>unfold Den at h1;subst h1;cases e<;>unfold Den at h2<;>first | (obtain⟨_,_,z,_⟩:=h2;cases z;done) | (cases h2;rfl) | (cases h2;done) | rfl
  | str b=>unfold Den at h1;subst h1;cases e<;>unfold Den at h2<;>first | (obtain⟨_,_,z,_⟩:=h2;cases z;done) | (cases h2;rfl) | (cases h2;done) | rfl
theorem Dens.inj{H:Hp}:∀{ds es:List Dt}{xs:List V},Dens H ds xs→Dens H es xs→ds=es
 | [],[],_,_,_=>rfl
 | [],e::es,xs,h1,h2=>by
  unfold Dens at h1 h2
  obtain⟨_,_,z,_⟩:=h2
  rw[h1] at z
  cases z
 | d::ds,[],xs,h1,h2=>by
  unfold Dens at h1 h2
  obtain⟨_,_,z,_⟩:=h1
  rw[h2] at z
  cases z
 | d::ds,e::es,xs,h1,h2=>by
  unfold Dens at h1 h2
  obtain⟨y,ys,rfl,a1,a2⟩:=h1
  obtain⟨y',ys',ez,b1,b2⟩:=h2
  cases ez
  rw[Den.inj a1 b1,Dens.inj a2 b2]
end
def Cmp:Nat→Dt→Dt→Prop
 | _,.int _,.int _=>True
 | _,.bl _,.bl _=>True
 | _,.str _,.str _=>True
 | _,.non,.non=>True
 | _,.non,.tup _=>True
 | _,.tup _,.non=>True
 | k+1,.tup ds,.tup es=>∀(j:Nat) d e,ds[j]?=some d→es[j]?=some e→Cmp k d e
 | k+1,.lst ds,.lst es=>ds.length=es.length→∀(j:Nat) d e,ds[j]?=some d→es[j]?=some e→Cmp k d e
 | _,_,_=>False
section
open Classical
theorem all_range{ds es:List Dt}(n:Nat)(hn:n=min ds.length es.length):((List.range n).all (fun j=>decide (ds[j]?=es[j]?)) && decide (ds.length=es.length))=decide (ds=es):=by
 rw[Bool.eq_iff_iff]
 simp only[Bool.and_eq_true,List.all_eq_true,List.mem_range,decide_eq_true_eq]
 constructor
 ·rintro ⟨h1,h2⟩
  refine List.ext_getElem? fun i=>?_
  by_cases hi:i < n
  ·exact h1 i hi
  ·rw[List.getElem?_eq_none_iff.mpr (by omega),List.getElem?_eq_none_iff.mpr (by omega)]
 ·rintro rfl
  exact⟨fun _ _=>rfl,rfl⟩
theorem all_range2{ds es:List Dt}(hl:ds.length=es.length):((List.range ds.length).all (fun j=>decide (ds[j]?=es[j]?)))=decide (ds=es):=by
 have h:=all_range (ds:=ds) (es:=es) ds.length (by omega)
 rw[decide_eq_true hl,Bool.and_true] at h
 exact h
theorem dec_tup(ds es:List Dt):decide (Dt.tup ds=Dt.tup es)=decide (ds=es):=by
 rw[decide_eq_decide]
 exact⟨fun h=>Dt.tup.inj h,fun h=>by rw[h]⟩
theorem dec_lst(ds es:List Dt):decide (Dt.lst ds=Dt.lst es)=decide (ds=es):=by
 rw[decide_eq_decide]
 exact⟨fun h=>Dt.lst.inj h,fun h=>by rw[h]⟩
variable {X:Cx}{pins:List (Addr×Obj)}{σ:St}{H:Hp}{s:Shared}
theorem rc_seq(I:Inv X pins σ H s){k:Nat}(ih:∀ d e x y u v (A:Around),Den H d x→Den H e y→Cmp k d e→A.units+k+2 < cLine→RelV x u→RelV y v→SeqAt.EqAt A s u v (decide (d=e)))
  {ds es:List Dt} {a b:Addr} {A:Around} (hu:A.units+(k+1)+2 < cLine) :
  (∀ xs ys,H a=some (.tup xs)→H b=some (.tup ys)→Dens H ds xs→Dens H es ys→(∀(j:Nat) d e,ds[j]?=some d→es[j]?=some e→Cmp k d e)→SeqAt.RcAt A s (.ref a) (.ref b) (decide (Dt.tup ds=Dt.tup es))∧SeqAt.RcNeAt A s (.ref a) (.ref b) (!decide (Dt.tup ds=Dt.tup es))) ∧
  (∀ xs ys,H a=some (.lst xs)→H b=some (.lst ys)→Dens H ds xs→Dens H es ys→(ds.length=es.length→∀(j:Nat) d e,ds[j]?=some d→es[j]?=some e→Cmp k d e)→SeqAt.RcAt A s (.ref a) (.ref b) (decide (Dt.lst ds=Dt.lst es))∧SeqAt.RcNeAt A s (.ref a) (.ref b) (!decide (Dt.lst ds=Dt.lst es))):=by
 have hu':A.units < cLine:=by omega
 have el:∀(xs ys:List V)(i1 i2:List Value),Dens H ds xs→Dens H es ys→Vals xs i1→Vals ys i2→(∀(j:Nat) d e,ds[j]?=some d→es[j]?=some e→Cmp k d e) →
   ∀ j (h1:j < i1.toArray.size) (h2:j < i2.toArray.size),SeqAt.EqAt A.in1 s i1.toArray[j] i2.toArray[j] (decide (ds[j]?=es[j]?)):=fun xs ys i1 i2 d1 d2 v1 v2 hc j h1 h2=>by
  have l1:=v1.length
  have l2:=v2.length
  have l3:=d1.length
  have l4:=d2.length
  have k1:j < i1.length:=by simpa using h1
  have k2:j < i2.length:=by simpa using h2
  have m1:j < ds.length:=by omega
  have m2:j < es.length:=by omega
  have e1:ds[j]?=some ds[j]:=List.getElem?_eq_getElem m1
  have e2:es[j]?=some es[j]:=List.getElem?_eq_getElem m2
  obtain⟨y1,g1,n1⟩:=d1.get e1
  obtain⟨y2,g2,n2⟩:=d2.get e2
  obtain⟨u1,w1,r1⟩:=v1.get g1
  obtain⟨u2,w2,r2⟩:=v2.get g2
  have z1:i1.toArray[j]=u1:=by
   rw[List.getElem?_eq_getElem k1] at w1
   simpa using w1
  have z2:i2.toArray[j]=u2:=by
   rw[List.getElem?_eq_getElem k2] at w2
   simpa using w2
  have key:=ih _ _ _ _ _ _ A.in1 n1 n2 (hc j _ _ e1 e2) (by show A.units+1+k+2 < cLine;omega) r1 r2
  have ed:decide (ds[j]?=es[j]?)=decide (ds[j]=es[j]):=by
   rw[decide_eq_decide,e1,e2]
   exact⟨fun h=>Option.some.inj h,fun h=>by rw[h]⟩
  rw[z1,z2,ed]
  exact key
 refine⟨fun xs ys ha hb d1 d2 hc=>?_,fun xs ys ha hb d1 d2 hc=>?_⟩
 ·obtain⟨i1,v1,t1,_⟩:=I.tuple (SqT.of ha)
  obtain⟨i2,v2,t2,_⟩:=I.tuple (SqT.of hb)
  have l1:=v1.length
  have l2:=v2.length
  have l3:=d1.length
  have l4:=d2.length
  have e:=el xs ys i1 i2 d1 d2 v1 v2 hc
  have s1:i1.toArray.size=ds.length:=by rw[List.size_toArray];omega
  have s2:i2.toArray.size=es.length:=by rw[List.size_toArray];omega
  have b1:((List.range (min i1.toArray.size i2.toArray.size)).all (fun j=>decide (ds[j]?=es[j]?)) && i1.toArray.size == i2.toArray.size)=decide (Dt.tup ds=Dt.tup es):=by
   rw[s1,s2,dec_tup,← all_range (ds:=ds) (es:=es) _ rfl]
   congr 1
   all_goals (rw[Bool.eq_iff_iff];simp)
  rw[← b1]
  exact⟨SeqAt.RcAt.tuples t1 t2 hu' e,SeqAt.RcNeAt.tuples t1 t2 hu' e⟩
 ·obtain⟨i1,v1,t1,_⟩:=I.list (SqL.of ha)
  obtain⟨i2,v2,t2,_⟩:=I.list (SqL.of hb)
  have l1:=v1.length
  have l2:=v2.length
  have l3:=d1.length
  have l4:=d2.length
  have s1:i1.toArray.size=ds.length:=by rw[List.size_toArray];omega
  have s2:i2.toArray.size=es.length:=by rw[List.size_toArray];omega
  by_cases hl:ds.length=es.length
  ·have e:=el xs ys i1 i2 d1 d2 v1 v2 (hc hl)
   have b1:(List.range i1.toArray.size).all (fun j=>decide (ds[j]?=es[j]?))=decide (Dt.lst ds=Dt.lst es):=by
    rw[s1,dec_lst,← all_range2 hl]
   rw[← b1]
   exact⟨SeqAt.RcAt.lists t1.isList t2.isList (by omega) hu' e,SeqAt.RcNeAt.lists t1.isList t2.isList (by omega) hu' e⟩
  ·have b1:decide (Dt.lst ds=Dt.lst es)=false:=decide_eq_false fun h=>hl (by rw[Dt.lst.inj h])
   have nz:(i1.toArray.size != i2.toArray.size)=true:=by
    rw[s1,s2]
    simpa using hl
   rw[b1]
   exact⟨SeqAt.RcAt.lists_lengths t1.isList t2.isList nz hu',SeqAt.RcNeAt.lists_lengths t1.isList t2.isList nz hu'⟩
theorem dec_int'(a b:Int):decide (Dt.int a=Dt.int b)=(a == b):=by
 rw[Bool.eq_iff_iff]
 simp
theorem dec_bl'(a b:Bool):decide (Dt.bl a=Dt.bl b)=(a == b):=by
 rw[Bool.eq_iff_iff]
 simp
theorem dec_str'(a b:Str):decide (Dt.str a=Dt.str b)=(a == b):=by
 rw[Bool.eq_iff_iff]
 simp
theorem eq_den(I:Inv X pins σ H s):∀(k:Nat)(d e:Dt)(x y:V)(u v:Value)(A:Around),Den H d x→Den H e y→Cmp k d e→A.units+k+2 < cLine→RelV x u→RelV y v→SeqAt.EqAt A s u v (decide (d=e)):=by
 intro k
 induction k with
 | zero =>
  intro d e x y u v A h1 h2 hc hu r1 r2
  cases d<;>cases e<;>first | exact hc.elim | skip
  ·unfold Den at h1 h2;subst h1;subst h2;cases r1;cases r2
   rw[decide_eq_true rfl];exact SeqAt.EqAt.same _
  ·unfold Den at h1 h2;subst h1;cases r1
   obtain⟨a,xs,rfl,ha,_⟩:=h2;cases r2
   obtain⟨i1,_,t1,_⟩:=I.tuple (SqT.of ha)
   rw[decide_eq_false (by intro z;cases z)];exact SeqAt.EqAt.none_tuple t1 (by omega)
  ·unfold Den at h1 h2;subst h1;subst h2;cases r1;cases r2
   rw[dec_bl'];exact SeqAt.EqAt.bool_bool _ _
  ·unfold Den at h1 h2;subst h1;subst h2;obtain⟨t1,rfl⟩:=r1;obtain⟨t2,rfl⟩:=r2
   rw[dec_int'];exact SeqAt.EqAt.int_int _ _ _ _
  ·unfold Den at h1 h2;subst h1;subst h2;obtain⟨t1,rfl⟩:=r1;obtain⟨t2,rfl⟩:=r2
   rw[dec_str'];exact SeqAt.EqAt.str_str _ _ _ _
  ·unfold Den at h1 h2;subst h2;cases r2
   obtain⟨a,xs,rfl,ha,_⟩:=h1;cases r1
   obtain⟨i1,_,t1,_⟩:=I.tuple (SqT.of ha)
   rw[decide_eq_false (by intro z;cases z)];exact SeqAt.EqAt.tuple_none t1 (by omega)
 | succ k ih =>
  intro d e x y u v A h1 h2 hc hu r1 r2
  cases d<;>cases e<;>first | exact hc.elim | skip
  ·unfold Den at h1 h2;subst h1;subst h2;cases r1;cases r2
   rw[decide_eq_true rfl];exact SeqAt.EqAt.same _
  ·unfold Den at h1 h2;subst h1;cases r1
   obtain⟨a,xs,rfl,ha,_⟩:=h2;cases r2
   obtain⟨i1,_,t1,_⟩:=I.tuple (SqT.of ha)
   rw[decide_eq_false (by intro z;cases z)];exact SeqAt.EqAt.none_tuple t1 (by omega)
  ·unfold Den at h1 h2;subst h1;subst h2;cases r1;cases r2
   rw[dec_bl'];exact SeqAt.EqAt.bool_bool _ _
  ·unfold Den at h1 h2;subst h1;subst h2;obtain⟨t1,rfl⟩:=r1;obtain⟨t2,rfl⟩:=r2
   rw[dec_int'];exact SeqAt.EqAt.int_int _ _ _ _
  ·unfold Den at h1 h2;subst h1;subst h2;obtain⟨t1,rfl⟩:=r1;obtain⟨t2,rfl⟩:=r2
   rw[dec_str'];exact SeqAt.EqAt.str_str _ _ _ _
  ·unfold Den at h1 h2;subst h2;cases r2
   obtain⟨a,xs,rfl,ha,_⟩:=h1;cases r1
   obtain⟨i1,_,t1,_⟩:=I.tuple (SqT.of ha)
   rw[decide_eq_false (by intro z;cases z)];exact SeqAt.EqAt.tuple_none t1 (by omega)
  ·have g1:=h1
   have g2:=h2
   unfold Den at h1 h2
   obtain⟨a,xs,rfl,ha,da⟩:=h1
   obtain⟨b,ys,rfl,hb,db⟩:=h2
   cases r1;cases r2
   by_cases hab:a=b
   ·subst hab
    rw[decide_eq_true (g1.inj g2)]
    exact SeqAt.EqAt.same _
   ·exact SeqAt.EqAt.of_refs hab ((rc_seq I ih hu).1 xs ys ha hb da db hc).1
  ·have g1:=h1
   have g2:=h2
   unfold Den at h1 h2
   obtain⟨a,xs,rfl,ha,da⟩:=h1
   obtain⟨b,ys,rfl,hb,db⟩:=h2
   cases r1;cases r2
   by_cases hab:a=b
   ·subst hab
    rw[decide_eq_true (g1.inj g2)]
    exact SeqAt.EqAt.same _
   ·exact SeqAt.EqAt.of_refs hab ((rc_seq I ih hu).2 xs ys ha hb da db hc).1
def rEqD:R2:=fun x y H Q=>∃ d e,Den H d x∧Den H e y∧Cmp 8 d e∧Q (.bl (decide (d=e))) H
def rNeD:R2:=fun x y H Q=>∃ d e,Den H d x∧Den H e y∧Cmp 8 d e∧Q (.bl (!decide (d=e))) H
theorem rcs(I:Inv X pins σ H s){d e:Dt}{x y:V}{u v:Value}{A:Around}(h1:Den H d x)(h2:Den H e y)(hc:Cmp 8 d e)(hu:A.units+64 < cLine)(r1:RelV x u)(r2:RelV y v) :
  SeqAt.RcAt A s u v (decide (d=e))∧SeqAt.RcNeAt A s u v (!decide (d=e)):=by
 cases d<;>cases e<;>first | exact hc.elim | skip
 ·unfold Den at h1 h2;subst h1;subst h2;cases r1;cases r2
  rw[decide_eq_true rfl];exact⟨SeqAt.RcAt.none_none,SeqAt.RcNeAt.none_none⟩
 ·unfold Den at h1 h2;subst h1;cases r1
  obtain⟨a,xs,rfl,ha,_⟩:=h2;cases r2
  obtain⟨i1,_,t1,_⟩:=I.tuple (SqT.of ha)
  rw[decide_eq_false (by intro z;cases z)];exact⟨SeqAt.RcAt.none_tuple t1 (by omega),SeqAt.RcNeAt.none_tuple t1 (by omega)⟩
 ·unfold Den at h1 h2;subst h1;subst h2;cases r1;cases r2
  rw[dec_bl'];exact⟨SeqAt.RcAt.bool_bool _ _,SeqAt.RcNeAt.bool_bool _ _⟩
 ·unfold Den at h1 h2;subst h1;subst h2;obtain⟨t1,rfl⟩:=r1;obtain⟨t2,rfl⟩:=r2
  rw[dec_int'];exact⟨SeqAt.RcAt.int_int _ _ _ _,SeqAt.RcNeAt.int_int _ _ _ _⟩
 ·unfold Den at h1 h2;subst h1;subst h2;obtain⟨t1,rfl⟩:=r1;obtain⟨t2,rfl⟩:=r2
  rw[dec_str'];exact⟨SeqAt.RcAt.str_str _ _ _ _,SeqAt.RcNeAt.str_str _ _ _ _⟩
 ·unfold Den at h1 h2;subst h2;cases r2
  obtain⟨a,xs,rfl,ha,_⟩:=h1;cases r1
  obtain⟨i1,_,t1,_⟩:=I.tuple (SqT.of ha)
  rw[decide_eq_false (by intro z;cases z)];exact⟨SeqAt.RcAt.tuple_none t1 (by omega),SeqAt.RcNeAt.tuple_none t1 (by omega)⟩
 ·unfold Den at h1 h2
  obtain⟨a,xs,rfl,ha,da⟩:=h1
  obtain⟨b,ys,rfl,hb,db⟩:=h2
  cases r1;cases r2
  exact (rc_seq I (eq_den I 7) (by omega)).1 xs ys ha hb da db hc
 ·unfold Den at h1 h2
  obtain⟨a,xs,rfl,ha,da⟩:=h1
  obtain⟨b,ys,rfl,hb,db⟩:=h2
  cases r1;cases r2
  exact (rc_seq I (eq_den I 7) (by omega)).2 xs ys ha hb da db hc
theorem op_eqD(hu:X.A.units+64 < cLine):OpR X (compareOp .Eq) rEqD:=by
 intro pins s σ H x y v u Q I rx ry h
 obtain⟨d,e,h1,h2,hc,q⟩:=h
 exact (rcs I h1 h2 hc hu rx ry).1 _ _ _ _ ⟨.bl _,H,I,rfl,q⟩
theorem op_neD(hu:X.A.units+64 < cLine):OpR X (compareOp .NotEq) rNeD:=by
 intro pins s σ H x y v u Q I rx ry h
 obtain⟨d,e,h1,h2,hc,q⟩:=h
 exact (rcs I h1 h2 hc hu rx ry).2 _ _ _ _ ⟨.bl _,H,I,rfl,q⟩
end
theorem den2{H:Hp}{p:Addr}{a b:Int}(h:H p=some (.tup [.int a,.int b])):Den H (.tup [.int a,.int b]) (.ref p):=by
 unfold Den
 refine⟨p,_,rfl,h,?_⟩
 unfold Dens
 refine⟨_,_,rfl,by unfold Den;rfl,?_⟩
 unfold Dens
 refine⟨_,_,rfl,by unfold Den;rfl,?_⟩
 unfold Dens
 rfl
theorem cmp2{k:Nat}(a b c d:Int):Cmp (k+1) (.tup [.int a,.int b]) (.tup [.int c,.int d]):=by
 intro j x y h1 h2
 match j,h1,h2 with
 | 0,h1,h2=>cases h1;cases h2;cases k<;>exact trivial
 | 1,h1,h2=>cases h1;cases h2;cases k<;>exact trivial
 | j+2,h1,h2=>simp at h1
theorem dt2(a b c d:Int):(Dt.tup [.int a,.int b]=Dt.tup [.int c,.int d])↔(a=c∧b=d):=by
 constructor
 ·intro h
  injection h with h
  injection h with h1 h2
  injection h1 with h1
  injection h2 with h2 _
  injection h2 with h2
  exact⟨h1,h2⟩
 ·rintro ⟨rfl,rfl⟩
  rfl
section
variable {X:Cx}
def rEqP:R2:=fun x y H Q=>∃ p q a b c d,x=.ref p∧y=.ref q∧H p=some (.tup [.int a,.int b])∧H q=some (.tup [.int c,.int d])∧Q (.bl (decide (a=c∧b=d))) H
def rNeP:R2:=fun x y H Q=>∃ p q a b c d,x=.ref p∧y=.ref q∧H p=some (.tup [.int a,.int b])∧H q=some (.tup [.int c,.int d])∧Q (.bl (!decide (a=c∧b=d))) H
open Classical in
theorem op_eqP(hu:X.A.units+64 < cLine):OpR X (compareOp .Eq) rEqP:=by
 intro pins s σ H x y v u Q I rx ry h
 obtain⟨p,q,a,b,c,d,rfl,rfl,h1,h2,h3⟩:=h
 refine op_eqD hu pins s σ H _ _ v u Q I rx ry ⟨_,_,den2 h1,den2 h2,cmp2 a b c d,?_⟩
 have e:decide (Dt.tup [.int a,.int b]=Dt.tup [.int c,.int d])=decide (a=c∧b=d):=by rw[decide_eq_decide];exact dt2 a b c d
 rw[e]
 exact h3
open Classical in
theorem op_neP(hu:X.A.units+64 < cLine):OpR X (compareOp .NotEq) rNeP:=by
 intro pins s σ H x y v u Q I rx ry h
 obtain⟨p,q,a,b,c,d,rfl,rfl,h1,h2,h3⟩:=h
 refine op_neD hu pins s σ H _ _ v u Q I rx ry ⟨_,_,den2 h1,den2 h2,cmp2 a b c d,?_⟩
 have e:decide (Dt.tup [.int a,.int b]=Dt.tup [.int c,.int d])=decide (a=c∧b=d):=by rw[decide_eq_decide];exact dt2 a b c d
 rw[e]
 exact h3
theorem rEqP_ap{x y:V}{H:Hp}{Q:VK}:rEqP x y H Q=∃ p q a b c d,x=.ref p∧y=.ref q∧H p=some (.tup [.int a,.int b])∧H q=some (.tup [.int c,.int d])∧Q (.bl (decide (a=c∧b=d))) H:=propext Iff.rfl
theorem rNeP_ap{x y:V}{H:Hp}{Q:VK}:rNeP x y H Q=∃ p q a b c d,x=.ref p∧y=.ref q∧H p=some (.tup [.int a,.int b])∧H q=some (.tup [.int c,.int d])∧Q (.bl (!decide (a=c∧b=d))) H:=propext Iff.rfl
end
end L2
namespace L2
open PySem PySem.Spec PyProof.Rows
section
variable {X:Cx}
end
theorem qi_listK{X:Cx}{K:PySem.W.Frag}{e tg:Expr}{te:TE}(hK:X.K=K)(hl:QE X e te):QI X tg e (iList K te):=hK▸qi_list hl
theorem qi_tupK{X:Cx}{K:PySem.W.Frag}{e tg:Expr}{te:TE}(hK:X.K=K)(hl:QE X e te):QI X tg e (iTup K te):=hK▸qi_tup hl
section
variable {H:Hp}{Q:VK}{v:V}{l:St}
end
end L2
namespace L2
open PySem PySem.Spec PyProof.Rows
section
variable {X:Cx}
theorem ints_of_vals:∀{ns:List Int}{vs:List Value},Vals (ns.map V.int) vs→IntsAre vs ns
 | [],vs,h=>by
  cases vs with
  | nil=>exact .nil
  | cons _ _=>cases h
 | n::ns,vs,h=>by
  cases vs with
  | nil=>cases h
  | cons v vs =>
   cases h with
   | cons r rr =>
    obtain⟨t,rfl⟩:=r
    exact .cons n t (ints_of_vals rr)
def rSumF:List V→Hp→VK→Prop:=fun xs H Q=>∃(p:Addr)(ns:List Int),xs=[.ref p]∧H p=some (.lst (ns.map V.int))∧Q (.int ns.sum) H
theorem call_sumF(hc:X.calm=true):CallR X (.builtin "sum") rSumF:=by
 intro pins s σ H xs us Q I r h
 obtain⟨p,ns,rfl,hp,q⟩:=h
 obtain⟨u,rfl,rx⟩:=vals1 r
 cases rx
 obtain⟨its,r',pl,hz⟩:=I.list (SqL.of hp)
 have hi:=ints_of_vals r'
 obtain⟨ys,e⟩:=hi.allInts.items
 have hn:=hi.numsOf
 have e2:ns=ys.toList.map (·.1):=by
  rw[← nums_intItems,← e]
  exact hn.symm
 have hl:=pl.isList
 rw[e] at hl
 refine sum_intListG (I.ok.hd hc) hl fun h' tk t' hk=>⟨.int ns.sum,H,I.kept hk,⟨t',?_⟩,q⟩
 rw[preSum_eq,List.take_of_length_le (by simp),← e2]
def rAllF:List V→Hp→VK→Prop:=fun xs H Q=>∃(p:Addr)(bs:List Bool),xs=[.ref p]∧H p=some (.lst (bs.map V.bl))∧Q (.bl (bs.all id)) H
def rAnyF:List V→Hp→VK→Prop:=fun xs H Q=>∃(p:Addr)(bs:List Bool),xs=[.ref p]∧H p=some (.lst (bs.map V.bl))∧Q (.bl (bs.any id)) H
theorem bools_of_vals{bs:List Bool}{vs:List Value}(h:Vals (bs.map V.bl) vs):vs=bs.map Value.bool:=by
 induction bs generalizing vs with
 | nil=>cases h;rfl
 | cons b bs ih =>
  cases vs with
  | nil=>cases h
  | cons v vs =>
   cases h with
   | cons r rr =>
    cases r
    rw[ih rr];rfl
theorem range_all(bs:List Bool):((List.range bs.length).all fun i=>bs.getD i false)=bs.all id:=by
 rw[Bool.eq_iff_iff,List.all_eq_true,List.all_eq_true]
 constructor
 ·intro h b hb
  obtain⟨i,hi,rfl⟩:=List.getElem_of_mem hb
  have:=h i (List.mem_range.mpr hi)
  simpa [List.getD_eq_getElem?_getD,hi] using this
 ·intro h i hi
  have hi':=List.mem_range.mp hi
  have:=h bs[i] (List.getElem_mem hi')
  simpa [List.getD_eq_getElem?_getD,hi'] using this
theorem iter_list_of{M:Program}{w:World}{A:Around}{E:Value→Shared→Prop}{s:Shared}{l:Addr}{items:Array Value}{Q:Value→Shared→Prop}(hl:s.heap.IsList l items)
  (h:∀ s₂:Shared,s₂={ s with heap:=s.heap.push { cls:=.type "list_iterator", data:=.fields #[.ref l,.int 0 0] } } →
   (s₂.heap.IsListIter s.heap.objs.size l 0∧s₂.heap.IsList l items)→l≠s.heap.objs.size→Q (.ref s.heap.objs.size) s₂) :
  wpAny (model M w) A (pyIter (.ref l)) Q E s:=by
 have hlt:l < s.heap.objs.size:=by obtain⟨_,e,_⟩:=hl;exact Heap.lt_size e
 exact wpAny_pyIter_list hl (h _ rfl ⟨⟨_,Heap.get?_push_size _ rfl,rfl,rfl⟩,hl.push _⟩ (Nat.ne_of_lt hlt))
theorem truth_bools{P:Program}{w:World}{A:Around}{bs:List Bool}:TruthOf P w A (fun i v=>(List.toArray (bs.map Value.bool))[i]?=some v) (fun i=>bs.getD i false):=by
 intro i v s Q E hv hq
 have hv':(bs.map Value.bool)[i]?=some v:=by simpa using hv
 rw[List.getElem?_map] at hv'
 cases e:bs[i]? with
 | none=>rw[e] at hv';cases hv'
 | some b =>
  rw[e] at hv'
  cases hv'
  have:bs.getD i false=b:=by simp[List.getD_eq_getElem?_getD,e]
  have hq':Q (bs.getD i false) s:=hq
  rw[this] at hq'
  exact wpAny_truthy_bool hq'
theorem call_allF(hc:X.calm=true):CallR X (.builtin "all") rAllF:=by
 intro pins s σ H xs us Q I r h
 obtain⟨p,bs,rfl,hp,q⟩:=h
 obtain⟨u,rfl,rx⟩:=vals1 r
 cases rx
 obtain⟨its,r',pl,hz⟩:=I.list (SqL.of hp)
 rw[bools_of_vals r'] at pl
 refine call_all_walk (iter_list_of pl.isList fun s₂ e st hne=>?_)
 subst e
 refine⟨_,_,_,_,_,_,_,rfl,Walks.list (A:=X.A.in1) (I.ok.hd hc) _ p hne _,st,truth_bools,fun h' tk hk=>⟨.bl (bs.all id),H,I.kept (old_kept hk),?_,q⟩⟩
 show Value.bool _=Value.bool _
 rw[List.size_toArray,List.length_map,range_all]
theorem Inv.laidL{pins:List (Addr×Obj)}{σ:St}{H:Hp}{s:Shared}{h':Heap}{t':Nat}{wr:List Addr}{T:Addr}{o:HO}(I:Inv X pins σ H s)(k:∀ b u,b∉wr→s.heap.get? b=some u→h'.get? b=some u)(hw:∀ b∈wr,FpOk X pins H b)
  (hp:s.heap.objs.size≤T) (new:ObjOk X.prog X.w (upd H T o) h' T o):Inv X pins σ (upd H T o) { s with heap:=h',toks:=t' }:=by
 have hn:H T=none:=I.hok.fresh hp
 have neT:∀ b ob,s.heap.get? b=some ob→b≠T:=fun b ob e=>Nat.ne_of_lt (Nat.lt_of_lt_of_le (Heap.lt_size e) hp)
 have up:∀{b:Addr}{u:HO},H b=some u→upd H T o b=some u:=fun e=>by rw[upd_ne (ne_of_none e hn)];exact e
 have nit:∀ b u,H b=some u→b∉wr:=fun b u e z=>by rw[(hw b z).1] at e;cases e
 refine I.step (g':=s.gens) (d':=s.drawn) (ch:=wr) (fun b hb=>?_) (fun b ob _ _ hc e _=>k b ob hc e) (fun b ob _ _ hc e _=>⟨ob.slots,k b ob hc e⟩) (fun b ob _ e n=>by rw[upd_ne (neT b ob e)];exact n)
  (fun b ob hc e=>⟨ob,k b ob hc e⟩) (fun _ _ e=>up e) (fun _ _ _ e=>up e) (fun b ps e=>⟨#[],by rw[up e];simp⟩) (fun m hm=>?_) (fun b u e=>?_) I.bare
 ·obtain⟨_,f1,_,f3,f4,f5⟩:=hw b hb
  exact⟨f3,f1,f4,f5⟩
 ·obtain⟨ob,es,ep,ho,r⟩:=hm
  exact⟨ob,es,ep,k _ ob (fun z=>(hw _ z).2.1 rfl) ho,r⟩
 ·by_cases hb:b=T
  ·subst hb;rw[upd_same] at e;cases e;exact new
  ·rw[upd_ne hb] at e
   refine (I.hok b u e).stay (fun c v hc q=>k c v ?_ q) (fun c q=>up q) fun c xs q=>up q
   rcases hc with z | z
   ·rw[z];exact nit b u e
   ·exact nit c _ z
theorem Inv.turnedL{pins:List (Addr×Obj)}{σ:St}{H:Hp}{s:Shared}{h':Heap}{t':Nat}{wr:List Addr}(I:Inv X pins σ H s)(k:∀ b o,b∉wr→s.heap.get? b=some o→h'.get? b=some o)(hw:∀ b∈wr,FpOk X pins H b):Inv X pins σ H { s with heap:=h',toks:=t' }:=by
 have nit:∀ b u,H b=some u→b∉wr:=fun b u e z=>by rw[(hw b z).1] at e;cases e
 refine I.step (g':=s.gens) (d':=s.drawn) (ch:=wr) (fun b hb=>?_) (fun b o _ _ hc e _=>k b o hc e) (fun b o _ _ hc e _=>⟨o.slots,k b o hc e⟩) (fun _ _ _ _ n=>n)
  (fun b o hc e=>⟨o,k b o hc e⟩) (fun _ _ e=>e) (fun _ _ _ e=>e) (fun b ps e=>⟨#[],by rw[e];simp⟩) (fun m hm=>?_) (fun b u e=>?_) I.bare
 ·obtain⟨_,f1,_,f3,f4,f5⟩:=hw b hb
  exact⟨f3,f1,f4,f5⟩
 ·obtain⟨o,es,ep,ho,r⟩:=hm
  exact⟨o,es,ep,k _ o (fun z=>(hw _ z).2.1 rfl) ho,r⟩
 ·refine (I.hok b u e).stay (fun c v hc q=>k c v ?_ q) (fun _ q=>q) fun _ _ q=>q
  rcases hc with z | z
  ·rw[z];exact nit b u e
  ·exact nit c _ z
def Itn(K:PySem.W.Frag)(a:Addr):It :=
 ⟨fun i H=>∃ xs x,SqL K H a xs∧xs[i]?=some x,
   fun i H v H'=>∃ p x,H p=none∧(∀ xs,SqL K H a xs→xs[i]?=some x)∧v=.ref p∧H'=upd H p (.tup [.int i,x]),
   fun i H=>∃ xs,SqL K H a xs∧i=xs.length⟩
theorem turn_enum{P:Program}{w:World}{K:PySem.W.Frag}{elts:List Expr}{k:Nat}{tp:Pos}(e it a:Addr)(hei:e≠it)(hle:a≠e)(hli:a≠it) :
  Turn P w K (.Tuple elts k tp) (Itn K a) [e,it] e (fun i h=>(∃ old,IsEnum h e it i old)∧h.IsListIter it a i) where
 mem:=by simp
 obj:=fun i h st c hb=>by
  obtain⟨⟨old,s1⟩,⟨o4,e4,_,d4⟩⟩:=st
  simp only[List.mem_cons,List.not_mem_nil,or_false] at hb
  rcases hb with rfl | rfl
  ·exact⟨_,s1,fun v z=>by cases (show Data.fields _=Data.cell v from z)⟩
  ·exact⟨_,e4,fun v z=>by rw[d4] at z;cases z⟩
 keep:=fun i h h' st hk=>by
  obtain⟨⟨old,s1⟩,s4⟩:=st
  exact⟨⟨old,hk e (by simp) _ s1⟩,s4.at fun o q=>hk it (by simp) o q⟩
 item:=by
  intro X hP hw hK hc i pins s σ H E I hf st hg
  subst hP hw hK
  obtain⟨xs,x,hq1,hx⟩:=hg
  obtain⟨its1,rv1,p1,hz1⟩:=I.list hq1
  obtain⟨u1,hu1,ru1⟩:=rv1.get hx
  obtain⟨s1,s4⟩:=st
  have W:=WalksT.enumerate (prog:=X.prog) (w:=X.w) (A:=X.A) (I.ok.hd hc) e it a hei hle hli its1.toArray
  have l1:=(List.getElem?_eq_some_iff.mp hu1).1
  refine W.item i s _ E (by rw[List.size_toArray];exact l1) ⟨s1,s4,p1.isList⟩ fun T vals h' tk hv hT ht mid kk=>?_
  obtain⟨t,v1,e1,rfl⟩:=hv
  have e1':v1=u1:=by simpa [hu1] using e1.symm
  subst e1'
  refine⟨.ref T,rfl,W.go elts k tp i T _ _ E mid fun h2 st2 kk2=>?_⟩
  have kept:∀ c o,c∉[e,it]→s.heap.get? c=some o→h2.get? c=some o:=fun c o hc q=>kk2 c o hc (kk c o hc q)
  have nT:=W.apart i T _ mid
  obtain⟨oT,eT,cT,nT',dT⟩:=ht
  obtain⟨t1,t4,_⟩:=st2
  refine⟨.ref T,upd H T (.tup [.int i,x]),I.laidL (t':=tk) kept hf hT ⟨by show 2≤sizeLine;decide,[.int i t,v1],.cons ⟨t,rfl⟩ (.cons ru1 .nil),oT,kk2 T _ nT eT,cT,nT',dT⟩,rfl,
   ⟨T,x,I.hok.fresh hT,fun zs hzs=>by rw[I.list_inj hzs hq1];exact hx,rfl,rfl⟩,⟨t1,t4⟩,fun c hc=>?_⟩
  have hcn:=(hf c hc).1
  have hcl:c < s.heap.objs.size:=by
   obtain⟨old,s1⟩:=s1
   obtain⟨o4,e4,_⟩:=s4
   simp only[List.mem_cons,List.not_mem_nil,or_false] at hc
   rcases hc with rfl | rfl
   ·exact Heap.lt_size s1
   ·exact Heap.lt_size e4
  rw[upd_ne (Nat.ne_of_lt (Nat.lt_of_lt_of_le hcl hT))]
  exact hcn
 done:=by
  intro X hP hw hK hc i pins s σ H E I hf st hg
  subst hP hw hK
  obtain⟨xs,hq1,hx⟩:=hg
  obtain⟨its1,rv1,p1,hz1⟩:=I.list hq1
  obtain⟨s1,s4⟩:=st
  have W:=WalksT.enumerate (prog:=X.prog) (w:=X.w) (A:=X.A) (I.ok.hd hc) e it a hei hle hli its1.toArray
  have hm:its1.toArray.size=i:=by
   rw[List.size_toArray,← rv1.length];exact hx.symm
  refine W.done s _ E ?_ fun h' tk kk=>⟨rfl,I.turnedL kk hf⟩
  rw[hm]
  exact⟨s1,s4,p1.isList⟩
 self:=fun _ _ _ _ _ st h=>by
  obtain⟨⟨old,s1⟩,_⟩:=st
  exact wpAny_pyIter_enum s1 h
def iEnum(K:PySem.W.Frag)(ta:TA):TI:=fun σ H R=>ta σ H fun vs H1=>∃ a,vs=[.ref a]∧(∃ xs,SqL K H1 a xs)∧R (Itn K a) H1
theorem pi_enum{a:Expr}{ta:TA}{p pos tp:Pos}{elts:List Expr}{k:Nat}(hg:Gl X "enumerate")(hm:X.mg "enumerate" = none)(ha:PA X [a] ta)(hs:starEach [a] X.env=[(false,eval a X.env)]:=by rfl) :
  PI X (.Tuple elts k tp) (.Call (.Name "enumerate" p) [a] [] pos) (iEnum X.K ta):=by
 intro pins s σ H R I h
 refine Call_ (ld_blt I hg hm boot_enumerate (PyProof.Rows.callWith_type1 (thn (ha pos pins s σ H _ I h) fun us s1 ⟨vs,H1,I1,r1,q1⟩=>?_) hs rfl))
 obtain⟨a',e,⟨xs,hq1⟩,q⟩:=q1
 subst e
 cases r1 with
 | cons r rr =>
  cases rr
  cases r
  obtain⟨its1,rv1,p1,hz1⟩:=I1.list hq1
  have hlt1:a' < s1.heap.objs.size:=by obtain⟨_,e,_⟩:=p1.isList;exact Heap.lt_size e
  refine call_enumerate_list p1.isList fun h' hE hI hsz hk=>?_
  refine wpAny_pyIter_enum hE ?_
  refine⟨_,[_,_],_,_,H1,rfl,I1.kept (t':=s1.toks) hk,turn_enum _ _ a' (Nat.succ_ne_self _) (Nat.ne_of_lt (Nat.lt_succ_of_lt hlt1)) (Nat.ne_of_lt hlt1),⟨⟨_,hE⟩,hI⟩,fun c hc=>?_,q⟩
  have hle:s1.heap.objs.size≤c:=by
   simp only[List.mem_cons,List.not_mem_nil,or_false] at hc
   rcases hc with rfl | rfl<;>first | exact Nat.le_refl _ | exact Nat.le_add_right _ _
  exact I1.fpOk hle (I1.hok.fresh hle)
end
section
variable {X:Cx}{a b:Expr}{t:TA}{p pos tp:Pos}{elts:List Expr}{k:Nat}
theorem qi_enum(hg:Gl X "enumerate")(hm:X.mg "enumerate" = none)(ha:QA X [a] t)(hs:starEach [a] X.env=[(false,eval a X.env)]:=by rfl) :
  QI X (.Tuple elts k tp) (.Call (.Name "enumerate" p) [a] [] pos) (iEnum X.K t):=⟨pi_enum hg hm ha.p hs⟩
end
theorem rSumF_ap{xs:List V}{H:Hp}{Q:VK}:rSumF xs H Q=∃(p:Addr)(ns:List Int),xs=[.ref p]∧H p=some (.lst (ns.map V.int))∧Q (.int ns.sum) H:=propext Iff.rfl
theorem rAllF_ap{xs:List V}{H:Hp}{Q:VK}:rAllF xs H Q=∃(p:Addr)(bs:List Bool),xs=[.ref p]∧H p=some (.lst (bs.map V.bl))∧Q (.bl (bs.all id)) H:=propext Iff.rfl
theorem rAnyF_ap{xs:List V}{H:Hp}{Q:VK}:rAnyF xs H Q=∃(p:Addr)(bs:List Bool),xs=[.ref p]∧H p=some (.lst (bs.map V.bl))∧Q (.bl (bs.any id)) H:=propext Iff.rfl
def cut(B:Addr)(H:Hp):Hp:=fun b=>if b=B then none else H b
end L2
namespace L2
open PySem PySem.Spec PyProof.Rows
section
variable {X:Cx}
end
theorem tBM_ap{K:PySem.W.Frag}{T:String}{r:V→List V→Hp→VK→Prop}{to:TE}{t:TA}{σ:St}{H:Hp}{Q:VK}:tBM K T r to t σ H Q=to σ H fun x H1=>tyV K T x H1∧t σ H1 fun vs H2=>r x vs H2 Q:=propext Iff.rfl
theorem rAppend_ap{x:V}{vs:List V}{H:Hp}{Q:VK}:rAppend x vs H Q=∃ l xs y,x=.ref l∧vs=[y]∧H l=some (.lst xs)∧xs.length < sizeLine∧Q .non (upd H l (.lst (xs++[y]))):=propext Iff.rfl
theorem sizeLine_8:(8≤sizeLine)=True:=eq_true (by decide)
theorem sizeLine_10:(10≤sizeLine)=True:=eq_true (by decide)
end L2
namespace L2
open PySem PySem.Spec PyProof.Rows
section
variable {X:Cx}{o e:Expr}{es:List Expr}{to:TE}{t:TA}{name:Str}{apos cpos:Pos}{T id:String}{r:V→List V→Hp→VK→Prop}
theorem qe_bm(pa:PlainAttrs T)(slot:Slot T name id)(hty:typeOf (.builtin id)=pure (.type "method_descriptor"))(hm:MtR X id r)(ho:QE X o to)(ha:QA X (e::es) t)
  (hbase:attributeBase o name X.env (eval o X.env)=eval o X.env:=by rfl)
  (hfew:((backTo cpos (starEach (e::es) X.env)).all (fun x=>!x.1) && (backToKw cpos (keywordEach [] X.env)).all (fun x=>x.1.isSome)
   && decide ((e::es).length+([]:List Keyword).length+(if ([]:List Keyword).isEmpty then 0 else 1) < 30))=true:=by rfl)
  (hline:(apos.endLine == cpos.line)=true:=by rfl) (hs:starEach (e::es) X.env=(false,eval e X.env)::starEach es X.env:=by rfl) (hplain:(backTo cpos (starEach es X.env)).any (·.1)=false:=by rfl) :
  QE X (.Call (.Attribute o name apos) (e::es) [] cpos) (tBM X.K T r to t):=⟨pe_bm pa slot hty hm ho.p ha.p hbase hfew hline hs hplain⟩
end
end L2
namespace L2
theorem compSt_ap{n:Nat}{js:List Nat}{σ:St}:compSt n js σ=List.replicate n none++js.map fun j=>(σ[j]?).join:=by unfold compSt;exact rfl
theorem join_somz{α:Type}{x:Option α}:(some x).join=x:=rfl
end L2
namespace L2
open PySem
theorem op_inK{X:Cx}{K:PySem.W.Frag}(hK:X.K=K):OpR X (compareOp .In) (rIn K false):=hK▸op_in_seq
theorem op_notInK{X:Cx}{K:PySem.W.Frag}(hK:X.K=K):OpR X (compareOp .NotIn) (rIn K true):=hK▸op_notIn_seq
end L2
namespace L2
open PySem
theorem qg_tupK{X:Cx}{K:PySem.W.Frag}{es:List Expr}{pos:Pos}{k:Nat}{tg:TGs}{n:Nat}(hK:X.K=K)(hc:X.calm=true)(h:QGs X es tg)(hn:(assignEach es X.env).length=n:=by rfl)(hst:(assignEach es X.env).findIdx? (·.1)=none:=by rfl):QG X (.Tuple es k pos) (gTup K n tg):=hK▸qg_tup hc h hn hst
end L2
namespace L2
theorem sizeLine_0:(0≤PySem.sizeLine)=True:=eq_true (Nat.zero_le _)
end L2
namespace L2
theorem brkNB{b:Bool}{A B:Prop}{k:Tg A}{l:Tg B}(h1:b=false→A)(h2:b=true→B):Brk (!b) A B k l:=brk (fun h=>h1 (by simpa using h)) (fun h=>h2 (by simpa using h))
end L2
set_option maxHeartbeats 4000000
namespace Srt
open PySem PyProof.Rows
abbrev PS:=Array Nat×Array (Nat×Nat×Nat)×Nat
abbrev TW(β:Type):=PS→Option (β×PS)
abbrev enc(k:Nat→Keyed)(t:PS):SortSt:=SortSt.mk' oneType' (t.1.map k) t.2.1 t.2.2 none
structure Asked(P:Program)(w:World)(A:Around)(s:Shared)(k:Nat→Keyed)(c:Nat→Nat→Bool)(N:Nat):Prop where
 lt:∀ i j,i < N→j < N→∀(E:Value→Shared→Prop)(Q:Bool→Shared→Prop),Q (c i j) s→wpAny (model P w) A (oneLt' true (k i).1 (k j).1) Q E s
structure Sim(c:Nat→Nat→Bool)(N:Nat){α β:Type}(φ:(Nat→Keyed)→β→α)(m:(Nat→Keyed)→StateT SortSt Sem α)(n:TW β):Prop where
 run:∀(P:Program)(w:World)(A:Around)(E:Value→Shared→Prop)(s:Shared)(k:Nat→Keyed),Asked P w A s k c N→∀ t b t',n t=some (b,t')→wpS (model P w) A E s (m k) (fun a st=>a=φ k b∧st=enc k t') (enc k t)
section
variable {c:Nat→Nat→Bool}{N:Nat}{α β γ δ:Type}
def tpure(b:β):TW β:=fun t=>some (b,t)
def tbind(n:TW β)(g:β→TW δ):TW δ:=fun t=>match n t with
 | none=>none
 | some (b,t')=>g b t'
def tfor(f:Nat→β→TW (ForInStep β)):List Nat→β→TW β
 | [],b=>tpure b
 | x::l,b=>fun t=>match f x b t with
  | none=>none
  | some (.done b',t')=>some (b',t')
  | some (.yield b',t')=>tfor f l b' t'
def tite(p:Prop)[Decidable p](x y:TW β):TW β:=fun t=>if p then x t else y t
def tnone:TW β:=fun _=>none
def tget:TW PS:=fun t=>some (t,t)
def tmod(f:PS→PS):TW Unit:=fun t=>some ((),f t)
def tlt(c:Nat→Nat→Bool)(N i j:Nat):TW Bool:=fun t=>if i < N∧j < N then some (c i j,t) else none
def tel(p:Array Nat)(i:Nat):TW Nat:=fun t=>match p[i]? with
 | none=>none
 | some j=>some (j,t)
abbrev ident:(Nat→Keyed)→β→β:=fun _ b=>b
theorem sim_pure(b:β):Sim c N ident (fun _=>pure b) (tpure b):=by
 refine⟨?_⟩
 intro P w A E s k h t b' t' e
 cases e
 exact wpS_pure ⟨rfl,rfl⟩
theorem sim_pureV{φ:(Nat→Keyed)→β→α}{v:(Nat→Keyed)→α}(b:β)(hv:∀ k,v k=φ k b):Sim c N φ (fun k=>pure (v k)) (tpure b):=by
 refine⟨?_⟩
 intro P w A E s k h t b' t' e
 cases e
 exact wpS_pure ⟨hv k,rfl⟩
theorem sim_bind{φ:(Nat→Keyed)→β→α}{ψ:(Nat→Keyed)→δ→γ}{m:(Nat→Keyed)→StateT SortSt Sem α}{f:(Nat→Keyed)→α→StateT SortSt Sem γ}{n:TW β}{g:β→TW δ}
  (h1:Sim c N φ m n) (h2:∀ b,Sim c N ψ (fun k=>f k (φ k b)) (g b)):Sim c N ψ (fun k=>m k >>= f k) (tbind n g):=by
 refine⟨?_⟩
 intro P w A E s k h t b t' e
 unfold tbind at e
 cases e1:n t with
 | none=>rw[e1] at e;cases e
 | some r =>
  obtain⟨b1,t1⟩:=r
  rw[e1] at e
  refine wpS_bind (wpS_mono (h1.run P w A E s k h t b1 t1 e1) fun a st ⟨ea,es⟩=>?_)
  rw[ea,es]
  exact (h2 b1).run P w A E s k h t1 b t' e
theorem sim_ite{φ:(Nat→Keyed)→β→α}{p:Prop}{d:(Nat→Keyed)→Decidable p}[Decidable p]{m1 m2:(Nat→Keyed)→StateT SortSt Sem α}{n1 n2:TW β}(h1:Sim c N φ m1 n1)(h2:Sim c N φ m2 n2):Sim c N φ (fun k=>@ite _ p (d k) (m1 k) (m2 k)) (tite p n1 n2):=by
 refine⟨?_⟩
 intro P w A E s k h t b t' e
 unfold tite at e
 by_cases hp:p
 ·rw[if_pos hp] at e
  simp only[if_pos hp]
  exact h1.run P w A E s k h t b t' e
 ·rw[if_neg hp] at e
  simp only[if_neg hp]
  exact h2.run P w A E s k h t b t' e
theorem sim_none{φ:(Nat→Keyed)→β→α}{m:(Nat→Keyed)→StateT SortSt Sem α}:Sim c N φ m tnone:=⟨fun _ _ _ _ _ _ _ _ _ _ e=>nomatch e⟩
theorem sim_get:Sim c N enc (fun _=>get) tget:=by
 refine⟨?_⟩
 intro P w A E s k h t b' t' e
 cases e
 exact wpS_get ⟨rfl,rfl⟩
theorem sim_mod{f:SortSt→SortSt}(f':PS→PS)(hf:∀ k t,f (enc k t)=enc k (f' t)):Sim c N ident (fun _=>modify f) (tmod f'):=by
 refine⟨?_⟩
 intro P w A E s k h t b' t' e
 cases e
 exact wpS_modify ⟨rfl,hf k t⟩
theorem sim_rule{x:String}:Sim c N ident (fun _=>(liftM (rule x):StateT SortSt Sem Unit)) (tpure ()):=by
 refine⟨?_⟩
 intro P w A E s k h t b' t' e
 cases e
 exact wpS_lift (wpAny_rule ⟨rfl,rfl,rfl⟩)
theorem sim_lt{i j:Nat}:Sim c N (fun _ b=>some b) (fun k=>lt' (k i) (k j)) (tlt c N i j):=by
 refine⟨?_⟩
 intro P w A E s k h t b' t' e
 unfold tlt at e
 split at e
 case isFalse=>cases e
 rename_i hij
 cases e
 try dsimp only
 rw[lt'_eq]
 refine wpS_bind (wpS_get ?_)
 show wpS _ _ _ _ (do let r ← (keyLt' oneType' (k i).1 (k j).1).attempt;_) _ _
 rw[keyLt'_oneType]
 refine wpS_bind (wpS_lift (wpAny_attempt (h.lt i j hij.1 hij.2 _ _ ⟨rfl,?_⟩)))
 exact wpS_pure ⟨rfl,rfl⟩
theorem sim_el{p:Array Nat}{i:Nat}:Sim c N (fun k j=>k j) (fun k=>elem' (p.map k) i) (tel p i):=by
 refine⟨?_⟩
 intro P w A E s k h t b' t' e
 unfold tel at e
 try dsimp only
 rw[elem'_eq]
 cases e1:p[i]? with
 | none=>rw[e1] at e;cases e
 | some j =>
  rw[e1] at e
  cases e
  rw[Array.getElem?_map,e1]
  exact wpS_pure ⟨rfl,rfl⟩
def stepM(φ:(Nat→Keyed)→β→α)(k:Nat→Keyed):ForInStep β→ForInStep α
 | .done b=>.done (φ k b)
 | .yield b=>.yield (φ k b)
theorem sim_forL{φ:(Nat→Keyed)→β→α}{F:(Nat→Keyed)→Nat→α→StateT SortSt Sem (ForInStep α)}{f:Nat→β→TW (ForInStep β)}(h:∀ x b,Sim c N (stepM φ) (fun k=>F k x (φ k b)) (f x b)) :
  ∀(l:List Nat)(b:β),Sim c N φ (fun k=>forIn l (φ k b) (F k)) (tfor f l b)
 | [],b=>by
  refine⟨?_⟩
  intro P w A E s k ha t b' t' e
  cases e
  simp only[List.forIn_nil]
  exact wpS_pure ⟨rfl,rfl⟩
 | x::l,b=>by
  refine⟨?_⟩
  intro P w A E s k ha t b' t' e
  simp only[List.forIn_cons]
  unfold tfor at e
  cases e1:f x b t with
  | none=>rw[e1] at e;cases e
  | some r =>
   obtain⟨r,t1⟩:=r
   rw[e1] at e
   refine wpS_bind (wpS_mono ((h x b).run P w A E s k ha t r t1 e1) fun a st ⟨ea,es⟩=>?_)
   rw[ea,es]
   cases r with
   | done b1 =>
    cases e
    exact wpS_pure ⟨rfl,rfl⟩
   | yield b1=>exact (sim_forL h l b1).run P w A E s k ha t1 b' t' e
theorem sim_for{φ:(Nat→Keyed)→β→α}{F:(Nat→Keyed)→Nat→α→StateT SortSt Sem (ForInStep α)}{f:Nat→β→TW (ForInStep β)}{a b:Nat}{v:(Nat→Keyed)→α}(b0:β)(hv:∀ k,v k=φ k b0)(h:∀ x b,Sim c N (stepM φ) (fun k=>F k x (φ k b)) (f x b)) :
  Sim c N φ (fun k=>forIn [a:b] (v k) (F k)) (tfor f (List.range' a (b - a)) b0):=by
 refine⟨?_⟩
 intro P w A E s k ha t b' t' e
 have:=(sim_forL h _ b0).run P w A E s k ha t b' t' e
 try dsimp only
 rw[hv k,Std.Legacy.Range.forIn_eq_forIn_range']
 have hsz:([a:b]:Std.Legacy.Range).size=b - a:=by simp[Std.Legacy.Range.size]
 show wpS _ _ _ _ (forIn (List.range' a ([a:b]:Std.Legacy.Range).size 1) _ _) _ _
 rw[hsz]
 exact this
theorem sim_forI{F:(Nat→Keyed)→Nat→β→StateT SortSt Sem (ForInStep β)}{f:Nat→β→TW (ForInStep β)}{a b:Nat}{b0:β}(h:∀ x b,Sim c N (stepM ident) (fun k=>F k x b) (f x b)) :
  Sim c N ident (fun k=>forIn [a:b] b0 (F k)) (tfor f (List.range' a (b - a)) b0):=sim_for b0 (fun _=>rfl) h
theorem sim_done(b:β):Sim c N (stepM ident) (fun _=>pure (ForInStep.done b)) (tpure (.done b)):=sim_pureV _ fun _=>rfl
theorem sim_yield(b:β):Sim c N (stepM ident) (fun _=>pure (ForInStep.yield b)) (tpure (.yield b)):=sim_pureV _ fun _=>rfl
def tcase{ρ τ:Type}(g1:ρ→τ→TW δ)(g2:τ→TW δ):Option ρ×τ→TW δ
 | (some r,y)=>g1 r y
 | (none,y)=>g2 y
theorem sim_case{ρ τ:Type}{ψ:(Nat→Keyed)→δ→γ}{f:(Nat→Keyed)→Option ρ×τ→StateT SortSt Sem γ}{g1:ρ→τ→TW δ}{g2:τ→TW δ}(h1:∀ r y,Sim c N ψ (fun k=>f k (some r,y)) (g1 r y))(h2:∀ y,Sim c N ψ (fun k=>f k (none,y)) (g2 y)) :
  ∀ b,Sim c N ψ (fun k=>f k b) (tcase g1 g2 b)
 | (some r,y)=>h1 r y
 | (none,y)=>h2 y
theorem sim_ltAt{i j:Nat}:Sim c N (fun _ b=>some b) (fun _=>ltAt' i j) (fun t=>tbind (tel t.1 i) (fun x=>tbind (tel t.1 j) (tlt c N x)) t):=by
 refine⟨?_⟩
 intro P w A E s k h t b' t' e
 try dsimp only
 rw[ltAt'_eq]
 refine wpS_bind (wpS_get ?_)
 have g:Sim c N (fun _ b=>some b) (fun k=>do let x ← elem' (t.1.map k) i;let y ← elem' (t.1.map k) j;lt' x y) (tbind (tel t.1 i) (fun x=>tbind (tel t.1 j) (tlt c N x))):=sim_bind sim_el fun x=>sim_bind sim_el fun y=>sim_lt
 exact g.run P w A E s k h t b' t' e
theorem swap_map(k:Nat→Keyed)(xs:Array Nat)(i j:Nat):(xs.map k).swapIfInBounds i j=(xs.swapIfInBounds i j).map k:=by
 by_cases hi:i < xs.size
 ·by_cases hj:j < xs.size
  ·apply Array.ext_getElem?
   intro q
   rw[getElem?_swapIB (by rw[Array.size_map];exact hi) (by rw[Array.size_map];exact hj)]
   simp only[Array.getElem?_map]
   rw[getElem?_swapIB hi hj]
   by_cases h1:j=q<;>by_cases h2:i=q<;>simp[h1,h2]
  ·simp[Array.swapIfInBounds_def,hi,hj]
 ·simp[Array.swapIfInBounds_def,hi]
theorem mirror_map(k:Nat→Keyed)(xs:Array Nat)(i j d:Nat):mirror (xs.map k) i j d=(mirror xs i j d).map k:=by
 have go:∀(l:List Nat)(xs:Array Nat),l.foldl (fun a q=>a.swapIfInBounds (i+q) (j - 1 - q)) (xs.map k)=(l.foldl (fun a q=>a.swapIfInBounds (i+q) (j - 1 - q)) xs).map k:=by
  intro l
  induction l with
  | nil=>intro xs;rfl
  | cons x l ih=>intro xs;simp only[List.foldl_cons];rw[swap_map,ih]
 exact go _ _
theorem bubble_map(k:Nat→Keyed)(xs:Array Nat)(src d:Nat):bubble (xs.map k) src d=(bubble xs src d).map k:=by
 have go:∀(l:List Nat)(xs:Array Nat),l.foldl (fun a q=>a.swapIfInBounds (src - q) (src - q - 1)) (xs.map k)=(l.foldl (fun a q=>a.swapIfInBounds (src - q) (src - q - 1)) xs).map k:=by
  intro l
  induction l with
  | nil=>intro xs;rfl
  | cons x l ih=>intro xs;simp only[List.foldl_cons];rw[swap_map,ih]
 exact go _ _
end
end Srt
set_option maxHeartbeats 4000000
namespace Srt
open PySem PyProof.Rows
variable {c:Nat→Nat→Bool}{N:Nat}
theorem sim_moveDown{src dst:Nat}:Sim c N ident (fun _=>moveDown' src dst) (tmod fun t=>(bubble t.1 src (src - dst),t.2)):=by
 simp only[moveDown'_eq]
 exact sim_mod _ fun k t=>by
  show SortSt.mk' oneType' (bubble (t.1.map k) src (src - dst)) t.2.1 t.2.2 none=_
  rw[bubble_map]
theorem sim_reverse{i j:Nat}:Sim c N ident (fun _=>reverseSlice' i j) (tmod fun t=>(mirror t.1 i j ((j - i) / 2),t.2)):=by
 simp only[reverseSlice'_eq]
 exact sim_mod _ fun k t=>by
  show SortSt.mk' oneType' (mirror (t.1.map k) i j ((j - i) / 2)) t.2.1 t.2.2 none=_
  rw[mirror_map]
def mkS{α β:Type}{φ:(Nat→Keyed)→β→α}{m:(Nat→Keyed)→StateT SortSt Sem α}{n:TW β}(h:Sim c N φ m n):{ n:TW β // Sim c N φ m n }:=⟨n,h⟩
def binS(c:Nat→Nat→Bool)(N lo n ok:Nat):{ m:TW Bool // Sim c N ident (fun _=>binarySort' lo n ok) m }:=by
 apply mkS
 ·simp only[binarySort'_eq]
  repeat' (first
   | with_reducible exact sim_done _ | with_reducible exact sim_yield _ | with_reducible exact sim_pure _ | with_reducible exact sim_ltAt | with_reducible exact sim_moveDown | with_reducible exact sim_reverse | with_reducible exact sim_rule | with_reducible exact sim_el | with_reducible exact sim_lt
   | apply sim_ite | with_reducible apply sim_forI | with_reducible apply sim_case | with_reducible apply sim_bind | (intro _;try dsimp only[ident]))
def countS(c:Nat→Nat→Bool)(N lo nrem:Nat):{ m:TW (Option Nat) // Sim c N ident (fun _=>countRun' lo nrem) m }:=by
 apply mkS
 ·simp only[countRun'_eq]
  repeat' (first
   | with_reducible exact sim_done _ | with_reducible exact sim_yield _ | with_reducible exact sim_pure _ | with_reducible exact sim_ltAt | with_reducible exact sim_moveDown | with_reducible exact sim_reverse | with_reducible exact sim_rule | with_reducible exact sim_el | with_reducible exact sim_lt
   | apply sim_ite | with_reducible apply sim_forI | with_reducible apply sim_case | with_reducible apply sim_bind | (intro _;try dsimp only[ident]))
end Srt
set_option maxHeartbeats 4000000
namespace Srt
open PySem PyProof.Rows
variable {c:Nat→Nat→Bool}{N:Nat}
def gallop':Bool→Keyed→Array Keyed→Nat→Nat→Nat→StateT SortSt Sem (Option Nat):=sortPriv% PySem.Builtin.gallop
def mergeLo':Array Keyed→Array Keyed→StateT SortSt Sem (Array Keyed):=sortPriv% PySem.Builtin.mergeLo
def setMinGallop':Nat→StateT SortSt Sem Unit:=sortPriv% PySem.Builtin.setMinGallop
def tbey(c:Nat→Nat→Bool)(N:Nat)(left:Bool)(p:Array Nat)(i j:Nat):TW Bool:=tbind (tel p i) fun x=>tite (left=true) (tlt c N x j) (tbind (tlt c N j x) fun r=>tpure (!r))
theorem sim_beyond{left:Bool}{p:Array Nat}{i j:Nat}:Sim c N (fun _ b=>some b) (fun k=>elem' (p.map k) i >>= fun x=>if left=true then lt' x (k j) else lt' (k j) x >>= fun r=>pure (Option.map (fun x=>!x) r)) (tbey c N left p i j):=by
 unfold tbey
 apply sim_bind
 ·exact sim_el
 ·intro x
  apply sim_ite
  ·exact sim_lt
  ·apply sim_bind
   ·exact sim_lt
   ·intro r
    exact sim_pureV (φ:=fun _ b=>some b) (!r) fun _=>rfl
def topt{ρ δ:Type}(g1:ρ→TW δ)(g2:TW δ):Option ρ→TW δ
 | some r=>g1 r
 | none=>g2
theorem sim_opt{ρ δ γ:Type}{ψ:(Nat→Keyed)→δ→γ}{f:(Nat→Keyed)→Option ρ→StateT SortSt Sem γ}{g1:ρ→TW δ}{g2:TW δ}(h1:∀ r,Sim c N ψ (fun k=>f k (some r)) (g1 r))(h2:Sim c N ψ (fun k=>f k none) g2):∀ b,Sim c N ψ (fun k=>f k b) (topt g1 g2 b)
 | some r=>h1 r
 | none=>h2
def gallopS(c:Nat→Nat→Bool)(N:Nat)(left:Bool)(j:Nat)(p:Array Nat)(base n hint:Nat):{ m:TW (Option Nat) // Sim c N ident (fun k=>gallop' left (k j) (p.map k) base n hint) m }:=by
 apply mkS
 ·apply sim_bind
  ·exact sim_beyond
  ·intro b
   dsimp only
   repeat' (first
    | with_reducible exact sim_done _ | with_reducible exact sim_yield _ | with_reducible exact sim_pure _ | exact sim_beyond
    | apply sim_ite | with_reducible apply sim_forI | with_reducible apply sim_case | with_reducible apply sim_bind | (intro _;try dsimp only[ident]))
theorem sim_gallop{left:Bool}{j:Nat}{p:Array Nat}{base n hint:Nat}:Sim c N ident (fun k=>gallop' left (k j) (p.map k) base n hint) (gallopS c N left j p base n hint).1:=(gallopS c N left j p base n hint).2
theorem sim_setMG{g:Nat}:Sim c N ident (fun _=>setMinGallop' g) (tmod fun t=>(t.1,t.2.1,g)):=sim_mod _ fun k t=>rfl
theorem sim_unsup{α β:Type}{φ:(Nat→Keyed)→β→α}{x:String}:Sim c N φ (fun _=>(liftM (unsupported x:Sem α):StateT SortSt Sem α)) tnone:=sim_none
abbrev phA:(Nat→Keyed)→Array Nat→Array Keyed:=fun k p=>Array.map k p
def phM{τ:Type}:(Nat→Keyed)→Option (Array Nat)×Array Nat×τ→Option (Array Keyed)×Array Keyed×τ:=fun k r=>(r.1.map (Array.map k),Array.map k r.2.1,r.2.2)
theorem phM_ap{τ:Type}(k:Nat→Keyed)(r:Option (Array Nat)×Array Nat×τ):phM k r=(r.1.map (Array.map k),Array.map k r.2.1,r.2.2):=rfl
theorem nm1(k:Nat→Keyed)(o:Array Nat)(j:Nat):(Array.map k o).push (k j)=Array.map k (o.push j):=by simp
theorem nm2(k:Nat→Keyed)(o:Array Nat)(i j:Nat):(Array.map k o).extract i j=Array.map k (o.extract i j):=by simp
theorem nm3(k:Nat→Keyed)(o q:Array Nat):Array.map k o++Array.map k q=Array.map k (o++q):=by simp
theorem nm4(k:Nat→Keyed)(o:Array Nat):(Array.map k o).size=o.size:=by simp
theorem nm5(k:Nat→Keyed)(j:Nat):(#[k j]:Array Keyed)=Array.map k #[j]:=by simp
section
variable {τ δ γ:Type}
theorem simM_for{F:(Nat→Keyed)→Nat→(Option (Array Keyed)×Array Keyed×τ)→StateT SortSt Sem (ForInStep (Option (Array Keyed)×Array Keyed×τ))}{f:Nat→(Option (Array Nat)×Array Nat×τ)→TW (ForInStep (Option (Array Nat)×Array Nat×τ))}{a b:Nat}{p0:Array Nat}{y0:τ}
  (h:∀ x b,Sim c N (stepM phM) (fun k=>F k x (phM k b)) (f x b)):Sim c N phM (fun k=>forIn [a:b] (none,Array.map k p0,y0) (F k)) (tfor f (List.range' a (b - a)) (none,p0,y0)):=sim_for (none,p0,y0) (fun _=>rfl) h
theorem simM_done0{o:Array Nat}{y:τ}:Sim c N (stepM phM) (fun k=>pure (ForInStep.done (none,Array.map k o,y))) (tpure (.done (none,o,y))):=sim_pureV _ fun _=>rfl
theorem simM_done1{r o:Array Nat}{y:τ}:Sim c N (stepM phM) (fun k=>pure (ForInStep.done (some (Array.map k r),Array.map k o,y))) (tpure (.done (some r,o,y))):=sim_pureV _ fun _=>rfl
theorem simM_yield{o:Array Nat}{y:τ}:Sim c N (stepM phM) (fun k=>pure (ForInStep.yield (none,Array.map k o,y))) (tpure (.yield (none,o,y))):=sim_pureV _ fun _=>rfl
theorem simM_pure{r:Array Nat}:Sim c N phA (fun k=>pure (Array.map k r)) (tpure r):=sim_pureV _ fun _=>rfl
def tcaseM(g1:Array Nat→Array Nat→τ→TW δ)(g2:Array Nat→τ→TW δ):Option (Array Nat)×Array Nat×τ→TW δ
 | (some r,o,y)=>g1 r o y
 | (none,o,y)=>g2 o y
theorem simM_case{ψ:(Nat→Keyed)→δ→γ}{f:(Nat→Keyed)→Option (Array Keyed)×Array Keyed×τ→StateT SortSt Sem γ}{g1:Array Nat→Array Nat→τ→TW δ}{g2:Array Nat→τ→TW δ}(h1:∀ r o y,Sim c N ψ (fun k=>f k (some (Array.map k r),Array.map k o,y)) (g1 r o y))(h2:∀ o y,Sim c N ψ (fun k=>f k (none,Array.map k o,y)) (g2 o y)) :
  ∀ b,Sim c N ψ (fun k=>f k (phM k b)) (tcaseM g1 g2 b)
 | (some r,o,y)=>h1 r o y
 | (none,o,y)=>h2 o y
theorem simM_bind{ψ:(Nat→Keyed)→δ→γ}{m:(Nat→Keyed)→StateT SortSt Sem (Option (Array Keyed)×Array Keyed×τ)}{f:(Nat→Keyed)→Option (Array Keyed)×Array Keyed×τ→StateT SortSt Sem γ}{n:TW (Option (Array Nat)×Array Nat×τ)}{g1:Array Nat→Array Nat→τ→TW δ}{g2:Array Nat→τ→TW δ}
  (h:Sim c N phM m n) (h1:∀ r o y,Sim c N ψ (fun k=>f k (some (Array.map k r),Array.map k o,y)) (g1 r o y)) (h2:∀ o y,Sim c N ψ (fun k=>f k (none,Array.map k o,y)) (g2 o y)) :
  Sim c N ψ (fun k=>m k >>= f k) (tbind n (tcaseM g1 g2)):=sim_bind h (simM_case h1 h2)
end
def mergeS(c:Nat→Nat→Bool)(N:Nat)(a b:Array Nat):{ m:TW (Array Nat) // Sim c N phA (fun k=>mergeLo' (a.map k) (b.map k)) m }:=by
 apply mkS
 ·apply sim_bind
  ·exact sim_rule
  ·intro _
   dsimp only
   apply sim_bind
   ·exact sim_el
   ·intro j
    try dsimp only
    simp only[nm1,nm2,nm3,nm4,nm5]
    repeat' (first
     | exact sim_rule | exact sim_unsup | exact sim_setMG | exact sim_el | exact sim_lt | exact sim_gallop | exact sim_get
     | apply sim_ite | with_reducible apply simM_for | with_reducible apply sim_opt | with_reducible apply simM_bind | with_reducible apply sim_bind | exact simM_done0 | exact simM_done1 | exact simM_yield | exact simM_pure | (simp only[nm1,nm2,nm3,nm4,nm5];first | exact simM_done0 | exact simM_done1 | exact simM_yield | exact simM_pure | apply sim_ite | with_reducible apply simM_bind | with_reducible apply sim_bind | with_reducible apply simM_for) | (intro _;try dsimp only[ident,enc,phM_ap];try simp only[nm1,nm2,nm3,nm4,nm5]))
end Srt
set_option maxHeartbeats 4000000
namespace Srt
open PySem PyProof.Rows
def sub(i:Nat):List Int:=((List.range 6).filter fun b=>i.testBit b).map Int.ofNat
def llt:List Int→List Int→Bool
 | [],[]=>false
 | [],_::_=>true
 | _::_,[]=>false
 | x::xs,y::ys=>if x=y then llt xs ys else decide (x < y)
def cmp(i j:Nat):Bool:=llt (sub i) (sub j)
def a1:Array Nat:=#[0,1,3,7,15,31,23,11,27,19,5,13,29,21,9,25,17,2,6,14,30,22,10,26,18,4,12,28,20,8,24,16,32,33,34,35,36,37,38,39,40,41,42,43,44,45,46,47,48,49,50,51,52,53,54,55,56,57,58,59,60,61,62,63]
def a3:Array Nat:=#[0,1,3,7,15,31,23,11,27,19,5,13,29,21,9,25,17,2,6,14,30,22,10,26,18,4,12,28,20,8,24,16,33,32,34,35,36,37,38,39,40,41,42,43,44,45,46,47,48,49,50,51,52,53,54,55,56,57,58,59,60,61,62,63]
def a4:Array Nat:=#[0,1,3,7,15,31,23,11,27,19,5,13,29,21,9,25,17,2,6,14,30,22,10,26,18,4,12,28,20,8,24,16,63,47,55,39,59,43,51,35,61,45,53,37,57,41,49,33,62,46,54,38,58,42,50,34,60,44,52,36,56,40,48,32]
def order:Array Nat:=#[0,1,3,7,15,31,63,47,23,55,39,11,27,59,43,19,51,35,5,13,29,61,45,21,53,37,9,25,57,41,17,49,33,2,6,14,30,62,46,22,54,38,10,26,58,42,18,50,34,4,12,28,60,44,20,52,36,8,24,56,40,16,48,32]
def t0:PS:=((List.range 64).toArray,#[],7)
def t2:PS:=(a1,#[(0,32,0)],7)
def t4:PS:=(a4,#[(0,32,0)],7)
def t5:PS:=(a4,#[(0,32,1),(32,32,0)],7)
def t6:PS:=(a4,#[(0,64,1)],7)
theorem e0:(countS cmp 64 0 64).1 t0=some (some 3,t0):=by kernel_rfl
theorem e1:(binS cmp 64 0 32 3).1 t0=some (true,(a1,#[],7)):=by kernel_rfl
theorem e2:(countS cmp 64 32 32).1 t2=some (some 2,(a3,#[(0,32,0)],7)):=by kernel_rfl
theorem e3:(binS cmp 64 32 32 2).1 (a3,#[(0,32,0)],7)=some (true,t4):=by kernel_rfl
theorem e4:(gallopS cmp 64 false (a4.getD 32 0) a4 0 32 0).1 t6=some (some 6,t6):=by kernel_rfl
theorem e5:(gallopS cmp 64 true (a4.getD 31 0) a4 32 32 31).1 t6=some (some 30,t6):=by kernel_rfl
def mg:Array Nat:=order.extract 6 62
theorem e6:(mergeS cmp 64 (a4.extract 6 32) (a4.extract 32 62)).1 t6=some (mg,t6):=by kernel_rfl
section
variable {P:Program}{w:World}{A:Around}{E:Value→Shared→Prop}{s:Shared}{k:Nat→Keyed}
end
end Srt
set_option maxHeartbeats 4000000
namespace Srt
open PySem PyProof.Rows
section
variable {P:Program}{w:World}{A:Around}{E:Value→Shared→Prop}{s:Shared}{k:Nat→Keyed}
theorem c2:(countS cmp 2 0 2).1 ((List.range 2).toArray,#[],7)=some (some 2,((List.range 2).toArray,#[],7)):=by kernel_rfl
def o4:Array Nat:=#[0,1,3,2]
theorem c4:(countS cmp 4 0 4).1 ((List.range 4).toArray,#[],7)=some (some 3,((List.range 4).toArray,#[],7)):=by kernel_rfl
theorem b4:(binS cmp 4 0 4 3).1 ((List.range 4).toArray,#[],7)=some (true,(o4,#[],7)):=by kernel_rfl
def o8:Array Nat:=#[0,1,3,7,5,2,6,4]
theorem c8:(countS cmp 8 0 8).1 ((List.range 8).toArray,#[],7)=some (some 3,((List.range 8).toArray,#[],7)):=by kernel_rfl
theorem b8:(binS cmp 8 0 8 3).1 ((List.range 8).toArray,#[],7)=some (true,(o8,#[],7)):=by kernel_rfl
theorem c16:(countS cmp 16 0 16).1 ((List.range 16).toArray,#[],7)=some (some 3,((List.range 16).toArray,#[],7)):=by kernel_rfl
end
end Srt
namespace L2
open PySem PySem.Spec PyProof.Rows Srt
section
variable {prog:Program}{w:World}{A:Around}{E:Value→Shared→Prop}{s:Shared}
end
end L2
namespace L2
open PySem PySem.Spec PyProof.Rows Srt
def ordL(n:Nat):List Nat:=order.toList.filter fun i=>decide (i < n)
section
variable {X:Cx}
end
end L2
namespace L2
open PySem PySem.Spec PyProof.Rows
section
variable {X:Cx}
def tRev(te:TE)(ts:TO):TE:=fun σ H Q=>te σ H fun x H1=>ts σ H1 fun l H2=>l=some (-1)∧∃ a xs,x=.ref a∧H2 a=some (.lst xs)∧∀ p,H2 p=none→Q (.ref p) (upd H2 p (.lst xs.reverse))
def rInsert:V→List V→Hp→VK→Prop:=fun x vs H Q=>∃ l xs i y,x=.ref l∧vs=[.int i,y]∧H l=some (.lst xs)∧0≤i∧i≤xs.length∧xs.length < 1000∧Q .non (upd H l (.lst (xs.take i.toNat++y::xs.drop i.toNat)))
theorem mt_insert:MtM X "list.insert" rInsert:=by
 intro pins s σ H x vs v us Q I rx rv h
 obtain⟨l,xs,i,y,rfl,rfl,hH,h0,h1,hz,q⟩:=h
 cases rx
 obtain⟨u,v2,rfl,⟨t,rfl⟩,ru⟩:=rv.two
 obtain⟨z,its,n,r,hl,e⟩:=I.lstM hH
 have hf:Builtin.List.listFitsIndex i=true:=by
  unfold Builtin.List.listFitsIndex
  simp
  omega
 refine call_meets F.slot_list_insert ⟨_,e,rfl⟩ F.entry_list_insert (F.args_list_insert_3 _ _ _) (PySem.AutoSeq1.list_insert_list_int_val_1 l its.toArray n i t v2 (by simp[hf]) (by rw[List.size_toArray,← hl];exact z)) ⟨e,?_⟩
 refine⟨.non,_,I.lset (its':=its.take i.toNat++v2::its.drop i.toNat) hH e ?_ ((r.take i.toNat).append (.cons ru (r.drop i.toNat))) ?_,rfl,q⟩
 ·show (its.toArray.extract 0 (if i < 0 then (i+(its.toArray.size:Int)).toNat else min i.toNat its.toArray.size)).push v2++its.toArray.extract (if i < 0 then (i+(its.toArray.size:Int)).toNat else min i.toNat its.toArray.size)=_
  have ek:(if i < 0 then (i+(its.toArray.size:Int)).toNat else min i.toNat its.toArray.size)=i.toNat:=by
   rw[if_neg (by omega),List.size_toArray,← hl]
   omega
  rw[ek]
  exact PySem.W.kl_ins_eq its i.toNat v2
 ·rw[List.length_append,List.length_cons,List.length_take,List.length_drop]
  have:=small1000 (n:=1000) (Nat.le_refl _)
  omega
end
theorem tRev_ap{te:TE}{ts:TO}{σ:St}{H:Hp}{Q:VK}:tRev te ts σ H Q=te σ H fun x H1=>ts σ H1 fun l H2=>l=some (-1)∧∃ a xs,x=.ref a∧H2 a=some (.lst xs)∧∀ p,H2 p=none→Q (.ref p) (upd H2 p (.lst xs.reverse)):=propext Iff.rfl
theorem rInsert_ap{x:V}{vs:List V}{H:Hp}{Q:VK}:rInsert x vs H Q=∃ l xs i y,x=.ref l∧vs=[.int i,y]∧H l=some (.lst xs)∧0≤i∧i≤xs.length∧xs.length < 1000∧Q .non (upd H l (.lst (xs.take i.toNat++y::xs.drop i.toNat))):=propext Iff.rfl
end L2
namespace L2
open PySem
theorem tPart_ap{te:TE}{σ:St}{H:Hp}{K:Option Int→Hp→Prop}:tPart te σ H K=te σ H fun x H1=>∃ i,x=.int i∧K (some i) H1:=propext Iff.rfl
theorem tNoPart_ap{σ:St}{H:Hp}{K:Option Int→Hp→Prop}:tNoPart σ H K=K none H:=propext Iff.rfl
end L2
namespace Toy
open PySem L2
open PySem.Builtin.Int (intBits)
structure BagAt(H:Hp)(B L:Addr):Prop where
 ex:∃ ns i r salt,H B=some (.lst [.ref L,.int i,.int r,.int salt])∧H L=some (.lst (List.map V.int ns))∧(0:Int)≤i
theorem BagAt.new{H:Hp}{B L p:Addr}{o:HO}(b:BagAt H B L)(hp:H p=none):BagAt (upd H p o) B L:=by
 obtain⟨ns,i,r,salt,h1,h2,h3⟩:=b
 exact⟨ns,i,r,salt,by rw[upd_ne (ne_of_none h1 hp)];exact h1,by rw[upd_ne (ne_of_none h2 hp)];exact h2,h3⟩
theorem BagAt.ne{H:Hp}{B L p:Addr}(b:BagAt H B L)(hp:H p=none):p≠B:=fun e=>by
 obtain⟨_,_,_,_,z,_⟩:=b
 rw[← e,hp] at z
 cases z
abbrev lowN(n u:Int):Int:=n / (Int.gcd n u:Int)
abbrev lowU(n u:Int):Int:=u / (Int.gcd n u:Int)
def addP(a b:Int×Int):Int×Int:=(lowN (a.1*b.2+b.1*a.2) (a.2*b.2),lowU (a.1*b.2+b.1*a.2) (a.2*b.2))
def sumP(l:List (Int×Int)):Int×Int:=l.foldl addP (0,1)
theorem sumP_succ{l:List (Int×Int)}{i:Nat}(h:i < l.length):sumP (l.take (i+1))=addP (sumP (l.take i)) l[i]:=by
 unfold sumP
 rw[List.take_succ_eq_append_getElem h,List.foldl_append]
 rfl
def und1(r:Int)(p:Int×Int):Int:=r / (Int.gcd r p.2:Int)*p.2
def undP(l:List (Int×Int)):Int:=l.foldl und1 1
def numsP(U:Int)(l:List (Int×Int)):List Int:=l.map fun p=>p.1*(U / p.2)
def RowAt(H:Hp)(xs:List V)(ps:List (Int×Int)):Prop:=xs.length=ps.length∧∀(i:Nat) p,ps[i]?=some p→∃ r,xs[i]?=some (.ref r)∧H r=some (.tup [.int p.1,.int p.2])∧0 < p.2∧Sz 100 p.1∧Sz 31 p.2
def pD(p:Int×Int):Dt:=.tup [.int p.1,.int p.2]
theorem dens_of{H:Hp}:∀ (ps:List (Int×Int)) (xs:List V),xs.length=ps.length→(∀(i:Nat) p,ps[i]?=some p→∃ r,xs[i]?=some (.ref r)∧H r=some (.tup [.int p.1,.int p.2]))→Dens H (ps.map pD) xs
 | [],xs,h1,h2=>by
  show Dens H [] xs
  unfold Dens
  exact List.length_eq_zero_iff.mp h1
 | p::ps,xs,h1,h2=>by
  obtain⟨r,e,h3⟩:=h2 0 p rfl
  cases xs with
  | nil=>cases h1
  | cons x xs =>
   cases e
   show Dens H (pD p::ps.map pD) (V.ref r::xs)
   unfold Dens
   refine⟨_,_,rfl,den2 h3,dens_of ps xs (by simpa using h1) fun i p' hp=>?_⟩
   obtain⟨r',e',h4⟩:=h2 (i+1) p' (by simpa using hp)
   exact⟨r',by simpa using e',h4⟩
def TS(H H':Hp):Prop:=∀ b xs,H b=some (.tup xs)→H' b=some (.tup xs)
theorem TS.of{H H':Hp}(s:Same H H'):TS H H':=fun b xs h=>s b _ h
theorem TS.fr{H H':Hp}{B L:Addr}(b:BagAt H B L)(f:Fr1 B H H'):TS H H':=fun c xs h=>f c _ (fun e=>by
 obtain⟨_,_,_,_,z,_⟩:=b
 rw[← e,h] at z
 cases z) h
theorem TS.lst{H:Hp}{l:Addr}{xs:List V}{o:HO}(h:H l=some (.lst xs)):TS H (L2.upd H l o):=fun c ys hc=>by
 rw[upd_ne (fun e=>by rw[e,h] at hc;cases hc)]
 exact hc
theorem BagAt.put{H:Hp}{B L F:Addr}{o:HO}(b:BagAt H B L)(nB:F≠B)(nL:F≠L):BagAt (L2.upd H F o) B L:=by
 obtain⟨ns,i,r,salt,h1,h2,h3⟩:=b
 exact⟨ns,i,r,salt,by rw[upd_ne nB.symm];exact h1,by rw[upd_ne nL.symm];exact h2,h3⟩
theorem BagAt.neL{H:Hp}{B L p:Addr}(b:BagAt H B L)(hp:H p=none):p≠L:=fun e=>by
 obtain⟨_,_,_,_,_,z,_⟩:=b
 rw[← e,hp] at z
 cases z
theorem BagAt.keep{H H':Hp}{B L:Addr}(b:BagAt H B L)(s:Same H H'):BagAt H' B L:=by
 obtain⟨ns,i,r,salt,h1,h2,h3⟩:=b
 exact⟨ns,i,r,salt,s _ _ h1,s _ _ h2,h3⟩
theorem Fr1.of{H H':Hp}{B:Addr}(s:Same H H'):Fr1 B H H':=fun b o _ h=>s b o h
structure Cl where
 n:Int
 u:Int
 hp:List Int
 rk:Int
def ClAt(H:Hp)(v:V)(c:Cl):Prop:=∃ r p h,v=.ref r∧H r=some (.tup [.ref p,.ref h,.int c.rk])∧H p=some (.tup [.int c.n,.int c.u])∧H h=some (.tup (c.hp.map V.int))
theorem ClAt.ts{H H':Hp}{v:V}{c:Cl}(h:ClAt H v c)(s:TS H H'):ClAt H' v c:=by
 obtain⟨r,p,k,e,h1,h2,h3⟩:=h
 exact⟨r,p,k,e,s _ _ h1,s _ _ h2,s _ _ h3⟩
def ClsAt(H:Hp)(xs:List V)(cs:List Cl):Prop:=xs.length=cs.length∧∀(i:Nat) c,cs[i]?=some c→∃ v,xs[i]?=some v∧ClAt H v c
theorem ClsAt.ts{H H':Hp}{xs:List V}{cs:List Cl}(h:ClsAt H xs cs)(s:TS H H'):ClsAt H' xs cs:=⟨h.1,fun i c hc=>by
 obtain⟨v,e,h1⟩:=h.2 i c hc
 exact⟨v,e,h1.ts s⟩⟩
theorem ClsAt.nil{H:Hp}:ClsAt H [] []:=⟨rfl,fun i p h=>by simp at h⟩
theorem ClsAt.snoc{H:Hp}{xs:List V}{cs:List Cl}{v:V}{c:Cl}(h:ClsAt H xs cs)(hv:ClAt H v c):ClsAt H (xs++[v]) (cs++[c]):=by
 refine⟨by rw[List.length_append,List.length_append,h.1];rfl,fun i p hp=>?_⟩
 by_cases hi:i < cs.length
 ·rw[List.getElem?_append_left hi] at hp
  rw[List.getElem?_append_left (by rw[h.1];exact hi)]
  exact h.2 i p hp
 ·have hl:=(List.getElem?_eq_some_iff.mp hp).1
  rw[List.length_append] at hl
  have e:i=cs.length:=by
   have:([c]:List Cl).length=1:=rfl
   omega
  subst e
  rw[List.getElem?_append_right (Nat.le_refl _),Nat.sub_self] at hp
  cases hp
  exact⟨v,by rw[List.getElem?_append_right (by rw[h.1];exact Nat.le_refl _),h.1,Nat.sub_self];rfl,hv⟩
def cD(c:Cl):Dt:=.tup [.tup [.int c.n,.int c.u],.tup (c.hp.map Dt.int),.int c.rk]
theorem ints_dens{H:Hp}:∀ hs:List Int,Dens H (hs.map Dt.int) (hs.map V.int)
 | []=>by unfold List.map Dens;rfl
 | x::hs=>by
  show Dens H (Dt.int x::hs.map Dt.int) (V.int x::hs.map V.int)
  unfold Dens
  exact⟨_,_,rfl,by unfold Den;rfl,ints_dens hs⟩
theorem dens1{H:Hp}{d:Dt}{ds:List Dt}{x:V}{xs:List V}(h:Den H d x)(h2:Dens H ds xs):Dens H (d::ds) (x::xs):=by
 unfold Dens
 exact⟨_,_,rfl,h,h2⟩
theorem dens0{H:Hp}:Dens H [] []:=by unfold Dens;rfl
theorem den_tup{H:Hp}{a:Addr}{xs:List V}{ds:List Dt}(h:H a=some (.tup xs))(h2:Dens H ds xs):Den H (.tup ds) (.ref a):=by unfold Den;exact⟨a,xs,rfl,h,h2⟩
theorem den_lst{H:Hp}{a:Addr}{xs:List V}{ds:List Dt}(h:H a=some (.lst xs))(h2:Dens H ds xs):Den H (.lst ds) (.ref a):=by unfold Den;exact⟨a,xs,rfl,h,h2⟩
theorem den_int{H:Hp}{i:Int}:Den H (.int i) (.int i):=by unfold Den;rfl
theorem ClAt.den{H:Hp}{v:V}{c:Cl}(h:ClAt H v c):Den H (cD c) v:=by
 obtain⟨r,p,k,rfl,h1,h2,h3⟩:=h
 exact den_tup h1 (dens1 (den2 h2) (dens1 (den_tup h3 (ints_dens _)) (dens1 den_int dens0)))
theorem ClsAt.dens{H:Hp}:∀{cs:List Cl}{xs:List V},ClsAt H xs cs→Dens H (cs.map cD) xs
 | [],xs,h=>by
  have:xs=[]:=List.length_eq_zero_iff.mp h.1
  subst this
  exact dens0
 | c::cs,xs,h=>by
  obtain⟨v,e,hv⟩:=h.2 0 c rfl
  cases xs with
  | nil=>cases e
  | cons x xs =>
   cases e
   exact dens1 hv.den (ClsAt.dens (cs:=cs) ⟨by simpa using h.1,fun i c' hc=>by
    obtain⟨w,e,hw⟩:=h.2 (i+1) c' (by simpa using hc)
    exact⟨w,by simpa using e,hw⟩⟩)
theorem cmp_tup{k:Nat}{ds:List Dt}(h:∀ d∈ds,Cmp k d d):Cmp (k+1) (.tup ds) (.tup ds):=by
 unfold Cmp
 intro j d e h1 h2
 rw[h1] at h2
 cases h2
 exact h d (List.mem_of_getElem? h1)
theorem cmp_lst{k:Nat}{ds:List Dt}(h:∀ d∈ds,Cmp k d d):Cmp (k+1) (.lst ds) (.lst ds):=by
 unfold Cmp
 intro _ j d e h1 h2
 rw[h1] at h2
 cases h2
 exact h d (List.mem_of_getElem? h1)
theorem cmp_int{k:Nat}{i:Int}:Cmp k (.int i) (.int i):=by unfold Cmp;trivial
theorem cmp_ints{k:Nat}(hs:List Int):∀ d∈hs.map Dt.int,Cmp k d d:=fun d hd=>by
 obtain⟨x,_,rfl⟩:=List.mem_map.mp hd
 exact cmp_int
theorem cmp_cD{k:Nat}(c:Cl):Cmp (k+2) (cD c) (cD c):=cmp_tup fun d hd=>by
 simp only[List.mem_cons,List.not_mem_nil,or_false] at hd
 rcases hd with rfl | rfl | rfl
 ·exact cmp2 _ _ _ _
 ·exact cmp_tup (cmp_ints _)
 ·exact cmp_int
def lies(ts hs:List Int):Bool:=ts.all fun x=>decide (x∈hs)
def worthOf(ws hs:List Int):Int:=(hs.map fun x=>ws.getD x.toNat 0).sum
theorem inV_int(x:Int):∀ hs:List Int,inV (.int x) (hs.map V.int)=decide (x∈hs)
 | []=>rfl
 | y::hs=>by
  show (eqV (.int y) (.int x) || inV (.int x) (hs.map V.int))=_
  rw[inV_int x hs]
  show ((y == x) || decide (x∈hs))=decide (x∈y::hs)
  rw[Bool.eq_iff_iff]
  simp only[Bool.or_eq_true,beq_iff_eq,decide_eq_true_eq,List.mem_cons]
  exact⟨fun h=>h.imp Eq.symm id,fun h=>h.imp Eq.symm id⟩
theorem take_map_succ{α β:Type}(f:α→β){l:List α}{i:Nat}(h:i < l.length):(l.take (i+1)).map f=(l.take i).map f++[f l[i]]:=by
 rw[List.take_succ_eq_append_getElem h,List.map_append]
 rfl
theorem int_at{ns:List Int}{i:Nat}{y:V}(h:(ns.map V.int)[i]?=some y):∃ hi:i < ns.length,y=.int ns[i]:=by
 rw[List.getElem?_map] at h
 cases e:ns[i]? with
 | none=>rw[e] at h;cases h
 | some k =>
  rw[e] at h
  obtain⟨hi,e2⟩:=List.getElem?_eq_some_iff.mp e
  exact⟨hi,by rw[e2];exact (Option.some.inj h).symm⟩
theorem atI_ints{ws:List Int}{x:Int}(h0:0≤x)(h1:x < ws.length):atI (ws.map V.int) x=some (.int (ws.getD x.toNat 0)):=by
 have h2:x.toNat < ws.length:=by omega
 have e:x=((x.toNat:Nat):Int):=by omega
 rw[e]
 refine atI_nat ?_
 rw[List.getElem?_map,Int.toNat_natCast,List.getD_eq_getElem?_getD]
 simp[h2]
def HeapsAt(H:Hp)(xs:List V)(m:Int):Prop:=∀ v∈xs,∃(t:Addr)(hs:List Int),v=.ref t∧H t=some (.tup (hs.map V.int))∧(hs.length:Int)≤m∧∀ x∈hs,0≤x∧x < m
theorem gcd_step{g l:Int}(hl:0 < l):Int.gcd l (g % l)=Int.gcd g l:=by
 rw[Int.gcd_comm g l]
 have e:g=g % l+l*(g / l):=(Int.emod_add_mul_ediv g l).symm
 conv=>rhs;rw[e]
 rw[Int.gcd_add_mul_left_right]
theorem gcd_pos{n u:Int}(hu:0 < u):0 < (Int.gcd n u:Int):=by
 have:0 < Int.gcd n u:=Int.gcd_pos_of_ne_zero_right n (by omega)
 omega
theorem natAbs_div_le(a b:Int):(a / b).natAbs≤a.natAbs:=by
 by_cases h:0≤b
 ·have:=PySem.natAbs_fdiv_le a b
  rwa [Int.fdiv_eq_ediv_of_nonneg a h] at this
 ·have e:a / b=-(a / -b):=by rw[Int.ediv_neg,Int.neg_neg]
  rw[e,Int.natAbs_neg]
  have:=PySem.natAbs_fdiv_le a (-b)
  rwa [Int.fdiv_eq_ediv_of_nonneg a (by omega)] at this
theorem low_red(n:Int){u:Int}(hu:0 < u):1≤u / (Int.gcd n u:Int)∧Int.gcd (n / (Int.gcd n u:Int)) (u / (Int.gcd n u:Int))=1∧n / (Int.gcd n u:Int)*u=n*(u / (Int.gcd n u:Int))∧0 < u / (Int.gcd n u:Int):=by
 have hg:=gcd_pos (n:=n) hu
 have d1:(Int.gcd n u:Int)∣n:=Int.gcd_dvd_left n u
 have d2:(Int.gcd n u:Int)∣u:=Int.gcd_dvd_right n u
 have e1:=Int.ediv_mul_cancel d1
 have e2:=Int.ediv_mul_cancel d2
 have p:0 < u / (Int.gcd n u:Int):=by
  by_cases h:0 < u / (Int.gcd n u:Int)
  ·exact h
  ·have:u / (Int.gcd n u:Int)*(Int.gcd n u:Int)≤0:=Int.mul_nonpos_of_nonpos_of_nonneg (by omega) (by omega)
   omega
 refine⟨p,Int.gcd_ediv_gcd_ediv_gcd (by omega),?_,p⟩
 generalize n / (Int.gcd n u:Int)=a at e1
 generalize u / (Int.gcd n u:Int)=b at e2
 generalize (Int.gcd n u:Int)=g at e1 e2
 rw[← e1,← e2]
 rw[Int.mul_comm b g,Int.mul_assoc]
theorem low_eq{a b n u:Int}(hb:0 < b)(hu:0 < u)(hc:Int.gcd n u=1)(h:a*u=n*b):lowN a b=n∧lowU a b=u:=by
 have hg:=gcd_pos (n:=a) hb
 have d1:(Int.gcd a b:Int)∣a:=Int.gcd_dvd_left a b
 have d2:(Int.gcd a b:Int)∣b:=Int.gcd_dvd_right a b
 have e1:=Int.ediv_mul_cancel d1
 have e2:=Int.ediv_mul_cancel d2
 have hc2:Int.gcd (a / (Int.gcd a b:Int)) (b / (Int.gcd a b:Int))=1:=Int.gcd_ediv_gcd_ediv_gcd (by omega)
 show a / (Int.gcd a b:Int)=n∧b / (Int.gcd a b:Int)=u
 generalize a / (Int.gcd a b:Int)=A at e1 hc2 ⊢
 generalize b / (Int.gcd a b:Int)=B at e2 hc2 ⊢
 generalize (Int.gcd a b:Int)=g at e1 e2 hg
 have k:A*u=n*B:=by
  have:g*(A*u)=g*(n*B):=by
   rw[← e1,← e2] at h
   rw[Int.mul_left_comm g A u,Int.mul_left_comm g n B,← Int.mul_assoc,← Int.mul_assoc]
   rw[Int.mul_assoc A g u,Int.mul_comm B g] at h
   rw[Int.mul_assoc A g u,Int.mul_assoc n g B]
   exact h
  exact Int.eq_of_mul_eq_mul_left (by omega) this
 have hB:0 < B:=by
  by_cases q:0 < B
  ·exact q
  ·have:B*g≤0:=Int.mul_nonpos_of_nonpos_of_nonneg (by omega) (by omega)
   omega
 have c1:Nat.Coprime u.natAbs n.natAbs:=by
  rw[Int.gcd_eq_natAbs_gcd_natAbs] at hc
  exact Nat.Coprime.symm hc
 have c2:Nat.Coprime B.natAbs A.natAbs:=by
  rw[Int.gcd_eq_natAbs_gcd_natAbs] at hc2
  exact Nat.Coprime.symm hc2
 have v1:u.natAbs∣B.natAbs:=c1.dvd_of_dvd_mul_left (by
  rw[← Int.natAbs_mul,Int.natAbs_dvd_natAbs,← k]
  exact Int.dvd_mul_left A u)
 have v2:B.natAbs∣u.natAbs:=c2.dvd_of_dvd_mul_left (by
  rw[← Int.natAbs_mul,Int.natAbs_dvd_natAbs,k]
  exact Int.dvd_mul_left n B)
 have e:u=B:=by
  have:=Nat.dvd_antisymm v1 v2
  omega
 subst e
 exact⟨Int.eq_of_mul_eq_mul_right (by omega) k,rfl⟩
theorem mul_pos'{a b:Int}(ha:0 < a)(hb:0 < b):0 < a*b:=Int.mul_pos ha hb
theorem gcdZ{k:Nat}(n:Int){u:Int}(hu:0 < u)(hz:Sz k u):Sz k (Int.gcd n u:Int):=hz.le (by have:=Int.gcd_le_natAbs_right n (b:=u) (by omega);omega)
theorem fold_red:∀ (l:List (Int×Int)) (s:Int×Int),0 < s.2→Int.gcd s.1 s.2=1→(∀ p∈l,0 < p.2)→0 < (l.foldl addP s).2∧Int.gcd (l.foldl addP s).1 (l.foldl addP s).2=1
 | [],s,h1,h2,_=>⟨h1,h2⟩
 | p::l,s,h1,h2,h3=>by
  have hp:=mul_pos' h1 (h3 p List.mem_cons_self)
  have hr:=low_red (s.1*p.2+p.1*s.2) hp
  exact fold_red l (addP s p) hr.1 hr.2.1 fun q hq=>h3 q (List.mem_cons_of_mem _ hq)
theorem undP_succ{l:List (Int×Int)}{i:Nat}(h:i < l.length):undP (l.take (i+1))=und1 (undP (l.take i)) l[i]:=by
 unfold undP
 rw[List.take_succ_eq_append_getElem h,List.foldl_append]
 rfl
theorem und1_ok{r:Int}{p:Int×Int}(hr:0 < r)(hu:0 < p.2):0 < und1 r p∧r∣und1 r p∧p.2∣und1 r p:=by
 have hg:=gcd_pos (n:=r) hu
 have e1:=Int.ediv_mul_cancel (Int.gcd_dvd_left r p.2)
 have e2:=Int.ediv_mul_cancel (Int.gcd_dvd_right r p.2)
 have p1:0 < r / (Int.gcd r p.2:Int):=by
  by_cases h:0 < r / (Int.gcd r p.2:Int)
  ·exact h
  ·have:r / (Int.gcd r p.2:Int)*(Int.gcd r p.2:Int)≤0:=Int.mul_nonpos_of_nonpos_of_nonneg (by omega) (by omega)
   omega
 refine⟨Int.mul_pos p1 hu,⟨p.2 / (Int.gcd r p.2:Int),?_⟩,Int.dvd_mul_left _ _⟩
 show r / (Int.gcd r p.2:Int)*p.2=r*(p.2 / (Int.gcd r p.2:Int))
 generalize r / (Int.gcd r p.2:Int)=A at e1 ⊢
 generalize p.2 / (Int.gcd r p.2:Int)=C at e2 ⊢
 generalize (Int.gcd r p.2:Int)=g at e1 e2
 grind
theorem und_fold:∀ (l:List (Int×Int)) (r:Int),0 < r→(∀ p∈l,0 < p.2)→0 < l.foldl und1 r∧r∣l.foldl und1 r∧∀ p∈l,p.2∣l.foldl und1 r
 | [],r,h,_=>⟨h,Int.dvd_refl r,fun _ z=>nomatch z⟩
 | p::l,r,h,hp=>by
  obtain⟨a,b,c⟩:=und1_ok h (hp p List.mem_cons_self)
  obtain⟨x,y,z⟩:=und_fold l (und1 r p) a fun q hq=>hp q (List.mem_cons_of_mem _ hq)
  exact⟨x,Int.dvd_trans b y,fun q hq=>(List.mem_cons.mp hq).elim (fun e=>by rw[e];exact Int.dvd_trans c y) (z q)⟩
theorem fold_val{U:Int}(hU:0 < U):∀ (l:List (Int×Int)) (s:Int×Int),0 < s.2→(∀ p∈l,0 < p.2∧p.2∣U)→∀ c,s.1*U=c*s.2→(l.foldl addP s).1*U=(c+(numsP U l).sum)*(l.foldl addP s).2
 | [],s,_,_,c,h=>by
  show s.1*U=(c+0)*s.2
  rw[Int.add_zero]
  exact h
 | p::l,s,hs,hp,c,h=>by
  obtain⟨hu,hd⟩:=hp p List.mem_cons_self
  have hb:0 < s.2*p.2:=Int.mul_pos hs hu
  have e1:=Int.ediv_mul_cancel hd
  have x1:lowN (s.1*p.2+p.1*s.2) (s.2*p.2)*(s.2*p.2)=(s.1*p.2+p.1*s.2)*lowU (s.1*p.2+p.1*s.2) (s.2*p.2):=(low_red _ hb).2.2.1
  have hpos:0 < lowU (s.1*p.2+p.1*s.2) (s.2*p.2):=(low_red _ hb).1
  have key:(addP s p).1*U=(c+p.1*(U / p.2))*(addP s p).2:=by
   show lowN (s.1*p.2+p.1*s.2) (s.2*p.2)*U=(c+p.1*(U / p.2))*lowU (s.1*p.2+p.1*s.2) (s.2*p.2)
   generalize lowN (s.1*p.2+p.1*s.2) (s.2*p.2)=A at x1 ⊢
   generalize lowU (s.1*p.2+p.1*s.2) (s.2*p.2)=C at x1 ⊢
   generalize U / p.2=k at e1 ⊢
   refine Int.eq_of_mul_eq_mul_right (a:=s.2*p.2) (by omega) ?_
   generalize s.1=s1 at *
   generalize s.2=s2 at *
   generalize p.1=p1 at *
   generalize p.2=p2 at *
   grind
  have r:=fold_val hU l (addP s p) hpos (fun q hq=>hp q (List.mem_cons_of_mem _ hq)) _ key
  have e:(numsP U (p::l)).sum=p.1*(U / p.2)+(numsP U l).sum:=rfl
  rw[e,← Int.add_assoc]
  exact r
theorem total_eq{ps:List (Int×Int)}(h:∀ p∈ps,0 < p.2):lowN (numsP (undP ps) ps).sum (undP ps)=(sumP ps).1∧lowU (numsP (undP ps) ps).sum (undP ps)=(sumP ps).2:=by
 obtain⟨a,_,c⟩:=und_fold ps 1 (by decide) h
 obtain⟨d1,d2⟩:=fold_red ps (0,1) (by decide) (by decide) h
 have v:=fold_val (U:=undP ps) a ps (0,1) (by decide) (fun p hp=>⟨h p hp,c p hp⟩) 0 (by simp)
 rw[Int.zero_add] at v
 exact low_eq a d1 d2 v.symm
def hp(m:Int):Int→List Int→Bool
 | _,[]=>true
 | l,x::r=>if x≤l∨m≤x then false else hp m x r
def OrdAt(H:Hp)(xs:List V)(n:Nat):Prop:=∃ ts:Nat→Addr,xs=(ordL n).map (fun i=>V.ref (ts i))∧∀ i,i < n→H (ts i)=some (.tup ((Srt.sub i).map V.int))
def oD(n:Nat):List Dt:=(ordL n).map fun i=>.tup ((Srt.sub i).map Dt.int)
theorem seq_cut{ta tb:L2.TS}{D:Ends}{σ:St}{H:Hp}(W:St→Hp→Prop)(h2:∀ σ' H',W σ' H'→tb D σ' H')(h1:∀ tb':L2.TS,(∀ σ' H',W σ' H'→tb' D σ' H')→tSeq ta tb' D σ H):tSeq ta tb D σ H:=h1 tb h2
theorem seq_cut2{t1 t2 tb:L2.TS}{D:Ends}{σ:St}{H:Hp}(W:St→Hp→Prop)(h2:∀ σ' H',W σ' H'→tb D σ' H')(h1:∀ tb':L2.TS,(∀ σ' H',W σ' H'→tb' D σ' H')→(tSeq t1 (tSeq t2 tb')) D σ H):(tSeq t1 (tSeq t2 tb)) D σ H:=h1 tb h2
theorem seq_cut6{t1 t2 t3 t4 t5 t6 tb:L2.TS}{D:Ends}{σ:St}{H:Hp}(W:St→Hp→Prop)(h2:∀ σ' H',W σ' H'→tb D σ' H')(h1:∀ tb':L2.TS,(∀ σ' H',W σ' H'→tb' D σ' H')→(tSeq t1 (tSeq t2 (tSeq t3 (tSeq t4 (tSeq t5 (tSeq t6 tb')))))) D σ H):(tSeq t1 (tSeq t2 (tSeq t3 (tSeq t4 (tSeq t5 (tSeq t6 tb)))))) D σ H:=h1 tb h2
theorem sum_sz{k:Nat}:∀(l:List Int),(∀ x∈l,Sz k x)→Sz (k+l.length) l.sum
 | [],_=>by
  refine Sz.of ?_
  show (0:Int).natAbs < 2 ^ (k+0)
  exact Nat.two_pow_pos _
 | x::l,h=>by
  have h1:=sum_sz l fun y hy=>h y (List.mem_cons_of_mem _ hy)
  have h2:=h x List.mem_cons_self
  have e:(x::l).sum=x+l.sum:=rfl
  rw[e]
  exact Sz.mono (Sz.add (k:=k+l.length) (h2.mono (by omega)) h1) (by simp only[List.length_cons];omega)
def OptH(H:Hp)(v:V):Option Nat→Prop
 | none=>v=.non
 | some i=>∃ t,v=.ref t∧H t=some (.tup ((Srt.sub i).map V.int))
theorem for_listN{K:PySem.W.Frag}{a:Addr}{xs:List V}{g:TG}{tb:L2.TS}{D:Ends}{σ:St}{H:Hp}(Pv:Nat→St→Hp→Prop)(h0:Pv 0 σ H)(hl:∀ i σ H,i≤xs.length→Pv i σ H→SqL K H a xs)
  (hs:∀ i x σ H (N B:St→Hp→Prop),xs[i]?=some x→Pv i σ H→(∀ σ' H',Pv (i+1) σ' H'→N σ' H')→(∀ σ' H',D.nx σ' H'→B σ' H')→g x σ H fun σ2 H2=>tb { nx:=N,rt:=D.rt,bk:=B,ct:=N } σ2 H2) (hd:∀ σ H,Pv xs.length σ H→D.nx σ H) :
  ∃ W:Nat→Nat→St→Hp→Prop,(∃ m,W 0 m σ H)∧∀ i m σ H,W i m σ H →
   ((Itl K a).stop i H∧D.nx σ H)∨((Itl K a).go i H∧∃ N:St→Hp→Prop,(∀ σ' H',N σ' H'→∃ m',m' < m∧W (i+1) m' σ' H')∧∀ x H',(Itl K a).yld i H x H'→g x σ H' fun σ2 H2=>tb { D with nx:=N,ct:=N,bk:=D.nx } σ2 H2) :=
 for_list Pv h0 hl (fun i x σ H hx hp=>hs i x σ H (Pv (i+1)) D.nx hx hp (fun _ _ h=>h) fun _ _ h=>h) hd
theorem for_tupN{K:PySem.W.Frag}{a:Addr}{xs:List V}{g:TG}{tb:L2.TS}{D:Ends}{σ:St}{H:Hp}(Pv:Nat→St→Hp→Prop)(h0:Pv 0 σ H)(hl:∀ i σ H,i≤xs.length→Pv i σ H→SqT K H a xs)
  (hs:∀ i x σ H (N B:St→Hp→Prop),xs[i]?=some x→Pv i σ H→(∀ σ' H',Pv (i+1) σ' H'→N σ' H')→(∀ σ' H',D.nx σ' H'→B σ' H')→g x σ H fun σ2 H2=>tb { nx:=N,rt:=D.rt,bk:=B,ct:=N } σ2 H2) (hd:∀ σ H,Pv xs.length σ H→D.nx σ H) :
  ∃ W:Nat→Nat→St→Hp→Prop,(∃ m,W 0 m σ H)∧∀ i m σ H,W i m σ H →
   ((Itt K a).stop i H∧D.nx σ H)∨((Itt K a).go i H∧∃ N:St→Hp→Prop,(∀ σ' H',N σ' H'→∃ m',m' < m∧W (i+1) m' σ' H')∧∀ x H',(Itt K a).yld i H x H'→g x σ H' fun σ2 H2=>tb { D with nx:=N,ct:=N,bk:=D.nx } σ2 H2) :=
 for_tup Pv h0 hl (fun i x σ H hx hp=>hs i x σ H (Pv (i+1)) D.nx hx hp (fun _ _ h=>h) fun _ _ h=>h) hd
theorem for_rangeN{lo:Int}{n:Nat}{g:TG}{tb:L2.TS}{D:Ends}{σ:St}{H:Hp}(Pv:Nat→St→Hp→Prop)(h0:Pv 0 σ H)
  (hs:∀ i σ H (N B:St→Hp→Prop),i < n→Pv i σ H→(∀ σ' H',Pv (i+1) σ' H'→N σ' H')→(∀ σ' H',D.nx σ' H'→B σ' H')→g (.int (lo+i)) σ H fun σ2 H2=>tb { nx:=N,rt:=D.rt,bk:=B,ct:=N } σ2 H2) (hd:∀ σ H,Pv n σ H→D.nx σ H) :
  ∃ W:Nat→Nat→St→Hp→Prop,(∃ m,W 0 m σ H)∧∀ i m σ H,W i m σ H →
   ((Itr lo n).stop i H∧D.nx σ H)∨((Itr lo n).go i H∧∃ N:St→Hp→Prop,(∀ σ' H',N σ' H'→∃ m',m' < m∧W (i+1) m' σ' H')∧∀ x H',(Itr lo n).yld i H x H'→g x σ H' fun σ2 H2=>tb { D with nx:=N,ct:=N,bk:=D.nx } σ2 H2) :=
 for_range Pv h0 (fun i σ H hi hp=>hs i σ H (Pv (i+1)) D.nx hi hp (fun _ _ h=>h) fun _ _ h=>h) hd
theorem if_cut{c:TT}{t u:L2.TS}{D:Ends}{σ:St}{H:Hp}(W:Hp→Prop)(hu:∀ H',W H'→u D σ H')(h:∀ u':L2.TS,(∀ H',W H'→u' D σ H')→tIfS c t u' D σ H):tIfS c t u D σ H:=h u hu
theorem qe_bmK{X:Cx}{K:PySem.W.Frag}(hK:X.K=K){o e:Expr}{es:List Expr}{to:TE}{t:TA}{name:Str}{apos cpos:Pos}{T id:String}{r:V→List V→Hp→VK→Prop}(pa:PlainAttrs T)(slot:PySem.Slot T name id)(hty:typeOf (.builtin id)=pure (.type "method_descriptor"))(hm:MtR X id r)(ho:QE X o to)(ha:QA X (e::es) t)
  (hbase:attributeBase o name X.env (eval o X.env)=eval o X.env:=by rfl)
  (hfew:((backTo cpos (starEach (e::es) X.env)).all (fun x=>!x.1) && (backToKw cpos (keywordEach [] X.env)).all (fun x=>x.1.isSome)
   && decide ((e::es).length+([]:List Keyword).length+(if ([]:List Keyword).isEmpty then 0 else 1) < 30))=true:=by rfl)
  (hline:(apos.endLine == cpos.line)=true:=by rfl) (hs:starEach (e::es) X.env=(false,eval e X.env)::starEach es X.env:=by rfl) (hplain:(backTo cpos (starEach es X.env)).any (·.1)=false:=by rfl) :
  QE X (.Call (.Attribute o name apos) (e::es) [] cpos) (tBM K T r to t):=hK▸qe_bm pa slot hty hm ho ha hbase hfew hline hs hplain
theorem qi_enumK{X:Cx}{K:PySem.W.Frag}(hK:X.K=K){a:Expr}{t:TA}{elts:List Expr}{k:Nat}{tp p pos:Pos}(hg:Gl X "enumerate")(hm:X.mg "enumerate" = none)(ha:QA X [a] t)(hs:starEach [a] X.env=[(false,eval a X.env)]:=by rfl) :
  QI X (.Tuple elts k tp) (.Call (.Name "enumerate" p) [a] [] pos) (iEnum K t):=hK▸qi_enum hg hm ha hs
end Toy
namespace L2
open PySem
section
variable {σ:St}{H:Hp}{Q:VK}{D:Ends}{te ta tb:TE}{t u:TS}{c c':TT}{tr:TA}{QT:Bool→Hp→Prop}{QA:List V→Hp→Prop}{x y:V}{xs:List V}{v:V}{i j:Int}{p:Addr}
theorem i_tSeq(h:t { D with nx:=u D } σ H):tSeq t u D σ H:=h
theorem i_tIfS(h:c σ H fun b H1=>Brk b (t D σ H1) (u D σ H1) .mk .mk):tIfS c t u D σ H:=h
theorem i_tNext(h:D.nx σ H):tNext D σ H:=h
theorem i_tDrop(h:te σ H fun _ H1=>D.nx σ H1):tDrop te D σ H:=h
theorem i_tRet(h:te σ H D.rt):tRet te D σ H:=h
theorem i_tAsg{g:TG}(h:te σ H fun x H1=>g x σ H1 D.nx):tAsg te g D σ H:=h
theorem i_gName{k:Nat}{R:St→Hp→Prop}(h:R (σ.set k (some v)) H):gName k v σ H R:=h
theorem i_gSub{to ti:TE}{ts:TSet}{R:St→Hp→Prop}(h:to σ H fun o H1=>ti σ H1 fun i H2=>ts o i v H2 fun H3=>R σ H3):gSub to ti ts v σ H R:=h
theorem i_tAugS{to ti:TE}{tg:V→V→Hp→VK→Prop}{tp:TIp}{ts:TSet}(h:to σ H fun o H1=>ti σ H1 fun i H2=>tg o i H2 fun x H3=>te σ H3 fun y H4=>tp x y H4 fun z H5=>ts o i z H5 fun H6=>D.nx σ H6):tAugS to ti te tg tp ts D σ H:=h
theorem i_tVar{k:Nat}(e:σ[k]?=some (some v))(h:Q v H):tVar k σ H Q:=⟨v,e,h⟩
theorem i_tC(h:Q v H):tC v σ H Q:=h
theorem i_tB(h:te σ H fun x H1=>∃ c,x=.bl c∧QT c H1):tB te σ H QT:=h
theorem i_tTest(h:te σ H fun x H1=>∃ c,x=.bl c∧QT c H1):tTest te σ H QT:=h
theorem i_exB{b:Bool}{P:Bool→Prop}(h:P b):∃ c,V.bl b=V.bl c∧P c:=⟨b,rfl,h⟩
theorem i_tOp{r:R2}(h:ta σ H fun x H1=>tb σ H1 fun y H2=>r x y H2 Q):tOp r ta tb σ H Q:=h
theorem i_tUn{r:V→Hp→VK→Prop}(h:ta σ H fun x H1=>r x H1 Q):tUn r ta σ H Q:=h
theorem i_tCB{r:List V→Hp→VK→Prop}(h:tr σ H fun vs H1=>r vs H1 Q):tCB r tr σ H Q:=h
theorem i_tNil(h:QA [] H):tNil σ H QA:=h
theorem i_tCons(h:ta σ H fun x H1=>tr σ H1 fun xs H2=>QA (x::xs) H2):tCons ta tr σ H QA:=h
theorem i_tNot(h:c σ H fun b H1=>QT (!b) H1):tNot c σ H QT:=h
theorem i_tAnd(h:c σ H fun b H1=>Brk b (c' σ H1 QT) (QT false H1) .mk .mk):tAnd c c' σ H QT:=h
theorem i_tOr(h:c σ H fun b H1=>Brk b (QT true H1) (c' σ H1 QT) .mk .mk):tOr c c' σ H QT:=h
theorem i_tD{sp:Sp}{E:XK}(h:tr σ H fun vs H1=>sp vs H1 Q E):tD sp E tr σ H Q:=h
theorem i_rI0{g:Int→Int→V}(h:Q (g i j) H):rI0 g (.int i) (.int j) H Q:=⟨i,j,rfl,rfl,h⟩
theorem i_rI{C:Int→Int→Prop}{g:Int→Int→V}(hc:C i j)(h:Q (g i j) H):rI C g (.int i) (.int j) H Q:=⟨i,j,rfl,rfl,hc,h⟩
theorem i_rU{g:Int→V}(h:Q (g i) H):rU g (.int i) H Q:=⟨i,rfl,h⟩
theorem i_ixL(hp:H p=some (.lst xs))(e:atI xs i=some v)(h:Q v H):rIxF (.ref p) (.int i) H Q:=⟨p,xs,i,v,rfl,rfl,seqAt_lst hp,e,h⟩
theorem i_ixT(hp:H p=some (.tup xs))(e:atI xs i=some v)(h:Q v H):rIxF (.ref p) (.int i) H Q:=⟨p,xs,i,v,rfl,rfl,seqAt_tup hp,e,h⟩
theorem i_lenL(hp:H p=some (.lst xs))(h:Q (.int xs.length) H):rLenF [.ref p] H Q:=⟨p,xs,rfl,seqAt_lst hp,h⟩
theorem i_getL(hp:H p=some (.lst xs))(h0:0≤i)(e:atI xs i=some v)(h:Q v H):rGetF (.ref p) (.int i) H Q:=⟨p,xs,i,v,rfl,rfl,hp,h0,e,h⟩
theorem i_ipI{f:Int→Int→Int}(h:Q (.int (f i j)) H):ipI f (.int i) (.int j) H Q:=⟨i,j,rfl,rfl,h⟩
end
section
variable {σ:St}{H:Hp}{Q:VK}{D:Ends}{tr:TA}{xs:List V}{A B:Prop}{k:Tg A}{l:Tg B}{q:Prop}[Decidable q]
theorem i_brkT(h:A):Brk true A B k l:=brk (fun _=>h) (fun z=>by cases z)
theorem i_brkF(h:B):Brk false A B k l:=brk (fun z=>by cases z) (fun _=>h)
theorem i_brkP(hq:q)(h:A):Brk (decide q) A B k l:=brkD (fun _=>h) (fun z=>absurd hq z)
theorem i_brkN(hq:¬ q)(h:B):Brk (decide q) A B k l:=brkD (fun z=>absurd z hq) (fun _=>h)
end
end L2
namespace Toy
open PySem L2
open PySem.Builtin.Int (intBits)
def num(U:Int)(p:Int×Int):Int:=p.1*(U / p.2)
structure Ok(U:Int)(p:Int×Int):Prop where
 pos:0 < p.2
 dvd:p.2∣U
 cop:Int.gcd p.1 p.2=1
def low(n u:Int):Int×Int:=(lowN n u,lowU n u)
theorem low_pos{n u:Int}(hu:0 < u):0 < (low n u).2:=(low_red n hu).1
theorem low_cop{n u:Int}(hu:0 < u):Int.gcd (low n u).1 (low n u).2=1:=(low_red n hu).2.1
theorem low_x{n u:Int}(hu:0 < u):(low n u).1*u=n*(low n u).2:=(low_red n hu).2.2.1
theorem low_u{n u:Int}:(low n u).2∣u:=⟨(Int.gcd n u:Int),(Int.ediv_mul_cancel (Int.gcd_dvd_right n u)).symm⟩
theorem low_of{a b:Int}{p:Int×Int}(hb:0 < b)(hp:0 < p.2)(hc:Int.gcd p.1 p.2=1)(h:a*p.2=p.1*b):low a b=p:=by
 obtain⟨e1,e2⟩:=low_eq hb hp hc h
 exact Prod.ext e1 e2
theorem low_same{a b c d:Int}(hb:0 < b)(hd:0 < d)(h:a*d=c*b):low a b=low c d:=by
 refine low_of hb (low_pos hd) (low_cop hd) ?_
 have x:=low_x (n:=c) hd
 generalize low c d=q at x ⊢
 refine Int.eq_of_mul_eq_mul_right (a:=d) (by omega) ?_
 grind
theorem low_ok{n U:Int}(hU:0 < U):Ok U (low n U):=⟨low_pos hU,low_u,low_cop hU⟩
theorem num_mul{U:Int}{p:Int×Int}(h:Ok U p):num U p*p.2=p.1*U:=by
 unfold num
 rw[Int.mul_assoc,Int.ediv_mul_cancel h.dvd]
theorem num_of{U N:Int}{p:Int×Int}(h:Ok U p)(e:N*p.2=p.1*U):num U p=N:=by
 have:=num_mul h
 have hp:=h.pos
 refine Int.eq_of_mul_eq_mul_right (a:=p.2) (by omega) ?_
 omega
theorem num_low{n U:Int}(hU:0 < U):num U (low n U)=n:=num_of (low_ok hU) (low_x hU).symm
theorem Ok.low{n u U:Int}(hu:0 < u)(h:u∣U):Ok U (Toy.low n u):=⟨low_pos hu,Int.dvd_trans low_u h,low_cop hu⟩
theorem addP_low(a b:Int×Int):addP a b=low (a.1*b.2+b.1*a.2) (a.2*b.2):=rfl
theorem add_ok{U:Int}(hU:0 < U){a b:Int×Int}(ha:Ok U a)(hb:Ok U b):addP a b=low (num U a+num U b) U:=by
 rw[addP_low]
 refine low_same (Int.mul_pos ha.pos hb.pos) hU ?_
 have:=num_mul ha
 have:=num_mul hb
 grind
theorem zero_ok{U:Int}:Ok U (0,1):=⟨by decide,Int.one_dvd U,by decide⟩
theorem sum_fold{U:Int}(hU:0 < U):∀ (l:List (Int×Int)) (s:Int×Int),Ok U s→(∀ p∈l,Ok U p)→Ok U (l.foldl addP s)∧num U (l.foldl addP s)=num U s+(l.map (num U)).sum
 | [],s,h,_=>⟨h,by show _=num U s+0;rw[Int.add_zero];rfl⟩
 | p::l,s,h,hl=>by
  have hp:=hl p List.mem_cons_self
  have e:=add_ok hU h hp
  have h1:Ok U (addP s p):=by rw[e];exact low_ok hU
  obtain⟨a,b⟩:=sum_fold hU l (addP s p) h1 fun q hq=>hl q (List.mem_cons_of_mem _ hq)
  refine⟨a,?_⟩
  have e2:num U (addP s p)=num U s+num U p:=by rw[e,num_low hU]
  show num U (l.foldl addP (addP s p))=_
  rw[b,e2]
  show _=num U s+(num U p+(l.map (num U)).sum)
  rw[Int.add_assoc]
theorem sum_ok{U:Int}(hU:0 < U){l:List (Int×Int)}(hl:∀ p∈l,Ok U p):Ok U (sumP l)∧num U (sumP l)=(l.map (num U)).sum:=by
 obtain⟨a,b⟩:=sum_fold hU l (0,1) zero_ok hl
 refine⟨a,b.trans ?_⟩
 have:num U (0,1)=0:=by unfold num;exact Int.zero_mul _
 rw[this,Int.zero_add]
theorem lt_num{U:Int}(hU:0 < U){p q:Int×Int}(hp:Ok U p)(hq:Ok U q):p.1*q.2 < q.1*p.2↔num U p < num U q:=by
 have e1:=num_mul hp
 have e2:=num_mul hq
 have p1:=hp.pos
 have p2:=hq.pos
 have pp:=Int.mul_pos p1 p2
 generalize num U p=A at e1 ⊢
 generalize num U q=B at e2 ⊢
 have k1:p.1*q.2*U=A*(p.2*q.2):=by grind
 have k2:q.1*p.2*U=B*(p.2*q.2):=by grind
 constructor
 ·intro h
  have:=Int.mul_lt_mul_of_pos_right h hU
  rw[k1,k2] at this
  exact Int.lt_of_mul_lt_mul_right this (by omega)
 ·intro h
  have:=Int.mul_lt_mul_of_pos_right h pp
  rw[← k1,← k2] at this
  exact Int.lt_of_mul_lt_mul_right this (by omega)
structure UOk(U:Int):Prop where
 pos:0 < U
 sz:Sz 4000 U
structure PtOk(U:Int)(k:Nat)(p:Int×Int):Prop extends Ok U p where
 sz:Sz k (num U p)
theorem le_of_dvd'{a b:Int}(h:a∣b)(hb:0 < b):a.natAbs≤b.natAbs:=Nat.le_of_dvd (by omega) (Int.natAbs_dvd_natAbs.mpr h)
theorem Ok.usz{U:Int}{p:Int×Int}(u:UOk U)(h:Ok U p):Sz 4000 p.2:=u.sz.le (le_of_dvd' h.dvd u.pos)
theorem Ok.nle{U:Int}{p:Int×Int}(hU:0 < U)(h:Ok U p):p.1.natAbs≤(num U p).natAbs:=by
 unfold num
 rw[Int.natAbs_mul]
 have hd:0 < U / p.2:=by
  by_cases z:0 < U / p.2
  ·exact z
  ·have:=Int.ediv_mul_cancel h.dvd
   have hp:=h.pos
   have:U / p.2*p.2≤0:=Int.mul_nonpos_of_nonpos_of_nonneg (by omega) (by omega)
   omega
 exact Nat.le_mul_of_pos_right _ (by omega)
theorem PtOk.nsz{U:Int}{k:Nat}{p:Int×Int}(hU:0 < U)(h:PtOk U k p):Sz k p.1:=h.sz.le (h.toOk.nle hU)
theorem PtOk.mono{U:Int}{k j:Nat}{p:Int×Int}(h:PtOk U k p)(q:k≤j):PtOk U j p:=⟨h.toOk,h.sz.mono q⟩
theorem sum_pt{U:Int}(hU:0 < U){k:Nat}{l:List (Int×Int)}(hl:∀ p∈l,PtOk U k p):PtOk U (k+l.length) (sumP l):=by
 obtain⟨a,b⟩:=sum_ok hU fun p hp=>(hl p hp).toOk
 refine⟨a,?_⟩
 rw[b]
 refine Sz.mono (sum_sz (k:=k) _ fun x hx=>?_) (by rw[List.length_map];omega)
 obtain⟨p,hp,rfl⟩:=List.mem_map.mp hx
 exact (hl p hp).sz
def RowU(U:Int)(k:Nat)(H:Hp)(xs:List V)(ps:List (Int×Int)):Prop:=xs.length=ps.length∧∀(i:Nat) p,ps[i]?=some p→∃ r,xs[i]?=some (.ref r)∧H r=some (.tup [.int p.1,.int p.2])∧PtOk U k p
theorem RowU.ts{U:Int}{k:Nat}{H H':Hp}{xs:List V}{ps:List (Int×Int)}(h:RowU U k H xs ps)(s:TS H H'):RowU U k H' xs ps:=⟨h.1,fun i p hp=>by
 obtain⟨r,e,h1,h2⟩:=h.2 i p hp
 exact⟨r,e,s _ _ h1,h2⟩⟩
theorem RowU.mono{U:Int}{k j:Nat}{H:Hp}{xs:List V}{ps:List (Int×Int)}(h:RowU U k H xs ps)(q:k≤j):RowU U j H xs ps:=⟨h.1,fun i p hp=>by
 obtain⟨r,e,h1,h2⟩:=h.2 i p hp
 exact⟨r,e,h1,h2.mono q⟩⟩
theorem RowU.nil{U:Int}{k:Nat}{H:Hp}:RowU U k H [] []:=⟨rfl,fun i p h=>by simp at h⟩
theorem RowU.mem{U:Int}{k:Nat}{H:Hp}{xs:List V}{ps:List (Int×Int)}(h:RowU U k H xs ps):∀ p∈ps,PtOk U k p:=fun p hp=>by
 obtain⟨i,hi⟩:=List.mem_iff_getElem?.mp hp
 obtain⟨r,_,_,h1⟩:=h.2 i p hi
 exact h1
theorem RowU.snoc{U:Int}{k:Nat}{H:Hp}{xs:List V}{ps:List (Int×Int)}{r:Addr}{p:Int×Int}(h:RowU U k H xs ps)(hr:H r=some (.tup [.int p.1,.int p.2]))(hp:PtOk U k p):RowU U k H (xs++[.ref r]) (ps++[p]):=by
 refine⟨by rw[List.length_append,List.length_append,h.1];rfl,fun i q hq=>?_⟩
 by_cases hi:i < ps.length
 ·rw[List.getElem?_append_left hi] at hq
  rw[List.getElem?_append_left (by rw[h.1];exact hi)]
  exact h.2 i q hq
 ·have hl:=(List.getElem?_eq_some_iff.mp hq).1
  rw[List.length_append] at hl
  have e:i=ps.length:=by
   have:([p]:List (Int×Int)).length=1:=rfl
   omega
  subst e
  rw[List.getElem?_append_right (Nat.le_refl _),Nat.sub_self] at hq
  cases hq
  exact⟨r,by rw[List.getElem?_append_right (by rw[h.1];exact Nat.le_refl _),h.1,Nat.sub_self];rfl,hr,hp⟩
theorem RowU.set{U:Int}{k:Nat}{H:Hp}{xs:List V}{ps:List (Int×Int)}{r:Addr}{p:Int×Int}{j:Nat}(h:RowU U k H xs ps)(hr:H r=some (.tup [.int p.1,.int p.2]))(hp:PtOk U k p):RowU U k H (xs.set j (.ref r)) (ps.set j p):=by
 refine⟨by rw[List.length_set,List.length_set,h.1],fun i q hq=>?_⟩
 by_cases e:j=i
 ·subst e
  rw[List.getElem?_set] at hq
  rw[if_pos rfl] at hq
  split at hq
  ·cases hq
   refine⟨r,?_,hr,hp⟩
   rw[List.getElem?_set,if_pos rfl,if_pos (by rw[h.1];assumption)]
  ·cases hq
 ·rw[List.getElem?_set_ne e] at hq
  rw[List.getElem?_set_ne e]
  exact h.2 i q hq
theorem und1_dvd{U r:Int}{p:Int×Int}(h0:0 < r)(hr:r∣U)(hp:0 < p.2)(hd:p.2∣U):und1 r p∣U:=by
 have e:und1 r p=(Int.lcm r p.2:Int):=by
  unfold und1
  have h1:(Int.gcd r p.2:Int)*(Int.lcm r p.2:Int)=r*p.2:=by
   have:=Int.gcd_mul_lcm r p.2
   have e2:((Int.gcd r p.2*Int.lcm r p.2:Nat):Int)=((r*p.2).natAbs:Int):=by rw[this,Int.natAbs_mul]
   have p3:=Int.mul_pos h0 hp
   rw[Int.natCast_mul] at e2
   omega
  have hg:=gcd_pos (n:=r) hp
  have e1:=Int.ediv_mul_cancel (Int.gcd_dvd_left r p.2)
  refine Int.eq_of_mul_eq_mul_left (a:=(Int.gcd r p.2:Int)) (by omega) ?_
  rw[h1]
  generalize r / (Int.gcd r p.2:Int)=A at e1 ⊢
  generalize (Int.gcd r p.2:Int)=g at e1 ⊢
  rw[← e1]
  grind
 rw[e]
 exact Int.coe_lcm_dvd hr hd
theorem und_dvd{U:Int}:∀ (l:List (Int×Int)) (r:Int),0 < r→r∣U→(∀ p∈l,0 < p.2∧p.2∣U)→l.foldl und1 r∣U
 | [],r,_,h,_=>h
 | p::l,r,h0,h,hp=>by
  obtain⟨a,b⟩:=hp p List.mem_cons_self
  exact und_dvd l (und1 r p) (und1_ok h0 a).1 (und1_dvd h0 h a b) fun q hq=>hp q (List.mem_cons_of_mem _ hq)
theorem undP_ok{U:Int}{l:List (Int×Int)}(h:∀ p∈l,Ok U p):0 < undP l∧undP l∣U∧∀ p∈l,Ok (undP l) p:=by
 obtain⟨a,_,c⟩:=und_fold l 1 (by decide) fun p hp=>(h p hp).pos
 exact⟨a,und_dvd l 1 (by decide) (Int.one_dvd U) fun p hp=>⟨(h p hp).pos,(h p hp).dvd⟩,fun p hp=>⟨(h p hp).pos,c p hp,(h p hp).cop⟩⟩
structure Lvl(R D:Nat→Int)(n:Nat)(r:Int×Int):Prop where
 pos:0 < r.2
 cop:Int.gcd r.1 r.2=1
 one:r.1≤r.2
 le:∀ i,i < n→0 < D i→r.1*D i≤R i*r.2
 at':r=(1,1)∨∃ i,i < n∧0 < D i∧r.1*D i=R i*r.2
def UM:Int:=9690712164777231700912800
theorem um_ok:UOk UM:=⟨by decide,by decide⟩
theorem um_nat:∀ d,d < 61→0 < d→UM.toNat % d=0:=by decide +kernel
theorem um_dvd{u:Int}(h0:0 < u)(h1:u≤60):u∣UM:=by
 have h:=um_nat u.toNat (by omega) (by omega)
 have e:u=((u.toNat:Nat):Int):=by omega
 have e2:UM=((UM.toNat:Nat):Int):=by decide
 rw[e,e2]
 exact Int.natCast_dvd_natCast.mpr (Nat.dvd_of_mod_eq_zero h)
structure Du(U:Int)(k:Nat)(n u:Int):Prop where
 pt:PtOk U k (n,u)
 nn:0≤n
theorem div_pos_le{U u:Int}(hu:0 < u)(hU:0 < U)(h:u∣U):0 < U / u∧U / u≤U:=by
 have e:=Int.ediv_mul_cancel h
 have p:0 < U / u:=by
  by_cases z:0 < U / u
  ·exact z
  ·have:U / u*u≤0:=Int.mul_nonpos_of_nonpos_of_nonneg (by omega) (by omega)
   omega
 refine⟨p,?_⟩
 have:U / u*1≤U / u*u:=Int.mul_le_mul_of_nonneg_left (by omega) (by omega)
 omega
theorem num_low'{n u U:Int}(hu:0 < u)(hU:0 < U)(h:u∣U):num U (low n u)=n*(U / u):=by
 refine num_of (Ok.low hu h) ?_
 have x:=low_x (n:=n) hu
 have e:=Int.ediv_mul_cancel h
 generalize low n u=q at x ⊢
 generalize U / u=k at e ⊢
 rw[← e]
 refine Int.eq_of_mul_eq_mul_right (a:=u) (by omega) ?_
 grind
theorem low_nn{n u:Int}(hu:0 < u)(hn:0≤n):0≤(low n u).1:=Int.ediv_nonneg hn (by have:=gcd_pos (n:=n) hu;omega)
theorem du_of{n u:Int}(h0:0≤n)(h1:n≤1000000000)(u0:0 < u)(u1:u≤60):Du UM 115 (lowN n u) (lowU n u):=by
 have hd:=um_dvd u0 u1
 refine⟨⟨Ok.low u0 hd,?_⟩,low_nn u0 h0⟩
 have e:num UM (low n u)=n*(UM / u):=num_low' u0 um_ok.pos hd
 show Sz 115 (num UM (low n u))
 rw[e]
 have hz:Sz 84 (UM / u):=by
  have:=div_pos_le u0 um_ok.pos hd
  have:(UM / u).natAbs≤UM.natAbs:=by omega
  exact Sz.le (by decide:Sz 84 UM) this
 exact Sz.mono (Sz.mul (Sz.of (k:=30) (by omega)) hz) (by decide)
theorem zero_pt{U:Int}{k:Nat}:PtOk U k (0,1):=⟨zero_ok,by
 have:num U (0,1)=0:=by unfold num;exact Int.zero_mul _
 rw[this]
 exact Sz.of (Nat.two_pow_pos _)⟩
theorem nn_num{U:Int}{p:Int×Int}(hU:0 < U)(h:Ok U p):0≤p.1↔0≤num U p:=by
 have:=lt_num hU h (zero_ok (U:=U))
 have e:num U (0,1)=0:=by unfold num;exact Int.zero_mul _
 rw[e] at this
 simp only[Int.zero_mul,Int.mul_one] at this
 omega
theorem sum_nn:∀(l:List Int),(∀ x∈l,0≤x)→0≤l.sum
 | [],_=>Int.le_refl _
 | x::l,h=>by
  have:=sum_nn l fun y hy=>h y (List.mem_cons_of_mem _ hy)
  have:=h x List.mem_cons_self
  show 0≤x+l.sum
  omega
theorem sumP_nn{U:Int}(hU:0 < U){l:List (Int×Int)}(hl:∀ p∈l,Ok U p)(h0:∀ p∈l,0≤p.1):0≤(sumP l).1:=by
 obtain⟨a,b⟩:=sum_ok hU hl
 rw[nn_num hU a,b]
 refine sum_nn _ fun x hx=>?_
 obtain⟨p,hp,rfl⟩:=List.mem_map.mp hx
 exact (nn_num hU (hl p hp)).mp (h0 p hp)
def RowsAt(X:List Addr)(U:Int)(k:Nat)(H:Hp)(zs:List V)(rss:List (List (Int×Int))):Prop:=zs.length=rss.length∧zs.Nodup∧∀(i:Nat) r,rss[i]?=some r→∃ l xs,zs[i]?=some (.ref l)∧H l=some (.lst xs)∧RowU U k H xs r∧l∉X
theorem RowsAt.step{X:List Addr}{U:Int}{k:Nat}{H H':Hp}{zs:List V}{rss:List (List (Int×Int))}(h:RowsAt X U k H zs rss)(f:∀ l xs,V.ref l∈zs→l∉X→H l=some (.lst xs)→H' l=some (.lst xs))(s:TS H H'):RowsAt X U k H' zs rss:=⟨h.1,h.2.1,fun i r hr=>by
 obtain⟨l,xs,e,h1,h2,h3⟩:=h.2.2 i r hr
 exact⟨l,xs,e,f l xs (List.mem_of_getElem? e) h3 h1,h2.ts s,h3⟩⟩
theorem RowsAt.nil{X:List Addr}{U:Int}{k:Nat}{H:Hp}:RowsAt X U k H [] []:=⟨rfl,.nil,fun i p h=>by simp at h⟩
theorem RowsAt.fresh{X:List Addr}{U:Int}{k:Nat}{H:Hp}{zs:List V}{rss:List (List (Int×Int))}(h:RowsAt X U k H zs rss){l:Addr}(hl:H l=none):V.ref l∉zs:=fun z=>by
 obtain⟨i,hi,e⟩:=List.getElem_of_mem z
 have hi2:i < rss.length:=by rw[← h.1];exact hi
 obtain⟨l',xs,e',h1,_⟩:=h.2.2 i rss[i] (List.getElem?_eq_getElem hi2)
 rw[List.getElem?_eq_getElem hi,e] at e'
 cases e'
 rw[hl] at h1
 cases h1
theorem RowsAt.snoc{X:List Addr}{U:Int}{k:Nat}{H:Hp}{zs:List V}{rss:List (List (Int×Int))}{l:Addr}{xs:List V}{r:List (Int×Int)}(h:RowsAt X U k H zs rss)(hn:V.ref l∉zs)(h1:H l=some (.lst xs))(h2:RowU U k H xs r)(h3:l∉X):RowsAt X U k H (zs++[.ref l]) (rss++[r]):=by
 refine⟨by rw[List.length_append,List.length_append,h.1];rfl,?_,fun i q hq=>?_⟩
 ·rw[List.nodup_append]
  exact⟨h.2.1,List.nodup_cons.mpr ⟨by simp,.nil⟩,fun a ha b hb e=>by rw[List.mem_singleton.mp hb] at e;rw[e] at ha;exact hn ha⟩
 by_cases hi:i < rss.length
 ·rw[List.getElem?_append_left hi] at hq
  rw[List.getElem?_append_left (by rw[h.1];exact hi)]
  exact h.2.2 i q hq
 ·have hl:=(List.getElem?_eq_some_iff.mp hq).1
  rw[List.length_append] at hl
  have e:i=rss.length:=by
   have:([r]:List (List (Int×Int))).length=1:=rfl
   omega
  subst e
  rw[List.getElem?_append_right (Nat.le_refl _),Nat.sub_self] at hq
  cases hq
  exact⟨l,xs,by rw[List.getElem?_append_right (by rw[h.1];exact Nat.le_refl _),h.1,Nat.sub_self];rfl,h1,h2,h3⟩
end Toy
namespace Toy
open PySem L2
open PySem.Builtin.Int (intBits)
def dueP(cs:List Cl)(i:Nat):Int×Int:=match cs[i]? with
 | some c=>(c.n,c.u)
 | none=>(0,1)
def heapP(cs:List Cl)(i:Nat):List Int:=match cs[i]? with
 | some c=>c.hp
 | none=>[]
theorem heapP_at{cs:List Cl}{i:Nat}(h:i < cs.length):heapP cs i=cs[i].hp:=by unfold heapP;rw[List.getElem?_eq_getElem h]
def inn(cs:List Cl)(hs:List Int)(i:Nat):Bool:=lies (heapP cs i) hs
def rowB(cs:List Cl)(ps:List (Int×Int))(q:Nat→Bool)(i:Nat):Int×Int:=if q i=true then dueP cs i else ps.getD i (0,1)
def rowL(cs:List Cl)(ps:List (Int×Int))(q:Nat→Bool)(n:Nat):List (Int×Int):=(List.range n).map (rowB cs ps q)
def plL(n:Nat)(q:Nat→Bool):List Int:=((List.range n).filter q).map fun i:Nat=>(i:Int)
def plV(n:Nat)(q:Nat→Bool):List V:=(plL n q).map V.int
def insL(cs:List Cl)(hs:List Int):List Nat:=(List.range cs.length).filter (inn cs hs)
def dueN(U:Int)(cs:List Cl)(q:Nat→Bool)(hs:List Int):Int:=(((insL cs hs).filter q).map fun i=>num U (dueP cs i)).sum
def paidN(U:Int)(cs:List Cl)(ps:List (Int×Int))(q:Nat→Bool)(hs:List Int):Int:=(((insL cs hs).filter fun i=>!q i).map fun i=>num U (ps.getD i (0,1))).sum
def roomN(U:Int)(ws:List Int)(cs:List Cl)(ps:List (Int×Int))(q:Nat→Bool)(hs:List Int):Int:=worthOf ws hs*U - paidN U cs ps q hs
def lfStep(r:Int×Int)(f:Nat×Int×Int):Int×Int:=if f.2.1*r.2 < r.1*f.2.2 then (f.2.1,f.2.2) else r
def lfold(fs:List (Nat×Int×Int)):Int×Int:=fs.foldl lfStep (1,1)
def fndL(R D:Nat→Int)(O:List Nat):List (Nat×Int×Int):=(O.filter fun i=>decide (0 < D i)).map fun i=>(i,R i,D i)
def tightB(R D:Nat→Int)(r:Int×Int)(i:Nat):Bool:=decide (0 < D i) && decide (low (R i) (D i)=r)
theorem less_ok{U:Int}(hU:0 < U){a b:Int×Int}(ha:Ok U a)(hb:Ok U b):low (a.1*b.2 - b.1*a.2) (a.2*b.2)=low (num U a - num U b) U:=by
 refine low_same (Int.mul_pos ha.pos hb.pos) hU ?_
 have:=num_mul ha
 have:=num_mul hb
 grind
end Toy
namespace L2
open PySem
section
variable {σ:St}{H:Hp}{Q:VK}{D:Ends}{te ta tb:TE}{t u:TS}{c c':TT}{tr:TA}{x y:V}{xs ys:List V}{v:V}{i j:Int}{p:Addr}
theorem i_setN{R:Hp→Prop}{k:Nat}(hp:H p=some (.lst xs))(e:ixN xs.length i=some k)(ey:xs.set k v=ys)(h:∀ H',H' p=some (.lst ys)→Fr1 p H H'→R H'):rSetL (.ref p) (.int i) v H R :=
 ⟨p,xs,i,k,rfl,rfl,hp,e,ey▸h _ (ey▸upd_same) Fr1.upd⟩
theorem mul_mod_ok{a b:Int}:IntMulOk (a % 2147483647) (b % 2147483647):=Sz.okR (k:=31) (Sz.of (by
 have h1:=Int.emod_nonneg b (by decide:(2147483647:Int)≠0)
 have h2:=Int.emod_lt_of_pos b (by decide:(0:Int) < 2147483647)
 omega)) (by decide)
def NewO(f:List V→HO)(xs:List V)(H:Hp)(Q:VK):Prop:=xs.length≤sizeLine∧∀ p,H p=none→Q (.ref p) (upd H p (f xs))
theorem i_tTup(h:tr σ H fun xs H1=>NewO HO.tup xs H1 Q):tTup tr σ H Q:=h
theorem i_tLst(h:tr σ H fun xs H1=>NewO HO.lst xs H1 Q):tLst tr σ H Q:=h
theorem i_NewO{f:List V→HO}(hl:xs.length≤64)(h:∀ p H',H p=none→Same H H'→H' p=some (f xs)→Q (.ref p) H'):NewO f xs H Q :=
 ⟨Nat.le_trans hl (by decide),fun p hp=>h p _ hp (Same.new hp) upd_same⟩
theorem i_tBM{K:PySem.W.Frag}{T:String}{r:V→List V→Hp→VK→Prop}{to:TE}(h:to σ H fun x H1=>tyV K T x H1∧tr σ H1 fun xs H2=>r x xs H2 Q):tBM K T r to tr σ H Q:=h
theorem i_app{l:Addr}(hl:H l=some (.lst xs))(hz:xs.length≤1000)(h:∀ H',H' l=some (.lst (xs++[y]))→Fr1 l H H'→Q .non H'):rAppend (.ref l) [y] H Q :=
 ⟨l,xs,y,rfl,rfl,hl,Nat.lt_of_le_of_lt hz (by decide),h _ upd_same Fr1.upd⟩
theorem i_yes{q:Bool→Hp→Prop}(h:q true H):tYes σ H q:=h
end
theorem fr_new{H H0 H':Hp}{B l:Addr}(f:Fr1 B H H0)(g:Fr1 l H0 H')(hl:H l=none):Fr1 B H H':=fun b o nb hb=>g b o (fun e=>by rw[e,hl] at hb;cases hb) (f b o nb hb)
theorem fr_none{H H':Hp}{B l:Addr}(f:Fr1 B H H')(n:l≠B)(hl:H' l=none):H l=none:=by
 cases e:H l with
 | none=>rfl
 | some o=>rw[f l o n e] at hl;cases hl
end L2
namespace Toy
open PySem L2
theorem BagAt.frm{H H':Hp}{B L F:Addr}(b:BagAt H B L)(f:Fr1 F H H')(nB:F≠B)(nL:F≠L):BagAt H' B L:=by
 obtain⟨ns,i,r,salt,h1,h2,h3⟩:=b
 exact⟨ns,i,r,salt,f _ _ nB.symm h1,f _ _ nL.symm h2,h3⟩
theorem TS.frl{H H':Hp}{l:Addr}{xs:List V}(h:H l=some (.lst xs))(f:Fr1 l H H'):Toy.TS H H':=fun c ys hc=>f c _ (fun e=>by rw[e,h] at hc;cases hc) hc
end Toy
namespace L2
open PySem PySem.Spec PyProof.Rows
section
variable {X:Cx}{tg:Expr}
end
section
variable {H:Hp}{Q:VK}{z y:Str}{i:Int}
theorem i_tAndV{ta tb:TE}{σ:St}(h:ta σ H fun x H1=>∃ c,x=.bl c∧Brk c (tb σ H1 Q) (Q (.bl false) H1) .mk .mk):tAndV ta tb σ H Q:=h
end
theorem same_put{H H2:Hp}{l:Addr}{o:HO}(hl:H l=none)(s:Same H H2):Same H (upd H2 l o):=fun b u hb=>by
 rw[upd_ne (fun z=>by rw[z,hl] at hb;cases hb)]
 exact s b u hb
end L2
namespace Toy
open PySem L2
section
variable {I:List Nat}{q hq:Nat→Bool}{a x x':Nat→Int}{n d:Int}
end
end Toy
namespace L2
open PySem
def Ris(xs:Array Nat):Prop:=xs.toList.Pairwise (· < ·)
def stand(xs:Array Nat):Nat→Nat
 | 0=>0
 | i+1=>xs.getD i 0+1
structure TabOk(L:Bool)(t:SetTable):Prop where
 ris:Ris t.place
 dum:t.dummies=#[]
 led:t.led=L
def keyOf:Int×Value→Int
 | (_,.int k _)=>k
 | _=>0
abbrev setO(es:Array (Int×Value))(ep:Nat)(t:SetTable):Obj:={ cls:=.type "set", dict:=none,data:=.set es ep t }
structure SetAt(h:Heap)(S:Addr)(L:Bool)(es:Array (Int×Value))(ep:Nat)(t:SetTable):Prop where
 at':h.get? S=some (setO es ep t)
 sh:∀ e∈es.toList,∃ k tk,e=(hashInt k,Value.int k tk)
 nd:(es.toList.map keyOf).Nodup
 sz:es.size < 100
 fit:t.fits es.size=true
 tab:TabOk L t
section
variable {prog:Program}{w:World}{A:Around}{E:Value→Shared→Prop}{s:Shared}{S:Addr}{L:Bool}{es:Array (Int×Value)}{ep:Nat}{t:SetTable}
end
end L2
namespace L2
open PySem
section
variable {prog:Program}{w:World}{A:Around}{E:Value→Shared→Prop}{s:Shared}
abbrev byT(w:World):Bool:=w.params.followText "set-order"
end
end L2
namespace L2
open PySem
section
variable {prog:Program}{w:World}{A:Around}{E:Value→Shared→Prop}{s:Shared}
variable {S:Addr}{es:Array (Int×Value)}{ep:Nat}{t:SetTable}
end
end L2
namespace L2
open PySem
section
variable {prog:Program}{w:World}{A:Around}{E:Value→Shared→Prop}{s:Shared}{S:Addr}{es:Array (Int×Value)}{ep:Nat}{t:SetTable}
end
end L2
namespace L2
open PySem
section
variable {prog:Program}{w:World}{A:Around}{E:Value→Shared→Prop}{s:Shared}{S:Addr}{es:Array (Int×Value)}{ep:Nat}{t:SetTable}
end
end L2
namespace L2
open PySem
section
variable {X:Cx}{e:Expr}{te:TE}{p1 p2 p3 p4:Pos}
end
end L2
namespace L2
open PySem PySem.Spec PyProof.Rows
section
variable {X:Cx}{e:Expr}{te:TE}{p1 p2 p3 p4:Pos}
end
end L2
namespace L2
open PySem PyProof.Rows PySem.SeqAt
section
variable {X:Cx}
end
end L2
namespace L2
open PySem PyProof.Rows PySem.SeqAt
section
variable {X:Cx}
def rInT:R2:=fun x y H Q=>∃(a p:Addr)(ts:List Int)(js:List Nat)(f:Nat→Addr)(g:Nat→List Int),x=.ref a∧y=.ref p∧H a=some (.tup (ts.map V.int))∧H p=some (.lst (js.map fun i=>V.ref (f i)))∧(∀ i∈js,H (f i)=some (.tup ((g i).map V.int)))∧Q (.bl (js.any fun i=>decide (g i=ts))) H
end
end L2
namespace HT
open PySem PySem.Spec PyProof.Rows
section
variable {prog:Program}{w:World}{A:Around}{E:Value→Shared→Prop}{s:Shared}
end
end HT
namespace L2
open PySem PySem.Spec PyProof.Rows
section
variable {X:Cx}
end
end L2
namespace Z3
open PySem PySem.Spec PyProof.Rows
abbrev IsTri(h:Heap)(T:Addr)(a b c:Value):Prop:=h.get? T=some { cls:=.type "tuple", data:=.seq #[a,b,c] }
theorem tc(a b c:Value):checkTypeCall "zip" ⟨[a,b,c],[]⟩=pure ():=by kernel_rfl
theorem nc(a b c:Value):checkBuiltinCall "zip.__new__" ⟨[.type "zip", a,b,c],[]⟩=pure ():=by kernel_rfl
theorem ac(a b c d:Value):argsOk "object.__init__" ⟨[a,b,c,d],[]⟩:=by
 unfold argsOk
 rw[signature?_of (id := "object.__init__")
  (n:=['_','_','t','i','n','i','_','_'])
  (o:=['t','c','e','j','b','o'])
  (by kernel_rfl) PySem.F.owner_object]
 kernel_rfl
structure Ap(n l1 l2 l3:Nat):Prop where
 a1:l1 < n
 a2:l2 < n
 a3:l3 < n
theorem dif{a b:Nat}(h:a < b∨b < a):(show Addr from a)≠(show Addr from b):=fun e=>by
 have e:a=b:=e
 omega
section
variable {prog:Program}{w:World}{A:Around}{E:Value→Shared→Prop}{s:Shared}
theorem up3{T:Addr}{a b c x:Value}{k:Nat}{Q:Unit→Shared→Prop}(hT:IsTri s.heap T a b c)
  (h:∀ h',h'.get? T=some { cls:=.type "tuple", data:=.seq ((#[a,b,c]:Array Value).setIfInBounds k x) }→Heap.SameBut T s.heap h'→Q () { s with heap:=h' }) :
  wpAny (model prog w) A (updateSeq T (·.setIfInBounds k x)) Q E s:=by
 refine wpAny_updateSeq hT rfl (h _ ?_ (Heap.SameBut.update ..))
 rw[Heap.get?_update_self _ hT rfl]
 simp[Obj.mapSeq]
abbrev hp1(h:Heap)(l1:Addr):Heap:=h.push { cls:=.type "list_iterator", data:=.fields #[.ref l1,.int 0 0] }
abbrev hp2(h:Heap)(l1 l2:Addr):Heap:=hp1 (hp1 h l1) l2
abbrev hp3(h:Heap)(l1 l2 l3:Addr):Heap:=hp1 (hp2 h l1 l2) l3
abbrev hp4(h:Heap)(l1 l2 l3:Addr):Heap:=(hp3 h l1 l2 l3).push { cls:=.type "tuple", data:=.seq #[.ref h.objs.size,.ref (hp1 h l1).objs.size,.ref (hp2 h l1 l2).objs.size] }
abbrev hp5(h:Heap)(l1 l2 l3:Addr):Heap:=(hp4 h l1 l2 l3).push { cls:=.type "tuple", data:=.seq #[.none,.none,.none] }
abbrev hp6(h:Heap)(l1 l2 l3:Addr):Heap:=(hp5 h l1 l2 l3).push { cls:=.type "zip", data:=.fields #[.none,.bool false,.bool false,.ref (hp3 h l1 l2 l3).objs.size,.ref (hp4 h l1 l2 l3).objs.size] }
theorem new3(l1 l2 l3:Addr)(xs ys zs:Array Value) :
  Meets (Builtin.«zip.__new__» ⟨[.type "zip", .ref l1,.ref l2,.ref l3],[]⟩) (fun _ R s=>s.heap.IsList l1 xs∧s.heap.IsList l2 ys∧s.heap.IsList l3 zs ∧
   R (.ok (.ret (.ref (hp5 s.heap l1 l2 l3).objs.size))) { s with heap:=hp6 s.heap l1 l2 l3 }) :=
 .of_wp fun prog w A R s h=>by
  obtain⟨hp,g,d,tk,os⟩:=s
  obtain⟨hl1,hl2,hl3,h⟩:=h
  have hsub:=sub_zip
  have hL1:Heap.IsList (Shared.heap ⟨hp,g,d,tk,os⟩) l1 xs:=hl1
  have hL2:Heap.IsList (Shared.heap ⟨hp1 hp l1,g,d,tk,os⟩) l2 ys:=Heap.IsList.push hl2 _
  have hL3:Heap.IsList (Shared.heap ⟨hp2 hp l1 l2,g,d,tk,os⟩) l3 zs:=Heap.IsList.push (Heap.IsList.push hl3 _) _
  wp_walk using wpAny_pyIter_list hL1,wpAny_pyIter_list hL2,wpAny_pyIter_list hL3
  exact⟨_,rfl,h⟩
theorem call3{l1 l2 l3:Addr}{xs ys zs:Array Value}{Q:Value→Shared→Prop}(hl1:s.heap.IsList l1 xs)(hl2:s.heap.IsList l2 ys)(hl3:s.heap.IsList l3 zs)
  (h:∀ h' n,n=s.heap.objs.size→IsZip h' (n+5) (n+3) (n+4) .none→IsTri h' (n+3) (.ref n) (.ref (n+1)) (.ref (n+2)) →
   IsTri h' (n+4) .none .none .none→h'.IsListIter n l1 0→h'.IsListIter (n+1) l2 0→h'.IsListIter (n+2) l3 0 →
   (∀ c o,s.heap.get? c=some o→h'.get? c=some o)→Q (.ref (n+5)) { s with heap:=h' }) :
  wpAny (model prog w) A (call (.type "zip") [.ref l1,.ref l2,.ref l3]) Q E s:=by
 refine callType_new F.called_zip (by decide) (tc _ _ _) (nc _ _ _) (fun obj=>ac obj _ _ _) F.entry_zip_new
  (new3 l1 l2 l3 xs ys zs) ⟨hl1,hl2,hl3,?_⟩
 have z1:(hp1 s.heap l1).objs.size=s.heap.objs.size+1:=Heap.size_push ..
 have z2:(hp2 s.heap l1 l2).objs.size=s.heap.objs.size+2:=by rw[Heap.size_push,z1]
 have z3:(hp3 s.heap l1 l2 l3).objs.size=s.heap.objs.size+3:=by rw[Heap.size_push,z2]
 have z4:(hp4 s.heap l1 l2 l3).objs.size=s.heap.objs.size+4:=by rw[Heap.size_push,z3]
 have z5:(hp5 s.heap l1 l2 l3).objs.size=s.heap.objs.size+5:=by rw[Heap.size_push,z4]
 have up {h:Heap} {o:Obj} {c:Addr} {u:Obj} (e:h.get? c=some u):(h.push o).get? c=some u:=Heap.get?_push_of_some _ e
 have g6:(hp6 s.heap l1 l2 l3).get? (hp5 s.heap l1 l2 l3).objs.size=some _:=Heap.get?_push_size _ rfl
 have g5:(hp6 s.heap l1 l2 l3).get? (hp4 s.heap l1 l2 l3).objs.size=some _:=up (Heap.get?_push_size _ rfl)
 have g4:(hp6 s.heap l1 l2 l3).get? (hp3 s.heap l1 l2 l3).objs.size=some _:=up (up (Heap.get?_push_size _ rfl))
 have g3:(hp6 s.heap l1 l2 l3).get? (hp2 s.heap l1 l2).objs.size=some _:=up (up (up (Heap.get?_push_size _ rfl)))
 have g2:(hp6 s.heap l1 l2 l3).get? (hp1 s.heap l1).objs.size=some _:=up (up (up (up (Heap.get?_push_size _ rfl))))
 have g1:(hp6 s.heap l1 l2 l3).get? s.heap.objs.size=some _:=up (up (up (up (up (Heap.get?_push_size _ rfl)))))
 show _∧_
 rw[z3,z4,z5] at g6
 rw[z4] at g5
 rw[z1,z2,z3] at g4
 rw[z2] at g3
 rw[z1] at g2
 rw[z5]
 exact⟨⟨_,g6,rfl⟩,h _ _ rfl g6 g4 g5 ⟨_,g1,rfl,rfl⟩ ⟨_,g2,rfl,rfl⟩ ⟨_,g3,rfl,rfl⟩ fun c o x=>up (up (up (up (up (up x)))))⟩
theorem item3{n l1 l2 l3:Addr}{k:Nat}{xs ys zs:Array Value}{x y v a b c:Value}{Q:Option Value→Shared→Prop}(D:Ap n l1 l2 l3)
  (hz:IsZip s.heap (n+5) (n+3) (n+4) .none) (hTI:IsTri s.heap (n+3) (.ref n) (.ref (n+1)) (.ref (n+2))) (hTO:IsTri s.heap (n+4) a b c)
  (h1:s.heap.IsListIter n l1 k) (h2:s.heap.IsListIter (n+1) l2 k) (h3:s.heap.IsListIter (n+2) l3 k) (hl1:s.heap.IsList l1 xs) (hl2:s.heap.IsList l2 ys) (hl3:s.heap.IsList l3 zs) (hx:xs[k]?=some x) (hy:ys[k]?=some y) (hv:zs[k]?=some v)
  (hQ:∀ h',IsZip h' (n+5) (n+3) (n+4) (rawInt s.heap.objs.size)→IsTri h' (n+4) x y v→h'.IsListIter n l1 (k+1)→h'.IsListIter (n+1) l2 (k+1)→h'.IsListIter (n+2) l3 (k+1)→IsTri h' s.heap.objs.size x y v →
   (∀ q o,q≠n+5→q≠n+4→q≠n→q≠n+1→q≠n+2→s.heap.get? q=some o→h'.get? q=some o)→Q (some (.ref s.heap.objs.size)) { s with heap:=h' }) :
  wpAny (model prog w) A (pyNext (.ref (n+5))) Q E s:=by
 obtain⟨d1,d2,d3⟩:=D
 have q0:n≠n+4:=dif (.inl (by omega))
 have q1:n+1≠n+4:=dif (.inl (by omega))
 have q2:n+2≠n+4:=dif (.inl (by omega))
 have q3:n≠n+1:=dif (.inl (by omega))
 have q4:n≠n+2:=dif (.inl (by omega))
 have q5:n+1≠n+2:=dif (.inl (by omega))
 have z0:n≠n+5:=dif (.inl (by omega))
 have z1:n+1≠n+5:=dif (.inl (by omega))
 have z2:n+2≠n+5:=dif (.inl (by omega))
 have z4:n+4≠n+5:=dif (.inl (by omega))
 have L1:∀ j,l1≠n+j:=fun j=>dif (.inl (by omega))
 have L2:∀ j,l2≠n+j:=fun j=>dif (.inl (by omega))
 have L3:∀ j,l3≠n+j:=fun j=>dif (.inl (by omega))
 have hT:s.TypeIs (.ref (n+5)) "zip" := ⟨_,hz,rfl⟩
 unfold pyNext
 refine wpAny_bind (wpAny_attempt (wpAny_callSpecial?_slot (name:=Str.ofString "__next__") hT F.slot_zip_next
  (wpAny_call_entry F.slot_zip_next hT F.entry_zip_next ?_ (F.args_zip_next_1 _))))
 show wpAny _ _ (field (.ref (n+5)) 2 >>= _) _ _ _
 refine wpAny_bind (wpAny_field hz rfl (x:=.bool false) rfl ?_)
 show wpAny _ _ (field (.ref (n+5)) 3 >>= _) _ _ _
 refine wpAny_bind (wpAny_field hz rfl (x:=.ref (n+3)) rfl ?_)
 refine wpAny_bind (wpAny_seqItems hTI rfl ?_)
 show wpAny _ _ (Builtin.SmallTypes.ownedTupleIsFree (.ref (n+5)) >>= _) _ _ _
 refine wpAny_bind ?_
 unfold Builtin.SmallTypes.ownedTupleIsFree
 refine wpAny_bind (wpAny_field hz rfl (x:=.none) rfl (wpAny_pure ?_))
 simp only[if_true]
 refine wpAny_bind (wpAny_rule ?_)
 refine wpAny_bind (wpAny_field hz rfl (x:=.ref (n+4)) rfl ?_)
 refine wpAny_bind (wpAny_setField_rec hz (by simp) fun g1 hz1 s1=>?_)
 replace hz1:IsZip g1 (n+5) (n+3) (n+4) .ellipsis:=hz1
 refine wpAny_bind ?_
 simp only[List.zipIdx_cons,List.zipIdx_nil,List.forIn_cons,List.forIn_nil]
 refine wpAny_bind (wpAny_bind (wpAny_onRaise ?_))
 show wpAny _ _ (Builtin.SmallTypes.nextOf (.ref n) >>= _) _ _ _
 refine wpAny_bind (wpAny_nextOf_list_item (h1.extBut s1.extBut z0) (hl1.extBut s1.extBut (L1 5)) hx fun g2 i1 s2=>wpAny_pure ?_)
 have t2:IsTri g2 (n+4) a b c:=s2.extBut _ _ q0.symm (s1.extBut _ _ z4 hTO)
 refine wpAny_bind (wpAny_seqItems t2 rfl ?_)
 refine wpAny_bind (up3 t2 fun g3 t3 s3=>?_)
 replace t3:IsTri g3 (n+4) x b c:=t3
 refine wpAny_bind (wpAny_letGo (wpAny_pure ?_))
 refine wpAny_bind (wpAny_bind (wpAny_onRaise ?_))
 show wpAny _ _ (Builtin.SmallTypes.nextOf (.ref (n+1)) >>= _) _ _ _
 refine wpAny_bind (wpAny_nextOf_list_item (((h2.extBut s1.extBut z1).extBut s2.extBut q3.symm).extBut s3.extBut q1)
  (((hl2.extBut s1.extBut (L2 5)).extBut s2.extBut (L2 0)).extBut s3.extBut (L2 4)) hy fun g4 i2 s4=>wpAny_pure ?_)
 have t4:IsTri g4 (n+4) x b c:=s4.extBut _ _ q1.symm t3
 refine wpAny_bind (wpAny_seqItems t4 rfl ?_)
 refine wpAny_bind (up3 t4 fun g5 t5 s5=>?_)
 replace t5:IsTri g5 (n+4) x y c:=t5
 refine wpAny_bind (wpAny_letGo (wpAny_pure ?_))
 refine wpAny_bind (wpAny_bind (wpAny_onRaise ?_))
 show wpAny _ _ (Builtin.SmallTypes.nextOf (.ref (n+2)) >>= _) _ _ _
 refine wpAny_bind (wpAny_nextOf_list_item (((((h3.extBut s1.extBut z2).extBut s2.extBut q4.symm).extBut s3.extBut q2).extBut s4.extBut q5.symm).extBut s5.extBut q2)
  (((((hl3.extBut s1.extBut (L3 5)).extBut s2.extBut (L3 0)).extBut s3.extBut (L3 4)).extBut s4.extBut (L3 1)).extBut s5.extBut (L3 4)) hv fun g6 i3 s6=>wpAny_pure ?_)
 have t6:IsTri g6 (n+4) x y c:=s6.extBut _ _ q2.symm t5
 refine wpAny_bind (wpAny_seqItems t6 rfl ?_)
 refine wpAny_bind (up3 t6 fun g7 t7 s7=>?_)
 replace t7:IsTri g7 (n+4) x y v:=t7
 refine wpAny_bind (wpAny_letGo (wpAny_pure (wpAny_pure ?_)))
 refine wpAny_bind (wpAny_seqItems t7 rfl ?_)
 refine wpAny_bind (wpAny_newTuple ?_)
 have hsz:g7.objs.size=s.heap.objs.size:=by rw[s7.1,s6.1,s5.1,s4.1,s3.1,s2.1,s1.1]
 have hz7:IsZip g7 (n+5) (n+3) (n+4) .ellipsis:=s7.extBut _ _ z4.symm (s6.extBut _ _ z2.symm (s5.extBut _ _ z4.symm (s4.extBut _ _ z1.symm (s3.extBut _ _ z4.symm (s2.extBut _ _ z0.symm hz1)))))
 have kk:∀ q o,q≠n+5→q≠n+4→q≠n→q≠n+1→q≠n+2→s.heap.get? q=some o→g7.get? q=some o:=fun q o c5 c4 c0 c1 c2 e =>
  s7.extBut _ _ c4 (s6.extBut _ _ c2 (s5.extBut _ _ c4 (s4.extBut _ _ c1 (s3.extBut _ _ c4 (s2.extBut _ _ c0 (s1.extBut _ _ c5 e))))))
 have j1:g7.IsListIter n l1 (k+1):=((((i1.extBut s3.extBut q0).extBut s4.extBut q3).extBut s5.extBut q0).extBut s6.extBut q4).extBut s7.extBut q0
 have j2:g7.IsListIter (n+1) l2 (k+1):=((i2.extBut s5.extBut q1).extBut s6.extBut q5).extBut s7.extBut q1
 have j3:g7.IsListIter (n+2) l3 (k+1):=i3.extBut s7.extBut q2
 have zlt:n+5 < g7.objs.size:=Heap.lt_size hz7
 show wpAny _ _ (Builtin.SmallTypes.ownedTupleHandOut (.ref (n+5)) (.ref g7.objs.size) >>= _) _ _ _
 refine wpAny_bind ?_
 unfold Builtin.SmallTypes.ownedTupleHandOut
 have hz8:IsZip (g7.push { cls:=.type "tuple", data:=.seq #[x,y,v] }) (n+5) (n+3) (n+4) .ellipsis:=Heap.get?_push_of_some _ hz7
 refine wpAny_bind (wpAny_setField_rec hz8 (by simp) fun g9 hz9 s9=>?_)
 replace hz9:IsZip g9 (n+5) (n+3) (n+4) (rawInt g7.objs.size):=hz9
 refine wpAny_setField_rec hz9 (by simp) fun g10 hz10 s10=>?_
 replace hz10:IsZip g10 (n+5) (n+3) (n+4) (rawInt g7.objs.size):=hz10
 have up:∀ q o,q≠n+5→g7.get? q=some o→g10.get? q=some o:=fun q o c1 e=>s10.extBut _ _ c1 (s9.extBut _ _ c1 (Heap.get?_push_of_some _ e))
 have tt:IsTri g10 g7.objs.size x y v:=s10.extBut _ _ (Nat.ne_of_gt zlt) (s9.extBut _ _ (Nat.ne_of_gt zlt) (Heap.get?_push_size _ rfl))
 rw[hsz] at hz10 tt
 refine wpAny_pure ⟨_,rfl,wpAny_pure ?_⟩
 show Q (some (.ref g7.objs.size)) _
 rw[hsz]
 exact hQ g10 hz10 (up _ _ z4 t7) (j1.at fun o e=>up _ o z0 e) (j2.at fun o e=>up _ o z1 e) (j3.at fun o e=>up _ o z2 e) tt fun q o c5 c4 c0 c1 c2 e=>up q o c5 (kk q o c5 c4 c0 c1 c2 e)
theorem end3{n l1 l2 l3:Addr}{k:Nat}{xs:Array Value}{a b c:Value}{Q:Option Value→Shared→Prop}(hh:A.handled=none)(D:Ap n l1 l2 l3)
  (hz:IsZip s.heap (n+5) (n+3) (n+4) .none) (hTI:IsTri s.heap (n+3) (.ref n) (.ref (n+1)) (.ref (n+2))) (hTO:IsTri s.heap (n+4) a b c)
  (h1:s.heap.IsListIter n l1 k) (hl1:s.heap.IsList l1 xs) (hx:xs[k]?=none)
  (hQ:∀ h',(∀ q o,q≠n+5→q≠n→s.heap.get? q=some o→h'.get? q=some o)→Q none { s with heap:=h' }) :
  wpAny (model prog w) A (pyNext (.ref (n+5))) Q E s:=by
 obtain⟨d1,d2,d3⟩:=D
 have z0:n≠n+5:=dif (.inl (by omega))
 have L1:∀ j,l1≠n+j:=fun j=>dif (.inl (by omega))
 have hT:s.TypeIs (.ref (n+5)) "zip" := ⟨_,hz,rfl⟩
 unfold pyNext
 refine wpAny_bind (wpAny_attempt (wpAny_callSpecial?_slot (name:=Str.ofString "__next__") hT F.slot_zip_next
  (wpAny_call_entry F.slot_zip_next hT F.entry_zip_next ?_ (F.args_zip_next_1 _))))
 show wpAny _ _ (field (.ref (n+5)) 2 >>= _) _ _ _
 refine wpAny_bind (wpAny_field hz rfl (x:=.bool false) rfl ?_)
 show wpAny _ _ (field (.ref (n+5)) 3 >>= _) _ _ _
 refine wpAny_bind (wpAny_field hz rfl (x:=.ref (n+3)) rfl ?_)
 refine wpAny_bind (wpAny_seqItems hTI rfl ?_)
 show wpAny _ _ (Builtin.SmallTypes.ownedTupleIsFree (.ref (n+5)) >>= _) _ _ _
 refine wpAny_bind ?_
 unfold Builtin.SmallTypes.ownedTupleIsFree
 refine wpAny_bind (wpAny_field hz rfl (x:=.none) rfl (wpAny_pure ?_))
 simp only[if_true]
 refine wpAny_bind (wpAny_rule ?_)
 refine wpAny_bind (wpAny_field hz rfl (x:=.ref (n+4)) rfl ?_)
 refine wpAny_bind (wpAny_setField_rec hz (by simp) fun g1 hz1 s1=>?_)
 replace hz1:IsZip g1 (n+5) (n+3) (n+4) .ellipsis:=hz1
 refine wpAny_bind ?_
 simp only[List.zipIdx_cons,List.zipIdx_nil,List.forIn_cons,List.forIn_nil]
 refine wpAny_bind (wpAny_bind (wpAny_onRaise ?_))
 show wpAny _ _ (Builtin.SmallTypes.nextOf (.ref n) >>= _) _ _ _
 refine wpAny_bind (wpAny_nextOf_list_end hh (h1.extBut s1.extBut z0) (hl1.extBut s1.extBut (L1 5)) hx fun g2 e s2 he=>?_)
 obtain⟨oe,hoe,hce⟩:=he
 have hz2:IsZip g2 (n+5) (n+3) (n+4) .ellipsis:=s2 _ _ z0.symm hz1
 have hez:e≠n+5:=fun x=>by
  rw[x,hz2] at hoe
  cases hoe
  simp at hce
 refine wpAny_setField_rec hz2 (by simp) fun g3 _ s3=>?_
 refine wpAny_bind (wpAny_isInstance (T := "StopIteration") (b:=true) ⟨oe,s3.extBut _ _ hez hoe,hce⟩ isSubtype_stop ?_)
 exact wpAny_pure (hQ g3 fun q o c5 c0 x=>s3.extBut _ _ c5 (s2 _ _ c0 (s1.extBut _ _ c5 x)))
end
end Z3
namespace L2
open PySem PySem.Spec PyProof.Rows Z3
section
variable {X:Cx}
def Itz3(K:PySem.W.Frag)(a b c:Addr):It :=
 ⟨fun i H=>∃ xs ys zs x y z,SqL K H a xs∧SqL K H b ys∧SqL K H c zs∧xs[i]?=some x∧ys[i]?=some y∧zs[i]?=some z,
   fun i H v H'=>∃ p x y z,H p=none∧(∀ xs,SqL K H a xs→xs[i]?=some x)∧(∀ ys,SqL K H b ys→ys[i]?=some y)∧(∀ zs,SqL K H c zs→zs[i]?=some z)∧v=.ref p∧H'=upd H p (.tup [x,y,z]),
   fun i H=>∃ xs,SqL K H a xs∧i=xs.length⟩
theorem turn_zip3{P:Program}{w:World}{K:PySem.W.Frag}{elts:List Expr}{k:Nat}{tp:Pos}(n a b c:Addr)(D:Ap n a b c) :
  Turn P w K (.Tuple elts k tp) (Itz3 K a b c) [n+5,n+3,n+4,n,n+1,n+2] (n+5) (fun i h=>IsZip h (n+5) (n+3) (n+4) .none∧IsTri h (n+3) (.ref n) (.ref (n+1)) (.ref (n+2))∧(∃ a b c,IsTri h (n+4) a b c)∧h.IsListIter n a i∧h.IsListIter (n+1) b i∧h.IsListIter (n+2) c i) where
 mem:=by simp
 obj:=fun i h st q hb=>by
  obtain⟨s1,s2,⟨_,_,_,s3⟩,⟨o4,e4,_,d4⟩,⟨o5,e5,_,d5⟩,⟨o6,e6,_,d6⟩⟩:=st
  simp only[List.mem_cons,List.not_mem_nil,or_false] at hb
  rcases hb with rfl | rfl | rfl | rfl | rfl | rfl
  ·exact⟨_,s1,fun v z=>by cases (show Data.fields _=Data.cell v from z)⟩
  ·exact⟨_,s2,fun v z=>by cases (show Data.seq _ _=Data.cell v from z)⟩
  ·exact⟨_,s3,fun v z=>by cases (show Data.seq _ _=Data.cell v from z)⟩
  ·exact⟨_,e4,fun v z=>by rw[d4] at z;cases z⟩
  ·exact⟨_,e5,fun v z=>by rw[d5] at z;cases z⟩
  ·exact⟨_,e6,fun v z=>by rw[d6] at z;cases z⟩
 keep:=fun i h h' st hk=>by
  obtain⟨s1,s2,⟨_,_,_,s3⟩,s4,s5,s6⟩:=st
  exact⟨hk _ (by simp) _ s1,hk _ (by simp) _ s2,⟨_,_,_,hk _ (by simp) _ s3⟩,s4.at fun o e=>hk n (by simp) o e,s5.at fun o e=>hk (n+1) (by simp) o e,s6.at fun o e=>hk (n+2) (by simp) o e⟩
 item:=by
  intro X hP hw hK hc i pins s σ H E I hf st hg
  subst hP hw hK
  obtain⟨xs,ys,zs,x,y,z,hq1,hq2,hq3,hx,hy,hz⟩:=hg
  obtain⟨its1,rv1,p1,hz1⟩:=I.list hq1
  obtain⟨its2,rv2,p2,hz2⟩:=I.list hq2
  obtain⟨its3,rv3,p3,hz3⟩:=I.list hq3
  obtain⟨u1,hu1,ru1⟩:=rv1.get hx
  obtain⟨u2,hu2,ru2⟩:=rv2.get hy
  obtain⟨u3,hu3,ru3⟩:=rv3.get hz
  obtain⟨s1,s2,⟨_,_,_,s3⟩,s4,s5,s6⟩:=st
  refine item3 D s1 s2 s3 s4 s5 s6 p1.isList p2.isList p3.isList (by simpa using hu1) (by simpa using hu2) (by simpa using hu3) fun h' z1 t1 i1 i2 i3 tT kk=>?_
  have hlt:n+5 < s.heap.objs.size:=Heap.lt_size s1
  have ne:∀ q,q≤n+5→q≠s.heap.objs.size:=fun q hq=>Nat.ne_of_lt (Nat.lt_of_le_of_lt hq hlt)
  refine⟨.ref s.heap.objs.size,rfl,wpAny_letOwnedTupleGo_zip z1 fun h2 z2 k2=>?_⟩
  have d0:n≠n+5:=dif (.inl (by omega))
  have d1:n+1≠n+5:=dif (.inl (by omega))
  have d2:n+2≠n+5:=dif (.inl (by omega))
  have d3:n+3≠n+5:=dif (.inl (by omega))
  have d4:n+4≠n+5:=dif (.inl (by omega))
  have e4:n+3≠n+4:=dif (.inl (by omega))
  have e0:n+3≠n:=dif (.inr (by omega))
  have e1:n+3≠n+1:=dif (.inr (by omega))
  have e2:n+3≠n+2:=dif (.inr (by omega))
  have kept:∀ q o,q∉[n+5,n+4,n,n+1,n+2]→s.heap.get? q=some o→h2.get? q=some o:=fun q o hc e=>by
   simp only[List.mem_cons,List.not_mem_nil,or_false,not_or] at hc
   obtain⟨c5,c4,c0,c1,c2⟩:=hc
   exact k2.extBut _ _ c5 (kk q o c5 c4 c0 c1 c2 e)
  have sub:∀ q∈[n+5,n+4,n,n+1,n+2],q∈[n+5,n+3,n+4,n,n+1,n+2]:=fun q hc=>by
   simp only[List.mem_cons,List.not_mem_nil,or_false] at hc ⊢
   rcases hc with rfl | rfl | rfl | rfl | rfl<;>simp
  refine⟨.ref s.heap.objs.size,upd H s.heap.objs.size (.tup [x,y,z]),I.laidL (t':=s.toks) kept (fun q hc=>hf q (sub q hc)) (Nat.le_refl _) ⟨by show 3≤sizeLine;decide,[u1,u2,u3],.cons ru1 (.cons ru2 (.cons ru3 .nil)),?_⟩,rfl,
   ⟨s.heap.objs.size,x,y,z,I.hok.fresh (Nat.le_refl _),fun zs hzs=>by rw[I.list_inj hzs hq1];exact hx,fun zs hzs=>by rw[I.list_inj hzs hq2];exact hy,fun zs hzs=>by rw[I.list_inj hzs hq3];exact hz,rfl,rfl⟩,⟨z2,?_,⟨_,_,_,k2.extBut _ _ d4 t1⟩,i1.extBut k2.extBut d0,i2.extBut k2.extBut d1,i3.extBut k2.extBut d2⟩,fun q hc=>?_⟩
  ·exact⟨_,k2.extBut _ _ (Nat.ne_of_gt hlt) tT,rfl,_,rfl⟩
  ·exact k2.extBut _ _ d3 (kk _ _ d3 e4 e0 e1 e2 s2)
  ·have hcn:=(hf q hc).1
   have hcl:q≤n+5:=by
    simp only[List.mem_cons,List.not_mem_nil,or_false] at hc
    rcases hc with rfl | rfl | rfl | rfl | rfl | rfl<;>first | exact Nat.le_refl _ | (show (_:Nat)≤_;omega)
   rw[upd_ne (ne q hcl)]
   exact hcn
 done:=by
  intro X hP hw hK hc i pins s σ H E I hf st hg
  subst hP hw hK
  obtain⟨xs,hq1,hx⟩:=hg
  obtain⟨its1,rv1,p1,hz1⟩:=I.list hq1
  obtain⟨s1,s2,⟨_,_,_,s3⟩,s4,s5,s6⟩:=st
  have sub:∀ q∈[n+5,n],q∈[n+5,n+3,n+4,n,n+1,n+2]:=fun q hc=>by
   simp only[List.mem_cons,List.not_mem_nil,or_false] at hc ⊢
   rcases hc with rfl | rfl<;>simp
  refine end3 (I.ok.hd hc) D s1 s2 s3 s4 p1.isList (by rw[hx,rv1.length];simp) fun h' kk=>⟨rfl,I.turnedL (wr:=[n+5,n]) (t':=s.toks) (fun q o hq e=>?_) fun q hc=>hf q (sub q hc)⟩
  simp only[List.mem_cons,List.not_mem_nil,or_false,not_or] at hq
  exact kk q o hq.1 hq.2 e
 self:=fun _ _ _ _ _ st h=>wpAny_pyIter_zip st.1 h
def iZip3(K:PySem.W.Frag)(ta:TA):TI:=fun σ H R=>ta σ H fun vs H1=>∃ a b c,vs=[.ref a,.ref b,.ref c]∧(∃ xs,SqL K H1 a xs)∧(∃ ys,SqL K H1 b ys)∧(∃ zs,SqL K H1 c zs)∧R (Itz3 K a b c) H1
theorem pi_zip3{a b c:Expr}{ta:TA}{p pos tp:Pos}{elts:List Expr}{k:Nat}(hg:Gl X "zip")(hm:X.mg "zip" = none)(ha:PA X [a,b,c] ta)
  (hs:starEach [a,b,c] X.env=[(false,eval a X.env),(false,eval b X.env),(false,eval c X.env)]:=by rfl) (hs2:starEach [b,c] X.env=[(false,eval b X.env),(false,eval c X.env)]:=by rfl) :
  PI X (.Tuple elts k tp) (.Call (.Name "zip" p) [a,b,c] [] pos) (iZip3 X.K ta):=by
 intro pins s σ H R I h
 refine Call_ (ld_blt I hg hm boot_zip (PyProof.Rows.callWith_type1 (thn (ha pos pins s σ H _ I h) fun us s1 ⟨vs,H1,I1,r1,q1⟩=>?_) (by rw[hs,hs2]) (by rw[hs2];rfl)))
 obtain⟨a',b',c',e,⟨xs,hq1⟩,⟨ys,hq2⟩,⟨zs,hq3⟩,q⟩:=q1
 subst e
 cases r1 with
 | cons r rr =>
  cases rr with
  | cons r' rr =>
   cases rr with
   | cons r'' rr =>
    cases rr
    cases r
    cases r'
    cases r''
    obtain⟨its1,rv1,p1,hz1⟩:=I1.list hq1
    obtain⟨its2,rv2,p2,hz2⟩:=I1.list hq2
    obtain⟨its3,rv3,p3,hz3⟩:=I1.list hq3
    have lt1:a' < s1.heap.objs.size:=by obtain⟨_,e,_⟩:=p1.isList;exact Heap.lt_size e
    have lt2:b' < s1.heap.objs.size:=by obtain⟨_,e,_⟩:=p2.isList;exact Heap.lt_size e
    have lt3:c' < s1.heap.objs.size:=by obtain⟨_,e,_⟩:=p3.isList;exact Heap.lt_size e
    refine call3 p1.isList p2.isList p3.isList fun h' n hn hz hTI hTO hi1 hi2 hi3 hk=>?_
    subst hn
    refine wpAny_pyIter_zip hz ?_
    refine⟨_,[_,_,_,_,_,_],_,_,H1,rfl,I1.kept (t':=s1.toks) hk,turn_zip3 _ a' b' c' ⟨lt1,lt2,lt3⟩,⟨hz,hTI,⟨_,_,_,hTO⟩,hi1,hi2,hi3⟩,fun q hc=>?_,by assumption⟩
    have hle:s1.heap.objs.size≤q:=by
     simp only[List.mem_cons,List.not_mem_nil,or_false] at hc
     rcases hc with rfl | rfl | rfl | rfl | rfl | rfl<;>first | exact Nat.le_refl _ | exact Nat.le_add_right _ _
    exact I1.fpOk hle (I1.hok.fresh hle)
end
end L2
namespace L2
open PySem PySem.Spec PyProof.Rows
theorem qi_zip3K{X:Cx}{K:PySem.W.Frag}(hK:X.K=K){a b c:Expr}{t:TA}{elts:List Expr}{k:Nat}{tp p pos:Pos}(hg:Gl X "zip")(hm:X.mg "zip" = none)(ha:QA X [a,b,c] t)
  (hs:starEach [a,b,c] X.env=[(false,eval a X.env),(false,eval b X.env),(false,eval c X.env)]:=by rfl) (hs2:starEach [b,c] X.env=[(false,eval b X.env),(false,eval c X.env)]:=by rfl) :
  QI X (.Tuple elts k tp) (.Call (.Name "zip" p) [a,b,c] [] pos) (iZip3 K t):=hK▸⟨pi_zip3 hg hm ha.p hs hs2⟩
theorem for_zip3N{K:PySem.W.Frag}{a b c:Addr}{xs ys zs:List V}{g:TG}{tb:L2.TS}{D:Ends}{σ:St}{H:Hp}(Pv:Nat→St→Hp→Prop)(h0:Pv 0 σ H)(e2:ys.length=xs.length)(e3:zs.length=xs.length)
  (hl:∀ i σ H,i≤xs.length→Pv i σ H→SqL K H a xs∧SqL K H b ys∧SqL K H c zs)
  (hs:∀(i:Nat)(x y z:V)(p:Addr)(σ:St)(H H':Hp)(N B:St→Hp→Prop),xs[i]?=some x→ys[i]?=some y→zs[i]?=some z→H p=none→Same H H'→H' p=some (.tup [x,y,z])→Pv i σ H→(∀ σ' H',Pv (i+1) σ' H'→N σ' H')→(∀ σ' H',D.nx σ' H'→B σ' H')→g (.ref p) σ H' fun σ2 H2=>tb { nx:=N,rt:=D.rt,bk:=B,ct:=N } σ2 H2) (hd:∀ σ H,Pv xs.length σ H→D.nx σ H) :
  ∃ W:Nat→Nat→St→Hp→Prop,(∃ m,W 0 m σ H)∧∀ i m σ H,W i m σ H →
   ((Itz3 K a b c).stop i H∧D.nx σ H)∨((Itz3 K a b c).go i H∧∃ N:St→Hp→Prop,(∀ σ' H',N σ' H'→∃ m',m' < m∧W (i+1) m' σ' H')∧∀ x H',(Itz3 K a b c).yld i H x H'→g x σ H' fun σ2 H2=>tb { D with nx:=N,ct:=N,bk:=D.nx } σ2 H2):=by
 refine⟨fun i m σ H=>m=xs.length - i∧i≤xs.length∧Pv i σ H,⟨xs.length,by simp,Nat.zero_le _,h0⟩,?_⟩
 rintro i m σ H ⟨rfl,hi,p⟩
 obtain⟨q1,q2,q3⟩:=hl i σ H hi p
 by_cases hlt:i < xs.length
 ·have l2:i < ys.length:=by omega
  have l3:i < zs.length:=by omega
  refine .inr ⟨⟨xs,ys,zs,xs[i],ys[i],zs[i],q1,q2,q3,by simp[hlt],by simp[l2],by simp[l3]⟩,Pv (i+1),fun σ' H' p'=>⟨xs.length - (i+1),by omega,rfl,hlt,p'⟩,fun v H' y=>?_⟩
  obtain⟨pp,x,y,z,hn,y1,y2,y3,rfl,rfl⟩:=y
  exact hs i x y z pp σ H _ (Pv (i+1)) D.nx (y1 xs q1) (y2 ys q2) (y3 zs q3) hn (Same.new hn) upd_same p (fun _ _ h=>h) fun _ _ h=>h
 ·have e:i=xs.length:=by omega
  subst e
  exact .inl ⟨⟨xs,q1,rfl⟩,hd σ H p⟩
end L2
set_option maxHeartbeats 4000000
namespace Toy
open PySem L2
open PySem.Builtin.Int (intBits)
def top(i:Nat):Stmt:=PySem.Challenge.pw_keelbond_k08_tables_judged.main.body.getD i (.Pass ⟨0,0,0,0⟩)
abbrev s_common_factor:Stmt:=top 5
theorem sc_common_factor:FnScope ["number", "under", "greater", "lesser", "rest"] ["number", "under"] (defScope s_common_factor):=⟨rfl,rfl,rfl,by decide +kernel,rfl,by decide +kernel,by decide +kernel⟩
abbrev s_lowest:Stmt:=top 6
theorem sc_lowest:FnScope ["number", "under", "factor"] ["number", "under"] (defScope s_lowest):=⟨rfl,rfl,rfl,by decide +kernel,rfl,by decide +kernel,by decide +kernel⟩
abbrev s_below:Stmt:=top 7
theorem sc_below:FnScope ["one", "other"] ["one", "other"] (defScope s_below):=⟨rfl,rfl,rfl,by decide +kernel,rfl,by decide +kernel,by decide +kernel⟩
abbrev s_one_under:Stmt:=top 8
theorem sc_one_under:FnScope ["row", "reached", "part"] ["row"] (defScope s_one_under):=⟨rfl,rfl,rfl,by decide +kernel,rfl,by decide +kernel,by decide +kernel⟩
abbrev s_numbers_over:Stmt:=top 9
theorem sc_numbers_over:FnScope ["row", "under"] ["row", "under"] (defScope s_numbers_over):=⟨rfl,rfl,rfl,by decide +kernel,rfl,by decide +kernel,by decide +kernel⟩
abbrev s_total:Stmt:=top 10
theorem sc_total:FnScope ["row", "under"] ["row"] (defScope s_total):=⟨rfl,rfl,rfl,by decide +kernel,rfl,by decide +kernel,by decide +kernel⟩
abbrev s_good_row:Stmt:=top 12
theorem sc_good_row:FnScope ["many", "touched", "part", "row", "fund", "paid"] ["many", "touched", "part", "row"] (defScope s_good_row):=⟨rfl,rfl,rfl,by decide +kernel,rfl,by decide +kernel,by decide +kernel⟩
abbrev s_good_table:Stmt:=top 13
theorem sc_good_table:FnScope ["worths", "claims", "parts", "rows", "claim", "part", "row", "fund", "worth"] ["worths", "claims", "parts", "rows"] (defScope s_good_table):=⟨rfl,rfl,rfl,by decide +kernel,rfl,by decide +kernel,by decide +kernel⟩
abbrev s__law_bag:Stmt:=top 15
theorem sc__law_bag:FnScope ["_law_script", "_law_salt", "_law_one"] ["_law_script"] (defScope s__law_bag):=⟨rfl,rfl,rfl,by decide +kernel,rfl,by decide +kernel,by decide +kernel⟩
abbrev s__law_pull:Stmt:=top 16
theorem sc__law_pull:FnScope ["_law_bag_here", "_law_many_here", "_law_seed", "_law_mixed", "_law_drawn"] ["_law_bag_here", "_law_many_here"] (defScope s__law_pull):=⟨rfl,rfl,rfl,by decide +kernel,rfl,by decide +kernel,by decide +kernel⟩
abbrev s__law_gcd:Stmt:=top 17
theorem sc__law_gcd:FnScope ["_law_one", "_law_other"] ["_law_one", "_law_other"] (defScope s__law_gcd):=⟨rfl,rfl,rfl,by decide +kernel,rfl,by decide +kernel,by decide +kernel⟩
abbrev s__law_low:Stmt:=top 18
theorem sc__law_low:FnScope ["_law_number", "_law_under", "_law_by"] ["_law_number", "_law_under"] (defScope s__law_low):=⟨rfl,rfl,rfl,by decide +kernel,rfl,by decide +kernel,by decide +kernel⟩
abbrev s__law_plus:Stmt:=top 19
theorem sc__law_plus:FnScope ["_law_one", "_law_other"] ["_law_one", "_law_other"] (defScope s__law_plus):=⟨rfl,rfl,rfl,by decide +kernel,rfl,by decide +kernel,by decide +kernel⟩
abbrev s__law_less:Stmt:=top 20
theorem sc__law_less:FnScope ["_law_one", "_law_other"] ["_law_one", "_law_other"] (defScope s__law_less):=⟨rfl,rfl,rfl,by decide +kernel,rfl,by decide +kernel,by decide +kernel⟩
abbrev s__law_times:Stmt:=top 21
theorem sc__law_times:FnScope ["_law_one", "_law_other"] ["_law_one", "_law_other"] (defScope s__law_times):=⟨rfl,rfl,rfl,by decide +kernel,rfl,by decide +kernel,by decide +kernel⟩
abbrev s__law_below:Stmt:=top 22
theorem sc__law_below:FnScope ["_law_one", "_law_other"] ["_law_one", "_law_other"] (defScope s__law_below):=⟨rfl,rfl,rfl,by decide +kernel,rfl,by decide +kernel,by decide +kernel⟩
abbrev s__law_sum:Stmt:=top 23
theorem sc__law_sum:FnScope ["_law_row", "_law_found", "_law_one"] ["_law_row"] (defScope s__law_sum):=⟨rfl,rfl,rfl,by decide +kernel,rfl,by decide +kernel,by decide +kernel⟩
abbrev s__law_whole:Stmt:=top 24
theorem sc__law_whole:FnScope ["_law_found"] ["_law_found"] (defScope s__law_whole):=⟨rfl,rfl,rfl,by decide +kernel,rfl,by decide +kernel,by decide +kernel⟩
abbrev s__law_pair:Stmt:=top 25
theorem sc__law_pair:FnScope ["_law_found"] ["_law_found"] (defScope s__law_pair):=⟨rfl,rfl,rfl,by decide +kernel,rfl,by decide +kernel,by decide +kernel⟩
abbrev s__law_pairs:Stmt:=top 26
theorem sc__law_pairs:FnScope ["_law_found", "_law_many_here"] ["_law_found", "_law_many_here"] (defScope s__law_pairs):=⟨rfl,rfl,rfl,by decide +kernel,rfl,by decide +kernel,by decide +kernel⟩
abbrev s__law_truth:Stmt:=top 27
theorem sc__law_truth:FnScope ["_law_found", "_law_due_here"] ["_law_found", "_law_due_here"] (defScope s__law_truth):=⟨rfl,rfl,rfl,by decide +kernel,rfl,by decide +kernel,by decide +kernel⟩
abbrev s__law_many:Stmt:=top 28
theorem sc__law_many:FnScope ["_law_bag_here"] ["_law_bag_here"] (defScope s__law_many):=⟨rfl,rfl,rfl,by decide +kernel,rfl,by decide +kernel,by decide +kernel⟩
abbrev s__law_heap:Stmt:=top 29
theorem sc__law_heap:FnScope ["_law_bag_here", "_law_many_here", "_law_mask"] ["_law_bag_here", "_law_many_here"] (defScope s__law_heap):=⟨rfl,rfl,rfl,by decide +kernel,rfl,by decide +kernel,by decide +kernel⟩
abbrev s__law_due:Stmt:=top 30
theorem sc__law_due:FnScope ["_law_bag_here", "_law_scale"] ["_law_bag_here", "_law_scale"] (defScope s__law_due):=⟨rfl,rfl,rfl,by decide +kernel,rfl,by decide +kernel,by decide +kernel⟩
abbrev s__law_claims:Stmt:=top 31
theorem sc__law_claims:FnScope ["_law_bag_here", "_law_many_here", "_law_scale", "_law_ranks", "_law_found", "_law_k"] ["_law_bag_here", "_law_many_here"] (defScope s__law_claims):=⟨rfl,rfl,rfl,by decide +kernel,rfl,by decide +kernel,by decide +kernel⟩
abbrev s__law_ceil:Stmt:=top 32
theorem sc__law_ceil:FnScope ["_law_one"] ["_law_one"] (defScope s__law_ceil):=⟨rfl,rfl,rfl,by decide +kernel,rfl,by decide +kernel,by decide +kernel⟩
abbrev s__law_tabled:Stmt:=top 33
theorem sc__law_tabled:FnScope ["_law_bag_here", "_law_many_here", "_law_scale", "_law_under", "_law_claims_here", "_law_rows", "_law_claim", "_law_row", "_law_place", "_law_more", "_law_worths"] ["_law_bag_here"] (defScope s__law_tabled):=⟨rfl,rfl,rfl,by decide +kernel,rfl,by decide +kernel,by decide +kernel⟩
abbrev s__law_good_row:Stmt:=top 34
theorem sc__law_good_row:FnScope ["_law_claim", "_law_part", "_law_row"] ["_law_claim", "_law_part", "_law_row"] (defScope s__law_good_row):=⟨rfl,rfl,rfl,by decide +kernel,rfl,by decide +kernel,by decide +kernel⟩
abbrev s__law_good_table:Stmt:=top 35
theorem sc__law_good_table:FnScope ["_law_worths", "_law_claims_here", "_law_parts", "_law_rows", "_law_place"] ["_law_worths", "_law_claims_here", "_law_parts", "_law_rows"] (defScope s__law_good_table):=⟨rfl,rfl,rfl,by decide +kernel,rfl,by decide +kernel,by decide +kernel⟩
abbrev s__law_bent:Stmt:=top 36
theorem sc__law_bent:FnScope ["_law_bag_here", "_law_worths", "_law_parts", "_law_rows", "_law_way", "_law_many_here", "_law_at", "_law_step", "_law_place", "_law_some"] ["_law_bag_here", "_law_worths", "_law_parts", "_law_rows"] (defScope s__law_bent):=⟨rfl,rfl,rfl,by decide +kernel,rfl,by decide +kernel,by decide +kernel⟩
abbrev s_law:Stmt:=top 37
theorem sc_law:FnScope ["_law_script", "_law_bag_here", "_law_worths", "_law_claims_here", "_law_parts", "_law_rows", "_law_turn", "_law_given", "_law_found"] ["_law_script"] (defScope s_law):=⟨rfl,rfl,rfl,by decide +kernel,rfl,by decide +kernel,by decide +kernel⟩
structure Txt(K:PySem.W.Frag)(mg:Str→Option Value)(cx:Str→Addr):Prop where
 n_sum:mg "sum" = none
 n_enumerate:mg "enumerate" = none
 n_len:mg "len" = none
 n_zip:mg "zip" = none
 n_list:mg "list" = none
 n_abs:mg "abs" = none
 n_isinstance:mg "isinstance" = none
 n_bool:mg "bool" = none
 n_int:mg "int" = none
 n_tuple:mg "tuple" = none
 n_all:mg "all" = none
 n_range:mg "range" = none
 n_max:mg "max" = none
 x_BadPart:Exc K mg "BadPart" (cx "BadPart")
def GoodU2(U:Int)(k:Nat)(m:Int)(c:Cl):Prop:=Du U k c.n c.u∧c.hp.length≤6∧(∀ x∈c.hp,0≤x∧x < m)∧Sz 10 c.rk
def FndAt(H:Hp)(xs:List V)(fs:List (Nat×Int×Int)):Prop:=xs.length=fs.length∧∀(i:Nat) f,fs[i]?=some f→∃ r t,xs[i]?=some (.ref r)∧H r=some (.tup [.ref t,.int f.2.1,.int f.2.2])∧H t=some (.tup ((Srt.sub f.1).map V.int))
structure LvIn(U:Int)(k:Nat)(w c p pl:Addr)(ws:List Int)(xs:List V)(cs:List Cl)(ys:List V)(ps:List (Int×Int))(q:Nat→Bool)(H:Hp):Prop where
 hU:UOk U
 hk:k≤4700
 w:H w=some (.lst (ws.map V.int))
 c:H c=some (.lst xs)
 hC:ClsAt H xs cs
 p:H p=some (.lst ys)
 hR:RowU U k H ys ps
 pl:H pl=some (.lst (plV cs.length q))
 len:cs.length=ps.length
 c16:cs.length≤16
 due:∀ c∈cs,PtOk U k (c.n,c.u)∧c.hp.length≤6
 w6:ws.length≤6
 wz:∀ x∈ws,Sz 200 x
def undB(cs:List Cl)(ps:List (Int×Int))(q:Nat→Bool):Int:=undP (rowL cs ps q cs.length)
abbrev RB(ws:List Int)(cs:List Cl)(ps:List (Int×Int))(q:Nat→Bool)(i:Nat):Int:=roomN (undB cs ps q) ws cs ps q (Srt.sub i)
abbrev DB(cs:List Cl)(ps:List (Int×Int))(q:Nat→Bool)(i:Nat):Int:=dueN (undB cs ps q) cs q (Srt.sub i)
def haltQ(R D:Nat→Int)(n:Nat)(lv:Int×Int)(cs:List Cl)(q:Nat→Bool)(i:Nat):Bool:=q i && (decide (lv=(1,1)) || ((List.range n).filter (tightB R D lv)).any fun j=>inn cs (Srt.sub j) i)
def Nt1(hs:List Int)(r:List (Int×Int)):Prop:=∀ p:Nat,(p:Int)∉hs→r.getD p (0,1)=(0,1)
def NtOk(cs:List Cl)(rss:List (List (Int×Int))):Prop:=∀(i:Nat) c r,cs[i]?=some c→rss[i]?=some r→Nt1 c.hp r
def colN(rss:List (List (Int×Int)))(p:Nat):Int:=(rss.map fun r=>num UM (r.getD p (0,1))).sum
def ColOk(rss:List (List (Int×Int)))(ws:List Int):Prop:=∀ p,p < ws.length→colN rss p≤ws.getD p 0*UM
theorem Nt1.rep{hs:List Int}{m:Nat}:Nt1 hs (List.replicate m (0,1)):=fun p _=>by
 rw[List.getD_eq_getElem?_getD,List.getElem?_replicate]
 split<;>rfl
theorem Nt1.put{hs:List Int}{r:List (Int×Int)}{x:Int}{v:Int×Int}(h:Nt1 hs r)(hx:x∈hs)(h0:0≤x):Nt1 hs (r.set x.toNat v):=fun p hp=>by
 have ne:x.toNat≠p:=fun z=>hp (by rw[← z,Int.toNat_of_nonneg h0];exact hx)
 have:=h p hp
 rw[List.getD_eq_getElem?_getD] at this ⊢
 rw[List.getElem?_set_ne ne]
 exact this
theorem NtOk.nil:NtOk [] []:=fun i c r h=>by simp at h
theorem NtOk.snoc{cs:List Cl}{rss:List (List (Int×Int))}{c:Cl}{r:List (Int×Int)}(h:NtOk cs rss)(e:rss.length=cs.length)(hr:Nt1 c.hp r):NtOk (cs++[c]) (rss++[r]):=fun i c' r' hc h'=>by
 by_cases hi:i < cs.length
 ·rw[List.getElem?_append_left hi] at hc
  rw[List.getElem?_append_left (by omega)] at h'
  exact h i c' r' hc h'
 ·have hl:=(List.getElem?_eq_some_iff.mp hc).1
  rw[List.length_append] at hl
  have e2:i=cs.length:=by
   have:([c]:List Cl).length=1:=rfl
   omega
  subst e2
  rw[List.getElem?_append_right (Nat.le_refl _),Nat.sub_self] at hc
  rw[List.getElem?_append_right (by omega),e,Nat.sub_self] at h'
  cases hc
  cases h'
  exact hr
theorem ColOk.snoc{rss:List (List (Int×Int))}{ws:List Int}{x:Int}{j:Nat}(h:ColOk rss ws)(e:ws.length=j)(hx:colN rss j≤x*UM):ColOk rss (ws++[x]):=fun p hp=>by
 rw[List.getD_eq_getElem?_getD]
 by_cases hl:p < ws.length
 ·have:=h p hl
  rw[List.getD_eq_getElem?_getD] at this
  rw[List.getElem?_append_left hl]
  exact this
 ·rw[List.length_append] at hp
  have e2:p=ws.length:=by
   have:([x]:List Int).length=1:=rfl
   omega
  rw[e2,List.getElem?_append_right (Nat.le_refl _),Nat.sub_self,e]
  exact hx
theorem ceil_le{S:Int×Int}(o:Ok UM S):num UM S≤-(-S.1 / S.2)*UM:=by
 have hp:=o.pos
 have h1:=Int.ediv_mul_le (-S.1) (by omega:S.2≠0)
 have h2:=num_mul o
 have h3:S.1≤-(-S.1 / S.2)*S.2:=by rw[Int.neg_mul];omega
 have h4:=Int.mul_le_mul_of_nonneg_right h3 (Int.le_of_lt um_ok.pos)
 generalize -(-S.1 / S.2)=c at h4 ⊢
 refine Int.le_of_mul_le_mul_right (a:=S.2) ?_ hp
 rw[h2]
 have e:c*UM*S.2=c*S.2*UM:=by rw[Int.mul_assoc,Int.mul_comm UM,← Int.mul_assoc]
 rw[e]
 exact h4
structure Tb(H0:Hp)(B L F C Z:Addr)(xs0:List V)(cs0:List Cl)(xs:List V)(cs:List Cl)(zs:List V)(rss:List (List (Int×Int)))(H:Hp):Prop where
 b:BagAt H B L
 fr:Fr1 B H0 H
 f:H F=some (.lst xs0)
 hF:ClsAt H xs0 cs0
 c:H C=some (.lst xs)
 hC:ClsAt H xs cs
 z:H Z=some (.lst zs)
 hZ:RowsAt [B,L,F,C,Z] UM 115 H zs rss
 hz0:∀ l,V.ref l∈zs→H0 l=none
structure Tn(H0:Hp)(B L F C Z:Addr):Prop where
 fB:F≠B
 fL:F≠L
 cB:C≠B
 cL:C≠L
 zB:Z≠B
 zL:Z≠L
 fC:F≠C
 fZ:F≠Z
 cZ:C≠Z
 f0:H0 F=none
 c0:H0 C=none
 z0:H0 Z=none
theorem Tb.pull{H0:Hp}{B L F C Z:Addr}{xs0:List V}{cs0:List Cl}{xs:List V}{cs:List Cl}{zs:List V}{rss:List (List (Int×Int))}{H:Hp}{H':Hp}(t:Tb H0 B L F C Z xs0 cs0 xs cs zs rss H)(n:Tn H0 B L F C Z)(f:Fr1 B H H')(b:BagAt H' B L):Tb H0 B L F C Z xs0 cs0 xs cs zs rss H':=by
 have s:=TS.fr t.b f
 exact⟨b,t.fr.trans f,f _ _ n.fB t.f,t.hF.ts s,f _ _ n.cB t.c,t.hC.ts s,f _ _ n.zB t.z,t.hZ.step (fun l xs _ hx h=>f l _ (fun e=>hx (by rw[e];exact List.mem_cons_self)) h) s,t.hz0⟩
theorem Tb.same{H0:Hp}{B L F C Z:Addr}{xs0:List V}{cs0:List Cl}{xs:List V}{cs:List Cl}{zs:List V}{rss:List (List (Int×Int))}{H:Hp}{H':Hp}(t:Tb H0 B L F C Z xs0 cs0 xs cs zs rss H)(s:Same H H'):Tb H0 B L F C Z xs0 cs0 xs cs zs rss H' :=
 ⟨t.b.keep s,t.fr.trans (Fr1.of s),s _ _ t.f,t.hF.ts (TS.of s),s _ _ t.c,t.hC.ts (TS.of s),s _ _ t.z,t.hZ.step (fun l xs _ _ h=>s _ _ h) (TS.of s),t.hz0⟩
theorem Tb.row{H0:Hp}{B L F C Z:Addr}{xs0:List V}{cs0:List Cl}{xs:List V}{cs:List Cl}{zs:List V}{rss:List (List (Int×Int))}{H:Hp}{a:Addr}{ys ys':List V}(t:Tb H0 B L F C Z xs0 cs0 xs cs zs rss H)(ha:H a=some (.lst ys))(nB:a≠B)(nL:a≠L)(nF:a≠F)(nC:a≠C)(nZ:a≠Z)(nz:V.ref a∉zs)(h0:H0 a=none):Tb H0 B L F C Z xs0 cs0 xs cs zs rss (upd H a (.lst ys')):=by
 have s:TS H (upd H a (.lst ys')):=TS.lst ha
 refine⟨t.b.put nB nL,fun b o hb h=>?_,by rw[upd_ne nF.symm];exact t.f,t.hF.ts s,by rw[upd_ne nC.symm];exact t.c,t.hC.ts s,by rw[upd_ne nZ.symm];exact t.z,t.hZ.step (fun l xs hl _ h=>?_) s,t.hz0⟩
 ·rw[upd_ne (fun e=>by rw[e,h0] at h;cases h)]
  exact t.fr b o hb h
 ·rw[upd_ne (fun e=>nz (by rw[← e];exact hl))]
  exact h
theorem Tb.addRow{H0:Hp}{B L F C Z:Addr}{xs0:List V}{cs0:List Cl}{xs:List V}{cs:List Cl}{zs:List V}{rss:List (List (Int×Int))}{H:Hp}{r:Addr}{ys:List V}{row:List (Int×Int)}(t:Tb H0 B L F C Z xs0 cs0 xs cs zs rss H)(n:Tn H0 B L F C Z)(hr:H r=some (.lst ys))(hR:RowU UM 115 H ys row)(rB:r≠B)(rL:r≠L)(rF:r≠F)(rC:r≠C)(rZ:r≠Z)(rz:V.ref r∉zs)(r0:H0 r=none):Tb H0 B L F C Z xs0 cs0 xs cs (zs++[.ref r]) (rss++[row]) (upd H Z (.lst (zs++[.ref r]))):=by
 have s:TS H (upd H Z (.lst (zs++[.ref r]))):=TS.lst t.z
 refine⟨t.b.put n.zB n.zL,fun b o hb h=>?_,by rw[upd_ne n.fZ];exact t.f,t.hF.ts s,by rw[upd_ne n.cZ];exact t.c,t.hC.ts s,upd_same,?_,fun l hl=>?_⟩
 ·rw[upd_ne (fun e=>by rw[e,n.z0] at h;cases h)]
  exact t.fr b o hb h
 ·refine (t.hZ.step (fun l xs hl hx h=>?_) s).snoc rz (by rw[upd_ne rZ];exact hr) (hR.ts s) ?_
  ·rw[upd_ne (fun e=>hx (by rw[e];simp))]
   exact h
  ·simp[rB,rL,rF,rC,rZ]
 ·rcases List.mem_append.mp hl with hl | hl
  ·exact t.hz0 l hl
  ·have:=List.mem_singleton.mp hl
   cases this
   exact r0
theorem Tb.addClaim{H0:Hp}{B L F C Z:Addr}{xs0:List V}{cs0:List Cl}{xs:List V}{cs:List Cl}{zs:List V}{rss:List (List (Int×Int))}{H:Hp}{v:V}{c:Cl}(t:Tb H0 B L F C Z xs0 cs0 xs cs zs rss H)(n:Tn H0 B L F C Z)(hv:ClAt H v c):Tb H0 B L F C Z xs0 cs0 (xs++[v]) (cs++[c]) zs rss (upd H C (.lst (xs++[v]))):=by
 have s:TS H (upd H C (.lst (xs++[v]))):=TS.lst t.c
 refine⟨t.b.put n.cB n.cL,fun b o hb h=>?_,by rw[upd_ne n.fC];exact t.f,t.hF.ts s,upd_same,(t.hC.ts s).snoc (hv.ts s),by rw[upd_ne n.cZ.symm];exact t.z,t.hZ.step (fun l xs hl hx h=>?_) s,t.hz0⟩
 ·rw[upd_ne (fun e=>by rw[e,n.c0] at h;cases h)]
  exact t.fr b o hb h
 ·rw[upd_ne (fun e=>hx (by rw[e];simp))]
  exact h
theorem add_du{U:Int}(hU:0 < U){k j:Nat}{a b:Int×Int}(ha:PtOk U k a)(hb:PtOk U k b)(na:0≤a.1)(nb:0≤b.1)(hj:k+1≤j):Du U j (addP a b).1 (addP a b).2:=by
 have e:=add_ok hU ha.toOk hb.toOk
 have o:Ok U (addP a b):=by rw[e];exact low_ok hU
 have en:num U (addP a b)=num U a+num U b:=by rw[e,num_low hU]
 refine⟨⟨o,?_⟩,?_⟩
 ·show Sz j (num U (addP a b))
  rw[en]
  exact Sz.mono (Sz.add ha.sz hb.sz) hj
 ·have h1:=(nn_num hU ha.toOk).mp na
  have h2:=(nn_num hU hb.toOk).mp nb
  exact (nn_num hU o).mpr (by rw[en];omega)
def RwOk(m:Nat)(r:List (Int×Int)):Prop:=r.length=m∧∀ p∈r,0≤p.1
structure Tf(H0:Hp)(B L W C P Z:Addr)(ws:List Int)(xs:List V)(cs:List Cl)(ys:List V)(ps:List (Int×Int))(zs:List V)(rss:List (List (Int×Int)))(H:Hp):Prop where
 b:BagAt H B L
 fr:Fr1 B H0 H
 w:H W=some (.lst (ws.map V.int))
 c:H C=some (.lst xs)
 hC:ClsAt H xs cs
 p:H P=some (.lst ys)
 hR:RowU UM 121 H ys ps
 z:H Z=some (.lst zs)
 hZ:RowsAt [B,L,W,C,P,Z] UM 115 H zs rss
 w0:H0 W=none
 c0:H0 C=none
 p0:H0 P=none
 z0:H0 Z=none
 wc:W≠C
 wp:W≠P
 wz:W≠Z
 cp:C≠P
 cz:C≠Z
 pz:P≠Z
 w6:ws.length≤6
 wsz:∀ x∈ws,0≤x∧Sz 140 x
 c16:cs.length≤16
 pl:ps.length=cs.length
 rl:rss.length=cs.length
 hG:∀ c∈cs,GoodU2 UM 122 ws.length c
 hr:∀ r∈rss,RwOk ws.length r
 eP:ps=rss.map sumP
 hn:NtOk cs rss
 col:ColOk rss ws
structure Ap(B L W C P Pl:Addr):Prop where
 wB:W≠B
 wL:W≠L
 cB:C≠B
 cL:C≠L
 pB:P≠B
 pL:P≠L
 plB:Pl≠B
 plL:Pl≠L
 wP:W≠P
 cP:C≠P
 plP:Pl≠P
def newP(lv:Int×Int)(cs:List Cl)(i:Nat):Int×Int:=low (lv.1*(dueP cs i).1) (lv.2*(dueP cs i).2)
def stp(lv:Int×Int)(cs:List Cl)(ps:List (Int×Int))(hq:Nat→Bool):List (Int×Int):=(List.range ps.length).map fun i=>if hq i=true then newP lv cs i else ps.getD i (0,1)
abbrev RU(U:Int)(ws:List Int)(cs:List Cl)(ps:List (Int×Int))(q:Nat→Bool)(i:Nat):Int:=roomN U ws cs ps q (Srt.sub i)
abbrev DU(U:Int)(cs:List Cl)(q:Nat→Bool)(i:Nat):Int:=dueN U cs q (Srt.sub i)
structure FC(U0:Int)(ws:List Int)(cs:List Cl):Prop where
 u0:0 < U0
 uz:Sz 90 U0
 due:∀ c∈cs,PtOk U0 180 (c.n,c.u)∧0≤c.n∧c.hp.length≤6
 c16:cs.length≤16
 w6:ws.length≤6
 wz:∀ x∈ws,Sz 200 x
structure FI(U0:Int)(ws:List Int)(cs:List Cl)(r:Nat)(U:Int)(ps:List (Int×Int))(q:Nat→Bool):Prop where
 up:0 < U
 dvd:U0∣U
 uz:Sz (90+200*r) U
 len:ps.length=cs.length
 ok:∀ i,i < cs.length→PtOk U (300+200*r) (ps.getD i (0,1))
 room:∀ j,j < 2 ^ ws.length→0≤RU U ws cs ps q j
def Hd(U:Int)(ws:List Int)(cs:List Cl)(ps:List (Int×Int))(q:Nat→Bool)(i:Nat):Prop:=ps.getD i (0,1)=dueP cs i∨∃ j,j < 2 ^ ws.length∧inn cs (Srt.sub j) i=true∧(∀ a∈insL cs (Srt.sub j),q a=false)∧RU U ws cs ps q j=0
def Bd(U:Int)(cs:List Cl)(ps:List (Int×Int))(q:Nat→Bool):Prop:=∀ i,i < cs.length→q i=false→0≤num U (ps.getD i (0,1))∧num U (ps.getD i (0,1))≤num U (dueP cs i)
section
variable {U0 U:Int}{ws:List Int}{cs:List Cl}{r:Nat}{ps:List (Int×Int)}{q:Nat→Bool}{lv:Int×Int}
def lvP(ws:List Int)(cs:List Cl)(ps:List (Int×Int))(q:Nat→Bool):Int×Int:=low (lfold (fndL (RB ws cs ps q) (DB cs ps q) (ordL (2 ^ ws.length)))).1 (lfold (fndL (RB ws cs ps q) (DB cs ps q) (ordL (2 ^ ws.length)))).2
def hqP(ws:List Int)(cs:List Cl)(ps:List (Int×Int))(q:Nat→Bool):Nat→Bool:=haltQ (RB ws cs ps q) (DB cs ps q) (2 ^ ws.length) (lvP ws cs ps q) cs q
end
def RowV(H:Hp)(xs:List V)(ps:List (Int×Int)):Prop:=xs.length=ps.length∧∀(i:Nat) p,ps[i]?=some p→∃ r,xs[i]?=some (.ref r)∧H r=some (.tup [.int p.1,.int p.2])
theorem RowV.ts{H H':Hp}{xs:List V}{ps:List (Int×Int)}(h:RowV H xs ps)(s:TS H H'):RowV H' xs ps:=⟨h.1,fun i p hp=>by
 obtain⟨r,e,h1⟩:=h.2 i p hp
 exact⟨r,e,s _ _ h1⟩⟩
theorem RowU.toV{U:Int}{k:Nat}{H:Hp}{xs:List V}{ps:List (Int×Int)}(h:RowU U k H xs ps):RowV H xs ps:=⟨h.1,fun i p hp=>by
 obtain⟨r,e,h1,_⟩:=h.2 i p hp
 exact⟨r,e,h1⟩⟩
theorem RowV.dens{H:Hp}{xs:List V}{ps:List (Int×Int)}(h:RowV H xs ps):Dens H (ps.map pD) xs:=dens_of ps xs h.1 fun i p hp=>h.2 i p hp
theorem RowV.set{H:Hp}{xs:List V}{ps:List (Int×Int)}{r:Addr}{p:Int×Int}{j:Nat}(h:RowV H xs ps)(hr:H r=some (.tup [.int p.1,.int p.2])):RowV H (xs.set j (.ref r)) (ps.set j p):=by
 refine⟨by rw[List.length_set,List.length_set,h.1],fun i q hq=>?_⟩
 by_cases e:j=i
 ·subst e
  rw[List.getElem?_set,if_pos rfl] at hq
  split at hq
  ·cases hq
   refine⟨r,?_,hr⟩
   rw[List.getElem?_set,if_pos rfl,if_pos (by rw[h.1];assumption)]
  ·cases hq
 ·rw[List.getElem?_set_ne e] at hq
  rw[List.getElem?_set_ne e]
  exact h.2 i q hq
structure FdIn(w c p pl:Addr)(ws:List Int)(xs:List V)(cs:List Cl)(ys:List V)(ps:List (Int×Int))(q:Nat→Bool)(H:Hp):Prop where
 w:H w=some (.lst (ws.map V.int))
 c:H c=some (.lst xs)
 hC:ClsAt H xs cs
 p:H p=some (.lst ys)
 hR:RowV H ys ps
 pl:H pl=some (.lst (plV cs.length q))
theorem ixN_nat{n i:Nat}(h:i < n):ixN n (i:Int)=some i:=by
 unfold ixN
 rw[if_pos (by omega),if_pos (by omega),Int.toNat_natCast]
abbrev q0:Nat→Bool:=fun _=>false
abbrev fdD(ws:List Int)(cs:List Cl)(ps:List (Int×Int))(q:Nat→Bool):Dt:=.tup [.lst (ws.map Dt.int),.lst (cs.map cD),.lst (ps.map pD),.lst ((plL cs.length q).map Dt.int)]
def rkP(cs:List Cl)(i:Nat):Int:=match cs[i]? with
 | some c=>c.rk
 | none=>0
def qR(cs:List Cl)(r:Int)(i:Nat):Bool:=decide (rkP cs i=r) && !decide ((dueP cs i).1=0∧(dueP cs i).2=1)
def row0(cs:List Cl):List (Int×Int):=List.replicate cs.length (0,1)
section
variable {U0 U:Int}{ws:List Int}{cs:List Cl}{r:Nat}{ps:List (Int×Int)}
end
structure ShIn(w c:Addr)(ws:List Int)(xs:List V)(cs:List Cl)(H:Hp):Prop where
 w:H w=some (.lst (ws.map V.int))
 c:H c=some (.lst xs)
 hC:ClsAt H xs cs
theorem ShIn.same{w c:Addr}{ws:List Int}{xs:List V}{cs:List Cl}{H H':Hp}(x:ShIn w c ws xs cs H)(s:Same H H'):ShIn w c ws xs cs H':=⟨s _ _ x.w,s _ _ x.c,x.hC.ts (TS.of s)⟩
structure RkOk(cs:List Cl)(zs:List Int):Prop where
 lt:zs.Pairwise (· < ·)
 mem:∀ k,k∈zs↔k∈cs.map (·.rk)
abbrev shD(ws:List Int)(cs:List Cl):Dt:=.tup [.lst (ws.map Dt.int),.lst (cs.map cD)]
theorem cmp_sh{ws:List Int}{cs:List Cl}:Cmp 8 (shD ws cs) (shD ws cs):=by
 refine cmp_tup fun d hd=>?_
 simp only[List.mem_cons,List.not_mem_nil,or_false] at hd
 rcases hd with rfl | rfl
 ·exact cmp_lst (cmp_ints ws)
 ·exact cmp_lst fun d hd=>by
   obtain⟨c,_,rfl⟩:=List.mem_map.mp hd
   exact cmp_cD c
structure Cas(H0:Hp)(B L W C:Addr)(ws:List Int)(xs:List V)(cs:List Cl)(H:Hp):Prop where
 b:BagAt H B L
 fr:Fr1 B H0 H
 sh:ShIn W C ws xs cs H
 fc:FC UM ws cs
 w0:∀ x∈ws,0≤x
 wB:W≠B
 cB:C≠B
 gd:∀ c∈cs,PtOk UM 122 (c.n,c.u)∧Sz 10 c.rk∧∀ x∈c.hp,0≤x∧x < (ws.length:Int)
 wz:∀ x∈ws,Sz 140 x
theorem rk_at{rs:List Int}(h:∀ r∈rs,Sz 10 r){j:Nat}(hj:j < rs.length):Sz 10 (rs.getD j 0):=by
 have e:rs.getD j 0=rs[j]:=by simp[List.getD_eq_getElem?_getD,hj]
 rw[e]
 exact h _ (List.getElem_mem hj)
theorem for_enumN{K:PySem.W.Frag}{a:Addr}{xs:List V}{g:TG}{tb:L2.TS}{D:Ends}{σ:St}{H:Hp}(Pv:Nat→St→Hp→Prop)(h0:Pv 0 σ H)(hl:∀ i σ H,i≤xs.length→Pv i σ H→SqL K H a xs)
  (hs:∀(i:Nat)(x:V)(p:Addr)(σ:St)(H H':Hp)(N B:St→Hp→Prop),xs[i]?=some x→H p=none→Same H H'→H' p=some (.tup [.int (i:Int),x])→Pv i σ H→(∀ σ' H',Pv (i+1) σ' H'→N σ' H')→(∀ σ' H',D.nx σ' H'→B σ' H')→g (.ref p) σ H' fun σ2 H2=>tb { nx:=N,rt:=D.rt,bk:=B,ct:=N } σ2 H2) (hd:∀ σ H,Pv xs.length σ H→D.nx σ H) :
  ∃ W:Nat→Nat→St→Hp→Prop,(∃ m,W 0 m σ H)∧∀ i m σ H,W i m σ H →
   ((Itn K a).stop i H∧D.nx σ H)∨((Itn K a).go i H∧∃ N:St→Hp→Prop,(∀ σ' H',N σ' H'→∃ m',m' < m∧W (i+1) m' σ' H')∧∀ x H',(Itn K a).yld i H x H'→g x σ H' fun σ2 H2=>tb { D with nx:=N,ct:=N,bk:=D.nx } σ2 H2):=by
 refine⟨fun i m σ H=>m=xs.length - i∧i≤xs.length∧Pv i σ H,⟨xs.length,by simp,Nat.zero_le _,h0⟩,?_⟩
 rintro i m σ H ⟨rfl,hi,p⟩
 have q:=hl i σ H hi p
 by_cases hlt:i < xs.length
 ·refine .inr ⟨⟨xs,xs[i],q,by simp[hlt]⟩,Pv (i+1),fun σ' H' p'=>⟨xs.length - (i+1),by omega,rfl,hlt,p'⟩,fun v H' y=>?_⟩
  obtain⟨pp,x,hn,y1,rfl,rfl⟩:=y
  exact hs i x pp σ H _ (Pv (i+1)) D.nx (y1 xs q) hn (Same.new hn) upd_same p (fun _ _ h=>h) fun _ _ h=>h
 ·have e:i=xs.length:=by omega
  subst e
  exact .inl ⟨⟨xs,q,rfl⟩,hd σ H p⟩
theorem less_pt{U:Int}(hU:0 < U){k:Nat}{a b:Int×Int}(ha:PtOk U k a)(hb:PtOk U k b):PtOk U (k+1) (low (a.1*b.2 - b.1*a.2) (a.2*b.2)):=by
 rw[less_ok hU ha.toOk hb.toOk]
 exact⟨low_ok hU,by rw[num_low hU];exact ha.sz.sub hb.sz⟩
theorem plus_pt{U:Int}(hU:0 < U){k:Nat}{a b:Int×Int}(ha:PtOk U k a)(hb:PtOk U k b):PtOk U (k+1) (low (a.1*b.2+b.1*a.2) (a.2*b.2)):=by
 have e:low (a.1*b.2+b.1*a.2) (a.2*b.2)=low (num U a+num U b) U:=by
  refine low_same (Int.mul_pos ha.pos hb.pos) hU ?_
  have h1:=num_mul ha.toOk
  have h2:=num_mul hb.toOk
  have e1:a.1*b.2*U=num U a*(a.2*b.2):=by rw[Int.mul_right_comm,← h1,Int.mul_assoc]
  have e2:b.1*a.2*U=num U b*(a.2*b.2):=by rw[Int.mul_right_comm,← h2,Int.mul_assoc,Int.mul_comm b.2]
  rw[Int.add_mul,Int.add_mul,e1,e2]
 rw[e]
 exact⟨low_ok hU,by rw[num_low hU];exact ha.sz.add hb.sz⟩
def gdRow(m:Nat)(hs:List Int)(part:Int×Int)(row:List (Int×Int)):Prop:=row.length=m∧sumP row=part∧∀ k,k < row.length→0≤(row.getD k (0,1)).1∧(row.getD k (0,1)=(0,1)∨(k:Int)∈hs)
def colP(rss:List (List (Int×Int)))(f:Nat):List (Int×Int):=rss.map fun r=>r.getD f (0,1)
def gdTab(ws:List Int)(cs:List Cl)(ps:List (Int×Int))(rss:List (List (Int×Int))):Prop :=
 rss.length=cs.length∧(∀ i,i < cs.length→gdRow ws.length (heapP cs i) (ps.getD i (0,1)) (rss.getD i []))∧∀ f,f < ws.length→¬ ws.getD f 0*(sumP (colP rss f)).2 < (sumP (colP rss f)).1*1
def RsV(k:Nat)(H:Hp)(zs:List V)(rss:List (List (Int×Int))):Prop:=zs.length=rss.length∧∀(i:Nat) r,rss[i]?=some r→∃ l xs,zs[i]?=some (.ref l)∧H l=some (.lst xs)∧RowU UM k H xs r∧r.length≤12
theorem RsV.same{k:Nat}{H H':Hp}{zs:List V}{rss:List (List (Int×Int))}(h:RsV k H zs rss)(s:Same H H'):RsV k H' zs rss:=⟨h.1,fun i r hr=>by
 obtain⟨l,xs,e,h1,h2,h3⟩:=h.2 i r hr
 exact⟨l,xs,e,s _ _ h1,h2.ts (TS.of s),h3⟩⟩
theorem RsV.dens{k:Nat}{H:Hp}{zs:List V}{rss:List (List (Int×Int))}(h:RsV k H zs rss):Dens H (rss.map fun r=>Dt.lst (r.map pD)) zs:=by
 induction rss generalizing zs with
 | nil =>
  have:zs=[]:=List.eq_nil_of_length_eq_zero h.1
  subst this
  exact dens0
 | cons r rss ih =>
  obtain⟨l,xs,e,h1,h2,_⟩:=h.2 0 r rfl
  cases zs with
  | nil=>cases e
  | cons v zs =>
   cases e
   exact dens1 (den_lst h1 h2.toV.dens) (ih ⟨by have:=h.1;simpa using this,fun i r' hr'=>h.2 (i+1) r' hr'⟩)
abbrev tbD(ws:List Int)(cs:List Cl)(ps:List (Int×Int))(rss:List (List (Int×Int))):Dt:=.tup [.lst (ws.map Dt.int),.lst (cs.map cD),.lst (ps.map pD),.lst (rss.map fun r=>Dt.lst (r.map pD))]
theorem cmp_tb{ws:List Int}{cs:List Cl}{ps:List (Int×Int)}{rss:List (List (Int×Int))}:Cmp 8 (tbD ws cs ps rss) (tbD ws cs ps rss):=by
 have h1:=cmp_sh (ws:=ws) (cs:=cs)
 have h2:Cmp 7 (Dt.lst (ps.map pD)) (Dt.lst (ps.map pD)):=cmp_lst fun d hd=>by
  obtain⟨c,_,rfl⟩:=List.mem_map.mp hd
  exact cmp2 _ _ _ _
 have h3:Cmp 7 (Dt.lst (rss.map fun r=>Dt.lst (r.map pD))) (Dt.lst (rss.map fun r=>Dt.lst (r.map pD))):=cmp_lst fun d hd=>by
  obtain⟨r,_,rfl⟩:=List.mem_map.mp hd
  exact cmp_lst fun d hd=>by
   obtain⟨c,_,rfl⟩:=List.mem_map.mp hd
   exact cmp2 _ _ _ _
 unfold Cmp at h1 ⊢
 intro j d e h4 h5
 match j,h4,h5 with
 | 0,h4,h5=>exact h1 0 d e h4 h5
 | 1,h4,h5=>exact h1 1 d e h4 h5
 | 2,h4,h5 =>
  cases h4
  cases h5
  exact h2
 | 3,h4,h5 =>
  cases h4
  cases h5
  exact h3
 | j+4,h4,_=>simp at h4
structure Tz(B L W C P Z:Addr)(t:Nat)(ws:List Int)(xs:List V)(cs:List Cl)(ys:List V)(ps:List (Int×Int))(zs:List V)(rss:List (List (Int×Int)))(H:Hp):Prop where
 b:BagAt H B L
 w:H W=some (.lst (ws.map V.int))
 c:H C=some (.lst xs)
 hC:ClsAt H xs cs
 p:H P=some (.lst ys)
 hP:RowV H ys ps
 z:H Z=some (.lst zs)
 hZ:RowsAt [B,L,W,C,P,Z] UM (116+4*t) H zs rss
 wB:W≠B∧W≠L
 cB:C≠B∧C≠L
 pB:P≠B∧P≠L
 zB:Z≠B∧Z≠L
 wc:W≠C
 wp:W≠P
 wz:W≠Z
 cp:C≠P
 cz:C≠Z
 pz:P≠Z
 w6:ws.length≤6
 wsz:∀ x∈ws,0≤x∧Sz 150 x
 c16:cs.length≤16
 pl:ps.length=cs.length
 psz:∀ q∈ps,0 < q.2∧Sz (300+4*t) q.1∧Sz (300+4*t) q.2
 rn:rss.length≤16+t
 rlen:∀ r∈rss,r.length≤6+t
section
variable {B L W C P Z:Addr}{t:Nat}{ws ws':List Int}{xs:List V}{cs:List Cl}{ys ys':List V}{ps ps':List (Int×Int)}{zs zs':List V}{rss rss':List (List (Int×Int))}{H H':Hp}
theorem RowsAt.wide{X:List Addr}{j k:Nat}(h:RowsAt X UM j H zs rss)(q:j≤k):RowsAt X UM k H zs rss:=⟨h.1,h.2.1,fun i r hr=>by
 obtain⟨l,xs,e,h1,h2,h3⟩:=h.2.2 i r hr
 exact⟨l,xs,e,h1,⟨h2.1,fun i p hp=>by
  obtain⟨r,a,b,c⟩:=h2.2 i p hp
  exact⟨r,a,b,c.mono q⟩⟩,h3⟩⟩
theorem RowsAt.keep{X:List Addr}{k:Nat}(h:RowsAt X UM k H zs rss)(s:Same H H'):RowsAt X UM k H' zs rss:=h.step (fun _ _ _ _ e=>s _ _ e) (TS.of s)
theorem Tz.up(x:Tz B L W C P Z t ws xs cs ys ps zs rss H):Tz B L W C P Z (t+1) ws xs cs ys ps zs rss H :=
 { x with hZ:=x.hZ.wide (by omega),psz:=fun q hq=>⟨(x.psz q hq).1,(x.psz q hq).2.1.mono (by omega),(x.psz q hq).2.2.mono (by omega)⟩,rn:=by have:=x.rn;omega,rlen:=fun r hr=>by have:=x.rlen r hr;omega }
theorem Tz.same(x:Tz B L W C P Z t ws xs cs ys ps zs rss H)(s:Same H H'):Tz B L W C P Z t ws xs cs ys ps zs rss H' :=
 { x with b:=x.b.keep s,w:=s _ _ x.w,c:=s _ _ x.c,hC:=x.hC.ts (TS.of s),p:=s _ _ x.p,hP:=x.hP.ts (TS.of s),z:=s _ _ x.z,hZ:=x.hZ.keep s }
theorem Tz.pull(x:Tz B L W C P Z t ws xs cs ys ps zs rss H)(f:Fr1 B H H')(b:BagAt H' B L):Tz B L W C P Z t ws xs cs ys ps zs rss H' :=
 { x with b:=b,w:=f _ _ x.wB.1 x.w,c:=f _ _ x.cB.1 x.c,hC:=x.hC.ts (TS.fr x.b f),p:=f _ _ x.pB.1 x.p,hP:=x.hP.ts (TS.fr x.b f),z:=f _ _ x.zB.1 x.z,hZ:=x.hZ.step (fun l _ _ hl e=>f _ _ (fun z=>hl (by rw[z];simp)) e) (TS.fr x.b f) }
theorem Tz.putW(x:Tz B L W C P Z t ws xs cs ys ps zs rss H)(f:Fr1 W H H')(hw:H' W=some (.lst (ws'.map V.int)))(l:ws'.length=ws.length)(hz:∀ y∈ws',0≤y∧Sz 150 y):Tz B L W C P Z t ws' xs cs ys ps zs rss H' :=
 have ts:=TS.frl x.w f
 { x with b:=x.b.frm f x.wB.1 x.wB.2,w:=hw,c:=f _ _ x.wc.symm x.c,hC:=x.hC.ts ts,p:=f _ _ x.wp.symm x.p,hP:=x.hP.ts ts,z:=f _ _ x.wz.symm x.z,hZ:=x.hZ.step (fun l _ _ hl e=>f _ _ (fun z=>hl (by rw[z];simp)) e) ts,w6:=by rw[l];exact x.w6,wsz:=hz }
theorem Tz.putP(x:Tz B L W C P Z t ws xs cs ys ps zs rss H)(f:Fr1 P H H')(hp:H' P=some (.lst ys'))(hP:RowV H' ys' ps')(l:ps'.length=ps.length)(hz:∀ q∈ps',0 < q.2∧Sz (300+4*t) q.1∧Sz (300+4*t) q.2):Tz B L W C P Z t ws xs cs ys' ps' zs rss H' :=
 have ts:=TS.frl x.p f
 { x with b:=x.b.frm f x.pB.1 x.pB.2,w:=f _ _ x.wp x.w,c:=f _ _ x.cp x.c,hC:=x.hC.ts ts,p:=hp,hP:=hP,z:=f _ _ x.pz.symm x.z,hZ:=x.hZ.step (fun l _ _ hl e=>f _ _ (fun z=>hl (by rw[z];simp)) e) ts,pl:=by rw[l];exact x.pl,psz:=hz }
theorem Tz.putZ(x:Tz B L W C P Z t ws xs cs ys ps zs rss H)(f:Fr1 Z H H')(hz:H' Z=some (.lst zs'))(hZ:RowsAt [B,L,W,C,P,Z] UM (116+4*t) H' zs' rss')(n:rss'.length≤16+t)(hl:∀ r∈rss',r.length≤6+t):Tz B L W C P Z t ws xs cs ys ps zs' rss' H' :=
 have ts:=TS.frl x.z f
 { x with b:=x.b.frm f x.zB.1 x.zB.2,w:=f _ _ x.wz x.w,c:=f _ _ x.cz x.c,hC:=x.hC.ts ts,p:=f _ _ x.pz x.p,hP:=x.hP.ts ts,z:=hz,hZ:=hZ,rn:=n,rlen:=hl }
theorem Tz.putR{i:Nat}{l:Addr}{as as':List V}{r':List (Int×Int)}(x:Tz B L W C P Z t ws xs cs ys ps zs rss H)(hi:i < rss.length)(el:zs[i]?=some (.ref l))(hl:H l=some (.lst as))(lX:l∉[B,L,W,C,P,Z])(f:Fr1 l H H')(hl':H' l=some (.lst as'))(hr':RowU UM (116+4*t) H' as' r')(hn:r'.length≤6+t):Tz B L W C P Z t ws xs cs ys ps zs (rss.set i r') H':=by
 have ts:=TS.frl hl f
 simp only[List.mem_cons,List.not_mem_nil,or_false,not_or] at lX
 obtain⟨n1,n2,n3,n4,n5,n6⟩:=lX
 refine { x with b:=x.b.frm f n1 n2,w:=f _ _ (Ne.symm n3) x.w,c:=f _ _ (Ne.symm n4) x.c,hC:=x.hC.ts ts,p:=f _ _ (Ne.symm n5) x.p,hP:=x.hP.ts ts,z:=f _ _ (Ne.symm n6) x.z,hZ:=⟨by rw[List.length_set];exact x.hZ.1,x.hZ.2.1,fun j r hr=>?_⟩,rn:=by rw[List.length_set];exact x.rn,rlen:=fun r hr=>?_ }
 ·by_cases e:i=j
  ·subst e
   rw[List.getElem?_set,if_pos rfl,if_pos hi] at hr
   cases hr
   exact⟨l,as',el,hl',hr',by simp[n1,n2,n3,n4,n5,n6]⟩
  ·rw[List.getElem?_set,if_neg e] at hr
   obtain⟨l2,xs2,e2,h1,h2,h3⟩:=x.hZ.2.2 j r hr
   have ne:l2≠l:=fun z=>by
    subst z
    have li:i < zs.length:=(List.getElem?_eq_some_iff.mp el).1
    exact e ((List.getElem?_inj li x.hZ.2.1).mp (el.trans e2.symm))
   exact⟨l2,xs2,e2,f _ _ ne h1,h2.ts ts,h3⟩
 ·rcases List.mem_or_eq_of_mem_set hr with hr | rfl
  ·exact x.rlen r hr
  ·exact hn
theorem Tz.rs(x:Tz B L W C P Z t ws xs cs ys ps zs rss H)(ht:t≤3):RsV (116+4*t) H zs rss:=⟨x.hZ.1,fun i r hr=>by
 obtain⟨l,as,e,h1,h2,_⟩:=x.hZ.2.2 i r hr
 have:=x.rlen r (List.mem_of_getElem? hr)
 exact⟨l,as,e,h1,h2,by omega⟩⟩
theorem Tz.sh(x:Tz B L W C P Z t ws xs cs ys ps zs rss H):ShIn W C ws xs cs H:=⟨x.w,x.c,x.hC⟩
theorem RowU.cut{U:Int}{k:Nat}{as:List V}{r:List (Int×Int)}(h:RowU U k H as r)(lo hi:Option Int):∃ r',RowU U k H (cutV as lo hi) r'∧r'.length≤r.length:=by
 refine⟨(r.drop (HT.sIx as.length 0 lo)).take (HT.sIx as.length as.length hi - HT.sIx as.length 0 lo),⟨?_,fun i p hp=>?_⟩,?_⟩
 ·unfold cutV
  rw[List.length_take,List.length_take,List.length_drop,List.length_drop,h.1]
 ·unfold cutV
  rw[List.getElem?_take] at hp ⊢
  split at hp
  ·rename_i e
   rw[if_pos e]
   rw[List.getElem?_drop] at hp ⊢
   exact h.2 _ p hp
  ·cases hp
 ·rw[List.length_take,List.length_drop]
  omega
theorem Tz.fresh{l:Addr}(x:Tz B L W C P Z t ws xs cs ys ps zs rss H)(hl:H l=none):l∉[B,L,W,C,P,Z]∧V.ref l∉zs:=by
 refine⟨?_,x.hZ.fresh hl⟩
 simp only[List.mem_cons,List.not_mem_nil,or_false,not_or]
 exact⟨x.b.ne hl,x.b.neL hl,(fun z=>by rw[z,x.w] at hl;cases hl),(fun z=>by rw[z,x.c] at hl;cases hl),(fun z=>by rw[z,x.p] at hl;cases hl),(fun z=>by rw[z,x.z] at hl;cases hl)⟩
theorem RowsAt.erase{X:List Addr}{k:Nat}(h:RowsAt X UM k H zs rss){i:Nat}:RowsAt X UM k H (zs.eraseIdx i) (rss.eraseIdx i):=by
 refine⟨by rw[List.length_eraseIdx,List.length_eraseIdx,h.1],h.2.1.sublist (List.eraseIdx_sublist _ _),fun j r hr=>?_⟩
 rw[List.getElem?_eraseIdx] at hr ⊢
 by_cases e:j < i
 ·rw[if_pos e] at hr ⊢
  exact h.2.2 j r hr
 ·rw[if_neg e] at hr ⊢
  exact h.2.2 (j+1) r hr
theorem RowsAt.putN{X:List Addr}{k i:Nat}{l:Addr}{as:List V}{r:List (Int×Int)}(h:RowsAt X UM k H zs rss)(nz:V.ref l∉zs)(hl:H l=some (.lst as))(hr:RowU UM k H as r)(lX:l∉X):RowsAt X UM k H (zs.set i (.ref l)) (rss.set i r):=by
 refine⟨by rw[List.length_set,List.length_set,h.1],?_,fun j q hq=>?_⟩
 ·have nd:=h.2.1
  clear h
  induction zs generalizing i with
  | nil=>exact List.nodup_nil
  | cons v zs ih =>
   obtain⟨n1,n2⟩:=List.nodup_cons.mp nd
   have m1:V.ref l≠v:=fun z=>nz (by rw[z];exact List.mem_cons_self)
   have m2:V.ref l∉zs:=fun z=>nz (List.mem_cons_of_mem _ z)
   cases i with
   | zero=>exact List.nodup_cons.mpr ⟨m2,n2⟩
   | succ i =>
    refine List.nodup_cons.mpr ⟨fun z=>?_,ih m2 n2⟩
    rcases List.mem_or_eq_of_mem_set z with z | z
    ·exact n1 z
    ·exact m1 z.symm
 ·rw[List.getElem?_set] at hq ⊢
  by_cases e:i=j
  ·rw[if_pos e] at hq ⊢
   by_cases e2:i < rss.length
   ·rw[if_pos e2] at hq
    cases hq
    rw[if_pos (by rw[h.1];exact e2)]
    exact⟨l,as,rfl,hl,hr,lX⟩
   ·rw[if_neg e2] at hq
    cases hq
  ·rw[if_neg e] at hq ⊢
   exact h.2.2 j q hq
theorem getE_ins{α:Type}{l:List α}{i j:Nat}{y:α}(hi:i≤l.length):(l.take i++y::l.drop i)[j]?=if j < i then l[j]? else if j=i then some y else l[j - 1]?:=by
 have hl:(l.take i).length=i:=by rw[List.length_take];omega
 by_cases e:j < i
 ·rw[if_pos e,List.getElem?_append_left (by omega),List.getElem?_take,if_pos e]
 ·rw[if_neg e,List.getElem?_append_right (by omega),hl]
  by_cases e2:j=i
  ·subst e2
   rw[if_pos rfl,Nat.sub_self]
   rfl
  ·rw[if_neg e2,show j - i=(j - i - 1)+1 by omega,List.getElem?_cons_succ,List.getElem?_drop,show i+(j - i - 1)=j - 1 by omega]
theorem RowsAt.ins{X:List Addr}{k i:Nat}{l:Addr}{as:List V}{r:List (Int×Int)}(h:RowsAt X UM k H zs rss)(hi:i≤rss.length)(nz:V.ref l∉zs)(hl:H l=some (.lst as))(hr:RowU UM k H as r)(lX:l∉X):RowsAt X UM k H (zs.take i++.ref l::zs.drop i) (rss.take i++r::rss.drop i):=by
 refine⟨?_,?_,fun j q hq=>?_⟩
 ·have:=h.1
  simp only[List.length_append,List.length_take,List.length_cons,List.length_drop]
  omega
 ·refine List.perm_middle.nodup_iff.mpr (List.nodup_cons.mpr ⟨?_,?_⟩)
  ·rw[List.take_append_drop]
   exact nz
  ·rw[List.take_append_drop]
   exact h.2.1
 ·rw[getE_ins hi] at hq
  rw[getE_ins (by rw[h.1];exact hi)]
  by_cases e:j < i
  ·rw[if_pos e] at hq ⊢
   exact h.2.2 j q hq
  ·rw[if_neg e] at hq ⊢
   by_cases e2:j=i
   ·rw[if_pos e2] at hq ⊢
    cases hq
    exact⟨l,as,rfl,hl,hr,lX⟩
   ·rw[if_neg e2] at hq ⊢
    exact h.2.2 _ q hq
theorem Tz.rows(x:Tz B L W C P Z t ws xs cs ys ps zs rss H)(f:Fr1 Z H H'):RowsAt [B,L,W,C,P,Z] UM (116+4*t) H' zs rss:=x.hZ.step (fun l _ _ hl e=>f _ _ (fun z=>hl (by rw[z];simp)) e) (TS.frl x.z f)
theorem Tz.pop{i:Nat}(x:Tz B L W C P Z t ws xs cs ys ps zs rss H)(f:Fr1 Z H H')(hz:H' Z=some (.lst (zs.eraseIdx i))):Tz B L W C P Z t ws xs cs ys ps (zs.eraseIdx i) (rss.eraseIdx i) H' :=
 x.putZ f hz (x.rows f).erase (by have:=x.rn;rw[List.length_eraseIdx];split<;>omega) fun r hr=>x.rlen r ((List.eraseIdx_sublist _ _).subset hr)
theorem Tz.newR{i:Nat}{l:Addr}{as:List V}{r:List (Int×Int)}(x:Tz B L W C P Z t ws xs cs ys ps zs rss H)(f:Fr1 Z H H')(hz:H' Z=some (.lst (zs.set i (.ref l))))(nz:V.ref l∉zs)(lX:l∉[B,L,W,C,P,Z])(hl:H' l=some (.lst as))(hr:RowU UM (116+4*t) H' as r)(hn:r.length≤6+t):Tz B L W C P Z t ws xs cs ys ps (zs.set i (.ref l)) (rss.set i r) H' :=
 x.putZ f hz ((x.rows f).putN nz hl hr lX) (by rw[List.length_set];exact x.rn) fun q hq=>by
  rcases List.mem_or_eq_of_mem_set hq with hq | rfl
  ·exact x.rlen q hq
  ·exact hn
theorem Tz.insR{i:Nat}{l:Addr}{as:List V}{r:List (Int×Int)}(x:Tz B L W C P Z t ws xs cs ys ps zs rss H)(f:Fr1 Z H H')(hi:i≤rss.length)(hz:H' Z=some (.lst (zs.take i++.ref l::zs.drop i)))(nz:V.ref l∉zs)(lX:l∉[B,L,W,C,P,Z])(hl:H' l=some (.lst as))(hr:RowU UM (116+4*t) H' as r)(hn:r.length≤6+t)(rn:rss.length < 16+t):Tz B L W C P Z t ws xs cs ys ps (zs.take i++.ref l::zs.drop i) (rss.take i++r::rss.drop i) H' :=
 x.putZ f hz ((x.rows f).ins hi nz hl hr lX) (by simp only[List.length_append,List.length_take,List.length_cons,List.length_drop];omega) fun q hq=>by
  rcases List.mem_append.mp hq with hq | hq
  ·exact x.rlen q (List.mem_of_mem_take hq)
  ·rcases List.mem_cons.mp hq with rfl | hq
   ·exact hn
   ·exact x.rlen q (List.mem_of_mem_drop hq)
theorem Tz.ofTf{H0:Hp}(x:Tf H0 B L W C P Z ws xs cs ys ps zs rss H)(b0:BagAt H0 B L):Tz B L W C P Z 0 ws xs cs ys ps zs rss H :=
 {b:=x.b,w:=x.w,c:=x.c,hC:=x.hC,p:=x.p,hP:=x.hR.toV,z:=x.z,hZ:=x.hZ.wide (by omega),wB:=⟨b0.ne x.w0,b0.neL x.w0⟩,cB:=⟨b0.ne x.c0,b0.neL x.c0⟩,pB:=⟨b0.ne x.p0,b0.neL x.p0⟩,zB:=⟨b0.ne x.z0,b0.neL x.z0⟩,wc:=x.wc,wp:=x.wp,wz:=x.wz,cp:=x.cp,cz:=x.cz,pz:=x.pz,w6:=x.w6,wsz:=fun y hy=>⟨(x.wsz y hy).1,(x.wsz y hy).2.mono (by decide)⟩,c16:=x.c16,pl:=x.pl,psz:=fun q hq=>by
   have po:=x.hR.mem q hq
   exact⟨po.pos,(po.nsz um_ok.pos).mono (by decide),Sz.le ((by decide:Sz 90 UM).mono (by decide)) (le_of_dvd' po.toOk.dvd um_ok.pos)⟩,rn:=by rw[x.rl];exact x.c16,rlen:=fun r hr=>by rw[(x.hr r hr).1];exact x.w6 }
theorem RsV.put{k:Nat}{l:Addr}{o:List V}{as:List V}(h:RsV k H zs rss)(hl:H l=some (.lst as))(n:V.ref l∉zs):RsV k (upd H l (.lst o)) zs rss:=⟨h.1,fun i r hr=>by
 obtain⟨l2,xs,e,h1,h2,h3⟩:=h.2 i r hr
 exact⟨l2,xs,e,by rw[upd_ne (fun z=>n (by rw[← z];exact List.mem_of_getElem? e))];exact h1,h2.ts (TS.lst hl),h3⟩⟩
theorem RsV.snoc{k:Nat}{q:Addr}{as:List V}{r:List (Int×Int)}(h:RsV k H zs rss)(hq:H q=some (.lst as))(hA:RowU UM k H as r)(h12:r.length≤12):RsV k H (zs++[.ref q]) (rss++[r]):=by
 refine⟨by rw[List.length_append,List.length_append,h.1];rfl,fun i p hp=>?_⟩
 by_cases hi:i < rss.length
 ·rw[List.getElem?_append_left hi] at hp
  rw[List.getElem?_append_left (by rw[h.1];exact hi)]
  exact h.2 i p hp
 ·have hl:=(List.getElem?_eq_some_iff.mp hp).1
  rw[List.length_append] at hl
  have e:i=rss.length:=by
   have:([r]:List (List (Int×Int))).length=1:=rfl
   omega
  subst e
  rw[List.getElem?_append_right (Nat.le_refl _),Nat.sub_self] at hp
  cases hp
  exact⟨q,as,by rw[List.getElem?_append_right (by rw[h.1];exact Nat.le_refl _),h.1,Nat.sub_self];rfl,hq,hA,h12⟩
end
abbrev sp_common_factor:Sp:=fun vs H Q _=>∃ n u:Int,vs=[.int n,.int u]∧0 < u∧Q (.int (Int.gcd n u)) H
abbrev sp_lowest(K:PySem.W.Frag)(cx:Str→Addr):Sp:=fun vs H Q E=>∃ n u:Int,vs=[.int n,.int u]∧Sz 9000 u∧(u < 1→E (.ref (cx "BadPart")) none H)∧(0 < u→∀ p,H p=none→Q (.ref p) (upd H p (.tup [.int (n / (Int.gcd n u:Int)),.int (u / (Int.gcd n u:Int))])))
abbrev sp_below:Sp:=fun vs H Q _=>∃ p q n1 u1 n2 u2,vs=[.ref p,.ref q]∧H p=some (.tup [.int n1,.int u1])∧H q=some (.tup [.int n2,.int u2])∧Sz 20000 n1∧Sz 20000 u1∧Sz 20000 n2∧Sz 20000 u2∧Q (.bl (decide (n1*u2 < n2*u1))) H
abbrev sp_one_under:Sp:=fun vs H Q _=>∃ L xs ps U k,vs=[.ref L]∧H L=some (.lst xs)∧UOk U∧RowU U k H xs ps∧k≤8000∧ps.length≤16∧Q (.int (undP ps)) H
abbrev sp_numbers_over:Sp:=fun vs H Q _=>∃ L U xs ps V0 k,vs=[.ref L,.int U]∧H L=some (.lst xs)∧UOk V0∧RowU V0 k H xs ps∧k≤8000∧ps.length≤16∧Sz 4000 U∧∀ l,H l=none→Q (.ref l) (upd H l (.lst ((numsP U ps).map V.int)))
abbrev sp__law_bag(K:PySem.W.Frag)(cx:Str→Addr):Sp:=fun vs H Q _=>∃ a ns,vs=[.ref a]∧SqL K H a (List.map V.int ns)∧ns.length≤63∧∀ B L H',Same H H'→H B=none→BagAt H' B L→Q (.ref B) H'
abbrev sp__law_pull:Sp:=fun vs H Q _=>∃ B m L,vs=[.ref B,.int m]∧BagAt H B L∧0 < m∧Sz 9000 m∧∀ d H',0≤d→d < m→BagAt H' B L→Fr1 B H H'→Q (.int d) H'
abbrev sp__law_gcd:Sp:=fun vs H Q _=>∃ n u:Int,vs=[.int n,.int u]∧Q (.int (Int.gcd n u)) H
abbrev sp__law_low:Sp:=fun vs H Q _=>∃ n u:Int,vs=[.int n,.int u]∧0 < u∧Sz 9000 u∧∀ p,H p=none→Q (.ref p) (upd H p (.tup [.int (lowN n u),.int (lowU n u)]))
abbrev sp__law_plus:Sp:=fun vs H Q _=>∃ p q n1 u1 n2 u2,vs=[.ref p,.ref q]∧H p=some (.tup [.int n1,.int u1])∧H q=some (.tup [.int n2,.int u2])∧0 < u1∧0 < u2∧Sz 20000 n1∧Sz 4400 u1∧Sz 20000 n2∧Sz 4400 u2∧∀ r,H r=none→Q (.ref r) (upd H r (.tup [.int (lowN (n1*u2+n2*u1) (u1*u2)),.int (lowU (n1*u2+n2*u1) (u1*u2))]))
abbrev sp__law_times:Sp:=fun vs H Q _=>∃ p q n1 u1 n2 u2,vs=[.ref p,.ref q]∧H p=some (.tup [.int n1,.int u1])∧H q=some (.tup [.int n2,.int u2])∧0 < u1∧0 < u2∧Sz 20000 n1∧Sz 4400 u1∧Sz 20000 n2∧Sz 4400 u2∧∀ r,H r=none→Q (.ref r) (upd H r (.tup [.int (lowN (n1*n2) (u1*u2)),.int (lowU (n1*n2) (u1*u2))]))
abbrev sp__law_below:Sp:=fun vs H Q _=>∃ p q n1 u1 n2 u2,vs=[.ref p,.ref q]∧H p=some (.tup [.int n1,.int u1])∧H q=some (.tup [.int n2,.int u2])∧Sz 20000 n1∧Sz 20000 u1∧Sz 20000 n2∧Sz 20000 u2∧Q (.bl (decide (n1*u2 < n2*u1))) H
abbrev sp__law_sum:Sp:=fun vs H Q _=>∃ L xs ps U k,vs=[.ref L]∧H L=some (.lst xs)∧UOk U∧RowU U k H xs ps∧k≤8000∧ps.length≤16∧∀ r H',Same H H'→H' r=some (.tup [.int (sumP ps).1,.int (sumP ps).2])→Q (.ref r) H'
abbrev sp__law_whole:Sp:=fun vs H Q _=>∃ n:Int,vs=[.int n]∧Q (.bl true) H
abbrev sp__law_many:Sp:=fun vs H Q _=>∃ B L,vs=[.ref B]∧BagAt H B L∧∀ m H',0≤m→m≤6→BagAt H' B L→Fr1 B H H'→Q (.int m) H'
abbrev sp__law_heap:Sp:=fun vs H Q _=>∃ B m L,vs=[.ref B,.int m]∧BagAt H B L∧0≤m∧m≤6∧∀(t:Addr)(hs:List Int)(H':Hp),H t=none→BagAt H' B L→Fr1 B H H'→H' t=some (.tup (hs.map V.int))→hs.length≤6→(∀ x∈hs,0≤x∧x < m)→Q (.ref t) H'
abbrev sp__law_due:Sp:=fun vs H Q _=>∃ B s L,vs=[.ref B,.int s]∧BagAt H B L∧0≤s∧s≤1000000000∧∀ p n u H',H p=none→BagAt H' B L→Fr1 B H H'→H' p=some (.tup [.int n,.int u])→Du UM 115 n u→Q (.ref p) H'
abbrev sp__law_ceil:Sp:=fun vs H Q _=>∃ p n u,vs=[.ref p]∧H p=some (.tup [.int n,.int u])∧0 < u∧Sz 9000 u∧Q (.int (-(-n / u))) H
abbrev sp_total:Sp:=fun vs H Q _=>∃ L xs ps U k,vs=[.ref L]∧H L=some (.lst xs)∧UOk U∧RowU U k H xs ps∧k≤8000∧ps.length≤16∧∀ r H',Same H H'→H' r=some (.tup [.int (sumP ps).1,.int (sumP ps).2])→Q (.ref r) H'
abbrev sp__law_less:Sp:=fun vs H Q _=>∃ p q n1 u1 n2 u2,vs=[.ref p,.ref q]∧H p=some (.tup [.int n1,.int u1])∧H q=some (.tup [.int n2,.int u2])∧0 < u1∧0 < u2∧Sz 20000 n1∧Sz 4400 u1∧Sz 20000 n2∧Sz 4400 u2∧∀ r,H r=none→Q (.ref r) (upd H r (.tup [.int (lowN (n1*u2 - n2*u1) (u1*u2)),.int (lowU (n1*u2 - n2*u1) (u1*u2))]))
abbrev sp__law_truth:Sp:=fun vs H Q _=>∃ b c,vs=[.bl b,.bl c]∧Q (.bl (decide (b=c))) H
abbrev sp__law_pair:Sp:=fun vs H Q _=>∃ p n u,vs=[.ref p]∧H p=some (.tup [.int n,.int u])∧0 < u∧Int.gcd n u=1∧Sz 9000 u∧Q (.bl true) H
abbrev sp__law_pairs:Sp:=fun vs H Q _=>∃ F ys,∃ ps:List (Int×Int),∃ m:Nat,vs=[.ref F,.int (m:Int)]∧H F=some (.lst ys)∧RowV H ys ps∧ps.length≤16∧(∀ i,i < ps.length→0 < (ps.getD i (0,1)).2∧Int.gcd (ps.getD i (0,1)).1 (ps.getD i (0,1)).2=1∧Sz 9000 (ps.getD i (0,1)).2)∧∀ H',Same H H'→Q (.bl (decide (ps.length=m))) H'
abbrev sp__law_tabled:Sp:=fun vs H Q _=>∃ B L,vs=[.ref B]∧BagAt H B L∧∀ T W C P Z ws xs cs ys ps zs rss H',Tf H B L W C P Z ws xs cs ys ps zs rss H'→H' T=some (.tup [.ref W,.ref C,.ref P,.ref Z])→Q (.ref T) H'
abbrev sp__law_claims:Sp:=fun vs H Q _=>∃ B m L,vs=[.ref B,.int m]∧BagAt H B L∧0≤m∧m≤6∧∀ F xs cs H',H F=none→BagAt H' B L→Fr1 B H H'→H' F=some (.lst xs)→ClsAt H' xs cs→cs.length≤16→(∀ c∈cs,GoodU2 UM 115 m c)→Q (.ref F) H'
abbrev sp_good_row:Sp:=fun vs H Q _=>∃(m:Nat)(t p r:Addr)(ts:List Int)(part:Int×Int)(xs:List V) (row:List (Int×Int)) (k:Nat),vs=[.int (m:Int),.ref t,.ref p,.ref r]∧H t=some (.tup (ts.map V.int))∧H p=some (.tup [.int part.1,.int part.2])∧H r=some (.lst xs)∧RowU UM k H xs row∧k≤8000∧row.length≤12∧∀ b H',Same H H'→(b=true↔gdRow m ts part row)→Q (.bl b) H'
abbrev sp_good_table:Sp:=fun vs H Q _=>∃ w c p z ws xs cs ys ps zs rss,∃ k:Nat,vs=[.ref w,.ref c,.ref p,.ref z]∧ShIn w c ws xs cs H∧H p=some (.lst ys)∧RowV H ys ps∧ps.length=cs.length∧H z=some (.lst zs)∧RsV k H zs rss∧k≤8000∧cs.length≤16∧ws.length≤6∧(∀ x∈ws,Sz 900 x)∧∀ b H',Same H H'→(b=true↔gdTab ws cs ps rss)→Q (.bl b) H'
abbrev sp__law_good_row:Sp:=fun vs H Q _=>∃(c t p r pd:Addr)(rk:Int)(ts:List Int)(part:Int×Int)(xs:List V) (row:List (Int×Int)) (k:Nat),vs=[.ref c,.ref p,.ref r]∧H c=some (.tup [.ref pd,.ref t,.int rk])∧H t=some (.tup (ts.map V.int))∧H p=some (.tup [.int part.1,.int part.2])∧H r=some (.lst xs)∧RowU UM k H xs row∧k≤8000∧row.length≤12∧∀ b H',Same H H'→(b=true↔gdRow row.length ts part row)→Q (.bl b) H'
abbrev sp__law_good_table:Sp:=fun vs H Q _=>∃ w c p z ws xs cs ys ps zs rss,∃ k:Nat,vs=[.ref w,.ref c,.ref p,.ref z]∧ShIn w c ws xs cs H∧H p=some (.lst ys)∧RowV H ys ps∧ps.length=cs.length∧H z=some (.lst zs)∧RsV k H zs rss∧k≤8000∧cs.length≤16∧ws.length≤6∧(∀ x∈ws,Sz 900 x)∧∀ b H',Same H H'→(b=true↔gdTab ws cs ps rss)→Q (.bl b) H'
abbrev sp__law_bent:Sp:=fun vs H Q _=>∃ B L W C P Z,∃ t:Nat,∃ ws xs cs ys ps zs rss,vs=[.ref B,.ref W,.ref P,.ref Z]∧t≤2∧Tz B L W C P Z t ws xs cs ys ps zs rss H∧∀ ws' ys' ps' zs' rss' H',Tz B L W C P Z (t+1) ws' xs cs ys' ps' zs' rss' H'→Q .non H'
abbrev sp_law(K:PySem.W.Frag)(cx:Str→Addr):Sp:=fun vs H Q _=>∃ a ns,vs=[.ref a]∧SqL K H a (List.map V.int ns)∧ns.length≤63∧∀ H',Q (.bl true) H'
local macro_rules | `(tactic| k_extra "rd")=>`(tactic| simp only[tSeq_ap,tIfS_ap,tNext_ap,tDrop_ap,tRet_ap,tRetN_ap,tVar_ap,tC_ap,tB_ap,tTest_ap,tOp_ap,tUn_ap,tCB_ap,tNil_ap,tCons_ap,tTup_ap,tLst_ap,tAsg_ap,gName_ap,gSub_ap,tPar_ap,tAugS_ap,rI_ap,rI0_ap,rU_ap,rEq_ap,rNe_ap,rEqP_ap,rNeP_ap,scal_ii,scal_bb,scal_ss,scal_nn,tAnd_ap,tOr_ap,tNot_ap,tAndV_ap,tOrV_ap,tNotV_ap,tIf_ap,tChain_ap,tD_ap,Hold_ap,Brk_t,Brk_f,tIsN_ap,tNotN_ap,ipI_ap,
 rIxF_ap,rLenF_ap,rGetF_ap,rSetL_ap,rIsi_ap,tyNm,isiN_int,isiN_bool,isiN_list,isiN_tuple,isiN_str,isi_ii,isi_ib,isi_bb,isi_bi,isi_tt,isi_ll,isi_nt,isi_ni,rListF_ap,rTupF_ap,rSumF_ap,rAllF_ap,rAnyF_ap,tBM_ap,rAppend_ap,compSt_ap,join_somz,tRev_ap,rInsert_ap,tPart_ap,tNoPart_ap,Int.reduceEq,  sizeLine_0,sizeLine_8,sizeLine_10,L2.start,CMulB,CDivB,CPow,tCallX_ap,tTry_ap,tRaise_ap,sp_common_factor,sp__law_gcd,sp__law_whole,sp__law_ceil,
 List.getElem?_cons_zero,List.getElem?_cons_succ,List.set_cons_zero,List.set_cons_succ,List.map_cons,List.map_nil,List.cons_append,List.nil_append,List.length_cons,List.length_nil,List.length_map,Nat.reduceAdd,Nat.reduceSub,Nat.zero_add,Nat.sub_self,List.replicate_succ,List.replicate_zero,
 Option.some.injEq,V.int.injEq,V.bl.injEq,V.ref.injEq,V.ty.injEq,V.str.injEq,HO.lst.injEq,HO.tup.injEq,List.cons.injEq,reduceCtorEq,exists_eq_left',exists_eq_left,exists_eq_right',exists_eq_right,exists_and_left,and_assoc,and_true,true_and,and_self,eq_self,decide_true,decide_false,decide_eq_true_eq,Bool.not_eq_true',decide_eq_false_iff_not,Bool.true_eq_false,Bool.false_eq_true,if_true,if_false,Bool.not_false,Bool.not_true,Bool.true_and,Bool.false_and,Bool.and_true,Bool.and_false,Bool.true_or,Bool.false_or,not_true_eq_false,ne_eq,not_false_eq_true,atI_0,atI_1,atI_2,atI_3,ixN_4_0,ixN_4_1,ixN_4_2,ixN_4_3,seqAt,upd_same,upd_ne,sizeLine_1,sizeLine_2,sizeLine_3,sizeLine_4,sizeLine_5,sizeLine_6,sizeLine_7,int_01,int_c2,pow_ok,Int.reduceLE,Int.reduceLT,Int.reduceAdd,Int.reduceSub,Int.reduceMul,Int.reduceNeg,Int.reducePow,Int.reduceToNat, *])
local macro_rules | `(tactic| k_extra "rx")=>`(tactic| repeat (first
 | (with_reducible refine i_tSeq ?_) | (with_reducible refine i_tAsg ?_) | (with_reducible refine i_gName ?_) | ((with_reducible apply i_tVar);(exact rfl)) | (with_reducible refine i_tC ?_) | (with_reducible refine i_tOp ?_) | (with_reducible refine i_tIfS ?_) | (with_reducible refine i_tTest ?_) | (with_reducible refine i_tB ?_) | (with_reducible refine i_exB ?_)
 | (with_reducible refine i_rI0 ?_) | (with_reducible refine i_tUn ?_) | (with_reducible refine i_rU ?_) | (with_reducible refine i_tCons ?_) | (with_reducible refine i_tNil ?_) | (with_reducible refine i_tD ?_) | (with_reducible refine i_tCB ?_) | (with_reducible refine i_tRet ?_) | (with_reducible refine i_tNext ?_) | (with_reducible refine i_tDrop ?_) | (with_reducible refine i_gSub ?_) | (with_reducible refine i_tAugS ?_) | (with_reducible refine i_tNot ?_) | (with_reducible refine i_tAnd ?_) | (with_reducible refine i_tOr ?_) | (with_reducible refine i_ipI ?_) | (with_reducible refine i_brkT ?_) | (with_reducible refine i_brkF ?_) | (with_reducible refine i_tTup ?_) | (with_reducible refine i_tLst ?_)
 | ((with_reducible refine i_rI ?_ ?_);(first | (exact Sz.ok (by assumption) (by assumption) (by decide)) | (exact⟨by assumption,by assumption⟩) | (exact⟨by decide,by decide⟩) | (show (0:Int) < _;first | decide | assumption) | (exact mul_mod_ok) | (exact Sz.okR (k:=31) (by decide) (by decide)) | (exact (⟨by decide,by decide,by decide⟩:CPow _ _))))
 | refine i_ixL (by assumption) rfl ?_ | refine i_ixT (by assumption) rfl ?_ | refine i_ixL (by assumption) (by assumption) ?_ | refine i_lenL (by assumption) ?_ | refine i_getL (by assumption) (by decide) rfl ?_))
section
variable {P:Program}{w:World}{K:PySem.W.Frag}{mg:Str→Option Value}{base:Heap}{cx:Str→Addr}{f:Addr}{fd:FuncData}
theorem ok_common_factor(D:DefAt K mg "common_factor" s_common_factor f fd)(T:Txt K mg cx):DefOk P w K mg base CX0 1 "common_factor" ["number","under"] sp_common_factor:=by
 refine D.ok (D.q sc_common_factor (fun vs H Q E h=>?_) (fun cdv A outer s H vs Q E hr h=>?_)) (D.fn.binds fun _ _ _ _ _ _ us hl=>match us,hl with | [_,_],_=>rfl)
 ·obtain⟨_,_,rfl,_⟩:=h
  rfl
 obtain⟨n,u,rfl,hu,hQ⟩:=h
 refine⟨_,(qss_cons (qs_set (i:=2) sc_common_factor.nd rfl (Or.inl rfl) (qv 0))
   (qss_cons (qs_set (i:=3) sc_common_factor.nd rfl (Or.inl rfl) (qv 1))
   (qss_cons (qs_while PassesOwn.never (qt_cmpR op_ne (qv 3) qe_int (nomark _)) (qss_cons (qs_set (i:=4) sc_common_factor.nd rfl (Or.inl rfl) (qe_op op_mod (qv 2) (qv 3)))
   (qss_cons (qs_set (i:=2) sc_common_factor.nd rfl (Or.inl rfl) (qv 3))
   (qss_one (qs_set (i:=3) sc_common_factor.nd rfl (Or.inl rfl) (qv 4))))))
   (qss_one (qs_ret (qv 2)))))),?_⟩
 k_extra "rd"
 refine⟨fun m σ H'=>H'=H∧∃(g l:Int)(r:Option V),σ=[some (.int n),some (.int u),some (.int g),some (.int l),r]∧m=l.toNat∧0≤l∧Int.gcd g l=Int.gcd n u∧(l=0→0 < g),⟨_,rfl,n,u,none,rfl,rfl,by omega,rfl,by omega⟩,?_⟩
 rintro m σ H' ⟨rfl,g,l,r,rfl,rfl,h0,hg,hp⟩
 k_extra "rd"
 refine ite2 (fun hl=>?_) (fun hl=>?_)
 ·refine⟨fun σ' H''=>H''=H'∧∃(g' l':Int)(r':Option V),σ'=[some (.int n),some (.int u),some (.int g'),some (.int l'),r']∧l'.toNat < l.toNat∧0≤l'∧Int.gcd g' l'=Int.gcd n u∧(l'=0→0 < g'),fun σ' H'' ⟨e,g',l',r',e2,a1,a2,a3,a4⟩=>⟨l'.toNat,a1,e,g',l',r',e2,rfl,a2,a3,a4⟩,?_⟩
  have hl':0 < l:=by omega
  k_extra "rd"
  have:=Int.emod_lt_of_pos g hl'
  have:=Int.emod_nonneg g (by omega:l≠0)
  exact⟨by omega,by omega,by rw[gcd_step hl'];exact hg,fun _=>trivial⟩
 ·have e:l=0:=by omega
  subst e
  have e2:((Int.gcd n u:Nat):Int)=g:=by
   rw[← hg,Int.gcd_zero_right]
   have:=hp rfl
   omega
  rw[e2] at hQ
  exact hQ
theorem ok_lowest(D:DefAt K mg "lowest" s_lowest f fd)(T:Txt K mg cx)(d_common_factor:DefOk P w K mg base CX0 1 "common_factor" ["number","under"] sp_common_factor):DefOk P w K mg base (CXR P w) 2 "lowest" ["number","under"] (sp_lowest K cx):=by
 refine D.ok (D.qR sc_lowest (fun vs H Q E h=>?_) (fun cdv A outer s H vs Q E hr h=>?_)) (D.fn.binds fun _ _ _ _ _ _ us hl=>match us,hl with | [_,_],_=>rfl)
 ·obtain⟨_,_,rfl,_⟩:=h
  rfl
 obtain⟨n,u,rfl,hz,hE,hQ⟩:=h
 refine⟨_,(qss_cons (qs_if (qt_cmpR op_lt (qv 1) qe_int (nomark _)) (qss_one (qs_raise raisesR T.x_BadPart rfl (by rfl) (qa_cons qe_str qa_nil))) qss_nil)
   (qss_cons (qs_set (i:=2) sc_lowest.nd rfl (Or.inl rfl) (qe_d d_common_factor hr.le pass0 (by rfl) (qa_cons (qv 0) (qa_cons (qv 1) qa_nil))))
   (qss_one (qs_ret (qe_tup (qa_cons (qe_op op_fdivB (qv 0) (qv 2)) (qa_cons (qe_op op_fdivB (qv 1) (qv 2)) qa_nil))))))),?_⟩
 k_extra "rd"
 refine brkD (fun h1=>?_) (fun h1=>?_)
 ·k_extra "rd"
 k_extra "rd"
 have h2:0 < u:=by omega
 have hg:=gcd_pos (n:=n) h2
 have hgz:Sz 9000 (Int.gcd n u:Int):=hz.le (by have:=Int.gcd_le_natAbs_right n (b:=u) (by omega);omega)
 exact⟨h2,hg,hgz,hg,hgz,fun p hp=>hQ h2 p hp⟩
theorem ok_below(D:DefAt K mg "below" s_below f fd)(T:Txt K mg cx):DefOk P w K mg base CX0 1 "below" ["one","other"] sp_below:=by
 refine D.ok (D.q sc_below (fun vs H Q E h=>?_) (fun cdv A outer s H vs Q E hr h=>?_)) (D.fn.binds fun _ _ _ _ _ _ us hl=>match us,hl with | [_,_],_=>rfl)
 ·obtain⟨_,_,_,_,_,_,rfl,_⟩:=h
  rfl
 obtain⟨p,q,n1,u1,n2,u2,rfl,hp,hq,z1,z2,z3,z4,hQ⟩:=h
 refine⟨_,(qss_one (qs_ret (qe_cmpR op_lt (qe_op op_mulB (qe_ix ix_seqA (qv 0) qe_int (fun _ _=>rfl)) (qe_ix ix_seqA (qv 1) qe_int (fun _ _=>rfl))) (qe_op op_mulB (qe_ix ix_seqA (qv 1) qe_int (fun _ _=>rfl)) (qe_ix ix_seqA (qv 0) qe_int (fun _ _=>rfl))) (nomark _)))),?_⟩
 k_extra "rx"
 exact hQ
theorem ok_one_under(D:DefAt K mg "one_under" s_one_under f fd)(T:Txt K mg cx)(d_common_factor:DefOk P w K mg base CX0 1 "common_factor" ["number","under"] sp_common_factor):DefOk P w K mg base CX0 2 "one_under" ["row"] sp_one_under:=by
 refine D.ok (D.q sc_one_under (fun vs H Q E h=>?_) (fun cdv A outer s H vs Q E hr h=>?_)) (D.fn.binds fun _ _ _ _ _ _ us hl=>match us,hl with | [_],_=>rfl)
 ·obtain⟨_,_,_,_,_,rfl,_⟩:=h
  rfl
 obtain⟨L,xs,ps,U,k,rfl,hL,hU,hR,hk,hlen,hQ⟩:=h
 refine⟨_,(qss_cons (qs_set (i:=1) sc_one_under.nd rfl (Or.inl rfl) qe_int)
   (qss_cons (qs_for PassesOwn.never rfl (qi_listK (K:=K) rfl (qv 0)) (qg_name (i:=2) sc_one_under.nd rfl (Or.inl rfl)) (qss_one (qs_set (i:=1) sc_one_under.nd rfl (Or.inl rfl) (qe_op op_mulB (qe_op op_fdivB (qv 1) (qe_d d_common_factor hr.le pass0 (by rfl) (qa_cons (qv 1) (qa_cons (qe_ix ix_seqA (qv 2) qe_int (fun _ _=>rfl)) qa_nil)))) (qe_ix ix_seqA (qv 2) qe_int (fun _ _=>rfl))))))
   (qss_one (qs_ret (qv 1))))),?_⟩
 have go:∀ i,0 < undP (ps.take i)∧Sz 4000 (undP (ps.take i)):=fun i=>by
  obtain⟨a,b,_⟩:=undP_ok (U:=U) (l:=ps.take i) fun p hp=>(hR.mem p (List.mem_of_mem_take hp)).toOk
  exact⟨a,hU.sz.le (le_of_dvd' b hU.pos)⟩
 refine⟨_,rfl,L,rfl,⟨_,SqL.of hL⟩,for_list (K:=K) (a:=L) (xs:=xs) (fun i σ H2=>∃ v,σ=[some (.ref L),some (.int (undP (ps.take i))),v]∧H2=H)
  ⟨none,rfl,rfl⟩ (fun i σ H2 _ ⟨_,_,e⟩=>by rw[e];exact SqL.of hL) ?_ ?_⟩
 ·rintro i y σ H2 hy ⟨v,rfl,rfl⟩
  have hi:i < xs.length:=(List.getElem?_eq_some_iff.mp hy).1
  have hi2:i < ps.length:=by rw[← hR.1];exact hi
  obtain⟨q,eq,hq,po⟩:=hR.2 i ps[i] (List.getElem?_eq_getElem hi2)
  rw[eq] at hy
  cases hy
  have e:undP (ps.take (i+1))=und1 (undP (ps.take i)) ps[i]:=undP_succ hi2
  obtain⟨h0,z⟩:=go i
  rw[e]
  clear e go hR
  have hu:=po.pos
  have zu:=po.toOk.usz hU
  generalize undP (ps.take i)=R at h0 z ⊢
  generalize ps[i]=P at hq hu zu ⊢
  have hg:=gcd_pos (n:=R) hu
  have zg:Sz 9000 (Int.gcd R P.2:Int):=Sz.mono (Sz.le zu (by have:=Nat.le_of_dvd (by omega) (Int.gcd_dvd_natAbs_right R P.2);omega)) (by decide)
  have zd:Sz 4000 (R / (Int.gcd R P.2:Int)):=Sz.le z (natAbs_div_le _ _)
  have om:IntMulOk (R / (Int.gcd R P.2:Int)) P.2:=zd.ok zu (by decide)
  k_extra "rd"
  rfl
 ·rintro σ H2 ⟨v,rfl,rfl⟩
  have e:ps.take xs.length=ps:=by rw[hR.1,List.take_length]
  rw[e]
  exact⟨_,rfl,hQ⟩
theorem ok_numbers_over(D:DefAt K mg "numbers_over" s_numbers_over f fd)(T:Txt K mg cx):DefOk P w K mg base CX0 1 "numbers_over" ["row","under"] sp_numbers_over:=by
 refine D.ok (D.q sc_numbers_over (fun vs H Q E h=>?_) (fun cdv A outer s H vs Q E hr h=>?_)) (D.fn.binds fun _ _ _ _ _ _ us hl=>match us,hl with | [_,_],_=>rfl)
 ·obtain⟨_,_,_,_,_,_,rfl,_⟩:=h
  rfl
 obtain⟨L,U,xs,ps,V0,k0,rfl,hL,hV,hR,hk,hlen,zU,hQ⟩:=h
 refine⟨_,(qss_one (qs_ret (qe_comp ["part"] [("under", 1)] rfl (qi_listK (K:=K) rfl (qv 0)) (gext_name (by decide)) (fun cl C fp s2 H2=>⟨(qg_name (i:=0) (show (["part","under"]:List Str).Nodup by decide +kernel) rfl (Or.inl rfl)),qf_nil,(qe_op op_mulB (qe_ix ix_seqA (qv 0) qe_int (fun _ _=>rfl)) (qe_op op_fdivB (qv 1) (qe_ix ix_seqA (qv 0) qe_int (fun _ _=>rfl))))⟩) rfl (by decide +kernel) (by decide +kernel) (free_of (by rfl)) (fr_of (by rfl))))),?_⟩
 refine⟨_,rfl,L,rfl,⟨_,SqL.of hL⟩,fun l hl=>comp_list (K:=K) (a:=L) (xs:=xs) (fun i acc H2=>acc=(numsP U (ps.take i)).map V.int∧H2=upd H l (.lst acc)) ⟨rfl,rfl⟩ (fun i acc H2 _ ⟨_,e⟩=>by rw[e];exact SqL.of ((Same.new hl) _ _ hL)) ?_ ?_⟩
 ·rintro i y acc H2 hy ⟨rfl,rfl⟩
  have hi:i < xs.length:=(List.getElem?_eq_some_iff.mp hy).1
  have hi2:i < ps.length:=by rw[← hR.1];exact hi
  obtain⟨q,eq,hq,po⟩:=hR.2 i ps[i] (List.getElem?_eq_getElem hi2)
  have hu:=po.pos
  have zu:=po.toOk.usz hV
  have zn:=(po.nsz hV.pos).mono hk
  clear po
  rw[eq] at hy
  cases hy
  have hq2:=(Same.new (o:=.lst ((numsP U (ps.take i)).map V.int)) hl) _ _ hq
  have e:numsP U (ps.take (i+1))=numsP U (ps.take i)++[ps[i].1*(U / ps[i].2)]:=by
   unfold numsP
   rw[List.take_succ_eq_append_getElem hi2,List.map_append]
   rfl
  have len:(numsP U (ps.take i)).length≤16:=by unfold numsP;rw[List.length_map,List.length_take];omega
  have k1:upd H l (.lst ((numsP U (ps.take i)).map V.int)) l=_:=upd_same
  have k2:∀ o,upd (upd H l (.lst ((numsP U (ps.take i)).map V.int))) l o=upd H l o:=fun o=>upd_upd
  rw[e]
  generalize numsP U (ps.take i)=A at hq2 len k1 k2 ⊢
  generalize ps[i]=P at hq hu zn zu hq2 ⊢
  generalize upd H l (.lst (A.map V.int))=H3 at hq2 k1 k2 ⊢
  have om:IntMulOk P.1 (U / P.2):=zn.ok (Sz.le zU (natAbs_div_le _ _)) (by decide)
  have zu9:Sz 9000 P.2:=zu.mono (by decide)
  simp only[gName_ap,tYes,if_true]
  clear hR hL hQ
  k_extra "rd"
  exact⟨small1000 (by omega),by rw[List.map_append];rfl⟩
 ·rintro acc H2 ⟨rfl,rfl⟩
  have e:ps.take xs.length=ps:=by rw[hR.1,List.take_length]
  rw[e]
  exact hQ l hl
theorem ok__law_bag(D:DefAt K mg "_law_bag" s__law_bag f fd)(T:Txt K mg cx):DefOk P w K mg base CX0 1 "_law_bag" ["_law_script"] (sp__law_bag K cx):=by
 refine D.ok (D.q sc__law_bag (fun vs H Q E h=>?_) (fun cdv A outer s H vs Q E hr h=>?_)) (D.fn.binds fun _ _ _ _ _ _ us hl=>match us,hl with | [_],_=>rfl)
 ·obtain⟨_,_,rfl,_⟩:=h
  rfl
 obtain⟨a,ns,rfl,hS,hl,hQ⟩:=h
 have hc:cutV (List.map V.int ns) none (some (63:Int))=List.map V.int ns:=cutV_all (k:=63) (by rw[List.length_map];exact hl)
 refine⟨_,(qss_cons (qs_set (i:=1) sc__law_bag.nd rfl (Or.inl rfl) (qe_callB call_lenF (by rfl) T.n_len bt_len (qa_cons (qe_slice sl_list (qv 0) qo_none (qo_some qe_int)) qa_nil)))
   (qss_cons (qs_for PassesOwn.never rfl (qi_listK (K:=K) rfl (qe_slice sl_list (qv 0) qo_none (qo_some qe_int))) (qg_name (i:=2) sc__law_bag.nd rfl (Or.inl rfl)) (qss_one (qs_set (i:=1) sc__law_bag.nd rfl (Or.inl rfl) (qe_op op_mod (qe_op op_add (qe_op op_mulB (qv 1) qe_int) (qv 2)) qe_int))))
   (qss_one (qs_ret (qe_lst (qa_cons (qe_callTy call_listF (by rfl) T.n_list bt_list (qa_cons (qe_slice sl_list (qv 0) qo_none (qo_some qe_int)) qa_nil)) (qa_cons qe_int (qa_cons qe_int (qa_cons (qv 1) qa_nil))))))))),?_⟩
 refine⟨_,rfl,_,rfl,a,_,rfl,hS,fun p hp=>?_⟩
 rw[hc]
 refine⟨p,_,rfl,by unfold seqAt;rw[upd_same],?_⟩
 have s1:Same H (upd H p (.lst (List.map V.int ns))):=Same.new hp
 refine⟨_,rfl,_,rfl,a,_,rfl,s1.seq hS,fun p2 hp2=>?_⟩
 rw[hc]
 have s2:Same H (upd (upd H p (.lst (List.map V.int ns))) p2 (.lst (List.map V.int ns))):=s1.trans (Same.new hp2)
 refine⟨p2,rfl,⟨_,SqL.of upd_same⟩,for_list (K:=K) (a:=p2) (xs:=List.map V.int ns) (fun i σ H2=>∃(z:Int)(v:Option V),σ=[some (.ref a),some (.int z),v]∧Same H H2∧SqL K H2 p2 (List.map V.int ns)) ⟨_,_,rfl,s2,SqL.of upd_same⟩ (fun i σ H2 _ ⟨_,_,_,_,q⟩=>q) ?_ ?_⟩
 ·rintro i y σ H2 hy ⟨z,v,rfl,s3,hp3⟩
  obtain⟨k,rfl⟩:∃ k,y=V.int k:=by
   rw[List.getElem?_map] at hy
   cases e:ns[i]? with
   | none=>rw[e] at hy;cases hy
   | some k=>rw[e] at hy;exact⟨k,(Option.some.inj hy).symm⟩
  k_extra "rd"
  exact⟨Sz.okR (k:=10) (by decide) (by decide),_,rfl⟩
 ·rintro σ H2 ⟨z,v,rfl,s3,hp3⟩
  refine⟨_,rfl,_,rfl,a,_,rfl,s3.seq hS,fun p4 hp4=>?_⟩
  rw[hc]
  refine⟨p4,_,rfl,by unfold seqAt;rw[upd_same],fun L hL=>?_⟩
  k_extra "rd"
  intro B hB
  have s5:=(s3.trans (Same.new (o:=.lst (List.map V.int ns)) hp4)).trans (Same.new (o:=.lst (List.map V.int ns)) hL)
  have nBL:L≠B:=fun e=>by rw[← e,upd_same] at hB;cases hB
  refine hQ B L _ (s5.trans (Same.new hB)) (s5.free hB) ⟨ns,0,0,z,upd_same,?_,by omega⟩
  rw[upd_ne nBL,upd_same]
theorem ok__law_pull(D:DefAt K mg "_law_pull" s__law_pull f fd)(T:Txt K mg cx):DefOk P w K mg base CX0 1 "_law_pull" ["_law_bag_here","_law_many_here"] sp__law_pull:=by
 refine D.ok (D.q sc__law_pull (fun vs H Q E h=>?_) (fun cdv A outer s H vs Q E hr h=>?_)) (D.fn.binds fun _ _ _ _ _ _ us hl=>match us,hl with | [_,_],_=>rfl)
 ·obtain⟨_,_,_,rfl,_⟩:=h
  rfl
 obtain⟨B,m,L,rfl,⟨ns,i,r,salt,hB,hL,hi⟩,hm,hz,hQ⟩:=h
 have nLB:L≠B:=ne_of hL hB (by intro e;cases ns<;>cases e)
 refine⟨_,(qss_cons (qs_if (qt_cmpR op_le (qe_ix ix_seqA (qv 0) qe_int (fun _ _=>rfl)) qe_int (nomark _)) (qss_cons (qs_augS (qv 0) qe_int get_list qe_int ip_add set_list)
   (qss_cons (qs_set (i:=2) sc__law_pull.nd rfl (Or.inl rfl) (qe_ix ix_seqA (qv 0) qe_int (fun _ _=>rfl)))
   (qss_cons (qs_if (qt_cmpR op_le (qe_ix ix_seqA (qv 0) qe_int (fun _ _=>rfl)) (qe_callB call_lenF (by rfl) T.n_len bt_len (qa_cons (qe_ix ix_seqA (qv 0) qe_int (fun _ _=>rfl)) qa_nil)) (nomark _)) (qss_one (qs_set (i:=2) sc__law_pull.nd rfl (Or.inl rfl) (qe_ix ix_seqA (qe_ix ix_seqA (qv 0) qe_int (fun _ _=>rfl)) (qe_op op_sub (qe_ix ix_seqA (qv 0) qe_int (fun _ _=>rfl)) qe_int) (fun _ _=>rfl)))) qss_nil)
   (qss_cons (qs_if (qw_or (qt_cmpR op_gt (qe_ix ix_seqA (qv 0) qe_int (fun _ _=>rfl)) (qe_callB call_lenF (by rfl) T.n_len bt_len (qa_cons (qe_ix ix_seqA (qv 0) qe_int (fun _ _=>rfl)) qa_nil)) (nomark _)) (qw_or1 (qt_cmpR op_lt (qv 2) (qe_op op_pow qe_int qe_int) (nomark _)))).pt (qss_cons (qs_set (i:=3) sc__law_pull.nd rfl (Or.inl rfl) (qe_op op_mod (qe_op op_add (qe_op op_add (qe_op op_mulB (qv 2) qe_int) (qe_op op_mulB (qe_ix ix_seqA (qv 0) qe_int (fun _ _=>rfl)) qe_int)) qe_int) qe_int))
   (qss_cons (qs_set (i:=3) sc__law_pull.nd rfl (Or.inl rfl) (qe_op op_mod (qe_op op_mulB (qv 3) (qv 3)) qe_int))
   (qss_one (qs_ret (qe_op op_mod (qe_op op_fdivB (qe_op op_mod (qe_op op_mulB (qe_op op_add (qv 3) (qe_ix ix_seqA (qv 0) qe_int (fun _ _=>rfl))) qe_int) qe_int) qe_int) (qv 1)))))) qss_nil)
   (qss_one (qs_asg (qv 2) (qg_sub (qv 0) qe_int set_list))))))) qss_nil)
   (qss_cons (qs_set (i:=4) sc__law_pull.nd rfl (Or.inl rfl) (qe_op op_mod (qe_ix ix_seqA (qv 0) qe_int (fun _ _=>rfl)) (qv 1)))
   (qss_cons (qs_asg (qe_op op_fdivB (qe_ix ix_seqA (qv 0) qe_int (fun _ _=>rfl)) (qv 1)) (qg_sub (qv 0) qe_int set_list))
   (qss_one (qs_ret (qv 4)))))),?_⟩
 refine seq_cut (fun σ' H'=>∃ i' r' v2 v3,σ'=[some (.ref B),some (.int m),v2,v3,none]∧H' B=some (.lst [.ref L,.int i',.int r',.int salt])∧0≤i'∧Fr1 B H H') ?_ fun tb' key=>?_
 ·rintro σ H1 ⟨i',r',v2,v3,rfl,hB1,hi1,f1⟩
  clear hB
  k_extra "rx"
  refine i_setN hB1 rfl rfl fun H2 hB2 f2=>?_
  k_extra "rx"
  exact hQ _ _ (Int.emod_nonneg _ (Int.ne_of_gt hm)) (Int.emod_lt_of_pos _ hm) ⟨ns,i',_,salt,hB2,f2 _ _ nLB (f1 _ _ nLB hL),hi1⟩ (f1.trans f2)
 k_extra "rx"
 refine brkD (fun h1=>?_) (fun h1=>?_)
 ·k_extra "rx"
  refine i_setN hB rfl rfl fun H1 s1 f1=>?_
  have hL1:=f1 _ _ nLB hL
  have i1:0≤i+1:=Int.le_add_one hi
  clear hB
  k_extra "rx"
  refine brkD (fun h2=>?_) (fun h2=>?_)
  ·obtain⟨v,e,hv⟩:=atI_lt (xs:=List.map V.int ns) (i:=i+1 - 1) (by omega) (by omega)
   obtain⟨z,_,rfl⟩:=List.mem_map.mp hv
   k_extra "rx"
   refine i_brkN (by omega) ?_
   k_extra "rx"
   refine brkD (fun h4=>?_) (fun h4=>?_)
   ·k_extra "rx"
    exact hQ _ _ (Int.emod_nonneg _ (Int.ne_of_gt hm)) (Int.emod_lt_of_pos _ hm) ⟨ns,_,_,salt,s1,hL1,i1⟩ f1
   ·k_extra "rx"
    refine i_setN s1 rfl rfl fun H2 s2 f2=>?_
    exact key _ _ ⟨_,_,_,_,rfl,s2,i1,f1.trans f2⟩
  ·k_extra "rx"
   refine i_brkP (by omega) ?_
   k_extra "rx"
   exact hQ _ _ (Int.emod_nonneg _ (Int.ne_of_gt hm)) (Int.emod_lt_of_pos _ hm) ⟨ns,_,_,salt,s1,hL1,i1⟩ f1
 ·k_extra "rx"
  exact key _ _ ⟨_,_,_,_,rfl,hB,hi,Fr1.refl⟩
theorem ok__law_gcd(D:DefAt K mg "_law_gcd" s__law_gcd f fd)(T:Txt K mg cx):DefOk P w K mg base CX0 1 "_law_gcd" ["_law_one","_law_other"] sp__law_gcd:=by
 refine D.ok (D.q sc__law_gcd (fun vs H Q E h=>?_) (fun cdv A outer s H vs Q E hr h=>?_)) (D.fn.binds fun _ _ _ _ _ _ us hl=>match us,hl with | [_,_],_=>rfl)
 ·obtain⟨_,_,rfl,_⟩:=h
  rfl
 obtain⟨n,u,rfl,hQ⟩:=h
 refine⟨_,(qss_cons (qs_set (i:=0) sc__law_gcd.nd rfl (Or.inl rfl) (qe_callB call_abs (by rfl) T.n_abs bt_abs (qa_cons (qv 0) qa_nil)))
   (qss_cons (qs_set (i:=1) sc__law_gcd.nd rfl (Or.inl rfl) (qe_callB call_abs (by rfl) T.n_abs bt_abs (qa_cons (qv 1) qa_nil)))
   (qss_cons (qs_while PassesOwn.never (qt_cmpR op_ne (qv 1) qe_int (nomark _)) (qss_one (qs_par (i:=0) (j:=1) rfl sc__law_gcd.nd rfl rfl (by decide) rfl rfl (qa_cons (qv 1) (qa_cons (qe_op op_mod (qv 0) (qv 1)) qa_nil)) rfl)))
   (qss_one (qs_ret (qv 0)))))),?_⟩
 k_extra "rd"
 have en:(if n < 0 then -n else n)=(n.natAbs:Int):=by split<;>omega
 have eu:(if u < 0 then -u else u)=(u.natAbs:Int):=by split<;>omega
 rw[en,eu]
 refine⟨fun m σ H'=>H'=H∧∃(g l:Int),σ=[some (.int g),some (.int l)]∧m=l.toNat∧0≤l∧0≤g∧Int.gcd g l=Int.gcd n u,⟨_,rfl,_,_,rfl,rfl,by omega,by omega,by rw[Int.gcd_eq_natAbs_gcd_natAbs n u];rfl⟩,?_⟩
 rintro m σ H' ⟨rfl,g,l,rfl,rfl,h0,hg0,hg⟩
 k_extra "rd"
 refine ite2 (fun hl=>?_) (fun hl=>?_)
 ·have hl':0 < l:=by omega
  refine⟨fun σ' H''=>H''=H'∧∃(g' l':Int),σ'=[some (.int g'),some (.int l')]∧l'.toNat < l.toNat∧0≤l'∧0≤g'∧Int.gcd g' l'=Int.gcd n u,fun σ' H'' ⟨e,g',l',e2,a1,a2,a3,a4⟩=>⟨l'.toNat,a1,e,g',l',e2,rfl,a2,a3,a4⟩,?_⟩
  k_extra "rd"
  have:=Int.emod_lt_of_pos g hl'
  have:=Int.emod_nonneg g (by omega:l≠0)
  exact⟨by omega,by omega,by rw[gcd_step hl'];exact hg⟩
 ·have e:l=0:=by omega
  subst e
  have e2:((Int.gcd n u:Nat):Int)=g:=by
   rw[← hg,Int.gcd_zero_right]
   omega
  rw[e2] at hQ
  exact hQ
theorem ok__law_low(D:DefAt K mg "_law_low" s__law_low f fd)(T:Txt K mg cx)(d__law_gcd:DefOk P w K mg base CX0 1 "_law_gcd" ["_law_one","_law_other"] sp__law_gcd):DefOk P w K mg base CX0 2 "_law_low" ["_law_number","_law_under"] sp__law_low:=by
 refine D.ok (D.q sc__law_low (fun vs H Q E h=>?_) (fun cdv A outer s H vs Q E hr h=>?_)) (D.fn.binds fun _ _ _ _ _ _ us hl=>match us,hl with | [_,_],_=>rfl)
 ·obtain⟨_,_,rfl,_⟩:=h
  rfl
 obtain⟨n,u,rfl,hu,hz,hQ⟩:=h
 refine⟨_,(qss_cons (qs_set (i:=2) sc__law_low.nd rfl (Or.inl rfl) (qe_d d__law_gcd hr.le pass0 (by rfl) (qa_cons (qv 0) (qa_cons (qv 1) qa_nil))))
   (qss_one (qs_ret (qe_tup (qa_cons (qe_op op_fdivB (qv 0) (qv 2)) (qa_cons (qe_op op_fdivB (qv 1) (qv 2)) qa_nil)))))),?_⟩
 have hg:=gcd_pos (n:=n) hu
 have hgz:=gcdZ n hu hz
 k_extra "rd"
 exact fun p hp=>hQ p hp
theorem ok__law_plus(D:DefAt K mg "_law_plus" s__law_plus f fd)(T:Txt K mg cx)(d__law_low:DefOk P w K mg base CX0 2 "_law_low" ["_law_number","_law_under"] sp__law_low):DefOk P w K mg base CX0 3 "_law_plus" ["_law_one","_law_other"] sp__law_plus:=by
 refine D.ok (D.q sc__law_plus (fun vs H Q E h=>?_) (fun cdv A outer s H vs Q E hr h=>?_)) (D.fn.binds fun _ _ _ _ _ _ us hl=>match us,hl with | [_,_],_=>rfl)
 ·obtain⟨_,_,_,_,_,_,rfl,_⟩:=h
  rfl
 obtain⟨p,q,n1,u1,n2,u2,rfl,hp,hq,h1,h2,z1,z2,z3,z4,hQ⟩:=h
 refine⟨_,(qss_one (qs_ret (qe_d d__law_low hr.le pass0 (by rfl) (qa_cons (qe_op op_add (qe_op op_mulB (qe_ix ix_seqA (qv 0) qe_int (fun _ _=>rfl)) (qe_ix ix_seqA (qv 1) qe_int (fun _ _=>rfl))) (qe_op op_mulB (qe_ix ix_seqA (qv 1) qe_int (fun _ _=>rfl)) (qe_ix ix_seqA (qv 0) qe_int (fun _ _=>rfl)))) (qa_cons (qe_op op_mulB (qe_ix ix_seqA (qv 0) qe_int (fun _ _=>rfl)) (qe_ix ix_seqA (qv 1) qe_int (fun _ _=>rfl))) qa_nil))))),?_⟩
 k_extra "rx"
 exact⟨_,_,rfl,mul_pos' h1 h2,(z2.mul z4).mono (by decide),fun r hr=>hQ r hr⟩
theorem ok__law_times(D:DefAt K mg "_law_times" s__law_times f fd)(T:Txt K mg cx)(d__law_low:DefOk P w K mg base CX0 2 "_law_low" ["_law_number","_law_under"] sp__law_low):DefOk P w K mg base CX0 3 "_law_times" ["_law_one","_law_other"] sp__law_times:=by
 refine D.ok (D.q sc__law_times (fun vs H Q E h=>?_) (fun cdv A outer s H vs Q E hr h=>?_)) (D.fn.binds fun _ _ _ _ _ _ us hl=>match us,hl with | [_,_],_=>rfl)
 ·obtain⟨_,_,_,_,_,_,rfl,_⟩:=h
  rfl
 obtain⟨p,q,n1,u1,n2,u2,rfl,hp,hq,h1,h2,z1,z2,z3,z4,hQ⟩:=h
 refine⟨_,(qss_one (qs_ret (qe_d d__law_low hr.le pass0 (by rfl) (qa_cons (qe_op op_mulB (qe_ix ix_seqA (qv 0) qe_int (fun _ _=>rfl)) (qe_ix ix_seqA (qv 1) qe_int (fun _ _=>rfl))) (qa_cons (qe_op op_mulB (qe_ix ix_seqA (qv 0) qe_int (fun _ _=>rfl)) (qe_ix ix_seqA (qv 1) qe_int (fun _ _=>rfl))) qa_nil))))),?_⟩
 k_extra "rx"
 exact⟨_,_,rfl,mul_pos' h1 h2,(z2.mul z4).mono (by decide),fun r hr=>hQ r hr⟩
theorem ok__law_below(D:DefAt K mg "_law_below" s__law_below f fd)(T:Txt K mg cx):DefOk P w K mg base CX0 1 "_law_below" ["_law_one","_law_other"] sp__law_below:=by
 refine D.ok (D.q sc__law_below (fun vs H Q E h=>?_) (fun cdv A outer s H vs Q E hr h=>?_)) (D.fn.binds fun _ _ _ _ _ _ us hl=>match us,hl with | [_,_],_=>rfl)
 ·obtain⟨_,_,_,_,_,_,rfl,_⟩:=h
  rfl
 obtain⟨p,q,n1,u1,n2,u2,rfl,hp,hq,z1,z2,z3,z4,hQ⟩:=h
 refine⟨_,(qss_one (qs_ret (qe_cmpR op_lt (qe_op op_mulB (qe_ix ix_seqA (qv 0) qe_int (fun _ _=>rfl)) (qe_ix ix_seqA (qv 1) qe_int (fun _ _=>rfl))) (qe_op op_mulB (qe_ix ix_seqA (qv 1) qe_int (fun _ _=>rfl)) (qe_ix ix_seqA (qv 0) qe_int (fun _ _=>rfl))) (nomark _)))),?_⟩
 k_extra "rx"
 exact hQ
theorem ok__law_sum(D:DefAt K mg "_law_sum" s__law_sum f fd)(T:Txt K mg cx)(d__law_plus:DefOk P w K mg base CX0 3 "_law_plus" ["_law_one","_law_other"] sp__law_plus):DefOk P w K mg base CX0 4 "_law_sum" ["_law_row"] sp__law_sum:=by
 refine D.ok (D.q sc__law_sum (fun vs H Q E h=>?_) (fun cdv A outer s H vs Q E hr h=>?_)) (D.fn.binds fun _ _ _ _ _ _ us hl=>match us,hl with | [_],_=>rfl)
 ·obtain⟨_,_,_,_,_,rfl,_⟩:=h
  rfl
 obtain⟨L,xs,ps,U,k,rfl,hL,hU,hR,hk,hlen,hQ⟩:=h
 refine⟨_,(qss_cons (qs_set (i:=1) sc__law_sum.nd rfl (Or.inl rfl) (qe_tup (qa_cons qe_int (qa_cons qe_int qa_nil))))
   (qss_cons (qs_for PassesOwn.never rfl (qi_listK (K:=K) rfl (qv 0)) (qg_name (i:=2) sc__law_sum.nd rfl (Or.inl rfl)) (qss_one (qs_set (i:=1) sc__law_sum.nd rfl (Or.inl rfl) (qe_d d__law_plus hr.le pass0 (by rfl) (qa_cons (qv 1) (qa_cons (qv 2) qa_nil))))))
   (qss_one (qs_ret (qv 1))))),?_⟩
 have go:∀ i,i≤16→0 < (sumP (ps.take i)).2∧Sz 20000 (sumP (ps.take i)).1∧Sz 4400 (sumP (ps.take i)).2:=fun i hi=>by
  have a:=sum_pt hU.pos (k:=k) (l:=ps.take i) fun p hp=>hR.mem p (List.mem_of_mem_take hp)
  have hl:(ps.take i).length≤16:=by rw[List.length_take];omega
  exact⟨a.pos,(a.nsz hU.pos).mono (by omega),(a.toOk.usz hU).mono (by decide)⟩
 refine⟨by decide,fun r0 hr0=>?_⟩
 have s0:=Same.new (o:=.tup [.int 0,.int 1]) hr0
 refine⟨_,rfl,L,rfl,⟨_,SqL.of (s0 _ _ hL)⟩,for_list (K:=K) (a:=L) (xs:=xs) (fun i σ H2=>∃ r v,σ=[some (.ref L),some (.ref r),v]∧Same H H2∧H2 r=some (.tup [.int (sumP (ps.take i)).1,.int (sumP (ps.take i)).2]))
  ⟨r0,none,rfl,s0,upd_same⟩ (fun i σ H2 _ ⟨_,_,_,s2,_⟩=>SqL.of (s2 _ _ hL)) ?_ ?_⟩
 ·rintro i y σ H2 hy ⟨r,v,rfl,s2,hr⟩
  have hi:i < xs.length:=(List.getElem?_eq_some_iff.mp hy).1
  have hi2:i < ps.length:=by rw[← hR.1];exact hi
  obtain⟨q,eq,hq,po⟩:=hR.2 i ps[i] (List.getElem?_eq_getElem hi2)
  rw[eq] at hy
  cases hy
  have hq2:=s2 _ _ hq
  have e:sumP (ps.take (i+1))=addP (sumP (ps.take i)) ps[i]:=sumP_succ hi2
  obtain⟨h0,z1,z2⟩:=go i (by omega)
  have hu:=po.pos
  have zu:=(po.toOk.usz hU).mono (by decide:4000≤4400)
  have zn:=(po.nsz hU.pos).mono (by omega:k≤20000)
  rw[e]
  clear e go po hR
  generalize sumP (ps.take i)=S at hr h0 z1 z2 ⊢
  generalize ps[i]=P at hq hu zn zu hq2 ⊢
  k_extra "rd"
  refine⟨r,q,_,_,_,_,rfl,hr,hq2,h0,hu,z1,z2,zn,zu,fun w hw=>?_⟩
  k_extra "rd"
  exact⟨s2.trans (Same.new hw),rfl,rfl⟩
 ·rintro σ H2 ⟨r,v,rfl,s2,hr⟩
  have e:ps.take xs.length=ps:=by rw[hR.1,List.take_length]
  rw[e] at hr
  exact⟨_,rfl,hQ r H2 s2 hr⟩
theorem ok__law_whole(D:DefAt K mg "_law_whole" s__law_whole f fd)(T:Txt K mg cx):DefOk P w K mg base CX0 1 "_law_whole" ["_law_found"] sp__law_whole:=by
 refine D.ok (D.q sc__law_whole (fun vs H Q E h=>?_) (fun cdv A outer s H vs Q E hr h=>?_)) (D.fn.binds fun _ _ _ _ _ _ us hl=>match us,hl with | [_],_=>rfl)
 ·obtain⟨_,rfl,_⟩:=h
  rfl
 obtain⟨n,rfl,hQ⟩:=h
 refine⟨_,(qss_one (qs_ret (qe_and (qe_callB call_isi (by rfl) T.n_isinstance bt_isinstance (qa_cons (qv 0) (qa_cons (qe_bltn (v:=.ty "int") (by rfl) T.n_int bt_int rfl) qa_nil))) (qe_one (qe_not (qe_callB call_isi (by rfl) T.n_isinstance bt_isinstance (qa_cons (qv 0) (qa_cons (qe_bltn (v:=.ty "bool") (by rfl) T.n_bool bt_bool rfl) qa_nil)))))))),?_⟩
 k_extra "rd"
theorem ok__law_many(D:DefAt K mg "_law_many" s__law_many f fd)(T:Txt K mg cx)(d__law_pull:DefOk P w K mg base CX0 1 "_law_pull" ["_law_bag_here","_law_many_here"] sp__law_pull):DefOk P w K mg base CX0 2 "_law_many" ["_law_bag_here"] sp__law_many:=by
 refine D.ok (D.q sc__law_many (fun vs H Q E h=>?_) (fun cdv A outer s H vs Q E hr h=>?_)) (D.fn.binds fun _ _ _ _ _ _ us hl=>match us,hl with | [_],_=>rfl)
 ·obtain⟨_,_,rfl,_⟩:=h
  rfl
 obtain⟨B,L,rfl,hB,hQ⟩:=h
 refine⟨_,(qss_one (qs_ret (qe_ix ix_seqA (qe_lst (qa_cons qe_int (qa_cons qe_int (qa_cons qe_int (qa_cons qe_int (qa_cons qe_int (qa_cons qe_int (qa_cons qe_int qa_nil)))))))) (qe_d d__law_pull hr.le pass0 (by rfl) (qa_cons (qv 0) (qa_cons qe_int qa_nil))) (fun _ _=>rfl)))),?_⟩
 k_extra "rd"
 intro p hp
 have npB:p≠B:=hB.ne hp
 refine⟨B,7,L,rfl,hB.new hp,by decide,by decide,fun d H2 d0 d1 b2 f2=>?_⟩
 have hp2:=f2 p _ npB upd_same
 obtain⟨x,ex,hx1,hx2⟩:=pick (P:=fun x=>0≤x∧x≤6) [3,2,4,1,5,6,0] d0 d1 (by decide)
 have ex':atI [V.int 3,V.int 2,V.int 4,V.int 1,V.int 5,V.int 6,V.int 0] d=some (.int x):=ex
 k_extra "rd"
 exact hQ x H2 hx1 hx2 b2 ((Fr1.new hp).trans f2)
theorem ok__law_heap(D:DefAt K mg "_law_heap" s__law_heap f fd)(T:Txt K mg cx)(d__law_pull:DefOk P w K mg base CX0 1 "_law_pull" ["_law_bag_here","_law_many_here"] sp__law_pull):DefOk P w K mg base CX0 2 "_law_heap" ["_law_bag_here","_law_many_here"] sp__law_heap:=by
 refine D.ok (D.q sc__law_heap (fun vs H Q E h=>?_) (fun cdv A outer s H vs Q E hr h=>?_)) (D.fn.binds fun _ _ _ _ _ _ us hl=>match us,hl with | [_,_],_=>rfl)
 ·obtain⟨_,_,_,rfl,_⟩:=h
  rfl
 obtain⟨B,m,L,rfl,hB,m0,m6,hQ⟩:=h
 refine⟨_,(qss_cons (qs_if (qw_and (qt_cmpR op_gt (qv 1) qe_int (nomark _)) (qw_and1 (qt_cmpR op_eq (qe_d d__law_pull hr.le pass0 (by rfl) (qa_cons (qv 0) (qa_cons qe_int qa_nil))) qe_int (nomark _)))).pt (qss_one (qs_ret (qe_tup (qa_cons (qe_d d__law_pull hr.le pass0 (by rfl) (qa_cons (qv 0) (qa_cons (qv 1) qa_nil))) qa_nil)))) qss_nil)
   (qss_cons (qs_set (i:=2) sc__law_heap.nd rfl (Or.inr rfl) (qe_d d__law_pull hr.le pass0 (by rfl) (qa_cons (qv 0) (qa_cons (qe_ix ix_seqA (qe_lst (qa_cons qe_int (qa_cons qe_int (qa_cons qe_int (qa_cons qe_int (qa_cons qe_int (qa_cons qe_int (qa_cons qe_int qa_nil)))))))) (qv 1) (fun _ _=>rfl)) qa_nil))))
   (qss_one (qs_ret (qe_callTy call_tupF (by rfl) T.n_tuple bt_tuple (qa_cons (qe_comp ["_law_place"] [("_law_mask", 2)] rfl (qi_range1 (by rfl) T.n_range (qa_cons (qv 1) qa_nil)) (gext_name (by decide)) (fun cl C fp s2 H2=>⟨(qg_name (i:=0) (show (["_law_place","_law_mask"]:List Str).Nodup by decide +kernel) rfl (Or.inl rfl)),(qf_one (qt_cmpR op_eq (qe_op op_mod (qe_op op_fdivB (qv 1) (qe_ix ix_seqA (qe_lst (qa_cons qe_int (qa_cons qe_int (qa_cons qe_int (qa_cons qe_int (qa_cons qe_int (qa_cons qe_int qa_nil))))))) (qv 0) (fun _ _=>rfl))) qe_int) qe_int (nomark _))),(qv 0)⟩) rfl (by decide +kernel) (by decide +kernel) (free_of (by rfl)) (fr_of (by rfl))) qa_nil)))))),?_⟩
 refine seq_cut (fun σ' H'=>∃ v2,σ'=[some (.ref B),some (.int m),v2]∧BagAt H' B L∧Fr1 B H H') ?_ fun tb' key=>?_
 ·rintro σ H1 ⟨v2,rfl,hB,fH⟩
  k_extra "rd"
  intro p hp
  have npB:p≠B:=hB.ne hp
  have b9:=hB.new (o:=.lst [.int 1,.int 2,.int 4,.int 8,.int 16,.int 32,.int 64]) hp
  have h9:upd H1 p (.lst [.int 1,.int 2,.int 4,.int 8,.int 16,.int 32,.int 64]) p=_:=upd_same
  have f9:=fH.trans (Fr1.new (B:=B) (o:=.lst [.int 1,.int 2,.int 4,.int 8,.int 16,.int 32,.int 64]) hp)
  generalize upd H1 p (.lst [.int 1,.int 2,.int 4,.int 8,.int 16,.int 32,.int 64])=H9 at b9 h9 f9 ⊢
  obtain⟨x,ex,hx1,hx2⟩:=pick (P:=fun x=>0 < x∧x≤64) [1,2,4,8,16,32,64] m0 (by show m < 7;omega) (by decide)
  have ex':atI [V.int 1,V.int 2,V.int 4,V.int 8,V.int 16,V.int 32,V.int 64] m=some (.int x):=ex
  k_extra "rd"
  refine⟨B,x,L,rfl,b9,hx1,Sz.mono (j:=7) (Sz.of (by omega)) (by decide),fun k H2 e0 e1 b2 f2=>?_⟩
  have f12:=f9.trans f2
  clear ex ex' h9 npB b9 f2 f9
  refine⟨_,rfl,m,rfl,by omega,by omega,fun l hl=>?_⟩
  refine comp_rangeR (k:=m.toNat) (fun i acc H3=>∃ hs:List Int,acc=hs.map V.int∧hs.length≤i∧(∀ x∈hs,0≤x∧x < m)∧Fr1 l H2 H3∧H3 l=some (.lst acc)) ⟨[],rfl,Nat.le_refl _,(fun x hx=>by cases hx),Fr1.upd,upd_same⟩ ?_ ?_
  ·rintro i acc H3 hi ⟨hs,rfl,hlen,hb,f3,hl3⟩
   simp only[gName_ap]
   k_extra "rd"
   intro p4 hp4
   have n4:p4≠l:=fun z=>by rw[z,hl3] at hp4;cases hp4
   have h4:upd H3 p4 (.lst [.int 1,.int 2,.int 4,.int 8,.int 16,.int 32]) p4=_:=upd_same
   have l4:=(Same.new (o:=.lst [.int 1,.int 2,.int 4,.int 8,.int 16,.int 32]) hp4) _ _ hl3
   have f4:=f3.trans (Fr1.new (B:=l) (o:=.lst [.int 1,.int 2,.int 4,.int 8,.int 16,.int 32]) hp4)
   generalize upd H3 p4 (.lst [.int 1,.int 2,.int 4,.int 8,.int 16,.int 32])=H4 at h4 l4 f4 ⊢
   obtain⟨y,ey,hy1,hy2⟩:=pick (P:=fun x=>0 < x∧x≤64) [1,2,4,8,16,32] (d:=0+(i:Int)) (by omega) (by show 0+(i:Int) < 6;omega) (by decide)
   have ey':atI [V.int 1,V.int 2,V.int 4,V.int 8,V.int 16,V.int 32] (0+(i:Int))=some (.int y):=ey
   have zy:Sz 9000 y:=Sz.mono (j:=7) (Sz.of (by omega)) (by decide)
   clear ey
   k_extra "rd"
   refine ite2 (fun hc=>?_) (fun hc=>?_)
   ·refine⟨small1000 (by omega),hs++[0+(i:Int)],by rw[List.map_append];rfl,by rw[List.length_append];exact Nat.succ_le_succ hlen,fun z hz=>?_,f4.trans Fr1.upd⟩
    rcases List.mem_append.mp hz with hz | hz
    ·exact hb z hz
    ·rw[List.mem_singleton.mp hz];omega
   ·exact⟨hs,rfl,Nat.le_succ_of_le hlen,hb⟩
  ·rintro acc H3 ⟨hs,rfl,hlen,hb,f3,hl3⟩
   have nlB:=b2.ne hl
   have nlL:=b2.neL hl
   have same:Same H2 H3:=fun b o hb'=>f3 b o (fun z=>by rw[z,hl] at hb';cases hb') hb'
   refine⟨l,rfl,_,hl3,fun t ht=>?_⟩
   have s4:=same.trans (Same.new (o:=.tup (hs.map V.int)) ht)
   have nt:H t=none:=by
    cases e:H t with
    | none=>rfl
    | some o =>
     have ntB:t≠B:=(b2.keep same).ne ht
     have:=same _ _ (f12 t o ntB e)
     rw[this] at ht
     cases ht
   exact hQ t hs _ nt (b2.keep s4) (f12.trans (Fr1.of s4)) upd_same (by omega) hb
 have fH:Fr1 B H H:=Fr1.refl
 k_extra "rd"
 refine brkD (fun h1=>?_) (fun h1=>?_)
 ·k_extra "rd"
  refine⟨B,3,L,rfl,hB,by decide,by decide,fun d H1 d0 d1 b1 f1=>?_⟩
  k_extra "rd"
  refine brkD (fun h2=>?_) (fun h2=>?_)
  ·k_extra "rd"
   refine⟨B,m,L,rfl,b1,h1,Sz.mono (j:=3) (Sz.of (by omega)) (by decide),fun d2 H2 e0 e1 b2 f2=>?_⟩
   k_extra "rd"
   intro t ht
   have f12:=f1.trans f2
   have nt:H t=none:=by
    cases e:H t with
    | none=>rfl
    | some o =>
     rw[f12 t o (b2.ne ht) e] at ht
     cases ht
   exact hQ t [d2] _ nt (b2.new ht) (f12.trans (Fr1.new ht)) upd_same (by show 1≤6;decide) fun x hx=>by rw[List.mem_singleton.mp hx];exact⟨e0,e1⟩
  ·k_extra "rd"
   exact key _ _ ⟨_,rfl,b1,f1⟩
 ·k_extra "rd"
  exact key _ _ ⟨_,rfl,hB,fH⟩
theorem ok__law_due(D:DefAt K mg "_law_due" s__law_due f fd)(T:Txt K mg cx)(d__law_low:DefOk P w K mg base CX0 2 "_law_low" ["_law_number","_law_under"] sp__law_low)(d__law_pull:DefOk P w K mg base CX0 1 "_law_pull" ["_law_bag_here","_law_many_here"] sp__law_pull):DefOk P w K mg base CX0 3 "_law_due" ["_law_bag_here","_law_scale"] sp__law_due:=by
 refine D.ok (D.q sc__law_due (fun vs H Q E h=>?_) (fun cdv A outer s H vs Q E hr h=>?_)) (D.fn.binds fun _ _ _ _ _ _ us hl=>match us,hl with | [_,_],_=>rfl)
 ·obtain⟨_,_,_,rfl,_⟩:=h
  rfl
 obtain⟨B,s',L,rfl,hB,s0,s9,hQ⟩:=h
 refine⟨_,(qss_one (qs_ret (qe_d d__law_low hr.le pass0 (by rfl) (qa_cons (qe_d d__law_pull hr.le pass0 (by rfl) (qa_cons (qv 0) (qa_cons (qe_op op_add (qv 1) qe_int) qa_nil))) (qa_cons (qe_op op_add qe_int (qe_d d__law_pull hr.le pass0 (by rfl) (qa_cons (qv 0) (qa_cons (qe_ix ix_seqA (qe_lst (qa_cons qe_int (qa_cons qe_int (qa_cons qe_int (qa_cons qe_int qa_nil))))) (qe_d d__law_pull hr.le pass0 (by rfl) (qa_cons (qv 0) (qa_cons qe_int qa_nil))) (fun _ _=>rfl)) qa_nil)))) qa_nil))))),?_⟩
 k_extra "rd"
 refine⟨B,s'+1,L,rfl,hB,by omega,Sz.mono (j:=31) (Sz.of (by omega)) (by decide),fun d H1 d0 d1 b1 f1=>?_⟩
 k_extra "rd"
 intro p hp
 have npB:p≠B:=b1.ne hp
 refine⟨B,4,L,rfl,b1.new hp,by decide,by decide,fun e H2 e0 e1 b2 f2=>?_⟩
 have hp2:=f2 p _ npB upd_same
 obtain⟨x,ex,hx1,hx2⟩:=pick (P:=fun x=>0 < x∧x≤60) [1,1,3,60] e0 e1 (by decide)
 have ex':atI [V.int 1,V.int 1,V.int 3,V.int 60] e=some (.int x):=ex
 clear ex
 k_extra "rd"
 refine⟨B,x,L,rfl,b2,hx1,Sz.mono (j:=6) (Sz.of (by omega)) (by decide),fun k H3 k0 k1 b3 f3=>?_⟩
 have hu:0 < 1+k:=by omega
 have zu:Sz 7 (1+k):=Sz.of (by omega)
 have zd:Sz 31 d:=Sz.of (by omega)
 clear ex' hp2
 k_extra "rd"
 refine⟨d,1+k,rfl,hu,zu.mono (by decide),fun q hq=>?_⟩
 obtain⟨r1,r2,r3,r4⟩:=low_red d hu
 have fr:Fr1 B H H3:=f1.trans ((Fr1.new hp).trans (f2.trans f3))
 refine hQ q _ _ _ ?_ (b3.new hq) (fr.trans (Fr1.new hq)) upd_same (du_of d0 (by omega) hu (by omega))
 cases e:H q with
 | none=>rfl
 | some o=>rw[fr q o (b3.ne hq) e] at hq;cases hq
theorem ok__law_ceil(D:DefAt K mg "_law_ceil" s__law_ceil f fd)(T:Txt K mg cx):DefOk P w K mg base CX0 1 "_law_ceil" ["_law_one"] sp__law_ceil:=by
 refine D.ok (D.q sc__law_ceil (fun vs H Q E h=>?_) (fun cdv A outer s H vs Q E hr h=>?_)) (D.fn.binds fun _ _ _ _ _ _ us hl=>match us,hl with | [_],_=>rfl)
 ·obtain⟨_,_,_,rfl,_⟩:=h
  rfl
 obtain⟨p,n,u,rfl,hp,h1,z1,hQ⟩:=h
 refine⟨_,(qss_one (qs_ret (qe_un un_neg (qe_op op_fdivB (qe_un un_neg (qe_ix ix_seqA (qv 0) qe_int (fun _ _=>rfl))) (qe_ix ix_seqA (qv 0) qe_int (fun _ _=>rfl)))))),?_⟩
 k_extra "rd"
theorem ok_total(D:DefAt K mg "total" s_total f fd)(T:Txt K mg cx)(d_one_under:DefOk P w K mg base CX0 2 "one_under" ["row"] sp_one_under)(d_lowest:DefOk P w K mg base (CXR P w) 2 "lowest" ["number","under"] (sp_lowest K cx))(d_numbers_over:DefOk P w K mg base CX0 1 "numbers_over" ["row","under"] sp_numbers_over):DefOk P w K mg base CX0 3 "total" ["row"] sp_total:=by
 refine D.ok (D.q sc_total (fun vs H Q E h=>?_) (fun cdv A outer s H vs Q E hr h=>?_)) (D.fn.binds fun _ _ _ _ _ _ us hl=>match us,hl with | [_],_=>rfl)
 ·obtain⟨_,_,_,_,_,rfl,_⟩:=h
  rfl
 obtain⟨L,xs,ps,V0,k,rfl,hL,hV,hR,hk,hlen,hQ⟩:=h
 have hpos:∀ p∈ps,0 < p.2:=fun p hp=>(hR.mem p hp).pos
 obtain⟨U0,dU,_⟩:=undP_ok (U:=V0) (l:=ps) fun p hp=>(hR.mem p hp).toOk
 have zU:=hV.sz.le (le_of_dvd' dU hV.pos)
 obtain⟨t1,t2⟩:=total_eq hpos
 refine⟨_,(qss_cons (qs_set (i:=1) sc_total.nd rfl (Or.inl rfl) (qe_d d_one_under hr.le pass0 (by rfl) (qa_cons (qv 0) qa_nil)))
   (qss_one (qs_ret (qe_d d_lowest hr.le passR0 (by rfl) (qa_cons (qe_callB (call_sumF rfl) (by rfl) T.n_sum bt_sum (qa_cons (qe_d d_numbers_over hr.le pass0 (by rfl) (qa_cons (qv 0) (qa_cons (qv 1) qa_nil))) qa_nil)) (qa_cons (qv 1) qa_nil)))))),?_⟩
 refine⟨_,rfl,L,xs,ps,V0,k,rfl,hL,hV,hR,hk,hlen,?_⟩
 generalize undP ps=U at U0 zU t1 t2 dU ⊢
 k_extra "rd"
 refine⟨L,U,xs,ps,V0,k,rfl,hL,hV,hR,hk,hlen,zU,fun l hl=>?_⟩
 k_extra "rd"
 refine⟨_,rfl,_,_,rfl,zU.mono (by decide),fun h=>absurd h (by omega),fun _ p hp=>hQ p _ ((Same.new hl).trans (Same.new hp)) ?_⟩
 rw[upd_same,← t1,← t2]
theorem ok__law_less(D:DefAt K mg "_law_less" s__law_less f fd)(T:Txt K mg cx)(d__law_low:DefOk P w K mg base CX0 2 "_law_low" ["_law_number","_law_under"] sp__law_low):DefOk P w K mg base CX0 3 "_law_less" ["_law_one","_law_other"] sp__law_less:=by
 refine D.ok (D.q sc__law_less (fun vs H Q E h=>?_) (fun cdv A outer s H vs Q E hr h=>?_)) (D.fn.binds fun _ _ _ _ _ _ us hl=>match us,hl with | [_,_],_=>rfl)
 ·obtain⟨_,_,_,_,_,_,rfl,_⟩:=h
  rfl
 obtain⟨p,q,n1,u1,n2,u2,rfl,hp,hq,h1,h2,z1,z2,z3,z4,hQ⟩:=h
 refine⟨_,(qss_one (qs_ret (qe_d d__law_low hr.le pass0 (by rfl) (qa_cons (qe_op op_sub (qe_op op_mulB (qe_ix ix_seqA (qv 0) qe_int (fun _ _=>rfl)) (qe_ix ix_seqA (qv 1) qe_int (fun _ _=>rfl))) (qe_op op_mulB (qe_ix ix_seqA (qv 1) qe_int (fun _ _=>rfl)) (qe_ix ix_seqA (qv 0) qe_int (fun _ _=>rfl)))) (qa_cons (qe_op op_mulB (qe_ix ix_seqA (qv 0) qe_int (fun _ _=>rfl)) (qe_ix ix_seqA (qv 1) qe_int (fun _ _=>rfl))) qa_nil))))),?_⟩
 k_extra "rx"
 exact⟨_,_,rfl,mul_pos' h1 h2,(z2.mul z4).mono (by decide),fun r hr=>hQ r hr⟩
theorem ok__law_truth(D:DefAt K mg "_law_truth" s__law_truth f fd)(T:Txt K mg cx):DefOk P w K mg base CX0 1 "_law_truth" ["_law_found","_law_due_here"] sp__law_truth:=by
 refine D.ok (D.q sc__law_truth (fun vs H Q E h=>?_) (fun cdv A outer s H vs Q E hr h=>?_)) (D.fn.binds fun _ _ _ _ _ _ us hl=>match us,hl with | [_,_],_=>rfl)
 ·obtain⟨_,_,rfl,_⟩:=h
  rfl
 obtain⟨b,c,rfl,hQ⟩:=h
 refine⟨_,(qss_one (qs_ret (qe_and (qe_callB call_isi (by rfl) T.n_isinstance bt_isinstance (qa_cons (qv 0) (qa_cons (qe_bltn (v:=.ty "bool") (by rfl) T.n_bool bt_bool rfl) qa_nil))) (qe_one (qe_cmpR op_eq (qv 0) (qv 1) (nomark _)))))),?_⟩
 k_extra "rd"
theorem ok__law_pair(D:DefAt K mg "_law_pair" s__law_pair f fd)(T:Txt K mg cx)(d__law_gcd:DefOk P w K mg base CX0 1 "_law_gcd" ["_law_one","_law_other"] sp__law_gcd)(d__law_whole:DefOk P w K mg base CX0 1 "_law_whole" ["_law_found"] sp__law_whole):DefOk P w K mg base CX0 2 "_law_pair" ["_law_found"] sp__law_pair:=by
 refine D.ok (D.q sc__law_pair (fun vs H Q E h=>?_) (fun cdv A outer s H vs Q E hr h=>?_)) (D.fn.binds fun _ _ _ _ _ _ us hl=>match us,hl with | [_],_=>rfl)
 ·obtain⟨_,_,_,rfl,_⟩:=h
  rfl
 obtain⟨p,n,u,rfl,hp,hu,hg,hz,hQ⟩:=h
 refine⟨_,(qss_cons (qs_if (qw_or (qt_not (qt_val (qe_callB call_isi (by rfl) T.n_isinstance bt_isinstance (qa_cons (qv 0) (qa_cons (qe_bltn (v:=.ty "tuple") (by rfl) T.n_tuple bt_tuple rfl) qa_nil))))) (qw_or1 (qt_cmpR op_ne (qe_callB call_lenF (by rfl) T.n_len bt_len (qa_cons (qv 0) qa_nil)) qe_int (nomark _)))).pt (qss_one (qs_ret qe_bl)) qss_nil)
   (qss_cons (qs_if (qw_or (qt_not (qt_val (qe_d d__law_whole hr.le pass0 (by rfl) (qa_cons (qe_ix ix_seqA (qv 0) qe_int (fun _ _=>rfl)) qa_nil)))) (qw_or (qt_not (qt_val (qe_d d__law_whole hr.le pass0 (by rfl) (qa_cons (qe_ix ix_seqA (qv 0) qe_int (fun _ _=>rfl)) qa_nil)))) (qw_or1 (qt_cmpR op_lt (qe_ix ix_seqA (qv 0) qe_int (fun _ _=>rfl)) qe_int (nomark _))))).pt (qss_one (qs_ret qe_bl)) qss_nil)
   (qss_one (qs_ret (qe_cmpR op_eq (qe_d d__law_gcd hr.le pass0 (by rfl) (qa_cons (qe_ix ix_seqA (qv 0) qe_int (fun _ _=>rfl)) (qa_cons (qe_ix ix_seqA (qv 0) qe_int (fun _ _=>rfl)) qa_nil))) qe_int (nomark _)))))),?_⟩
 k_extra "rd"
 refine brkD (fun h1=>by omega) (fun h1=>?_)
 k_extra "rd"
 exact hQ
theorem ok__law_pairs(D:DefAt K mg "_law_pairs" s__law_pairs f fd)(T:Txt K mg cx)(d__law_pair:DefOk P w K mg base CX0 2 "_law_pair" ["_law_found"] sp__law_pair):DefOk P w K mg base CX0 3 "_law_pairs" ["_law_found","_law_many_here"] sp__law_pairs:=by
 refine D.ok (D.q sc__law_pairs (fun vs H Q E h=>?_) (fun cdv A outer s H vs Q E hr h=>?_)) (D.fn.binds fun _ _ _ _ _ _ us hl=>match us,hl with | [_,_],_=>rfl)
 ·obtain⟨_,_,_,_,rfl,_⟩:=h
  rfl
 obtain⟨F,ys,ps,m,rfl,hF,hR,h16,hp,hQ⟩:=h
 refine⟨_,(qss_one (qs_ret (qe_and (qe_callB call_isi (by rfl) T.n_isinstance bt_isinstance (qa_cons (qv 0) (qa_cons (qe_bltn (v:=.ty "list") (by rfl) T.n_list bt_list rfl) qa_nil))) (qe_and (qe_cmpR op_eq (qe_callB call_lenF (by rfl) T.n_len bt_len (qa_cons (qv 0) qa_nil)) (qv 1) (nomark _)) (qe_one (qe_callB (call_allF rfl) (by rfl) T.n_all bt_all (qa_cons (qe_comp ["_law_one"] [] rfl (qi_listK (K:=K) rfl (qv 0)) (gext_name (by decide)) (fun cl C fp s2 H2=>⟨(qg_name (i:=0) (show (["_law_one"]:List Str).Nodup by decide +kernel) rfl (Or.inl rfl)),qf_nil,(qe_d d__law_pair hr.le pass0 (by rfl) (qa_cons (qv 0) qa_nil))⟩) rfl (by decide +kernel) (by decide +kernel) (free_of (by rfl)) (fr_of (by rfl))) qa_nil))))))),?_⟩
 have tyF:tyNm (.ref F) H=some "list" := by simp only[tyNm,hF]
 have hyl:=hR.1
 k_extra "rx"
 refine i_tAndV ?_
 k_extra "rx"
 refine⟨_,_,_,rfl,by decide,tyF,?_⟩
 refine⟨_,rfl,brk (fun _=>?_) (fun z=>absurd z (by decide))⟩
 refine i_tAndV ?_
 k_extra "rx"
 refine⟨rfl,?_⟩
 refine⟨_,rfl,brkD (fun h1=>?_) (fun h1=>?_)⟩
 ·have h1:(ys.length:Int)=(m:Int):=V.int.inj h1
  have hm:decide (ps.length=m)=true:=decide_eq_true (by omega)
  rw[hm] at hQ
  k_extra "rx"
  refine⟨_,rfl,F,rfl,⟨_,SqL.of hF⟩,fun l hl=>?_⟩
  refine comp_listR (K:=K) (a:=F) (xs:=ys) (fun i acc H2=>Same H H2∧H2 l=some (.lst acc)∧acc=(List.replicate i true).map V.bl) ⟨Same.new hl,upd_same,rfl⟩ (fun i acc H2 _ ⟨s2,_,_⟩=>SqL.of (s2 _ _ hF)) ?_ ?_
  ·rintro i y acc H2 hy ⟨s2,hl2,rfl⟩
   have hi:i < ps.length:=by rw[← hyl];exact (List.getElem?_eq_some_iff.mp hy).1
   obtain⟨r,er,hr'⟩:=hR.2 i ps[i] (List.getElem?_eq_getElem hi)
   rw[er] at hy
   cases hy
   have e:ps.getD i (0,1)=ps[i]:=by simp[List.getD_eq_getElem?_getD,hi]
   obtain⟨p1,p2,p3⟩:=hp i hi
   rw[e] at p1 p2 p3
   have len:((List.replicate i true).map V.bl).length≤16:=by rw[List.length_map,List.length_replicate];omega
   rw[List.replicate_succ',List.map_append]
   generalize (List.replicate i true).map V.bl=A' at hl2 len ⊢
   simp only[gName_ap,tYes,if_true]
   k_extra "rx"
   refine⟨r,_,_,rfl,s2 _ _ hr',p1,p2,p3,hl2,small1000 (by omega),same_put hl s2,upd_same,rfl⟩
  ·rintro acc H2 ⟨s2,hl2,rfl⟩
   refine⟨l,_,rfl,hl2,?_⟩
   have ea:(List.replicate ys.length true).all id=true:=by simp
   rw[ea]
   exact hQ H2 s2
 ·have hm:decide (ps.length=m)=false:=decide_eq_false fun z=>h1 (by rw[hyl,z])
  rw[hm] at hQ
  exact hQ H fun _ _ h=>h
theorem ok__law_tabled(D:DefAt K mg "_law_tabled" s__law_tabled f fd)(T:Txt K mg cx)(d__law_many:DefOk P w K mg base CX0 2 "_law_many" ["_law_bag_here"] sp__law_many)(d__law_claims:DefOk P w K mg base CX0 4 "_law_claims" ["_law_bag_here","_law_many_here"] sp__law_claims)(d__law_pull:DefOk P w K mg base CX0 1 "_law_pull" ["_law_bag_here","_law_many_here"] sp__law_pull)(d__law_low:DefOk P w K mg base CX0 2 "_law_low" ["_law_number","_law_under"] sp__law_low)(d__law_sum:DefOk P w K mg base CX0 4 "_law_sum" ["_law_row"] sp__law_sum)(d__law_plus:DefOk P w K mg base CX0 3 "_law_plus" ["_law_one","_law_other"] sp__law_plus)(d__law_ceil:DefOk P w K mg base CX0 1 "_law_ceil" ["_law_one"] sp__law_ceil):DefOk P w K mg base CX0 5 "_law_tabled" ["_law_bag_here"] sp__law_tabled:=by
 refine D.ok (D.q sc__law_tabled (fun vs H Q E h=>?_) (fun cdv A outer s H vs Q E hr h=>?_)) (D.fn.binds fun _ _ _ _ _ _ us hl=>match us,hl with | [_],_=>rfl)
 ·obtain⟨_,_,rfl,_⟩:=h
  rfl
 obtain⟨B,L,rfl,hB,hQ⟩:=h
 refine⟨_,(qss_cons (qs_set (i:=1) sc__law_tabled.nd rfl (Or.inl rfl) (qe_d d__law_many hr.le pass0 (by rfl) (qa_cons (qv 0) qa_nil)))
   (qss_cons (qs_set (i:=2) sc__law_tabled.nd rfl (Or.inl rfl) (qe_ix ix_seqA (qe_lst (qa_cons qe_int (qa_cons qe_int (qa_cons qe_int (qa_cons (qe_op op_pow qe_int qe_int) qa_nil))))) (qe_d d__law_pull hr.le pass0 (by rfl) (qa_cons (qv 0) (qa_cons qe_int qa_nil))) (fun _ _=>rfl)))
   (qss_cons (qs_set (i:=3) sc__law_tabled.nd rfl (Or.inl rfl) (qe_ix ix_seqA (qe_lst (qa_cons qe_int (qa_cons qe_int (qa_cons qe_int (qa_cons qe_int qa_nil))))) (qe_d d__law_pull hr.le pass0 (by rfl) (qa_cons (qv 0) (qa_cons qe_int qa_nil))) (fun _ _=>rfl)))
   (qss_cons (qs_set (i:=4) sc__law_tabled.nd rfl (Or.inl rfl) (qe_lst qa_nil))
   (qss_cons (qs_set (i:=5) sc__law_tabled.nd rfl (Or.inl rfl) (qe_lst qa_nil))
   (qss_cons (qs_for PassesOwn.never rfl (qi_listK (K:=K) rfl (qe_d d__law_claims hr.le pass0 (by rfl) (qa_cons (qv 0) (qa_cons (qv 1) qa_nil)))) (qg_name (i:=6) sc__law_tabled.nd rfl (Or.inl rfl)) (qss_cons (qs_setC (k:=7) ["_law_place"] [] sc__law_tabled.nd rfl rfl rfl (qi_range1 (by rfl) T.n_range (qa_cons (qv 1) qa_nil)) (gext_name (by decide)) (fun cl C fp s2 H2=>⟨(qg_name (i:=0) (show (["_law_place"]:List Str).Nodup by decide +kernel) rfl (Or.inl rfl)),qf_nil,(qe_tup (qa_cons qe_int (qa_cons qe_int qa_nil)))⟩) rfl (by decide +kernel) (by decide +kernel) (free_of (by rfl)) (fr_of (by rfl)))
   (qss_cons (qs_for PassesOwn.never rfl (qi_tupK (K:=K) rfl (qe_ix ix_seqA (qv 6) qe_int (fun _ _=>rfl))) (qg_name (i:=8) sc__law_tabled.nd rfl (Or.inr rfl)) (qss_one (qs_asg (qe_d d__law_low hr.le pass0 (by rfl) (qa_cons (qe_op op_mulB (qe_d d__law_pull hr.le pass0 (by rfl) (qa_cons (qv 0) (qa_cons (qe_op op_add (qv 2) qe_int) qa_nil))) (qe_d d__law_pull hr.le pass0 (by rfl) (qa_cons (qv 0) (qa_cons qe_int qa_nil)))) (qa_cons (qe_op op_add qe_int (qe_d d__law_pull hr.le pass0 (by rfl) (qa_cons (qv 0) (qa_cons (qv 3) qa_nil)))) qa_nil))) (qg_sub (qv 7) (qv 8) set_list))))
   (qss_cons (qs_expr (qe_bmK (K:=K) rfl PySem.F.plainAttrs_list PySem.F.slot_list_append PySem.F.type_list_append mt_append (qv 5) (qa_cons (qv 7) qa_nil)))
   (qss_cons (qs_set (i:=9) sc__law_tabled.nd rfl (Or.inl rfl) (qe_ix ix_seqA (qe_lst (qa_cons (qe_tup (qa_cons qe_int (qa_cons qe_int qa_nil))) (qa_cons (qe_tup (qa_cons qe_int (qa_cons qe_int qa_nil))) (qa_cons (qe_ix ix_seqA (qv 6) qe_int (fun _ _=>rfl)) qa_nil)))) (qe_d d__law_pull hr.le pass0 (by rfl) (qa_cons (qv 0) (qa_cons qe_int qa_nil))) (fun _ _=>rfl)))
   (qss_one (qs_expr (qe_bmK (K:=K) rfl PySem.F.plainAttrs_list PySem.F.slot_list_append PySem.F.type_list_append mt_append (qv 4) (qa_cons (qe_tup (qa_cons (qe_d d__law_plus hr.le pass0 (by rfl) (qa_cons (qe_d d__law_sum hr.le pass0 (by rfl) (qa_cons (qv 7) qa_nil)) (qa_cons (qv 9) qa_nil))) (qa_cons (qe_ix ix_seqA (qv 6) qe_int (fun _ _=>rfl)) (qa_cons (qe_ix ix_seqA (qv 6) qe_int (fun _ _=>rfl)) qa_nil)))) qa_nil)))))))))
   (qss_cons (qs_set (i:=10) sc__law_tabled.nd rfl (Or.inl rfl) (qe_lst qa_nil))
   (qss_cons (qs_for PassesOwn.never rfl (qi_range1 (by rfl) T.n_range (qa_cons (qv 1) qa_nil)) (qg_name (i:=8) sc__law_tabled.nd rfl (Or.inr rfl)) (qss_one (qs_expr (qe_bmK (K:=K) rfl PySem.F.plainAttrs_list PySem.F.slot_list_append PySem.F.type_list_append mt_append (qv 10) (qa_cons (qe_op op_add (qe_d d__law_ceil hr.le pass0 (by rfl) (qa_cons (qe_d d__law_sum hr.le pass0 (by rfl) (qa_cons (qe_comp ["_law_row"] [("_law_place", 8)] rfl (qi_listK (K:=K) rfl (qv 5)) (gext_name (by decide)) (fun cl C fp s2 H2=>⟨(qg_name (i:=0) (show (["_law_row","_law_place"]:List Str).Nodup by decide +kernel) rfl (Or.inl rfl)),qf_nil,(qe_ix ix_seqA (qv 0) (qv 1) (fun _ _=>rfl))⟩) rfl (by decide +kernel) (by decide +kernel) (free_of (by rfl)) (fr_of (by rfl))) qa_nil)) qa_nil)) (qe_op op_mulB (qe_d d__law_pull hr.le pass0 (by rfl) (qa_cons (qv 0) (qa_cons qe_int qa_nil))) (qe_d d__law_pull hr.le pass0 (by rfl) (qa_cons (qv 0) (qa_cons qe_int qa_nil))))) qa_nil)))))
   (qss_one (qs_ret (qe_tup (qa_cons (qv 10) (qa_cons (qv 4) (qa_cons (qe_comp ["_law_row"] [] rfl (qi_listK (K:=K) rfl (qv 5)) (gext_name (by decide)) (fun cl C fp s2 H2=>⟨(qg_name (i:=0) (show (["_law_row"]:List Str).Nodup by decide +kernel) rfl (Or.inl rfl)),qf_nil,(qe_d d__law_sum hr.le pass0 (by rfl) (qa_cons (qv 0) qa_nil))⟩) rfl (by decide +kernel) (by decide +kernel) (free_of (by rfl)) (fr_of (by rfl))) (qa_cons (qv 5) qa_nil))))))))))))))),?_⟩
 refine seq_cut6 (fun σ' H'=>∃ m sc un F C Z xs0 cs0 xs cs zs rss v6 v7 v8 v9,σ'=[some (.ref B),some (.int ((m:Nat):Int)),some (.int sc),some (.int un),some (.ref C),some (.ref Z),v6,v7,v8,v9,none]∧Tb H B L F C Z xs0 cs0 xs cs zs rss H'∧Tn H B L F C Z∧m≤6∧cs.length≤16∧rss.length=cs.length∧(∀ c∈cs,GoodU2 UM 122 m c)∧(∀ r∈rss,RwOk m r)∧NtOk cs rss) ?_ fun tb' key=>?_
 ·rintro σ H1 ⟨m,sc,un,F,C,Z,xs0,cs0,xs,cs,zs,rss,v6,v7,v8,v9,rfl,tb,tn,m6,c16,rl,hG,hr,hn⟩
  refine⟨by show 0≤sizeLine;decide,fun W hW=>?_⟩
  have wB:=tb.b.ne hW
  have wL:=tb.b.neL hW
  have wF:W≠F:=fun z=>by rw[z,tb.f] at hW;cases hW
  have wC:W≠C:=fun z=>by rw[z,tb.c] at hW;cases hW
  have wZ:W≠Z:=fun z=>by rw[z,tb.z] at hW;cases hW
  have wz:=tb.hZ.fresh hW
  have w0:H W=none:=by
   cases e:H W with
   | none=>rfl
   | some o=>rw[tb.fr W o wB e] at hW;cases hW
  have tb2:=tb.same (Same.new (o:=.lst []) hW)
  have hw2:upd H1 W (.lst []) W=some (.lst (([]:List Int).map V.int)):=upd_same
  generalize upd H1 W (.lst [])=H2 at tb2 hw2 ⊢
  clear tb hW
  refine⟨_,rfl,(m:Int),rfl,by omega,by omega,for_rangeN (lo:=0) (n:=((m:Nat):Int).toNat) (fun j σ H'=>∃ ws v6 v7 v8 v9,σ=[some (.ref B),some (.int (m:Int)),some (.int sc),some (.int un),some (.ref C),some (.ref Z),v6,v7,v8,v9,some (.ref W)]∧Tb H B L F C Z xs0 cs0 xs cs zs rss H'∧H' W=some (.lst (ws.map V.int))∧ws.length=j∧(∀ x∈ws,0≤x∧Sz 140 x)∧ColOk rss ws) ⟨[],_,_,_,_,rfl,tb2,hw2,rfl,(fun x hx=>by cases hx),(fun p hp=>by cases hp)⟩ ?_ ?_⟩
  ·clear tb2 hw2
   rintro j σ H3 NN BB hj ⟨ws,v6,v7,v8,v9,rfl,t3,hw3,hwl,hwz,hco⟩ kN kB
   clear kB
   have jm:j < m:=by omega
   simp only[gName_ap]
   refine⟨_,rfl,.inl ⟨rfl,_,SqL.of hw3⟩,_,rfl,Z,rfl,⟨_,SqL.of t3.z⟩,fun l hl=>?_⟩
   refine comp_listR (K:=K) (a:=Z) (xs:=zs) (fun a acc H4=>Same H3 H4∧H4 l=some (.lst acc)∧RowU UM 115 H4 acc ((rss.take a).map fun r=>r.getD j (0,1))) ⟨Same.new hl,upd_same,RowU.nil⟩ (fun a acc H4 _ ⟨s4,_,_⟩=>SqL.of (s4 _ _ t3.z)) ?_ ?_
   ·rintro a y acc H4 hy ⟨s4,hl4,hR4⟩
    have ha:a < rss.length:=by rw[← t3.hZ.1];exact (List.getElem?_eq_some_iff.mp hy).1
    obtain⟨r,ys,er,h1,h2,_⟩:=t3.hZ.2.2 a rss[a] (List.getElem?_eq_getElem ha)
    rw[er] at hy
    cases hy
    have hrl:=(hr rss[a] (List.getElem_mem ha)).1
    have jr:j < (rss[a]).length:=by omega
    obtain⟨e,ee,he,po⟩:=h2.2 j (rss[a])[j] (List.getElem?_eq_getElem jr)
    have eg:(rss[a]).getD j (0,1)=(rss[a])[j]:=by simp[List.getD_eq_getElem?_getD,jr]
    rw[take_map_succ _ ha,eg]
    have len:=hR4.1
    rw[List.length_map,List.length_take] at len
    have g1:=s4 _ _ h1
    have g2:=s4 _ _ he
    have ne:e≠l:=fun z=>by rw[z,hl4] at g2;cases g2
    simp only[gName_ap,tYes,if_true]
    refine⟨_,rfl,_,rfl,r,ys,_,_,rfl,rfl,seqAt_lst g1,by rw[Int.zero_add];exact atI_nat ee,hl4,small1000 (by omega),?_,upd_same,(hR4.ts (TS.lst hl4)).snoc (by rw[upd_ne ne];exact g2) po⟩
    intro b o hb
    rw[upd_ne (fun z=>by rw[z,hl] at hb;cases hb)]
    exact s4 _ _ hb
   ·rintro acc H4 ⟨s4,hl4,hR4⟩
    have ez:rss.take zs.length=rss:=by rw[t3.hZ.1,List.take_length]
    rw[ez] at hR4
    have cl:(rss.map fun r=>r.getD j (0,1)).length≤16:=by rw[List.length_map];omega
    have cn:∀ p∈rss.map fun r=>r.getD j (0,1),0≤p.1:=fun p hp=>by
     obtain⟨r,hr',rfl⟩:=List.mem_map.mp hp
     obtain⟨r1,r2⟩:=hr r hr'
     have jr:j < r.length:=by omega
     have eg:r.getD j (0,1)=r[j]:=by simp[List.getD_eq_getElem?_getD,jr]
     rw[eg]
     exact r2 _ (List.getElem_mem jr)
    refine⟨l,acc,_,UM,115,rfl,hl4,um_ok,hR4,by decide,cl,fun s H5 s5 hs=>?_⟩
    have sp:=sum_pt um_ok.pos hR4.mem
    have spn:=sumP_nn um_ok.pos (fun p hp=>(hR4.mem p hp).toOk) cn
    have sp':PtOk UM 131 (sumP (rss.map fun r=>r.getD j (0,1))):=sp.mono (by omega)
    have su:=sp.toOk.usz um_ok
    have sn:=sp'.nsz um_ok.pos
    have s0:=sp.pos
    have en:num UM (sumP (rss.map fun r=>r.getD j (0,1)))=colN rss j:=by rw[(sum_ok um_ok.pos fun p hp=>(hR4.mem p hp).toOk).2,List.map_map];rfl
    generalize sumP (rss.map fun r=>r.getD j (0,1))=S at hs sp' spn su sn s0 en
    have ce:=ceil_le sp'.toOk
    rw[en] at ce
    have t5:=t3.same (s4.trans s5)
    have hw5:=(s4.trans s5) _ _ hw3
    clear sp hR4 s4 s5 hl4 t3 hw3 cn cl ez hl
    have z9:Sz 9000 S.2:=su.mono (by decide)
    have hc:0≤-(-S.1 / S.2)∧Sz 131 (-(-S.1 / S.2)):=by
     constructor
     ·have h1:=Int.ediv_mul_le (-S.1) (by omega:S.2≠0)
      by_cases h:-S.1 / S.2≤0
      ·omega
      ·exfalso
       have:1*S.2≤-S.1 / S.2*S.2:=Int.mul_le_mul_of_nonneg_right (by omega) (by omega)
       omega
     ·exact Sz.neg (Sz.le sn (Nat.le_trans (natAbs_div_le _ _) (by rw[Int.natAbs_neg];exact Nat.le_refl _)))
    refine⟨s,_,_,rfl,hs,s0,z9,?_⟩
    generalize -(-S.1 / S.2)=cc at hc ce
    clear en hs sp' spn su sn s0 z9
    k_extra "rd"
    refine⟨B,3,L,rfl,t5.b,by decide,by decide,fun d H6 d0 d1 b6 f6=>?_⟩
    have t6:=t5.pull tn f6 b6
    have hw6:=f6 _ _ wB hw5
    clear t5 f6 b6 hw5
    k_extra "rd"
    refine⟨B,2,L,rfl,t6.b,by decide,by decide,fun d2 H7 c0 c1 b7 f7=>?_⟩
    have t7:=t6.pull tn f7 b7
    have hw7:=f7 _ _ wB hw6
    clear t6 f7 b7 hw6
    have om:IntMulOk d d2:=(Sz.of (k:=2) (by omega):Sz 2 d).ok (Sz.of (k:=2) (by omega)) (by decide)
    have dd:0≤d*d2∧d*d2≤2:=by
     have:d2=0∨d2=1:=by omega
     rcases this with rfl | rfl<;>omega
    k_extra "rd"
    refine⟨small1000 (by omega),kN _ _ ⟨ws++[cc+d*d2],_,_,_,_,rfl,t7.row hw7 wB wL wF wC wZ wz w0,by rw[upd_same,List.map_append];rfl,by rw[List.length_append,hwl];rfl,(fun x hx=>?_),hco.snoc hwl (Int.le_trans ce (Int.mul_le_mul_of_nonneg_right (by omega) (by decide)))⟩⟩
    rcases List.mem_append.mp hx with hx | hx
    ·exact hwz x hx
    ·rw[List.mem_singleton.mp hx]
     exact⟨by omega,Sz.mono (Sz.add (k:=131) hc.2 (Sz.mono (Sz.of (k:=3) (by omega)) (by decide))) (by decide)⟩
  ·rintro σ H3 ⟨ws,v6,v7,v8,v9,rfl,t3,hw3,hwl,hwz,hco⟩
   rw[Int.toNat_natCast] at hwl
   refine⟨_,rfl,_,rfl,_,rfl,Z,rfl,⟨_,SqL.of t3.z⟩,fun P hP=>?_⟩
   refine comp_listR (K:=K) (a:=Z) (xs:=zs) (fun a acc H4=>Same H3 H4∧H4 P=some (.lst acc)∧RowU UM 121 H4 acc ((rss.take a).map sumP)) ⟨Same.new hP,upd_same,RowU.nil⟩ (fun a acc H4 _ ⟨s4,_,_⟩=>SqL.of (s4 _ _ t3.z)) ?_ ?_
   ·rintro a y acc H4 hy ⟨s4,hl4,hR4⟩
    have ha:a < rss.length:=by rw[← t3.hZ.1];exact (List.getElem?_eq_some_iff.mp hy).1
    obtain⟨r,ys,er,h1,h2,_⟩:=t3.hZ.2.2 a rss[a] (List.getElem?_eq_getElem ha)
    rw[er] at hy
    cases hy
    have hrl:=(hr rss[a] (List.getElem_mem ha)).1
    have len:=hR4.1
    rw[List.length_map,List.length_take] at len
    rw[take_map_succ _ ha]
    have sp:PtOk UM 121 (sumP rss[a]):=(sum_pt um_ok.pos h2.mem).mono (by omega)
    simp only[gName_ap,tYes,if_true]
    refine⟨_,rfl,r,ys,rss[a],UM,115,rfl,s4 _ _ h1,um_ok,h2.ts (TS.of s4),by decide,by omega,fun s H5 s5 hs=>?_⟩
    have l5:=s5 _ _ hl4
    have ne:s≠P:=fun z=>by rw[z,l5] at hs;cases hs
    refine⟨l5,small1000 (by omega),?_,upd_same,((hR4.ts (TS.of s5)).ts (TS.lst l5)).snoc (by rw[upd_ne ne];exact hs) sp⟩
    intro b o hb
    rw[upd_ne (fun z=>by rw[z,hP] at hb;cases hb)]
    exact s5 _ _ (s4 _ _ hb)
   ·rintro acc H4 ⟨s4,hl4,hR4⟩
    have ez:rss.take zs.length=rss:=by rw[t3.hZ.1,List.take_length]
    rw[ez] at hR4
    refine⟨_,rfl,by show 4≤sizeLine;decide,fun T hT=>?_⟩
    have s5:=s4.trans (Same.new (o:=.tup [.ref W,.ref C,.ref P,.ref Z]) hT)
    have t5:=t3.same s5
    have pB:=t3.b.ne hP
    have pW:P≠W:=fun z=>by rw[z,hw3] at hP;cases hP
    have pC:P≠C:=fun z=>by rw[z,t3.c] at hP;cases hP
    have pZ:P≠Z:=fun z=>by rw[z,t3.z] at hP;cases hP
    have pz:=t3.hZ.fresh hP
    have p0:H P=none:=by
     cases e:H P with
     | none=>rfl
     | some o=>rw[t3.fr P o pB e] at hP;cases hP
    have hZ5:RowsAt [B,L,W,C,P,Z] UM 115 (upd H4 T (.tup [.ref W,.ref C,.ref P,.ref Z])) zs rss:=⟨t5.hZ.1,t5.hZ.2.1,fun i r hr=>by
     obtain⟨l,xs,e,h1,h2,h3⟩:=t5.hZ.2.2 i r hr
     have hm:=List.mem_of_getElem? e
     simp only[List.mem_cons,List.not_mem_nil,or_false,not_or] at h3
     refine⟨l,xs,e,h1,h2,?_⟩
     simp only[List.mem_cons,List.not_mem_nil,or_false,not_or]
     exact⟨h3.1,h3.2.1,(fun z=>wz (by rw[← z];exact hm)),h3.2.2.2.1,(fun z=>pz (by rw[← z];exact hm)),h3.2.2.2.2⟩⟩
    refine hQ T W C P Z ws xs cs acc (rss.map sumP) zs rss _ ⟨t5.b,t5.fr,s5 _ _ hw3,t5.c,t5.hC,(Same.new hT) _ _ hl4,hR4.ts (TS.of (Same.new hT)),t5.z,hZ5,w0,tn.c0,p0,tn.z0,wC,pW.symm,wZ,pC.symm,tn.cZ,pZ,by omega,hwz,c16,by rw[List.length_map];exact rl,rl,by rw[hwl];exact hG,by rw[hwl];exact hr,rfl,hn,hco⟩ upd_same
 k_extra "rd"
 refine⟨B,L,rfl,hB,fun m0 H1 h0 h6 b1 f1=>?_⟩
 obtain⟨m,rfl⟩:∃ m:Nat,m0=(m:Int):=⟨m0.toNat,by omega⟩
 have m6:m≤6:=by omega
 k_extra "rd"
 intro p hp
 have npB:p≠B:=b1.ne hp
 refine⟨B,4,L,rfl,b1.new hp,by decide,by decide,fun d H2 d0 d1 b2 f2=>?_⟩
 have hp2:=f2 p _ npB upd_same
 obtain⟨sc,ex,hs1,hs2⟩:=pick (P:=fun x=>0≤x∧x≤1000000000) [6,2,40,10 ^ 9] d0 d1 (by decide)
 have ex':atI [V.int 6,V.int 2,V.int 40,V.int 1000000000] d=some (.int sc):=ex
 have f12:Fr1 B H H2:=(f1.trans (Fr1.new hp)).trans f2
 clear ex
 k_extra "rd"
 clear ex' hp2 f2 npB hp f1
 intro p hp
 have npB:p≠B:=b2.ne hp
 refine⟨B,4,L,rfl,b2.new hp,by decide,by decide,fun e H3 e0 e1 b3 f3=>?_⟩
 have hp3:=f3 p _ npB upd_same
 obtain⟨un,ex,hu1,hu2⟩:=pick (P:=fun x=>0 < x∧x≤60) [1,1,3,60] e0 e1 (by decide)
 have ex':atI [V.int 1,V.int 1,V.int 3,V.int 60] e=some (.int un):=ex
 have f13:Fr1 B H H3:=(f12.trans (Fr1.new hp)).trans f3
 clear ex
 k_extra "rd"
 clear ex' hp3 f3 npB hp f12 b2 b1
 intro C hC Z hZ
 have nCB:=b3.ne hC
 have nCL:=b3.neL hC
 have b4:=b3.new (o:=.lst []) hC
 have nZB:=b4.ne hZ
 have nZL:=b4.neL hZ
 have nCZ:C≠Z:=fun z=>by rw[← z,upd_same] at hZ;cases hZ
 have f14:=f13.trans (Fr1.new (B:=B) (o:=.lst []) hC)
 have f15:=f14.trans (Fr1.new (B:=B) (o:=.lst []) hZ)
 have free:∀(H':Hp)(a:Addr),Fr1 B H H'→a≠B→H' a=none→H a=none:=fun H' a f n h=>by
  cases e:H a with
  | none=>rfl
  | some o=>rw[f a o n e] at h;cases h
 have c0:=free _ _ f13 nCB hC
 have z0:=free _ _ f14 nZB hZ
 have b5:=b4.new (o:=.lst []) hZ
 have c5:=(Same.new (o:=.lst []) hZ) C _ upd_same
 have z5:upd (upd H3 C (.lst [])) Z (.lst []) Z=_:=upd_same
 generalize upd (upd H3 C (.lst [])) Z (.lst [])=H5 at b5 c5 z5 f15 ⊢
 clear hC hZ b4 f13 f14 b3
 refine⟨_,rfl,_,rfl,B,(m:Int),L,rfl,b5,h0,h6,fun F xs0 cs0 H6 nF b6 f6 hF6 hCl6 l16 hG6=>?_⟩
 have nFB:=b5.ne nF
 have nFL:=b5.neL nF
 have c6:=f6 _ _ nCB c5
 have z6:=f6 _ _ nZB z5
 have f16:=f15.trans f6
 have tn:Tn H B L F C Z:=⟨nFB,nFL,nCB,nCL,nZB,nZL,(fun z=>by rw[z,c5] at nF;cases nF),(fun z=>by rw[z,z5] at nF;cases nF),nCZ,free _ _ f15 nFB nF,c0,z0⟩
 have t6:Tb H B L F C Z xs0 cs0 [] [] [] [] H6:=⟨b6,f16,hF6,hCl6,c6,ClsAt.nil,z6,RowsAt.nil,fun l h=>by cases h⟩
 clear b5 c5 z5 f15 f6 c6 z6 f16 nF b6 hF6 hCl6 nFB nFL nCB nCL nZB nZL nCZ c0 z0 hB
 refine⟨F,rfl,⟨_,SqL.of t6.f⟩,for_listN (K:=K) (a:=F) (xs:=xs0) (fun i σ H'=>∃ xs cs zs rss v6 v7 v8 v9,σ=[some (.ref B),some (.int (m:Int)),some (.int sc),some (.int un),some (.ref C),some (.ref Z),v6,v7,v8,v9,none]∧Tb H B L F C Z xs0 cs0 xs cs zs rss H'∧cs.length=i∧rss.length=i∧(∀ c∈cs,GoodU2 UM 122 m c)∧(∀ r∈rss,RwOk m r)∧NtOk cs rss) ⟨[],[],[],[],_,_,_,_,rfl,t6,rfl,rfl,(fun c h=>by cases h),(fun c h=>by cases h),NtOk.nil⟩ (fun i σ H' _ ⟨_,_,_,_,_,_,_,_,_,z,_⟩=>SqL.of z.f) ?_ ?_⟩
 ·clear t6
  rintro i y σ H7 NN BB hy ⟨xs,cs,zs,rss,v6,v7,v8,v9,rfl,t7,cl,rl,hG,hr,hn⟩ kN kB
  clear kB
  have hi:i < cs0.length:=by rw[← t7.hF.1];exact (List.getElem?_eq_some_iff.mp hy).1
  obtain⟨v,ev,hv⟩:=t7.hF.2 i cs0[i] (List.getElem?_eq_getElem hi)
  rw[ev] at hy
  cases hy
  obtain⟨g1,g2,g3⟩:=hG6 cs0[i] (List.getElem_mem hi)
  obtain⟨rc,pc,kc,rfl,e1,e2,e3⟩:=hv
  generalize cs0[i]=C0 at g1 g2 g3 e1 e2 e3
  simp only[gName_ap]
  refine seq_cut2 (fun σ' H'=>∃ r ys row v8,σ'=[some (.ref B),some (.int (m:Int)),some (.int sc),some (.int un),some (.ref C),some (.ref Z),some (.ref rc),some (.ref r),v8,v9,none]∧Tb H B L F C Z xs0 cs0 xs cs zs rss H'∧H' rc=some (.tup [.ref pc,.ref kc,.int C0.rk])∧H' pc=some (.tup [.int C0.n,.int C0.u])∧H' kc=some (.tup (C0.hp.map V.int))∧H' r=some (.lst ys)∧RowU UM 115 H' ys row∧(RwOk m row∧Nt1 C0.hp row)∧r≠B∧r≠L∧r≠F∧r≠C∧r≠Z∧V.ref r∉zs∧H r=none) ?_ fun tb'' key'=>?_
  ·rintro σ H8 ⟨r,ys,row,v8,rfl,t8,e1,e2,e3,hr8,hR8,⟨hw,hn1⟩,rB,rL,rF,rC,rZ,rz,r0⟩
   have zl:=t8.hZ.1
   have xl:=t8.hC.1
   refine⟨_,rfl,.inl ⟨rfl,_,SqL.of t8.z⟩,_,rfl,Z,zs,_,rfl,rfl,t8.z,small1000 (by omega),?_⟩
   have ts:TS H8 (upd H8 Z (.lst (zs++[.ref r]))):=TS.lst t8.z
   have t9:=t8.addRow tn hr8 hR8 rB rL rF rC rZ rz r0
   have k1:=ts _ _ e1
   have k2:=ts _ _ e2
   have k3:=ts _ _ e3
   have hr9:upd H8 Z (.lst (zs++[.ref r])) r=some (.lst ys):=by rw[upd_ne rZ];exact hr8
   have hR9:=hR8.ts ts
   generalize upd H8 Z (.lst (zs++[.ref r]))=H9 at t9 k1 k2 k3 hr9 hR9 ⊢
   clear ts e1 e2 e3 hr8 hR8 t8 key t7
   k_extra "rd"
   intro q1 hq1 q2 hq2
   have s1:=Same.new (o:=.tup [.int 0,.int 1]) hq1
   have s2:=Same.new (o:=.tup [.int 0,.int 1]) hq2
   refine⟨_,seqAt_tup ((s1.trans s2) _ _ k1),_,rfl,fun q3 hq3=>?_⟩
   have s3:=Same.new (o:=.lst [.ref q1,.ref q2,.ref pc]) hq3
   have s:=(s1.trans s2).trans s3
   have t10:=t9.same s
   have k1:=s _ _ k1
   have k2:=s _ _ k2
   have k3:=s _ _ k3
   have hr10:=s _ _ hr9
   have hR10:=hR9.ts (TS.of s)
   have m1:=s3 _ _ (s2 q1 _ upd_same)
   have m2:=s3 q2 _ upd_same
   have m3:upd (upd (upd H9 q1 (.tup [.int 0,.int 1])) q2 (.tup [.int 0,.int 1])) q3 (.lst [.ref q1,.ref q2,.ref pc]) q3=_:=upd_same
   have nq3:=(t9.same (s1.trans s2)).b.ne hq3
   generalize upd (upd (upd H9 q1 (.tup [.int 0,.int 1])) q2 (.tup [.int 0,.int 1])) q3 (.lst [.ref q1,.ref q2,.ref pc])=H10 at t10 k1 k2 k3 hr10 hR10 m1 m2 m3 ⊢
   clear s s1 s2 s3 hq1 hq2 hq3 hr9 hR9 t9
   refine⟨B,3,L,rfl,t10.b,by decide,by decide,fun d H11 d0 d1 b11 f11=>?_⟩
   have s11:=TS.fr t10.b f11
   have t11:=t10.pull tn f11 b11
   have k1:=s11 _ _ k1
   have k2:=s11 _ _ k2
   have k3:=s11 _ _ k3
   have hr11:=f11 _ _ rB hr10
   have hR11:=hR10.ts s11
   have m1:=s11 _ _ m1
   have m2:=s11 _ _ m2
   have m3:=f11 _ _ nq3 m3
   clear s11 t10 f11 b11 hr10 hR10
   obtain⟨mo,n,u,em,hmo,dmo⟩:∃ mo n u,atI [V.ref q1,V.ref q2,V.ref pc] d=some (.ref mo)∧H11 mo=some (.tup [.int n,.int u])∧Du UM 115 n u:=by
    have:d=0∨d=1∨d=2:=by omega
    have z0:Du UM 115 0 1:=⟨zero_pt,by decide⟩
    rcases this with rfl | rfl | rfl
    ·exact⟨q1,0,1,rfl,m1,z0⟩
    ·exact⟨q2,0,1,rfl,m2,z0⟩
    ·exact⟨pc,_,_,rfl,k2,g1⟩
   have t11c:=t11.c
   k_extra "rd"
   refine⟨.inl ⟨rfl,_,SqL.of t11c⟩,r,ys,row,UM,115,rfl,hr11,um_ok,hR11,by decide,by rw[hw.1];omega,fun s1 H12 s12 hs1=>?_⟩
   have sp:=sum_pt um_ok.pos hR11.mem
   have spn:=sumP_nn um_ok.pos (fun p hp=>(hR11.mem p hp).toOk) hw.2
   have sp':PtOk UM 121 (sumP row):=sp.mono (by rw[hw.1];omega)
   have da:=add_du um_ok.pos (j:=122) sp' (dmo.pt.mono (by decide:115≤121)) spn dmo.nn (by decide)
   refine⟨s1,mo,_,_,_,_,rfl,hs1,s12 _ _ hmo,sp.pos,dmo.pt.pos,(sp'.nsz um_ok.pos).mono (by decide),(sp.toOk.usz um_ok).mono (by decide),(dmo.pt.nsz um_ok.pos).mono (by decide),(dmo.pt.toOk.usz um_ok).mono (by decide),fun q4 hq4=>?_⟩
   have s13:=s12.trans (Same.new (o:=.tup [.int (addP (sumP row) (n,u)).1,.int (addP (sumP row) (n,u)).2]) hq4)
   have t13:=t11.same s13
   have k1:=s13 _ _ k1
   have k3:=s13 _ _ k3
   have q13:upd H12 q4 (.tup [.int (addP (sumP row) (n,u)).1,.int (addP (sumP row) (n,u)).2]) q4=_:=upd_same
   have eq4:upd H12 q4 (.tup [.int (lowN ((sumP row).1*u+n*(sumP row).2) ((sumP row).2*u)),.int (lowU ((sumP row).1*u+n*(sumP row).2) ((sumP row).2*u))])=upd H12 q4 (.tup [.int (addP (sumP row) (n,u)).1,.int (addP (sumP row) (n,u)).2]):=rfl
   rw[eq4]
   generalize upd H12 q4 (.tup [.int (addP (sumP row) (n,u)).1,.int (addP (sumP row) (n,u)).2])=H13 at t13 k1 k3 q13 ⊢
   clear s12 s13 hq4 hs1 t11 hr11 hR11 m1 m2 m3 hmo t11c sp sp' spn eq4 k2 em
   generalize addP (sumP row) (n,u)=dd at da q13
   k_extra "rd"
   intro q5 hq5
   have s14:=Same.new (o:=.tup [.ref q4,.ref kc,.int C0.rk]) hq5
   have t14:=t13.same s14
   have k3:=s14 _ _ k3
   have q14:=s14 _ _ q13
   have q15:upd H13 q5 (.tup [.ref q4,.ref kc,.int C0.rk]) q5=_:=upd_same
   generalize upd H13 q5 (.tup [.ref q4,.ref kc,.int C0.rk])=H14 at t14 k3 q14 q15 ⊢
   have tt:=t14.addClaim tn (v:=.ref q5) (c:=⟨dd.1,dd.2,C0.hp,C0.rk⟩) ⟨q5,q4,kc,rfl,q15,q14,k3⟩
   refine⟨xs,t14.c,small1000 (by omega),kN _ _ ⟨_,_,_,_,_,_,_,_,rfl,tt,?_,?_,?_,?_,hn.snoc (by omega) hn1⟩⟩
   ·rw[List.length_append,cl];rfl
   ·rw[List.length_append,rl];rfl
   ·intro c hc
    rcases List.mem_append.mp hc with hc | hc
    ·exact hG c hc
    ·rw[List.mem_singleton.mp hc]
     exact⟨da,g2,g3⟩
   ·intro q hq
    rcases List.mem_append.mp hq with hq | hq
    ·exact hr q hq
    ·rw[List.mem_singleton.mp hq]
     exact hw
  ·refine⟨_,rfl,(m:Int),rfl,by omega,by omega,fun l hl=>?_⟩
   refine comp_rangeR (k:=((m:Nat):Int).toNat) (fun a acc H8=>Same H7 H8∧H8 l=some (.lst acc)∧RowU UM 115 H8 acc (List.replicate a (0,1))) ⟨Same.new hl,upd_same,RowU.nil⟩ ?_ ?_
   ·rintro a acc H8 ha ⟨s8,hl8,hR8⟩
    simp only[gName_ap,tYes,if_true]
    refine⟨by decide,fun q hq=>?_⟩
    have s9:=Same.new (o:=.tup [.int 0,.int 1]) hq
    have nq:q≠l:=fun z=>by rw[z,hl8] at hq;cases hq
    have l9:=s9 _ _ hl8
    have len:=hR8.1
    rw[List.length_replicate] at len
    refine⟨l9,small1000 (by omega),?_,upd_same,?_⟩
    ·intro b o hb
     rw[upd_ne (fun z=>by rw[z,hl] at hb;cases hb)]
     exact s9 _ _ (s8 _ _ hb)
    ·rw[List.replicate_succ']
     exact ((hR8.ts (TS.of s9)).ts (TS.lst l9)).snoc (by rw[upd_ne nq,upd_same]) zero_pt
   ·rintro acc H8 ⟨s8,hl8,hR8⟩
    have t8:=t7.same s8
    have em:((m:Nat):Int).toNat=m:=Int.toNat_natCast m
    rw[em] at hR8
    have f1:=s8 _ _ e1
    have f2:=s8 _ _ e2
    have f3:=s8 _ _ e3
    have lB:=t7.b.ne hl
    have lL:=t7.b.neL hl
    have lF:l≠F:=fun z=>by rw[z,t7.f] at hl;cases hl
    have lC:l≠C:=fun z=>by rw[z,t7.c] at hl;cases hl
    have lZ:l≠Z:=fun z=>by rw[z,t7.z] at hl;cases hl
    have lz:=t7.hZ.fresh hl
    have l0:H l=none:=free _ _ t7.fr lB hl
    have hw:RwOk m (List.replicate m ((0,1):Int×Int)):=⟨List.length_replicate,fun p hp=>by rw[List.eq_of_mem_replicate hp];decide⟩
    have hn1:Nt1 C0.hp (List.replicate m ((0,1):Int×Int)):=Nt1.rep
    generalize List.replicate m ((0,1):Int×Int)=row0 at hR8 hw hn1
    simp only[gName_ap]
    clear s8 t7 hl em e1 e2 e3 cl rl hG hr hG6 free hn
    refine⟨_,rfl,rc,_,1,_,rfl,rfl,seqAt_tup f1,rfl,kc,rfl,⟨_,SqT.of f3⟩,for_tupN (K:=K) (a:=kc) (xs:=C0.hp.map V.int) (fun j σ H'=>∃ ys row v8,σ=[some (.ref B),some (.int (m:Int)),some (.int sc),some (.int un),some (.ref C),some (.ref Z),some (.ref rc),some (.ref l),v8,v9,none]∧Tb H B L F C Z xs0 cs0 xs cs zs rss H'∧H' rc=some (.tup [.ref pc,.ref kc,.int C0.rk])∧H' pc=some (.tup [.int C0.n,.int C0.u])∧H' kc=some (.tup (C0.hp.map V.int))∧H' l=some (.lst ys)∧RowU UM 115 H' ys row∧RwOk m row∧Nt1 C0.hp row) ⟨acc,row0,_,rfl,t8,f1,f2,f3,hl8,hR8,hw,hn1⟩ (fun j σ H' _ ⟨_,_,_,_,_,_,_,z,_⟩=>SqT.of z) ?_ ?_⟩
    ·clear t8 f1 f2 f3 hl8 hR8 hw hn1
     rintro j y σ H9 NN BB hy ⟨ys,row,v8,rfl,t9,k1,k2,k3,hl9,hR9,hw,hn1⟩ kN kB
     clear kB
     obtain⟨hj,rfl⟩:=int_at hy
     obtain⟨x0,x1⟩:=g3.1 C0.hp[j] (List.getElem_mem hj)
     have xm:=List.getElem_mem hj
     generalize C0.hp[j]=X at x0 x1 xm ⊢
     clear hy key key'
     simp only[gName_ap]
     k_extra "rd"
     refine⟨B,sc+1,L,rfl,t9.b,by omega,Sz.mono (j:=31) (Sz.of (by omega)) (by decide),fun d H10 d0 d1 b10 f10=>?_⟩
     have s10:=TS.fr t9.b f10
     have t10:=t9.pull tn f10 b10
     have k1:=s10 _ _ k1
     have k2:=s10 _ _ k2
     have k3:=s10 _ _ k3
     have hl10:=f10 _ _ lB hl9
     have hR10:=hR9.ts s10
     clear s10 t9 f10 b10 hl9 hR9
     k_extra "rd"
     refine⟨B,2,L,rfl,t10.b,by decide,by decide,fun d2 H11 c0 c1 b11 f11=>?_⟩
     have s11:=TS.fr t10.b f11
     have t11:=t10.pull tn f11 b11
     have k1:=s11 _ _ k1
     have k2:=s11 _ _ k2
     have k3:=s11 _ _ k3
     have hl11:=f11 _ _ lB hl10
     have hR11:=hR10.ts s11
     have om:IntMulOk d d2:=(Sz.of (k:=31) (by omega):Sz 31 d).ok (Sz.of (k:=2) (by omega)) (by decide)
     have dd:0≤d*d2∧d*d2≤1000000000:=by
      have:d2=0∨d2=1:=by omega
      rcases this with rfl | rfl<;>omega
     clear s11 t10 f11 b11 hl10 hR10
     k_extra "rd"
     refine⟨B,un,L,rfl,t11.b,hu1,Sz.mono (j:=6) (Sz.of (by omega)) (by decide),fun d3 H12 e0 e1 b12 f12=>?_⟩
     have s12:=TS.fr t11.b f12
     have t12:=t11.pull tn f12 b12
     have k1:=s12 _ _ k1
     have k2:=s12 _ _ k2
     have k3:=s12 _ _ k3
     have hl12:=f12 _ _ lB hl11
     have hR12:=hR11.ts s12
     clear s12 t11 f12 b12 hl11 hR11
     k_extra "rd"
     refine⟨_,_,rfl,by omega,Sz.mono (j:=7) (Sz.of (by omega)) (by decide),fun q hq=>?_⟩
     have du:=du_of dd.1 dd.2 (by omega:0 < 1+d3) (by omega)
     have s13:=Same.new (o:=.tup [.int (lowN (d*d2) (1+d3)),.int (lowU (d*d2) (1+d3))]) hq
     have t13:=t12.same s13
     have k1:=s13 _ _ k1
     have k2:=s13 _ _ k2
     have k3:=s13 _ _ k3
     have hl13:=s13 _ _ hl12
     have hR13:=hR12.ts (TS.of s13)
     have q13:upd H12 q (.tup [.int (lowN (d*d2) (1+d3)),.int (lowU (d*d2) (1+d3))]) q=_:=upd_same
     generalize upd H12 q (.tup [.int (lowN (d*d2) (1+d3)),.int (lowU (d*d2) (1+d3))])=H13 at t13 k1 k2 k3 hl13 hR13 q13 ⊢
     clear s13 t12 hl12 hR12 hq
     have hyl:ys.length=m:=by rw[hR13.1,hw.1]
     have hx:ixN ys.length X=some X.toNat:=by
      unfold ixN
      rw[if_pos (by omega),if_pos (by omega)]
     have nt:∀ a xs,H13 a=some (.tup xs)→a≠l:=fun a xs ha z=>by rw[z,hl13] at ha;cases ha
     refine⟨ys,hl13,X.toNat,hx,kN _ _ ⟨ys.set X.toNat (.ref q),row.set X.toNat (lowN (d*d2) (1+d3),lowU (d*d2) (1+d3)),_,rfl,t13.row hl13 lB lL lF lC lZ lz l0,by rw[upd_ne (nt _ _ k1)];exact k1,by rw[upd_ne (nt _ _ k2)];exact k2,by rw[upd_ne (nt _ _ k3)];exact k3,upd_same,?_,?_,hn1.put xm x0⟩⟩
     ·exact (hR13.ts (TS.lst hl13)).set (by rw[upd_ne (nt _ _ q13)];exact q13) du.pt
     ·refine⟨by rw[List.length_set];exact hw.1,fun p hp=>?_⟩
      rcases List.mem_or_eq_of_mem_set hp with hp | hp
      ·exact hw.2 p hp
      ·rw[hp];exact du.nn
    ·rintro σ H9 ⟨ys,row,v8,rfl,t9,k1,k2,k3,hl9,hR9,hw,hn1⟩
     exact key' _ _ ⟨l,ys,row,_,rfl,t9,k1,k2,k3,hl9,hR9,⟨hw,hn1⟩,lB,lL,lF,lC,lZ,lz,l0⟩
 ·rintro σ H7 ⟨xs,cs,zs,rss,v6,v7,v8,v9,rfl,t7,cl,rl,hG,hr,hn⟩
  have hl0:=t7.hF.1
  exact key _ _ ⟨m,sc,un,F,C,Z,xs0,cs0,xs,cs,zs,rss,_,_,_,_,rfl,t7,tn,m6,by omega,by omega,hG,hr,hn⟩
theorem ok__law_claims(D:DefAt K mg "_law_claims" s__law_claims f fd)(T:Txt K mg cx)(d__law_pull:DefOk P w K mg base CX0 1 "_law_pull" ["_law_bag_here","_law_many_here"] sp__law_pull)(d__law_due:DefOk P w K mg base CX0 3 "_law_due" ["_law_bag_here","_law_scale"] sp__law_due)(d__law_heap:DefOk P w K mg base CX0 2 "_law_heap" ["_law_bag_here","_law_many_here"] sp__law_heap):DefOk P w K mg base CX0 4 "_law_claims" ["_law_bag_here","_law_many_here"] sp__law_claims:=by
 refine D.ok (D.q sc__law_claims (fun vs H Q E h=>?_) (fun cdv A outer s H vs Q E hr h=>?_)) (D.fn.binds fun _ _ _ _ _ _ us hl=>match us,hl with | [_,_],_=>rfl)
 ·obtain⟨_,_,_,rfl,_⟩:=h
  rfl
 obtain⟨B,m,L,rfl,hB,m0,m6,hQ⟩:=h
 refine⟨_,(qss_cons (qs_set (i:=2) sc__law_claims.nd rfl (Or.inl rfl) (qe_ix ix_seqA (qe_lst (qa_cons qe_int (qa_cons qe_int (qa_cons qe_int (qa_cons (qe_op op_pow qe_int qe_int) qa_nil))))) (qe_d d__law_pull hr.le pass0 (by rfl) (qa_cons (qv 0) (qa_cons qe_int qa_nil))) (fun _ _=>rfl)))
   (qss_cons (qs_setC (k:=3) ["_law_k"] [("_law_bag_here", 0)] sc__law_claims.nd rfl rfl rfl (qi_range1 (by rfl) T.n_range (qa_cons (qe_ix ix_seqA (qe_lst (qa_cons qe_int (qa_cons qe_int (qa_cons qe_int (qa_cons qe_int qa_nil))))) (qe_d d__law_pull hr.le pass0 (by rfl) (qa_cons (qv 0) (qa_cons qe_int qa_nil))) (fun _ _=>rfl)) qa_nil)) (gext_name (by decide)) (fun cl C fp s2 H2=>⟨(qg_name (i:=0) (show (["_law_k","_law_bag_here"]:List Str).Nodup by decide +kernel) rfl (Or.inl rfl)),qf_nil,(qe_op op_sub (qe_d d__law_pull hr.le pass0 (by rfl) (qa_cons (qv 1) (qa_cons qe_int qa_nil))) qe_int)⟩) rfl (by decide +kernel) (by decide +kernel) (free_of (by rfl)) (fr_of (by rfl)))
   (qss_cons (qs_set (i:=4) sc__law_claims.nd rfl (Or.inl rfl) (qe_lst qa_nil))
   (qss_cons (qs_for PassesOwn.never rfl (qi_range1 (by rfl) T.n_range (qa_cons (qe_ix ix_seqA (qe_lst (qa_cons qe_int (qa_cons qe_int (qa_cons qe_int (qa_cons qe_int (qa_cons qe_int (qa_cons qe_int (qa_cons qe_int (qa_cons qe_int (qa_cons qe_int (qa_cons qe_int qa_nil))))))))))) (qe_d d__law_pull hr.le pass0 (by rfl) (qa_cons (qv 0) (qa_cons qe_int qa_nil))) (fun _ _=>rfl)) qa_nil)) (qg_name (i:=5) sc__law_claims.nd rfl (Or.inl rfl)) (qss_one (qs_if (qw_and (qt_cmpR (op_neD hr.units) (qv 4) (qe_lst qa_nil) (nomark _)) (qw_and1 (qt_cmpR op_eq (qe_d d__law_pull hr.le pass0 (by rfl) (qa_cons (qv 0) (qa_cons qe_int qa_nil))) qe_int (nomark _)))).pt (qss_one (qs_expr (qe_bmK (K:=K) rfl PySem.F.plainAttrs_list PySem.F.slot_list_append PySem.F.type_list_append mt_append (qv 4) (qa_cons (qe_ix ix_seqA (qv 4) (qe_d d__law_pull hr.le pass0 (by rfl) (qa_cons (qv 0) (qa_cons (qe_callB call_lenF (by rfl) T.n_len bt_len (qa_cons (qv 4) qa_nil)) qa_nil))) (fun _ _=>rfl)) qa_nil)))) (qss_one (qs_expr (qe_bmK (K:=K) rfl PySem.F.plainAttrs_list PySem.F.slot_list_append PySem.F.type_list_append mt_append (qv 4) (qa_cons (qe_tup (qa_cons (qe_d d__law_due hr.le pass0 (by rfl) (qa_cons (qv 0) (qa_cons (qv 2) qa_nil))) (qa_cons (qe_d d__law_heap hr.le pass0 (by rfl) (qa_cons (qv 0) (qa_cons (qv 1) qa_nil))) (qa_cons (qe_ix ix_seqA (qv 3) (qe_d d__law_pull hr.le pass0 (by rfl) (qa_cons (qv 0) (qa_cons (qe_callB call_lenF (by rfl) T.n_len bt_len (qa_cons (qv 3) qa_nil)) qa_nil))) (fun _ _=>rfl)) qa_nil)))) qa_nil)))))))
   (qss_one (qs_ret (qv 4))))))),?_⟩
 k_extra "rx"
 refine i_NewO (by decide) fun p H1 hp s1 hp1=>?_
 k_extra "rx"
 refine⟨B,4,L,rfl,hB.keep s1,by decide,by decide,fun d H2 d0 d1 b2 f2=>?_⟩
 obtain⟨sc,ex,hx1,hx2⟩:=pick (P:=fun x=>0≤x∧x≤1000000000) [12,3,100,10 ^ 9] d0 d1 (by decide)
 refine i_ixL (f2 p _ (hB.ne hp) hp1) ex ?_
 have f12:Fr1 B H H2:=(Fr1.of s1).trans f2
 clear ex f2 hp1 s1 hp
 k_extra "rx"
 refine⟨by show 4≤sizeLine;decide,fun q hq=>⟨_,rfl,B,4,L,rfl,b2.new hq,by decide,by decide,fun d6 H3 g0 g1 b3 f3=>?_⟩⟩
 have hq3:=f3 q _ (b2.ne hq) upd_same
 have f13:Fr1 B H H3:=f12.trans ((Fr1.new hq).trans f3)
 obtain⟨nr,ex2,hr1,hr2⟩:=pick (P:=fun x=>0 < x∧x≤16) [1,2,3,16] g0 g1 (by decide)
 refine⟨q,_,d6,_,rfl,rfl,seqAt_lst hq3,ex2,nr,rfl,by omega,by omega,fun l hl=>?_⟩
 clear ex2 hq3 f3 hq f12 b2 d0 d1 g0 g1
 have nlB:=b3.ne hl
 have nlL:=b3.neL hl
 have nl0:H l=none:=fr_none f13 nlB hl
 refine comp_rangeR (k:=nr.toNat) (fun i acc H4=>∃ rs:List Int,acc=rs.map V.int∧rs.length=i∧(∀ r∈rs,Sz 10 r)∧BagAt H4 B L∧Fr1 B H H4∧H4 l=some (.lst acc)) ⟨[],rfl,rfl,(fun r h=>by cases h),b3.new hl,f13.trans (Fr1.new hl),upd_same⟩ ?_ ?_
 ·rintro i acc H4 hi ⟨rs,rfl,hlen,hrz,b4,f4,hl4⟩
  refine i_gName (i_yes ?_)
  rw[if_pos rfl]
  k_extra "rx"
  refine⟨B,30,L,rfl,b4,by decide,by decide,fun d5 H5 e0 e1 b5 f5=>?_⟩
  k_extra "rx"
  exact⟨f5 _ _ nlB hl4,small1000 (by rw[List.length_map];omega),rs++[d5 - 9],by rw[List.map_append];rfl,by rw[List.length_append,hlen];rfl,(fun r hr=>by rcases List.mem_append.mp hr with hr | hr;exact hrz r hr;rw[List.mem_singleton.mp hr];exact (Sz.of (k:=6) (by omega):Sz 6 (d5 - 9)).mono (by decide)),b5.put nlB nlL,fr_new (f4.trans f5) Fr1.upd nl0,upd_same⟩
 ·rintro acc H4 ⟨rs,rfl,hrs,hrz,b4,f4,hl4⟩
  clear b3 f13 hl
  k_extra "rx"
  refine i_NewO (by decide) fun F H5 hF s5 hF5=>?_
  have nFB:=b4.ne hF
  have nFL:=b4.neL hF
  have nFl:F≠l:=fun z=>by rw[z,hl4] at hF;cases hF
  have nF0:H F=none:=fr_none f4 nFB hF
  have b5:=b4.keep s5
  have f5:Fr1 B H H5:=f4.trans (Fr1.of s5)
  have hl5:=s5 _ _ hl4
  clear b4 f4 hl4 hF s5
  k_extra "rx"
  refine⟨by show 10≤sizeLine;decide,fun q hq=>⟨_,rfl,B,10,L,rfl,b5.new hq,by decide,by decide,fun d6 H6 g0 g1 b6 f6=>?_⟩⟩
  have hq6:=f6 q _ (b5.ne hq) upd_same
  have s5:=Same.new (o:=.lst [.int 4,.int 3,.int 5,.int 2,.int 1,.int 6,.int 8,.int 0,.int 11,.int 16]) hq
  have hl6:=f6 _ _ nlB (s5 _ _ hl5)
  have hF6:=f6 _ _ nFB (s5 _ _ hF5)
  have F6:Fr1 B H H6:=f5.trans ((Fr1.new hq).trans f6)
  obtain⟨nc,ex3,hc1,hc2⟩:=pick (P:=fun x=>0≤x∧x≤16) [4,3,5,2,1,6,8,0,11,16] g0 g1 (by decide)
  refine⟨q,_,d6,_,rfl,rfl,seqAt_lst hq6,ex3,nc,rfl,by omega,by omega,for_rangeN (lo:=0) (n:=nc.toNat) (fun i σ H7=>∃ xs cs v,σ=[some (.ref B),some (.int m),some (.int sc),some (.ref l),some (.ref F),v]∧Fr1 B H H7∧BagAt H7 B L∧H7 l=some (.lst (rs.map V.int))∧H7 F=some (.lst xs)∧ClsAt H7 xs cs∧cs.length=i∧∀ c∈cs,GoodU2 UM 115 m c)
   ⟨[],[],none,rfl,F6,b6,hl6,hF6,ClsAt.nil,rfl,fun c hc=>by cases hc⟩ ?_ ?_⟩
  ·clear ex3 hq6 s5 hl6 hF6 F6 b6 f6 hq hl5 hF5 f5 b5 g0 g1
   rintro i σ H7 NN BB hi ⟨xs,cs,v,rfl,F7,b7,hl7,hF7,hC7,hlen,hG⟩ kN kB
   clear kB
   have hxl:xs.length=i:=by rw[hC7.1];exact hlen
   have fin:∀(H8:Hp)(v':V)(c':Cl)(w5:Option V),Fr1 B H H8→BagAt H8 B L→H8 l=some (.lst (rs.map V.int))→H8 F=some (.lst xs)→ClsAt H8 xs cs→ClAt H8 v' c'→GoodU2 UM 115 m c' →
     rAppend (.ref F) [v'] H8 fun _ H9=>NN [some (.ref B),some (.int m),some (.int sc),some (.ref l),some (.ref F),w5] H9:=fun H8 v' c' w5 F8 b8 hl8 hF8 hC8 c8 g8=>by
    refine i_app hF8 (by omega) fun H9 hF9 f9=>kN _ _ ⟨_,cs++[c'],_,rfl,fr_new F8 f9 nF0,b8.frm f9 nFB nFL,f9 _ _ nFl.symm hl8,hF9,(hC8.ts (TS.frl hF8 f9)).snoc (c8.ts (TS.frl hF8 f9)),by rw[List.length_append,hlen];rfl,fun c hc=>?_⟩
    rcases List.mem_append.mp hc with hc | hc
    ·exact hG c hc
    ·rw[List.mem_singleton.mp hc];exact g8
   refine i_gName ?_
   refine if_cut (fun H8=>BagAt H8 B L∧H8 F=some (.lst xs)∧H8 l=some (.lst (rs.map V.int))∧ClsAt H8 xs cs∧Fr1 B H H8) ?_ fun u' ku=>?_
   ·rintro H8 ⟨b8,hF8,hl8,hC8,F8⟩
    k_extra "rx"
    refine i_tBM ?_
    k_extra "rx"
    refine⟨.inl ⟨rfl,_,SqL.of hF8⟩,?_⟩
    k_extra "rx"
    refine⟨B,sc,L,rfl,b8,hx1,hx2,fun pd n u H9x np b9x f9x hp9x du=>?_⟩
    have t9x:=TS.fr b8 f9x
    have hF9x:=f9x _ _ nFB hF8
    have hl9x:=f9x _ _ nlB hl8
    have hC9x:=hC8.ts t9x
    have F9x:=F8.trans f9x
    clear np t9x
    k_extra "rx"
    refine⟨B,m,L,rfl,b9x,m0,m6,fun th hs H10 nt b10 f10 ht10 hl10 hb10=>?_⟩
    have t10:=TS.fr b9x f10
    have hF10:=f10 _ _ nFB hF9x
    have hll:=f10 _ _ nlB hl9x
    have hC10:=hC9x.ts t10
    have F10:=F9x.trans f10
    have hp10:=t10 _ _ hp9x
    clear nt t10 hF9x hl9x hC9x F9x hp9x
    k_extra "rx"
    refine⟨B,_,L,rfl,b10,by rw[List.length_map];omega,Sz.mono (j:=6) (Sz.of (by rw[List.length_map];omega)) (by decide),fun j H11 j0 j1 b11 f11=>?_⟩
    have t11:=TS.fr b10 f11
    have hp11:=t11 _ _ hp10
    have ht11:=t11 _ _ ht10
    rw[List.length_map] at j1
    refine i_ixL (f11 _ _ nlB hll) (atI_ints (ws:=rs) j0 j1) ?_
    k_extra "rx"
    refine i_NewO (by show 3≤64;decide) fun r H12 hr s12 hr12=>?_
    exact fin H12 _ ⟨n,u,hs,rs.getD j.toNat 0⟩ _ ((F10.trans f11).trans (Fr1.of s12)) (b11.keep s12) (s12 _ _ (f11 _ _ nlB hll)) (s12 _ _ (f11 _ _ nFB hF10)) ((hC10.ts t11).ts (TS.of s12)) ⟨r,pd,th,rfl,hr12,s12 _ _ hp11,s12 _ _ ht11⟩ ⟨du,hl10,hb10,rk_at hrz (by omega)⟩
   k_extra "rx"
   refine i_NewO (by decide) fun e H8 he s8 he8=>?_
   have hF8:=s8 _ _ hF7
   have hl8:=s8 _ _ hl7
   have hC8:=hC7.ts (TS.of s8)
   have b8:=b7.keep s8
   have F8:=F7.trans (Fr1.of s8)
   refine⟨.lst (cs.map cD),.lst [],den_lst hF8 hC8.dens,den_lst he8 dens0,fun _ j d e h1 h2=>by simp at h2,?_⟩
   clear s8 hF7 hl7 hC7 b7 F7 he he8
   k_extra "rx"
   refine brkNB (fun h1=>?_) (fun h1=>?_)
   ·have hpos:0 < xs.length:=by
     rcases Nat.eq_zero_or_pos xs.length with z | z
     ·exfalso
      have z2:cs=[]:=List.length_eq_zero_iff.mp (by rw[← hC8.1];exact z)
      simp[z2] at h1
     ·exact z
    k_extra "rx"
    refine⟨B,7,L,rfl,b8,by decide,by decide,fun d9 H9 k0 k1 b9 f9=>?_⟩
    have t9:=TS.fr b8 f9
    have gF:=f9 _ _ nFB hF8
    have gl:=f9 _ _ nlB hl8
    have gC:=hC8.ts t9
    have gFr:=F8.trans f9
    clear t9 hF8 hl8 hC8 b8 F8 f9
    k_extra "rx"
    refine⟨rfl,?_⟩
    k_extra "rx"
    refine brkD (fun h2=>?_) (fun h2=>?_)
    ·k_extra "rx"
     refine i_tBM ?_
     k_extra "rx"
     refine⟨.inl ⟨rfl,_,SqL.of gF⟩,?_⟩
     k_extra "rx"
     refine⟨B,_,L,rfl,b9,by omega,Sz.mono (j:=6) (Sz.of (by omega)) (by decide),fun j H10 j0 j1 b10 f10=>?_⟩
     have gC10:=gC.ts (TS.fr b9 f10)
     have hj:j.toNat < cs.length:=by rw[← gC.1];omega
     obtain⟨v',ev,hv'⟩:=gC10.2 j.toNat cs[j.toNat] (List.getElem?_eq_getElem hj)
     have ej:atI xs j=some v':=by
      have:=atI_nat ev
      rwa [Int.toNat_of_nonneg j0] at this
     refine i_ixL (f10 _ _ nFB gF) ej ?_
     exact fin _ _ _ _ (gFr.trans f10) b10 (f10 _ _ nlB gl) (f10 _ _ nFB gF) gC10 hv' (hG _ (List.getElem_mem hj))
    ·exact ku _ ⟨b9,gF,gl,gC,gFr⟩
   ·k_extra "rx"
    exact ku _ ⟨b8,hF8,hl8,hC8,F8⟩
  ·rintro σ H7 ⟨xs,cs,v,rfl,F7,b7,hl7,hF7,hC7,hlen,hG⟩
   exact⟨_,rfl,hQ F xs cs H7 nF0 b7 F7 hF7 hC7 (by omega) hG⟩
theorem ok_good_row(D:DefAt K mg "good_row" s_good_row f fd)(T:Txt K mg cx)(d_total:DefOk P w K mg base CX0 3 "total" ["row"] sp_total)(d_below:DefOk P w K mg base CX0 1 "below" ["one","other"] sp_below):DefOk P w K mg base CX0 4 "good_row" ["many","touched","part","row"] sp_good_row:=by
 refine D.ok (D.q sc_good_row (fun vs H Q E h=>?_) (fun cdv A outer s H vs Q E hr h=>?_)) (D.fn.binds fun _ _ _ _ _ _ us hl=>match us,hl with | [_,_,_,_],_=>rfl)
 ·obtain⟨_,_,_,_,_,_,_,_,_,rfl,_⟩:=h
  rfl
 obtain⟨m,t,p,r,ts,part,xs,row,k,rfl,ht,hp,hrl,hR,hk,h12,hQ⟩:=h
 refine⟨_,(qss_cons (qs_if (qw_or (qt_cmpR op_ne (qe_callB call_lenF (by rfl) T.n_len bt_len (qa_cons (qv 3) qa_nil)) (qv 0) (nomark _)) (qw_or1 (qt_cmpR (op_neP hr.units) (qe_d d_total hr.le pass0 (by rfl) (qa_cons (qv 3) qa_nil)) (qv 2) (nomark _)))).pt (qss_one (qs_ret qe_bl)) qss_nil)
   (qss_cons (qs_for PassesOwn.never rfl (qi_enumK (K:=K) rfl (by rfl) T.n_enumerate (qa_cons (qv 3) qa_nil)) (qg_tupK (K:=K) (n:=2) rfl rfl (qgs_cons (qg_name (i:=4) sc_good_row.nd rfl (Or.inl rfl)) (qgs_cons (qg_name (i:=5) sc_good_row.nd rfl (Or.inl rfl)) qgs_nil))) (qss_one (qs_if (qw_or (qt_val (qe_d d_below hr.le pass0 (by rfl) (qa_cons (qv 5) (qa_cons (qe_tup (qa_cons qe_int (qa_cons qe_int qa_nil))) qa_nil)))) (qw_or1 (qw_and (qt_cmpR (op_neP hr.units) (qv 5) (qe_tup (qa_cons qe_int (qa_cons qe_int qa_nil))) (nomark _)) (qw_and1 (qt_cmpR (op_notInK (K:=K) rfl) (qv 4) (qv 1) (by rfl)))).pt)).pt (qss_one (qs_ret qe_bl)) qss_nil)))
   (qss_one (qs_ret qe_bl)))),?_⟩
 have hxl:=hR.1
 k_extra "rx"
 refine⟨rfl,?_⟩
 refine⟨_,rfl,brkN (fun h1=>?_) (fun h1=>?_)⟩
 ·refine i_brkT ?_
  k_extra "rx"
  exact hQ false H (fun _ _ h=>h) ⟨(fun z=>nomatch z),fun z=>absurd (by rw[hxl,z.1]) h1⟩
 ·have h1:(xs.length:Int)=(m:Int):=V.int.inj h1
  have hm:row.length=m:=by omega
  k_extra "rx"
  refine⟨r,xs,row,UM,k,rfl,hrl,um_ok,hR,hk,by omega,fun q H1 s1 hq=>?_⟩
  have hp1:=s1 _ _ hp
  have ht1:=s1 _ _ ht
  have hrl1:=s1 _ _ hrl
  have hR1:=hR.ts (TS.of s1)
  k_extra "rx"
  refine⟨q,p,_,_,_,_,rfl,rfl,hq,hp1,?_⟩
  refine⟨_,rfl,brkN (fun h2=>?_) (fun h2=>?_)⟩
  ·k_extra "rx"
   exact hQ false H1 s1 ⟨(fun z=>nomatch z),fun z=>absurd (by rw[z.2.1];exact⟨rfl,rfl⟩) h2⟩
  ·have hs:sumP row=part:=Prod.ext h2.1 h2.2
   refine i_tNext ?_
   refine⟨_,rfl,r,rfl,⟨_,SqL.of hrl1⟩,for_enumN (K:=K) (a:=r) (xs:=xs) (fun j σ H'=>∃ v4 v5,σ=[some (.int (m:Int)),some (.ref t),some (.ref p),some (.ref r),v4,v5]∧Same H1 H'∧∀ i,i < j→0≤(row.getD i (0,1)).1∧(row.getD i (0,1)=(0,1)∨(i:Int)∈ts)) ⟨_,_,rfl,fun _ _ h=>h,fun i hi=>by omega⟩ (fun i σ H' _ ⟨_,_,_,s,_⟩=>SqL.of (s _ _ hrl1)) ?_ ?_⟩
   ·rintro i y q2 σ H2 H3 NN BB hy hq2 s3 hq3 ⟨v4,v5,rfl,s2,inv⟩ kN kB
    clear kB
    have hi:i < row.length:=by rw[← hxl];exact (List.getElem?_eq_some_iff.mp hy).1
    obtain⟨rp,er,hrp,po⟩:=hR1.2 i row[i] (List.getElem?_eq_getElem hi)
    rw[er] at hy
    cases hy
    have ep:row.getD i (0,1)=row[i]:=by simp[List.getD_eq_getElem?_getD,hi]
    have s13:=s2.trans s3
    have hrp3:=s13 _ _ hrp
    have ht3:=s13 _ _ ht1
    have nx:(0≤row[i].1∧(row[i]=(0,1)∨(i:Int)∈ts))→∀ H4,Same H3 H4→NN [some (.int (m:Int)),some (.ref t),some (.ref p),some (.ref r),some (.int (i:Int)),some (.ref rp)] H4:=fun h H4 s4=>kN _ _ ⟨_,_,rfl,s13.trans s4,fun k hk=>by
     by_cases e:k < i
     ·exact inv k e
     ·rw[show k=i by omega,ep]
      exact h⟩
    have no:¬ (0≤row[i].1∧(row[i]=(0,1)∨(i:Int)∈ts))→∀ H4,Same H3 H4→Q (.bl false) H4:=fun h H4 s4=>hQ false H4 ((s1.trans s13).trans s4) ⟨(fun z=>nomatch z),fun z=>absurd (by have:=z.2.2 i hi;rw[ep] at this;exact this) h⟩
    clear kN inv hQ
    generalize row[i]=P0 at hrp3 po nx no
    refine⟨q2,_,rfl,SqT.of hq3,rfl,_,_,rfl,_,_,rfl,rfl,?_⟩
    dsimp only
    k_extra "rx"
    refine i_NewO (Nat.le_of_ble_eq_true rfl) fun t0 H4 _ s4 ht0=>?_
    have hrp4:=s4 _ _ hrp3
    have ht4:=s4 _ _ ht3
    k_extra "rx"
    refine⟨rp,t0,_,_,_,_,rfl,hrp4,ht0,(po.nsz um_ok.pos).mono (by omega),(po.toOk.usz um_ok).mono (by decide),by decide,by decide,?_⟩
    refine⟨_,rfl,brkD (fun h3=>?_) (fun h3=>?_)⟩
    ·refine i_brkT ?_
     k_extra "rx"
     exact no (fun z=>by have:=po.pos;omega) H4 s4
    ·have h3:0≤P0.1:=by omega
     k_extra "rx"
     refine i_NewO (Nat.le_of_ble_eq_true rfl) fun t5 H5 _ s5 ht5=>?_
     have ht5':=s5 _ _ ht4
     have s45:=s4.trans s5
     refine⟨rp,t5,_,_,_,_,rfl,rfl,s5 _ _ hrp4,ht5,?_⟩
     refine⟨_,rfl,brkN (fun h4=>?_) (fun h4=>?_)⟩
     ·have h4:P0≠(0,1):=fun z=>h4 (by rw[z];exact⟨rfl,rfl⟩)
      k_extra "rx"
      refine⟨t,ts.map V.int,rfl,.inr (SqT.of ht5'),rfl,by simp[flatV],?_⟩
      rw[if_pos rfl,inV_int]
      refine⟨_,rfl,brkN (fun h5=>?_) (fun h5=>?_)⟩
      ·k_extra "rx"
       refine no (fun z=>?_) H5 s45
       rcases z.2 with e | e
       ·exact h4 e
       ·exact h5 e
      ·refine i_tNext ?_
       exact nx ⟨h3,.inr h5⟩ H5 s45
     ·refine i_tNext ?_
      exact nx ⟨h3,.inl (Prod.ext h4.1 h4.2)⟩ H5 s45
   ·rintro σ H2 ⟨v4,v5,rfl,s2,inv⟩
    rw[hxl] at inv
    k_extra "rx"
    exact hQ true H2 (s1.trans s2) ⟨fun _=>⟨hm,hs,inv⟩,fun _=>rfl⟩
theorem ok_good_table(D:DefAt K mg "good_table" s_good_table f fd)(T:Txt K mg cx)(d_below:DefOk P w K mg base CX0 1 "below" ["one","other"] sp_below)(d_good_row:DefOk P w K mg base CX0 4 "good_row" ["many","touched","part","row"] sp_good_row)(d_total:DefOk P w K mg base CX0 3 "total" ["row"] sp_total):DefOk P w K mg base CX0 5 "good_table" ["worths","claims","parts","rows"] sp_good_table:=by
 refine D.ok (D.q sc_good_table (fun vs H Q E h=>?_) (fun cdv A outer s H vs Q E hr h=>?_)) (D.fn.binds fun _ _ _ _ _ _ us hl=>match us,hl with | [_,_,_,_],_=>rfl)
 ·obtain⟨_,_,_,_,_,_,_,_,_,_,_,_,rfl,_⟩:=h
  rfl
 obtain⟨w,c,p,z,ws,xs,cs,ys,ps,zs,rss,k,rfl,sh,hp,hP,pl,hz,hZ,hk,c16,w6,wz,hQ⟩:=h
 refine⟨_,(qss_cons (qs_if (qt_cmpR op_ne (qe_callB call_lenF (by rfl) T.n_len bt_len (qa_cons (qv 3) qa_nil)) (qe_callB call_lenF (by rfl) T.n_len bt_len (qa_cons (qv 1) qa_nil)) (nomark _)) (qss_one (qs_ret qe_bl)) qss_nil)
   (qss_cons (qs_for PassesOwn.never rfl (qi_zip3K (K:=K) rfl (by rfl) T.n_zip (qa_cons (qv 1) (qa_cons (qv 2) (qa_cons (qv 3) qa_nil)))) (qg_tupK (K:=K) (n:=3) rfl rfl (qgs_cons (qg_name (i:=4) sc_good_table.nd rfl (Or.inl rfl)) (qgs_cons (qg_name (i:=5) sc_good_table.nd rfl (Or.inl rfl)) (qgs_cons (qg_name (i:=6) sc_good_table.nd rfl (Or.inl rfl)) qgs_nil)))) (qss_one (qs_if (qt_not (qt_val (qe_d d_good_row hr.le pass0 (by rfl) (qa_cons (qe_callB call_lenF (by rfl) T.n_len bt_len (qa_cons (qv 0) qa_nil)) (qa_cons (qe_ix ix_seqA (qv 4) qe_int (fun _ _=>rfl)) (qa_cons (qv 5) (qa_cons (qv 6) qa_nil))))))) (qss_one (qs_ret qe_bl)) qss_nil)))
   (qss_cons (qs_for PassesOwn.never rfl (qi_enumK (K:=K) rfl (by rfl) T.n_enumerate (qa_cons (qv 0) qa_nil)) (qg_tupK (K:=K) (n:=2) rfl rfl (qgs_cons (qg_name (i:=7) sc_good_table.nd rfl (Or.inr rfl)) (qgs_cons (qg_name (i:=8) sc_good_table.nd rfl (Or.inl rfl)) qgs_nil))) (qss_one (qs_if (qt_val (qe_d d_below hr.le pass0 (by rfl) (qa_cons (qe_tup (qa_cons (qv 8) (qa_cons qe_int qa_nil))) (qa_cons (qe_d d_total hr.le pass0 (by rfl) (qa_cons (qe_comp ["row"] [("fund", 7)] rfl (qi_listK (K:=K) rfl (qv 3)) (gext_name (by decide)) (fun cl C fp s2 H2=>⟨(qg_name (i:=0) (show (["row","fund"]:List Str).Nodup by decide +kernel) rfl (Or.inl rfl)),qf_nil,(qe_ix ix_seqA (qv 0) (qv 1) (fun _ _=>rfl))⟩) rfl (by decide +kernel) (by decide +kernel) (free_of (by rfl)) (fr_of (by rfl))) qa_nil)) qa_nil)))) (qss_one (qs_ret qe_bl)) qss_nil)))
   (qss_one (qs_ret qe_bl))))),?_⟩
 have hxl:=sh.hC.1
 have hyl:=hP.1
 have hzl:=hZ.1
 have wl:(ws.map V.int).length=ws.length:=List.length_map _
 have shc:=sh.c
 have shw:=sh.w
 k_extra "rx"
 refine⟨rfl,?_⟩
 refine⟨_,rfl,brkN (fun h1=>?_) (fun h1=>?_)⟩
 ·k_extra "rx"
  exact hQ false H (fun _ _ h=>h) ⟨(fun z=>nomatch z),fun z=>absurd (by rw[hzl,z.1,hxl]) h1⟩
 ·have h1:(zs.length:Int)=(xs.length:Int):=V.int.inj h1
  have rl:rss.length=cs.length:=by omega
  refine i_tNext ?_
  refine⟨_,rfl,_,rfl,_,rfl,c,p,z,rfl,⟨_,SqL.of shc⟩,⟨_,SqL.of hp⟩,⟨_,SqL.of hz⟩,for_zip3N (K:=K) (a:=c) (b:=p) (c:=z) (xs:=xs) (ys:=ys) (zs:=zs) (fun j σ H'=>∃ v4 v5 v6,σ=[some (.ref w),some (.ref c),some (.ref p),some (.ref z),v4,v5,v6,none,none]∧Same H H'∧∀ i,i < j→gdRow ws.length (heapP cs i) (ps.getD i (0,1)) (rss.getD i [])) ⟨_,_,_,rfl,fun _ _ h=>h,fun i hi=>by omega⟩ (by omega) (by omega) (fun i σ H' _ ⟨_,_,_,_,s,_⟩=>⟨SqL.of (s _ _ shc),SqL.of (s _ _ hp),SqL.of (s _ _ hz)⟩) ?_ ?_⟩
  ·rintro i x y v q σ H1 H2 NN BB hx hy hv hq s2 hq2 ⟨v4,v5,v6,rfl,s1,inv⟩ kN kB
   clear kB
   have hi:i < cs.length:=by rw[← hxl];exact (List.getElem?_eq_some_iff.mp hx).1
   have s12:=s1.trans s2
   obtain⟨v',ev,rc,pc,kc,rfl,e1,e2,e3⟩:=sh.hC.2 i cs[i] (List.getElem?_eq_getElem hi)
   rw[ev] at hx
   cases hx
   obtain⟨rp,er,hrp⟩:=hP.2 i ps[i] (List.getElem?_eq_getElem (by omega))
   rw[er] at hy
   cases hy
   obtain⟨l,as,el,hl,hA,h12⟩:=hZ.2 i rss[i] (List.getElem?_eq_getElem (by omega))
   rw[el] at hv
   cases hv
   have ep:ps.getD i (0,1)=ps[i]:=by simp[List.getD_eq_getElem?_getD,show i < ps.length by omega]
   have erw:rss.getD i []=rss[i]:=by simp[List.getD_eq_getElem?_getD,show i < rss.length by omega]
   have eh:heapP cs i=cs[i].hp:=heapP_at hi
   have f1:=s12 _ _ e1
   have f3:=s12 _ _ e3
   have fp:=s12 _ _ hrp
   have fl:=s12 _ _ hl
   have fA:=hA.ts (TS.of s12)
   have fw:=s12 _ _ shw
   refine⟨q,_,rfl,SqT.of hq2,rfl,_,_,rfl,_,_,rfl,_,_,rfl,rfl,?_⟩
   dsimp only
   k_extra "rx"
   refine⟨ws.length,kc,rp,l,cs[i].hp,ps[i],as,rss[i],k,by rw[wl],f3,fp,fl,fA,hk,h12,fun b H3 s3 hb=>?_⟩
   have s13:=s12.trans s3
   refine⟨_,rfl,brkNB (fun h2=>?_) (fun h2=>?_)⟩
   ·k_extra "rx"
    refine hQ false H3 s13 ⟨(fun z=>nomatch z),fun zz=>?_⟩
    have:=zz.2.1 i hi
    rw[ep,erw,eh] at this
    rw[hb.mpr this] at h2
    cases h2
   ·refine i_tNext ?_
    refine kN _ _ ⟨_,_,_,rfl,s13,fun j hj=>?_⟩
    by_cases e:j < i
    ·exact inv j e
    ·rw[show j=i by omega,ep,erw,eh]
     exact hb.mp h2
  ·rintro σ H1 ⟨v4,v5,v6,rfl,s1,inv⟩
   have inv:∀ i,i < cs.length→gdRow ws.length (heapP cs i) (ps.getD i (0,1)) (rss.getD i []):=fun i hi=>inv i (by omega)
   have shw1:=s1 _ _ shw
   have hz1:=s1 _ _ hz
   have hZ1:=hZ.same s1
   have rw6:∀ i,i < rss.length→(rss.getD i []).length=ws.length:=fun i hi=>(inv i (by omega)).1
   refine⟨_,rfl,w,rfl,⟨_,SqL.of shw1⟩,for_enumN (K:=K) (a:=w) (xs:=ws.map V.int) (fun j σ H'=>∃ v7 v8,σ=[some (.ref w),some (.ref c),some (.ref p),some (.ref z),v4,v5,v6,v7,v8]∧Same H1 H'∧∀ f,f < j→¬ ws.getD f 0*(sumP (colP rss f)).2 < (sumP (colP rss f)).1*1) ⟨_,_,rfl,fun _ _ h=>h,fun f hf=>by omega⟩ (fun i σ H' _ ⟨_,_,_,s,_⟩=>SqL.of (s _ _ shw1)) ?_ ?_⟩
   ·rintro f y q σ H2 H3 NN BB hy hq s3 hq3 ⟨v7,v8,rfl,s2,inv2⟩ kN kB
    clear kB
    obtain⟨hf,rfl⟩:=int_at hy
    have s13:=s2.trans s3
    have hz3:=s13 _ _ hz1
    have hZ3:=hZ1.same s13
    have ew:ws.getD f 0=ws[f]:=by simp[List.getD_eq_getElem?_getD,hf]
    have wzf:=wz _ (List.getElem_mem hf)
    refine⟨q,_,rfl,SqT.of hq3,rfl,_,_,rfl,_,_,rfl,rfl,?_⟩
    dsimp only
    k_extra "rx"
    refine i_NewO (Nat.le_of_ble_eq_true rfl) fun t H4 _ s4 ht=>?_
    have hz4:=s4 _ _ hz3
    have hZ4:=hZ3.same s4
    k_extra "rx"
    refine⟨_,rfl,z,rfl,⟨_,SqL.of hz4⟩,fun l hl=>?_⟩
    refine comp_listR (K:=K) (a:=z) (xs:=zs) (fun i acc H5=>Same H4 H5∧H5 l=some (.lst acc)∧RowU UM k H5 acc (colP (rss.take i) f)) ⟨Same.new hl,upd_same,RowU.nil⟩ (fun i acc H5 _ ⟨s5,_,_⟩=>SqL.of (s5 _ _ hz4)) ?_ ?_
    ·rintro i y acc H5 hy ⟨s5,hl5,hA⟩
     have hi:i < rss.length:=by rw[← hzl];exact (List.getElem?_eq_some_iff.mp hy).1
     obtain⟨l',as,el,hl',hA',h12⟩:=hZ4.2 i rss[i] (List.getElem?_eq_getElem hi)
     rw[el] at hy
     cases hy
     have erw:rss.getD i []=rss[i]:=by simp[List.getD_eq_getElem?_getD,hi]
     have rli:rss[i].length=ws.length:=by rw[← erw];exact rw6 i hi
     have hf2:f < rss[i].length:=by omega
     obtain⟨rp,er,hrp,po⟩:=hA'.2 f rss[i][f] (List.getElem?_eq_getElem hf2)
     have a1:atI as (f:Int)=some (.ref rp):=atI_nat er
     have ec:colP (rss.take (i+1)) f=colP (rss.take i) f++[rss[i][f]]:=by
      unfold colP
      rw[take_map_succ _ hi]
      simp[List.getD_eq_getElem?_getD,hf2]
     rw[ec]
     have len:acc.length≤16:=by
      rw[hA.1]
      unfold colP
      rw[List.length_map,List.length_take]
      omega
     have k1:=s5 _ _ hl'
     have k2:=s5 _ _ hrp
     generalize rss[i][f]=P0 at k2 po ⊢
     generalize colP (rss.take i) f=A' at hA ⊢
     clear hrp er hl' hA' el ec
     simp only[gName_ap,tYes,if_true]
     k_extra "rx"
     have np:rp≠l:=fun zz=>by rw[zz,hl5] at k2;cases k2
     exact⟨hl5,small1000 (by omega),same_put hl s5,upd_same,(hA.ts (TS.lst hl5)).snoc (by rw[upd_ne np];exact k2) po⟩
    ·rintro acc H5 ⟨s5,hl5,hA⟩
     rw[hzl,List.take_length] at hA
     have cl:(colP rss f).length≤16:=by unfold colP;rw[List.length_map];omega
     refine⟨l,acc,_,UM,k,rfl,hl5,um_ok,hA,hk,cl,fun q2 H6 s6 hq6=>?_⟩
     have sp:=sum_pt um_ok.pos hA.mem
     have s46:=s5.trans s6
     k_extra "rx"
     refine⟨t,q2,_,_,_,_,rfl,s46 _ _ ht,hq6,wzf.mono (by decide),by decide,(sp.nsz um_ok.pos).mono (by omega),(sp.toOk.usz um_ok).mono (by decide),?_⟩
     have s16:=(s13.trans s4).trans s46
     refine⟨_,rfl,brkD (fun h2=>?_) (fun h2=>?_)⟩
     ·k_extra "rx"
      refine hQ false H6 (s1.trans s16) ⟨(fun z=>nomatch z),fun zz=>?_⟩
      have:=zz.2.2 f hf
      rw[ew] at this
      exact absurd h2 this
     ·refine i_tNext ?_
      refine kN _ _ ⟨_,_,rfl,s16,fun g hg=>?_⟩
      by_cases e:g < f
      ·exact inv2 g e
      ·rw[show g=f by omega,ew]
       exact h2
   ·rintro σ H2 ⟨v7,v8,rfl,s2,inv2⟩
    rw[wl] at inv2
    k_extra "rx"
    exact hQ true H2 (s1.trans s2) ⟨fun _=>⟨rl,inv,inv2⟩,fun _=>rfl⟩
theorem ok__law_good_row(D:DefAt K mg "_law_good_row" s__law_good_row f fd)(T:Txt K mg cx)(d__law_sum:DefOk P w K mg base CX0 4 "_law_sum" ["_law_row"] sp__law_sum):DefOk P w K mg base CX0 5 "_law_good_row" ["_law_claim","_law_part","_law_row"] sp__law_good_row:=by
 refine D.ok (D.q sc__law_good_row (fun vs H Q E h=>?_) (fun cdv A outer s H vs Q E hr h=>?_)) (D.fn.binds fun _ _ _ _ _ _ us hl=>match us,hl with | [_,_,_],_=>rfl)
 ·obtain⟨_,_,_,_,_,_,_,_,_,_,_,rfl,_⟩:=h
  rfl
 obtain⟨c,t,p,r,pd,rk,ts,part,xs,row,k,rfl,hc,ht,hp,hrl,hR,hk,h12,hQ⟩:=h
 refine⟨_,(qss_cons (qs_if (qw_or (qt_cmpR (op_neP hr.units) (qe_d d__law_sum hr.le pass0 (by rfl) (qa_cons (qv 2) qa_nil)) (qv 1) (nomark _)) (qw_or1 (qt_not (qt_val (qe_callB (call_allF rfl) (by rfl) T.n_all bt_all (qa_cons (qe_comp ["_law_one"] [] rfl (qi_listK (K:=K) rfl (qv 2)) (gext_name (by decide)) (fun cl C fp s2 H2=>⟨(qg_name (i:=0) (show (["_law_one"]:List Str).Nodup by decide +kernel) rfl (Or.inl rfl)),qf_nil,(qe_cmpR op_ge (qe_ix ix_seqA (qv 0) qe_int (fun _ _=>rfl)) qe_int (nomark _))⟩) rfl (by decide +kernel) (by decide +kernel) (free_of (by rfl)) (fr_of (by rfl))) qa_nil)))))).pt (qss_one (qs_ret qe_bl)) qss_nil)
   (qss_one (qs_ret (qe_callB (call_allF rfl) (by rfl) T.n_all bt_all (qa_cons (qe_comp ["_law_place"] [("_law_row", 2),("_law_claim", 0)] rfl (qi_range1 (by rfl) T.n_range (qa_cons (qe_callB call_lenF (by rfl) T.n_len bt_len (qa_cons (qv 2) qa_nil)) qa_nil)) (gext_name (by decide)) (fun cl C fp s2 H2=>⟨(qg_name (i:=0) (show (["_law_place","_law_row","_law_claim"]:List Str).Nodup by decide +kernel) rfl (Or.inl rfl)),qf_nil,(qe_or (qe_cmpR (op_eqP hr.units) (qe_ix ix_seqA (qv 1) (qv 0) (fun _ _=>rfl)) (qe_tup (qa_cons qe_int (qa_cons qe_int qa_nil))) (nomark _)) (qe_one (qe_cmpR (op_inK (K:=K) rfl) (qv 0) (qe_ix ix_seqA (qv 2) qe_int (fun _ _=>rfl)) (by rfl))))⟩) rfl (by decide +kernel) (by decide +kernel) (free_of (by rfl)) (fr_of (by rfl))) qa_nil))))),?_⟩
 have hxl:=hR.1
 k_extra "rx"
 refine⟨r,xs,row,UM,k,rfl,hrl,um_ok,hR,hk,by omega,fun q H1 s1 hq=>?_⟩
 have hp1:=s1 _ _ hp
 have ht1:=s1 _ _ ht
 have hc1:=s1 _ _ hc
 have hr1:=s1 _ _ hrl
 have hR1:=hR.ts (TS.of s1)
 k_extra "rx"
 refine⟨q,p,_,_,_,_,rfl,rfl,hq,hp1,?_⟩
 refine⟨_,rfl,brkN (fun h2=>?_) (fun h2=>?_)⟩
 ·refine i_brkT ?_
  k_extra "rx"
  exact hQ false H1 s1 ⟨(fun z=>nomatch z),fun z=>absurd (by rw[z.2.1];exact⟨rfl,rfl⟩) h2⟩
 ·have hs:sumP row=part:=Prod.ext h2.1 h2.2
  k_extra "rx"
  refine⟨_,rfl,r,rfl,⟨_,SqL.of hr1⟩,fun l hl=>?_⟩
  refine comp_listR (K:=K) (a:=r) (xs:=xs) (fun i acc H2=>Same H1 H2∧H2 l=some (.lst acc)∧acc=((List.range i).map fun k=>decide (0≤(row.getD k (0,1)).1)).map V.bl) ⟨Same.new hl,upd_same,rfl⟩ (fun i acc H2 _ ⟨s2,_,_⟩=>SqL.of (s2 _ _ hr1)) ?_ ?_
  ·rintro i y acc H2 hy ⟨s2,hl2,rfl⟩
   have hi:i < row.length:=by rw[← hxl];exact (List.getElem?_eq_some_iff.mp hy).1
   obtain⟨rp,er,hrp,po⟩:=hR1.2 i row[i] (List.getElem?_eq_getElem hi)
   rw[er] at hy
   cases hy
   have e:row.getD i (0,1)=row[i]:=by simp[List.getD_eq_getElem?_getD,hi]
   have len:(((List.range i).map fun k=>decide (0≤(row.getD k (0,1)).1)).map V.bl).length≤16:=by rw[List.length_map,List.length_map,List.length_range];omega
   rw[List.range_succ,List.map_append,List.map_append]
   have e2:(([i].map fun k=>decide (0≤(row.getD k (0,1)).1)).map V.bl)=[V.bl (decide (0≤row[i].1))]:=by rw[List.map_cons,List.map_cons,e];rfl
   rw[e2]
   generalize ((List.range i).map fun k=>decide (0≤(row.getD k (0,1)).1)).map V.bl=A' at hl2 len ⊢
   have g:=s2 _ _ hrp
   generalize row[i]=P0 at g ⊢
   simp only[gName_ap,tYes,if_true]
   k_extra "rx"
   exact⟨hl2,small1000 (by omega),same_put hl s2,upd_same,rfl⟩
  ·rintro acc H2 ⟨s2,hl2,rfl⟩
   rw[hxl] at hl2
   refine⟨l,_,rfl,hl2,?_⟩
   have iff:(((List.range row.length).map fun k=>decide (0≤(row.getD k (0,1)).1)).all id)=true↔∀ k,k < row.length→0≤(row.getD k (0,1)).1:=by
    rw[List.all_eq_true]
    constructor
    ·intro h k hk
     exact of_decide_eq_true (h _ (List.mem_map.mpr ⟨k,List.mem_range.mpr hk,rfl⟩))
    ·intro h b hb
     obtain⟨k,hk,rfl⟩:=List.mem_map.mp hb
     exact decide_eq_true (h k (List.mem_range.mp hk))
   generalize ((List.range row.length).map fun k=>decide (0≤(row.getD k (0,1)).1)).all id=b0 at iff ⊢
   refine⟨_,rfl,brkNB (fun h3=>?_) (fun h3=>?_)⟩
   ·k_extra "rx"
    refine hQ false H2 (s1.trans s2) ⟨(fun z=>nomatch z),fun z=>?_⟩
    rw[iff.mpr fun k hk=>(z.2.2 k hk).1] at h3
    cases h3
   ·have nn:=iff.mp h3
    have hr2:=s2 _ _ hr1
    have hc2:=s2 _ _ hc1
    have ht2:=s2 _ _ ht1
    have hR2:=hR1.ts (TS.of s2)
    refine i_tNext ?_
    refine⟨_,rfl,r,_,rfl,seqAt_lst hr2,_,rfl,by omega,by omega,fun l2 hl2=>?_⟩
    refine comp_rangeR (k:=((xs.length:Nat):Int).toNat) (fun i acc H3=>Same H2 H3∧H3 l2=some (.lst acc)∧acc=((List.range i).map fun k=>decide (row.getD k (0,1)=(0,1)∨(k:Int)∈ts)).map V.bl) ⟨Same.new hl2,upd_same,rfl⟩ ?_ ?_
    ·rintro i acc H3 hi0 ⟨s3,hl3,rfl⟩
     have hi:i < row.length:=by omega
     obtain⟨rp,er,hrp,po⟩:=hR2.2 i row[i] (List.getElem?_eq_getElem hi)
     have a1:atI xs (i:Int)=some (.ref rp):=atI_nat er
     have e:row.getD i (0,1)=row[i]:=by simp[List.getD_eq_getElem?_getD,hi]
     have len:(((List.range i).map fun k=>decide (row.getD k (0,1)=(0,1)∨(k:Int)∈ts)).map V.bl).length≤16:=by rw[List.length_map,List.length_map,List.length_range];omega
     rw[List.range_succ,List.map_append,List.map_append]
     have e2:(([i].map fun k=>decide (row.getD k (0,1)=(0,1)∨(k:Int)∈ts)).map V.bl)=[V.bl (decide (row[i]=(0,1)∨(i:Int)∈ts))]:=by rw[List.map_cons,List.map_cons,e];rfl
     rw[e2,Int.zero_add]
     generalize ((List.range i).map fun k=>decide (row.getD k (0,1)=(0,1)∨(k:Int)∈ts)).map V.bl=A' at hl3 len ⊢
     have g:=s3 _ _ hrp
     have gr:=s3 _ _ hr2
     have gc:=s3 _ _ hc2
     have gt:=s3 _ _ ht2
     generalize row[i]=P0 at g ⊢
     simp only[gName_ap,tYes,if_true]
     k_extra "rx"
     rw[tOrV_ap]
     k_extra "rx"
     refine i_NewO (Nat.le_of_ble_eq_true rfl) fun t0 H4 _ s4 ht0=>?_
     have l4:=s4 _ _ hl3
     have s24:=s3.trans s4
     refine⟨rp,t0,_,_,_,_,rfl,rfl,s4 _ _ g,ht0,?_⟩
     refine⟨_,rfl,brkD (fun h4=>?_) (fun h4=>?_)⟩
     ·refine⟨l4,small1000 (by omega),same_put hl2 s24,upd_same,?_⟩
      rw[decide_eq_true (Or.inl (show P0=(0,1) from Prod.ext h4.1 h4.2))]
     ·have gc4:=s4 _ _ gc
      have gt4:=s4 _ _ gt
      k_extra "rx"
      refine⟨t,ts.map V.int,rfl,.inr (SqT.of gt4),rfl,by simp[flatV],?_⟩
      rw[if_neg Bool.false_ne_true,inV_int]
      refine⟨l4,small1000 (by omega),same_put hl2 s24,upd_same,?_⟩
      have hne:P0≠(0,1):=fun z=>h4 (by rw[z];exact⟨rfl,rfl⟩)
      congr 3
      rw[decide_eq_decide]
      exact⟨.inr,fun z=>z.resolve_left hne⟩
    ·rintro acc H3 ⟨s3,hl3,rfl⟩
     rw[Int.toNat_natCast,hxl] at hl3
     refine⟨l2,_,rfl,hl3,?_⟩
     refine hQ _ H3 ((s1.trans s2).trans s3) ?_
     rw[List.all_eq_true]
     constructor
     ·intro h
      exact⟨rfl,hs,fun k hk=>⟨nn k hk,of_decide_eq_true (h _ (List.mem_map.mpr ⟨k,List.mem_range.mpr hk,rfl⟩))⟩⟩
     ·intro h b hb
      obtain⟨k,hk,rfl⟩:=List.mem_map.mp hb
      exact decide_eq_true (h.2.2 k (List.mem_range.mp hk)).2
theorem ok__law_good_table(D:DefAt K mg "_law_good_table" s__law_good_table f fd)(T:Txt K mg cx)(d__law_below:DefOk P w K mg base CX0 1 "_law_below" ["_law_one","_law_other"] sp__law_below)(d__law_sum:DefOk P w K mg base CX0 4 "_law_sum" ["_law_row"] sp__law_sum)(d__law_pairs:DefOk P w K mg base CX0 3 "_law_pairs" ["_law_found","_law_many_here"] sp__law_pairs)(d__law_good_row:DefOk P w K mg base CX0 5 "_law_good_row" ["_law_claim","_law_part","_law_row"] sp__law_good_row):DefOk P w K mg base CX0 6 "_law_good_table" ["_law_worths","_law_claims_here","_law_parts","_law_rows"] sp__law_good_table:=by
 refine D.ok (D.q sc__law_good_table (fun vs H Q E h=>?_) (fun cdv A outer s H vs Q E hr h=>?_)) (D.fn.binds fun _ _ _ _ _ _ us hl=>match us,hl with | [_,_,_,_],_=>rfl)
 ·obtain⟨_,_,_,_,_,_,_,_,_,_,_,_,rfl,_⟩:=h
  rfl
 obtain⟨w,c,p,z,ws,xs,cs,ys,ps,zs,rss,k,rfl,sh,hp,hP,pl,hz,hZ,hk,c16,w6,wz,hQ⟩:=h
 refine⟨_,(qss_cons (qs_if (qw_or (qt_not (qt_val (qe_callB call_isi (by rfl) T.n_isinstance bt_isinstance (qa_cons (qv 3) (qa_cons (qe_bltn (v:=.ty "list") (by rfl) T.n_list bt_list rfl) qa_nil))))) (qw_or1 (qt_cmpR op_ne (qe_callB call_lenF (by rfl) T.n_len bt_len (qa_cons (qv 3) qa_nil)) (qe_callB call_lenF (by rfl) T.n_len bt_len (qa_cons (qv 1) qa_nil)) (nomark _)))).pt (qss_one (qs_ret qe_bl)) qss_nil)
   (qss_cons (qs_if (qt_not (qt_val (qe_callB (call_allF rfl) (by rfl) T.n_all bt_all (qa_cons (qe_comp ["_law_row"] [("_law_worths", 0)] rfl (qi_listK (K:=K) rfl (qv 3)) (gext_name (by decide)) (fun cl C fp s2 H2=>⟨(qg_name (i:=0) (show (["_law_row","_law_worths"]:List Str).Nodup by decide +kernel) rfl (Or.inl rfl)),qf_nil,(qe_d d__law_pairs hr.le pass0 (by rfl) (qa_cons (qv 0) (qa_cons (qe_callB call_lenF (by rfl) T.n_len bt_len (qa_cons (qv 1) qa_nil)) qa_nil)))⟩) rfl (by decide +kernel) (by decide +kernel) (free_of (by rfl)) (fr_of (by rfl))) qa_nil)))) (qss_one (qs_ret qe_bl)) qss_nil)
   (qss_cons (qs_if (qt_not (qt_val (qe_callB (call_allF rfl) (by rfl) T.n_all bt_all (qa_cons (qe_comp ["_law_at"] [("_law_claims_here", 1),("_law_parts", 2),("_law_rows", 3)] rfl (qi_range1 (by rfl) T.n_range (qa_cons (qe_callB call_lenF (by rfl) T.n_len bt_len (qa_cons (qv 1) qa_nil)) qa_nil)) (gext_name (by decide)) (fun cl C fp s2 H2=>⟨(qg_name (i:=0) (show (["_law_at","_law_claims_here","_law_parts","_law_rows"]:List Str).Nodup by decide +kernel) rfl (Or.inl rfl)),qf_nil,(qe_d d__law_good_row hr.le pass0 (by rfl) (qa_cons (qe_ix ix_seqA (qv 1) (qv 0) (fun _ _=>rfl)) (qa_cons (qe_ix ix_seqA (qv 2) (qv 0) (fun _ _=>rfl)) (qa_cons (qe_ix ix_seqA (qv 3) (qv 0) (fun _ _=>rfl)) qa_nil))))⟩) rfl (by decide +kernel) (by decide +kernel) (free_of (by rfl)) (fr_of (by rfl))) qa_nil)))) (qss_one (qs_ret qe_bl)) qss_nil)
   (qss_cons (qs_for PassesOwn.never rfl (qi_range1 (by rfl) T.n_range (qa_cons (qe_callB call_lenF (by rfl) T.n_len bt_len (qa_cons (qv 0) qa_nil)) qa_nil)) (qg_name (i:=4) sc__law_good_table.nd rfl (Or.inr rfl)) (qss_one (qs_if (qt_val (qe_d d__law_below hr.le pass0 (by rfl) (qa_cons (qe_tup (qa_cons (qe_ix ix_seqA (qv 0) (qv 4) (fun _ _=>rfl)) (qa_cons qe_int qa_nil))) (qa_cons (qe_d d__law_sum hr.le pass0 (by rfl) (qa_cons (qe_comp ["_law_row"] [("_law_place", 4)] rfl (qi_listK (K:=K) rfl (qv 3)) (gext_name (by decide)) (fun cl C fp s2 H2=>⟨(qg_name (i:=0) (show (["_law_row","_law_place"]:List Str).Nodup by decide +kernel) rfl (Or.inl rfl)),qf_nil,(qe_ix ix_seqA (qv 0) (qv 1) (fun _ _=>rfl))⟩) rfl (by decide +kernel) (by decide +kernel) (free_of (by rfl)) (fr_of (by rfl))) qa_nil)) qa_nil)))) (qss_one (qs_ret qe_bl)) qss_nil)))
   (qss_one (qs_ret qe_bl)))))),?_⟩
 have hxl:=sh.hC.1
 have hyl:=hP.1
 have hzl:=hZ.1
 have wl:(ws.map V.int).length=ws.length:=List.length_map _
 have shc:=sh.c
 have shw:=sh.w
 have tyZ:tyNm (.ref z) H=some "list" := by simp only[tyNm,hz]
 k_extra "rx"
 refine⟨_,_,_,rfl,by decide,tyZ,?_⟩
 refine⟨_,rfl,brkNB (fun zz=>absurd zz (by decide)) (fun _=>?_)⟩
 k_extra "rx"
 refine⟨rfl,?_⟩
 refine⟨_,rfl,brkN (fun h1=>?_) (fun h1=>?_)⟩
 ·k_extra "rx"
  exact hQ false H (fun _ _ h=>h) ⟨(fun z=>nomatch z),fun z=>absurd (by rw[hzl,z.1,hxl]) h1⟩
 ·have h1:(zs.length:Int)=(xs.length:Int):=V.int.inj h1
  have rl:rss.length=cs.length:=by omega
  refine i_tNext ?_
  k_extra "rx"
  refine⟨_,rfl,z,rfl,⟨_,SqL.of hz⟩,fun l hl=>?_⟩
  refine comp_listR (K:=K) (a:=z) (xs:=zs) (fun i acc H2=>Same H H2∧H2 l=some (.lst acc)∧acc=((List.range i).map fun j=>decide ((rss.getD j []).length=ws.length)).map V.bl) ⟨Same.new hl,upd_same,rfl⟩ (fun i acc H2 _ ⟨s2,_,_⟩=>SqL.of (s2 _ _ hz)) ?_ ?_
  ·rintro i y acc H2 hy ⟨s2,hl2,rfl⟩
   have hi:i < rss.length:=by rw[← hzl];exact (List.getElem?_eq_some_iff.mp hy).1
   obtain⟨l',as,el,hl',hA',h12⟩:=hZ.2 i rss[i] (List.getElem?_eq_getElem hi)
   rw[el] at hy
   cases hy
   have e:rss.getD i []=rss[i]:=by simp[List.getD_eq_getElem?_getD,hi]
   have len:(((List.range i).map fun j=>decide ((rss.getD j []).length=ws.length)).map V.bl).length≤16:=by rw[List.length_map,List.length_map,List.length_range];omega
   rw[List.range_succ,List.map_append,List.map_append]
   have e2:(([i].map fun j=>decide ((rss.getD j []).length=ws.length)).map V.bl)=[V.bl (decide (rss[i].length=ws.length))]:=by rw[List.map_cons,List.map_cons,e];rfl
   rw[e2]
   generalize ((List.range i).map fun j=>decide ((rss.getD j []).length=ws.length)).map V.bl=A' at hl2 len ⊢
   have g:=s2 _ _ hl'
   have gA:=hA'.ts (TS.of s2)
   have gw:=s2 _ _ shw
   generalize rss[i]=R0 at gA h12 ⊢
   simp only[gName_ap,tYes,if_true]
   k_extra "rx"
   refine⟨l',as,R0,ws.length,by rw[wl],g,gA.toV,by omega,fun j hj=>?_,fun H3 s3=>⟨s3 _ _ hl2,small1000 (by omega),same_put hl (s2.trans s3),upd_same,rfl⟩⟩
   have po:=gA.mem (R0.getD j (0,1)) (by
    have:R0.getD j (0,1)=R0[j]:=by simp[List.getD_eq_getElem?_getD,hj]
    rw[this]
    exact List.getElem_mem _)
   exact⟨po.pos,po.cop,(po.toOk.usz um_ok).mono (by decide)⟩
  ·rintro acc H2 ⟨s2,hl2,rfl⟩
   rw[hzl] at hl2
   refine⟨l,_,rfl,hl2,?_⟩
   have iff:(((List.range rss.length).map fun j=>decide ((rss.getD j []).length=ws.length)).all id)=true↔∀ j,j < rss.length→(rss.getD j []).length=ws.length:=by
    rw[List.all_eq_true]
    constructor
    ·intro h k hk
     exact of_decide_eq_true (h _ (List.mem_map.mpr ⟨k,List.mem_range.mpr hk,rfl⟩))
    ·intro h b hb
     obtain⟨k,hk,rfl⟩:=List.mem_map.mp hb
     exact decide_eq_true (h k (List.mem_range.mp hk))
   generalize ((List.range rss.length).map fun j=>decide ((rss.getD j []).length=ws.length)).all id=b0 at iff ⊢
   refine⟨_,rfl,brkNB (fun h3=>?_) (fun h3=>?_)⟩
   ·k_extra "rx"
    refine hQ false H2 s2 ⟨(fun z=>nomatch z),fun zz=>?_⟩
    rw[iff.mpr fun j hj=>(zz.2.1 j (by omega)).1] at h3
    cases h3
   ·have rw6:=iff.mp h3
    have sh2:=sh.same s2
    have hp2:=s2 _ _ hp
    have hP2:=hP.ts (TS.of s2)
    have hz2:=s2 _ _ hz
    have hZ2:=hZ.same s2
    clear iff h3 hl2 hl
    refine i_tNext ?_
    k_extra "rx"
    refine⟨_,rfl,c,_,rfl,seqAt_lst sh2.c,_,rfl,by omega,by omega,fun l hl=>?_⟩
    refine comp_rangeR (k:=((xs.length:Nat):Int).toNat) (fun i acc H3=>∃ bs:List Bool,acc=bs.map V.bl∧bs.length=i∧(∀ j,j < i→(bs.getD j false=true↔gdRow ws.length (heapP cs j) (ps.getD j (0,1)) (rss.getD j [])))∧Same H2 H3∧H3 l=some (.lst acc)) ⟨[],rfl,rfl,(fun j hj=>by omega),Same.new hl,upd_same⟩ ?_ ?_
    ·rintro i acc H3 hi0 ⟨bs,rfl,bl,hb,s3,hl3⟩
     have hi:i < cs.length:=by omega
     obtain⟨v',ev,rc,pc,kc,rfl,e1,e2,e3⟩:=sh2.hC.2 i cs[i] (List.getElem?_eq_getElem hi)
     obtain⟨rp,er,hrp⟩:=hP2.2 i ps[i] (List.getElem?_eq_getElem (by omega))
     obtain⟨l',as,el,hl',hA',h12⟩:=hZ2.2 i rss[i] (List.getElem?_eq_getElem (by omega))
     have a1:atI xs (i:Int)=some (.ref rc):=atI_nat ev
     have a2:atI ys (i:Int)=some (.ref rp):=atI_nat er
     have a3:atI zs (i:Int)=some (.ref l'):=atI_nat el
     have ep:ps.getD i (0,1)=ps[i]:=by simp[List.getD_eq_getElem?_getD,show i < ps.length by omega]
     have erw:rss.getD i []=rss[i]:=by simp[List.getD_eq_getElem?_getD,show i < rss.length by omega]
     have eh:heapP cs i=cs[i].hp:=heapP_at hi
     have rli:rss[i].length=ws.length:=by rw[← erw];exact rw6 i (by omega)
     have fc:=s3 _ _ sh2.c
     have fp:=s3 _ _ hp2
     have fz:=s3 _ _ hz2
     have f1:=s3 _ _ e1
     have f3:=s3 _ _ e3
     have frp:=s3 _ _ hrp
     have fl:=s3 _ _ hl'
     have fA:=hA'.ts (TS.of s3)
     rw[Int.zero_add]
     simp only[gName_ap,tYes,if_true]
     k_extra "rx"
     refine⟨rc,kc,rp,l',pc,cs[i].rk,cs[i].hp,ps[i],as,rss[i],k,rfl,f1,f3,frp,fl,fA,hk,h12,fun b H4 s4 hb4=>⟨s4 _ _ hl3,small1000 (by rw[List.length_map];omega),bs++[b],by rw[List.map_append];rfl,by rw[List.length_append,bl];rfl,fun j hj=>?_,same_put hl (s3.trans s4),upd_same⟩⟩
     by_cases e:j < i
     ·have:(bs++[b]).getD j false=bs.getD j false:=by rw[List.getD_eq_getElem?_getD,List.getElem?_append_left (by omega),List.getD_eq_getElem?_getD]
      rw[this]
      exact hb j e
     ·have ej:j=i:=by omega
      subst ej
      have:(bs++[b]).getD j false=b:=by rw[List.getD_eq_getElem?_getD,List.getElem?_append_right (by omega)];simp[bl]
      rw[this,ep,erw,eh,← rli]
      exact hb4
    ·rintro acc H3 ⟨bs,rfl,bl,hb,s3,hl3⟩
     rw[Int.toNat_natCast,hxl] at bl hb
     refine⟨l,bs,rfl,hl3,?_⟩
     have iff:bs.all id=true↔∀ j,j < cs.length→gdRow ws.length (heapP cs j) (ps.getD j (0,1)) (rss.getD j []):=by
      rw[List.all_eq_true]
      constructor
      ·intro h j hj
       refine (hb j hj).mp ?_
       have e:bs.getD j false=bs[j]:=by simp[List.getD_eq_getElem?_getD,show j < bs.length by omega]
       rw[e]
       exact h _ (List.getElem_mem _)
      ·intro h b hbm
       obtain⟨j,hj,rfl⟩:=List.getElem_of_mem hbm
       have e:bs.getD j false=bs[j]:=by simp[List.getD_eq_getElem?_getD,hj]
       show bs[j]=true
       rw[← e]
       exact (hb j (by omega)).mpr (h j (by omega))
     generalize bs.all id=b0 at iff ⊢
     have s03:=s2.trans s3
     refine⟨_,rfl,brkNB (fun h3=>?_) (fun h3=>?_)⟩
     ·k_extra "rx"
      refine hQ false H3 s03 ⟨(fun z=>nomatch z),fun zz=>?_⟩
      rw[iff.mpr zz.2.1] at h3
      cases h3
     ·have inv:=iff.mp h3
      have shw3:=s3 _ _ sh2.w
      have hz3:=s3 _ _ hz2
      have hZ3:=hZ2.same s3
      clear iff h3 hl3 hl hb
      refine i_tNext ?_
      refine⟨_,rfl,w,_,rfl,seqAt_lst shw3,_,rfl,by omega,by omega,for_rangeN (lo:=0) (n:=(((ws.map V.int).length:Nat):Int).toNat) (fun j σ H'=>∃ v4,σ=[some (.ref w),some (.ref c),some (.ref p),some (.ref z),v4]∧Same H3 H'∧∀ f,f < j→¬ ws.getD f 0*(sumP (colP rss f)).2 < (sumP (colP rss f)).1*1) ⟨_,rfl,fun _ _ h=>h,fun f hf=>by omega⟩ ?_ ?_⟩
      ·rintro f σ H4 NN BB hf0 ⟨v4,rfl,s4,inv2⟩ kN kB
       clear kB
       have hf:f < ws.length:=by omega
       have aw:atI (ws.map V.int) (f:Int)=some (.int ws[f]):=atI_nat (by rw[List.getElem?_map,List.getElem?_eq_getElem hf];rfl)
       have hw4:=s4 _ _ shw3
       have hz4:=s4 _ _ hz3
       have hZ4:=hZ3.same s4
       have ew:ws.getD f 0=ws[f]:=by simp[List.getD_eq_getElem?_getD,hf]
       have wzf:=wz _ (List.getElem_mem hf)
       refine i_gName ?_
       rw[Int.zero_add]
       k_extra "rx"
       refine i_NewO (Nat.le_of_ble_eq_true rfl) fun t H5 _ s5 ht=>?_
       have hz5:=s5 _ _ hz4
       have hZ5:=hZ4.same s5
       k_extra "rx"
       refine⟨_,rfl,z,rfl,⟨_,SqL.of hz5⟩,fun l hl=>?_⟩
       refine comp_listR (K:=K) (a:=z) (xs:=zs) (fun i acc H6=>Same H5 H6∧H6 l=some (.lst acc)∧RowU UM k H6 acc (colP (rss.take i) f)) ⟨Same.new hl,upd_same,RowU.nil⟩ (fun i acc H6 _ ⟨s6,_,_⟩=>SqL.of (s6 _ _ hz5)) ?_ ?_
       ·rintro i y acc H6 hy ⟨s6,hl6,hA⟩
        have hi:i < rss.length:=by rw[← hzl];exact (List.getElem?_eq_some_iff.mp hy).1
        obtain⟨l',as,el,hl',hA',h12⟩:=hZ5.2 i rss[i] (List.getElem?_eq_getElem hi)
        rw[el] at hy
        cases hy
        have erw:rss.getD i []=rss[i]:=by simp[List.getD_eq_getElem?_getD,hi]
        have rli:rss[i].length=ws.length:=by rw[← erw];exact rw6 i hi
        have hf2:f < rss[i].length:=by omega
        obtain⟨rp,er,hrp,po⟩:=hA'.2 f rss[i][f] (List.getElem?_eq_getElem hf2)
        have a1:atI as (f:Int)=some (.ref rp):=atI_nat er
        have ec:colP (rss.take (i+1)) f=colP (rss.take i) f++[rss[i][f]]:=by
         unfold colP
         rw[take_map_succ _ hi]
         simp[List.getD_eq_getElem?_getD,hf2]
        rw[ec]
        have len:acc.length≤16:=by
         rw[hA.1]
         unfold colP
         rw[List.length_map,List.length_take]
         omega
        have k1:=s6 _ _ hl'
        have k2:=s6 _ _ hrp
        generalize rss[i][f]=P0 at k2 po ⊢
        generalize colP (rss.take i) f=A' at hA ⊢
        clear hrp er hl' hA' el ec
        simp only[gName_ap,tYes,if_true]
        k_extra "rx"
        have np:rp≠l:=fun zz=>by rw[zz,hl6] at k2;cases k2
        exact⟨hl6,small1000 (by omega),same_put hl s6,upd_same,(hA.ts (TS.lst hl6)).snoc (by rw[upd_ne np];exact k2) po⟩
       ·rintro acc H6 ⟨s6,hl6,hA⟩
        rw[hzl,List.take_length] at hA
        have cl:(colP rss f).length≤16:=by unfold colP;rw[List.length_map];omega
        refine⟨l,acc,_,UM,k,rfl,hl6,um_ok,hA,hk,cl,fun q2 H7 s7 hq7=>?_⟩
        have sp:=sum_pt um_ok.pos hA.mem
        have s57:=s6.trans s7
        k_extra "rx"
        refine⟨t,q2,_,_,_,_,rfl,s57 _ _ ht,hq7,wzf.mono (by decide),by decide,(sp.nsz um_ok.pos).mono (by omega),(sp.toOk.usz um_ok).mono (by decide),?_⟩
        have s37:=(s4.trans s5).trans s57
        refine⟨_,rfl,brkD (fun h2=>?_) (fun h2=>?_)⟩
        ·k_extra "rx"
         refine hQ false H7 (s03.trans s37) ⟨(fun z=>nomatch z),fun zz=>?_⟩
         have:=zz.2.2 f hf
         rw[ew] at this
         exact absurd h2 this
        ·refine i_tNext ?_
         refine kN _ _ ⟨_,rfl,s37,fun g hg=>?_⟩
         by_cases e:g < f
         ·exact inv2 g e
         ·rw[show g=f by omega,ew]
          exact h2
      ·rintro σ H4 ⟨v4,rfl,s4,inv2⟩
       rw[Int.toNat_natCast,wl] at inv2
       k_extra "rx"
       exact hQ true H4 (s03.trans s4) ⟨fun _=>⟨rl,inv,inv2⟩,fun _=>rfl⟩
theorem ok__law_bent(D:DefAt K mg "_law_bent" s__law_bent f fd)(T:Txt K mg cx)(d__law_pull:DefOk P w K mg base CX0 1 "_law_pull" ["_law_bag_here","_law_many_here"] sp__law_pull)(d__law_low:DefOk P w K mg base CX0 2 "_law_low" ["_law_number","_law_under"] sp__law_low)(d__law_less:DefOk P w K mg base CX0 3 "_law_less" ["_law_one","_law_other"] sp__law_less)(d__law_plus:DefOk P w K mg base CX0 3 "_law_plus" ["_law_one","_law_other"] sp__law_plus)(d__law_times:DefOk P w K mg base CX0 3 "_law_times" ["_law_one","_law_other"] sp__law_times):DefOk P w K mg base CX0 4 "_law_bent" ["_law_bag_here","_law_worths","_law_parts","_law_rows"] sp__law_bent:=by
 refine D.ok (D.q sc__law_bent (fun vs H Q E h=>?_) (fun cdv A outer s H vs Q E hr h=>?_)) (D.fn.binds fun _ _ _ _ _ _ us hl=>match us,hl with | [_,_,_,_],_=>rfl)
 ·obtain⟨_,_,_,_,_,_,_,_,_,_,_,_,_,_,rfl,_⟩:=h
  rfl
 obtain⟨B,L,W,C,P,Z,t,ws,xs,cs,ys,ps,zs,rss,rfl,t2,x0,hQ⟩:=h
 refine⟨_,(qss_cons (qs_set (i:=4) sc__law_bent.nd rfl (Or.inl rfl) (qe_d d__law_pull hr.le pass0 (by rfl) (qa_cons (qv 0) (qa_cons qe_int qa_nil))))
   (qss_cons (qs_set (i:=5) sc__law_bent.nd rfl (Or.inl rfl) (qe_callB call_lenF (by rfl) T.n_len bt_len (qa_cons (qv 1) qa_nil)))
   (qss_cons (qs_set (i:=6) sc__law_bent.nd rfl (Or.inl rfl) (qe_d d__law_pull hr.le pass0 (by rfl) (qa_cons (qv 0) (qa_cons (qe_callB (call_max2 rfl) (by rfl) T.n_max bt_max (qa_cons qe_int (qa_cons (qe_callB call_lenF (by rfl) T.n_len bt_len (qa_cons (qv 3) qa_nil)) qa_nil))) qa_nil))))
   (qss_cons (qs_set (i:=7) sc__law_bent.nd rfl (Or.inl rfl) (qe_d d__law_low hr.le pass0 (by rfl) (qa_cons (qe_op op_add qe_int (qe_d d__law_pull hr.le pass0 (by rfl) (qa_cons (qv 0) (qa_cons qe_int qa_nil)))) (qa_cons (qe_op op_add qe_int (qe_d d__law_pull hr.le pass0 (by rfl) (qa_cons (qv 0) (qa_cons qe_int qa_nil)))) qa_nil))))
   (qss_cons (qs_if (qw_and (qt_cmpR op_lt (qv 4) qe_int (nomark _)) (qw_and (qt_cmpR op_gt (qv 5) qe_int (nomark _)) (qw_and (qt_cmpR (op_neD hr.units) (qv 3) (qe_lst qa_nil) (nomark _)) (qw_and1 (qt_cmpR op_eq (qe_callB call_lenF (by rfl) T.n_len bt_len (qa_cons (qe_ix ix_seqA (qv 3) (qv 6) (fun _ _=>rfl)) qa_nil)) (qv 5) (nomark _)))))).pt (qss_cons (qs_set (i:=8) sc__law_bent.nd rfl (Or.inl rfl) (qe_d d__law_pull hr.le pass0 (by rfl) (qa_cons (qv 0) (qa_cons (qv 5) qa_nil))))
   (qss_cons (qs_asg (qe_d d__law_less hr.le pass0 (by rfl) (qa_cons (qe_ix ix_seqA (qe_ix ix_seqA (qv 3) (qv 6) (fun _ _=>rfl)) (qv 8) (fun _ _=>rfl)) (qa_cons (qv 7) qa_nil))) (qg_sub (qe_ix ix_seqA (qv 3) (qv 6) (fun _ _=>rfl)) (qv 8) set_list))
   (qss_cons (qs_set (i:=8) sc__law_bent.nd rfl (Or.inl rfl) (qe_d d__law_pull hr.le pass0 (by rfl) (qa_cons (qv 0) (qa_cons (qv 5) qa_nil))))
   (qss_one (qs_if (qt_cmpR op_eq (qv 4) qe_int (nomark _)) (qss_one (qs_asg (qe_d d__law_plus hr.le pass0 (by rfl) (qa_cons (qe_ix ix_seqA (qe_ix ix_seqA (qv 3) (qv 6) (fun _ _=>rfl)) (qv 8) (fun _ _=>rfl)) (qa_cons (qv 7) qa_nil))) (qg_sub (qe_ix ix_seqA (qv 3) (qv 6) (fun _ _=>rfl)) (qv 8) set_list))) qss_nil))))) qss_nil)
   (qss_cons (qs_if (qw_and (qt_cmpR op_eq (qv 4) qe_int (nomark _)) (qw_and1 (qt_cmpR (op_neD hr.units) (qv 3) (qe_lst qa_nil) (nomark _)))).pt (qss_one (qs_expr (qe_bmK (K:=K) rfl PySem.F.plainAttrs_list PySem.F.slot_list_pop PySem.F.type_list_pop mt_popAt (qv 3) (qa_cons (qv 6) qa_nil)))) qss_nil)
   (qss_cons (qs_if (qw_and (qt_cmpR op_eq (qv 4) qe_int (nomark _)) (qw_and1 (qt_cmpR (op_neD hr.units) (qv 3) (qe_lst qa_nil) (nomark _)))).pt (qss_one (qs_asg (qe_ix ix_seqA (qe_lst (qa_cons (qe_op op_cat (qe_ix ix_seqA (qv 3) (qv 6) (fun _ _=>rfl)) (qe_lst (qa_cons (qe_tup (qa_cons qe_int (qa_cons qe_int qa_nil))) qa_nil))) (qa_cons (qe_slice sl_list (qe_ix ix_seqA (qv 3) (qv 6) (fun _ _=>rfl)) qo_none (qo_some (qe_un un_neg qe_int))) (qa_cons (qe_lst qa_nil) qa_nil)))) (qe_d d__law_pull hr.le pass0 (by rfl) (qa_cons (qv 0) (qa_cons qe_int qa_nil))) (fun _ _=>rfl)) (qg_sub (qv 3) (qv 6) set_list))) qss_nil)
   (qss_cons (qs_if (qw_and (qt_cmpR op_eq (qv 4) qe_int (nomark _)) (qw_and1 (qt_cmpR op_gt (qv 5) qe_int (nomark _)))).pt (qss_cons (qs_set (i:=8) sc__law_bent.nd rfl (Or.inl rfl) (qe_d d__law_pull hr.le pass0 (by rfl) (qa_cons (qv 0) (qa_cons (qv 5) qa_nil))))
   (qss_one (qs_asg (qe_callB (call_max2 rfl) (by rfl) T.n_max bt_max (qa_cons qe_int (qa_cons (qe_op op_sub (qe_ix ix_seqA (qv 1) (qv 8) (fun _ _=>rfl)) qe_int) qa_nil))) (qg_sub (qv 1) (qv 8) set_list)))) qss_nil)
   (qss_cons (qs_if (qw_and (qt_cmpR op_eq (qv 4) qe_int (nomark _)) (qw_and1 (qt_cmpR op_lt (qv 6) (qe_callB call_lenF (by rfl) T.n_len bt_len (qa_cons (qv 2) qa_nil)) (nomark _)))).pt (qss_one (qs_asg (qe_ix ix_seqA (qe_lst (qa_cons (qe_tup (qa_cons qe_int (qa_cons qe_int qa_nil))) (qa_cons (qe_d d__law_times hr.le pass0 (by rfl) (qa_cons (qe_ix ix_seqA (qv 2) (qv 6) (fun _ _=>rfl)) (qa_cons (qe_tup (qa_cons qe_int (qa_cons qe_int qa_nil))) qa_nil))) qa_nil))) (qe_d d__law_pull hr.le pass0 (by rfl) (qa_cons (qv 0) (qa_cons qe_int qa_nil))) (fun _ _=>rfl)) (qg_sub (qv 2) (qv 6) set_list))) qss_nil)
   (qss_one (qs_if (qt_cmpR op_gt (qv 4) qe_int (nomark _)) (qss_cons (qs_set (i:=9) sc__law_bent.nd rfl (Or.inl rfl) (qe_op op_cat (qe_lst (qa_cons (qe_comp ["_law_worth"] [] rfl (qi_listK (K:=K) rfl (qv 1)) (gext_name (by decide)) (fun cl C fp s2 H2=>⟨(qg_name (i:=0) (show (["_law_worth"]:List Str).Nodup by decide +kernel) rfl (Or.inl rfl)),qf_nil,(qe_tup (qa_cons qe_int (qa_cons qe_int qa_nil)))⟩) rfl (by decide +kernel) (by decide +kernel) (free_of (by rfl)) (fr_of (by rfl))) qa_nil)) (qe_comp ["_law_row"] [] rfl (qi_listK (K:=K) rfl (qv 3)) (gext_name (by decide)) (fun cl C fp s2 H2=>⟨(qg_name (i:=0) (show (["_law_row"]:List Str).Nodup by decide +kernel) rfl (Or.inl rfl)),qf_nil,(qe_callTy call_listF (by rfl) T.n_list bt_list (qa_cons (qv 0) qa_nil))⟩) rfl (by decide +kernel) (by decide +kernel) (free_of (by rfl)) (fr_of (by rfl)))))
   (qss_one (qs_expr (qe_bmK (K:=K) rfl PySem.F.plainAttrs_list PySem.F.slot_list_insert PySem.F.type_list_insert mt_insert (qv 3) (qa_cons (qe_ix ix_seqA (qe_lst (qa_cons (qv 6) (qa_cons (qe_callB call_lenF (by rfl) T.n_len bt_len (qa_cons (qv 3) qa_nil)) qa_nil))) (qe_d d__law_pull hr.le pass0 (by rfl) (qa_cons (qv 0) (qa_cons qe_int qa_nil))) (fun _ _=>rfl)) (qa_cons (qe_ix ix_seqA (qv 9) (qe_op op_mulB (qe_d d__law_pull hr.le pass0 (by rfl) (qa_cons (qv 0) (qa_cons qe_int qa_nil))) (qe_d d__law_pull hr.le pass0 (by rfl) (qa_cons (qv 0) (qa_cons (qe_callB call_lenF (by rfl) T.n_len bt_len (qa_cons (qv 9) qa_nil)) qa_nil)))) (fun _ _=>rfl)) qa_nil)))))) qss_nil))))))))))),?_⟩
 k_extra "rx"
 refine⟨B,9,L,rfl,x0.b,by decide,by decide,fun way H1 wy0 wy1 b1 f1=>?_⟩
 have x1:=x0.pull f1 b1
 clear x0 f1 b1
 have x1w:=x1.w
 have x1z:=x1.z
 have zl:=x1.hZ.1
 have rn:=x1.rn
 have w6:=x1.w6
 k_extra "rx"
 refine⟨1,_,rfl,?_⟩
 k_extra "rx"
 rw[List.length_map]
 refine⟨B,_,L,rfl,x1.b,by split<;>omega,?_,fun a' H2 a0 a1 b2 f2=>?_⟩
 ·split
  ·exact Sz.mono (j:=6) (Sz.of (by omega)) (by decide)
  ·decide
 obtain⟨a,rfl⟩:∃ a:Nat,a'=(a:Int):=⟨a'.toNat,by omega⟩
 have ha:a < max 1 rss.length:=by split at a1<;>omega
 have x2:=x1.pull f2 b2
 clear x1 f2 b2 a0 a1 x1w x1z
 k_extra "rx"
 refine⟨B,3,L,rfl,x2.b,by decide,by decide,fun n H3 n0 n1 b3 f3=>?_⟩
 have x3:=x2.pull f3 b3
 clear x2 f3 b3
 k_extra "rx"
 refine⟨B,3,L,rfl,x3.b,by decide,by decide,fun d H4 d0 d1 b4 f4=>?_⟩
 have x4:=x3.pull f4 b4
 clear x3 f4 b4
 have hb:0 < 1+d:=by omega
 have hb9:Sz 9000 (1+d):=Sz.mono (j:=3) (Sz.of (by omega)) (by decide)
 have so:PtOk UM 115 (low (1+n) (1+d)):=(du_of (by omega) (by omega) (by omega) (by omega)).pt
 k_extra "rx"
 generalize 1+n=n' at so ⊢
 generalize 1+d=d' at hb hb9 so ⊢
 refine⟨n',d',rfl,hb,hb9,fun T hT=>?_⟩
 have s5:=Same.new (o:=.tup [.int (lowN n' d'),.int (lowU n' d')]) hT
 have g5:upd H4 T (.tup [.int (lowN n' d'),.int (lowU n' d')]) T=some (.tup [.int (low n' d').1,.int (low n' d').2]):=upd_same
 generalize upd H4 T (.tup [.int (lowN n' d'),.int (lowU n' d')])=H5 at s5 g5 ⊢
 have x5:=x4.same s5
 clear x4 s5 hT n0 n1 d0 d1
 clear hb hb9
 generalize low n' d'=stp' at g5 so
 refine i_gName ?_
 dsimp only
 refine seq_cut (fun σ' H'=>∃ ws1 ys1 ps1 zs1 rss1 v8 v9,σ'=[some (.ref B),some (.ref W),some (.ref P),some (.ref Z),some (.int way),some (.int (ws.length:Int)),some (.int (a:Int)),some (.ref T),v8,v9]∧Tz B L W C P Z (t+1) ws1 xs cs ys1 ps1 zs1 rss1 H'∧(2≤way→Tz B L W C P Z t ws xs cs ys ps zs rss H')) ?_ fun tb1 key1=>?_
 ·clear x5 g5 so
  rintro σ' H1 ⟨ws1,ys1,ps1,zs1,rss1,v8,v9,rfl,y1,o1⟩
  refine seq_cut (fun σ' H'=>∃ ws1 ys1 ps1 zs1 rss1 v8 v9,σ'=[some (.ref B),some (.ref W),some (.ref P),some (.ref Z),some (.int way),some (.int (ws.length:Int)),some (.int (a:Int)),some (.ref T),v8,v9]∧Tz B L W C P Z (t+1) ws1 xs cs ys1 ps1 zs1 rss1 H'∧(3≤way→Tz B L W C P Z t ws xs cs ys ps zs rss H')) ?_ fun tb2 key2=>?_
  ·clear y1 o1
   rintro σ' H1 ⟨ws1,ys1,ps1,zs1,rss1,v8,v9,rfl,y1,o1⟩
   refine seq_cut (fun σ' H'=>∃ ws1 ys1 ps1 zs1 rss1 v8 v9,σ'=[some (.ref B),some (.ref W),some (.ref P),some (.ref Z),some (.int way),some (.int (ws.length:Int)),some (.int (a:Int)),some (.ref T),v8,v9]∧Tz B L W C P Z (t+1) ws1 xs cs ys1 ps1 zs1 rss1 H'∧(4≤way→Tz B L W C P Z t ws xs cs ys ps zs rss H')) ?_ fun tb3 key3=>?_
   ·clear y1 o1
    rintro σ' H1 ⟨ws1,ys1,ps1,zs1,rss1,v8,v9,rfl,y1,o1⟩
    refine seq_cut (fun σ' H'=>∃ ws1 ys1 ps1 zs1 rss1 v8 v9,σ'=[some (.ref B),some (.ref W),some (.ref P),some (.ref Z),some (.int way),some (.int (ws.length:Int)),some (.int (a:Int)),some (.ref T),v8,v9]∧Tz B L W C P Z (t+1) ws1 xs cs ys1 ps1 zs1 rss1 H'∧(5≤way→Tz B L W C P Z t ws xs cs ys ps zs rss H')) ?_ fun tb4 key4=>?_
    ·clear y1 o1
     rintro σ' H1 ⟨ws1,ys1,ps1,zs1,rss1,v8,v9,rfl,y1,o1⟩
     refine seq_cut (fun σ' H'=>∃ ws1 ys1 ps1 zs1 rss1 v8 v9,σ'=[some (.ref B),some (.ref W),some (.ref P),some (.ref Z),some (.int way),some (.int (ws.length:Int)),some (.int (a:Int)),some (.ref T),v8,v9]∧Tz B L W C P Z (t+1) ws1 xs cs ys1 ps1 zs1 rss1 H'∧(6≤way→Tz B L W C P Z t ws xs cs ys ps zs rss H')) ?_ fun tb5 key5=>?_
     ·clear y1 o1
      rintro σ' H1 ⟨ws1,ys1,ps1,zs1,rss1,v8,v9,rfl,y1,o1⟩
      k_extra "rx"
      refine brkD (fun h1=>?_) (fun h1=>?_)
      ·have x1:=o1 (by omega)
       have x1w:=x1.w
       k_extra "rx"
       refine⟨_,rfl,W,rfl,⟨_,SqL.of x1w⟩,fun q1 hq1=>?_⟩
       obtain⟨lX1,nz1⟩:=x1.fresh hq1
       refine comp_listR (K:=K) (a:=W) (xs:=ws.map V.int) (fun i acc H2=>Same H1 H2∧H2 q1=some (.lst acc)∧RowU UM (116+4*t) H2 acc (List.replicate i (0,1))) ⟨Same.new hq1,upd_same,RowU.nil⟩ (fun i acc H2 _ ⟨s2,_,_⟩=>SqL.of (s2 _ _ x1w)) ?_ ?_
       ·rintro i y acc H2 hy ⟨s2,hl2,hA⟩
        obtain⟨hi,rfl⟩:=int_at hy
        have len:=hA.1
        rw[List.length_replicate] at len
        rw[List.replicate_succ']
        simp only[gName_ap,tYes,if_true]
        k_extra "rx"
        refine i_NewO (Nat.le_of_ble_eq_true rfl) fun t0 H3 ht0 s3 ht3=>?_
        have l3:=s3 _ _ hl2
        have nt:t0≠q1:=fun z=>by rw[z,hl2] at ht0;cases ht0
        exact⟨l3,small1000 (by omega),same_put hq1 (s2.trans s3),upd_same,((hA.ts (TS.of s3)).ts (TS.lst l3)).snoc (by rw[upd_ne nt];exact ht3) zero_pt⟩
       ·rintro acc H2 ⟨s2,hl2,hA⟩
        rw[List.length_map] at hA
        have x2:=x1.same s2
        clear x1 x1w y1 s2 hq1
        k_extra "rx"
        refine i_NewO (Nat.le_of_ble_eq_true rfl) fun q2 H3 _ s3 hq2=>?_
        have x3:=x2.same s3
        have hl3:=s3 _ _ hl2
        have hA3:=hA.ts (TS.of s3)
        clear x2 hl2 hA s3
        have x3z:=x3.z
        refine⟨_,rfl,Z,rfl,⟨_,SqL.of x3z⟩,fun q3 hq3=>?_⟩
        refine comp_listR (K:=K) (a:=Z) (xs:=zs) (fun i acc H4=>Same H3 H4∧H4 q3=some (.lst acc)∧acc.length=i∧∀ v∈acc,∃ l as r,v=.ref l∧H4 l=some (.lst as)∧RowU UM (116+4*t) H4 as r∧r.length≤6+t∧l∉[B,L,W,C,P,Z]∧V.ref l∉zs∧l≠q3) ⟨Same.new hq3,upd_same,rfl,fun v hv=>by cases hv⟩ (fun i acc H4 _ ⟨s4,_⟩=>SqL.of (s4 _ _ x3z)) ?_ ?_
        ·rintro i y acc H4 hy ⟨s4,hl4,al,hall⟩
         have hi:i < rss.length:=by rw[← zl];exact (List.getElem?_eq_some_iff.mp hy).1
         obtain⟨l,as,el,hl,hA,lX⟩:=x3.hZ.2.2 i rss[i] (List.getElem?_eq_getElem hi)
         have rl6:=x3.rlen _ (List.getElem_mem hi)
         rw[el] at hy
         cases hy
         have k1:=s4 _ _ hl
         have k2:=hA.ts (TS.of s4)
         simp only[gName_ap,tYes,if_true]
         k_extra "rx"
         refine⟨l,as,rfl,seqAt_lst k1,fun q hq=>?_⟩
         obtain⟨qX,qz⟩:=(x3.same s4).fresh hq
         have s5:=Same.new (o:=.lst as) hq
         have g5:upd H4 q (.lst as) q=_:=upd_same
         generalize upd H4 q (.lst as)=H5 at s5 g5 ⊢
         have l5:=s5 _ _ hl4
         have qn:q≠q3:=fun z=>by rw[z,hl4] at hq;cases hq
         refine⟨l5,small1000 (by omega),same_put hq3 (s4.trans s5),upd_same,by rw[List.length_append,al];rfl,fun v hv=>?_⟩
         rcases List.mem_append.mp hv with hv | hv
         ·obtain⟨l',as',r',rfl,h1,h2,h3,h4,h5,h6⟩:=hall v hv
          exact⟨l',as',r',rfl,by rw[upd_ne h6];exact s5 _ _ h1,(h2.ts (TS.of s5)).ts (TS.lst l5),h3,h4,h5,h6⟩
         ·rw[List.mem_singleton.mp hv]
          exact⟨q,as,_,rfl,by rw[upd_ne qn];exact g5,(k2.ts (TS.of s5)).ts (TS.lst l5),rl6,qX,qz,qn⟩
        ·rintro acc2 H4 ⟨s4,hl4,al,hall⟩
         k_extra "rx"
         have x4:=x3.same s4
         have hq24:=s4 _ _ hq2
         have k1:=s4 _ _ hl3
         have k2:=hA3.ts (TS.of s4)
         refine⟨q2,q3,_,_,rfl,rfl,hq24,hl4,Nat.le_trans (show 1+acc2.length≤32 by omega) (by decide),fun q4 hq4=>?_⟩
         have s5:=Same.new (o:=.lst ([V.ref q1]++acc2)) hq4
         have g5:upd H4 q4 (.lst ([V.ref q1]++acc2)) q4=_:=upd_same
         generalize upd H4 q4 (.lst ([V.ref q1]++acc2))=H5 at s5 g5 ⊢
         have x5:=x4.same s5
         have all5:∀ v∈[V.ref q1]++acc2,∃ l as r,v=.ref l∧H5 l=some (.lst as)∧RowU UM (116+4*t) H5 as r∧r.length≤6+t∧l∉[B,L,W,C,P,Z]∧V.ref l∉zs:=fun v hv=>by
          rcases List.mem_append.mp hv with hv | hv
          ·rw[List.mem_singleton.mp hv]
           exact⟨q1,_,_,rfl,s5 _ _ k1,k2.ts (TS.of s5),by rw[List.length_replicate];omega,lX1,nz1⟩
          ·obtain⟨l',as',r',rfl,h1,h2,h3,h4,h5,_⟩:=hall v hv
           exact⟨l',as',r',rfl,s5 _ _ h1,h2.ts (TS.of s5),h3,h4,h5⟩
         have q4B:=x4.b.ne hq4
         have sl:([V.ref q1]++acc2).length=rss.length+1:=by rw[List.length_append,al,zl];exact Nat.add_comm _ _
         generalize [V.ref q1]++acc2=som at g5 all5 sl
         clear hall x4 x3 x3z hq24 hl4 k1 k2 hq2 hl3 hA3 s4 s5 hq3 hq4
         refine i_gName ?_
         dsimp only
         refine i_tBM ?_
         k_extra "rx"
         refine⟨.inl ⟨rfl,_,SqL.of x5.z⟩,?_⟩
         have x5z:=x5.z
         k_extra "rx"
         refine i_NewO (Nat.le_of_ble_eq_true rfl) fun q5 H6 hq5 s6 g6=>?_
         have x6:=x5.same s6
         have q5B:=x5.b.ne hq5
         have g56:=s6 _ _ g5
         have al6:∀ v∈som,∃ l as r,v=.ref l∧H6 l=some (.lst as)∧RowU UM (116+4*t) H6 as r∧r.length≤6+t∧l∉[B,L,W,C,P,Z]∧V.ref l∉zs:=fun v hv=>by
          obtain⟨l',as',r',rfl,h1,h2,h3,h4,h5⟩:=all5 v hv
          exact⟨l',as',r',rfl,s6 _ _ h1,h2.ts (TS.of s6),h3,h4,h5⟩
         clear x5 x5z all5 g5 s6 hq5
         have up:∀ H' H'',Fr1 B H' H''→BagAt H' B L→(∀ v∈som,∃ l as r,v=.ref l∧H' l=some (.lst as)∧RowU UM (116+4*t) H' as r∧r.length≤6+t∧l∉[B,L,W,C,P,Z]∧V.ref l∉zs)→∀ v∈som,∃ l as r,v=.ref l∧H'' l=some (.lst as)∧RowU UM (116+4*t) H'' as r∧r.length≤6+t∧l∉[B,L,W,C,P,Z]∧V.ref l∉zs:=fun H' H'' f b hh v hv=>by
          obtain⟨l',as',r',rfl,h1,h2,h3,h4,h5⟩:=hh v hv
          exact⟨l',as',r',rfl,f _ _ (fun z=>h4 (by rw[z];simp)) h1,h2.ts (TS.fr b f),h3,h4,h5⟩
         k_extra "rx"
         refine⟨B,2,L,rfl,x6.b,by decide,by decide,fun k H7 k0 k1 b7 f7=>?_⟩
         have x7:=x6.pull f7 b7
         have g57:=f7 _ _ q4B g56
         have g67:=f7 _ _ q5B g6
         have al7:=up _ _ f7 x6.b al6
         clear x6 al6 g56 g6 f7 b7
         obtain⟨i,ei,hi⟩:∃ i:Nat,atI [V.int (a:Int),V.int (zs.length:Int)] k=some (.int (i:Int))∧i≤rss.length:=by
          rcases (by omega:k=0∨k=1) with rfl | rfl
          ·exact⟨a,rfl,by omega⟩
          ·exact⟨zs.length,rfl,by omega⟩
         refine i_ixL g67 ei ?_
         k_extra "rx"
         refine⟨B,2,L,rfl,x7.b,by decide,by decide,fun d H8 d0 d1 b8 f8=>?_⟩
         have x8:=x7.pull f8 b8
         have g58:=f8 _ _ q4B g57
         have al8:=up _ _ f8 x7.b al7
         clear x7 al7 g57 g67 f8 b8
         k_extra "rx"
         refine⟨B,_,L,rfl,x8.b,by omega,Sz.mono (j:=6) (Sz.of (by omega)) (by decide),fun d2 H9 c0 c1 b9 f9=>?_⟩
         have x9:=x8.pull f9 b9
         have g59:=f9 _ _ q4B g58
         have al9:=up _ _ f9 x8.b al8
         clear x8 al8 g58 f9 b9
         have om:IntMulOk d d2:=(Sz.of (k:=2) (by omega):Sz 2 d).ok (Sz.of (k:=6) (by omega)) (by decide)
         have dd:0≤d*d2∧d*d2 < (som.length:Int):=by
          rcases (by omega:d=0∨d=1) with rfl | rfl<;>omega
         refine⟨d,d2,rfl,rfl,om,?_⟩
         obtain⟨j,ej⟩:∃ j:Nat,d*d2=(j:Int):=⟨(d*d2).toNat,by omega⟩
         have hj:j < som.length:=by omega
         obtain⟨l',as',r',e',hl',hR',hn',lX',nz'⟩:=al9 som[j] (List.getElem_mem hj)
         show rIxF (V.ref q4) (V.int (d*d2)) _ _
         rw[ej]
         have as1:atI som (j:Int)=some (.ref l'):=atI_nat (by rw[List.getElem?_eq_getElem hj,e'])
         refine i_ixL g59 as1 ?_
         k_extra "rx"
         refine⟨Z,zs,(i:Int),_,rfl,rfl,x9.z,by omega,by omega,by omega,?_⟩
         rw[Int.toNat_natCast]
         have ts10:=TS.lst (o:=.lst (zs.take i++.ref l'::zs.drop i)) x9.z
         exact hQ _ _ _ _ _ _ (x9.up.insR Fr1.upd hi upd_same nz' lX' (by rw[upd_ne (fun z=>lX' (by rw[z];simp))];exact hl') ((hR'.mono (by omega)).ts ts10) (by omega) (by omega))
      ·refine i_tNext ?_
       k_extra "rx"
       exact hQ _ _ _ _ _ _ y1
     ·k_extra "rx"
      refine⟨rfl,?_⟩
      refine⟨_,rfl,brkD (fun h1=>?_) (fun h1=>?_)⟩
      ·have h1:way=5:=V.int.inj h1
       have x1:=o1 (by omega)
       have x1p:=x1.p
       k_extra "rx"
       refine brkD (fun h2=>?_) (fun h2=>?_)
       ·have hyl:=x1.hP.1
        have hpa:a < ps.length:=by omega
        obtain⟨rp,er,hrp⟩:=x1.hP.2 a ps[a] (List.getElem?_eq_getElem hpa)
        have ap:atI ys (a:Int)=some (.ref rp):=atI_nat er
        have pz:=x1.psz _ (List.getElem_mem hpa)
        generalize ps[a]=P0 at hrp pz
        k_extra "rx"
        refine i_NewO (Nat.le_of_ble_eq_true rfl) fun q1 H2 _ s2 hq1=>?_
        have x2:=x1.same s2
        have x2p:=x2.p
        have hrp2:=s2 _ _ hrp
        clear x1 x1p y1 hrp s2
        k_extra "rx"
        refine i_NewO (Nat.le_of_ble_eq_true rfl) fun q2 H3 _ s3 hq2=>?_
        have x3:=x2.same s3
        have hq13:=s3 _ _ hq1
        have hrp3:=s3 _ _ hrp2
        clear x2 x2p hrp2 hq1 s3
        k_extra "rx"
        refine⟨rp,q2,_,_,_,_,rfl,hrp3,hq2,pz.1,by decide,pz.2.1.mono (by omega),pz.2.2.mono (by omega),by decide,by decide,fun q3 hq3=>?_⟩
        have s4:=Same.new (o:=.tup [.int (lowN (P0.1*1) (P0.2*2)),.int (lowU (P0.1*1) (P0.2*2))]) hq3
        have g4:upd H3 q3 (.tup [.int (lowN (P0.1*1) (P0.2*2)),.int (lowU (P0.1*1) (P0.2*2))]) q3=some (.tup [.int (low (P0.1*1) (P0.2*2)).1,.int (low (P0.1*1) (P0.2*2)).2]):=upd_same
        generalize upd H3 q3 (.tup [.int (lowN (P0.1*1) (P0.2*2)),.int (lowU (P0.1*1) (P0.2*2))])=H4 at s4 g4 ⊢
        have nz:0 < (low (P0.1*1) (P0.2*2)).2∧Sz (300+4*(t+1)) (low (P0.1*1) (P0.2*2)).1∧Sz (300+4*(t+1)) (low (P0.1*1) (P0.2*2)).2:=⟨low_pos (by omega),Sz.le ((pz.2.1.mul (by decide:Sz 1 1)).mono (by omega)) (natAbs_div_le _ _),Sz.le ((pz.2.2.mul (by decide:Sz 2 2)).mono (by omega)) (natAbs_div_le _ _)⟩
        generalize low (P0.1*1) (P0.2*2)=X at g4 nz
        have x4:=x3.same s4
        have hq14:=s4 _ _ hq13
        clear x3 hq13 hq2 hrp3 s4 hq3
        k_extra "rx"
        refine i_NewO (Nat.le_of_ble_eq_true rfl) fun q4 H5 n5 s5 hq4=>?_
        have x5:=x4.same s5
        have hq15:=s5 _ _ hq14
        have g5:=s5 _ _ g4
        have q4B:=x4.b.ne n5
        clear x4 hq14 g4 s5
        k_extra "rx"
        refine⟨B,2,L,rfl,x5.b,by decide,by decide,fun k H6 k0 k1 b6 f6=>?_⟩
        have x6:=x5.pull f6 b6
        have ts6:=TS.fr x5.b f6
        have hq46:=f6 _ _ q4B hq4
        obtain⟨rm,X2,em,hm,hz2⟩:∃ rm X2,atI [V.ref q1,V.ref q3] k=some (.ref rm)∧H6 rm=some (.tup [.int (X2:Int×Int).1,.int X2.2])∧0 < X2.2∧Sz (300+4*(t+1)) X2.1∧Sz (300+4*(t+1)) X2.2:=by
         rcases (by omega:k=0∨k=1) with rfl | rfl
         ·exact⟨q1,(0,1),rfl,ts6 _ _ hq15,by decide,Sz.mono (j:=1) (by decide) (by omega),Sz.mono (j:=1) (by decide) (by omega)⟩
         ·exact⟨q3,X,rfl,ts6 _ _ g5,nz⟩
        refine i_ixL hq46 em ?_
        k_extra "rx"
        refine i_setN (k:=a) x6.p (ixN_nat (by omega)) rfl fun H7 g7 f7=>?_
        have ts7:=TS.frl x6.p f7
        refine key5 _ _ ⟨_,_,_,_,_,_,_,rfl,x6.up.putP f7 g7 ((x6.hP.ts ts7).set (ts7 _ _ hm)) (List.length_set ..) (fun y hy=>?_),fun z=>by omega⟩
        rcases List.mem_or_eq_of_mem_set hy with hy | rfl
        ·exact x6.up.psz y hy
        ·exact hz2
       ·refine i_tNext ?_
        exact key5 _ _ ⟨_,_,_,_,_,_,_,rfl,y1,fun _=>x1⟩
      ·refine i_tNext ?_
       exact key5 _ _ ⟨_,_,_,_,_,_,_,rfl,y1,fun z=>o1 (by omega)⟩
    ·k_extra "rx"
     refine⟨rfl,?_⟩
     refine⟨_,rfl,brkD (fun h1=>?_) (fun h1=>?_)⟩
     ·have h1:way=4:=V.int.inj h1
      have x1:=o1 (by omega)
      k_extra "rx"
      refine brkD (fun h2=>?_) (fun h2=>?_)
      ·k_extra "rx"
       refine⟨B,_,L,rfl,x1.b,by omega,Sz.mono (j:=6) (Sz.of (by omega)) (by decide),fun p' H2 p0 p1 b2 f2=>?_⟩
       obtain⟨p,rfl⟩:∃ p:Nat,p'=(p:Int):=⟨p'.toNat,by omega⟩
       have x2:=x1.pull f2 b2
       have x2w:=x2.w
       have hp:p < ws.length:=by omega
       have aw:atI (ws.map V.int) (p:Int)=some (.int ws[p]):=atI_nat (by rw[List.getElem?_map,List.getElem?_eq_getElem hp];rfl)
       have wz:=x2.wsz _ (List.getElem_mem hp)
       clear x1 y1 f2 b2
       generalize ws[p]=wp at aw wz
       k_extra "rx"
       refine⟨0,_,rfl,?_⟩
       k_extra "rx"
       refine i_setN (k:=p) x2.w (ixN_nat (by rw[List.length_map];exact hp)) List.map_set.symm fun H3 g3 f3=>?_
       refine key4 _ _ ⟨_,_,_,_,_,_,_,rfl,(x2.putW f3 g3 (List.length_set ..) fun y hy=>?_).up,fun z=>by omega⟩
       rcases List.mem_or_eq_of_mem_set hy with hy | rfl
       ·exact x2.wsz y hy
       ·split
        ·exact⟨by omega,Sz.le wz.2 (by omega)⟩
        ·exact⟨by omega,by decide⟩
      ·refine i_tNext ?_
       exact key4 _ _ ⟨_,_,_,_,_,_,_,rfl,y1,fun _=>x1⟩
     ·refine i_tNext ?_
      exact key4 _ _ ⟨_,_,_,_,_,_,_,rfl,y1,fun z=>o1 (by omega)⟩
   ·k_extra "rx"
    refine⟨rfl,?_⟩
    refine⟨_,rfl,brkD (fun h1=>?_) (fun h1=>?_)⟩
    ·have h1:way=3:=V.int.inj h1
     have x1:=o1 (by omega)
     k_extra "rx"
     refine i_NewO (by decide) fun e H2 _ s2 he=>?_
     have x2:=x1.same s2
     have y2:=y1.same s2
     refine⟨.lst (rss.map fun r=>Dt.lst (r.map pD)),.lst [],den_lst x2.z (x2.rs (by omega)).dens,den_lst he dens0,fun _ j d e h1 h2=>by simp at h2,?_⟩
     refine⟨_,rfl,brk (fun h3=>?_) (fun h3=>?_)⟩
     ·have hpos:0 < rss.length:=by
       rcases Nat.eq_zero_or_pos rss.length with z | z
       ·exfalso
        have z2:rss=[]:=List.length_eq_zero_iff.mp z
        simp[z2] at h3
       ·exact z
      have ha2:a < rss.length:=by omega
      clear h3 he
      obtain⟨l,as,el,hl,hA,lX⟩:=x2.hZ.2.2 a rss[a] (List.getElem?_eq_getElem ha2)
      have x2z:=x2.z
      have al:atI zs (a:Int)=some (.ref l):=atI_nat el
      have hal:=hA.1
      have rl6:=x2.rlen _ (List.getElem_mem ha2)
      generalize rss[a]=row0 at hA hal rl6
      k_extra "rx"
      refine i_NewO (Nat.le_of_ble_eq_true rfl) fun q1 H3 _ s3 hq1=>?_
      have x3:=x2.same s3
      have hl3:=s3 _ _ hl
      have hA3:=hA.ts (TS.of s3)
      clear x1 y1 y2 x2 x2z hl hA s3 s2
      k_extra "rx"
      refine i_NewO (Nat.le_of_ble_eq_true rfl) fun q2 H4 _ s4 hq2=>?_
      have x4:=x3.same s4
      have hl4:=s4 _ _ hl3
      have hA4:=hA3.ts (TS.of s4)
      have hq14:=s4 _ _ hq1
      clear x3 hl3 hA3 hq1 s4
      refine⟨l,q2,as,[.ref q1],rfl,rfl,hl4,hq2,Nat.le_trans (show as.length+1≤32 by omega) (by decide),fun q3 hq3=>?_⟩
      obtain⟨lX3,nz3⟩:=x4.fresh hq3
      have hR3:=(hA4.snoc hq14 (zero_pt (U:=UM) (k:=116+4*t))).ts (TS.of (Same.new (o:=.lst (as++[.ref q1])) hq3))
      have s5:=Same.new (o:=.lst (as++[.ref q1])) hq3
      have g5:upd H4 q3 (.lst (as++[.ref q1])) q3=_:=upd_same
      generalize upd H4 q3 (.lst (as++[.ref q1]))=H5 at s5 g5 hR3 ⊢
      have x5:=x4.same s5
      have hl5:=s5 _ _ hl4
      have hA5:=hA4.ts (TS.of s5)
      have x5z:=x5.z
      clear x4 hl4 hA4 hq14 hq2 s5 hq3
      k_extra "rx"
      unfold tSl
      k_extra "rx"
      refine⟨1,rfl,-1,rfl,l,as,rfl,SqL.of hl5,fun q4 hq4=>?_⟩
      obtain⟨lX4,nz4⟩:=x5.fresh hq4
      obtain⟨row4,hR4,hr4⟩:=hA5.cut none (some (-1))
      have s6:=Same.new (o:=.lst (cutV as none (some (-1)))) hq4
      have g6:upd H5 q4 (.lst (cutV as none (some (-1)))) q4=_:=upd_same
      generalize upd H5 q4 (.lst (cutV as none (some (-1))))=H6 at s6 g6 ⊢
      have x6:=x5.same s6
      have g56:=s6 _ _ g5
      have hR36:=hR3.ts (TS.of s6)
      have hR46:=hR4.ts (TS.of s6)
      clear x5 x5z hl5 hA5 g5 hR3 hR4 s6 hq4
      k_extra "rx"
      refine i_NewO (by decide) fun q5 H7 hq5 s7 g7=>?_
      obtain⟨lX5,nz5⟩:=x6.fresh hq5
      have x7:=x6.same s7
      have g57:=s7 _ _ g56
      have g67:=s7 _ _ g6
      have hR37:=hR36.ts (TS.of s7)
      have hR47:=hR46.ts (TS.of s7)
      clear x6 g56 g6 hR36 hR46 s7 hq5
      k_extra "rx"
      refine i_NewO (Nat.le_of_ble_eq_true rfl) fun q6 H8 hq6 s8 g8=>?_
      have x8:=x7.same s8
      have q6B:=x7.b.ne hq6
      have g58:=s8 _ _ g57
      have g68:=s8 _ _ g67
      have g78:=s8 _ _ g7
      have hR38:=hR37.ts (TS.of s8)
      have hR48:=hR47.ts (TS.of s8)
      clear x7 g57 g67 g7 hR37 hR47 s8 hq6
      k_extra "rx"
      refine⟨B,3,L,rfl,x8.b,by decide,by decide,fun k H9 k0 k1 b9 f9=>?_⟩
      have x9:=x8.pull f9 b9
      have ts9:=TS.fr x8.b f9
      have hq9:=f9 _ _ q6B g8
      obtain⟨l',as',r',em,hl',hR',hn',lX',nz'⟩:∃ l' as' r',atI [V.ref q3,V.ref q4,V.ref q5] k=some (.ref l')∧H9 l'=some (.lst as')∧RowU UM (116+4*t) H9 as' r'∧r'.length≤6+(t+1)∧l'∉[B,L,W,C,P,Z]∧V.ref l'∉zs:=by
       have nB:∀ q,q∉[B,L,W,C,P,Z]→q≠B:=fun q h z=>h (by rw[z];simp)
       rcases (by omega:k=0∨k=1∨k=2) with rfl | rfl | rfl
       ·exact⟨q3,_,_,rfl,f9 _ _ (nB _ lX3) g58,hR38.ts ts9,by rw[List.length_append];show row0.length+1≤_;omega,lX3,nz3⟩
       ·exact⟨q4,_,_,rfl,f9 _ _ (nB _ lX4) g68,hR48.ts ts9,by omega,lX4,nz4⟩
       ·exact⟨q5,_,_,rfl,f9 _ _ (nB _ lX5) g78,RowU.nil,by simp,lX5,nz5⟩
      refine i_ixL hq9 em ?_
      k_extra "rx"
      refine i_setN (k:=a) x9.z (ixN_nat (by omega)) rfl fun H10 g10 f10=>?_
      have ts10:=TS.frl x9.z f10
      exact key3 _ _ ⟨_,_,_,_,_,_,_,rfl,x9.up.newR f10 g10 nz' lX' (f10 _ _ (fun z=>lX' (by rw[z];simp)) hl') ((hR'.mono (by omega)).ts ts10) hn',fun z=>by omega⟩
     ·refine i_tNext ?_
      exact key3 _ _ ⟨_,_,_,_,_,_,_,rfl,y2,fun _=>x2⟩
    ·refine i_tNext ?_
     exact key3 _ _ ⟨_,_,_,_,_,_,_,rfl,y1,fun z=>o1 (by omega)⟩
  ·k_extra "rx"
   refine⟨rfl,?_⟩
   refine⟨_,rfl,brkD (fun h1=>?_) (fun h1=>?_)⟩
   ·have h1:way=2:=V.int.inj h1
    have x1:=o1 (by omega)
    k_extra "rx"
    refine i_NewO (by decide) fun e H2 _ s2 he=>?_
    have x2:=x1.same s2
    have y2:=y1.same s2
    refine⟨.lst (rss.map fun r=>Dt.lst (r.map pD)),.lst [],den_lst x2.z (x2.rs (by omega)).dens,den_lst he dens0,fun _ j d e h1 h2=>by simp at h2,?_⟩
    refine⟨_,rfl,brk (fun h3=>?_) (fun h3=>?_)⟩
    ·have hpos:0 < rss.length:=by
      rcases Nat.eq_zero_or_pos rss.length with z | z
      ·exfalso
       have z2:rss=[]:=List.length_eq_zero_iff.mp z
       simp[z2] at h3
      ·exact z
     have ha2:a < rss.length:=by omega
     clear h3 he
     refine i_tBM ?_
     k_extra "rx"
     refine⟨.inl ⟨rfl,_,SqL.of x2.z⟩,?_⟩
     have x2z:=x2.z
     k_extra "rx"
     have ix:=ixN_seq (ixN_nat (show a < zs.length by omega))
     refine⟨Z,zs,(a:Int),a,zs[a],rfl,rfl,x2.z,by omega,by omega,ix.1,List.getElem?_eq_getElem _,?_⟩
     have x3:=x2.pop (i:=a) Fr1.upd upd_same
     exact key2 _ _ ⟨_,_,_,_,_,_,_,rfl,x3.up,fun z=>by omega⟩
    ·refine i_tNext ?_
     exact key2 _ _ ⟨_,_,_,_,_,_,_,rfl,y2,fun _=>x2⟩
   ·refine i_tNext ?_
    exact key2 _ _ ⟨_,_,_,_,_,_,_,rfl,y1,fun z=>o1 (by omega)⟩
 ·k_extra "rx"
  refine brkD (fun h1=>?_) (fun h1=>?_)
  ·k_extra "rx"
   refine brkD (fun h2=>?_) (fun h2=>?_)
   ·k_extra "rx"
    refine i_NewO (by decide) fun e H6 _ s6 he=>?_
    have x6:=x5.same s6
    refine⟨.lst (rss.map fun r=>Dt.lst (r.map pD)),.lst [],den_lst x6.z (x6.rs (by omega)).dens,den_lst he dens0,fun _ j d e h1 h2=>by simp at h2,?_⟩
    refine⟨_,rfl,brk (fun h3=>?_) (fun h3=>?_)⟩
    ·have hpos:0 < rss.length:=by
      rcases Nat.eq_zero_or_pos rss.length with z | z
      ·exfalso
       have z2:rss=[]:=List.length_eq_zero_iff.mp z
       simp[z2] at h3
      ·exact z
     have ha2:a < rss.length:=by omega
     clear h3 he
     obtain⟨l,as,el,hl,hA,lX⟩:=x6.hZ.2.2 a rss[a] (List.getElem?_eq_getElem ha2)
     have x6z:=x6.z
     have al:atI zs (a:Int)=some (.ref l):=atI_nat el
     have hal:=hA.1
     have T6:=s6 _ _ g5
     clear x5 g5 s6
     k_extra "rx"
     refine⟨rfl,?_⟩
     refine⟨_,rfl,brkD (fun h4=>?_) (fun h4=>?_)⟩
     ·have h4:(as.length:Int)=(ws.length:Int):=V.int.inj h4
      k_extra "rx"
      refine⟨B,_,L,rfl,x6.b,by omega,Sz.mono (j:=6) (Sz.of (by omega)) (by decide),fun p' H7 p0 p1 b7 f7=>?_⟩
      obtain⟨p,rfl⟩:∃ p:Nat,p'=(p:Int):=⟨p'.toNat,by omega⟩
      have x7:=x6.pull f7 b7
      have ts7:=TS.fr x6.b f7
      have T7:=ts7 _ _ T6
      have hl7:=f7 _ _ (fun z=>lX (by rw[z];simp)) hl
      have hA7:=hA.ts ts7
      have x7z:=x7.z
      clear x6 x6z T6 hl hA f7 b7 ts7
      have hp:p < rss[a].length:=by omega
      obtain⟨rp,er,hrp,po⟩:=hA7.2 p (rss[a])[p] (List.getElem?_eq_getElem hp)
      have ap:atI as (p:Int)=some (.ref rp):=atI_nat er
      generalize rss[a][p]=P0 at hrp po
      have po':PtOk UM (116+4*t) stp':=so.mono (by omega)
      have lp:=less_pt um_ok.pos po po'
      k_extra "rx"
      refine⟨rp,T,_,_,_,_,rfl,hrp,T7,po.pos,so.pos,(po.nsz um_ok.pos).mono (by omega),(po.toOk.usz um_ok).mono (by decide),(so.nsz um_ok.pos).mono (by decide),(so.toOk.usz um_ok).mono (by decide),fun t8 ht8=>?_⟩
      have s8:=Same.new (o:=.tup [.int (lowN (P0.1*stp'.2 - stp'.1*P0.2) (P0.2*stp'.2)),.int (lowU (P0.1*stp'.2 - stp'.1*P0.2) (P0.2*stp'.2))]) ht8
      have g8:upd H7 t8 (.tup [.int (lowN (P0.1*stp'.2 - stp'.1*P0.2) (P0.2*stp'.2)),.int (lowU (P0.1*stp'.2 - stp'.1*P0.2) (P0.2*stp'.2))]) t8=some (.tup [.int (low (P0.1*stp'.2 - stp'.1*P0.2) (P0.2*stp'.2)).1,.int (low (P0.1*stp'.2 - stp'.1*P0.2) (P0.2*stp'.2)).2]):=upd_same
      generalize upd H7 t8 (.tup [.int (lowN (P0.1*stp'.2 - stp'.1*P0.2) (P0.2*stp'.2)),.int (lowU (P0.1*stp'.2 - stp'.1*P0.2) (P0.2*stp'.2))])=H8 at s8 g8 ⊢
      generalize low (P0.1*stp'.2 - stp'.1*P0.2) (P0.2*stp'.2)=P1 at g8 lp
      have x8:=x7.same s8
      have T8:=s8 _ _ T7
      have hl8:=s8 _ _ hl7
      have hA8:=hA7.ts (TS.of s8)
      have x8z:=x8.z
      clear x7 x7z T7 hl7 hA7 hrp s8 ht8
      k_extra "rx"
      refine i_setN (k:=p) hl8 (ixN_nat (by omega)) rfl fun H9 g9 f9=>?_
      have ts9:=TS.frl hl8 f9
      have hA9:=((hA8.mono (by omega:116+4*t≤116+4*t+1)).ts ts9).set (j:=p) (ts9 _ _ g8) lp
      have T9:=ts9 _ _ T8
      have rl6:=x8.rlen _ (List.getElem_mem ha2)
      have x9:=x8.up.putR ha2 el hl8 lX f9 g9 (hA9.mono (by omega)) (by rw[List.length_set];omega)
      clear x8 x8z T8 hl8 hA8 g8 ts9 f9
      have hr9:(rss[a].set p P1).length=ws.length:=by rw[List.length_set];omega
      have nx:∀ H' r1,Tz B L W C P Z (t+1) ws xs cs ys ps zs (rss.set a r1) H'→∀ q:Int,tb1 { nx:=fun x H'=>Q V.non H',rt:=Q } [some (.ref B),some (.ref W),some (.ref P),some (.ref Z),some (.int way),some (.int (ws.length:Int)),some (.int (a:Int)),some (.ref T),some (.int q),none] H':=fun H' r1 x q=>key1 _ _ ⟨_,_,_,_,_,_,_,rfl,x,fun z=>by omega⟩
      generalize rss[a].set p P1=row1 at x9 hA9 hr9
      generalize as.set p (V.ref t8)=as1 at g9 hA9
      k_extra "rx"
      refine⟨B,_,L,rfl,x9.b,by omega,Sz.mono (j:=6) (Sz.of (by omega)) (by decide),fun p2' H10 p20 p21 b10 f10=>?_⟩
      obtain⟨p2,rfl⟩:∃ p:Nat,p2'=(p:Int):=⟨p2'.toNat,by omega⟩
      have x10:=x9.pull f10 b10
      have ts10:=TS.fr x9.b f10
      have T10:=ts10 _ _ T9
      have hl10:=f10 _ _ (fun z=>lX (by rw[z];simp)) g9
      have hA10:=hA9.ts ts10
      have x10z:=x10.z
      clear x9 T9 g9 hA9 f10 b10 ts10
      k_extra "rx"
      refine⟨rfl,?_⟩
      refine⟨_,rfl,brkD (fun h5=>?_) (fun h5=>?_)⟩
      ·have hp2:p2 < row1.length:=by omega
       obtain⟨rp,er,hrp,po⟩:=hA10.2 p2 row1[p2] (List.getElem?_eq_getElem hp2)
       have ap:atI as1 (p2:Int)=some (.ref rp):=atI_nat er
       have hal1:=hA10.1
       generalize row1[p2]=P2 at hrp po
       have lp:=plus_pt um_ok.pos po (so.mono (by omega:115≤116+4*t+1))
       k_extra "rx"
       refine⟨rp,T,_,_,_,_,rfl,hrp,T10,po.pos,so.pos,(po.nsz um_ok.pos).mono (by omega),(po.toOk.usz um_ok).mono (by decide),(so.nsz um_ok.pos).mono (by decide),(so.toOk.usz um_ok).mono (by decide),fun t9 ht9=>?_⟩
       have s8:=Same.new (o:=.tup [.int (lowN (P2.1*stp'.2+stp'.1*P2.2) (P2.2*stp'.2)),.int (lowU (P2.1*stp'.2+stp'.1*P2.2) (P2.2*stp'.2))]) ht9
       have g8:upd H10 t9 (.tup [.int (lowN (P2.1*stp'.2+stp'.1*P2.2) (P2.2*stp'.2)),.int (lowU (P2.1*stp'.2+stp'.1*P2.2) (P2.2*stp'.2))]) t9=some (.tup [.int (low (P2.1*stp'.2+stp'.1*P2.2) (P2.2*stp'.2)).1,.int (low (P2.1*stp'.2+stp'.1*P2.2) (P2.2*stp'.2)).2]):=upd_same
       generalize upd H10 t9 (.tup [.int (lowN (P2.1*stp'.2+stp'.1*P2.2) (P2.2*stp'.2)),.int (lowU (P2.1*stp'.2+stp'.1*P2.2) (P2.2*stp'.2))])=H11 at s8 g8 ⊢
       generalize low (P2.1*stp'.2+stp'.1*P2.2) (P2.2*stp'.2)=P3 at g8 lp
       have x11:=x10.same s8
       have hl11:=s8 _ _ hl10
       have hA11:=hA10.ts (TS.of s8)
       have x11z:=x11.z
       clear x10 x10z T10 hl10 hA10 hrp s8 ht9
       k_extra "rx"
       refine i_setN (k:=p2) hl11 (ixN_nat (by omega)) rfl fun H12 g12 f12=>?_
       have ts12:=TS.frl hl11 f12
       have hA12:=((hA11.mono (by omega:116+4*t+1≤116+4*t+1+1)).ts ts12).set (j:=p2) (ts12 _ _ g8) lp
       have x12:=x11.putR (by rw[List.length_set];exact ha2) el hl11 lX f12 g12 (hA12.mono (by omega)) (by rw[List.length_set];omega)
       rw[List.set_set] at x12
       exact nx _ _ x12 _
      ·refine i_tNext ?_
       exact nx _ _ x10 _
     ·refine i_tNext ?_
      exact key1 _ _ ⟨_,_,_,_,_,_,_,rfl,x6.up,fun _=>x6⟩
    ·refine i_tNext ?_
     exact key1 _ _ ⟨_,_,_,_,_,_,_,rfl,x6.up,fun _=>x6⟩
   ·refine i_tNext ?_
    exact key1 _ _ ⟨_,_,_,_,_,_,_,rfl,x5.up,fun _=>x5⟩
  ·refine i_tNext ?_
   exact key1 _ _ ⟨_,_,_,_,_,_,_,rfl,x5.up,fun _=>x5⟩
theorem ok_law(D:DefAt K mg "law" s_law f fd)(T:Txt K mg cx)(d__law_bag:DefOk P w K mg base CX0 1 "_law_bag" ["_law_script"] (sp__law_bag K cx))(d__law_tabled:DefOk P w K mg base CX0 5 "_law_tabled" ["_law_bag_here"] sp__law_tabled)(d_good_table:DefOk P w K mg base CX0 5 "good_table" ["worths","claims","parts","rows"] sp_good_table)(d__law_bent:DefOk P w K mg base CX0 4 "_law_bent" ["_law_bag_here","_law_worths","_law_parts","_law_rows"] sp__law_bent)(d__law_truth:DefOk P w K mg base CX0 1 "_law_truth" ["_law_found","_law_due_here"] sp__law_truth)(d__law_good_table:DefOk P w K mg base CX0 6 "_law_good_table" ["_law_worths","_law_claims_here","_law_parts","_law_rows"] sp__law_good_table):FnOk P w K mg base CX0 7 f fd ["_law_script"] (sp_law K cx):=by
 refine D.q sc_law (fun vs H Q E h=>?_) (fun cdv A outer s H vs Q E hr h=>?_)
 ·obtain⟨_,_,rfl,_⟩:=h
  rfl
 obtain⟨s0,ns,rfl,hS,hl,hQ⟩:=h
 have hQt:Q (.bl true)=fun _=>True:=by funext H';exact eq_true (hQ H')
 clear hQ
 refine⟨_,(qss_cons (qs_set (i:=1) sc_law.nd rfl (Or.inl rfl) (qe_d d__law_bag hr.le pass0 (by rfl) (qa_cons (qv 0) qa_nil)))
   (qss_cons (qs_asg (qe_d d__law_tabled hr.le pass0 (by rfl) (qa_cons (qv 1) qa_nil)) (qg_tupK (K:=K) (n:=4) rfl rfl (qgs_cons (qg_name (i:=2) sc_law.nd rfl (Or.inl rfl)) (qgs_cons (qg_name (i:=3) sc_law.nd rfl (Or.inl rfl)) (qgs_cons (qg_name (i:=4) sc_law.nd rfl (Or.inl rfl)) (qgs_cons (qg_name (i:=5) sc_law.nd rfl (Or.inl rfl)) qgs_nil))))))
   (qss_cons (qs_for PassesOwn.never rfl (qi_range1 (by rfl) T.n_range (qa_cons qe_int qa_nil)) (qg_name (i:=6) sc_law.nd rfl (Or.inl rfl)) (qss_cons (qs_set (i:=7) sc_law.nd rfl (Or.inl rfl) (qe_tup (qa_cons (qe_callTy call_listF (by rfl) T.n_list bt_list (qa_cons (qv 2) qa_nil)) (qa_cons (qe_callTy call_listF (by rfl) T.n_list bt_list (qa_cons (qv 3) qa_nil)) (qa_cons (qe_callTy call_listF (by rfl) T.n_list bt_list (qa_cons (qv 4) qa_nil)) (qa_cons (qe_comp ["_law_row"] [] rfl (qi_listK (K:=K) rfl (qv 5)) (gext_name (by decide)) (fun cl C fp s2 H2=>⟨(qg_name (i:=0) (show (["_law_row"]:List Str).Nodup by decide +kernel) rfl (Or.inl rfl)),qf_nil,(qe_callTy call_listF (by rfl) T.n_list bt_list (qa_cons (qv 0) qa_nil))⟩) rfl (by decide +kernel) (by decide +kernel) (free_of (by rfl)) (fr_of (by rfl))) qa_nil))))))
   (qss_cons (qs_set (i:=8) sc_law.nd rfl (Or.inl rfl) (qe_d d_good_table hr.le pass0 (by rfl) (qa_cons (qe_ix ix_seqA (qv 7) qe_int (fun _ _=>rfl)) (qa_cons (qe_ix ix_seqA (qv 7) qe_int (fun _ _=>rfl)) (qa_cons (qe_ix ix_seqA (qv 7) qe_int (fun _ _=>rfl)) (qa_cons (qe_ix ix_seqA (qv 7) qe_int (fun _ _=>rfl)) qa_nil))))))
   (qss_cons (qs_if (qt_not (qt_val (qe_d d__law_truth hr.le pass0 (by rfl) (qa_cons (qv 8) (qa_cons (qe_d d__law_good_table hr.le pass0 (by rfl) (qa_cons (qv 2) (qa_cons (qv 3) (qa_cons (qv 4) (qa_cons (qv 5) qa_nil))))) qa_nil))))) (qss_one (qs_ret qe_bl)) qss_nil)
   (qss_cons (qs_if (qt_cmpR (op_neD hr.units) (qv 7) (qe_tup (qa_cons (qv 2) (qa_cons (qv 3) (qa_cons (qv 4) (qa_cons (qv 5) qa_nil))))) (nomark _)) (qss_one (qs_ret qe_bl)) qss_nil)
   (qss_one (qs_expr (qe_d d__law_bent hr.le pass0 (by rfl) (qa_cons (qv 1) (qa_cons (qv 2) (qa_cons (qv 4) (qa_cons (qv 5) qa_nil))))))))))))
   (qss_one (qs_ret qe_bl))))),?_⟩
 refine⟨_,rfl,s0,ns,rfl,hS,hl,fun B L H1 s1 nB b1=>?_⟩
 clear hl hS s1
 refine⟨_,rfl,B,L,rfl,b1,fun T W C P Z ws xs cs ys ps zs rss H2 x2 hT=>?_⟩
 refine⟨T,_,rfl,SqT.of hT,rfl,_,_,rfl,_,_,rfl,_,_,rfl,_,_,rfl,rfl,?_⟩
 have y2:=Tz.ofTf x2 b1
 clear hT b1 nB x2
 dsimp only
 k_extra "rx"
 refine⟨3,rfl,by decide,by decide,for_rangeN (lo:=0) (n:=3) (fun j σ H'=>∃ ws ys ps zs rss v6 v7 v8,σ=[some (.ref s0),some (.ref B),some (.ref W),some (.ref C),some (.ref P),some (.ref Z),v6,v7,v8]∧Tz B L W C P Z j ws xs cs ys ps zs rss H') ⟨ws,ys,ps,zs,rss,_,_,_,rfl,y2⟩ ?_ ?_⟩
 ·clear y2 ws ys ps zs rss
  rintro j σ H3 NN BB hj ⟨ws,ys,ps,zs,rss,v6,v7,v8,rfl,x3⟩ kN kB
  clear kB
  have j2:j≤2:=by omega
  refine i_gName ?_
  dsimp only
  refine⟨_,rfl,W,_,rfl,seqAt_lst x3.w,fun l1 hl1=>?_⟩
  have t1:=Same.new (o:=.lst (ws.map V.int)) hl1
  refine⟨_,rfl,C,_,rfl,seqAt_lst (t1 _ _ x3.c),fun l2 hl2=>?_⟩
  have t2:=Same.new (o:=.lst xs) hl2
  refine⟨_,rfl,P,_,rfl,seqAt_lst (t2 _ _ (t1 _ _ x3.p)),fun l3 hl3=>?_⟩
  have t3:=Same.new (o:=.lst ys) hl3
  have tt:=(t1.trans t2).trans t3
  have x4:=x3.same tt
  have f1:=t3 _ _ (t2 l1 _ upd_same)
  have f2:=t3 l2 _ upd_same
  have f3:upd (upd (upd H3 l1 (.lst (ws.map V.int))) l2 (.lst xs)) l3 (.lst ys) l3=_:=upd_same
  generalize upd (upd (upd H3 l1 (.lst (ws.map V.int))) l2 (.lst xs)) l3 (.lst ys)=H4 at x4 f1 f2 f3 ⊢
  clear x3 t1 t2 t3 tt hl1 hl2 hl3
  have x4z:=x4.z
  have r4:=x4.rs (by omega)
  have zl:=x4.hZ.1
  have rn:=x4.rn
  refine⟨_,rfl,Z,rfl,⟨_,SqL.of x4z⟩,fun l4 hl4=>?_⟩
  refine comp_listR (K:=K) (a:=Z) (xs:=zs) (fun i acc H5=>Same H4 H5∧H5 l4=some (.lst acc)∧RsV (116+4*j) H5 acc (rss.take i)∧V.ref l4∉acc) ⟨Same.new hl4,upd_same,⟨by simp,fun i r h=>by simp at h⟩,by simp⟩ (fun i acc H5 _ ⟨s5,_⟩=>SqL.of (s5 _ _ x4z)) ?_ ?_
  ·rintro i y acc H5 hy ⟨s5,hl5,hacc,nac⟩
   have hi:i < rss.length:=by rw[← zl];exact (List.getElem?_eq_some_iff.mp hy).1
   obtain⟨l,as,el,hl,hA,h12⟩:=r4.2 i rss[i] (List.getElem?_eq_getElem hi)
   rw[el] at hy
   cases hy
   have k1:=s5 _ _ hl
   simp only[gName_ap,tYes,if_true]
   k_extra "rx"
   refine⟨l,as,rfl,seqAt_lst k1,fun q hq=>?_⟩
   have s6:=Same.new (o:=.lst as) hq
   have g6:upd H5 q (.lst as) q=_:=upd_same
   generalize upd H5 q (.lst as)=H6 at s6 g6 ⊢
   have l6:=s6 _ _ hl5
   have qn:q≠l4:=fun z=>by rw[z,hl5] at hq;cases hq
   have al:=hacc.1
   rw[List.length_take] at al
   have ts:TS H6 (upd H6 l4 (.lst (acc++[.ref q]))):=TS.lst l6
   rw[List.take_succ_eq_append_getElem hi]
   refine⟨l6,small1000 (by omega),same_put hl4 (s5.trans s6),upd_same,((hacc.same s6).put l6 nac).snoc (by rw[upd_ne qn];exact g6) (((hA.ts (TS.of s5)).ts (TS.of s6)).ts ts) h12,fun z=>?_⟩
   rcases List.mem_append.mp z with z | z
   ·exact nac z
   ·exact qn (V.ref.inj (List.mem_singleton.mp z)).symm
  ·rintro acc H5 ⟨s5,hl5,hacc,nac⟩
   rw[zl,List.take_length] at hacc
   have x5:=x4.same s5
   have g1:=s5 _ _ f1
   have g2:=s5 _ _ f2
   have g3:=s5 _ _ f3
   clear x4 x4z r4 s5 f1 f2 f3 hl4 nac
   dsimp only
   refine⟨by show 4≤sizeLine;decide,fun T2 hT2=>?_⟩
   have s6:=Same.new (o:=.tup [.ref l1,.ref l2,.ref l3,.ref l4]) hT2
   have g6:upd H5 T2 (.tup [.ref l1,.ref l2,.ref l3,.ref l4]) T2=_:=upd_same
   generalize upd H5 T2 (.tup [.ref l1,.ref l2,.ref l3,.ref l4])=H6 at s6 g6 ⊢
   have x6:=x5.same s6
   have k1:=s6 _ _ g1
   have k2:=s6 _ _ g2
   have k3:=s6 _ _ g3
   have k4:=s6 _ _ hl5
   have ka:=hacc.same s6
   clear x5 g1 g2 g3 hl5 hacc hT2 s6
   refine i_gName ?_
   k_extra "rx"
   refine⟨l1,l2,l3,l4,ws,xs,cs,ys,ps,acc,rss,116+4*j,rfl,⟨k1,k2,x6.hC⟩,k3,x6.hP,x6.pl,k4,ka,by omega,x6.c16,x6.w6,fun y hy=>(x6.wsz y hy).2.mono (by decide),fun b H7 s7 hb=>?_⟩
   have x7:=x6.same s7
   have f1:=s7 _ _ k1
   have f2:=s7 _ _ k2
   have f3:=s7 _ _ k3
   have f4:=s7 _ _ k4
   have fa:=ka.same s7
   have fT:=s7 _ _ g6
   clear x6 k1 k2 k3 k4 ka g6 s7
   k_extra "rx"
   refine⟨W,C,P,Z,ws,xs,cs,ys,ps,zs,rss,116+4*j,rfl,x7.sh,x7.p,x7.hP,x7.pl,x7.z,x7.rs (by omega),by omega,x7.c16,x7.w6,fun y hy=>(x7.wsz y hy).2.mono (by decide),fun b2 H8 s8 hb2=>?_⟩
   have x8:=x7.same s8
   have g1:=s8 _ _ f1
   have g2:=s8 _ _ f2
   have g3:=s8 _ _ f3
   have g4:=s8 _ _ f4
   have ga:=fa.same s8
   have gT:=s8 _ _ fT
   clear x7 f1 f2 f3 f4 fa fT s8
   have eb:b=b2:=by rw[Bool.eq_iff_iff,hb,hb2]
   refine⟨b,b2,rfl,?_⟩
   refine⟨_,rfl,brkNB (fun h1=>?_) (fun h1=>?_)⟩
   ·exact absurd eb (of_decide_eq_false h1)
   clear h1
   refine i_tNext ?_
   k_extra "rx"
   refine i_NewO (Nat.le_of_ble_eq_true rfl) fun T3 H9 _ s9 hT3=>?_
   have x9:=x8.same s9
   have f1:=s9 _ _ g1
   have f2:=s9 _ _ g2
   have f3:=s9 _ _ g3
   have f4:=s9 _ _ g4
   have fa:=ga.same s9
   have fT:=s9 _ _ gT
   clear x8 g1 g2 g3 g4 ga gT s9
   refine⟨tbD ws cs ps rss,tbD ws cs ps rss,den_tup fT (dens1 (den_lst f1 (ints_dens _)) (dens1 (den_lst f2 x9.hC.dens) (dens1 (den_lst f3 x9.hP.dens) (dens1 (den_lst f4 fa.dens) dens0)))),den_tup hT3 (dens1 (den_lst x9.w (ints_dens _)) (dens1 (den_lst x9.c x9.hC.dens) (dens1 (den_lst x9.p x9.hP.dens) (dens1 (den_lst x9.z (x9.rs (by omega)).dens) dens0)))),cmp_tb,?_⟩
   refine⟨_,rfl,brk (fun z=>absurd z (by simp)) (fun _=>?_)⟩
   refine i_tNext ?_
   k_extra "rx"
   refine⟨B,L,W,C,P,Z,j,ws,xs,cs,ys,ps,zs,rss,rfl,j2,x9,fun ws' ys' ps' zs' rss' H10 x10=>?_⟩
   exact kN _ _ ⟨_,_,_,_,_,_,_,_,rfl,x10⟩
 ·rintro σ H3 ⟨ws,ys,ps,zs,rss,v6,v7,v8,rfl,x3⟩
  k_extra "rx"
  show Q (.bl true) H3
  rw[hQt]
  trivial
abbrev fnO(x:Str)(s:Stmt)(oc:Value)(od:Option Addr)(kV dc pm:Value)(an:Option Addr)(cd ct:Value)(sl:Array (Option Value)):Option Obj:=some ⟨oc,od,.func (PySem.W.fnOf x x (defArgs s) (defBody s) (defScope s) .none kV dc pm an cd ct),sl⟩
end
theorem all_mk{l:PySem.W.OpenLaw}{w:World}{K:PySem.W.Frag}{h:Heap}{mg:Str→Option Value}{fa f0 f1 f2 f3 f4 f5 f6 f7 f8 f9 f10 f11 f12 f13 f14 f15 f16 f17 f18 f19 f20 f21 f22 f23 f24 f25 f26 f27 f28 f29 f30 c0:Addr}(X:K.In h)(G:h.Ns mainGlobals mg)(hfa:mg "law" = some (.ref fa))
  {od0 an0 od1 an1 od2 an2 od3 an3 od4 an4 od5 an5 od6 an6 od7 an7 od8 an8 od9 an9 od10 an10 od11 an11 od12 an12 od13 an13 od14 an14 od15 an15 od16 an16 od17 an17 od18 an18 od19 an19 od20 an20 od21 an21 od22 an22 od23 an23 od24 an24 od25 an25 od26 an26 od27 an27 od28 an28 od29 an29 od30 an30:Option Addr} {sl0 sl1 sl2 sl3 sl4 sl5 sl6 sl7 sl8 sl9 sl10 sl11 sl12 sl13 sl14 sl15 sl16 sl17 sl18 sl19 sl20 sl21 sl22 sl23 sl24 sl25 sl26 sl27 sl28 sl29 sl30:Array (Option Value)} {oc0 kV0 dc0 pm0 cd0 ct0 oc1 kV1 dc1 pm1 cd1 ct1 oc2 kV2 dc2 pm2 cd2 ct2 oc3 kV3 dc3 pm3 cd3 ct3 oc4 kV4 dc4 pm4 cd4 ct4 oc5 kV5 dc5 pm5 cd5 ct5 oc6 kV6 dc6 pm6 cd6 ct6 oc7 kV7 dc7 pm7 cd7 ct7 oc8 kV8 dc8 pm8 cd8 ct8 oc9 kV9 dc9 pm9 cd9 ct9 oc10 kV10 dc10 pm10 cd10 ct10 oc11 kV11 dc11 pm11 cd11 ct11 oc12 kV12 dc12 pm12 cd12 ct12 oc13 kV13 dc13 pm13 cd13 ct13 oc14 kV14 dc14 pm14 cd14 ct14 oc15 kV15 dc15 pm15 cd15 ct15 oc16 kV16 dc16 pm16 cd16 ct16 oc17 kV17 dc17 pm17 cd17 ct17 oc18 kV18 dc18 pm18 cd18 ct18 oc19 kV19 dc19 pm19 cd19 ct19 oc20 kV20 dc20 pm20 cd20 ct20 oc21 kV21 dc21 pm21 cd21 ct21 oc22 kV22 dc22 pm22 cd22 ct22 oc23 kV23 dc23 pm23 cd23 ct23 oc24 kV24 dc24 pm24 cd24 ct24 oc25 kV25 dc25 pm25 cd25 ct25 oc26 kV26 dc26 pm26 cd26 ct26 oc27 kV27 dc27 pm27 cd27 ct27 oc28 kV28 dc28 pm28 cd28 ct28 oc29 kV29 dc29 pm29 cd29 ct29 oc30 kV30 dc30 pm30 cd30 ct30:Value}
  (a0:PySem.W.nsIn K mainGlobals "common_factor" = some (some (.ref f0))) (l0:K.lookup f0=fnO "common_factor" s_common_factor oc0 od0 kV0 dc0 pm0 an0 cd0 ct0 sl0) (c0':PySem.W.codeIn K cd0 "common_factor" = true) (k0:PySem.W.keepIn K (.ref f0)=true)
  (a1:PySem.W.nsIn K mainGlobals "lowest" = some (some (.ref f1))) (l1:K.lookup f1=fnO "lowest" s_lowest oc1 od1 kV1 dc1 pm1 an1 cd1 ct1 sl1) (c1':PySem.W.codeIn K cd1 "lowest" = true) (k1:PySem.W.keepIn K (.ref f1)=true)
  (a2:PySem.W.nsIn K mainGlobals "below" = some (some (.ref f2))) (l2:K.lookup f2=fnO "below" s_below oc2 od2 kV2 dc2 pm2 an2 cd2 ct2 sl2) (c2':PySem.W.codeIn K cd2 "below" = true) (k2:PySem.W.keepIn K (.ref f2)=true)
  (a3:PySem.W.nsIn K mainGlobals "one_under" = some (some (.ref f3))) (l3:K.lookup f3=fnO "one_under" s_one_under oc3 od3 kV3 dc3 pm3 an3 cd3 ct3 sl3) (c3':PySem.W.codeIn K cd3 "one_under" = true) (k3:PySem.W.keepIn K (.ref f3)=true)
  (a4:PySem.W.nsIn K mainGlobals "numbers_over" = some (some (.ref f4))) (l4:K.lookup f4=fnO "numbers_over" s_numbers_over oc4 od4 kV4 dc4 pm4 an4 cd4 ct4 sl4) (c4':PySem.W.codeIn K cd4 "numbers_over" = true) (k4:PySem.W.keepIn K (.ref f4)=true)
  (a5:PySem.W.nsIn K mainGlobals "total" = some (some (.ref f5))) (l5:K.lookup f5=fnO "total" s_total oc5 od5 kV5 dc5 pm5 an5 cd5 ct5 sl5) (c5':PySem.W.codeIn K cd5 "total" = true) (k5:PySem.W.keepIn K (.ref f5)=true)
  (a6:PySem.W.nsIn K mainGlobals "good_row" = some (some (.ref f6))) (l6:K.lookup f6=fnO "good_row" s_good_row oc6 od6 kV6 dc6 pm6 an6 cd6 ct6 sl6) (c6':PySem.W.codeIn K cd6 "good_row" = true) (k6:PySem.W.keepIn K (.ref f6)=true)
  (a7:PySem.W.nsIn K mainGlobals "good_table" = some (some (.ref f7))) (l7:K.lookup f7=fnO "good_table" s_good_table oc7 od7 kV7 dc7 pm7 an7 cd7 ct7 sl7) (c7':PySem.W.codeIn K cd7 "good_table" = true) (k7:PySem.W.keepIn K (.ref f7)=true)
  (a8:PySem.W.nsIn K mainGlobals "_law_bag" = some (some (.ref f8))) (l8:K.lookup f8=fnO "_law_bag" s__law_bag oc8 od8 kV8 dc8 pm8 an8 cd8 ct8 sl8) (c8':PySem.W.codeIn K cd8 "_law_bag" = true) (k8:PySem.W.keepIn K (.ref f8)=true)
  (a9:PySem.W.nsIn K mainGlobals "_law_pull" = some (some (.ref f9))) (l9:K.lookup f9=fnO "_law_pull" s__law_pull oc9 od9 kV9 dc9 pm9 an9 cd9 ct9 sl9) (c9':PySem.W.codeIn K cd9 "_law_pull" = true) (k9:PySem.W.keepIn K (.ref f9)=true)
  (a10:PySem.W.nsIn K mainGlobals "_law_gcd" = some (some (.ref f10))) (l10:K.lookup f10=fnO "_law_gcd" s__law_gcd oc10 od10 kV10 dc10 pm10 an10 cd10 ct10 sl10) (c10':PySem.W.codeIn K cd10 "_law_gcd" = true) (k10:PySem.W.keepIn K (.ref f10)=true)
  (a11:PySem.W.nsIn K mainGlobals "_law_low" = some (some (.ref f11))) (l11:K.lookup f11=fnO "_law_low" s__law_low oc11 od11 kV11 dc11 pm11 an11 cd11 ct11 sl11) (c11':PySem.W.codeIn K cd11 "_law_low" = true) (k11:PySem.W.keepIn K (.ref f11)=true)
  (a12:PySem.W.nsIn K mainGlobals "_law_plus" = some (some (.ref f12))) (l12:K.lookup f12=fnO "_law_plus" s__law_plus oc12 od12 kV12 dc12 pm12 an12 cd12 ct12 sl12) (c12':PySem.W.codeIn K cd12 "_law_plus" = true) (k12:PySem.W.keepIn K (.ref f12)=true)
  (a13:PySem.W.nsIn K mainGlobals "_law_less" = some (some (.ref f13))) (l13:K.lookup f13=fnO "_law_less" s__law_less oc13 od13 kV13 dc13 pm13 an13 cd13 ct13 sl13) (c13':PySem.W.codeIn K cd13 "_law_less" = true) (k13:PySem.W.keepIn K (.ref f13)=true)
  (a14:PySem.W.nsIn K mainGlobals "_law_times" = some (some (.ref f14))) (l14:K.lookup f14=fnO "_law_times" s__law_times oc14 od14 kV14 dc14 pm14 an14 cd14 ct14 sl14) (c14':PySem.W.codeIn K cd14 "_law_times" = true) (k14:PySem.W.keepIn K (.ref f14)=true)
  (a15:PySem.W.nsIn K mainGlobals "_law_below" = some (some (.ref f15))) (l15:K.lookup f15=fnO "_law_below" s__law_below oc15 od15 kV15 dc15 pm15 an15 cd15 ct15 sl15) (c15':PySem.W.codeIn K cd15 "_law_below" = true) (k15:PySem.W.keepIn K (.ref f15)=true)
  (a16:PySem.W.nsIn K mainGlobals "_law_sum" = some (some (.ref f16))) (l16:K.lookup f16=fnO "_law_sum" s__law_sum oc16 od16 kV16 dc16 pm16 an16 cd16 ct16 sl16) (c16':PySem.W.codeIn K cd16 "_law_sum" = true) (k16:PySem.W.keepIn K (.ref f16)=true)
  (a17:PySem.W.nsIn K mainGlobals "_law_whole" = some (some (.ref f17))) (l17:K.lookup f17=fnO "_law_whole" s__law_whole oc17 od17 kV17 dc17 pm17 an17 cd17 ct17 sl17) (c17':PySem.W.codeIn K cd17 "_law_whole" = true) (k17:PySem.W.keepIn K (.ref f17)=true)
  (a18:PySem.W.nsIn K mainGlobals "_law_pair" = some (some (.ref f18))) (l18:K.lookup f18=fnO "_law_pair" s__law_pair oc18 od18 kV18 dc18 pm18 an18 cd18 ct18 sl18) (c18':PySem.W.codeIn K cd18 "_law_pair" = true) (k18:PySem.W.keepIn K (.ref f18)=true)
  (a19:PySem.W.nsIn K mainGlobals "_law_pairs" = some (some (.ref f19))) (l19:K.lookup f19=fnO "_law_pairs" s__law_pairs oc19 od19 kV19 dc19 pm19 an19 cd19 ct19 sl19) (c19':PySem.W.codeIn K cd19 "_law_pairs" = true) (k19:PySem.W.keepIn K (.ref f19)=true)
  (a20:PySem.W.nsIn K mainGlobals "_law_truth" = some (some (.ref f20))) (l20:K.lookup f20=fnO "_law_truth" s__law_truth oc20 od20 kV20 dc20 pm20 an20 cd20 ct20 sl20) (c20':PySem.W.codeIn K cd20 "_law_truth" = true) (k20:PySem.W.keepIn K (.ref f20)=true)
  (a21:PySem.W.nsIn K mainGlobals "_law_many" = some (some (.ref f21))) (l21:K.lookup f21=fnO "_law_many" s__law_many oc21 od21 kV21 dc21 pm21 an21 cd21 ct21 sl21) (c21':PySem.W.codeIn K cd21 "_law_many" = true) (k21:PySem.W.keepIn K (.ref f21)=true)
  (a22:PySem.W.nsIn K mainGlobals "_law_heap" = some (some (.ref f22))) (l22:K.lookup f22=fnO "_law_heap" s__law_heap oc22 od22 kV22 dc22 pm22 an22 cd22 ct22 sl22) (c22':PySem.W.codeIn K cd22 "_law_heap" = true) (k22:PySem.W.keepIn K (.ref f22)=true)
  (a23:PySem.W.nsIn K mainGlobals "_law_due" = some (some (.ref f23))) (l23:K.lookup f23=fnO "_law_due" s__law_due oc23 od23 kV23 dc23 pm23 an23 cd23 ct23 sl23) (c23':PySem.W.codeIn K cd23 "_law_due" = true) (k23:PySem.W.keepIn K (.ref f23)=true)
  (a24:PySem.W.nsIn K mainGlobals "_law_claims" = some (some (.ref f24))) (l24:K.lookup f24=fnO "_law_claims" s__law_claims oc24 od24 kV24 dc24 pm24 an24 cd24 ct24 sl24) (c24':PySem.W.codeIn K cd24 "_law_claims" = true) (k24:PySem.W.keepIn K (.ref f24)=true)
  (a25:PySem.W.nsIn K mainGlobals "_law_ceil" = some (some (.ref f25))) (l25:K.lookup f25=fnO "_law_ceil" s__law_ceil oc25 od25 kV25 dc25 pm25 an25 cd25 ct25 sl25) (c25':PySem.W.codeIn K cd25 "_law_ceil" = true) (k25:PySem.W.keepIn K (.ref f25)=true)
  (a26:PySem.W.nsIn K mainGlobals "_law_tabled" = some (some (.ref f26))) (l26:K.lookup f26=fnO "_law_tabled" s__law_tabled oc26 od26 kV26 dc26 pm26 an26 cd26 ct26 sl26) (c26':PySem.W.codeIn K cd26 "_law_tabled" = true) (k26:PySem.W.keepIn K (.ref f26)=true)
  (a27:PySem.W.nsIn K mainGlobals "_law_good_row" = some (some (.ref f27))) (l27:K.lookup f27=fnO "_law_good_row" s__law_good_row oc27 od27 kV27 dc27 pm27 an27 cd27 ct27 sl27) (c27':PySem.W.codeIn K cd27 "_law_good_row" = true) (k27:PySem.W.keepIn K (.ref f27)=true)
  (a28:PySem.W.nsIn K mainGlobals "_law_good_table" = some (some (.ref f28))) (l28:K.lookup f28=fnO "_law_good_table" s__law_good_table oc28 od28 kV28 dc28 pm28 an28 cd28 ct28 sl28) (c28':PySem.W.codeIn K cd28 "_law_good_table" = true) (k28:PySem.W.keepIn K (.ref f28)=true)
  (a29:PySem.W.nsIn K mainGlobals "_law_bent" = some (some (.ref f29))) (l29:K.lookup f29=fnO "_law_bent" s__law_bent oc29 od29 kV29 dc29 pm29 an29 cd29 ct29 sl29) (c29':PySem.W.codeIn K cd29 "_law_bent" = true) (k29:PySem.W.keepIn K (.ref f29)=true)
  (a30:PySem.W.nsIn K mainGlobals "law" = some (some (.ref f30))) (l30:K.lookup f30=fnO "law" s_law oc30 od30 kV30 dc30 pm30 an30 cd30 ct30 sl30) (c30':PySem.W.codeIn K cd30 "law" = true) (k30:PySem.W.keepIn K (.ref f30)=true)
  (x0:PySem.W.nsIn K mainGlobals "BadPart" = some (some (.ref c0))) (y0:PySem.W.excIn K c0 veTail "ValueError.__new__" = true)
  (z0:PySem.W.nsIn K mainGlobals "sum" = some none)
  (z1:PySem.W.nsIn K mainGlobals "enumerate" = some none)
  (z2:PySem.W.nsIn K mainGlobals "len" = some none)
  (z3:PySem.W.nsIn K mainGlobals "zip" = some none)
  (z4:PySem.W.nsIn K mainGlobals "list" = some none)
  (z5:PySem.W.nsIn K mainGlobals "abs" = some none)
  (z6:PySem.W.nsIn K mainGlobals "isinstance" = some none)
  (z7:PySem.W.nsIn K mainGlobals "bool" = some none)
  (z8:PySem.W.nsIn K mainGlobals "int" = some none)
  (z9:PySem.W.nsIn K mainGlobals "tuple" = some none)
  (z10:PySem.W.nsIn K mainGlobals "all" = some none)
  (z11:PySem.W.nsIn K mainGlobals "range" = some none)
  (z12:PySem.W.nsIn K mainGlobals "max" = some none)
  : ∃ fd:FuncData,(∀(s:Shared)(v:Value),BindsTo s fd ⟨[v],[]⟩ [("_law_script", v)])∧∀ base:Heap,K.In base→base.Ns mainGlobals mg→FnOk l.prog w K mg base CX0 7 fa fd ["_law_script"] (sp_law K (fun _=>0)):=by
 have e:=hfa.symm.trans (PySem.W.mg_of X G a30)
 cases e
 have T:Txt K mg (fun x=>if x = "BadPart" then c0 else 0):=⟨PySem.W.mg_none_of X G z0,PySem.W.mg_none_of X G z1,PySem.W.mg_none_of X G z2,PySem.W.mg_none_of X G z3,PySem.W.mg_none_of X G z4,PySem.W.mg_none_of X G z5,PySem.W.mg_none_of X G z6,PySem.W.mg_none_of X G z7,PySem.W.mg_none_of X G z8,PySem.W.mg_none_of X G z9,PySem.W.mg_none_of X G z10,PySem.W.mg_none_of X G z11,PySem.W.mg_none_of X G z12,⟨by simpa using PySem.W.mg_of X G x0,by simpa using y0⟩⟩
 have D0:DefAt K mg "common_factor" s_common_factor _ _:=⟨fun_mk (st:=s_common_factor) l0 c0' k0,PySem.W.mg_of X G a0⟩
 have D1:DefAt K mg "lowest" s_lowest _ _:=⟨fun_mk (st:=s_lowest) l1 c1' k1,PySem.W.mg_of X G a1⟩
 have D2:DefAt K mg "below" s_below _ _:=⟨fun_mk (st:=s_below) l2 c2' k2,PySem.W.mg_of X G a2⟩
 have D3:DefAt K mg "one_under" s_one_under _ _:=⟨fun_mk (st:=s_one_under) l3 c3' k3,PySem.W.mg_of X G a3⟩
 have D4:DefAt K mg "numbers_over" s_numbers_over _ _:=⟨fun_mk (st:=s_numbers_over) l4 c4' k4,PySem.W.mg_of X G a4⟩
 have D5:DefAt K mg "total" s_total _ _:=⟨fun_mk (st:=s_total) l5 c5' k5,PySem.W.mg_of X G a5⟩
 have D6:DefAt K mg "good_row" s_good_row _ _:=⟨fun_mk (st:=s_good_row) l6 c6' k6,PySem.W.mg_of X G a6⟩
 have D7:DefAt K mg "good_table" s_good_table _ _:=⟨fun_mk (st:=s_good_table) l7 c7' k7,PySem.W.mg_of X G a7⟩
 have D8:DefAt K mg "_law_bag" s__law_bag _ _:=⟨fun_mk (st:=s__law_bag) l8 c8' k8,PySem.W.mg_of X G a8⟩
 have D9:DefAt K mg "_law_pull" s__law_pull _ _:=⟨fun_mk (st:=s__law_pull) l9 c9' k9,PySem.W.mg_of X G a9⟩
 have D10:DefAt K mg "_law_gcd" s__law_gcd _ _:=⟨fun_mk (st:=s__law_gcd) l10 c10' k10,PySem.W.mg_of X G a10⟩
 have D11:DefAt K mg "_law_low" s__law_low _ _:=⟨fun_mk (st:=s__law_low) l11 c11' k11,PySem.W.mg_of X G a11⟩
 have D12:DefAt K mg "_law_plus" s__law_plus _ _:=⟨fun_mk (st:=s__law_plus) l12 c12' k12,PySem.W.mg_of X G a12⟩
 have D13:DefAt K mg "_law_less" s__law_less _ _:=⟨fun_mk (st:=s__law_less) l13 c13' k13,PySem.W.mg_of X G a13⟩
 have D14:DefAt K mg "_law_times" s__law_times _ _:=⟨fun_mk (st:=s__law_times) l14 c14' k14,PySem.W.mg_of X G a14⟩
 have D15:DefAt K mg "_law_below" s__law_below _ _:=⟨fun_mk (st:=s__law_below) l15 c15' k15,PySem.W.mg_of X G a15⟩
 have D16:DefAt K mg "_law_sum" s__law_sum _ _:=⟨fun_mk (st:=s__law_sum) l16 c16' k16,PySem.W.mg_of X G a16⟩
 have D17:DefAt K mg "_law_whole" s__law_whole _ _:=⟨fun_mk (st:=s__law_whole) l17 c17' k17,PySem.W.mg_of X G a17⟩
 have D18:DefAt K mg "_law_pair" s__law_pair _ _:=⟨fun_mk (st:=s__law_pair) l18 c18' k18,PySem.W.mg_of X G a18⟩
 have D19:DefAt K mg "_law_pairs" s__law_pairs _ _:=⟨fun_mk (st:=s__law_pairs) l19 c19' k19,PySem.W.mg_of X G a19⟩
 have D20:DefAt K mg "_law_truth" s__law_truth _ _:=⟨fun_mk (st:=s__law_truth) l20 c20' k20,PySem.W.mg_of X G a20⟩
 have D21:DefAt K mg "_law_many" s__law_many _ _:=⟨fun_mk (st:=s__law_many) l21 c21' k21,PySem.W.mg_of X G a21⟩
 have D22:DefAt K mg "_law_heap" s__law_heap _ _:=⟨fun_mk (st:=s__law_heap) l22 c22' k22,PySem.W.mg_of X G a22⟩
 have D23:DefAt K mg "_law_due" s__law_due _ _:=⟨fun_mk (st:=s__law_due) l23 c23' k23,PySem.W.mg_of X G a23⟩
 have D24:DefAt K mg "_law_claims" s__law_claims _ _:=⟨fun_mk (st:=s__law_claims) l24 c24' k24,PySem.W.mg_of X G a24⟩
 have D25:DefAt K mg "_law_ceil" s__law_ceil _ _:=⟨fun_mk (st:=s__law_ceil) l25 c25' k25,PySem.W.mg_of X G a25⟩
 have D26:DefAt K mg "_law_tabled" s__law_tabled _ _:=⟨fun_mk (st:=s__law_tabled) l26 c26' k26,PySem.W.mg_of X G a26⟩
 have D27:DefAt K mg "_law_good_row" s__law_good_row _ _:=⟨fun_mk (st:=s__law_good_row) l27 c27' k27,PySem.W.mg_of X G a27⟩
 have D28:DefAt K mg "_law_good_table" s__law_good_table _ _:=⟨fun_mk (st:=s__law_good_table) l28 c28' k28,PySem.W.mg_of X G a28⟩
 have D29:DefAt K mg "_law_bent" s__law_bent _ _:=⟨fun_mk (st:=s__law_bent) l29 c29' k29,PySem.W.mg_of X G a29⟩
 have D30:DefAt K mg "law" s_law _ _:=⟨fun_mk (st:=s_law) l30 c30' k30,PySem.W.mg_of X G a30⟩
 refine⟨PySem.W.fnOf "law" "law" (defArgs s_law) (defBody s_law) (defScope s_law) .none kV30 dc30 pm30 an30 cd30 ct30,fun s v=>.of_eq rfl,fun base _ _=>?_⟩
 have d__law_bag:=ok__law_bag (P:=l.prog) (w:=w) (base:=base) D8 T
 have d__law_pull:=ok__law_pull (P:=l.prog) (w:=w) (base:=base) D9 T
 have d__law_many:=ok__law_many D21 T d__law_pull
 have d__law_gcd:=ok__law_gcd (P:=l.prog) (w:=w) (base:=base) D10 T
 have d__law_low:=ok__law_low D11 T d__law_gcd
 have d__law_due:=ok__law_due D23 T d__law_low d__law_pull
 have d__law_heap:=ok__law_heap D22 T d__law_pull
 have d__law_claims:=ok__law_claims D24 T d__law_pull d__law_due d__law_heap
 have d__law_plus:=ok__law_plus D12 T d__law_low
 have d__law_sum:=ok__law_sum D16 T d__law_plus
 have d__law_ceil:=ok__law_ceil (P:=l.prog) (w:=w) (base:=base) D25 T
 have d__law_tabled:=ok__law_tabled D26 T d__law_many d__law_claims d__law_pull d__law_low d__law_sum d__law_plus d__law_ceil
 have d_below:=ok_below (P:=l.prog) (w:=w) (base:=base) D2 T
 have d_common_factor:=ok_common_factor (P:=l.prog) (w:=w) (base:=base) D0 T
 have d_one_under:=ok_one_under D3 T d_common_factor
 have d_lowest:=ok_lowest D1 T d_common_factor
 have d_numbers_over:=ok_numbers_over (P:=l.prog) (w:=w) (base:=base) D4 T
 have d_total:=ok_total D5 T d_one_under d_lowest d_numbers_over
 have d_good_row:=ok_good_row D6 T d_total d_below
 have d_good_table:=ok_good_table D7 T d_below d_good_row d_total
 have d__law_less:=ok__law_less D13 T d__law_low
 have d__law_times:=ok__law_times D14 T d__law_low
 have d__law_bent:=ok__law_bent D29 T d__law_pull d__law_low d__law_less d__law_plus d__law_times
 have d__law_truth:=ok__law_truth (P:=l.prog) (w:=w) (base:=base) D20 T
 have d__law_below:=ok__law_below (P:=l.prog) (w:=w) (base:=base) D15 T
 have d__law_whole:=ok__law_whole (P:=l.prog) (w:=w) (base:=base) D17 T
 have d__law_pair:=ok__law_pair D18 T d__law_gcd d__law_whole
 have d__law_pairs:=ok__law_pairs D19 T d__law_pair
 have d__law_good_row:=ok__law_good_row D27 T d__law_sum
 have d__law_good_table:=ok__law_good_table D28 T d__law_below d__law_sum d__law_pairs d__law_good_row
 have d_law:=ok_law D30 T d__law_bag d__law_tabled d_good_table d__law_bent d__law_truth d__law_good_table
 exact d_law
theorem walk{l:PySem.W.OpenLaw}{q:Program}{loose:List Str}{XP:(Str→Option Value)→Heap→Prop}{YP:World→Heap→Prop}{d:DefRec}{K:Params→PySem.W.Frag}(hn:l.most=some 63)(hdf:d.params.defaults=[])
  (hY:∀(w:World)(h:Heap),YP w h→(K w.params).In h)
  (F:∀(w:World)(mg:Str→Option Value)(fa:Addr)(h:Heap),(K w.params).In h→h.Ns mainGlobals mg→mg d.name=some (.ref fa) →
   ∃ fd:FuncData,(∀(s:Shared)(u:Value),BindsTo s fd ⟨[u],[]⟩ [("_law_script", u)])∧∀ base:Heap,(K w.params).In base→base.Ns mainGlobals mg→FnOk l.prog w (K w.params) mg base CX0 7 fa fd ["_law_script"] (sp_law (K w.params) (fun _=>0))) :
  PySem.W.WalkO q loose XP YP l.row.toRowW d [] (fun f vs=>PySem.call f vs) :=
 L2.walk_of (n:=63) (k:=7) (x := "_law_script") (CX:=fun _=>CX0) (sp:=fun w=>sp_law (K w.params) (fun _=>0)) hn (by decide) hdf ⟨rfl,by decide,by decide⟩ hY F (fun _ _ a ns hl _ hS=>⟨a,ns,rfl,hS,hl,fun _=>rfl⟩) fun _ _ _ _ _ z=>z
end Toy
def PySem.W.Fast.tw7980941108987737998:Unit:=()
def PySem.W.Fast.tw4691673463742928456:Unit:=()
def PySem.W.Fast.tw16759170924327787405:Unit:=()
def PySem.W.Fast.tw8044626604377450121:Unit:=()
def PySem.W.Fast.tw10912039810613863973:Unit:=()
def PySem.W.Fast.tw9657509301134450815:Unit:=()
def PySem.W.Fast.tw8860979112380062195:Unit:=()
def PySem.W.Fast.tw4585665384025461143:Unit:=()
def PySem.W.Fast.tw11776188998193737556:Unit:=()
def PySem.W.Fast.tw14986175921768271623:Unit:=()
def PySem.W.Fast.tw3681482681055359111:Unit:=()
def PySem.W.Fast.tw6147802569648253155:Unit:=()
def PySem.W.Fast.tw4292710263600304628:Unit:=()
def PySem.W.Fast.tw11802659954342932949:Unit:=()
def PySem.W.Fast.tw16621216021636206452:Unit:=()
def PySem.W.Fast.tw3489526107140968615:Unit:=()
def PySem.W.Fast.tw8596182269156212725:Unit:=()
def PySem.W.Fast.tw10115178825704947426:Unit:=()
def PySem.W.Fast.tw4115260334116294134:Unit:=()
def PySem.W.Fast.tw12148203409422474168:Unit:=()
open PySem PySem.W PyProof.Rows
set_option maxRecDepth 100000 in
set_option maxHeartbeats 0 in
theorem PySem.Challenge.cw_keelbond_k08_tables_judged_holds : PySem.Challenge.rw_keelbond_k08_tables_judged.Holds := by
 w_on;o_law;k_head;(case hw=>w_witness2)
 k_fill
 refine Toy.walk (l:=PySem.Challenge.rw_keelbond_k08_tables_judged) rfl rfl (fun w h Y=>PySem.W.kIn_of Y) ?F
 case F =>
  intro w mg fa h KX G hmg
  refine' Toy.all_mk KX G hmg ?a0 ?l0 ?c0' ?k0 ?a1 ?l1 ?c1' ?k1 ?a2 ?l2 ?c2' ?k2 ?a3 ?l3 ?c3' ?k3 ?a4 ?l4 ?c4' ?k4 ?a5 ?l5 ?c5' ?k5 ?a6 ?l6 ?c6' ?k6 ?a7 ?l7 ?c7' ?k7 ?a8 ?l8 ?c8' ?k8 ?a9 ?l9 ?c9' ?k9 ?a10 ?l10 ?c10' ?k10 ?a11 ?l11 ?c11' ?k11 ?a12 ?l12 ?c12' ?k12 ?a13 ?l13 ?c13' ?k13 ?a14 ?l14 ?c14' ?k14 ?a15 ?l15 ?c15' ?k15 ?a16 ?l16 ?c16' ?k16 ?a17 ?l17 ?c17' ?k17 ?a18 ?l18 ?c18' ?k18 ?a19 ?l19 ?c19' ?k19 ?a20 ?l20 ?c20' ?k20 ?a21 ?l21 ?c21' ?k21 ?a22 ?l22 ?c22' ?k22 ?a23 ?l23 ?c23' ?k23 ?a24 ?l24 ?c24' ?k24 ?a25 ?l25 ?c25' ?k25 ?a26 ?l26 ?c26' ?k26 ?a27 ?l27 ?c27' ?k27 ?a28 ?l28 ?c28' ?k28 ?a29 ?l29 ?c29' ?k29 ?a30 ?l30 ?c30' ?k30 ?x0 ?y0 ?z0 ?z1 ?z2 ?z3 ?z4 ?z5 ?z6 ?z7 ?z8 ?z9 ?z10 ?z11 ?z12
  (case a0=>k_is);(case l0=>k_is);(case c0'=>k_is);(case k0=>k_is);(case a1=>k_is);(case l1=>k_is);(case c1'=>k_is);(case k1=>k_is);(case a2=>k_is);(case l2=>k_is);(case c2'=>k_is);(case k2=>k_is);(case a3=>k_is);(case l3=>k_is);(case c3'=>k_is);(case k3=>k_is);(case a4=>k_is);(case l4=>k_is);(case c4'=>k_is);(case k4=>k_is);(case a5=>k_is);(case l5=>k_is);(case c5'=>k_is);(case k5=>k_is);(case a6=>k_is);(case l6=>k_is);(case c6'=>k_is);(case k6=>k_is);(case a7=>k_is);(case l7=>k_is);(case c7'=>k_is);(case k7=>k_is);(case a8=>k_is);(case l8=>k_is);(case c8'=>k_is);(case k8=>k_is);(case a9=>k_is);(case l9=>k_is);(case c9'=>k_is);(case k9=>k_is);(case a10=>k_is);(case l10=>k_is);(case c10'=>k_is);(case k10=>k_is);(case a11=>k_is);(case l11=>k_is);(case c11'=>k_is);(case k11=>k_is);(case a12=>k_is);(case l12=>k_is);(case c12'=>k_is);(case k12=>k_is);(case a13=>k_is);(case l13=>k_is);(case c13'=>k_is);(case k13=>k_is);(case a14=>k_is);(case l14=>k_is);(case c14'=>k_is);(case k14=>k_is);(case a15=>k_is);(case l15=>k_is);(case c15'=>k_is);(case k15=>k_is);(case a16=>k_is);(case l16=>k_is);(case c16'=>k_is);(case k16=>k_is);(case a17=>k_is);(case l17=>k_is);(case c17'=>k_is);(case k17=>k_is);(case a18=>k_is);(case l18=>k_is);(case c18'=>k_is);(case k18=>k_is);(case a19=>k_is);(case l19=>k_is);(case c19'=>k_is);(case k19=>k_is);(case a20=>k_is);(case l20=>k_is);(case c20'=>k_is);(case k20=>k_is);(case a21=>k_is);(case l21=>k_is);(case c21'=>k_is);(case k21=>k_is);(case a22=>k_is);(case l22=>k_is);(case c22'=>k_is);(case k22=>k_is);(case a23=>k_is);(case l23=>k_is);(case c23'=>k_is);(case k23=>k_is);(case a24=>k_is);(case l24=>k_is);(case c24'=>k_is);(case k24=>k_is);(case a25=>k_is);(case l25=>k_is);(case c25'=>k_is);(case k25=>k_is);(case a26=>k_is);(case l26=>k_is);(case c26'=>k_is);(case k26=>k_is);(case a27=>k_is);(case l27=>k_is);(case c27'=>k_is);(case k27=>k_is);(case a28=>k_is);(case l28=>k_is);(case c28'=>k_is);(case k28=>k_is);(case a29=>k_is);(case l29=>k_is);(case c29'=>k_is);(case k29=>k_is);(case a30=>k_is);(case l30=>k_is);(case c30'=>k_is);(case k30=>k_is);(case x0=>k_is);(case y0=>k_exc);(case z0=>k_is);(case z1=>k_is);(case z2=>k_is);(case z3=>k_is);(case z4=>k_is);(case z5=>k_is);(case z6=>k_is);(case z7=>k_is);(case z8=>k_is);(case z9=>k_is);(case z10=>k_is);(case z11=>k_is);(case z12=>k_is)
