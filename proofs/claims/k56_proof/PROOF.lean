import PyProof.Rows.All
import Wide.All
import OpenK.AllK
import Wide.FinOn
import Lean
import PyProof.EqAt
import PyProof.EqKinds
import PyProof.TupleCall
import PyProof.Rows.SortRuns
import PyProof.Rows.SortShell
import PyProof.ZipIter
import PyProof.TupleIter
import KE.KIntText
import PyProof.Rows.StrNews
import PyProof.StrLawsTight
import KE.KDictOf
import PyProof.StationsW
import PyProof.InstStoreFacts
import PyProof.ExcInit
import PyProof.ExcClass3
import PySem.Challenge.RW_keelbond_k56_lines_read_or_refused
set_option Elab.async false
set_option linter.all false
set_option maxRecDepth 100000
namespace L2
open PySem PySem.Spec PyProof.Rows
abbrev Key:=Sum Int Str
def keyIs:Key→Value→Bool
 | .inl k,v=>Value.isInt k v
 | .inr x,v=>Value.isStrOf x v
def keyH(w:World):Key→Int
 | .inl k=>hashInt k
 | .inr x=>hashStr w x
theorem keyIs_shape:∀{k:Key}{v:Value},keyIs k v=true→(∃ i t,k=Sum.inl i∧v=Value.int i t)∨(∃ x t,k=Sum.inr x∧v=Value.str x t)
 | .inl i,v,h=>by
  obtain⟨t,e⟩:=Value.isInt_shape (k:=i) (v:=v) h
  exact .inl ⟨i,t,rfl,e⟩
 | .inr x,v,h=>by
  obtain⟨t,e⟩:=Value.isStrOf_shape (x:=x) (v:=v) h
  exact .inr ⟨x,t,rfl,e⟩
theorem keyIs_int(i:Int)(t:Tok):keyIs (.inl i) (.int i t)=true:=by simp[keyIs,Value.isInt]
theorem keyIs_str(x:Str)(t:Tok):keyIs (.inr x) (.str x t)=true:=by simp[keyIs,Value.isStrOf]
theorem key_ll(a b:Int):decide ((Sum.inl a:Key)=Sum.inl b)=(a == b):=by
 by_cases e:a=b
 ·subst e;simp
 ·have h:¬ (Sum.inl a:Key)=Sum.inl b:=fun q=>e (Sum.inl.inj q)
  rw[decide_eq_false h]
  exact (beq_eq_false_iff_ne.mpr e).symm
theorem key_rr(a b:Str):decide ((Sum.inr a:Key)=Sum.inr b)=decide (a=b):=by
 by_cases e:a=b
 ·subst e;simp
 ·have h:¬ (Sum.inr a:Key)=Sum.inr b:=fun q=>e (Sum.inr.inj q)
  rw[decide_eq_false h,decide_eq_false e]
theorem key_lr(a:Int)(b:Str):decide ((Sum.inl a:Key)=Sum.inr b)=false:=decide_eq_false (fun q=>nomatch q)
theorem key_rl(a:Str)(b:Int):decide ((Sum.inr a:Key)=Sum.inl b)=false:=decide_eq_false (fun q=>nomatch q)
def mixKind(prog:Program)(w:World):PySem.KeyKind prog w Key where
 is:=keyIs
 hash:=keyH w
 inj:=fun v a b ha hb=>by
  rcases keyIs_shape ha with ⟨i,t,rfl,rfl⟩ | ⟨x,t,rfl,rfl⟩
  ·rcases keyIs_shape hb with ⟨j,u,rfl,e⟩ | ⟨y,u,rfl,e⟩
   ·injection e with e1 _;rw[e1]
   ·exact nomatch e
  ·rcases keyIs_shape hb with ⟨j,u,rfl,e⟩ | ⟨y,u,rfl,e⟩
   ·exact nomatch e
   ·injection e with e1 _;rw[e1]
 byValue:=fun k v h=>by
  rcases keyIs_shape h with ⟨i,t,rfl,rfl⟩ | ⟨x,t,rfl,rfl⟩<;>rfl
 pyHash:=fun hv h=>by
  rcases keyIs_shape hv with ⟨i,t,rfl,rfl⟩ | ⟨x,t,rfl,rfl⟩
  ·exact wpAny_pyHash_int h
  ·exact wpAny_pyHash_str h
 eqBool:=fun hu hv h=>by
  rcases keyIs_shape hu with ⟨i,t,rfl,rfl⟩ | ⟨x,t,rfl,rfl⟩
  ·rcases keyIs_shape hv with ⟨j,u,rfl,rfl⟩ | ⟨y,u,rfl,rfl⟩
   ·rw[key_ll] at h;exact wpAny_eqBool_int h
   ·rw[key_lr] at h;exact SeqAt.EqAt.int_str i t y u _ _ _ _ h
  ·rcases keyIs_shape hv with ⟨j,u,rfl,rfl⟩ | ⟨y,u,rfl,rfl⟩
   ·rw[key_rl] at h;exact SeqAt.EqAt.str_int x t j u _ _ _ _ h
   ·rw[key_rr] at h;exact wpAny_eqBool_str h
 «strs»:=fun k x t v h=>by
  rcases keyIs_shape h with ⟨i,u,rfl,e⟩ | ⟨y,u,rfl,e⟩
  ·exact nomatch e
  ·injection e with e1 _
   subst e1
   cases v<;>rfl
theorem mixKind_int(prog:Program)(w:World)(i:Int)(t:Tok):(mixKind prog w).is (.inl i) (.int i t)=true:=keyIs_int i t
theorem mixKind_str(prog:Program)(w:World)(x:Str)(t:Tok):(mixKind prog w).is (.inr x) (.str x t)=true:=keyIs_str x t
end L2
namespace L2
open PySem PySem.Spec PyProof.Rows
inductive V where
 | non | bl (b:Bool) | int (i:Int) | str (x:Str) | byt (b:Array UInt8) | flt (b:UInt64) | ref (a:Addr) | ty (n:String)
 deriving DecidableEq
def RelV:V→Value→Prop
 | .non,u=>u=Value.none
 | .bl b,u=>u=Value.bool b
 | .int i,u=>∃ t,u=Value.int i t
 | .str x,u=>∃ t,u=Value.str x t
 | .byt b,u=>∃ t,u=Value.bytes b t
 | .flt b,u=>∃ t,u=Value.float b t
 | .ref a,u=>u=Value.ref a
 | .ty n,u=>u=Value.type n
abbrev Vals:List V→List Value→Prop:=Paired RelV
theorem Vals.length{xs:List V}{us:List Value}(r:Vals xs us):xs.length=us.length:=Paired.length r
theorem Vals.get:∀{xs:List V}{us:List Value}{i:Nat}{x:V},Vals xs us→xs[i]?=some x→∃ u,us[i]?=some u∧RelV x u
 | _,_,_,_,.nil,e=>by simp at e
 | _,_,0,_,.cons r _,e=>by simp at e;subst e;exact⟨_,rfl,r⟩
 | _,_,i+1,x,.cons _ t,e=>by
  obtain⟨u,h1,h2⟩:=Vals.get (i:=i) (x:=x) t (by simpa using e)
  exact⟨u,by simpa using h1,h2⟩
theorem Vals.set{x:V}{u:Value}(r:RelV x u):∀{xs:List V}{us:List Value}(i:Nat),Vals xs us→Vals (xs.set i x) (us.set i u)
 | _,_,_,.nil=>.nil
 | _,_,0,.cons _ t=>.cons r t
 | _,_,i+1,.cons q t=>.cons q (Vals.set r i t)
theorem Vals.append:∀{xs ys:List V}{us ws:List Value},Vals xs us→Vals ys ws→Vals (xs++ys) (us++ws)
 | _,_,_,_,.nil,s=>s
 | _,_,_,_,.cons r t,s=>.cons r (Vals.append t s)
theorem Vals.take:∀{xs:List V}{us:List Value}(n:Nat),Vals xs us→Vals (xs.take n) (us.take n)
 | _,_,0,_=>.nil
 | _,_,_+1,.nil=>.nil
 | _,_,n+1,.cons r t=>.cons r (Vals.take n t)
theorem Vals.drop:∀{xs:List V}{us:List Value}(n:Nat),Vals xs us→Vals (xs.drop n) (us.drop n)
 | _,_,0,r=>r
 | _,_,_+1,.nil=>.nil
 | _,_,n+1,.cons _ t=>Vals.drop n t
def RelO:Option V→Option Value→Prop
 | some v,some u=>RelV v u
 | none,none=>True
 | _,_=>False
def KV{κ:Type}:List (κ×V)→List (κ×Value)→Prop:=Paired fun (p:κ×V) (q:κ×Value)=>p.1=q.1∧RelV p.2 q.2
def kV:Key→V
 | .inl i=>.int i
 | .inr x=>.str x
inductive HO where
 | lst (xs:List V)
 | tup (xs:List V)
 | dK (kvs:List (Key×V)) | dT (kvs:List (List Key×V))
 | set (S:Int→Bool) (n:Nat)
 | ins (C dx:Addr) (fs:List (Str×V))
 | own (x:Addr)
 | xd (fs:List (Str×V))
 | met (f x:Addr)
 | rng (lo hi:Int)
 | frz (o:Obj) (u:HO)
 | tbl (ps:Array Value)
 | ext (φ:Heap→Prop)
abbrev Hp:=Addr→Option HO
def upd(H:Hp)(a:Addr)(o:HO):Hp:=fun b=>if b=a then some o else H b
theorem upd_same{H:Hp}{a:Addr}{o:HO}:upd H a o a=some o:=by unfold upd;rw[if_pos rfl]
theorem upd_ne{H:Hp}{a b:Addr}{o:HO}(h:b≠a):upd H a o b=H b:=by unfold upd;rw[if_neg h]
theorem ne_of{H:Hp}{a b:Addr}{o u:HO}(h:H a=some o)(h':H b=some u)(d:o≠u):a≠b:=by
 intro e;subst e;rw[h] at h';exact d (Option.some.inj h')
theorem ne_of_none{H:Hp}{a b:Addr}{o:HO}(h:H a=some o)(h':H b=none):a≠b:=by
 intro e;subst e;rw[h] at h';cases h'
section
variable (P:Program)(w:World)
def ObjOk(H:Hp)(h:Heap)(a:Addr):HO→Prop
 | .lst xs=>xs.length≤sizeLine∧∃(its:List Value)(n:Nat),Vals xs its∧h.get? a=some { cls:=.type "list", data:=.seq its.toArray n }
 | .tup xs=>xs.length≤sizeLine∧∃ its:List Value,Vals xs its∧IsTup h a its.toArray
 | .dK kvs=>kvs.length≤sizeLine∧(a == sysModules)=false∧∃ vs,KV kvs vs∧h.DictOf (mixKind P w) a vs
 | .dT kvs=>kvs.length≤sizeLine∧(a == sysModules)=false∧∃ xs:List (List Key×Addr×Value),
   Paired (fun (p:List Key×V) (q:List Key×Addr×Value)=>p.1=q.1∧H q.2.1=some (.tup (p.1.map kV))∧RelV p.2 q.2.2) kvs xs ∧
   ∃ o es ep,h.get? a=some o∧o.ExactDict∧o.data=.dict es ep∧es.toList=xs.map (entryOfKey (tupleKind (mixKind P w)))∧(xs.map (·.1)).Nodup
 | .set S n=>h.SetOf (intKind P w) a S n
 | .ins C dx fs=>H dx=some (.own a)∧fs.length≤1000∧dx≠a∧h.get? a=some (PySem.W.instObj C dx) ∧
   ∃ mA,h.Ns1 dx mA∧(∀ f,RelO (fs.lookup f) (mA f))∧PySem.Within mA (fs.map (·.1))
 | .own _=>∃ o,h.get? a=some o
 | .xd fs=>∃ mA,h.Ns1 a mA∧∀ f,RelO (fs.lookup f) (mA f)
 | .rng lo hi=>∃ t u v,h.get? a=some { cls:=.type "range", data:=.fields #[.int lo t,.int hi u,.int 1 v] }
 | .frz o u=>h.get? a=some o∧ObjOk H h a u
 | .tbl ps=>h.get? a=some { cls:=.none,data:=.fields ps }
 | .met f x=>h.get? a=some (PySem.W.methodObj (.ref f) (.ref x))
 | .ext φ=>φ h∧(∃ o,h.get? a=some o)∧∀ h1 h2:Heap,φ h1→(∀ o,h1.get? a=some o→h2.get? a=some o)→φ h2
def HOk(H:Hp)(h:Heap):Prop:=∀ a o,H a=some o→ObjOk P w H h a o
end
section
variable {P:Program}{w:World}{H H':Hp}{h h':Heap}{a:Addr}{o:HO}
theorem ObjOk.lt(x:ObjOk P w H h a o):a < h.objs.size:=by
 cases o with
 | lst xs=>obtain⟨_,_,_,_,e⟩:=x;exact Heap.lt_size e
 | tup xs=>obtain⟨_,_,_,p⟩:=x;exact p.lt
 | dK kvs=>obtain⟨_,_,_,_,o,_,_,e,_⟩:=x;exact Heap.lt_size e
 | dT kvs=>obtain⟨_,_,_,_,o,_,_,e,_⟩:=x;exact Heap.lt_size e
 | set S n=>obtain⟨o,_,_,_,e,_⟩:=x;exact Heap.lt_size e
 | ins C dx fs=>obtain⟨_,_,_,e,_⟩:=x;exact Heap.lt_size e
 | own y=>obtain⟨_,e⟩:=x;exact Heap.lt_size e
 | xd fs=>obtain⟨_,⟨_,_,_,e,_⟩,_⟩:=x;exact Heap.lt_size e
 | rng lo hi=>obtain⟨_,_,_,e⟩:=x;exact Heap.lt_size e
 | frz ob u=>obtain⟨e,_⟩:=x;exact Heap.lt_size e
 | tbl ps=>exact Heap.lt_size (show h.get? a=some _ from x)
 | met f y=>exact Heap.lt_size (show h.get? a=some _ from x)
 | ext φ=>obtain⟨_,⟨_,e⟩,_⟩:=x;exact Heap.lt_size e
theorem Paired.mapP{α β:Type}{F G:α→β→Prop}:∀{l₁:List α}{l₂:List β},Paired F l₁ l₂→(∀ a b,F a b→G a b)→Paired G l₁ l₂
 | _,_,.nil,_=>.nil
 | _,_,.cons r t,f=>.cons (f _ _ r) (Paired.mapP t f)
theorem ObjOk.stay(x:ObjOk P w H h a o)(k:∀ b u,(b=a∨H b=some (.own a))→h.get? b=some u→h'.get? b=some u)
  (ho:∀ b,H b=some (.own a)→H' b=some (.own a)) (ht:∀ b xs,H b=some (.tup xs)→H' b=some (.tup xs)):ObjOk P w H' h' a o:=by
 induction o with
 | lst xs=>obtain⟨z,its,n,r,e⟩:=x;exact⟨z,its,n,r,k _ _ (.inl rfl) e⟩
 | tup xs=>obtain⟨z,its,r,ob,e,c⟩:=x;exact⟨z,its,r,ob,k _ _ (.inl rfl) e,c⟩
 | dK kvs=>obtain⟨z,y,vs,r,ob,es,ep,e,c⟩:=x;exact⟨z,y,vs,r,ob,es,ep,k _ _ (.inl rfl) e,c⟩
 | dT kvs =>
  obtain⟨z,y,xs,r,ob,es,ep,e,c⟩:=x
  exact⟨z,y,xs,Paired.mapP r fun p q z=>⟨z.1,ht _ _ z.2.1,z.2.2⟩,ob,es,ep,k _ _ (.inl rfl) e,c⟩
 | set S n=>obtain⟨ob,es,ep,t,e,c⟩:=x;exact⟨ob,es,ep,t,k _ _ (.inl rfl) e,c⟩
 | ins C dx fs =>
  obtain⟨d,z,ne,e,mA,⟨od,es,ep,e2,c⟩,r⟩:=x
  exact⟨ho _ d,z,ne,k _ _ (.inl rfl) e,mA,⟨od,es,ep,k _ _ (.inr d) e2,c⟩,r⟩
 | own y=>obtain⟨ob,e⟩:=x;exact⟨ob,k _ _ (.inl rfl) e⟩
 | xd fs=>obtain⟨mA,⟨od,es,ep,e,c⟩,r⟩:=x;exact⟨mA,⟨od,es,ep,k _ _ (.inl rfl) e,c⟩,r⟩
 | rng lo hi=>obtain⟨t,u,v,e⟩:=x;exact⟨t,u,v,k _ _ (.inl rfl) e⟩
 | frz ob u ih=>obtain⟨e,q⟩:=x;exact⟨k _ _ (.inl rfl) e,ih q⟩
 | tbl ps =>
  have e:h.get? a=some { cls:=.none,data:=.fields ps }:=x
  show h'.get? a=some { cls:=.none,data:=.fields ps }
  exact k a _ (.inl rfl) e
 | met f y =>
  have e:h.get? a=some (PySem.W.methodObj (.ref f) (.ref y)):=x
  show h'.get? a=some (PySem.W.methodObj (.ref f) (.ref y))
  exact k a _ (.inl rfl) e
 | ext φ=>obtain⟨p,⟨o,e⟩,st⟩:=x;exact⟨st _ _ p fun o q=>k _ _ (.inl rfl) q,⟨o,k _ _ (.inl rfl) e⟩,st⟩
theorem HOk.lt(x:HOk P w H h)(e:H a=some o):a < h.objs.size:=(x a o e).lt
theorem HOk.fresh(x:HOk P w H h)(e:h.objs.size≤a):H a=none:=by
 cases q:H a with
 | none=>rfl
 | some u=>exact absurd (Nat.lt_of_lt_of_le (x.lt q) e) (Nat.lt_irrefl _)
theorem HOk.kept(x:HOk P w H h)(k:∀ b u,h.get? b=some u→h'.get? b=some u):HOk P w H h':=fun a o e =>
 (x a o e).stay (fun b u _ q=>k b u q) (fun _ q=>q) fun _ _ q=>q
theorem HOk.laid(x:HOk P w H h)(k:∀ b u,h.get? b=some u→h'.get? b=some u)(hp:h.objs.size≤a)(new:ObjOk P w (upd H a o) h' a o):HOk P w (upd H a o) h':=fun b u e=>by
 have hn:=x.fresh hp
 by_cases hb:b=a
 ·subst hb;rw[upd_same] at e;cases e;exact new
 ·rw[upd_ne hb] at e
  exact (x b u e).stay (fun c v _ q=>k c v q) (fun c q=>by rw[upd_ne (ne_of_none q hn)];exact q) fun c xs q=>by rw[upd_ne (ne_of_none q hn)];exact q
end
def Rd(H:Hp)(a:Addr)(u:HO):Prop:=H a=some u∨∃ o,H a=some (.frz o u)
theorem Rd.ok{P:Program}{w:World}{H:Hp}{h:Heap}{a:Addr}{u:HO}(r:Rd H a u)(x:HOk P w H h):ObjOk P w H h a u:=by
 rcases r with r | ⟨o,r⟩
 ·exact x a u r
 ·obtain⟨_,q⟩:=x a _ r
  exact q
def Mut:Option HO→Prop
 | some (.lst _)=>True
 | some (.dK _)=>True
 | some (.dT _)=>True
 | some (.set _ _)=>True
 | some (.ins _ _ _)=>True
 | some (.ext _)=>True
 | _=>False
section
variable {P:Program}{w:World}{H:Hp}{h h':Heap}{x e:Addr}{o':HO}
theorem HOk.write(ok:HOk P w H h)(mu:Mut (H x))(he:e=x∨H e=some (.own x))(k:∀ b u,b≠e→h.get? b=some u→h'.get? b=some u)(heo:∃ u,h'.get? e=some u)
  (new:ObjOk P w (upd H x o') h' x o'):HOk P w (upd H x o') h':=fun b u q=>by
 have nown:∀ c y,H c=some (.own y)→c≠x:=fun c y r z=>by subst z;rw[r] at mu;exact mu
 have ntup:∀ c xs,H c=some (.tup xs)→c≠x:=fun c xs r z=>by subst z;rw[r] at mu;exact mu
 by_cases hb:b=x
 ·subst hb;rw[upd_same] at q;cases q;exact new
 ·rw[upd_ne hb] at q
  by_cases hbe:b=e
  ·have q':H b=some (.own x):=by
    rcases he with z | z
    ·exact absurd (hbe.trans z) hb
    ·rw[hbe];exact z
   rw[q] at q';cases q'
   obtain⟨v,hv⟩:=heo
   exact⟨v,by rw[hbe];exact hv⟩
  ·refine (ok b u q).stay (fun c v hc r=>k c v ?_ r) (fun c r=>by rw[upd_ne (nown c b r)];exact r) fun c xs r=>by rw[upd_ne (ntup c xs r)];exact r
   rcases hc with rfl | hc
   ·exact hbe
   ·rintro rfl
    rcases he with z | z
    ·exact nown c b hc z
    ·rw[hc] at z;cases z;exact hb rfl
end
structure Un(fs ex:List Addr)(H H':Hp)(h h':Heap):Prop where
 keep:∀ b o,h.get? b=some o→H b=none→b∉fs→b∉ex→h'.get? b=some o
 slot:∀ b o,h.get? b=some o→H b=none→b∈fs→b∉ex→∃ sl,h'.get? b=some { o with slots:=sl }
 free:∀ b o,h.get? b=some o→H b=none→b∉ex→H' b=none
 there:∀ b o,h.get? b=some o→b∉ex→∃ o',h'.get? b=some o'
 tups:∀ b xs,H b=some (.tup xs)→H' b=some (.tup xs)
 frzs:∀ b o u,H b=some (.frz o u)→H' b=some (.frz o u)
 tbls:∀ b ps,H b=some (.tbl ps)→∃ more,H' b=some (.tbl (ps++more))
section
variable {fs fs' ex ex':List Addr}{H H1 H2:Hp}{h h1 h2 h':Heap}{a x e:Addr}{o:HO}
theorem Un.any(u:Un fs ex H H1 h h1){b:Addr}{ob:Obj}(q:h.get? b=some ob)(n:H b=none)(hx:b∉ex):∃ sl,h1.get? b=some { ob with slots:=sl }:=by
 by_cases hb:b∈fs
 ·exact u.slot b ob q n hb hx
 ·exact⟨ob.slots,u.keep b ob q n hb hx⟩
theorem Un.trans(a:Un fs ex H H1 h h1)(b:Un fs ex H1 H2 h1 h2):Un fs ex H H2 h h2 where
 keep:=fun c ob q n hc hx=>b.keep c ob (a.keep c ob q n hc hx) (a.free c ob q n hx) hc hx
 slot:=fun c ob q n hc hx=>by
  obtain⟨sl,e1⟩:=a.slot c ob q n hc hx
  obtain⟨sl',e2⟩:=b.slot c _ e1 (a.free c ob q n hx) hc hx
  exact⟨sl',e2⟩
 free:=fun c ob q n hx=>by
  obtain⟨o',e1⟩:=a.there c ob q hx
  exact b.free c o' e1 (a.free c ob q n hx) hx
 there:=fun c ob q hx=>by
  obtain⟨o',e1⟩:=a.there c ob q hx
  exact b.there c o' e1 hx
 tups:=fun c xs q=>b.tups c xs (a.tups c xs q)
 frzs:=fun c ob xs q=>b.frzs c ob xs (a.frzs c ob xs q)
 tbls:=fun c ps q=>by
  obtain⟨m1,e1⟩:=a.tbls c ps q
  obtain⟨m2,e2⟩:=b.tbls c _ e1
  exact⟨m1++m2,by rw[e2,Array.append_assoc]⟩
theorem Un.kept(k:∀ b u,h.get? b=some u→h'.get? b=some u):Un fs ex H H h h' :=
 ⟨fun b ob q _ _ _=>k b ob q,fun b ob q _ _ _=>⟨ob.slots,k b ob q⟩,fun _ _ _ n _=>n,fun b ob q _=>⟨ob,k b ob q⟩,fun _ _ q=>q,fun _ _ _ q=>q,fun _ ps q=>⟨#[],by rw[q];simp⟩⟩
theorem Un.refl:Un fs ex H H h h:=Un.kept fun _ _ q=>q
theorem Un.laid(k:∀ b u,h.get? b=some u→h'.get? b=some u)(hp:h.objs.size≤a)(hn:H a=none):Un fs ex H (upd H a o) h h' where
 keep:=fun b u q _ _ _=>k b u q
 slot:=fun b u q _ _ _=>⟨u.slots,k b u q⟩
 free:=fun b u q n _=>by rw[upd_ne (Nat.ne_of_lt (Nat.lt_of_lt_of_le (Heap.lt_size q) hp))];exact n
 there:=fun b u q _=>⟨u,k b u q⟩
 tups:=fun b xs q=>by rw[upd_ne (ne_of_none q hn)];exact q
 frzs:=fun b u xs q=>by rw[upd_ne (ne_of_none q hn)];exact q
 tbls:=fun b ps q=>⟨#[],by rw[upd_ne (ne_of_none q hn),q];simp⟩
theorem Un.write(mu:Mut (H x))(he:e=x∨H e=some (.own x))(k:∀ b u,b≠e→h.get? b=some u→h'.get? b=some u)(heo:∃ u,h'.get? e=some u):Un fs ex H (upd H x o) h h':=by
 have hx:∀ b,H b=none→b≠x:=fun b n z=>by subst z;rw[n] at mu;exact mu
 have hb:∀ b,H b=none→b≠e:=fun b n z=>by
  subst z
  rcases he with r | r
  ·exact hx b n r
  ·rw[n] at r;cases r
 have hm:∀ b u,H b=some u→¬ Mut (some u)→b≠x:=fun b u q nm z=>by subst z;rw[q] at mu;exact nm mu
 refine⟨fun b u q n _ _=>k b u (hb b n) q,fun b u q n _ _=>⟨u.slots,k b u (hb b n) q⟩,fun b u q n _=>by rw[upd_ne (hx b n)];exact n,fun b u q _=>?_,
  fun b xs q=>by rw[upd_ne (hm b _ q fun z=>z)];exact q,fun b u xs q=>by rw[upd_ne (hm b _ q fun z=>z)];exact q,fun b ps q=>⟨#[],by rw[upd_ne (hm b _ q fun z=>z),q];simp⟩⟩
 by_cases hbe:b=e
 ·subst hbe;exact heo
 ·exact⟨u,k b u hbe q⟩
end
def trk(h:Heap)(H:Hp):List Addr:=(List.range h.objs.size).filter fun a=>(H a).isSome
def hidT(h:Heap)(H:Hp):Heap:=PySem.W.hideAll h (trk h H)
theorem hidT_size(h:Heap)(H:Hp):(hidT h H).objs.size=h.objs.size:=PySem.W.hideAll_size _ _
theorem hidT_get{h:Heap}{H:Hp}{b:Addr}{o:Obj}(e:h.get? b=some o)(n:H b=none):(hidT h H).get? b=some o :=
 PySem.W.hideAll_get _ e fun hm=>by
  have q:(H b).isSome=true:=(List.mem_filter.mp hm).2
  rw[n] at q;simp at q
theorem of_hidT{h:Heap}{H:Hp}{b:Addr}{o:Obj}(e:(hidT h H).get? b=some o):h.get? b=some o∧H b=none:=by
 have e':h.get? b=some o:=PySem.W.of_hideAll (trk h H) e
 refine⟨e',?_⟩
 cases q:H b with
 | none=>rfl
 | some x =>
  have hm:b∈trk h H:=List.mem_filter.mpr ⟨List.mem_range.mpr (Heap.lt_size e'),by simp[q]⟩
  have z:(hidT h H).get? b=none:=PySem.W.hideAll_none (trk h H) hm
  rw[z] at e;cases e
def allNews(g h:Heap)(L:Addr):List (Addr×Obj):=(List.range h.objs.size).filterMap fun a=>if a=L∨(g.get? a).isSome=true then none else (h.get? a).map fun o=>(a,o)
def rest(g h:Heap)(L d:Addr):List (Addr×Obj):=(allNews g h L).filter fun p=>decide (p.1≠d)
end L2
namespace L2
open PySem PySem.Spec PyProof.Rows
structure Mod(K:PySem.W.Frag)(mg:Str→Option Value)(base:Heap):Prop where
 kin:K.In base
 glob:base.Ns mainGlobals mg
 blt:∃ mb,base.Ns builtinsNs mb∧∀ x:Str,x ≠ "__name__" → mb x=bootBuiltins x
 nolimit:base.NoLimit
structure Cx where
 prog:Program
 w:World
 K:PySem.W.Frag
 mg:Str→Option Value
 base:Heap
 A:Around
 N:List Str
 s₀:Shared
 H₀:Hp
 env:Env
 outer:List Env
 stack:List Env
 ex:List Addr
 fn:Str→Bool
 calm:Bool
 pn:List (Addr×Obj)
 xe:Value→Shared→Prop
def frs(l:List Env):List Addr:=l.filterMap (·.frame)
abbrev Cx.fs(X:Cx):List Addr:=frs X.outer
def Vis(sc:Scope)(x:Str):Prop:=sc.names.lookup x=some .local∨sc.names.lookup x=some .cell∨sc.names.lookup x=some .free
def Loc(sc:Scope)(x:Str):Prop:=sc.names.lookup x=some .local∨sc.names.lookup x=some .cell
def Look(env:Env)(h:Heap)(m:Str→Option Value)(x:Str)(u:Value):Prop :=
 (env.kindOf x=some .local∧m x=some u)∨((env.kindOf x=some .cell∨env.kindOf x=some .free)∧∃ c,env.cells.lookup x=some c∧h.IsCell c (some u))
structure Cx.Ok(X:Cx):Prop where
 mod:Mod X.K X.mg X.base
 kind:X.env.scope.kind=.function
 glob:X.env.globals=mainGlobals
 blt:X.env.builtins=builtinsNs
 above:X.s₀.heap.objs.size≤X.env.locals
 inj:∀ x y c,X.env.cells.lookup x=some c→X.env.cells.lookup y=some c→x=y
 has:∀ x,(X.env.kindOf x=some .cell∨X.env.kindOf x=some .free)→∃ c,X.env.cells.lookup x=some c
 cab:∀ x c,X.fn x=true→X.env.cells.lookup x=some c→X.s₀.heap.objs.size≤c
 hd:X.calm=true→X.A.handled=none
 frames:X.A.frames=some X.stack
 stk:X.stack=X.outer∨(X.stack=X.env::X.outer∧X.env.frame=some X.env.locals)
 exf:∀ b∈X.ex,b≠X.env.locals∧∀ x c,X.env.cells.lookup x=some c→c≠b
 bs:∀ b o,X.base.get? b=some o→X.s₀.heap.get? b=some o∧X.H₀ b=none
 bsz:X.base.objs.size≤X.s₀.heap.objs.size
 noex:∀ b o,X.base.get? b=some o→b∉X.ex
 exfs:∀ b∈X.ex,b∉X.fs
 funs:X.s₀.heap.FunFrames X.base X.outer
 frf:∀ b∈X.fs,X.H₀ b=none
structure Inv(X:Cx)(pins:List (Addr×Obj))(σ:List (Option V))(H:Hp)(s:Shared):Prop where
 ok:X.Ok
 os:s.os=X.s₀.os
 bare:AllBare s.gens
 base:Un X.fs X.ex X.H₀ H X.s₀.heap s.heap
 loc:∃ m,s.heap.Ns X.env.locals m∧∀(i:Nat)(x:Str)(v:V),X.N[i]?=some x→σ[i]?=some (some v)→Vis X.env.scope x→∃ u,RelV v u∧Look X.env s.heap m x u
 cell:∀ x c,X.env.cells.lookup x=some c→∃ v,s.heap.IsCell c v
 free:H X.env.locals=none
 freeC:∀ x c,X.env.cells.lookup x=some c→H c=none
 pin:∀ p∈X.pn++pins,s.heap.get? p.1=some p.2∧H p.1=none∧p.1≠X.env.locals∧p.1∉X.fs∧∀ v,p.2.data≠.cell v
 hok:HOk X.prog X.w H s.heap
 len:σ.length=X.N.length
section
variable {X:Cx}{pins:List (Addr×Obj)}{σ:List (Option V)}{H H':Hp}{s:Shared}{h':Heap}
theorem Cx.Ok.nofr(ok:X.Ok){b:Addr}{o:Obj}(e:X.base.get? b=some o):b∉X.fs:=fun hb=>by
 have:=(ok.funs.mem hb).1
 rw[e] at this;cases this
theorem Inv.bs(I:Inv X pins σ H s):∀ b o,X.base.get? b=some o→s.heap.get? b=some o∧H b=none:=fun b o e =>
 ⟨I.base.keep b o (I.ok.bs b o e).1 (I.ok.bs b o e).2 (I.ok.nofr e) (I.ok.noex b o e),I.base.free b o (I.ok.bs b o e).1 (I.ok.bs b o e).2 (I.ok.noex b o e)⟩
theorem Inv.bk(I:Inv X pins σ H s):∀ b o,X.base.get? b=some o→s.heap.get? b=some o:=fun b o e=>(I.bs b o e).1
theorem Inv.mod(I:Inv X pins σ H s):Mod X.K X.mg X.base:=I.ok.mod
theorem Inv.kIn(I:Inv X pins σ H s):X.K.In s.heap:=I.ok.mod.kin.keeps I.bk
theorem Inv.lt(I:Inv X pins σ H s):X.env.locals < s.heap.objs.size:=let ⟨_,hn,_⟩:=I.loc;hn.lt
theorem Inv.sz(I:Inv X pins σ H s):X.s₀.heap.objs.size≤s.heap.objs.size:=Nat.le_trans I.ok.above (Nat.le_of_lt I.lt)
theorem Inv.nofs(I:Inv X pins σ H s){a:Addr}(h:s.heap.objs.size≤a):a∉X.fs:=fun hb=>by
 obtain⟨_,o,ho,_⟩:=I.ok.funs.mem hb
 exact absurd (Nat.lt_of_lt_of_le (Heap.lt_size ho) (Nat.le_trans I.sz h)) (Nat.lt_irrefl _)
theorem Inv.cne(I:Inv X pins σ H s):∀ x c,X.env.cells.lookup x=some c→c≠X.env.locals:=fun x c e z=>by
 obtain⟨v,o,ho,hd⟩:=I.cell x c e
 obtain⟨m,⟨o',es,ep,ho',hd',_⟩,_⟩:=I.loc
 rw[z,ho'] at ho;cases ho;rw[hd'] at hd;cases hd
theorem Inv.funs(I:Inv X pins σ H s):s.heap.FunFrames X.base X.outer:=by
 have all:∀(l:List Env),(∀ b∈frs l,b∈X.fs)→X.s₀.heap.FunFrames X.base l→s.heap.FunFrames X.base l:=by
  intro l
  induction l with
  | nil=>intro _ _;trivial
  | cons env r ih =>
   intro hs hl
   obtain⟨hk,⟨L,o,hf,hn,ho,hd⟩,hr⟩:=hl
   have hL:L∈X.fs:=hs L (by unfold frs;rw[List.filterMap_cons,hf];exact List.mem_cons_self)
   obtain⟨sl,e⟩:=I.base.slot L o ho (I.ok.frf L hL) hL fun z=>I.ok.exfs L z hL
   exact⟨hk,⟨L,_,hf,hn,e,hd⟩,ih (fun b hb=>hs b (by unfold frs;rw[List.filterMap_cons,hf];exact List.mem_cons_of_mem _ hb)) hr⟩
 exact all X.outer (fun _ hb=>hb) I.ok.funs
theorem Inv.stack(I:Inv X pins σ H s):s.heap.FunFrames X.base X.stack:=by
 rcases I.ok.stk with e | ⟨e,hf⟩
 ·rw[e];exact I.funs
 ·rw[e]
  obtain⟨m,hn,_⟩:=I.loc
  refine .cons (by rw[I.ok.kind];decide) hf hn ?_ I.funs
  exact Heap.get?_none_of_le (Nat.le_trans I.ok.bsz I.ok.above)
theorem Inv.stkSub(I:Inv X pins σ H s):∀ b∈frs X.stack,b∈X.env.locals::X.fs:=fun b hb=>by
 rcases I.ok.stk with e | ⟨e,hf⟩
 ·rw[e] at hb;exact List.mem_cons_of_mem _ hb
 ·rw[e] at hb
  unfold frs at hb
  rw[List.filterMap_cons,hf] at hb
  exact hb
theorem Inv.stkFree(I:Inv X pins σ H s):∀ b∈frs X.stack,H b=none:=fun b hb=>by
 rcases List.mem_cons.mp (I.stkSub b hb) with e | hb
 ·rw[e];exact I.free
 ·obtain⟨_,o,ho,_⟩:=I.ok.funs.mem hb
  exact I.base.free b o ho (I.ok.frf b hb) fun z=>I.ok.exfs b z hb
theorem Inv.step{g':Array GenState}{t':Nat}{d':Drawn}{ch:List Addr}(I:Inv X pins σ H s)
  (hch:∀ b∈ch,(b∈X.ex∨X.s₀.heap.objs.size≤b)∧b≠X.env.locals∧(∀ x c,X.env.cells.lookup x=some c→c≠b)∧∀ p∈X.pn++pins,p.1≠b)
  (keep:∀ b o,b≠X.env.locals→b∉X.fs→b∉ch→s.heap.get? b=some o→H b=none→h'.get? b=some o)
  (slot:∀ b o,b≠X.env.locals→b∈X.fs→b∉ch→s.heap.get? b=some o→H b=none→∃ sl,h'.get? b=some { o with slots:=sl }) (free:∀ b o,b∉ch→s.heap.get? b=some o→H b=none→H' b=none)
  (there:∀ b o,b∉ch→s.heap.get? b=some o→∃ o',h'.get? b=some o')
  (tups:∀ b xs,H b=some (.tup xs)→H' b=some (.tup xs)) (frzs:∀ b o u,H b=some (.frz o u)→H' b=some (.frz o u)) (tbls:∀ b ps,H b=some (.tbl ps)→∃ more,H' b=some (.tbl (ps++more)))
  (ns:∀ m,s.heap.Ns X.env.locals m→h'.Ns X.env.locals m) (hok:HOk X.prog X.w H' h') (hg:AllBare g') :
  Inv X pins σ H' { s with heap:=h',gens:=g',drawn:=d',toks:=t' }:=by
 have neL:∀ b o,X.s₀.heap.get? b=some o→b≠X.env.locals:=fun b o e=>Nat.ne_of_lt (Nat.lt_of_lt_of_le (Heap.lt_size e) I.ok.above)
 have neC:∀ b o,X.s₀.heap.get? b=some o→b∉X.ex→b∉ch:=fun b o e hx hb=>by
  rcases (hch b hb).1 with z | z
  ·exact hx z
  ·exact absurd (Nat.lt_of_lt_of_le (Heap.lt_size e) z) (Nat.lt_irrefl _)
 have cellK:∀ x c,X.env.cells.lookup x=some c→∀ v,s.heap.IsCell c v→h'.IsCell c v:=fun x c e v ⟨o,ho,hd⟩=>by
  have nch:c∉ch:=fun z=>(hch c z).2.2.1 x c e rfl
  by_cases hc:c∈X.fs
  ·obtain⟨sl,q⟩:=slot c o (I.cne x c e) hc nch ho (I.freeC x c e)
   exact⟨_,q,hd⟩
  ·exact⟨o,keep c o (I.cne x c e) hc nch ho (I.freeC x c e),hd⟩
 refine⟨I.ok,I.os,hg,⟨fun b o e n hb hx=>?_,fun b o e n hb hx=>?_,fun b o e n hx=>?_,fun b o e hx=>?_,fun b xs e=>tups b xs (I.base.tups b xs e),fun b o xs e=>frzs b o xs (I.base.frzs b o xs e),fun b ps e=>?_⟩,?_,fun x c e=>?_,?_,fun x c e=>?_,fun p hp=>?_,hok,I.len⟩
 ·exact keep b o (neL b o e) hb (neC b o e hx) (I.base.keep b o e n hb hx) (I.base.free b o e n hx)
 ·obtain⟨sl,e1⟩:=I.base.slot b o e n hb hx
  obtain⟨sl',e2⟩:=slot b _ (neL b o e) hb (neC b o e hx) e1 (I.base.free b o e n hx)
  exact⟨sl',e2⟩
 ·obtain⟨o',e1⟩:=I.base.there b o e hx
  exact free b o' (neC b o e hx) e1 (I.base.free b o e n hx)
 ·obtain⟨o',e1⟩:=I.base.there b o e hx
  exact there b o' (neC b o e hx) e1
 ·obtain⟨m1,e1⟩:=I.base.tbls b ps e
  obtain⟨m2,e2⟩:=tbls b _ e1
  exact⟨m1++m2,by rw[e2,Array.append_assoc]⟩
 ·obtain⟨m,hn,hl⟩:=I.loc
  refine⟨m,ns m hn,fun i x v e1 e2 e3=>?_⟩
  obtain⟨u,r,l⟩:=hl i x v e1 e2 e3
  refine⟨u,r,?_⟩
  rcases l with l | ⟨k,c,e,z⟩
  ·exact .inl l
  ·exact .inr ⟨k,c,e,cellK x c e _ z⟩
 ·obtain⟨v,z⟩:=I.cell x c e
  exact⟨v,cellK x c e v z⟩
 ·obtain⟨m,⟨o,_,_,ho,_⟩,_⟩:=I.loc
  exact free _ o (fun z=>(hch _ z).2.1 rfl) ho I.free
 ·obtain⟨v,o,ho,hd⟩:=I.cell x c e
  exact free c o (fun z=>(hch c z).2.2.1 x c e rfl) ho (I.freeC x c e)
 ·obtain⟨e,n,ne,nf,d⟩:=I.pin p hp
  have nch:p.1∉ch:=fun z=>(hch p.1 z).2.2.2 p hp rfl
  exact⟨keep p.1 p.2 ne nf nch e n,free p.1 p.2 nch e n,ne,nf,d⟩
theorem Inv.un{t':Nat}(I:Inv X pins σ H s)(u:Un X.fs [] H H' s.heap h')(hok:HOk X.prog X.w H' h'):Inv X pins σ H' { s with heap:=h',toks:=t' }:=by
 obtain⟨m,⟨o,es,ep,ho,r⟩,_⟩:=id I.loc
 obtain⟨sl,hL⟩:=u.any ho I.free (by simp)
 exact I.step (g':=s.gens) (d':=s.drawn) (ch:=[]) (fun _ z=>nomatch z) (fun b o _ hb _ e n=>u.keep b o e n hb (by simp)) (fun b o _ hb _ e n=>u.slot b o e n hb (by simp)) (fun b o _ e n=>u.free b o e n (by simp)) (fun b o _ e=>u.there b o e (by simp)) u.tups u.frzs u.tbls (fun m' hm=>by
  obtain⟨o',es',ep',ho',r'⟩:=hm
  rw[ho] at ho';cases ho'
  exact⟨_,es',ep',hL,r'⟩) hok I.bare
theorem Inv.call{g':Array GenState}{t':Nat}{d':Drawn}{ch:List Addr}(I:Inv X pins σ H s)(u:Un (frs X.stack) ch H H' s.heap h')(hok:HOk X.prog X.w H' h')(hg:AllBare g')
  (hch:∀ b∈ch,(b∈X.ex∨X.s₀.heap.objs.size≤b)∧b≠X.env.locals∧(∀ x c,X.env.cells.lookup x=some c→c≠b)∧∀ p∈X.pn++pins,p.1≠b) :
  Inv X pins σ H' { s with heap:=h',gens:=g',drawn:=d',toks:=t' }:=by
 obtain⟨m,⟨o,es,ep,ho,r⟩,_⟩:=id I.loc
 obtain⟨sl,hL⟩:=u.any ho I.free fun z=>(hch _ z).2.1 rfl
 exact I.step (ch:=ch) hch (fun b o hL hb hc e n=>u.keep b o e n (fun z=>(List.mem_cons.mp (I.stkSub b z)).elim hL hb) hc) (fun b o _ _ hc e n=>u.any e n hc) (fun b o hc e n=>u.free b o e n hc) (fun b o hc e=>u.there b o e hc) u.tups u.frzs u.tbls (fun m' hm=>by
  obtain⟨o',es',ep',ho',r'⟩:=hm
  rw[ho] at ho';cases ho'
  exact⟨_,es',ep',hL,r'⟩) hok hg
theorem Inv.turned{t':Nat}{it:Addr}(I:Inv X pins σ H s)(k:∀ b o,b≠it→s.heap.get? b=some o→h'.get? b=some o)(hn:H it=none)(hL:it≠X.env.locals)
  (h1:it∈X.ex∨X.s₀.heap.objs.size≤it) (h2:∀ x c,X.env.cells.lookup x=some c→c≠it) (h3:∀ p∈X.pn++pins,p.1≠it):Inv X pins σ H { s with heap:=h',toks:=t' }:=by
 have nit:∀ b u,H b=some u→b≠it:=fun b u e z=>by rw[z,hn] at e;cases e
 refine I.step (g':=s.gens) (d':=s.drawn) (ch:=[it]) (fun b hb=>?_) (fun b o _ _ hc e _=>k b o (fun z=>hc (by simp[z])) e) (fun b o _ _ hc e _=>⟨o.slots,k b o (fun z=>hc (by simp[z])) e⟩) (fun _ _ _ _ n=>n)
  (fun b o hc e=>⟨o,k b o (fun z=>hc (by simp[z])) e⟩) (fun _ _ e=>e) (fun _ _ _ e=>e) (fun b ps e=>⟨#[],by rw[e];simp⟩) (fun m hm=>?_) (fun b u e=>?_) I.bare
 ·have e:b=it:=by simpa using hb
  subst e
  exact⟨h1,hL,h2,h3⟩
 ·obtain⟨o,es,ep,ho,r⟩:=hm
  exact⟨o,es,ep,k _ o (Ne.symm hL) ho,r⟩
 ·refine (I.hok b u e).stay (fun c v hc q=>k c v ?_ q) (fun _ q=>q) fun _ _ q=>q
  rcases hc with z | z
  ·rw[z];exact nit b u e
  ·exact nit c _ z
theorem Inv.tok(I:Inv X pins σ H s)(t:Nat):Inv X pins σ H { s with toks:=t }:=I.un (h':=s.heap) (t':=t) Un.refl I.hok
theorem Inv.kept{t':Nat}(I:Inv X pins σ H s)(k:∀ b u,s.heap.get? b=some u→h'.get? b=some u):Inv X pins σ H { s with heap:=h',toks:=t' }:=I.un (Un.kept k) (I.hok.kept k)
theorem Inv.laid{a:Addr}{o:HO}{t':Nat}(I:Inv X pins σ H s)(k:∀ b u,s.heap.get? b=some u→h'.get? b=some u)(hp:s.heap.objs.size≤a)(new:ObjOk X.prog X.w (upd H a o) h' a o) :
  Inv X pins σ (upd H a o) { s with heap:=h',toks:=t' }:=I.un (Un.laid k hp (I.hok.fresh hp)) (I.hok.laid k hp new)
theorem Inv.write{x e:Addr}{o:HO}{t':Nat}(I:Inv X pins σ H s)(mu:Mut (H x))(he:e=x∨H e=some (.own x))(k:∀ b u,b≠e→s.heap.get? b=some u→h'.get? b=some u)(heo:∃ u,h'.get? e=some u)
  (new:ObjOk X.prog X.w (upd H x o) h' x o):Inv X pins σ (upd H x o) { s with heap:=h',toks:=t' }:=I.un (Un.write mu he k heo) (I.hok.write mu he k heo new)
theorem Inv.weak{σ':List (Option V)}(I:Inv X pins σ H s)(hl:σ'.length=σ.length)(w:∀(i:Nat) v,σ'[i]?=some (some v)→σ[i]?=some (some v)):Inv X pins σ' H s :=
 ⟨I.ok,I.os,I.bare,I.base,let ⟨m,hn,hl'⟩:=I.loc;⟨m,hn,fun i x v e1 e2 e3=>hl' i x v e1 (w i v e2) e3⟩,I.cell,I.free,I.freeC,I.pin,I.hok,hl.trans I.len⟩
theorem Inv.pins_of{pins':List (Addr×Obj)}(I:Inv X pins σ H s)(h:∀ p∈pins',s.heap.get? p.1=some p.2∧H p.1=none∧p.1≠X.env.locals∧p.1∉X.fs∧∀ v,p.2.data≠.cell v):Inv X pins' σ H s :=
 ⟨I.ok,I.os,I.bare,I.base,I.loc,I.cell,I.free,I.freeC,fun p hp=>(List.mem_append.mp hp).elim (fun z=>I.pin p (List.mem_append_left _ z)) (h p),I.hok,I.len⟩
theorem nodup_ix{N:List Str}(hN:N.Nodup){i j:Nat}{x:Str}(a:N[i]?=some x)(b:N[j]?=some x):i=j:=by
 obtain⟨h1,e1⟩:=List.getElem?_eq_some_iff.mp a
 obtain⟨h2,e2⟩:=List.getElem?_eq_some_iff.mp b
 exact (List.getElem_inj hN).mp (e1.trans e2.symm)
theorem store_ok2{M:Model}{A:Around}{E:Value→Shared→Prop}{i:Nat}{x:Str}{v:V}{u:Value}{Q:Unit→Shared→Prop}(I:Inv X pins σ H s)(hN:X.N.Nodup)(hi:X.N[i]?=some x)(hx:Loc X.env.scope x)(r:RelV v u)
  (h:∀ s',Inv X pins (σ.set i (some v)) H s'→(∃ a,Heap.SameBut a s.heap s'.heap∧(a=X.env.locals∨X.env.cells.lookup x=some a))→Q () s') (hf:X.fn x=true∨X.env.scope.names.lookup x=some .local:=by first | exact .inl rfl | exact .inr rfl | assumption):wpAny M A (storeName X.env x u) Q E s:=by
 obtain⟨m,hn,hl⟩:=id I.loc
 have hcls:(X.env.scope.kind == .class || (X.env.scope.kind == .module && X.env.locals != X.env.globals))=false:=by rw[I.ok.kind];rfl
 have hiσ:i < σ.length:=by rw[I.len];exact (List.getElem?_eq_some_iff.mp hi).1
 have cne:=I.cne
 have tracked:∀{a:Addr}{h':Heap},(∃ o,s.heap.get? a=some o∧H a=none)→Heap.SameBut a s.heap h'→HOk X.prog X.w H h':=fun {a h'} ha hs b ob e=>by
  obtain⟨_,_,hfree⟩:=ha
  refine (I.hok b ob e).stay (fun c w' hc q=>(hs.2 c ?_).trans q) (fun _ q=>q) fun _ _ q=>q
  rintro rfl
  rcases hc with rfl | hc
  ·rw[hfree] at e;cases e
  ·rw[hfree] at hc;cases hc
 rcases hx with hk | hk
 ·refine wpAny_storeName_local hk hn (fun h' hn' hs=>?_) hcls
  obtain⟨oL,_,_,hoL,_⟩:=id hn
  refine h _ ⟨I.ok,I.os,I.bare,⟨fun b o e n hb hx=>?_,fun b o e n hb hx=>?_,I.base.free,fun b o e hx=>?_,I.base.tups,I.base.frzs,I.base.tbls⟩,⟨_,hn',fun j y v' e1 e2 e3=>?_⟩,fun y c e=>?_,I.free,I.freeC,fun p hp=>?_,tracked ⟨oL,hoL,I.free⟩ hs,by simpa using I.len⟩ ⟨_,hs,.inl rfl⟩
  ·exact (hs.2 b (Nat.ne_of_lt (Nat.lt_of_lt_of_le (Heap.lt_size e) I.ok.above))).trans (I.base.keep b o e n hb hx)
  ·obtain⟨sl,e1⟩:=I.base.slot b o e n hb hx
   exact⟨sl,(hs.2 b (Nat.ne_of_lt (Nat.lt_of_lt_of_le (Heap.lt_size e) I.ok.above))).trans e1⟩
  ·obtain⟨o',e1⟩:=I.base.there b o e hx
   exact⟨o',(hs.2 b (Nat.ne_of_lt (Nat.lt_of_lt_of_le (Heap.lt_size e) I.ok.above))).trans e1⟩
  ·by_cases hj:j=i
   ·subst hj
    rw[hi] at e1;cases e1
    rw[List.getElem?_set_self hiσ] at e2
    cases e2
    exact⟨u,r,.inl ⟨hk,by simp⟩⟩
   ·rw[List.getElem?_set_ne (Ne.symm hj)] at e2
    obtain⟨u',r',q⟩:=hl j y v' e1 e2 e3
    refine⟨u',r',?_⟩
    rcases q with ⟨k,e⟩ | ⟨k,c,e,z⟩
    ·refine .inl ⟨k,?_⟩
     have:y≠x:=fun e=>hj (nodup_ix hN e1 (e▸hi))
     simp[this,e]
    ·exact .inr ⟨k,c,e,z.sameBut hs (cne y c e)⟩
  ·obtain⟨w',z⟩:=I.cell y c e
   exact⟨w',z.sameBut hs (cne y c e)⟩
  ·obtain⟨e,n,ne,nf,d⟩:=I.pin p hp
   exact⟨(hs.2 p.1 ne).trans e,n,ne,nf,d⟩
 ·have hfn:X.fn x=true:=by
   rcases hf with z | z
   ·exact z
   ·rw[z] at hk;cases hk
  obtain⟨c,hc⟩:=I.ok.has x (.inl hk)
  obtain⟨w',z⟩:=I.cell x c hc
  refine wpAny_storeName_cell I.ok.kind hk hc z (fun h' hc' hs=>?_)
  obtain⟨oc,hoc,hocd⟩:=id z
  refine h { s with heap:=h' } ⟨I.ok,I.os,I.bare,⟨fun b o e n hb hx=>?_,fun b o e n hb hx=>?_,I.base.free,fun b o e hx=>?_,I.base.tups,I.base.frzs,I.base.tbls⟩,⟨m,hn.sameBut hs (Ne.symm (cne x c hc)),fun j y v' e1 e2 e3=>?_⟩,fun y c' e=>?_,I.free,I.freeC,fun p hp=>?_,tracked ⟨oc,hoc,I.freeC x c hc⟩ hs,by simpa using I.len⟩ ⟨c,hs,.inr hc⟩
  ·exact (hs.2 b (Nat.ne_of_lt (Nat.lt_of_lt_of_le (Heap.lt_size e) (I.ok.cab x c hfn hc)))).trans (I.base.keep b o e n hb hx)
  ·obtain⟨sl,e1⟩:=I.base.slot b o e n hb hx
   exact⟨sl,(hs.2 b (Nat.ne_of_lt (Nat.lt_of_lt_of_le (Heap.lt_size e) (I.ok.cab x c hfn hc)))).trans e1⟩
  ·obtain⟨o',e1⟩:=I.base.there b o e hx
   exact⟨o',(hs.2 b (Nat.ne_of_lt (Nat.lt_of_lt_of_le (Heap.lt_size e) (I.ok.cab x c hfn hc)))).trans e1⟩
  ·by_cases hj:j=i
   ·subst hj
    rw[hi] at e1;cases e1
    rw[List.getElem?_set_self hiσ] at e2
    cases e2
    exact⟨u,r,.inr ⟨.inl hk,c,hc,hc'⟩⟩
   ·rw[List.getElem?_set_ne (Ne.symm hj)] at e2
    obtain⟨u',r',q⟩:=hl j y v' e1 e2 e3
    refine⟨u',r',?_⟩
    rcases q with q | ⟨k,c',e,z'⟩
    ·exact .inl q
    ·refine .inr ⟨k,c',e,z'.sameBut hs ?_⟩
     rintro rfl
     exact hj (nodup_ix hN e1 (I.ok.inj _ _ _ e hc▸hi))
  ·by_cases hcc:c'=c
   ·subst hcc;exact⟨_,hc'⟩
   ·obtain⟨w2,z2⟩:=I.cell y c' e
    exact⟨w2,z2.sameBut hs hcc⟩
  ·obtain⟨e,n,ne,nf,d⟩:=I.pin p hp
   refine⟨(hs.2 p.1 ?_).trans e,n,ne,nf,d⟩
   intro q
   rw[q,hoc] at e
   have q':oc=p.2:=Option.some.inj e
   exact d w' (by rw[← q'];exact hocd)
theorem store_ok{M:Model}{A:Around}{E:Value→Shared→Prop}{i:Nat}{x:Str}{v:V}{u:Value}{Q:Unit→Shared→Prop}(I:Inv X pins σ H s)(hN:X.N.Nodup)(hi:X.N[i]?=some x)(hx:Loc X.env.scope x)(r:RelV v u)
  (h:∀ s',Inv X pins (σ.set i (some v)) H s'→Q () s') (hf:X.fn x=true∨X.env.scope.names.lookup x=some .local:=by first | exact .inl rfl | exact .inr rfl | assumption):wpAny M A (storeName X.env x u) Q E s :=
 store_ok2 I hN hi hx r (fun s' I' _=>h s' I') hf
theorem Inv.call'{s':Shared}{ch:List Addr}(I:Inv X pins σ H s)(ho:s'.os=s.os)(u:Un (frs X.stack) ch H H' s.heap s'.heap)(hok:HOk X.prog X.w H' s'.heap)(hg:AllBare s'.gens)
  (hch:∀ b∈ch,(b∈X.ex∨X.s₀.heap.objs.size≤b)∧b≠X.env.locals∧(∀ x c,X.env.cells.lookup x=some c→c≠b)∧∀ p∈X.pn++pins,p.1≠b):Inv X pins σ H' s':=by
 obtain⟨h',g',d',t',o'⟩:=s'
 have e:o'=s.os:=ho
 subst e
 exact I.call (g':=g') (t':=t') (d':=d') u hok hg hch
end
abbrev XK:=Value→Option Addr→Hp→Prop
abbrev St:=List (Option V)
abbrev VK:=V→Hp→Prop
abbrev TE:=St→Hp→VK→Prop
abbrev TT:=St→Hp→(Bool→Hp→Prop)→Prop
abbrev TA:=St→Hp→(List V→Hp→Prop)→Prop
structure Ends where
 nx:St→Hp→Prop
 rt:VK
 bk:St→Hp→Prop:=fun _ _=>False
 ct:St→Hp→Prop:=fun _ _=>False
abbrev TS:=Ends→St→Hp→Prop
def EP(X:Cx)(pins:List (Addr×Obj))(σ:St)(Q:VK)(u:Value)(s':Shared):Prop:=∃ v H',Inv X pins σ H' s'∧RelV v u∧Q v H'
def TP(X:Cx)(pins:List (Addr×Obj))(σ:St)(Q:Bool→Hp→Prop)(b:Bool)(s':Shared):Prop:=∃ H',Inv X pins σ H' s'∧Q b H'
def AP(X:Cx)(pins:List (Addr×Obj))(σ:St)(Q:List V→Hp→Prop)(us:List Value)(s':Shared):Prop:=∃ vs H',Inv X pins σ H' s'∧Vals vs us∧Q vs H'
def SP(X:Cx)(pins:List (Addr×Obj))(D:Ends)(f:Flow)(s':Shared):Prop :=
 match f with
 | .next=>∃ σ' H',Inv X pins σ' H' s'∧D.nx σ' H'
 | .brk=>∃ σ' H',Inv X pins σ' H' s'∧D.bk σ' H'
 | .cont=>∃ σ' H',Inv X pins σ' H' s'∧D.ct σ' H'
 | .ret u=>∃ v σ' H',Inv X pins σ' H' s'∧RelV v u∧D.rt v H'
def PE(X:Cx)(e:Expr)(t:TE):Prop :=
 ∀ (pins:List (Addr×Obj)) (s:Shared) (σ:St) (H:Hp) (Q:VK),Inv X pins σ H s→t σ H Q→wpAny (model X.prog X.w) X.A (eval e X.env) (EP X pins σ Q) X.xe s
def PT(X:Cx)(e:Expr)(t:TT):Prop :=
 ∀ (pins:List (Addr×Obj)) (s:Shared) (σ:St) (H:Hp) (Q:Bool→Hp→Prop),Inv X pins σ H s→t σ H Q→wpAny (model X.prog X.w) X.A (isTrue e X.env (eval e X.env)) (TP X pins σ Q) X.xe s
def PW(X:Cx)(e:Expr)(t:TT):Prop :=
 ∀(whole:Sem Value) (pins:List (Addr×Obj)) (s:Shared) (σ:St) (H:Hp) (Q:Bool→Hp→Prop),Inv X pins σ H s→t σ H Q→wpAny (model X.prog X.w) X.A (isTrue e X.env whole) (TP X pins σ Q) X.xe s
theorem PW.pt{X:Cx}{e:Expr}{t:TT}(h:PW X e t):PT X e t:=h _
def PA(X:Cx)(es:List Expr)(t:TA):Prop :=
 ∀(pos:Pos) (pins:List (Addr×Obj)) (s:Shared) (σ:St) (H:Hp) (Q:List V→Hp→Prop),Inv X pins σ H s→t σ H Q→wpAny (model X.prog X.w) X.A (spliced (backTo pos (starEach es X.env))) (AP X pins σ Q) X.xe s
def PS(X:Cx)(st:Stmt)(t:TS):Prop :=
 ∀ (pins:List (Addr×Obj)) (s:Shared) (σ:St) (H:Hp) (D:Ends),Inv X pins σ H s→t D σ H→wpAny (model X.prog X.w) X.A (exec st X.env) (SP X pins D) X.xe s
def PSs(X:Cx)(st:List Stmt)(t:TS):Prop :=
 ∀ (pins:List (Addr×Obj)) (s:Shared) (σ:St) (H:Hp) (D:Ends),Inv X pins σ H s→t D σ H→wpAny (model X.prog X.w) X.A (execs st X.env) (SP X pins D) X.xe s
theorem thn{α:Type}{t:Sem α}{Q Q':α→Shared→Prop}{M:Model}{A:Around}{E:Value→Shared→Prop}{s:Shared}(h:wpAny M A t Q E s)(hQ:∀ a s,Q a s→Q' a s):wpAny M A t Q' E s:=wpAny_mono h hQ fun _ _ x=>x
end L2
namespace L2
open PySem PySem.Spec PyProof.Rows
section
variable {X:Cx}
def tVar(i:Nat):TE:=fun σ H Q=>∃ v,σ[i]?=some (some v)∧Q v H
def tC(v:V):TE:=fun _ H Q=>Q v H
theorem pe_var{i:Nat}{x:Str}{pos:Pos}(hN:X.N[i]?=some x)(hv:Vis X.env.scope x)(hd:(x == ("__debug__" : Str))=false:=by decide)(hcd:(x == ("__classdict__" : Str))=false:=by decide):PE X (.Name x pos) (tVar i):=by
 intro pins s σ H Q I h
 obtain⟨v,e,h⟩:=h
 obtain⟨m,hn,hl⟩:=I.loc
 obtain⟨u,r,l⟩:=hl i x v hN e hv
 have fin:EP X pins σ Q u s:=⟨v,H,I,r,h⟩
 rcases l with ⟨hk,hm⟩ | ⟨hk,c,hc,hcell⟩
 ·exact wpAny_Name (wpAny_loadName_local I.ok.kind hk hn hm fin) hd
 ·rcases hk with hk | hk
  ·exact wpAny_Name (wpAny_loadName_cell I.ok.kind hk hc hcell fin) hd
  ·exact wpAny_Name (wpAny_loadName_free I.ok.kind hk hc hcell fin hcd) hd
theorem pe_int{i j pos}:PE X (.Constant (.int i) j pos) (tC (.int i)):=fun _ _ _ H _ I h=>wpAny_Constant_int ⟨.int i,H,I.tok _,⟨_,rfl⟩,h⟩
theorem pe_bl{b j pos}:PE X (.Constant (.bool b) j pos) (tC (.bl b)):=fun _ _ _ H _ I h=>Constant_bool ⟨.bl b,H,I,rfl,h⟩
theorem pe_non{j pos}:PE X (.Constant .none j pos) (tC .non):=fun _ _ _ H _ I h=>Constant_none ⟨.non,H,I,rfl,h⟩
theorem pe_str{x j pos}:PE X (.Constant (.str x) j pos) (tC (.str x)):=fun _ _ _ H _ I h=>Calls.Constant_str ⟨.str x,H,I.tok _,⟨_,rfl⟩,h⟩
def Gl(X:Cx)(x:Str):Prop:=X.env.kindOf x=some .globalImplicit
theorem ld_glob{E:Value→Shared→Prop}{pins:List (Addr×Obj)}{s:Shared}{σ:St}{H:Hp}{x:Str}{u:Value}{pos:Pos}{Q:Value→Shared→Prop}(I:Inv X pins σ H s)(hg:Gl X x)(hm:X.mg x=some u)(h:Q u s)
  (hd:(x == ("__debug__" : Str))=false:=by decide):wpAny (model X.prog X.w) X.A (eval (.Name x pos) X.env) Q E s :=
 Calls.Name_function_global I.ok.kind hg (Calls.loadGlobal_global (by rw[I.ok.glob];exact I.mod.glob.keeps I.bk) hm h) hd
theorem ld_blt{E:Value→Shared→Prop}{pins:List (Addr×Obj)}{s:Shared}{σ:St}{H:Hp}{x:Str}{u:Value}{pos:Pos}{Q:Value→Shared→Prop}(I:Inv X pins σ H s)(hg:Gl X x)(hm:X.mg x=none)(hv:bootBuiltins x=some u)(h:Q u s)
  (hn:x ≠ "__name__" := by decide) (hd:(x == ("__debug__" : Str))=false:=by decide):wpAny (model X.prog X.w) X.A (eval (.Name x pos) X.env) Q E s:=by
 obtain⟨mb,h1,h2⟩:=I.mod.blt
 exact Calls.Name_function_global I.ok.kind hg (Calls.loadGlobal_builtin (by rw[I.ok.glob];exact I.mod.glob.keeps I.bk) hm (by rw[I.ok.blt];exact h1.keeps I.bk) ((h2 x hn).trans hv) h) hd
theorem pe_glob{x:Str}{v:V}{u:Value}{pos:Pos}(hg:Gl X x)(hm:X.mg x=some u)(r:RelV v u)(hd:(x == ("__debug__" : Str))=false:=by decide):PE X (.Name x pos) (tC v) :=
 fun _ _ _ H _ I h=>ld_glob I hg hm ⟨v,H,I,r,h⟩ hd
theorem pe_bltn{x:Str}{v:V}{u:Value}{pos:Pos}(hg:Gl X x)(hm:X.mg x=none)(hv:bootBuiltins x=some u)(r:RelV v u)(hn:x ≠ "__name__" := by decide)(hd:(x == ("__debug__" : Str))=false:=by decide):PE X (.Name x pos) (tC v) :=
 fun _ _ _ H _ I h=>ld_blt I hg hm hv ⟨v,H,I,r,h⟩ hn hd
variable {a b:Expr}{ta tb:TE}{pos:Pos}
def PC(X:Cx)(op:CmpOp)(a b:Expr)(t:TE):Prop :=
 ∀ (pins:List (Addr×Obj)) (s:Shared) (σ:St) (H:Hp) (Q:VK),Inv X pins σ H s→t σ H Q →
  wpAny (model X.prog X.w) X.A (eval a X.env) (fun v s₁=>wpAny (model X.prog X.w) X.A (eval b X.env) (fun u s₂=>wpAny (model X.prog X.w) X.A (compareOp op v u) (EP X pins σ Q) X.xe s₂) X.xe s₁) X.xe s
theorem nobehind(b:Expr){op:CmpOp}(h:op≠.In)(h2:op≠.NotIn):behindInMarks op b=false:=by
 have e1:(op == CmpOp.In)=false:=by cases op<;>first | rfl | exact absurd rfl h
 have e2:(op == CmpOp.NotIn)=false:=by cases op<;>first | rfl | exact absurd rfl h2
 cases b<;>simp[behindInMarks,e1,e2]
def tIsN(ta:TE):TE:=fun σ H Q=>ta σ H fun x H1=>Q (.bl (decide (x=.non))) H1
def tNotN(ta:TE):TE:=fun σ H Q=>ta σ H fun x H1=>Q (.bl (!decide (x=.non))) H1
theorem RelV.none_iff{x:V}{v:Value}(r:RelV x v):(v == Value.none)=decide (x=.non):=by
 cases x with
 | non=>cases r;rfl
 | bl _=>cases r;rfl
 | int _=>obtain⟨t,rfl⟩:=r;rfl
 | str _=>obtain⟨t,rfl⟩:=r;rfl
 | byt _=>obtain⟨t,rfl⟩:=r;rfl
 | flt _=>obtain⟨t,rfl⟩:=r;rfl
 | ref _=>cases r;rfl
 | ty _=>cases r;rfl
theorem pc_isN{j pos'}(ha:PE X a ta):PC X .Is a (.Constant .none j pos') (tIsN ta):=by
 intro pins s σ H Q I h
 refine thn (ha pins s σ H _ I h) fun v s1 ⟨x,H1,I1,r1,q1⟩=>?_
 exact Constant_none (is_none_gen ⟨.bl _,H1,I1,by rw[r1.none_iff];rfl,q1⟩)
theorem pc_notN{j pos'}(ha:PE X a ta):PC X .IsNot a (.Constant .none j pos') (tNotN ta):=by
 intro pins s σ H Q I h
 refine thn (ha pins s σ H _ I h) fun v s1 ⟨x,H1,I1,r1,q1⟩=>?_
 exact Constant_none (isnot_none_gen ⟨.bl _,H1,I1,by rw[r1.none_iff];rfl,q1⟩)
def tB(t:TE):TT:=fun σ H Q=>t σ H fun x H1=>∃ c,x=.bl c∧Q c H1
theorem pe_cmp{op:CmpOp}{t:TE}(h:PC X op a b t)(h1:behindInMarks op b=false:=by first | exact nobehind _ (by decide) (by decide) | rfl):PE X (.Compare a [op] [b] pos) t:=fun pins s σ H Q I hw=>wpAny_Compare1 (h pins s σ H Q I hw) h1
theorem pt_cmp{op:CmpOp}{t:TE}(h:PC X op a b t)(h1:behindInMarks op b=false:=by first | exact nobehind _ (by decide) (by decide) | rfl):PT X (.Compare a [op] [b] pos) (tB t):=by
 intro pins s σ H Q I hw
 refine wpAny_isTrue_Compare1 (thn (h pins s σ H _ I hw) fun v s1 h1=>thn h1 fun u s2 h2=>thn h2 fun c s3 ⟨x,H1,I1,r1,q1⟩=>?_) h1
 obtain⟨d,rfl,q⟩:=q1
 cases r1
 exact wpAny_truthy_bool ⟨H1,I1,q⟩
theorem pt_val{e:Expr}{t:TE}(h:PE X e t)(he:∀ whole,isTrue e X.env whole=(do let v ← whole;standAt e.pos;holding [v] (truthy v)):=by intro _;rfl):PT X e (tB t):=by
 intro pins s σ H Q I hw
 refine isTrue_plain (thn (h pins s σ H _ I hw) fun v s1 ⟨x,H1,I1,r1,q1⟩=>?_) (he _)
 obtain⟨d,rfl,q⟩:=q1
 cases r1
 exact wpAny_truthy_bool ⟨H1,I1,q⟩
variable {tA tB':TT}{rest:List Expr}
def tAnd(t u:TT):TT:=fun σ H Q=>t σ H fun c H1=>if c=true then u σ H1 Q else Q false H1
def tOr(t u:TT):TT:=fun σ H Q=>t σ H fun c H1=>if c=true then Q true H1 else u σ H1 Q
def tNot(t:TT):TT:=fun σ H Q=>t σ H fun c H1=>Q (!c) H1
theorem pw_and1(ha:PT X a tA):PW X (.BoolOp .And [a] pos) tA:=by
 intro wh pins s σ H Q I h
 refine isTrue_and (thn (ha pins s σ H Q I h) fun c s1 e=>?_)
 cases c with
 | true=>exact isTrue_and_nil e
 | false=>exact e
theorem pw_or1(ha:PT X a tA):PW X (.BoolOp .Or [a] pos) tA:=by
 intro wh pins s σ H Q I h
 refine isTrue_or (thn (ha pins s σ H Q I h) fun c s1 e=>?_)
 cases c with
 | false=>exact isTrue_or_nil e
 | true=>exact e
theorem pw_and(ha:PT X a tA)(hb:PW X (.BoolOp .And (b::rest) pos) tB'):PW X (.BoolOp .And (a::b::rest) pos) (tAnd tA tB'):=by
 intro wh pins s σ H Q I h
 refine isTrue_and (thn (ha pins s σ H _ I h) fun c s1 ⟨H1,I1,q1⟩=>?_)
 cases c with
 | true=>exact hb wh pins s1 σ H1 Q I1 q1
 | false=>exact⟨H1,I1,q1⟩
theorem pw_or(ha:PT X a tA)(hb:PW X (.BoolOp .Or (b::rest) pos) tB'):PW X (.BoolOp .Or (a::b::rest) pos) (tOr tA tB'):=by
 intro wh pins s σ H Q I h
 refine isTrue_or (thn (ha pins s σ H _ I h) fun c s1 ⟨H1,I1,q1⟩=>?_)
 cases c with
 | true=>exact⟨H1,I1,q1⟩
 | false=>exact hb wh pins s1 σ H1 Q I1 q1
theorem pt_not(ha:PT X a tA):PT X (.UnaryOp .Not a pos) (tNot tA):=by
 intro pins s σ H Q I h
 exact isTrue_not (ha pins s σ H (fun c H1=>Q (!c) H1) I h)
def tAndV(ta tb:TE):TE:=fun σ H Q=>ta σ H fun x H1=>∃ c,x=.bl c∧if c=true then tb σ H1 Q else Q (.bl false) H1
def tOrV(ta tb:TE):TE:=fun σ H Q=>ta σ H fun x H1=>∃ c,x=.bl c∧if c=true then Q (.bl true) H1 else tb σ H1 Q
def tNotV(ta:TE):TE:=fun σ H Q=>ta σ H fun x H1=>∃ c,x=.bl c∧Q (.bl (!c)) H1
theorem pe_one{op}{t:TE}(h:PE X a t):PE X (.BoolOp op [a] pos) t:=fun pins s σ H Q I hw=>BoolOp_one (h pins s σ H Q I hw)
theorem pe_and(ha:PE X a ta)(hb:PE X (.BoolOp .And (b::rest) pos) tb):PE X (.BoolOp .And (a::b::rest) pos) (tAndV ta tb):=by
 intro pins s σ H Q I h
 refine BoolOp_and (thn (ha pins s σ H _ I h) fun v s1 ⟨x,H1,I1,r1,q1⟩=>?_)
 obtain⟨c,rfl,q1⟩:=q1
 cases r1
 refine wpAny_truthy_bool ?_
 cases c with
 | true=>exact hb pins s1 σ H1 Q I1 q1
 | false=>exact⟨.bl false,H1,I1,rfl,q1⟩
theorem pe_not(ha:PE X a ta):PE X (.UnaryOp .Not a pos) (tNotV ta):=by
 intro pins s σ H Q I h
 refine UnaryOp_ (thn (ha pins s σ H _ I h) fun v s1 ⟨x,H1,I1,r1,q1⟩=>?_)
 obtain⟨c,rfl,q1⟩:=q1
 cases r1
 exact not_of (wpAny_truthy_bool ⟨.bl (!c),H1,I1,rfl,q1⟩)
def tIf(t:TT)(ta tb:TE):TE:=fun σ H Q=>t σ H fun c H1=>if c=true then ta σ H1 Q else tb σ H1 Q
end
end L2
namespace L2
open PySem PySem.Spec PyProof.Rows
def SqL(K:PySem.W.Frag)(H:Hp)(a:Addr)(xs:List V):Prop :=
 Rd H a (.lst xs) ∨
  ∃(o:Obj)(its:Array Value)(n:Nat),K.lookup a=some o∧o.cls=.type "list" ∧ o.dict=none∧o.data=.seq its n∧its.size≤sizeLine∧Vals xs its.toList
def SqT(K:PySem.W.Frag)(H:Hp)(a:Addr)(xs:List V):Prop :=
 Rd H a (.tup xs) ∨
  ∃(o:Obj)(its:Array Value)(n:Nat),K.lookup a=some o∧o.cls=.type "tuple" ∧ o.data=.seq its n∧its.size≤sizeLine∧Vals xs its.toList
def absV:Value→Option V
 | .none=>some .non
 | .bool b=>some (.bl b)
 | .int i _=>some (.int i)
 | .str x _=>some (.str x)
 | .bytes b _=>some (.byt b)
 | .float b _=>some (.flt b)
 | .ref a=>some (.ref a)
 | .type n=>some (.ty n)
 | _=>none
theorem RelV.abs{x:V}{u:Value}(r:RelV x u):absV u=some x:=by
 cases x with
 | non=>cases r;rfl
 | bl _=>cases r;rfl
 | int _=>obtain⟨t,rfl⟩:=r;rfl
 | str _=>obtain⟨t,rfl⟩:=r;rfl
 | byt _=>obtain⟨t,rfl⟩:=r;rfl
 | flt _=>obtain⟨t,rfl⟩:=r;rfl
 | ref _=>cases r;rfl
 | ty _=>cases r;rfl
theorem RelV.inj{x y:V}{u:Value}(r:RelV x u)(q:RelV y u):x=y:=Option.some.inj (r.abs.symm.trans q.abs)
theorem Vals.inj:∀{xs ys:List V}{us:List Value},Vals xs us→Vals ys us→xs=ys
 | _,_,_,.nil,.nil=>rfl
 | _,_,_,.cons r t,.cons r' t'=>by rw[r.inj r',Vals.inj t t']
section
variable {X:Cx}{pins:List (Addr×Obj)}{σ:St}{H:Hp}{s:Shared}{a:Addr}{xs ys:List V}
theorem SqL.of{K:PySem.W.Frag}(h:H a=some (.lst xs)):SqL K H a xs:=.inl (.inl h)
theorem SqT.of{K:PySem.W.Frag}(h:H a=some (.tup xs)):SqT K H a xs:=.inl (.inl h)
theorem Inv.list(I:Inv X pins σ H s)(h:SqL X.K H a xs):∃ its:List Value,Vals xs its∧PlainL s.heap a its.toArray∧xs.length≤sizeLine:=by
 rcases h with h | ⟨o,its,n,hk,hc,hd,hs,hz,r⟩
 ·obtain⟨z,its,n,r,e⟩:=h.ok I.hok
  exact⟨its,r,⟨_,n,e,rfl,rfl,rfl⟩,z⟩
 ·refine⟨its.toList,r,⟨o,n,I.kIn a o hk,hc,hd,by simpa using hs⟩,?_⟩
  have e:=r.length
  simp only[Array.length_toList] at e
  omega
theorem Inv.tuple(I:Inv X pins σ H s)(h:SqT X.K H a xs):∃ its:List Value,Vals xs its∧IsTup s.heap a its.toArray∧xs.length≤sizeLine:=by
 rcases h with h | ⟨o,its,n,hk,hc,hs,hz,r⟩
 ·obtain⟨z,its,r,p⟩:=h.ok I.hok
  exact⟨its,r,p,z⟩
 ·refine⟨its.toList,r,⟨o,I.kIn a o hk,hc,n,by simpa using hs⟩,?_⟩
  have e:=r.length
  simp only[Array.length_toList] at e
  omega
theorem Inv.list_inj(I:Inv X pins σ H s)(h:SqL X.K H a xs)(h':SqL X.K H a ys):xs=ys:=by
 obtain⟨its,r,⟨o,n,e,_,_,d⟩,_⟩:=I.list h
 obtain⟨its',r',⟨o',n',e',_,_,d'⟩,_⟩:=I.list h'
 rw[e] at e';cases e'
 rw[d] at d'
 injection d' with d1 _
 have:its=its':=by simpa using congrArg Array.toList d1
 subst this
 exact r.inj r'
theorem Inv.tuple_inj(I:Inv X pins σ H s)(h:SqT X.K H a xs)(h':SqT X.K H a ys):xs=ys:=by
 obtain⟨its,r,⟨o,e,_,n,d⟩,_⟩:=I.tuple h
 obtain⟨its',r',⟨o',e',_,n',d'⟩,_⟩:=I.tuple h'
 rw[e] at e';cases e'
 rw[d] at d'
 injection d' with d1 _
 have:its=its':=by simpa using congrArg Array.toList d1
 subst this
 exact r.inj r'
end
abbrev Cx.wish(X:Cx)(E:Value→Shared→Prop):Cx:={ X with xe:=E }
abbrev Cx.nox(X:Cx):Cx:=X.wish fun _ _=>False
theorem Cx.Ok.wish{X:Cx}(ok:X.Ok)(E:Value→Shared→Prop):(X.wish E).Ok :=
 ⟨ok.mod,ok.kind,ok.glob,ok.blt,ok.above,ok.inj,ok.has,ok.cab,ok.hd,ok.frames,ok.stk,ok.exf,ok.bs,ok.bsz,ok.noex,ok.exfs,ok.funs,ok.frf⟩
theorem Cx.Ok.unwish{X:Cx}{E:Value→Shared→Prop}(ok:(X.wish E).Ok):X.Ok :=
 ⟨ok.mod,ok.kind,ok.glob,ok.blt,ok.above,ok.inj,ok.has,ok.cab,ok.hd,ok.frames,ok.stk,ok.exf,ok.bs,ok.bsz,ok.noex,ok.exfs,ok.funs,ok.frf⟩
section
variable {X:Cx}{pins:List (Addr×Obj)}{σ:St}{H:Hp}{s:Shared}{E:Value→Shared→Prop}
theorem Inv.wish(I:Inv X pins σ H s)(E:Value→Shared→Prop):Inv (X.wish E) pins σ H s:=⟨I.ok.wish E,I.os,I.bare,I.base,I.loc,I.cell,I.free,I.freeC,I.pin,I.hok,I.len⟩
theorem Inv.unwish(I:Inv (X.wish E) pins σ H s):Inv X pins σ H s:=⟨I.ok.unwish,I.os,I.bare,I.base,I.loc,I.cell,I.free,I.freeC,I.pin,I.hok,I.len⟩
theorem SP.unwish{D:Ends}{f:Flow}{s':Shared}(h:SP (X.wish E) pins D f s'):SP X pins D f s':=by
 cases f with
 | next=>obtain⟨σ',H',I,q⟩:=h;exact⟨σ',H',I.unwish,q⟩
 | brk=>obtain⟨σ',H',I,q⟩:=h;exact⟨σ',H',I.unwish,q⟩
 | cont=>obtain⟨σ',H',I,q⟩:=h;exact⟨σ',H',I.unwish,q⟩
 | ret u=>obtain⟨v,σ',H',I,r,q⟩:=h;exact⟨v,σ',H',I.unwish,r,q⟩
theorem PSs.nox{st:List Stmt}{t:TS}(h:PSs X.nox st t):PSs X st t:=fun pins s σ H D I hw =>
 wpAny_mono (h pins s σ H D (I.wish _) hw) (fun _ _ q=>q.unwish) fun _ _ z=>False.elim z
end
section
variable {X:Cx}{st:Stmt}{rest:List Stmt}{t u:TS}{e:Expr}{te:TE}{pos:Pos}
def tNext:TS:=fun D σ H=>D.nx σ H
def tSeq(t u:TS):TS:=fun D σ H=>t { D with nx:=u D } σ H
theorem pss_nil:PSs X [] tNext:=fun _ _ σ H _ I h=>wpAny_execs_nil ⟨σ,H,I,h⟩
theorem pss_cons(h1:PS X st t)(h2:PSs X rest u):PSs X (st::rest) (tSeq t u):=by
 intro pins s σ H D I h
 refine wpAny_execs_cons (thn (h1 pins s σ H { D with nx:=u D } I h) fun f s1 q=>?_)
 cases f with
 | next =>
  obtain⟨σ',H',I',q⟩:=q
  exact h2 pins s1 σ' H' D I' q
 | ret v=>exact q
 | brk=>exact q
 | cont=>exact q
theorem pss_one(h1:PS X st t):PSs X [st] t:=by
 intro pins s σ H D I h
 refine wpAny_execs_cons (thn (h1 pins s σ H D I h) fun f s1 q=>?_)
 cases f with
 | next=>exact wpAny_execs_nil q
 | ret v=>exact q
 | brk=>exact q
 | cont=>exact q
theorem Inv.quiet{pins:List (Addr×Obj)}{σ:St}{H:Hp}{s:Shared}(I:Inv X pins σ H s):interactive X.env=false:=by simp[interactive,I.ok.kind]
def tDrop(te:TE):TS:=fun D σ H=>te σ H fun _ H1=>D.nx σ H1
theorem ps_expr(he:PE X e te)(hs:swapsWith e none pos.line X.env=pure false:=by rfl):PS X (.Expr e pos) (tDrop te):=by
 intro pins s σ H D I h
 exact wpAny_Expr_any (thn (he pins s σ H _ I h) fun v s1 ⟨x,H1,I1,r1,q1⟩=>⟨σ,H1,I1,q1⟩) I.quiet hs
def tRet(te:TE):TS:=fun D σ H=>te σ H D.rt
theorem ps_ret(he:PE X e te):PS X (.Return (some e) pos) (tRet te):=by
 intro pins s σ H D I h
 exact wpAny_Return_some (thn (he pins s σ H _ I h) fun v s1 ⟨x,H1,I1,r1,q1⟩=>⟨x,σ,H1,I1,r1,q1⟩)
def tRetN:TS:=fun D _ H=>D.rt .non H
def tIfS(c:TT)(t u:TS):TS:=fun D σ H=>c σ H fun b H1=>if b=true then t D σ H1 else u D σ H1
theorem ps_if{c:Expr}{a b:List Stmt}{tc:TT}(hc:PT X c tc)(ha:PSs X a t)(hb:PSs X b u):PS X (.If c a b pos) (tIfS tc t u):=by
 intro pins s σ H D I h
 refine wpAny_If (thn (hc pins s σ H _ I h) fun d s1 ⟨H1,I1,q1⟩=>?_)
 cases d with
 | true=>exact ha pins s1 σ H1 D I1 q1
 | false=>exact hb pins s1 σ H1 D I1 q1
end
abbrev TG:=V→St→Hp→(St→Hp→Prop)→Prop
abbrev TGs:=List V→St→Hp→(St→Hp→Prop)→Prop
def PG(X:Cx)(target:Expr)(t:TG):Prop :=
 ∀ (pins:List (Addr×Obj)) (s:Shared) (σ:St) (H:Hp) (v:V) (u:Value) (Q:St→Hp→Prop),Inv X pins σ H s→RelV v u→t v σ H Q →
  wpAny (model X.prog X.w) X.A (assign target X.env u) (fun _ s'=>∃ σ' H',Inv X pins σ' H' s'∧Q σ' H') X.xe s
def PGs(X:Cx)(ts:List Expr)(t:TGs):Prop :=
 ∀ (pins:List (Addr×Obj)) (s:Shared) (σ:St) (H:Hp) (vs:List V) (us:List Value) (Q:St→Hp→Prop),Inv X pins σ H s→Vals vs us→t vs σ H Q →
  wpAny (model X.prog X.w) X.A (assignInOrder ((assignEach ts X.env).map (·.2)) us) (fun _ s'=>∃ σ' H',Inv X pins σ' H' s'∧Q σ' H') X.xe s
abbrev TSet:=V→V→V→Hp→(Hp→Prop)→Prop
def PSet(X:Cx)(t:TSet):Prop :=
 ∀ (pins:List (Addr×Obj)) (s:Shared) (σ:St) (H:Hp) (o i v:V) (ov iv u:Value) (Q:Hp→Prop),Inv X pins σ H s→RelV o ov→RelV i iv→RelV v u→t o i v H Q →
  wpAny (model X.prog X.w) X.A (setItem ov iv u) (fun _ s'=>∃ H',Inv X pins σ H' s'∧Q H') X.xe s
abbrev TIp:=V→V→Hp→VK→Prop
def PIp(X:Cx)(op:Operator)(t:TIp):Prop :=
 ∀ (pins:List (Addr×Obj)) (s:Shared) (σ:St) (H:Hp) (x y:V) (v u:Value) (Q:VK),Inv X pins σ H s→RelV x v→RelV y u→t x y H Q →
  wpAny (model X.prog X.w) X.A (inplaceOp op v u) (EP X pins σ Q) X.xe s
section
variable {X:Cx}{pos:Pos}
def gName(i:Nat):TG:=fun v σ H Q=>Q (σ.set i (some v)) H
theorem pg_name{i:Nat}{x:Str}(hN:X.N.Nodup)(hi:X.N[i]?=some x)(hx:Loc X.env.scope x)(hf:X.fn x=true∨X.env.scope.names.lookup x=some .local:=by first | exact .inl rfl | exact .inr rfl | assumption):PG X (.Name x pos) (gName i):=by
 intro pins s σ H v u Q I r h
 exact wpAny_assign_Name (store_ok I hN hi hx r (fun s' I'=>⟨_,H,I',h⟩) hf)
def gNil:TGs:=fun vs σ H Q=>vs=[]∧Q σ H
def gCons(t:TG)(u:TGs):TGs:=fun vs σ H Q=>∃ v r,vs=v::r∧t v σ H fun σ' H'=>u r σ' H' Q
theorem pgs_nil:PGs X [] gNil:=by
 intro pins s σ H vs us Q I r h
 obtain⟨e,h⟩:=h
 subst e
 cases r
 exact assignInOrder_nil ⟨σ,H,I,h⟩
theorem pgs_cons{e:Expr}{es:List Expr}{t:TG}{u:TGs}(h1:PG X e t)(h2:PGs X es u)
  (hs:(assignEach (e::es) X.env).map (·.2)=assign e X.env::(assignEach es X.env).map (·.2):=by rfl):PGs X (e::es) (gCons t u):=by
 intro pins s σ H vs us Q I r h
 obtain⟨v,vr,e1,h⟩:=h
 subst e1
 cases r with
 | cons r rr =>
  rw[hs]
  refine assignInOrder_cons (thn (h1 pins s σ H _ _ _ I r h) fun _ s1 ⟨σ1,H1,I1,q1⟩=>?_)
  exact h2 pins s1 σ1 H1 _ _ Q I1 rr q1
def gTup(K:PySem.W.Frag)(n:Nat)(t:TGs):TG:=fun v σ H Q=>∃ a xs,v=.ref a∧SqT K H a xs∧xs.length=n∧t xs σ H Q
theorem pg_tup{es:List Expr}{k:Nat}{t:TGs}{n:Nat}(hc:X.calm=true)(h:PGs X es t)
  (hn:(assignEach es X.env).length=n:=by rfl) (hst:(assignEach es X.env).findIdx? (·.1)=none:=by rfl):PG X (.Tuple es k pos) (gTup X.K n t):=by
 intro pins s σ H v u Q I r hw
 obtain⟨a,xs,e1,hq,hl,hw⟩:=hw
 subst e1
 cases r
 obtain⟨its,rv,ht,hz⟩:=I.tuple hq
 refine assign_Tuple_tuple (I.ok.hd hc) ht (by simp[hn,← hl,rv.length]) hst fun h' hx=>?_
 have I1:Inv X pins σ H { s with heap:=h' }:=I.kept (t':=s.toks) fun b o e=>hx b o (Nat.ne_of_lt (Heap.lt_size e)) e
 exact h pins _ σ H xs _ Q I1 (by simpa using rv) hw
def gSub(to ti:TE)(t:TSet):TG:=fun v σ H Q=>to σ H fun o H1=>ti σ H1 fun i H2=>t o i v H2 fun H3=>Q σ H3
theorem pg_sub{o i:Expr}{to ti:TE}{t:TSet}(ho:PE X o to)(hi:PE X i ti)(hs:PSet X t)
  (ha:∀ v,assign (.Subscript o i pos) X.env v=(do
   let ov ← holding [v] (eval o X.env)
   let iv ← holding [v,ov] (eval i X.env)
   standAt pos
   holding [v,ov,iv] (setItem ov iv v)
   release [v,ov,iv] []):=by intro _;rfl):PG X (.Subscript o i pos) (gSub to ti t):=by
 intro pins s σ H v u Q I r h
 rw[ha]
 refine wpAny_bind (wpAny_holding (thn (ho pins s σ H _ I h) fun ov s1 ⟨x,H1,I1,r1,q1⟩=>?_))
 refine wpAny_bind (wpAny_holding (thn (hi pins s1 σ H1 _ I1 q1) fun iv s2 ⟨y,H2,I2,r2,q2⟩=>?_))
 refine wpAny_bind (wpAny_standAt (wpAny_bind (wpAny_holding (thn (hs pins s2 σ H2 x y v ov iv u _ I2 r1 r2 r q2) fun _ s3 ⟨H3,I3,q3⟩=>?_))))
 exact wpAny_release ⟨σ,H3,I3,q3⟩
def tAsg(te:TE)(g:TG):TS:=fun D σ H=>te σ H fun x H1=>g x σ H1 D.nx
theorem ps_asg{tg e:Expr}{te:TE}{g:TG}(he:PE X e te)(hg:PG X tg g)(hs:swapsWithSole [tg] e pos.line X.env=pure false:=by rfl)(hw:swappedStores [tg] e X.env=pure none:=by rfl)
  (h1:(assignEach [tg] X.env).map (·.2)=[assign tg X.env]:=by rfl):PS X (.Assign [tg] e pos) (tAsg te g):=by
 intro pins s σ H D I h
 refine wpAny_Assign_stores (thn (he pins s σ H _ I h) fun v s1 ⟨x,H1,I1,r1,q1⟩=>?_) hs hw
 rw[h1]
 exact thn (hg pins s1 σ H1 x v _ I1 r1 q1) fun _ s2 q=>q
theorem ps_set{i:Nat}{x:Str}{e:Expr}{te:TE}{pos':Pos}(hN:X.N.Nodup)(hi:X.N[i]?=some x)(hx:Loc X.env.scope x)(he:PE X e te)(hs:swapsWith e (some (.Name x pos')) pos.line X.env=pure false:=by rfl)(hf:X.fn x=true∨X.env.scope.names.lookup x=some .local:=by first | exact .inl rfl | exact .inr rfl | assumption) :
  PS X (.Assign [.Name x pos'] e pos) (tAsg te (gName i)):=by
 intro pins s σ H D I h
 refine wpAny_Assign_Name (thn (he pins s σ H _ I h) fun v s1 ⟨y,H1,I1,r1,q1⟩=>?_) hs
 exact store_ok I1 hN hi hx r1 (fun s2 I2=>⟨_,H1,I2,q1⟩) hf
def tPar(i j:Nat)(ta:TA):TS:=fun D σ H=>ta σ H fun vs H1=>∃ v w,vs=[v,w]∧D.nx ((σ.set i (some v)).set j (some w)) H1
def tAugS(to ti te:TE)(tget:V→V→Hp→VK→Prop)(tip:TIp)(tset:TSet):TS:=fun D σ H=>to σ H fun o H1=>ti σ H1 fun i H2=>tget o i H2 fun x H3=>te σ H3 fun y H4=>tip x y H4 fun z H5=>tset o i z H5 fun H6=>D.nx σ H6
def PGet(X:Cx)(t:V→V→Hp→VK→Prop):Prop :=
 ∀ (pins:List (Addr×Obj)) (s:Shared) (σ:St) (H:Hp) (o i:V) (ov iv:Value) (Q:VK),Inv X pins σ H s→RelV o ov→RelV i iv→t o i H Q →
  wpAny (model X.prog X.w) X.A (getItem ov iv) (EP X pins σ Q) X.xe s
theorem ps_augS{o i e:Expr}{to ti te:TE}{tget:V→V→Hp→VK→Prop}{tip:TIp}{tset:TSet}{op:Operator}{tpos:Pos}(ho:PE X o to)(hi:PE X i ti)(hg:PGet X tget)(he:PE X e te)(hp:PIp X op tip)(hs:PSet X tset)
  (ha:∀ ov iv new,augStore i ov iv new=(do holding [new,ov,iv] (setItem ov iv new);release [new,ov,iv] [];pure .next):=by intros;rfl):PS X (.AugAssign (.Subscript o i tpos) op e pos) (tAugS to ti te tget tip tset):=by
 intro pins s σ H D I h
 refine wpAny_AugAssign_SubscriptAny (thn (ho pins s σ H _ I h) fun ov s1 ⟨x1,H1,I1,r1,q1⟩=>?_) ha
 refine thn (hi pins s1 σ H1 _ I1 q1) fun iv s2 ⟨x2,H2,I2,r2,q2⟩=>?_
 refine thn (hg pins s2 σ H2 x1 x2 ov iv _ I2 r1 r2 q2) fun old s3 ⟨x3,H3,I3,r3,q3⟩=>?_
 refine thn (he pins s3 σ H3 _ I3 q3) fun v s4 ⟨x4,H4,I4,r4,q4⟩=>?_
 refine thn (hp pins s4 σ H4 x3 x4 old v _ I4 r3 r4 q4) fun new s5 ⟨x5,H5,I5,r5,q5⟩=>?_
 exact thn (hs pins s5 σ H5 x1 x2 x5 ov iv new _ I5 r1 r2 r5 q5) fun _ s6 ⟨H6,I6,q6⟩=>⟨σ,H6,I6,q6⟩
def ipI(f:Int→Int→Int):TIp:=fun x y H Q=>∃ i j,x=.int i∧y=.int j∧Q (.int (f i j)) H
theorem ip_add:PIp X .Add (ipI fun i j=>i+j):=by
 intro pins s σ H x y v u Q I r1 r2 h
 obtain⟨i,j,e1,e2,q⟩:=h
 subst e1;subst e2
 obtain⟨t,rfl⟩:=r1
 obtain⟨t',rfl⟩:=r2
 exact iadd_int ⟨.int _,H,I.tok _,⟨_,rfl⟩,q⟩
end
section
variable {X:Cx}{pos:Pos}
end
structure It where
 go:Nat→Hp→Prop
 yld:Nat→Hp→V→Hp→Prop
 stop:Nat→Hp→Prop
def FpOk(X:Cx)(pins:List (Addr×Obj))(H:Hp)(b:Addr):Prop :=
 H b=none∧b≠X.env.locals∧b∉X.fs∧(b∈X.ex∨X.s₀.heap.objs.size≤b)∧(∀ x c,X.env.cells.lookup x=some c→c≠b)∧∀ p∈X.pn++pins,p.1≠b
theorem Inv.fpOk{X:Cx}{pins:List (Addr×Obj)}{σ:St}{H H':Hp}{s:Shared}{b:Addr}(I:Inv X pins σ H s)(hb:s.heap.objs.size≤b)(hn:H' b=none):FpOk X pins H' b:=by
 refine⟨hn,Nat.ne_of_gt (Nat.lt_of_lt_of_le I.lt hb),I.nofs hb,.inr (Nat.le_trans I.sz hb),fun x c e z=>?_,fun p hp z=>?_⟩
 ·obtain⟨v,q⟩:=I.cell x c e
  exact absurd (Nat.lt_of_lt_of_le q.lt (by rw[z];exact hb)) (Nat.lt_irrefl _)
 ·exact absurd (Nat.lt_of_lt_of_le (Heap.lt_size (I.pin p hp).1) (by rw[z];exact hb)) (Nat.lt_irrefl _)
structure Turn(P:Program)(w:World)(K:PySem.W.Frag)(tg:Expr)(J:It)(fp:List Addr)(it:Addr)(tn:Nat→Heap→Prop):Prop where
 mem:it∈fp
 obj:∀ i h,tn i h→∀ b∈fp,∃ o,h.get? b=some o∧∀ v,o.data≠.cell v
 keep:∀ i h h',tn i h→(∀ b∈fp,∀ o,h.get? b=some o→h'.get? b=some o)→tn i h'
 item:∀(X:Cx),X.prog=P→X.w=w→X.K=K→X.calm=true→∀(i:Nat) (pins:List (Addr×Obj)) (s:Shared) (σ:St) (H:Hp) (E:Value→Shared→Prop),Inv X pins σ H s→(∀ b∈fp,FpOk X pins H b)→tn i s.heap→J.go i H →
  wpAny (model P w) X.A (pyNext (.ref it)) (fun r s1=>∃ u,r=some u ∧
   wpAny (model P w) X.A (letOwnedTupleGo tg (.ref it) u) (fun _ s2=>∃ x H',Inv X pins σ H' s2∧RelV x u∧J.yld i H x H'∧tn (i+1) s2.heap∧∀ b∈fp,H' b=none) E s1) E s
 done:∀(X:Cx),X.prog=P→X.w=w→X.K=K→X.calm=true→∀(i:Nat) (pins:List (Addr×Obj)) (s:Shared) (σ:St) (H:Hp) (E:Value→Shared→Prop),Inv X pins σ H s→(∀ b∈fp,FpOk X pins H b)→tn i s.heap→J.stop i H →
  wpAny (model P w) X.A (pyNext (.ref it)) (fun r s1=>r=none∧Inv X pins σ H s1) E s
 self:∀(A:Around)(i:Nat)(s:Shared)(Q:Value→Shared→Prop)(E:Value→Shared→Prop),tn i s.heap→Q (.ref it) s→wpAny (model P w) A (pyIter (.ref it)) Q E s
abbrev TI:=St→Hp→(It→Hp→Prop)→Prop
def PIE(X:Cx)(pins:List (Addr×Obj))(σ:St)(tg:Expr)(R:It→Hp→Prop)(itv:Value)(s2:Shared):Prop :=
 ∃(it:Addr)(fp:List Addr)(tn:Nat→Heap→Prop)(J:It)(H':Hp),itv=.ref it∧Inv X pins σ H' s2∧Turn X.prog X.w X.K tg J fp it tn∧tn 0 s2.heap∧(∀ b∈fp,FpOk X pins H' b)∧R J H'
def PI(X:Cx)(tg iter:Expr)(wi:TI):Prop :=
 ∀ (pins:List (Addr×Obj)) (s:Shared) (σ:St) (H:Hp) (R:It→Hp→Prop),Inv X pins σ H s→wi σ H R →
  wpAny (model X.prog X.w) X.A (eval iter X.env) (fun v s1=>wpAny (model X.prog X.w) X.A (pyIter v) (PIE X pins σ tg R) X.xe s1) X.xe s
theorem go_of{M:Model}{A:Around}{E:Value→Shared→Prop}{s:Shared}{tg:Expr}{it:Addr}{u:Value}{o:Obj}{n:String}{vs:Array Value}{Q:Unit→Shared→Prop}(ho:s.heap.get? it=some o)(hc:o.cls=.type n)(hd:o.data=.fields vs)
  (hn:["enumerate", "zip", "dict_itemiterator", "dict_reverseitemiterator", "odict_iterator", "itertools.zip_longest", "itertools.pairwise"].contains n=false) (hQ:Q () s):wpAny M A (letOwnedTupleGo tg (.ref it) u) Q E s:=by
 unfold letOwnedTupleGo
 cases tg<;>first
  | exact wpAny_pure hQ
  | (cases u<;>first
    | exact wpAny_pure hQ
    | (refine wpAny_bind (wpAny_load ho ?_)
       rw[hc,hd]
       show wpAny M A (if (["enumerate", "zip", "dict_itemiterator", "dict_reverseitemiterator", "odict_iterator", "itertools.zip_longest", "itertools.pairwise"].contains n && vs[0]? == some (rawInt _))=true then _ else _) Q E s
       rw[if_neg (by intro h;rw[hn,Bool.false_and] at h;cases h)]
       exact wpAny_pure hQ))
def Itl(K:PySem.W.Frag)(a:Addr):It :=
 ⟨fun i H=>∃ xs x,SqL K H a xs∧xs[i]?=some x,fun i H x H'=>H'=H∧∀ xs,SqL K H a xs→xs[i]?=some x,fun i H=>∃ xs,SqL K H a xs∧xs.length≤i⟩
def Itt(K:PySem.W.Frag)(a:Addr):It :=
 ⟨fun i H=>∃ xs x,SqT K H a xs∧xs[i]?=some x,fun i H x H'=>H'=H∧∀ xs,SqT K H a xs→xs[i]?=some x,fun i H=>∃ xs,SqT K H a xs∧xs.length≤i⟩
def Itr(lo:Int)(n:Nat):It:=⟨fun i _=>i < n,fun i H x H'=>H'=H∧x=.int (lo+i),fun i _=>n≤i⟩
theorem turn_list{P:Program}{w:World}{K:PySem.W.Frag}{tg:Expr}(a it:Addr):Turn P w K tg (Itl K a) [it] it (fun i h=>h.IsListIter it a i) where
 mem:=by simp
 obj:=fun i h st b hb=>by
  have e:b=it:=by simpa using hb
  subst e
  obtain⟨o,e,c,d⟩:=st
  exact⟨o,e,fun v z=>by rw[d] at z;cases z⟩
 keep:=fun i h h' st k=>st.at fun o e=>k it (by simp) o e
 item:=by
  intro X hP hw hK hc i pins s σ H E I hf st hg
  subst hP hw hK
  obtain⟨xs,x,hq,hx⟩:=hg
  obtain⟨its,rv,p,hz⟩:=I.list hq
  obtain⟨u,hu,ru⟩:=rv.get hx
  obtain⟨f0,f1,f2,f3,f4,f5⟩:=hf it (by simp)
  refine wpAny_pyNext_list_item st p.isList (x:=u) (by simpa using hu) fun h' st' sb=>?_
  have I1:Inv X pins σ H { s with heap:=h' }:=I.turned (t':=s.toks) (fun b o hb e=>(sb.2 b hb).trans e) f0 f1 f3 f4 f5
  obtain⟨o,e,c,d⟩:=id st'
  exact⟨u,rfl,go_of (s:={ s with heap:=h' }) e c d (by decide) ⟨x,H,I1,ru,⟨rfl,fun ys hy=>by rw[I.list_inj hy hq];exact hx⟩,st',fun b hb=>(hf b hb).1⟩⟩
 done:=by
  intro X hP hw hK hc i pins s σ H E I hf st hg
  subst hP hw hK
  obtain⟨xs,hq,hx⟩:=hg
  obtain⟨its,rv,p,hz⟩:=I.list hq
  obtain⟨f0,f1,f2,f3,f4,f5⟩:=hf it (by simp)
  have hl:=rv.length
  exact wpAny_pyNext_list_end (I.ok.hd hc) st p.isList (by simp;omega) fun h' eb=>⟨rfl,I.turned (t':=s.toks) (fun b o hb e=>eb b o hb e) f0 f1 f3 f4 f5⟩
 self:=fun _ _ _ _ _ st h=>wpAny_pyIter_listiter st h
theorem turn_tuple{P:Program}{w:World}{K:PySem.W.Frag}{tg:Expr}(a it:Addr):Turn P w K tg (Itt K a) [it] it (fun i h=>h.IsTupleIter it a i) where
 mem:=by simp
 obj:=fun i h st b hb=>by
  have e:b=it:=by simpa using hb
  subst e
  obtain⟨o,e,c,d⟩:=st
  exact⟨o,e,fun v z=>by rw[d] at z;cases z⟩
 keep:=fun i h h' st k=>st.at fun o e=>k it (by simp) o e
 item:=by
  intro X hP hw hK hc i pins s σ H E I hf st hg
  subst hP hw hK
  obtain⟨xs,x,hq,hx⟩:=hg
  obtain⟨its,rv,p,hz⟩:=I.tuple hq
  obtain⟨u,hu,ru⟩:=rv.get hx
  obtain⟨f0,f1,f2,f3,f4,f5⟩:=hf it (by simp)
  refine wpAny_pyNext_tuple_item st (show s.heap.IsTuple a its.toArray from p) (x:=u) (by simpa using hu) fun h' st' sb=>?_
  have I1:Inv X pins σ H { s with heap:=h' }:=I.turned (t':=s.toks) (fun b o hb e=>(sb.2 b hb).trans e) f0 f1 f3 f4 f5
  obtain⟨o,e,c,d⟩:=id st'
  exact⟨u,rfl,go_of (s:={ s with heap:=h' }) e c d (by decide) ⟨x,H,I1,ru,⟨rfl,fun ys hy=>by rw[I.tuple_inj hy hq];exact hx⟩,st',fun b hb=>(hf b hb).1⟩⟩
 done:=by
  intro X hP hw hK hc i pins s σ H E I hf st hg
  subst hP hw hK
  obtain⟨xs,hq,hx⟩:=hg
  obtain⟨its,rv,p,hz⟩:=I.tuple hq
  obtain⟨f0,f1,f2,f3,f4,f5⟩:=hf it (by simp)
  have hl:=rv.length
  exact wpAny_pyNext_tuple_end (I.ok.hd hc) st (show s.heap.IsTuple a its.toArray from p) (by simp;omega) fun h' eb=>⟨rfl,I.turned (t':=s.toks) (fun b o hb e=>eb b o hb e) f0 f1 f3 f4 f5⟩
 self:=fun _ _ _ _ _ st h=>wpAny_pyIter_tupleiter st h
theorem turn_range{P:Program}{w:World}{K:PySem.W.Frag}{tg:Expr}(it:Addr)(lo:Int)(n:Nat):Turn P w K tg (Itr lo n) [it] it (fun i h=>IsRangeIter h it (lo+(i:Nat)*1) ((n:Int) - (i:Nat)) 1) where
 mem:=by simp
 obj:=fun i h st b hb=>by
  have e:b=it:=by simpa using hb
  subst e
  exact⟨_,st,fun v z=>by
   have z':Data.fields _=Data.cell v:=z
   cases z'⟩
 keep:=fun i h h' st k=>k it (by simp) _ st
 item:=by
  intro X hP hw hK hc i pins s σ H E I hf st hg
  subst hP hw hK
  obtain⟨f0,f1,f2,f3,f4,f5⟩:=hf it (by simp)
  have W:=Walks.range (prog:=X.prog) (w:=X.w) (I.ok.hd hc) it lo 1 n
  refine W.item i s _ _ hg st fun v h' tk hv st' kk=>?_
  obtain⟨t,rfl⟩:=hv
  have I1:Inv X pins σ H { s with heap:=h',toks:=tk }:=I.turned (fun b o hb e=>kk b o (by simpa using hb) e) f0 f1 f3 f4 f5
  refine⟨_,rfl,go_of (s:={ s with heap:=h',toks:=tk }) (n := "range_iterator") st' rfl rfl (by decide) ⟨.int (lo+i),H,I1,⟨t,?_⟩,⟨rfl,rfl⟩,st',fun b hb=>(hf b hb).1⟩⟩
  rw[Int.mul_one]
 done:=by
  intro X hP hw hK hc i pins s σ H E I hf st hg
  subst hP hw hK
  obtain⟨f0,f1,f2,f3,f4,f5⟩:=hf it (by simp)
  exact wpAny_pyNext_range_end (I.ok.hd hc) st (by have:n≤i:=hg;omega) fun h' eb=>⟨rfl,I.turned (t':=s.toks) (fun b o hb e=>eb b o hb e) f0 f1 f3 f4 f5⟩
 self:=fun _ _ _ _ _ st h=>wpAny_pyIter_rangeiter st h
end L2
namespace L2
open PySem PySem.Spec PyProof.Rows
section
variable {X:Cx}{tg:Expr}
def iList(K:PySem.W.Frag)(tl:TE):TI:=fun σ H R=>tl σ H fun x H1=>∃ a,x=.ref a∧(∃ xs,SqL K H1 a xs)∧R (Itl K a) H1
def iTup(K:PySem.W.Frag)(tl:TE):TI:=fun σ H R=>tl σ H fun x H1=>∃ a,x=.ref a∧(∃ xs,SqT K H1 a xs)∧R (Itt K a) H1
theorem pi_list{l:Expr}{tl:TE}(hl:PE X l tl):PI X tg l (iList X.K tl):=by
 intro pins s σ H R I h
 refine thn (hl pins s σ H _ I h) fun v s1 ⟨x,H1,I1,r1,q1⟩=>?_
 obtain⟨a,e,⟨xs,hq⟩,q⟩:=q1
 subst e
 cases r1
 obtain⟨its,rv,p,hz⟩:=I1.list hq
 refine wpAny_pyIter_list p.isList ?_
 refine⟨s1.heap.objs.size,[s1.heap.objs.size],_,_,H1,rfl,I1.kept (t':=s1.toks) fun b o e=>Heap.get?_push_of_some _ e,turn_list a _,⟨_,Heap.get?_push_size _ rfl,rfl,rfl⟩,fun b hb=>?_,q⟩
 have e:b=s1.heap.objs.size:=by simpa using hb
 subst e
 exact I1.fpOk (Nat.le_refl _) (I1.hok.fresh (Nat.le_refl _))
theorem pi_tup{l:Expr}{tl:TE}(hl:PE X l tl):PI X tg l (iTup X.K tl):=by
 intro pins s σ H R I h
 refine thn (hl pins s σ H _ I h) fun v s1 ⟨x,H1,I1,r1,q1⟩=>?_
 obtain⟨a,e,⟨xs,hq⟩,q⟩:=q1
 subst e
 cases r1
 obtain⟨its,rv,p,hz⟩:=I1.tuple hq
 refine wpAny_pyIter_tuple (show s1.heap.IsTuple a its.toArray from p) ?_
 refine⟨s1.heap.objs.size,[s1.heap.objs.size],_,_,H1,rfl,I1.kept (t':=s1.toks) fun b o e=>Heap.get?_push_of_some _ e,turn_tuple a _,⟨_,Heap.get?_push_size _ rfl,rfl,rfl⟩,fun b hb=>?_,q⟩
 have e:b=s1.heap.objs.size:=by simpa using hb
 subst e
 exact I1.fpOk (Nat.le_refl _) (I1.hok.fresh (Nat.le_refl _))
theorem range_it{pins:List (Addr×Obj)}{σ:St}{H:Hp}{s:Shared}{R:It→Hp→Prop}{E:Value→Shared→Prop}{lo hi:Int}{t u v:Tok}{tk:Nat}(I:Inv X pins σ H s)(h1:-(2 ^ 62)≤lo)(h2:lo < 2 ^ 62)(h3:-(2 ^ 62)≤hi)(h4:hi < 2 ^ 62)
  (q:R (Itr lo (hi - lo).toNat) H):wpAny (model X.prog X.w) X.A (pyIter (.ref s.heap.objs.size)) (PIE X pins σ tg R) E { s with heap:=s.heap.push { cls:=.type "range", data:=.fields #[.int lo t,.int hi u,.int 1 v] },toks:=tk }:=by
 refine wpAny_pyIter_range (IsRange.new ..) (small_one h1 h2 h3 h4) ?_
 have I1:Inv X pins σ H { s with heap:=s.heap.push { cls:=.type "range", data:=.fields #[.int lo t,.int hi u,.int 1 v] },toks:=tk }:=I.kept fun b o e=>Heap.get?_push_of_some _ e
 refine⟨(s.heap.push { cls:=.type "range", data:=.fields #[.int lo t,.int hi u,.int 1 v] }).objs.size,[(s.heap.push { cls:=.type "range", data:=.fields #[.int lo t,.int hi u,.int 1 v] }).objs.size],_,_,H,rfl,
  I1.kept (t':=tk) fun b o e=>Heap.get?_push_of_some _ e,turn_range _ lo (hi - lo).toNat,?_,fun b hb=>?_,q⟩
 ·have e1:lo+((0:Nat):Int)*1=lo:=by simp
  have e2:(((hi - lo).toNat:Nat):Int) - ((0:Nat):Int)=Builtin.Range.rangeSize lo hi 1:=by rw[rangeSize_one];split<;>omega
  show IsRangeIter _ _ (lo+((0:Nat):Int)*1) ((((hi - lo).toNat:Nat):Int) - ((0:Nat):Int)) 1
  rw[e1,e2]
  exact Heap.get?_push_size _ rfl
 ·have e:b=(s.heap.push { cls:=.type "range", data:=.fields #[.int lo t,.int hi u,.int 1 v] }).objs.size:=by simpa using hb
  subst e
  exact I1.fpOk (Nat.le_refl _) (I1.hok.fresh (Nat.le_refl _))
def iRng1(ta:TA):TI:=fun σ H R=>ta σ H fun vs H1=>∃ j:Int,vs=[.int j]∧-(2 ^ 62)≤j∧j < 2 ^ 62∧R (Itr 0 j.toNat) H1
theorem pi_range1{a:Expr}{ta:TA}{p pos:Pos}(hg:Gl X "range")(hm:X.mg "range" = none)(ha:PA X [a] ta)(hs:starEach [a] X.env=[(false,eval a X.env)]:=by rfl):PI X tg (.Call (.Name "range" p) [a] [] pos) (iRng1 ta):=by
 intro pins s σ H R I h
 refine Call_ (ld_blt I hg hm boot_range (PyProof.Rows.callWith_type1 (thn (ha pos pins s σ H _ I h) fun us s1 ⟨vs,H1,I1,r1,q1⟩=>?_) hs rfl))
 obtain⟨j,e,q1,q2,q⟩:=q1
 subst e
 cases r1 with
 | cons r rr =>
  cases rr
  obtain⟨t,rfl⟩:=r
  exact call_range_1 (range_it I1 (by omega) (by omega) q1 q2 (by simpa using q))
def tFor(wi:TI)(g:TG)(tb:TS):TS:=fun D σ H=>wi σ H fun J H1=>∃ W:Nat→Nat→St→Hp→Prop,(∃ m,W 0 m σ H1)∧∀ i m σ H,W i m σ H →
 (J.stop i H∧D.nx σ H)∨(J.go i H∧∃ N:St→Hp→Prop,(∀ σ' H',N σ' H'→∃ m',m' < m∧W (i+1) m' σ' H')∧∀ x H',J.yld i H x H'→g x σ H' fun σ2 H2=>tb { D with nx:=N,ct:=N,bk:=D.nx } σ2 H2)
def pinsAt(fp:List Addr)(h:Heap):List (Addr×Obj):=fp.filterMap fun b=>(h.get? b).map fun o=>(b,o)
theorem mem_pinsAt{fp:List Addr}{h:Heap}{b:Addr}{o:Obj}(hb:b∈fp)(e:h.get? b=some o):(b,o)∈pinsAt fp h:=List.mem_filterMap.mpr ⟨b,hb,by rw[e];rfl⟩
theorem of_pinsAt{fp:List Addr}{h:Heap}{p:Addr×Obj}(hp:p∈pinsAt fp h):p.1∈fp∧h.get? p.1=some p.2:=by
 obtain⟨b,hb,e⟩:=List.mem_filterMap.mp hp
 cases q:h.get? b with
 | none=>rw[q] at e;cases e
 | some o =>
  rw[q] at e
  have e':(b,o)=p:=Option.some.inj e
  subst e'
  exact⟨hb,q⟩
theorem Inv.pinned{pins:List (Addr×Obj)}{σ:St}{H:Hp}{s:Shared}{fp:List Addr}(I:Inv X pins σ H s)(hf:∀ b∈fp,FpOk X pins H b)(ho:∀ b∈fp,∃ o,s.heap.get? b=some o∧∀ v,o.data≠.cell v):Inv X (pins++pinsAt fp s.heap) σ H s :=
 I.pins_of fun p hp=>(List.mem_append.mp hp).elim (fun z=>I.pin p (List.mem_append_right _ z)) fun z=>by
  obtain⟨hb,e⟩:=of_pinsAt z
  obtain⟨f0,f1,f2,_⟩:=hf p.1 hb
  obtain⟨o,e',d⟩:=ho p.1 hb
  rw[e] at e';cases e'
  exact⟨e,f0,f1,f2,d⟩
theorem Inv.unpinned{pins pl:List (Addr×Obj)}{σ:St}{H:Hp}{s:Shared}(I:Inv X (pins++pl) σ H s):Inv X pins σ H s:=I.pins_of fun p hp=>I.pin p (List.mem_append_right _ (List.mem_append_left _ hp))
theorem ps_for{iter:Expr}{body:List Stmt}{wi:TI}{g:TG}{tb:TS}{pos:Pos}(hp:PassesOwn (model X.prog X.w) X.A X.env X.xe)(hc:X.calm=true)(hi:PI X tg iter wi)(hg:PG X tg g)(hb:PSs X body tb)
  (hs:∀ x,foldedSetIterable iter X.env x=pure x:=by intro _;rfl):PS X (.For tg iter body [] pos) (tFor wi g tb):=by
 intro pins s σ H D I h
 refine wpAny_For (thn (hi pins s σ H _ I h) fun v s1 h1=>thn h1 fun itv s2 h2=>?_) hs
 obtain⟨it,fp,tn,J,H2,e,I2,T,st2,f2,W,⟨m0,w0⟩,turn⟩:=h2
 subst e
 have stat:∀{H':Hp},(∀ b∈fp,H' b=none)→∀ b∈fp,FpOk X pins H' b:=fun hn b hb=>⟨hn b hb,(f2 b hb).2⟩
 refine codeAny_forLoop_any (fun n s'=>∃ i σ' H',Inv X pins σ' H' s'∧tn i s'.heap∧(∀ b∈fp,H' b=none)∧W i n σ' H') ?_ m0 ⟨0,σ,H2,I2,st2,fun b hb=>(f2 b hb).1,w0⟩
 rintro n s3 ⟨i,σ3,H3,I3,st3,fr3,w3⟩
 rcases turn i n σ3 H3 w3 with ⟨stop,qn⟩ | ⟨go,N,hN,step⟩
 ·refine wpAny_passesOwn hp (thn (T.done X rfl rfl rfl hc i pins s3 σ3 H3 X.xe I3 (stat fr3) st3 stop) fun r s4 ⟨hr,I4⟩=>?_)
  subst hr
  exact wpAny_execs_nil ⟨σ3,H3,I4,qn⟩
 ·refine wpAny_passesOwn hp (thn (T.item X rfl rfl rfl hc i pins s3 σ3 H3 X.xe I3 (stat fr3) st3 go) fun r s4 ⟨u,hr,h4⟩=>?_)
  subst hr
  refine wpAny_passesOwn hp (thn h4 fun _ s5 ⟨x,H5,I5,r5,y5,st5,fr5⟩=>?_)
  have I5':=I5.pinned (stat fr5) (T.obj _ _ st5)
  refine wpAny_passesOwn hp (thn (hg _ s5 σ3 H5 x u _ I5' r5 (step x H5 y5)) fun _ s6 ⟨σ6,H6,I6,q6⟩=>?_)
  refine wpAny_passesOwn hp (thn (hb _ s6 σ6 H6 _ I6 q6) fun f s7 q7=>?_)
  have again:∀{σ7:St}{H7:Hp},Inv X (pins++pinsAt fp s5.heap) σ7 H7 s7→N σ7 H7→∃ m,m < n∧∃ i σ' H',Inv X pins σ' H' s7∧tn i s7.heap∧(∀ b∈fp,H' b=none)∧W i m σ' H':=fun {σ7 H7} I7 n7=>by
   obtain⟨m',hm,w7⟩:=hN σ7 H7 n7
   refine⟨m',hm,i+1,σ7,H7,I7.unpinned,T.keep _ _ _ st5 fun b hb o e=>(I7.pin (b,o) (List.mem_append_right _ (List.mem_append_right _ (mem_pinsAt hb e)))).1,fun b hb=>?_,w7⟩
   obtain⟨o,e,d⟩:=T.obj _ _ st5 b hb
   exact (I7.pin (b,o) (List.mem_append_right _ (List.mem_append_right _ (mem_pinsAt hb e)))).2.1
  cases f with
  | next=>obtain⟨σ7,H7,I7,n7⟩:=q7;exact again I7 n7
  | cont=>obtain⟨σ7,H7,I7,n7⟩:=q7;exact again I7 n7
  | brk=>obtain⟨σ7,H7,I7,q7⟩:=q7;exact⟨σ7,H7,I7.unpinned,q7⟩
  | ret v=>obtain⟨x7,σ7,H7,I7,r7,q7⟩:=q7;exact⟨x7,σ7,H7,I7.unpinned,r7,q7⟩
end
theorem for_list{K:PySem.W.Frag}{a:Addr}{xs:List V}{g:TG}{tb:TS}{D:Ends}{σ:St}{H:Hp}(Pv:Nat→St→Hp→Prop)(h0:Pv 0 σ H)(hl:∀ i σ H,i≤xs.length→Pv i σ H→SqL K H a xs)
  (hs:∀ i x σ H,xs[i]?=some x→Pv i σ H→g x σ H fun σ2 H2=>tb { D with nx:=Pv (i+1),ct:=Pv (i+1),bk:=D.nx } σ2 H2) (hd:∀ σ H,Pv xs.length σ H→D.nx σ H) :
  ∃ W:Nat→Nat→St→Hp→Prop,(∃ m,W 0 m σ H)∧∀ i m σ H,W i m σ H →
   ((Itl K a).stop i H∧D.nx σ H)∨((Itl K a).go i H∧∃ N:St→Hp→Prop,(∀ σ' H',N σ' H'→∃ m',m' < m∧W (i+1) m' σ' H')∧∀ x H',(Itl K a).yld i H x H'→g x σ H' fun σ2 H2=>tb { D with nx:=N,ct:=N,bk:=D.nx } σ2 H2):=by
 refine⟨fun i m σ H=>m=xs.length - i∧i≤xs.length∧Pv i σ H,⟨xs.length,by simp,Nat.zero_le _,h0⟩,?_⟩
 rintro i m σ H ⟨rfl,hi,p⟩
 have q:=hl i σ H hi p
 by_cases hlt:i < xs.length
 ·refine .inr ⟨⟨xs,xs[i],q,by simp[hlt]⟩,Pv (i+1),fun σ' H' p'=>⟨xs.length - (i+1),by omega,rfl,hlt,p'⟩,fun x H' y=>?_⟩
  obtain⟨e,y⟩:=y
  subst e
  exact hs i x σ _ (y xs q) p
 ·have e:i=xs.length:=by omega
  subst e
  exact .inl ⟨⟨xs,q,Nat.le_refl _⟩,hd σ H p⟩
theorem for_tup{K:PySem.W.Frag}{a:Addr}{xs:List V}{g:TG}{tb:TS}{D:Ends}{σ:St}{H:Hp}(Pv:Nat→St→Hp→Prop)(h0:Pv 0 σ H)(hl:∀ i σ H,i≤xs.length→Pv i σ H→SqT K H a xs)
  (hs:∀ i x σ H,xs[i]?=some x→Pv i σ H→g x σ H fun σ2 H2=>tb { D with nx:=Pv (i+1),ct:=Pv (i+1),bk:=D.nx } σ2 H2) (hd:∀ σ H,Pv xs.length σ H→D.nx σ H) :
  ∃ W:Nat→Nat→St→Hp→Prop,(∃ m,W 0 m σ H)∧∀ i m σ H,W i m σ H →
   ((Itt K a).stop i H∧D.nx σ H)∨((Itt K a).go i H∧∃ N:St→Hp→Prop,(∀ σ' H',N σ' H'→∃ m',m' < m∧W (i+1) m' σ' H')∧∀ x H',(Itt K a).yld i H x H'→g x σ H' fun σ2 H2=>tb { D with nx:=N,ct:=N,bk:=D.nx } σ2 H2):=by
 refine⟨fun i m σ H=>m=xs.length - i∧i≤xs.length∧Pv i σ H,⟨xs.length,by simp,Nat.zero_le _,h0⟩,?_⟩
 rintro i m σ H ⟨rfl,hi,p⟩
 have q:=hl i σ H hi p
 by_cases hlt:i < xs.length
 ·refine .inr ⟨⟨xs,xs[i],q,by simp[hlt]⟩,Pv (i+1),fun σ' H' p'=>⟨xs.length - (i+1),by omega,rfl,hlt,p'⟩,fun x H' y=>?_⟩
  obtain⟨e,y⟩:=y
  subst e
  exact hs i x σ _ (y xs q) p
 ·have e:i=xs.length:=by omega
  subst e
  exact .inl ⟨⟨xs,q,Nat.le_refl _⟩,hd σ H p⟩
theorem for_range{lo:Int}{n:Nat}{g:TG}{tb:TS}{D:Ends}{σ:St}{H:Hp}(Pv:Nat→St→Hp→Prop)(h0:Pv 0 σ H)
  (hs:∀ i σ H,i < n→Pv i σ H→g (.int (lo+i)) σ H fun σ2 H2=>tb { D with nx:=Pv (i+1),ct:=Pv (i+1),bk:=D.nx } σ2 H2) (hd:∀ σ H,Pv n σ H→D.nx σ H) :
  ∃ W:Nat→Nat→St→Hp→Prop,(∃ m,W 0 m σ H)∧∀ i m σ H,W i m σ H →
   ((Itr lo n).stop i H∧D.nx σ H)∨((Itr lo n).go i H∧∃ N:St→Hp→Prop,(∀ σ' H',N σ' H'→∃ m',m' < m∧W (i+1) m' σ' H')∧∀ x H',(Itr lo n).yld i H x H'→g x σ H' fun σ2 H2=>tb { D with nx:=N,ct:=N,bk:=D.nx } σ2 H2):=by
 refine⟨fun i m σ H=>m=n - i∧i≤n∧Pv i σ H,⟨n,by simp,Nat.zero_le _,h0⟩,?_⟩
 rintro i m σ H ⟨rfl,hi,p⟩
 by_cases hlt:i < n
 ·refine .inr ⟨hlt,Pv (i+1),fun σ' H' p'=>⟨n - (i+1),by omega,rfl,hlt,p'⟩,fun x H' y=>?_⟩
  obtain⟨e,y⟩:=y
  subst e y
  exact hs i σ _ hlt p
 ·have e:i=n:=by omega
  subst e
  exact .inl ⟨Nat.le_refl _,hd σ H p⟩
end L2
namespace L2
open PySem PySem.Spec PyProof.Rows
abbrev R2:=V→V→Hp→VK→Prop
def OpR(X:Cx)(f:Value→Value→Sem Value)(r:R2):Prop :=
 ∀ (pins:List (Addr×Obj)) (s:Shared) (σ:St) (H:Hp) (x y:V) (v u:Value) (Q:VK),Inv X pins σ H s→RelV x v→RelV y u→r x y H Q →
  wpAny (model X.prog X.w) X.A (f v u) (EP X pins σ Q) X.xe s
def UnR(X:Cx)(f:Value→Sem Value)(r:V→Hp→VK→Prop):Prop :=
 ∀ (pins:List (Addr×Obj)) (s:Shared) (σ:St) (H:Hp) (x:V) (v:Value) (Q:VK),Inv X pins σ H s→RelV x v→r x H Q →
  wpAny (model X.prog X.w) X.A (f v) (EP X pins σ Q) X.xe s
def CallR(X:Cx)(f:Value)(r:List V→Hp→VK→Prop):Prop :=
 ∀ (pins:List (Addr×Obj)) (s:Shared) (σ:St) (H:Hp) (xs:List V) (us:List Value) (Q:VK),Inv X pins σ H s→Vals xs us→r xs H Q →
  wpAny (model X.prog X.w) X.A (call f us) (EP X pins σ Q) X.xe s
def tOp(r:R2)(ta tb:TE):TE:=fun σ H Q=>ta σ H fun x H1=>tb σ H1 fun y H2=>r x y H2 Q
def tUn(r:V→Hp→VK→Prop)(ta:TE):TE:=fun σ H Q=>ta σ H fun x H1=>r x H1 Q
def rI(C:Int→Int→Prop)(g:Int→Int→V):R2:=fun x y H Q=>∃ i j,x=.int i∧y=.int j∧C i j∧Q (g i j) H
def rI0(g:Int→Int→V):R2:=fun x y H Q=>∃ i j,x=.int i∧y=.int j∧Q (g i j) H
def rU(g:Int→V):V→Hp→VK→Prop:=fun x H Q=>∃ i,x=.int i∧Q (g i) H
section
variable {X:Cx}{a b c:Expr}{ta tb tc:TE}{pos:Pos}
theorem binT(ha:PE X a ta)(hb:PE X b tb){pins:List (Addr×Obj)}{s:Shared}{σ:St}{H:Hp}{R:V→V→Hp→Prop}(I:Inv X pins σ H s)
  (h:ta σ H fun x H1=>tb σ H1 fun y H2=>R x y H2) {Q:Value→Shared→Prop} {f:Value→Value→Sem Value}
  (hf:∀ v u s2 x y H2,Inv X pins σ H2 s2→RelV x v→RelV y u→R x y H2→wpAny (model X.prog X.w) X.A (f v u) Q X.xe s2) :
  wpAny (model X.prog X.w) X.A (eval a X.env) (fun v s₁=>wpAny (model X.prog X.w) X.A (eval b X.env) (fun u s₂=>wpAny (model X.prog X.w) X.A (f v u) Q X.xe s₂) X.xe s₁) X.xe s:=by
 refine thn (ha pins s σ H _ I h) fun v s1 ⟨x,H1,I1,r1,q1⟩=>?_
 refine thn (hb pins s1 σ H1 _ I1 q1) fun u s2 ⟨y,H2,I2,r2,q2⟩=>?_
 exact hf v u s2 x y H2 I2 r1 r2 q2
theorem pe_op{op:Operator}{r:R2}(ho:OpR X (binaryOp op) r)(ha:PE X a ta)(hb:PE X b tb):PE X (.BinOp a op b pos) (tOp r ta tb):=by
 intro pins s σ H Q I h
 exact wpAny_BinOp (binT ha hb I h fun v u s2 x y H2 I2 rx ry q=>ho pins s2 σ H2 x y v u Q I2 rx ry q)
theorem pe_un{op:UnaryOp}{r:V→Hp→VK→Prop}(ho:UnR X (unaryOp op) r)(ha:PE X a ta):PE X (.UnaryOp op a pos) (tUn r ta):=by
 intro pins s σ H Q I h
 exact UnaryOp_ (thn (ha pins s σ H _ I h) fun v s1 ⟨x,H1,I1,r1,q1⟩=>ho pins s1 σ H1 x v Q I1 r1 q1)
theorem opI{f:Value→Value→Sem Value}{C:Int→Int→Prop}{g:Int→Int→Int}
  (rule:∀(i j:Int)(t u:Tok)(s:Shared)(Q:Value→Shared→Prop)(E:Value→Shared→Prop),C i j→Q (.int (g i j) s.toks) { s with toks:=s.toks+1 }→wpAny (model X.prog X.w) X.A (f (.int i t) (.int j u)) Q E s) :
  OpR X f (rI C fun i j=>.int (g i j)):=by
 intro pins s σ H x y v u Q I rx ry h
 obtain⟨i,j,rfl,rfl,hc,q⟩:=h
 obtain⟨t,rfl⟩:=rx
 obtain⟨t',rfl⟩:=ry
 exact rule i j t t' s _ _ hc ⟨.int (g i j),H,I.tok _,⟨_,rfl⟩,q⟩
theorem opI0{f:Value→Value→Sem Value}{g:Int→Int→Int}
  (rule:∀(i j:Int)(t u:Tok)(s:Shared)(Q:Value→Shared→Prop)(E:Value→Shared→Prop),Q (.int (g i j) s.toks) { s with toks:=s.toks+1 }→wpAny (model X.prog X.w) X.A (f (.int i t) (.int j u)) Q E s) :
  OpR X f (rI0 fun i j=>.int (g i j)):=by
 intro pins s σ H x y v u Q I rx ry h
 obtain⟨i,j,rfl,rfl,q⟩:=h
 obtain⟨t,rfl⟩:=rx
 obtain⟨t',rfl⟩:=ry
 exact rule i j t t' s _ _ ⟨.int (g i j),H,I.tok _,⟨_,rfl⟩,q⟩
theorem opB0{f:Value→Value→Sem Value}{g:Int→Int→Bool}
  (rule:∀(i j:Int)(t u:Tok)(s:Shared)(Q:Value→Shared→Prop)(E:Value→Shared→Prop),Q (.bool (g i j)) s→wpAny (model X.prog X.w) X.A (f (.int i t) (.int j u)) Q E s) :
  OpR X f (rI0 fun i j=>.bl (g i j)):=by
 intro pins s σ H x y v u Q I rx ry h
 obtain⟨i,j,rfl,rfl,q⟩:=h
 obtain⟨t,rfl⟩:=rx
 obtain⟨t',rfl⟩:=ry
 exact rule i j t t' s _ _ ⟨.bl (g i j),H,I,rfl,q⟩
def CPow(i j:Int):Prop:=0≤j∧j≤1000000∧i.natAbs < 2 ^ 64
def CMul(i j:Int):Prop:=(-(2 ^ 64) < i∧i < 2 ^ 64)∨(-(2 ^ 64) < j∧j < 2 ^ 64)
theorem op_add:OpR X (binaryOp .Add) (rI0 fun i j=>.int (i+j)):=opI0 fun _ _ _ _ _ _ _ q=>add_int q
theorem op_sub:OpR X (binaryOp .Sub) (rI0 fun i j=>.int (i - j)):=opI0 fun _ _ _ _ _ _ _ q=>sub_int q
theorem op_mod:OpR X (binaryOp .Mod) (rI (fun _ j=>0 < j) fun i j=>.int (i % j)):=opI fun i j _ _ _ _ _ hc q=>by
 have h1:(0:Int) < j:=hc
 exact mod_int' (by omega) (by rw[Int.fmod_eq_emod_of_nonneg i (by omega)];exact q)
theorem op_pow:OpR X (binaryOp .Pow) (rI CPow fun i j=>.int (i ^ j.toNat)):=opI fun _ _ _ _ _ _ _ hc q=>pow_int_small hc.1 hc.2.1 hc.2.2 q
theorem unI{f:Value→Sem Value}{g:Int→Int}
  (rule:∀(i:Int)(t:Tok)(s:Shared)(Q:Value→Shared→Prop)(E:Value→Shared→Prop),Q (.int (g i) s.toks) { s with toks:=s.toks+1 }→wpAny (model X.prog X.w) X.A (f (.int i t)) Q E s) :
  UnR X f (rU fun i=>.int (g i)):=by
 intro pins s σ H x v Q I rx h
 obtain⟨i,rfl,q⟩:=h
 obtain⟨t,rfl⟩:=rx
 exact rule i t s _ _ ⟨.int (g i),H,I.tok _,⟨_,rfl⟩,q⟩
theorem un_neg:UnR X (unaryOp .USub) (rU fun i=>.int (-i)):=unI fun _ _ _ _ _ q=>neg_int q
end
def scal:V→V→Bool
 | .non,.non=>true | .non,.int _=>true | .int _,.non=>true | .non,.bl _=>true | .bl _,.non=>true | .non,.str _=>true | .str _,.non=>true
 | .int _,.int _=>true | .bl _,.bl _=>true | .str _,.str _=>true | .byt _,.byt _=>true
 | .int _,.str _=>true | .str _,.int _=>true | .bl _,.str _=>true | .str _,.bl _=>true
 | _,_=>false
def rEq:R2:=fun x y H Q=>scal x y=true∧Q (.bl (decide (x=y))) H
def rNe:R2:=fun x y H Q=>scal x y=true∧Q (.bl (!decide (x=y))) H
theorem dec_int{i j:Int}:decide (V.int i=V.int j)=(i == j):=by
 rw[Bool.eq_iff_iff]
 simp
theorem dec_bl{i j:Bool}:decide (V.bl i=V.bl j)=(i == j):=by
 rw[Bool.eq_iff_iff]
 simp
theorem dec_str{i j:Str}:decide (V.str i=V.str j)=(i == j):=by
 rw[Bool.eq_iff_iff]
 simp
theorem dec_byt{i j:Array UInt8}:decide (V.byt i=V.byt j)=(i.toList == j.toList):=by
 rw[Bool.eq_iff_iff]
 cases i
 cases j
 simp
section
variable {X:Cx}{a b c:Expr}{ta tb tc:TE}{pos:Pos}
theorem fin_bl{pins:List (Addr×Obj)}{σ:St}{H:Hp}{s:Shared}{Q:VK}{k k':Bool}(I:Inv X pins σ H s)(q:Q (.bl k) H)(e:k=k'):EP X pins σ Q (.bool k') s:=by
 subst e
 exact⟨.bl k,H,I,rfl,q⟩
theorem op_eq:OpR X (compareOp .Eq) rEq:=by
 intro pins s σ H x y v u Q I rx ry h
 obtain⟨hs,q⟩:=h
 cases x with
 | non =>
  cases rx
  cases y with
  | non=>cases ry;exact PySem.EqNone.eq_none_none (fin_bl I q (by simp))
  | bl j=>cases ry;exact PySem.EqNone.eq_none_bool (fin_bl I q (by simp))
  | int j=>obtain⟨t',rfl⟩:=ry;exact PySem.EqNone.eq_none_int (fin_bl I q (by simp))
  | str j=>obtain⟨t',rfl⟩:=ry;exact PySem.EqNone.eq_none_str (fin_bl I q (by simp))
  | _=>exact absurd (show false=true from hs) Bool.false_ne_true
 | bl i =>
  cases rx
  cases y with
  | non=>cases ry;exact PySem.EqNone.eq_bool_none (fin_bl I q (by simp))
  | bl j=>cases ry;exact eq_bool (fin_bl I q dec_bl)
  | str j=>obtain⟨t',rfl⟩:=ry;exact PySem.EqMixed.eq_bool_str (fin_bl I q (by simp))
  | _=>exact absurd (show false=true from hs) Bool.false_ne_true
 | int i =>
  obtain⟨t,rfl⟩:=rx
  cases y with
  | non=>cases ry;exact PySem.EqNone.eq_int_none (fin_bl I q (by simp))
  | int j=>obtain⟨t',rfl⟩:=ry;exact eq_int (fin_bl I q dec_int)
  | str j=>obtain⟨t',rfl⟩:=ry;exact PySem.EqMixed.eq_int_str (fin_bl I q (by simp))
  | _=>exact absurd (show false=true from hs) Bool.false_ne_true
 | str i =>
  obtain⟨t,rfl⟩:=rx
  cases y with
  | non=>cases ry;exact PySem.EqNone.eq_str_none (fin_bl I q (by simp))
  | bl j=>cases ry;exact PySem.EqMixed.eq_str_bool (fin_bl I q (by simp))
  | int j=>obtain⟨t',rfl⟩:=ry;exact PySem.EqMixed.eq_str_int (fin_bl I q (by simp))
  | str j=>obtain⟨t',rfl⟩:=ry;exact eq_str (fin_bl I q dec_str)
  | _=>exact absurd (show false=true from hs) Bool.false_ne_true
 | byt i =>
  obtain⟨t,rfl⟩:=rx
  cases y with
  | byt j=>obtain⟨t',rfl⟩:=ry;exact PySem.W.eq_bytes (fin_bl I q dec_byt)
  | _=>exact absurd (show false=true from hs) Bool.false_ne_true
 | _=>cases y<;>exact absurd (show false=true from hs) Bool.false_ne_true
theorem op_ne:OpR X (compareOp .NotEq) rNe:=by
 intro pins s σ H x y v u Q I rx ry h
 obtain⟨hs,q⟩:=h
 cases x with
 | non =>
  cases rx
  cases y with
  | non=>cases ry;exact PySem.EqNone.ne_none_none (fin_bl I q (by simp))
  | bl j=>cases ry;exact PySem.EqNone.ne_none_bool (fin_bl I q (by simp))
  | int j=>obtain⟨t',rfl⟩:=ry;exact PySem.EqNone.ne_none_int (fin_bl I q (by simp))
  | str j=>obtain⟨t',rfl⟩:=ry;exact PySem.EqNone.ne_none_str (fin_bl I q (by simp))
  | _=>exact absurd (show false=true from hs) Bool.false_ne_true
 | bl i =>
  cases rx
  cases y with
  | non=>cases ry;exact PySem.EqNone.ne_bool_none (fin_bl I q (by simp))
  | bl j=>cases ry;exact ne_bool (fin_bl I q (congrArg not dec_bl))
  | str j=>obtain⟨t',rfl⟩:=ry;exact PySem.EqMixed.ne_bool_str (fin_bl I q (by simp))
  | _=>exact absurd (show false=true from hs) Bool.false_ne_true
 | int i =>
  obtain⟨t,rfl⟩:=rx
  cases y with
  | non=>cases ry;exact PySem.EqNone.ne_int_none (fin_bl I q (by simp))
  | int j=>obtain⟨t',rfl⟩:=ry;exact ne_int (fin_bl I q (congrArg not dec_int))
  | str j=>obtain⟨t',rfl⟩:=ry;exact PySem.EqMixed.ne_int_str (fin_bl I q (by simp))
  | _=>exact absurd (show false=true from hs) Bool.false_ne_true
 | str i =>
  obtain⟨t,rfl⟩:=rx
  cases y with
  | non=>cases ry;exact PySem.EqNone.ne_str_none (fin_bl I q (by simp))
  | bl j=>cases ry;exact PySem.EqMixed.ne_str_bool (fin_bl I q (by simp))
  | int j=>obtain⟨t',rfl⟩:=ry;exact PySem.EqMixed.ne_str_int (fin_bl I q (by simp))
  | str j=>obtain⟨t',rfl⟩:=ry;exact ne_str (fin_bl I q (congrArg not dec_str))
  | _=>exact absurd (show false=true from hs) Bool.false_ne_true
 | byt i =>
  obtain⟨t,rfl⟩:=rx
  cases y with
  | byt j=>obtain⟨t',rfl⟩:=ry;exact PySem.W.ne_bytes (fin_bl I q (congrArg not dec_byt))
  | _=>exact absurd (show false=true from hs) Bool.false_ne_true
 | _=>cases y<;>exact absurd (show false=true from hs) Bool.false_ne_true
theorem op_lt:OpR X (compareOp .Lt) (rI0 fun i j=>.bl (decide (i < j))):=opB0 fun _ _ _ _ _ _ _ q=>lt_int q
theorem op_le:OpR X (compareOp .LtE) (rI0 fun i j=>.bl (decide (i≤j))):=opB0 fun _ _ _ _ _ _ _ q=>le_int q
theorem op_gt:OpR X (compareOp .Gt) (rI0 fun i j=>.bl (decide (j < i))):=opB0 fun _ _ _ _ _ _ _ q=>gt_int q
theorem op_ge:OpR X (compareOp .GtE) (rI0 fun i j=>.bl (decide (j≤i))):=opB0 fun _ _ _ _ _ _ _ q=>ge_int q
theorem op_in_str:OpR X (compareOp .In) (fun x y H Q=>∃ i j,x=.str i∧y=.str j∧Q (.bl (!(Builtin.Str.occurrences j i 0 j.length 1).isEmpty)) H):=by
 intro pins s σ H x y v u Q I rx ry h
 obtain⟨i,j,rfl,rfl,q⟩:=h
 obtain⟨t,rfl⟩:=rx
 obtain⟨t',rfl⟩:=ry
 exact in_str (fin_bl I q rfl)
theorem nomark(b:Expr){op:CmpOp}(h:op≠.In:=by decide)(h2:op≠.NotIn:=by decide):behindInMarks op b=false:=by
 have e1:(op == CmpOp.In)=false:=by cases op<;>first | rfl | exact absurd rfl h
 have e2:(op == CmpOp.NotIn)=false:=by cases op<;>first | rfl | exact absurd rfl h2
 cases b<;>simp[behindInMarks,e1,e2]
theorem pe_cmpR{op:CmpOp}{r:R2}(ho:OpR X (compareOp op) r)(ha:PE X a ta)(hb:PE X b tb)(hm:behindInMarks op b=false):PE X (.Compare a [op] [b] pos) (tOp r ta tb):=by
 intro pins s σ H Q I h
 exact wpAny_Compare1 (binT ha hb I h fun v u s2 x y H2 I2 rx ry q=>ho pins s2 σ H2 x y v u Q I2 rx ry q) hm
def tTest(t:TE):TT:=fun σ H Q=>t σ H fun x H'=>∃ k,x=.bl k∧Q k H'
theorem pt_cmpR{op:CmpOp}{r:R2}(ho:OpR X (compareOp op) r)(ha:PE X a ta)(hb:PE X b tb)(hm:behindInMarks op b=false):PT X (.Compare a [op] [b] pos) (tTest (tOp r ta tb)):=by
 intro pins s σ H Q I h
 refine wpAny_isTrue_Compare1 (thn (ha pins s σ H _ I h) fun v s1 ⟨x,H1,I1,r1,q1⟩=>thn (hb pins s1 σ H1 _ I1 q1) fun u s2 ⟨y,H2,I2,r2,q2⟩ =>
  thn (ho pins s2 σ H2 x y v u _ I2 r1 r2 q2) fun c s3 ⟨z,H3,I3,r3,k,e,q3⟩=>?_) hm
 subst e
 cases r3
 exact wpAny_truthy_bool ⟨H3,I3,q3⟩
def tChain(r r':R2)(ta tb tc:TE):TE:=fun σ H Q=>ta σ H fun x H1=>tb σ H1 fun y H2=>r x y H2 fun z H3=>∃ k,z=.bl k ∧
 (if k=true then tc σ H3 fun w' H4=>r' y w' H4 Q else Q (.bl false) H3)
theorem pt_chain{op op':CmpOp}{r r':R2}(ho:OpR X (compareOp op) r)(ho':OpR X (compareOp op') r')(ha:PE X a ta)(hb:PE X b tb)(hc:PE X c tc)
  (hm:lastMarks [op,op'] [b,c]=false:=by with_unfolding_all rfl):PT X (.Compare a [op,op'] [b,c] pos) (tTest (tChain r r' ta tb tc)):=by
 intro pins s σ H Q I h
 refine isTrue_chain (thn (ha pins s σ H _ I h) fun v s1 ⟨x,H1,I1,r1,q1⟩=>test_link (thn (hb pins s1 σ H1 _ I1 q1) fun u s2 ⟨y,H2,I2,r2,q2⟩ =>
  thn (ho pins s2 σ H2 x y v u _ I2 r1 r2 q2) fun d s3 ⟨z,H3,I3,r3,k,e,q3⟩=>?_)) hm
 subst e
 cases r3
 refine wpAny_truthy_bool ?_
 cases k with
 | false =>
  obtain⟨k',e',q'⟩:=q3
  cases e'
  exact ite_ff ⟨H3,I3,q'⟩
 | true =>
  refine ite_tt (test_last (thn (hc pins s3 σ H3 _ I3 q3) fun w' s4 ⟨z',H4,I4,r4,q4⟩=>thn (ho' pins s4 σ H4 y z' u w' _ I4 r2 r4 q4) fun d' s5 ⟨z2,H5,I5,r5,k2,e2,q5⟩=>?_))
  subst e2
  cases r5
  exact wpAny_truthy_bool ⟨H5,I5,q5⟩
theorem line63:(sizeLine:Nat) < 2 ^ 63:=by rw[sizeLine_eq];decide
theorem op_add_str:OpR X (binaryOp .Add) (fun x y H Q=>∃ i j,x=.str i∧y=.str j∧i.length+j.length≤sizeLine∧Q (.str (i++j)) H):=by
 intro pins s σ H x y v u Q I rx ry h
 obtain⟨i,j,rfl,rfl,hz,q⟩:=h
 obtain⟨t,rfl⟩:=rx
 obtain⟨t',rfl⟩:=ry
 exact add_str (fun t' tk=>⟨.str (i++j),H,I.tok _,⟨_,rfl⟩,q⟩) hz
theorem vals1{x:V}{us:List Value}(r:Vals [x] us):∃ u,us=[u]∧RelV x u:=by
 cases r with
 | cons r1 r2=>cases r2;exact⟨_,rfl,r1⟩
end
end L2
namespace L2
open PySem PySem.Spec PyProof.Rows
structure ObjM(h:Heap)(x dx C:Addr)(mA:Str→Option Value):Prop where
 obj:h.get? x=some (PySem.W.instObj C dx)
 ns:h.Ns1 dx mA
 ne:dx≠x
theorem lookIn_ns{h:Heap}{dx:Addr}{mA:Str→Option Value}(n:h.Ns1 dx mA):∃ od,h.get? dx=some od∧∀ name,PySem.W.lookIn name od=some (mA name):=by
 obtain⟨o,es,ep,ho,hd,hk,_,hm⟩:=n
 refine⟨o,ho,fun name=>?_⟩
 have e:=hm name
 unfold nsFind findBy at e
 rw[← Array.find?_toList] at e
 unfold PySem.W.lookIn
 rw[hd]
 dsimp only
 split
 ·rename_i y q
  rw[q] at e
  exact congrArg some e
 ·rename_i q
  rw[q] at e
  have a:es.toList.any (·.refKey)=false:=by
   rw[List.any_eq_false]
   intro y hy
   obtain⟨z,t,hkey⟩:=hk y (Array.mem_toList_iff.mp hy)
   simp[DictEntry.refKey,hkey]
  have a':¬ es.toList.any (·.refKey)=true:=by rw[a];exact Bool.false_ne_true
  rw[if_neg a']
  exact congrArg some e
theorem ObjM.look{h:Heap}{x dx C:Addr}{mA:Str→Option Value}(I:ObjM h x dx C mA):∃ od,PySem.W.InstAt h x (PySem.W.instObj C dx) C (some od)∧∀ name,PySem.W.lookIn name od=some (mA name) :=
 let ⟨od,ho,hl⟩:=lookIn_ns I.ns
 ⟨od,⟨I.obj,rfl,rfl,ho⟩,hl⟩
section
variable {prog:Program}{w:World}{A:Around}{E:Value→Shared→Prop}{s:Shared}{K:PySem.W.Frag}{x dx C f:Addr}{mA:Str→Option Value}{name:Str}{v:Value}
end
def putF(f:Str)(v:V):List (Str×V)→List (Str×V)
 | []=>[(f,v)]
 | (g,x)::r=>if g=f then (g,v)::r else (g,x)::putF f v r
theorem RelO.some_of{v:V}{o:Option Value}(r:RelO (some v) o):∃ u,o=some u∧RelV v u:=by
 cases o with
 | none=>exact (show False from r).elim
 | some u=>exact⟨u,rfl,r⟩
theorem handed_of{v:V}{u:Value}(r:RelV v u):PySem.W.handedIn u=true:=by
 cases v with
 | non=>cases (show u=Value.none from r);rfl
 | bl b=>cases (show u=Value.bool b from r);rfl
 | int i=>obtain⟨t,e⟩:=(show ∃ t,u=Value.int i t from r);cases e;rfl
 | str x=>obtain⟨t,e⟩:=(show ∃ t,u=Value.str x t from r);cases e;rfl
 | byt b=>obtain⟨t,e⟩:=(show ∃ t,u=Value.bytes b t from r);cases e;rfl
 | flt b=>obtain⟨t,e⟩:=(show ∃ t,u=Value.float b t from r);cases e;rfl
 | ref a=>cases (show u=Value.ref a from r);rfl
 | ty n=>cases (show u=Value.type n from r);rfl
section
variable {P:Program}{w:World}{H H':Hp}{h h':Heap}{a C dx:Addr}{fs fs':List (Str×V)}
theorem ins_get(hok:HOk P w H h)(e:H a=some (.ins C dx fs)):∃ mA,ObjM h a dx C mA∧(∀ f,RelO (fs.lookup f) (mA f))∧PySem.Within mA (fs.map (·.1))∧fs.length≤1000∧H dx=some (.own a):=by
 obtain⟨d,z,ne,ob,mA,n,r,q⟩:=(show ObjOk P w H h a (.ins C dx fs) from hok a _ e)
 exact⟨mA,⟨ob,n,ne⟩,r,q,z,d⟩
end
structure Cls(K:PySem.W.Frag)(C:Addr):Prop where
 pg:PySem.W.plainGet K C Str.empty=true
 hd:PySem.W.hasDictIn K C=true
 po:PySem.W.plainOver K C=true
 sa:PySem.W.findIn K (.ref C) "__setattr__" = some (some (.builtin "object.__setattr__"))
theorem Cls.get{K:PySem.W.Frag}{C:Addr}(c:Cls K C)(f:Str):PySem.W.plainGet K C f=true:=c.pg
structure Con(K:PySem.W.Frag)(C:Addr)(f:Str)(v:V)(u:Value):Prop where
 at_:PySem.W.findIn K (.ref C) f=some (some u)
 rel:RelV v u
 get:PySem.W.specialIn K u "__get__" = some none
 cp:PySem.W.copiedNames.contains f=false
structure Meth(K:PySem.W.Frag)(C:Addr)(m:Str)(f:Addr):Prop where
 at_:PySem.W.findIn K (.ref C) m=some (some (.ref f))
 fn:PySem.W.isFn K (.ref f)=true
 kp:PySem.W.keepIn K (.ref f)=true
section
variable {X:Cx}{pins:List (Addr×Obj)}{σ:St}{H:Hp}{s:Shared}{a C dx:Addr}{fs:List (Str×V)}{f:Str}{v:V}{A:Around}{E:Value→Shared→Prop}
theorem attr_of{prog:Program}{w:World}{env:Env}{e:Expr}{f:Str}{pos:Pos}{s:Shared}{Q:Value→Shared→Prop}(hb:attributeBase e f env (eval e env)=eval e env)
  (h:wpAny (model prog w) A (eval e env) (fun o s₁=>wpAny (model prog w) A (getAttr o f true) Q E s₁) E s):wpAny (model prog w) A (eval (.Attribute e f pos) env) Q E s :=
 Attribute_any_ h (by rw[arm_eval_Attribute,hb])
end
section
variable {X:Cx}{o e value:Expr}{f:Str}{pos pos' tpos:Pos}{ta tv:TE}
end
section
variable {X:Cx}{pins:List (Addr×Obj)}{σ:St}{H:Hp}{s:Shared}{A:Around}{E:Value→Shared→Prop}{Q:Value→Shared→Prop}{c:Value}{b:Bool}
inductive TyOf (K:PySem.W.Frag) (H:Hp):V→Value→Prop where
 | non:TyOf K H .non (.type "NoneType")
 | bl (x:Bool):TyOf K H (.bl x) (.type "bool")
 | int (i:Int):TyOf K H (.int i) (.type "int")
 | str (x:Str):TyOf K H (.str x) (.type "str")
 | flt (x:UInt64):TyOf K H (.flt x) (.type "float")
 | lst {a:Addr} {xs:List V} (e:H a=some (.lst xs)):TyOf K H (.ref a) (.type "list")
 | frz {a:Addr} {o:Obj} {xs:List V} (e:H a=some (.frz o (.lst xs))):TyOf K H (.ref a) (.type "list")
 | tup {a:Addr} {xs:List V} (e:H a=some (.tup xs)):TyOf K H (.ref a) (.type "tuple")
 | dK {a:Addr} {kvs:List (Key×V)} (e:H a=some (.dK kvs)):TyOf K H (.ref a) (.type "dict")
 | dT {a:Addr} {kvs:List (List Key×V)} (e:H a=some (.dT kvs)):TyOf K H (.ref a) (.type "dict")
 | ins {a C dx:Addr} {fs:List (Str×V)} (e:H a=some (.ins C dx fs)) (cl:Cls K C) (ha:PySem.W.findIn K (.ref C) "__class__" = some (some (.builtin "object.__class__")))
   (hn:PySem.W.specialIn K (.builtin "object.__class__") "__get__" = some (some (.builtin "getset_descriptor.__get__"))) (htk:PySem.W.takesIn K (.builtin "object.__class__")=some true)
   (hm:PySem.W.mroIn K C (.type "object")=some true):TyOf K H (.ref a) (.ref C)
theorem isinst_ok{x:V}{u t:Value}(I:Inv X pins σ H s)(rx:RelV x u)(ty:TyOf X.K H x t)(e:PySem.W.kitOne X.K t c=some b)(h:∀ tk,Q (.bool b) { s with toks:=tk }) :
  wpAny (model X.prog X.w) A (call (.builtin "isinstance") [u,c]) Q E s:=by
 cases ty with
 | non=>cases (show u=Value.none from rx);exact PySem.W.kia_one PySem.W.kitx_none I.kIn True.intro e (fun z=>nomatch z) h
 | bl y=>cases (show u=Value.bool y from rx);exact PySem.W.kia_one PySem.W.kitx_bool I.kIn True.intro e (fun z=>nomatch z) h
 | int i=>obtain⟨t,q⟩:=(show ∃ t,u=Value.int i t from rx);cases q;exact PySem.W.kia_one PySem.W.kitx_int I.kIn True.intro e (fun z=>nomatch z) h
 | str y=>obtain⟨t,q⟩:=(show ∃ t,u=Value.str y t from rx);cases q;exact PySem.W.kia_one PySem.W.kitx_str I.kIn True.intro e (fun z=>nomatch z) h
 | flt y=>obtain⟨t,q⟩:=(show ∃ t,u=Value.float y t from rx);cases q;exact PySem.W.kia_one PySem.W.kitx_float I.kIn True.intro e (fun z=>nomatch z) h
 | @lst a xs ea =>
  cases (show u=Value.ref a from rx)
  obtain⟨_,_,n,_,h1⟩:=(show ObjOk X.prog X.w H s.heap a (.lst xs) from I.hok a _ ea)
  exact PySem.W.kia_one PySem.W.kitx_list I.kIn ⟨_,h1,rfl⟩ e (fun z=>nomatch z) h
 | @frz a ob xs ea =>
  cases (show u=Value.ref a from rx)
  obtain⟨_,_,_,n,_,h1⟩:=(show ObjOk X.prog X.w H s.heap a (.frz ob (.lst xs)) from I.hok a _ ea)
  exact PySem.W.kia_one PySem.W.kitx_list I.kIn ⟨_,h1,rfl⟩ e (fun z=>nomatch z) h
 | @tup a xs ea =>
  cases (show u=Value.ref a from rx)
  obtain⟨_,_,_,p⟩:=(show ObjOk X.prog X.w H s.heap a (.tup xs) from I.hok a _ ea)
  obtain⟨o,h1,h2,_⟩:=p
  exact PySem.W.kia_one PySem.W.kitx_tuple I.kIn ⟨o,h1,h2⟩ e (fun z=>nomatch z) h
 | @dK a kvs ea =>
  cases (show u=Value.ref a from rx)
  obtain⟨_,_,vs,_,p⟩:=(show ObjOk X.prog X.w H s.heap a (.dK kvs) from I.hok a _ ea)
  obtain⟨o,es,ep,h1,h2,_⟩:=p
  exact PySem.W.kia_one PySem.W.kitx_dict I.kIn ⟨o,h1,h2.1⟩ e (fun z=>nomatch z) h
 | @dT a kvs ea =>
  cases (show u=Value.ref a from rx)
  obtain⟨_,_,xs,_,o,es,ep,h1,h2,_⟩:=(show ObjOk X.prog X.w H s.heap a (.dT kvs) from I.hok a _ ea)
  exact PySem.W.kia_one PySem.W.kitx_dict I.kIn ⟨o,h1,h2.1⟩ e (fun z=>nomatch z) h
 | @ins a C dx fs ea cl ha hn htk hm =>
  cases (show u=Value.ref a from rx)
  obtain⟨mA,O,_⟩:=ins_get I.hok ea
  obtain⟨od,J,_⟩:=O.look
  exact PySem.W.kia_one (PySem.W.kitx_own (cl.get _) cl.hd ha hn htk hm) I.kIn J e (fun z=>nomatch z) h
end
end L2
namespace L2
open PySem PySem.Spec PyProof.Rows
structure Room(k:Nat)(A:Around):Prop where
 hd:A.handled=none
 dp:A.depth+3*k+5 < recursionLimit
 un:A.units+16*k+200 < cLine
theorem Room.mono{j k:Nat}{A:Around}(r:Room k A)(h:j≤k):Room j A:=⟨r.hd,by have:=r.dp;omega,by have:=r.un;omega⟩
theorem Room.deeper{k:Nat}{A:Around}(r:Room (k+1) A)(env:Env):Room k (A.deeper env) :=
 ⟨r.hd,by have:=r.dp;show A.depth+1+3*k+5 < _;omega,by have:=r.un;show A.units+3+16*k+200 < _;omega⟩
theorem make_depth{A:Around}{C:Addr}{us:List Value}{kw:List (Str×Value)}:(A.under (.builtin "type.__call__" ⟨.ref C::us,kw⟩)).depth=A.depth+1:=by
 first | rfl | simp[Around.under,Code.weight,Code.isCreation,Code.isGuard,Code.isCaller,Code.frames,Code.isFrame,guardIds]
theorem make_units{A:Around}{C:Addr}{us:List Value}{kw:List (Str×Value)}:(A.under (.builtin "type.__call__" ⟨.ref C::us,kw⟩)).units=A.units+1:=by
 first | rfl | simp[Around.under,Code.cUnits,Code.frames,Code.isFrame]
theorem Room.make{k:Nat}{A:Around}(r:Room (k+1) A)(C:Addr)(us:List Value)(kw:List (Str×Value)):Room k (A.under (.builtin "type.__call__" ⟨.ref C::us,kw⟩)) :=
 ⟨r.hd,by have:=r.dp;rw[make_depth];omega,by have:=r.un;rw[make_units];omega⟩
theorem Room.depth{k:Nat}{A:Around}(r:Room k A):A.depth < recursionLimit:=by have:=r.dp;omega
theorem Room.units{k:Nat}{A:Around}(r:Room k A):A.units+64 < cLine:=by have:=r.un;omega
def tNil:TA:=fun _ H Q=>Q [] H
def tCons(ta:TE)(tr:TA):TA:=fun σ H Q=>ta σ H fun x H1=>tr σ H1 fun xs H2=>Q (x::xs) H2
section
variable {X:Cx}{e:Expr}{es:List Expr}{te:TE}{t:TA}{pos:Pos}
theorem pa_nil:PA X [] tNil:=fun _ _ _ _ H Q I h=>Calls.spliced_nil ⟨[],H,I,.nil,h⟩
theorem pa_cons(ha:PE X e te)(hr:PA X es t)(hs:starEach (e::es) X.env=(false,eval e X.env)::starEach es X.env:=by rfl):PA X (e::es) (tCons te t):=by
 intro pos pins s σ H Q I h
 rw[hs]
 show wpAny _ _ (spliced ((false,eval e X.env)::backTo pos (starEach es X.env))) _ _ s
 refine Calls.spliced_cons (thn (ha pins s σ H _ I h) fun u s1 ⟨x,H1,I1,r1,q1⟩=>?_)
 exact thn (hr pos pins s1 σ H1 _ I1 q1) fun us s2 ⟨xs,H2,I2,r2,q2⟩=>⟨x::xs,H2,I2,.cons r1 r2,q2⟩
def tTup(t:TA):TE:=fun σ H Q=>t σ H fun xs H1=>xs.length≤sizeLine∧∀ p,H1 p=none→Q (.ref p) (upd H1 p (.tup xs))
def tLst(t:TA):TE:=fun σ H Q=>t σ H fun xs H1=>xs.length≤sizeLine∧∀ p,H1 p=none→Q (.ref p) (upd H1 p (.lst xs))
theorem pe_tup{x1}(h:PA X es t):PE X (.Tuple es x1 pos) (tTup t):=by
 intro pins s σ H Q I hq
 refine wpAny_Tuple_spliced (thn (h pos pins s σ H _ I hq) fun us s1 ⟨xs,H1,I1,r,z,q⟩=>⟨by rw[← r.length];exact z,?_⟩)
 have hf:H1 s1.heap.objs.size=none:=I1.hok.fresh (Nat.le_refl _)
 refine⟨.ref s1.heap.objs.size,upd H1 s1.heap.objs.size (.tup xs),I1.laid (t':=s1.toks) (fun b u e=>Heap.get?_push_of_some _ e) (Nat.le_refl _) ?_,rfl,q _ hf⟩
 exact⟨z,us,r,⟨_,Heap.get?_push_size _ rfl,rfl,_,rfl⟩⟩
theorem pe_lst(h:PA X es t):PE X (.List es pos) (tLst t):=by
 intro pins s σ H Q I hq
 refine wpAny_List_spliced (thn (h pos pins s σ H _ I hq) fun us s1 ⟨xs,H1,I1,r,z,q⟩=>⟨by rw[← r.length];exact z,?_⟩)
 have hf:H1 s1.heap.objs.size=none:=I1.hok.fresh (Nat.le_refl _)
 refine⟨.ref s1.heap.objs.size,upd H1 s1.heap.objs.size (.lst xs),I1.laid (t':=s1.toks) (fun b u e=>Heap.get?_push_of_some _ e) (Nat.le_refl _) ?_,rfl,q _ hf⟩
 exact⟨z,us,0,r,Heap.get?_push_size _ rfl⟩
end
abbrev Sp:=List V→Hp→VK→XK→Prop
abbrev CXT:=List Env→Hp→Shared→XK→Value→Shared→Prop
structure Env0(P:Program)(w:World)(K:PySem.W.Frag)(mg:Str→Option Value)(base:Heap)(A:Around)(outer:List Env)(s:Shared)(H:Hp):Prop where
 frames:A.frames=some outer
 mod:Mod K mg base
 bs:∀ b o,base.get? b=some o→s.heap.get? b=some o∧H b=none
 bsz:base.objs.size≤s.heap.objs.size
 funs:s.heap.FunFrames base outer
 frf:∀ b∈frs outer,H b=none
 hok:HOk P w H s.heap
 bare:AllBare s.gens
def CE(outer:List Env)(P:Program)(w:World)(H:Hp)(s:Shared)(Q:VK)(u:Value)(s':Shared):Prop :=
 ∃ v H',s'.os=s.os∧AllBare s'.gens∧Un (frs outer) [] H H' s.heap s'.heap∧HOk P w H' s'.heap∧RelV v u∧Q v H'
def CR(CX:CXT)(outer:List Env)(P:Program)(w:World)(H:Hp)(s:Shared)(Q:VK)(E:XK)(r:Result)(s':Shared):Prop :=
 match r with
 | .ok (.ret u)=>CE outer P w H s Q u s'
 | .ok _=>False
 | .error e=>CX outer H s E e s'
structure FnOk(P:Program)(w:World)(K:PySem.W.Frag)(mg:Str→Option Value)(base:Heap)(CX:CXT)(k:Nat)(f:Addr)(fd:FuncData)(ps:List Str)(sp:Sp):Prop where
 len:∀ vs H Q E,sp vs H Q E→vs.length=ps.length
 run:∀(A:Around)(outer:List Env)(s:Shared)(H:Hp)(args:Args)(us:List Value)(vs:List V)(Q:VK)(E:XK),Room k A→Env0 P w K mg base A outer s H→BindsTo s fd args (ps.zip us)→Vals vs us→sp vs H Q E →
  codeAny (model P w) A (.call (.ref f) args) (CR CX outer P w H s Q E) s
theorem Env0.make{P:Program}{w:World}{K:PySem.W.Frag}{mg:Str→Option Value}{base:Heap}{A:Around}{outer:List Env}{s:Shared}{H:Hp}(e:Env0 P w K mg base A outer s H)(C:Addr)(us:List Value)(kw:List (Str×Value)) :
  Env0 P w K mg base (A.under (.builtin "type.__call__" ⟨.ref C::us,kw⟩)) outer s H:=⟨by first | exact e.frames | (simpa [Around.under,Code.envs,Code.isFrame,pushEnvs] using e.frames),e.mod,e.bs,e.bsz,e.funs,e.frf,e.hok,e.bare⟩
section
variable {X:Cx}{pins:List (Addr×Obj)}{σ:St}{H:Hp}{s s':Shared}
theorem Inv.env0(I:Inv X pins σ H s):Env0 X.prog X.w X.K X.mg X.base X.A X.stack s H :=
 ⟨I.ok.frames,I.ok.mod,I.bs,Nat.le_trans I.ok.bsz I.sz,I.stack,I.stkFree,I.hok,I.bare⟩
theorem Inv.after{Q:VK}{u:Value}(I:Inv X pins σ H s)(h:CE X.stack X.prog X.w H s Q u s'):EP X pins σ Q u s':=by
 obtain⟨v,H',os,bare,un,hok,r,q⟩:=h
 obtain⟨hh,g,d,t,os'⟩:=s'
 obtain rfl:os'=s.os:=os
 exact⟨v,H',I.call (h':=hh) (g':=g) (d':=d) (t':=t) (ch:=[]) un hok bare (fun b z=>absurd z (by simp)),r,q⟩
end
def tCall(sp:Sp)(dvs:List V)(E:XK)(t:TA):TE:=fun σ H Q=>t σ H fun vs H1=>sp (vs++dvs) H1 Q E
def Binds(K:PySem.W.Frag)(fd:FuncData)(ps:List Str)(ds:List Value):Prop :=
 ∀(s:Shared)(us:List Value),K.In s.heap→(us++ds).length=ps.length→BindsTo s fd ⟨us,[]⟩ (ps.zip (us++ds))
theorem Binds.all{K:PySem.W.Frag}{fd:FuncData}{ps:List Str}(h:∀ us:List Value,us.length=ps.length→bindArgs fd ⟨us,[]⟩=pure (ps.zip us)):Binds K fd ps []:=fun s us _ hl=>by
 rw[List.append_nil] at hl ⊢
 exact .of_eq (h us hl)
def Passes(CX:CXT)(X:Cx)(E:XK):Prop:=∀ (pins:List (Addr×Obj)) (σ:St) (H:Hp) (s:Shared) (e:Value) (s':Shared),Inv X pins σ H s→CX X.stack H s E e s'→X.xe e s'
section
variable {X:Cx}{CX:CXT}{k:Nat}{f C:Addr}{fd:FuncData}{ps:List Str}{sp:Sp}{dvs:List V}{ds:List Value}{E:XK}{x m:Str}{p pos apos:Pos}{e o:Expr}{es:List Expr}{ta:TE}{t:TA}
theorem run_fn{pins:List (Addr×Obj)}{σ:St}{H:Hp}{s:Shared}{Q:VK}{us:List Value}{vs:List V}(F:FnOk X.prog X.w X.K X.mg X.base CX k f fd ps sp)(hr:Room k X.A)(hb:Binds X.K fd ps ds)(hd:Vals dvs ds)(hx:Passes CX X E)
  (I:Inv X pins σ H s) (r:Vals vs us) (h:sp (vs++dvs) H Q E):wpAny (model X.prog X.w) X.A (call (.ref f) us) (EP X pins σ Q) X.xe s:=by
 have r2:Vals (vs++dvs) (us++ds):=r.append hd
 have hl:(us++ds).length=ps.length:=by rw[← r2.length];exact F.len _ _ _ _ h
 refine wpAny_call (codeAny_mono (F.run X.A X.stack s H ⟨us,[]⟩ (us++ds) (vs++dvs) Q E hr I.env0 (hb s us I.kIn hl) r2 h) fun r s' hq=>?_)
 cases r with
 | error e=>exact hx pins σ H s e s' I hq
 | ok fl =>
  cases fl with
  | ret u=>exact I.after hq
  | next=>exact False.elim hq
  | brk=>exact False.elim hq
  | cont=>exact False.elim hq
theorem pe_call(F:FnOk X.prog X.w X.K X.mg X.base CX k f fd ps sp)(hr:Room k X.A)(hg:Gl X x)(hm:X.mg x=some (.ref f))(hk:PySem.W.keepIn X.K (.ref f)=true)(hb:Binds X.K fd ps ds)(hd:Vals dvs ds)(hx:Passes CX X E)
  (ha:PA X (e::es) t) (hdb:(x == ("__debug__" : Str))=false:=by decide) (he:starEach (e::es) X.env=(false,eval e X.env)::starEach es X.env:=by rfl) (hpl:(backTo pos (starEach es X.env)).any (·.1)=false:=by rfl) :
  PE X (.Call (.Name x p) (e::es) [] pos) (tCall sp dvs E t):=by
 intro pins s σ H Q I h
 refine wpAny_Call_Name_kw (ld_glob I hg hm ?_ hdb)
 refine PySem.W.callWith_K (h₀:=X.base) I.ok.mod.kin hk (thn (ha pos pins s σ H _ I h) fun us s1 ⟨vs,H1,I1,r,q⟩=>⟨I1.kIn,?_⟩) he hpl
 exact run_fn F hr hb hd hx I1 r q
structure Mk(K:PySem.W.Frag)(C f:Addr):Prop where
 makes:PySem.W.makesIn K C=true
 init:PySem.W.findIn K (.ref C) "__init__" = some (some (.ref f))
 fn:PySem.W.isFn K (.ref f)=true
 kp:PySem.W.keepIn K (.ref C)=true
end
section
variable {X:Cx}{CX:CXT}{k:Nat}{f C:Addr}{fd:FuncData}{ps ks:List Str}{sp:Sp}{E:XK}{x m:Str}{p pos apos kpos:Pos}{e o:Expr}{es:List Expr}{kws:List Keyword}{te ta:TE}{t tk:TA}{nm:Option Str}
structure KBinds(K:PySem.W.Frag)(fd:FuncData)(ps ks:List Str)(g:List Value→List Value→List Value)(gV:List V→List V→List V):Prop where
 to:∀(s:Shared)(us ws:List Value),K.In s.heap→(g us ws).length=ps.length→BindsTo s fd ⟨us,ks.zip ws⟩ (ps.zip (g us ws))
 rel:∀{vs:List V}{us:List Value}{zs:List V}{ws:List Value},Vals vs us→Vals zs ws→Vals (gV vs zs) (g us ws)
variable {g:List Value→List Value→List Value}{gV:List V→List V→List V}
end
structure FnScope(N P:List Str)(sc:Scope):Prop where
 kind:sc.kind=.function
 co:sc.isCoroutine=false
 gen:sc.isGenerator=false
 nd:N.Nodup
 pre:N.take P.length=P
 par:∀ x∈P,sc.names.lookup x=some .local∨sc.names.lookup x=some .cell
 nofree:∀ y∈sc.names,y.2≠.free
theorem bindL_out{kindOf:Str→Option NameKind}{x:Str}:∀ {binds:List (Str×Value)} {m:Str→Option Value},(∀ v,(x,v)∉binds)→bindL kindOf binds m x=m x
 | [],_,_=>rfl
 | (n,v)::r,m,h=>by
  unfold bindL
  rw[bindL_out fun w hw=>h w (List.mem_cons_of_mem _ hw)]
  split
  ·have:x≠n:=by rintro rfl;exact h v List.mem_cons_self
   simp[this]
  ·rfl
theorem bindC_out{kindOf:Str→Option NameKind}{x:Str}:∀ {binds:List (Str×Value)} {m:Str→Option Value},(∀ v,(x,v)∉binds)→bindC kindOf binds m x=m x
 | [],_,_=>rfl
 | (n,v)::r,m,h=>by
  unfold bindC
  rw[bindC_out fun w hw=>h w (List.mem_cons_of_mem _ hw)]
  split
  ·rfl
  ·have:x≠n:=by rintro rfl;exact h v List.mem_cons_self
   simp[this]
theorem bindL_get{kindOf:Str→Option NameKind}{x:Str}{v:Value}:∀{P:List Str}{vs:List Value}{i:Nat}{m:Str→Option Value},P.Nodup→P[i]?=some x→vs[i]?=some v→kindOf x=some .local →
  bindL kindOf (P.zip vs) m x=some v
 | [],_,_,_,_,h,_,_=>by simp at h
 | _::_,[],_,_,_,_,h,_=>by simp at h
 | p::P,w::vs,0,m,nd,h1,h2,hk=>by
  simp at h1 h2;subst h1;subst h2
  show bindL kindOf ((p,w)::P.zip vs) m p=_
  unfold bindL
  rw[bindL_out fun v hv=>(List.nodup_cons.mp nd).1 (List.of_mem_zip hv).1,if_pos hk]
  simp
 | p::P,w::vs,i+1,m,nd,h1,h2,hk=>by
  show bindL kindOf ((p,w)::P.zip vs) m x=_
  unfold bindL
  exact bindL_get (i:=i) (List.nodup_cons.mp nd).2 (by simpa using h1) (by simpa using h2) hk
theorem bindC_get{kindOf:Str→Option NameKind}{x:Str}{v:Value}:∀{P:List Str}{vs:List Value}{i:Nat}{m:Str→Option Value},P.Nodup→P[i]?=some x→vs[i]?=some v→kindOf x≠some .local →
  bindC kindOf (P.zip vs) m x=some v
 | [],_,_,_,_,h,_,_=>by simp at h
 | _::_,[],_,_,_,_,h,_=>by simp at h
 | p::P,w::vs,0,m,nd,h1,h2,hk=>by
  simp at h1 h2;subst h1;subst h2
  show bindC kindOf ((p,w)::P.zip vs) m p=_
  unfold bindC
  rw[bindC_out fun v hv=>(List.nodup_cons.mp nd).1 (List.of_mem_zip hv).1,if_neg hk]
  simp
 | p::P,w::vs,i+1,m,nd,h1,h2,hk=>by
  show bindC kindOf ((p,w)::P.zip vs) m x=_
  unfold bindC
  exact bindC_get (i:=i) (List.nodup_cons.mp nd).2 (by simpa using h1) (by simpa using h2) hk
def start(N:List Str)(vs:List V):St:=vs.map some++List.replicate (N.length - vs.length) none
def cxOf(CX:CXT)(P:Program)(w:World)(K:PySem.W.Frag)(mg:Str→Option Value)(base:Heap)(N:List Str)(qual:Str)(scope:Scope)(f:Addr)(cd:Value)(A:Around)(outer:List Env)(s:Shared)(H:Hp)(E:XK):Cx where
 prog:=P
 w:=w
 K:=K
 mg:=mg
 base:=base
 A:=A.deeper (envOfC qual scope s.heap.objs.size f cd)
 N:=N
 s₀:=s
 H₀:=H
 env:=envOfC qual scope s.heap.objs.size f cd
 outer:=outer
 stack:=envOfC qual scope s.heap.objs.size f cd::outer
 ex:=[]
 calm:=true
 fn:=fun _=>true
 pn:=[]
 xe:=fun e s'=>wpAny (model P w) (A.deeper (envOfC qual scope s.heap.objs.size f cd)) (leaving (envOfC qual scope s.heap.objs.size f cd) e) (fun _ s''=>CX outer H s E e s'') (fun e' s''=>CX outer H s E e' s'') s'
theorem cell_has{sc:Scope}{n:Nat}{x:Str}(h:sc.names.lookup x=some .cell):∃ c,(cellsFrom n sc.names []).lookup x=some c:=by
 have q:=PySem.W.cellsFrom_some sc.names n [] (.inl h)
 exact Option.isSome_iff_exists.mp q
theorem inv_start{CX:CXT}{P:Program}{w:World}{K:PySem.W.Frag}{mg:Str→Option Value}{base:Heap}{N ps:List Str}{qual:Str}{scope:Scope}{f:Addr}{cd:Value}{A:Around}{outer:List Env}{s s1:Shared}{H:Hp}{E:XK}{us:List Value}{vs:List V}
  (S:FnScope N ps scope) (hd:A.handled=none) (e0:Env0 P w K mg base A outer s H) (hl:vs.length=ps.length) (r:Vals vs us)
  (x:InCallC s s.heap.objs.size (bindL (envOfC qual scope s.heap.objs.size f cd).kindOf (ps.zip us) fun _=>none) (cellsFrom (s.heap.objs.size+1) scope.names []) (bindC (envOfC qual scope s.heap.objs.size f cd).kindOf (ps.zip us) fun _=>none) s1) :
  Inv (cxOf CX P w K mg base N qual scope f cd A outer s H E) [] (start N vs) H s1:=by
 have hpl:ps.length≤N.length:=by have:=congrArg List.length S.pre;rw[List.length_take] at this;omega
 obtain⟨h1,tk,rfl,hk⟩:=x.done
 have noA:∀ b:Addr,b∉(cxOf CX P w K mg base N qual scope f cd A outer s H E).ex:=fun b z=>absurd (show b∈([]:List Addr) from z) (by simp)
 refine⟨⟨e0.mod,S.kind,rfl,rfl,Nat.le_refl _,fun y z c h1 h2=>?_,fun y hy=>?_,fun y c _ h=>?_,fun _=>hd,Around.frames_deeper e0.frames,.inr ⟨rfl,rfl⟩,fun b z=>absurd z (noA b),e0.bs,e0.bsz,fun b _ _=>noA b,fun b z=>absurd z (noA b),e0.funs,e0.frf⟩,
  rfl,e0.bare,Un.kept hk,⟨_,x.toInCall.ns,fun i y v h1 h2 h3=>?_⟩,fun y c h=>⟨_,x.cell y c h⟩,e0.hok.fresh (Nat.le_refl _),fun y c h=>?_,fun p hp=>absurd (show p∈([]:List (Addr×Obj)) from hp) (by simp),e0.hok.kept hk,?_⟩
 ·exact name_of_addr x.apart (PySem.mem_of_lookup h1) (PySem.mem_of_lookup h2)
 ·have hy:scope.names.lookup y=some .cell∨scope.names.lookup y=some .free:=hy
  rcases hy with hy | hy
  ·exact cell_has hy
  ·exact absurd rfl (S.nofree _ (PySem.mem_of_lookup hy))
 ·exact Nat.le_of_lt (x.above y c (PySem.mem_of_lookup h))
 ·have hi:i < vs.length:=by
   unfold start at h2
   by_cases hi:i < vs.length
   ·exact hi
   ·rw[List.getElem?_append_right (by simpa using hi)] at h2
    rw[List.getElem?_replicate] at h2
    split at h2<;>cases h2
  have ha:vs[i]?=some v:=by
   unfold start at h2
   rw[List.getElem?_append_left (by simpa using hi),List.getElem?_map] at h2
   cases e:vs[i]? with
   | none=>rw[e] at h2;cases h2
   | some a=>rw[e] at h2;cases h2;rfl
  obtain⟨u,hu,rv⟩:=r.get ha
  have hp:ps[i]?=some y:=by
   rw[← S.pre,List.getElem?_take_of_lt (by omega)];exact h1
  have ndP:ps.Nodup:=by rw[← S.pre];exact S.nd.sublist (List.take_sublist _ _)
  refine⟨u,rv,?_⟩
  rcases S.par y (List.mem_of_getElem? hp) with k | k
  ·exact .inl ⟨k,bindL_get ndP hp hu k⟩
  ·obtain⟨c,e⟩:=cell_has (n:=s.heap.objs.size+1) k
   refine .inr ⟨.inl k,c,e,?_⟩
   have q:=x.cell y c e
   rw[bindC_get ndP hp hu (by show scope.names.lookup y≠_;rw[k];decide)] at q
   exact q
 ·exact e0.hok.fresh (Nat.le_of_lt (x.above y c (PySem.mem_of_lookup h)))
 ·unfold start
  show _=N.length
  rw[List.length_append,List.length_map,List.length_replicate]
  omega
theorem fn_of{CX:CXT}{P:Program}{w:World}{K:PySem.W.Frag}{mg:Str→Option Value}{base:Heap}{k:Nat}{f:Addr}{name qual:Str}{params:Arguments}{body:List Stmt}{scope:Scope}{dV kV doc pm cdv ct oc:Value}{an od:Option Addr}
  {osl:Array (Option Value)} {N ps:List Str} {sp:Sp} (lk:K.lookup f=some ⟨oc,od,.func (PySem.W.fnOf name qual params body scope dV kV doc pm an cdv ct),osl⟩) (hcd:PySem.W.codeIn K cdv qual=true) (S:FnScope N ps scope)
  (len:∀ vs H Q E,sp vs H Q E→vs.length=ps.length)
  (hbody:∀(A:Around)(outer:List Env)(s:Shared)(H:Hp)(vs:List V)(Q:VK)(E:XK),Room k (A.deeper (envOfC qual scope s.heap.objs.size f cdv))→sp vs H Q E →
   ∃ t,PSs (cxOf CX P w K mg base N qual scope f cdv A outer s H E) body t∧t { nx:=fun _ H'=>Q .non H',rt:=Q } (start N vs) H) :
  FnOk P w K mg base CX (k+1) f (PySem.W.fnOf name qual params body scope dV kV doc pm an cdv ct) ps sp:=by
 refine⟨len,fun A outer s H args us vs Q E hr e0 hb r hsp=>?_⟩
 have hl:=len _ _ _ _ hsp
 have KX:K.In s.heap:=e0.mod.kin.keeps fun b o e=>(e0.bs b o e).1
 have lim:s.heap.NoLimit:=e0.mod.nolimit.keeps fun b o e=>(e0.bs b o e).1
 have hkind:∀ y∈ps.zip us,scope.names.lookup y.1=some .local∨(scope.names.lookup y.1=some .cell∧((cellsFrom (s.heap.objs.size+1) scope.names []).lookup y.1).isSome=true):=fun ⟨n,v⟩ hy=>by
  rcases S.par n (List.of_mem_zip hy).1 with q | q
  ·exact .inl q
  ·exact .inr ⟨q,PySem.W.cellsFrom_some _ _ _ (.inl q)⟩
 refine codeAny_call_function hr.depth (KX _ _ lk) rfl S.co S.gen rfl (PySem.W.codeRec_of KX hcd) (hb _ _ _ _ ?_)
 refine wpAny_newFunctionEnv_cells S.kind hkind fun env he s1 x=>?_
 subst he
 refine⟨lim.keeps x.toInCall.keep,codeAny_func ?_⟩
 obtain⟨t,ht,hq⟩:=hbody A outer s H vs Q E (hr.deeper _) hsp
 have I:Inv (cxOf CX P w K mg base N qual scope f cdv A outer s H E) [] (start N vs) H s1:=inv_start S hr.hd e0 hl r x
 refine wpAny_mono (ht [] s1 (start N vs) H _ I hq) (fun fl s' hs=>?_) fun e s' hs=>hs
 have fin:∀{σ':St}{H':Hp}{v:V}{u:Value},Inv (cxOf CX P w K mg base N qual scope f cdv A outer s H E) [] σ' H' s'→RelV v u→Q v H'→CE outer P w H s Q u s' :=
  fun {σ' H' v u} J rv q=>⟨v,H',J.os,J.bare,J.base,J.hok,rv,q⟩
 cases fl with
 | ret u =>
  obtain⟨v,σ',H',J,rv,q⟩:=hs
  exact fin J rv q
 | next =>
  obtain⟨σ',H',J,q⟩:=hs
  exact fin (v:=V.non) (u:=Value.none) J rfl q
 | brk =>
  obtain⟨_,_,_,q⟩:=hs
  exact False.elim q
 | cont =>
  obtain⟨_,_,_,q⟩:=hs
  exact False.elim q
end L2
namespace L2
open PySem PySem.Spec PyProof.Rows
section
variable {X:Cx}{x:Str}{p pos:Pos}{e:Expr}{es:List Expr}{t:TA}{id T:String}{r:List V→Hp→VK→Prop}
def tCB(r:List V→Hp→VK→Prop)(t:TA):TE:=fun σ H Q=>t σ H fun vs H1=>r vs H1 Q
theorem pe_callB(hc:CallR X (.builtin id) r)(hg:Gl X x)(hm:X.mg x=none)(hv:bootBuiltins x=some (.builtin id))(ha:PA X (e::es) t)(hn:x ≠ "__name__" := by decide)(hdb:(x == ("__debug__" : Str))=false:=by decide)
  (he:starEach (e::es) X.env=(false,eval e X.env)::starEach es X.env:=by rfl) (hpl:(backTo pos (starEach es X.env)).any (·.1)=false:=by rfl):PE X (.Call (.Name x p) (e::es) [] pos) (tCB r t):=by
 intro pins s σ H Q I h
 refine wpAny_Call_Name_kw (ld_blt I hg hm hv ?_ hn hdb)
 exact PyProof.Rows.callWith_builtin1 (thn (ha pos pins s σ H _ I h) fun us s1 ⟨vs,H1,I1,r1,q1⟩=>hc pins s1 σ H1 vs us Q I1 r1 q1) he hpl
theorem pe_callTy(hc:CallR X (.type T) r)(hg:Gl X x)(hm:X.mg x=none)(hv:bootBuiltins x=some (.type T))(ha:PA X (e::es) t)(hn:x ≠ "__name__" := by decide)(hdb:(x == ("__debug__" : Str))=false:=by decide)
  (he:starEach (e::es) X.env=(false,eval e X.env)::starEach es X.env:=by rfl) (hpl:(backTo pos (starEach es X.env)).any (·.1)=false:=by rfl):PE X (.Call (.Name x p) (e::es) [] pos) (tCB r t):=by
 intro pins s σ H Q I h
 refine wpAny_Call_Name_kw (ld_blt I hg hm hv ?_ hn hdb)
 exact PyProof.Rows.callWith_type1 (thn (ha pos pins s σ H _ I h) fun us s1 ⟨vs,H1,I1,r1,q1⟩=>hc pins s1 σ H1 vs us Q I1 r1 q1) he hpl
end
end L2
namespace HT
open PySem PyProof.Rows
section
open PySem.SeqAt
open PySem.AutoSeq1 (wpAny_loadPart')
open PySem.MeetsSeq PySem.MeetsSeq2 PySem.MeetsSeq3
end
section
variable {prog:Program}{w:World}{A:Around}{E:Value→Shared→Prop}{s:Shared}
theorem cat_tup{t b:Addr}{vs ws:List Value}{Q:Value→Shared→Prop}(ht:IsTup s.heap t vs.toArray)(hb:IsTup s.heap b ws.toArray)(hv:vs≠[])
  (h1:ws=[]→Q (.ref t) s) (h2:ws≠[]→Q (.ref s.heap.objs.size) { s with heap:=s.heap.push { cls:=.type "tuple", data:=.seq (vs++ws).toArray } })
  (hsz:vs.length+ws.length≤sizeLine):wpAny (model prog w) A (binaryOp .Add (.ref t) (.ref b)) Q E s:=by
 obtain⟨⟨cls,dd,data,sl⟩,ho,hc,n,hd⟩:=id ht
 obtain⟨⟨cls2,dd2,data2,sl2⟩,ho2,hc2,n2,hd2⟩:=id hb
 simp only at hc hd hc2 hd2
 subst hc hd hc2 hd2
 have e:vs.toArray++ws.toArray=(vs++ws).toArray:=by simp
 by_cases hw:ws=[]
 ·exact concat_meets ⟨_,ho,rfl⟩ ⟨_,ho2,rfl⟩ noFill_tuple_add seq_tuple_add PySem.F.slot_tuple_add PySem.F.entry_tuple_add (PySem.F.args_tuple_add_2 _ _)
   (tuple_addW1 t b vs.toArray ws.toArray n n2 dd dd2 sl sl2 (by simpa using hv) (by simp[hw])) ⟨ho,ho2,h1 hw⟩
 ·refine concat_meets ⟨_,ho,rfl⟩ ⟨_,ho2,rfl⟩ noFill_tuple_add seq_tuple_add PySem.F.slot_tuple_add PySem.F.entry_tuple_add (PySem.F.args_tuple_add_2 _ _)
   (tuple_addW2 t b vs.toArray ws.toArray n n2 dd dd2 sl sl2 (by simpa using hv) (by simpa using hw) (by rw[List.size_toArray,List.size_toArray];exact hsz)) ⟨ho,ho2,?_⟩
  rw[e]
  exact h2 hw
def sIx(n d:Nat):Option Int→Nat
 | none=>d
 | some v=>if v < 0 then (v+(n:Int)).toNat else min v.toNat n
theorem sIx_none(n d:Nat):sIx n d none=d:=rfl
theorem sIx_nat(n d k:Nat):sIx n d (some (k:Int))=min k n:=by
 show (if (k:Int) < 0 then ((k:Int)+(n:Int)).toNat else min (k:Int).toNat n)=min k n
 rw[if_neg (by omega),Int.toNat_natCast]
end
end HT
namespace L2
open PySem PySem.Spec PyProof.Rows
abbrev TO:=St→Hp→(Option Int→Hp→Prop)→Prop
def PO(X:Cx)(e:Option Expr)(t:TO):Prop :=
 ∀ (pins:List (Addr×Obj)) (s:Shared) (σ:St) (H:Hp) (Q:Option Int→Hp→Prop),Inv X pins σ H s→t σ H Q →
  wpAny (model X.prog X.w) X.A (evalPart e X.env) (fun u s'=>∃ o H',Inv X pins σ H' s'∧IsPart u o∧Q o H') X.xe s
def tNoPart:TO:=fun _ H Q=>Q none H
def tPart(t:TE):TO:=fun σ H Q=>t σ H fun x H1=>∃ i,x=.int i∧Q (some i) H1
section
variable {X:Cx}{e:Expr}{te:TE}{lo hi:Option Expr}{tl th:TO}{pos p2:Pos}
theorem po_none:PO X none tNoPart:=by
 intro pins s σ H Q I h
 rw[evalPart_none]
 exact wpAny_pure ⟨none,H,I,.none,h⟩
theorem po_some(h:PE X e te):PO X (some e) (tPart te):=by
 intro pins s σ H Q I hw
 rw[evalPart_some]
 refine thn (h pins s σ H _ I hw) fun u s1 ⟨x,H1,I1,r1,q1⟩=>?_
 obtain⟨i,rfl,q⟩:=q1
 obtain⟨t,rfl⟩:=r1
 exact⟨some i,H1,I1,.int i t,q⟩
def SlR(X:Cx)(r:V→Option Int→Option Int→Hp→VK→Prop):Prop :=
 ∀ (pins:List (Addr×Obj)) (s:Shared) (σ:St) (H:Hp) (x:V) (v vl vu:Value) (lo hi:Option Int) (sl:Addr) (Q:VK),Inv X pins σ H s→RelV x v→s.heap.IsSliceOf sl vl vu .none→IsPart vl lo→IsPart vu hi→r x lo hi H Q →
  ∃ T id,typeLookup (.type T) "__getitem__" = pure (some (.builtin id))∧s.TypeIs v T∧wpAny (model X.prog X.w) X.A (getItem v (.ref sl)) (EP X pins σ Q) X.xe s
def tSl(r:V→Option Int→Option Int→Hp→VK→Prop)(te:TE)(tl th:TO):TE:=fun σ H Q=>te σ H fun x H1=>tl σ H1 fun l H2=>th σ H2 fun u H3=>r x l u H3 Q
theorem pe_slice{r:V→Option Int→Option Int→Hp→VK→Prop}(hr:SlR X r)(he:PE X e te)(hl:PO X lo tl)(hu:PO X hi th):PE X (.Subscript e (.Slice lo hi none p2) pos) (tSl r te tl th):=by
 intro pins s σ H Q I h
 refine Subscript_ (thn (he pins s σ H _ I h) fun v s1 ⟨x,H1,I1,r1,q1⟩=>?_)
 refine wpAny_Slice (thn (hl pins s1 σ H1 _ I1 q1) fun vl s2 ⟨l,H2,I2,pl,q2⟩=>thn (hu pins s2 σ H2 _ I2 q2) fun vu s3 ⟨u,H3,I3,pu,q3⟩=>?_)
 rw[evalPart_none]
 refine wpAny_pure ?_
 have I4:Inv X pins σ H3 { s3 with heap:=s3.heap.push { cls:=.type "slice", data:=.fields #[vl,vu,.none] } }:=I3.kept (t':=s3.toks) fun b ob q=>Heap.get?_push_of_some _ q
 obtain⟨T,id,hT,ht,hg⟩:=hr pins { s3 with heap:=s3.heap.push { cls:=.type "slice", data:=.fields #[vl,vu,.none] } } σ H3 x v vl vu l u s3.heap.objs.size Q I4 r1 (Heap.IsSliceOf.new ..) pl pu q3
 show wpAny (model X.prog X.w) X.A (subscriptTail e (.Slice lo hi none p2) v (.ref s3.heap.objs.size)) (EP X pins σ Q) X.xe { s3 with heap:=s3.heap.push { cls:=.type "slice", data:=.fields #[vl,vu,.none] } }
 exact tail_any (ops:=[.ref s3.heap.objs.size,v]) ht hT hg (by with_unfolding_all rfl)
def cutV(xs:List V)(lo hi:Option Int):List V:=(xs.drop (HT.sIx xs.length 0 lo)).take (HT.sIx xs.length xs.length hi - HT.sIx xs.length 0 lo)
theorem cutV_length(xs:List V)(lo hi:Option Int):(cutV xs lo hi).length≤xs.length:=by
 unfold cutV
 rw[List.length_take,List.length_drop]
 omega
def rCatT(K:PySem.W.Frag):R2:=fun x y H Q=>∃ a b xs ys,x=.ref a∧y=.ref b∧SqT K H a xs∧SqT K H b ys∧xs≠[]∧xs.length+ys.length≤sizeLine ∧
 (ys=[]→Q (.ref a) H)∧(ys≠[]→∀ p,H p=none→Q (.ref p) (upd H p (.tup (xs++ys))))
theorem Vals.nil_iff{xs:List V}{us:List Value}(r:Vals xs us):us=[]↔xs=[]:=by
 cases r with
 | nil=>simp
 | cons _ _=>simp
theorem op_catT:OpR X (binaryOp .Add) (rCatT X.K):=by
 intro pins s σ H x y v u Q I rx ry h
 obtain⟨a,b,xs,ys,rfl,rfl,ha,hb,hx,hz,q1,q2⟩:=h
 cases rx
 cases ry
 obtain⟨its,r1,p1,_⟩:=I.tuple ha
 obtain⟨its2,r2,p2,_⟩:=I.tuple hb
 refine HT.cat_tup p1 p2 (fun z=>hx (r1.nil_iff.mp z)) (fun z=>⟨.ref a,H,I,rfl,q1 (r2.nil_iff.mp z)⟩) (fun z=>?_) (by rw[← r1.length,← r2.length];exact hz)
 refine⟨.ref s.heap.objs.size,_,I.laid (t':=s.toks) (o:=.tup (xs++ys)) (fun b ob q=>Heap.get?_push_of_some _ q) (Nat.le_refl _) ?_,rfl,q2 (fun w=>z (r2.nil_iff.mpr w)) _ (I.hok.fresh (Nat.le_refl _))⟩
 exact⟨by rw[List.length_append];exact hz,_,r1.append r2,IsTup.new _ _⟩
end
end L2
namespace L2
open PySem PySem.Spec PyProof.Rows
def ixN(n:Nat)(i:Int):Option Nat:=if 0≤i then (if i < n then some i.toNat else none) else if -(n:Int)≤i then some (i+n).toNat else none
def atI{α:Type}(xs:List α)(i:Int):Option α:=(ixN xs.length i).bind fun j=>xs[j]?
theorem ixN_seq{n:Nat}{i:Int}{j:Nat}(h:ixN n i=some j):seqIndex? i n=some j∧j < n∧-(n:Int)≤i∧i < n:=by
 unfold ixN at h
 by_cases h0:0≤i
 ·rw[if_pos h0] at h
  by_cases h1:i < n
  ·rw[if_pos h1] at h
   have e:i.toNat=j:=Option.some.inj h
   exact⟨by rw[seqIndex_of h0 h1,e],by omega,by omega,h1⟩
  ·rw[if_neg h1] at h;cases h
 ·rw[if_neg h0] at h
  by_cases h1:-(n:Int)≤i
  ·rw[if_pos h1] at h
   have e:(i+n).toNat=j:=Option.some.inj h
   exact⟨by rw[seqIndex_neg (by omega) h1,e],by omega,h1,by omega⟩
  ·rw[if_neg h1] at h;cases h
theorem atI_get{α:Type}{xs:List α}{i:Int}{v:α}(h:atI xs i=some v):∃ j,seqIndex? i xs.length=some j∧xs[j]?=some v∧j < xs.length∧-(xs.length:Int)≤i∧i < xs.length:=by
 unfold atI at h
 cases e:ixN xs.length i with
 | none=>rw[e] at h;cases h
 | some j =>
  rw[e] at h
  obtain⟨h1,h2,h3,h4⟩:=ixN_seq e
  exact⟨j,h1,h,h2,h3,h4⟩
theorem atI_nat{α:Type}{xs:List α}{j:Nat}{v:α}(h:xs[j]?=some v):atI xs (j:Int)=some v:=by
 have hj:j < xs.length:=(List.getElem?_eq_some_iff.mp h).1
 have e:ixN xs.length (j:Int)=some j:=by
  unfold ixN
  rw[if_pos (by omega),if_pos (by omega)];simp
 unfold atI;rw[e];exact h
def PlainIx(b:Expr):Prop:=∀ o i,subscripted b false o i=operate [o,i] (getItem o i)
def IxR(X:Cx)(r:R2):Prop :=
 ∀(value slice:Expr) (pins:List (Addr×Obj)) (s:Shared) (σ:St) (H:Hp) (x y:V) (v u:Value) (Q:VK),Inv X pins σ H s→RelV x v→RelV y u→r x y H Q →
  subscripted slice false v u=operate [v,u] (getItem v u)→wpAny (model X.prog X.w) X.A (subscriptTail value slice v u) (EP X pins σ Q) X.xe s
def MtR(X:Cx)(id:String)(r:V→List V→Hp→VK→Prop):Prop :=
 ∀ (pins:List (Addr×Obj)) (s:Shared) (σ:St) (H:Hp) (x:V) (xs:List V) (v:Value) (us:List Value) (Q:VK),Inv X pins σ H s→RelV x v→Vals xs us→r x xs H Q →
  wpAny (model X.prog X.w) X.A (call (.builtin id) (v::us)) (EP X pins σ Q) X.xe s
section
variable {X:Cx}{a b:Expr}{ta tb:TE}{pos:Pos}
theorem pe_ix{r:R2}(hr:IxR X r)(ha:PE X a ta)(hb:PE X b tb)(hs:PlainIx b):PE X (.Subscript a b pos) (tOp r ta tb):=by
 intro pins s σ H Q I h
 exact Subscript_ (binT ha hb I h fun v u s2 x y H2 I2 rx ry q=>hr a b pins s2 σ H2 x y v u Q I2 rx ry q (hs _ _))
def rIxL(K:PySem.W.Frag):R2:=fun x y H Q=>∃ p xs i v,x=.ref p∧y=.int i∧SqL K H p xs∧atI xs i=some v∧Q v H
def rIxT(K:PySem.W.Frag):R2:=fun x y H Q=>∃ p xs i v,x=.ref p∧y=.int i∧SqT K H p xs∧atI xs i=some v∧Q v H
def rIxS:R2:=fun x y H Q=>∃ z i c,x=.str z∧y=.int i∧z.length≤sizeLine∧atI z.cps.toList i=some c∧Q (.str ⟨#[c]⟩) H
theorem ix_list:IxR X (rIxL X.K):=by
 intro value slice pins s σ H x y v u Q I rx ry h hs
 obtain⟨p,xs,i,z,rfl,rfl,hq,he,q⟩:=h
 cases rx
 obtain⟨t,rfl⟩:=ry
 obtain⟨its,r,pl,hz⟩:=I.list hq
 obtain⟨j,h1,h2,h3,h4,h5⟩:=atI_get he
 obtain⟨w,ew,rw'⟩:=r.get h2
 have hl:=r.length
 have hn:=line63
 have fin:EP X pins σ Q w s:=⟨z,H,I,rw',q⟩
 by_cases h0:0≤i
 ·have hj:i.toNat=j:=by
   rw[seqIndex_of h0 h5] at h1
   exact Option.some.inj h1
  exact item_listR pl.isList h0 (by omega) (by rw[hj];simpa using ew) fin hs
 ·have hj:(i+(its.toArray.size:Int)).toNat=j:=by
   rw[seqIndex_neg (by omega) h4] at h1
   rw[List.size_toArray,← hl]
   exact Option.some.inj h1
  exact subscriptTail_builtinR (x:=w) pl.isList.typeIs slot_list_getitem.lookup
   (wpAny_getItem_list_neg (Q:=fun r s'=>r=w∧EP X pins σ Q r s') pl.isList (by omega) (by rw[List.size_toArray]<;>omega) (by omega) (by rw[hj];simpa using ew) ⟨rfl,fin⟩) hs
theorem ix_tup:IxR X (rIxT X.K):=by
 intro value slice pins s σ H x y v u Q I rx ry h hs
 obtain⟨p,xs,i,z,rfl,rfl,hq,he,q⟩:=h
 cases rx
 obtain⟨t,rfl⟩:=ry
 obtain⟨its,r,pl,hz⟩:=I.tuple hq
 obtain⟨j,h1,h2,h3,h4,h5⟩:=atI_get he
 obtain⟨w,ew,rw'⟩:=r.get h2
 have hl:=r.length
 have hn:=line63
 have fin:EP X pins σ Q w s:=⟨z,H,I,rw',q⟩
 exact subscriptTail_builtinR (x:=w) pl.typeIs slot_tuple_getitem.lookup
  (getItem_tuple (j:=j) (Q:=fun r s'=>r=w∧EP X pins σ Q r s') pl (by omega) (by omega) (by rw[List.size_toArray,← hl];exact h1) (by simpa using ew) ⟨rfl,fin⟩) hs
theorem ix_str:IxR X rIxS:=by
 intro value slice pins s σ H x y v u Q I rx ry h hs
 obtain⟨z,i,c,rfl,rfl,hz,he,q⟩:=h
 obtain⟨t,rfl⟩:=rx
 obtain⟨t',rfl⟩:=ry
 obtain⟨j,h1,h2,h3,h4,h5⟩:=atI_get he
 have hl:z.cps.toList.length=z.length:=by simp[Str.length]
 rw[hl] at h1 h4 h5
 have hn:=line63
 exact tail_any (typeIs_str s z t) slot_str_getitem.lookup (getItem_str (c:=c) (by
  have e1:decide (i < -(2 ^ 63:Int))=false:=decide_eq_false (by omega)
  have e2:decide (i ≥ 2 ^ 63)=false:=decide_eq_false (by omega)
  rw[e1,e2,Bool.or_false]) (by rw[h1];simpa using h2) ⟨.str ⟨#[c]⟩,H,I.tok _,⟨_,rfl⟩,q⟩) hs
theorem mapSeq_set(its:List Value)(n j:Nat)(u:Value):Obj.mapSeq (·.setIfInBounds j u) { cls:=.type "list", data:=.seq its.toArray n }={ cls:=.type "list", data:=.seq (its.set j u).toArray n }:=by
 simp[Obj.mapSeq]
theorem Inv.lst{pins:List (Addr×Obj)}{σ:St}{H:Hp}{s:Shared}{p:Addr}{xs:List V}(I:Inv X pins σ H s)(h:H p=some (.lst xs)) :
  ∃(its:List Value)(n:Nat),Vals xs its∧s.heap.get? p=some { cls:=.type "list", data:=.seq its.toArray n }∧xs.length≤sizeLine:=by
 obtain⟨z,its,n,r,e⟩:=I.hok p _ h
 exact⟨its,n,r,e,z⟩
theorem Inv.lstUpd{pins:List (Addr×Obj)}{σ:St}{H:Hp}{s:Shared}{p:Addr}{xs ys:List V}{its its':List Value}{n n':Nat}{f:Obj→Obj}(I:Inv X pins σ H s)(h:H p=some (.lst xs))
  (ho:s.heap.get? p=some { cls:=.type "list", data:=.seq its.toArray n }) (hf:f { cls:=.type "list", data:=.seq its.toArray n }={ cls:=.type "list", data:=.seq its'.toArray n' }) (r:Vals ys its') (hz:ys.length≤sizeLine) (t:Nat) :
  Inv X pins σ (upd H p (.lst ys)) { s with heap:=s.heap.update p f,toks:=t }:=by
 have e:(s.heap.update p f).get? p=some { cls:=.type "list", data:=.seq its'.toArray n' }:=by
  rw[Heap.get?_update_self f ho (by rw[hf]<;>rfl),hf]
 refine I.write (x:=p) (e:=p) (by rw[h];trivial) (.inl rfl) (fun b u hb q=>(Heap.get?_update_other _ _ (Ne.symm hb)).trans q) ⟨_,e⟩ ?_
 exact⟨hz,its',n',r,e⟩
def rSetL:V→V→V→Hp→(Hp→Prop)→Prop:=fun o i v H Q=>∃ p xs k j,o=.ref p∧i=.int k∧H p=some (.lst xs)∧ixN xs.length k=some j∧Q (upd H p (.lst (xs.set j v)))
theorem set_list:PSet X rSetL:=by
 intro pins s σ H o i v ov iv u Q I ro ri rv h
 obtain⟨p,xs,k,j,rfl,rfl,hp,hj,q⟩:=h
 cases ro
 obtain⟨t,rfl⟩:=ri
 obtain⟨its,n,r,ho,hz⟩:=I.lst hp
 obtain⟨h1,h2,h3,h4⟩:=ixN_seq hj
 have hl:=r.length
 have hn:=line63
 have I':Inv X pins σ (upd H p (.lst (xs.set j v))) { s with heap:=s.heap.update p (Obj.mapSeq (·.setIfInBounds j u)) } :=
  I.lstUpd hp ho (mapSeq_set its n j u) (r.set rv j) (by rw[List.length_set];exact hz) s.toks
 by_cases h0:0≤k
 ·have hk:k.toNat=j:=by
   rw[seqIndex_of h0 h4] at h1
   exact Option.some.inj h1
  exact PySem.W.ki_setAt ho h0 (by omega) (by rw[List.size_toArray,← hl];exact h4) (by rw[hk];exact⟨_,I',q⟩)
 ·have hk:(k+(its.toArray.size:Int)).toNat=j:=by
   rw[seqIndex_neg (by omega) h3] at h1
   rw[List.size_toArray,← hl]
   exact Option.some.inj h1
  exact PySem.W.ki_setBack ho (by omega) (by rw[List.size_toArray,← hl];exact h3) (by omega) (by rw[hk];exact⟨_,I',q⟩)
theorem slice_bounds(lo hi:Option Int)(n:Nat):(sliceBounds lo hi none n).1=((HT.sIx n 0 lo:Nat):Int)∧(sliceBounds lo hi none n).2.1=((HT.sIx n n hi:Nat):Int)∧(sliceBounds lo hi none n).2.2=1:=by
 refine⟨?_,?_,rfl⟩
 ·cases lo with
  | none=>simp[sliceBounds,HT.sIx]
  | some i =>
   simp only[sliceBounds,HT.sIx,Option.getD_none,show (1:Int) > 0 by decide,if_true]
   by_cases h:i < 0
   ·simp only[h,if_true]<;>omega
   ·simp only[h,if_false]<;>omega
 ·cases hi with
  | none=>simp[sliceBounds,HT.sIx]
  | some i =>
   simp only[sliceBounds,HT.sIx,Option.getD_none,show (1:Int) > 0 by decide,if_true]
   by_cases h:i < 0
   ·simp only[h,if_true]<;>omega
   ·simp only[h,if_false]<;>omega
theorem slicePick_cut(its:List Value)(lo hi:Option Int):slicePick its.toArray lo hi none=((its.drop (HT.sIx its.length 0 lo)).take (HT.sIx its.length its.length hi - HT.sIx its.length 0 lo)).toArray:=by
 obtain⟨h1,h2,h3⟩:=slice_bounds lo hi its.toArray.size
 unfold slicePick
 rw[h1,h2,h3]
 simp only[sliceRange_one,pick_run,List.size_toArray]<;>rfl
def rSlL(K:PySem.W.Frag):V→Option Int→Option Int→Hp→VK→Prop:=fun x lo hi H Q=>∃ a xs,x=.ref a∧SqL K H a xs∧∀ p,H p=none→Q (.ref p) (upd H p (.lst (cutV xs lo hi)))
theorem sl_list:SlR X (rSlL X.K):=by
 intro pins s σ H x v vl vu lo hi sl Q I rx hs pl pu h
 obtain⟨a,xs,rfl,hx,q⟩:=h
 cases rx
 obtain⟨its,r,ht,hz⟩:=I.list hx
 have hlen:=r.length
 refine⟨"list", _,slot_list_getitem.lookup,ht.isList.typeIs,?_⟩
 refine wpAny_getItem_list_slice ht.isList hs pl pu .none (by simp) ?_ (by rw[List.size_toArray]<;>omega)
 rw[slicePick_cut,← hlen]
 refine⟨.ref s.heap.objs.size,_,I.laid (t':=s.toks) (o:=.lst (cutV xs lo hi)) (fun b ob q=>Heap.get?_push_of_some _ q) (Nat.le_refl _) ?_,rfl,q _ (I.hok.fresh (Nat.le_refl _))⟩
 exact⟨Nat.le_trans (cutV_length xs lo hi) hz,_,0,(r.drop (HT.sIx xs.length 0 lo)).take (HT.sIx xs.length xs.length hi - HT.sIx xs.length 0 lo),Heap.get?_push_size _ rfl⟩
def flatV:V→Bool
 | .non=>true
 | .bl _=>true
 | .int _=>true
 | .str _=>true
 | _=>false
def eqV:V→V→Bool
 | .non,.non=>true
 | .bl a,.bl b=>a == b
 | .bl a,.int b=>(if a then 1 else 0) == b
 | .int a,.bl b=>a == (if b then 1 else 0)
 | .int a,.int b=>a == b
 | .str a,.str b=>a == b
 | _,_=>false
theorem eqAt_V{A:Around}{s:Shared}{y x:V}{u v:Value}(ry:RelV y u)(rx:RelV x v)(fy:flatV y=true)(fx:flatV x=true):SeqAt.EqAt A s u v (eqV y x):=by
 cases y with
 | non =>
  cases ry
  cases x with
  | non=>cases rx;exact SeqAt.EqAt.same _
  | bl b=>cases rx;exact SeqAt.EqAt.none_bool b
  | int b=>obtain⟨t,rfl⟩:=rx;exact SeqAt.EqAt.none_int b t
  | str b=>obtain⟨t,rfl⟩:=rx;exact SeqAt.EqAt.none_str b t
  | _=>exact absurd (show false=true from fx) Bool.false_ne_true
 | bl a =>
  cases ry
  cases x with
  | non=>cases rx;exact SeqAt.EqAt.bool_none a
  | bl b=>cases rx;exact SeqAt.EqAt.bool_bool a b
  | int b=>obtain⟨t,rfl⟩:=rx;exact SeqAt.EqAt.bool_int a b t
  | str b=>obtain⟨t,rfl⟩:=rx;exact SeqAt.EqAt.bool_str a b t
  | _=>exact absurd (show false=true from fx) Bool.false_ne_true
 | int a =>
  obtain⟨t',rfl⟩:=ry
  cases x with
  | non=>cases rx;exact SeqAt.EqAt.int_none a t'
  | bl b=>cases rx;exact SeqAt.EqAt.int_bool a t' b
  | int b=>obtain⟨t,rfl⟩:=rx;exact SeqAt.EqAt.int_int a t' b t
  | str b=>obtain⟨t,rfl⟩:=rx;exact SeqAt.EqAt.int_str a t' b t
  | _=>exact absurd (show false=true from fx) Bool.false_ne_true
 | str a =>
  obtain⟨t',rfl⟩:=ry
  cases x with
  | non=>cases rx;exact SeqAt.EqAt.str_none a t'
  | bl b=>cases rx;exact SeqAt.EqAt.str_bool a t' b
  | int b=>obtain⟨t,rfl⟩:=rx;exact SeqAt.EqAt.str_int a t' b t
  | str b=>obtain⟨t,rfl⟩:=rx;exact SeqAt.EqAt.str_str a t' b t
  | _=>exact absurd (show false=true from fx) Bool.false_ne_true
 | _=>exact absurd (show false=true from fy) Bool.false_ne_true
def eqU(x:V)(u:Value):Bool:=match u with
 | .none=>eqV .non x
 | .bool b=>eqV (.bl b) x
 | .int i _=>eqV (.int i) x
 | .str z _=>eqV (.str z) x
 | _=>false
theorem eqU_of{x y:V}{u:Value}(r:RelV y u)(f:flatV y=true):eqU x u=eqV y x:=by
 cases y with
 | non=>cases r;rfl
 | bl b=>cases r;rfl
 | int i=>obtain⟨t,rfl⟩:=r;rfl
 | str z=>obtain⟨t,rfl⟩:=r;rfl
 | _=>exact absurd (show false=true from f) Bool.false_ne_true
theorem mem_eqAt{A:Around}{s:Shared}{x:V}{v:Value}(rx:RelV x v)(fx:flatV x=true):∀{xs:List V}{us:List Value},Vals xs us→xs.all flatV=true→∀ u∈us,SeqAt.EqAt A s u v (eqU x u)
 | _,_,.nil,_=>fun u hu=>by cases hu
 | y::xs,u::us,.cons r t,f=>fun u' hu=>by
  rw[List.all_cons,Bool.and_eq_true] at f
  rcases List.mem_cons.mp hu with rfl | hu
  ·rw[eqU_of r f.1];exact eqAt_V r rx f.1 fx
  ·exact mem_eqAt rx fx t f.2 u' hu
theorem call_len_seq:CallR X (.builtin "len") (fun xs H Q=>∃ p ys,xs=[.ref p]∧(SqL X.K H p ys∨SqT X.K H p ys)∧Q (.int ys.length) H):=by
 intro pins s σ H xs us Q I r h
 obtain⟨p,ys,rfl,hq,q⟩:=h
 obtain⟨u,rfl,rx⟩:=vals1 r
 cases rx
 have hn:=line63
 rcases hq with hq | hq
 ·obtain⟨its,r',pl,hz⟩:=I.list hq
  have hlen:=r'.length
  exact Calls.call_len_list pl.isList (by simp only[List.size_toArray]<;>omega) ⟨.int ys.length,H,I.tok _,⟨s.toks+1,by rw[List.size_toArray,hlen]⟩,q⟩
 ·obtain⟨its,r',pl,hz⟩:=I.tuple hq
  have hlen:=r'.length
  exact len_tuple pl (by simp only[List.size_toArray]<;>omega) ⟨.int ys.length,H,I.tok _,⟨s.toks+1,by rw[List.size_toArray,hlen]⟩,q⟩
theorem call_len_str:CallR X (.builtin "len") (fun xs H Q=>∃ z,xs=[.str z]∧z.length≤sizeLine∧Q (.int z.length) H):=by
 intro pins s σ H xs us Q I r h
 obtain⟨z,rfl,hz,q⟩:=h
 obtain⟨u,rfl,t,rfl⟩:=vals1 r
 have hn:=line63
 exact len_str (by omega) ⟨.int z.length,H,I.tok _,⟨_,rfl⟩,q⟩
theorem call_list_of:CallR X (.type "list") (fun xs H Q=>∃ p ys,xs=[.ref p]∧(SqL X.K H p ys∨SqT X.K H p ys)∧∀ l,H l=none→Q (.ref l) (upd H l (.lst ys))):=by
 intro pins s σ H xs us Q I r h
 obtain⟨p,ys,rfl,hq,q⟩:=h
 obtain⟨u,rfl,rx⟩:=vals1 r
 cases rx
 have fin:∀(its:List Value),Vals ys its→ys.length≤sizeLine→∀(h':Heap)(c':Nat),(∀ b o',s.heap.get? b=some o'→h'.get? b=some o') →
   h'.get? s.heap.objs.size=some { cls:=.type "list", dict:=none,data:=.seq its.toArray c',slots:=#[] }→EP X pins σ Q (.ref s.heap.objs.size) { s with heap:=h' }:=fun its r' hz h' c' kp e =>
  ⟨.ref s.heap.objs.size,_,I.laid (t':=s.toks) kp (Nat.le_refl _) (show ObjOk X.prog X.w _ h' _ (.lst ys) from ⟨hz,its,c',r',e⟩),rfl,q _ (I.hok.fresh (Nat.le_refl _))⟩
 rcases hq with hq | hq
 ·obtain⟨its,r',pl,hz⟩:=I.list hq
  have hlen:=r'.length
  obtain⟨o,ho,hc,n,hd⟩:=pl.isList
  exact call_list_seq p (.inl rfl) ho hc hd (fun h' c' kp e=>fin its r' hz h' c' kp e) (by simp only[List.size_toArray]<;>omega)
 ·obtain⟨its,r',pl,hz⟩:=I.tuple hq
  have hlen:=r'.length
  obtain⟨o,ho,hc,n,hd⟩:=pl
  exact call_list_seq p (.inr rfl) ho hc hd (fun h' c' kp e=>fin its r' hz h' c' kp e) (by simp only[List.size_toArray]<;>omega)
theorem call_tuple_of:CallR X (.type "tuple") (fun xs H Q=>∃ p ys,xs=[.ref p]∧((SqL X.K H p ys∧∀ l,H l=none→Q (.ref l) (upd H l (.tup ys)))∨(SqT X.K H p ys∧Q (.ref p) H))):=by
 intro pins s σ H xs us Q I r h
 obtain⟨p,ys,rfl,h⟩:=h
 obtain⟨u,rfl,rx⟩:=vals1 r
 cases rx
 rcases h with ⟨hq,q⟩ | ⟨hq,q⟩
 ·obtain⟨its,r',pl,hz⟩:=I.list hq
  have hlen:=r'.length
  refine call_tuple_list pl.isList (fun h' kp=>?_) (by simp only[List.size_toArray]<;>omega)
  have I1:Inv X pins σ H { s with heap:=h' }:=I.kept (t':=s.toks) kp
  have I2:Inv X pins σ (upd H h'.objs.size (.tup ys)) { s with heap:=h'.push { cls:=.type "tuple", data:=.seq its.toArray } } :=
   I1.laid (t':=s.toks) (fun b o e=>Heap.get?_push_of_some _ e) (Nat.le_refl _) (show ObjOk X.prog X.w _ _ _ (.tup ys) from ⟨hz,its,r',IsTup.new _ _⟩)
  exact⟨.ref h'.objs.size,_,I2,rfl,q _ (I1.hok.fresh (Nat.le_refl _))⟩
 ·obtain⟨its,r',pl,hz⟩:=I.tuple hq
  exact call_tuple_same pl ⟨.ref p,H,I,rfl,q⟩
def tyV(K:PySem.W.Frag)(T:String)(x:V)(H:Hp):Prop:=match x with
 | .str _=>T = "str"
 | .int _=>T = "int"
 | .ref p=>(T = "list" ∧ ∃ xs,SqL K H p xs)∨(T = "tuple" ∧ ∃ o,K.lookup p=some o∧o.cls=.type "tuple" ∧ o.dict=none) ∨
   (T = "dict" ∧ ((∃ kvs,H p=some (.dK kvs))∨∃ kvs,H p=some (.dT kvs)))∨(T = "set" ∧ ∃ S n,H p=some (.set S n))
 | _=>False
theorem tyV_is{pins:List (Addr×Obj)}{σ:St}{H:Hp}{s:Shared}{T:String}{x:V}{v:Value}(I:Inv X pins σ H s)(r:RelV x v)(ty:tyV X.K T x H) :
  s.TypeIs v T∧∀ a,v=.ref a→∃ ob,s.heap.get? a=some ob∧ob.dict=none:=by
 cases x with
 | str z =>
  obtain⟨t,rfl⟩:=r
  cases (show T = "str" from ty)
  exact⟨typeIs_str s z t,fun _ e=>nomatch e⟩
 | int i =>
  obtain⟨t,rfl⟩:=r
  cases (show T = "int" from ty)
  exact⟨typeIs_int s i t,fun _ e=>nomatch e⟩
 | ref p =>
  cases r
  rcases ty with ⟨rfl,xs,hq⟩ | ⟨rfl,o,hk,hc,hd⟩ | ⟨rfl,hk⟩ | ⟨rfl,S,n,hk⟩
  ·obtain⟨its,_,pl,_⟩:=I.list hq
   refine⟨pl.isList.typeIs,fun a e=>?_⟩
   cases e
   obtain⟨o,n,e,c,hd,_⟩:=pl
   exact⟨o,e,hd⟩
  ·refine⟨⟨o,I.kIn p o hk,hc⟩,fun a e=>?_⟩
   cases e
   exact⟨o,I.kIn _ o hk,hd⟩
  ·have z:∃ o,s.heap.get? p=some o∧o.ExactDict:=by
    rcases hk with ⟨kvs,hk⟩ | ⟨kvs,hk⟩
    ·obtain⟨_,_,_,_,o,_,_,e,ex,_⟩:=I.hok p _ hk
     exact⟨o,e,ex⟩
    ·obtain⟨_,_,_,_,o,_,_,e,ex,_⟩:=I.hok p _ hk
     exact⟨o,e,ex⟩
   obtain⟨o,e,ex⟩:=z
   refine⟨⟨o,e,ex.1⟩,fun a e2=>?_⟩
   cases e2
   exact⟨o,e,ex.2.1⟩
  ·obtain⟨o,_,_,_,e,ex,_⟩:=I.hok p _ hk
   refine⟨⟨o,e,ex.1⟩,fun a e2=>?_⟩
   cases e2
   exact⟨o,e,ex.2.1⟩
 | _=>exact False.elim ty
def tBM(K:PySem.W.Frag)(T:String)(r:V→List V→Hp→VK→Prop)(to:TE)(t:TA):TE:=fun σ H Q=>to σ H fun x H1=>tyV K T x H1∧t σ H1 fun xs H2=>r x xs H2 Q
variable {o e:Expr}{es:List Expr}{to:TE}{t:TA}{name:Str}{apos cpos:Pos}{T id:String}{r:V→List V→Hp→VK→Prop}
theorem pe_bm(pa:PlainAttrs T)(slot:Slot T name id)(hty:typeOf (.builtin id)=pure (.type "method_descriptor"))(hm:MtR X id r)(ho:PE X o to)(ha:PA X (e::es) t)
  (hbase:attributeBase o name X.env (eval o X.env)=eval o X.env:=by rfl)
  (hfew:((backTo cpos (starEach (e::es) X.env)).all (fun x=>!x.1) && (backToKw cpos (keywordEach [] X.env)).all (fun x=>x.1.isSome)
   && decide ((e::es).length+([]:List Keyword).length+(if ([]:List Keyword).isEmpty then 0 else 1) < 30))=true:=by rfl)
  (hline:(apos.endLine == cpos.line)=true:=by rfl) (hs:starEach (e::es) X.env=(false,eval e X.env)::starEach es X.env:=by rfl) (hplain:(backTo cpos (starEach es X.env)).any (·.1)=false:=by rfl) :
  PE X (.Call (.Attribute o name apos) (e::es) [] cpos) (tBM X.K T r to t):=by
 intro pins s σ H Q I h
 refine wpAny_Call_method_late hbase hfew hline rfl (thn (ho pins s σ H _ I h) fun v s1 ⟨x,H1,I1,r1,ty,q1⟩=>?_)
 obtain⟨h1,h2⟩:=tyV_is I1 r1 ty
 refine⟨T,id,pa,slot,hty,h1,h2,?_⟩
 have hA:=ha cpos pins s1 σ H1 _ I1 q1
 rw[hs] at hA ⊢
 refine Calls.callWith_builtin (by show (false || (backTo cpos (starEach es X.env)).any (·.1))=false;rw[hplain]<;>rfl) (Calls.evalArgs_plain ?_)
 exact thn hA fun us s2 ⟨vs,H2,I2,r2,q2⟩=>hm pins s2 σ H2 x vs v us Q I2 r1 r2 q2
end
end L2
namespace L2
open PySem PySem.Spec PyProof.Rows
def MtM(X:Cx)(id:String)(r:V→List V→Hp→VK→Prop):Prop :=
 ∀ (pins:List (Addr×Obj)) (s:Shared) (σ:St) (H:Hp) (x:V) (xs:List V) (v:Value) (us:List Value) (Q:VK),Inv X pins σ H s→RelV x v→Vals xs us→r x xs H Q →
  wpAny (model X.prog X.w) X.A (call (.builtin id) (v::us)) (EP X pins σ Q) X.xe s
theorem Vals.one:∀{x:V}{us:List Value},Vals [x] us→∃ u,us=[u]∧RelV x u
 | _,_,.cons r .nil=>⟨_,rfl,r⟩
theorem Vals.two:∀{x y:V}{us:List Value},Vals [x,y] us→∃ u v,us=[u,v]∧RelV x u∧RelV y v
 | _,_,_,.cons r (.cons q .nil)=>⟨_,_,rfl,r,q⟩
section
variable {X:Cx}{pins:List (Addr×Obj)}{σ:St}{H:Hp}{s:Shared}{l b:Addr}{xs ys zs:List V}
theorem Inv.lset{its its':List Value}{n:Nat}{f:Array Value→Array Value}{t':Nat}(I:Inv X pins σ H s)(hH:H l=some (.lst xs))
  (e:s.heap.get? l=some { cls:=.type "list", data:=.seq its.toArray n }) (hf:f its.toArray=its'.toArray) (hv:Vals ys its') (hz:ys.length≤sizeLine) :
  Inv X pins σ (upd H l (.lst ys)) { s with heap:=s.heap.update l (Obj.mapSeq f),toks:=t' }:=by
 have q:=PySem.IsL.update e f
 rw[hf] at q
 refine I.write (x:=l) (e:=l) (by rw[hH];exact trivial) (.inl rfl) (fun b' u hb hu=>(Heap.get?_update_other s.heap (Obj.mapSeq f) (Ne.symm hb)).trans hu) ⟨_,q⟩ ?_
 exact⟨hz,its',_,hv,q⟩
theorem Inv.lnew{its:List Value}{t':Nat}(I:Inv X pins σ H s)(hv:Vals ys its)(hz:ys.length≤sizeLine) :
  Inv X pins σ (upd H s.heap.objs.size (.lst ys)) { s with heap:=s.heap.push { cls:=.type "list", data:=.seq its.toArray },toks:=t' } :=
 I.laid (fun _ _ q=>Heap.get?_push_of_some _ q) (Nat.le_refl _) ⟨hz,its,0,hv,Heap.get?_push_size _ rfl⟩
theorem Inv.fresh(I:Inv X pins σ H s):H s.heap.objs.size=none:=I.hok.fresh (Nat.le_refl _)
theorem Inv.lstM(I:Inv X pins σ H s)(hH:H l=some (.lst xs)):xs.length≤sizeLine∧∃(its:List Value)(n:Nat),Vals xs its∧xs.length=its.length∧s.heap.get? l=some { cls:=.type "list", data:=.seq its.toArray n }:=by
 obtain⟨z,its,n,r,e⟩:=I.hok l _ hH
 exact⟨z,its,n,r,r.length,e⟩
end
section
variable {X:Cx}
def rAppend:V→List V→Hp→VK→Prop:=fun x vs H Q=>∃ l xs y,x=.ref l∧vs=[y]∧H l=some (.lst xs)∧xs.length < sizeLine∧Q .non (upd H l (.lst (xs++[y])))
theorem mt_append:MtM X "list.append" rAppend:=by
 intro pins s σ H x vs v us Q I rx rv h
 obtain⟨l,xs,y,rfl,rfl,hH,hz,q⟩:=h
 cases rx
 obtain⟨u,rfl,ru⟩:=rv.one
 obtain⟨z,its,n,r,hl,e⟩:=I.lstM hH
 refine call_meets F.slot_list_append ⟨_,e,rfl⟩ F.entry_list_append (F.args_list_append_2 _ _) (PySem.list_append l its.toArray n u (by rw[List.size_toArray];omega)) ⟨e,?_⟩
 refine⟨.non,_,I.lset (its':=its++[u]) hH e (by simp) (r.append (.cons ru .nil)) ?_,rfl,q⟩
 rw[List.length_append,List.length_singleton]
 omega
def rCat:R2:=fun x y H Q=>∃ l b xs zs,x=.ref l∧y=.ref b∧H l=some (.lst xs)∧H b=some (.lst zs)∧xs.length+zs.length≤sizeLine∧∀ p,H p=none→Q (.ref p) (upd H p (.lst (xs++zs)))
theorem op_cat:OpR X (binaryOp .Add) rCat:=by
 intro pins s σ H x y v u Q I rx ry h
 obtain⟨l,b,xs,zs,rfl,rfl,hH,hB,hz,q⟩:=h
 cases rx
 cases ry
 obtain⟨z,its,n,r,hl,e⟩:=I.lstM hH
 obtain⟨z2,its2,n2,r2,hl2,e2⟩:=I.lstM hB
 refine PySem.P.add_list e e2 ?_ (by rw[List.size_toArray,List.size_toArray];omega)
 have ea:its.toArray++its2.toArray=(its++its2).toArray:=by simp
 rw[ea]
 exact⟨.ref _,_,I.lnew (t':=s.toks) (r.append r2) (by rw[List.length_append];omega),rfl,q _ I.fresh⟩
end
section
variable {prog:Program}{w:World}{A:Around}{E:Value→Shared→Prop}{s:Shared}
end
section
variable {X:Cx}
end
end L2
namespace Att
open PySem PySem.W PySem.Calls PyProof.Rows
theorem ints_of_wellAll{P:Params}{h:Heap}:∀(ns:List Int)(vs:List Value),WellAll P h vs (ns.map WData.int)→IntsAre vs ns:=by
 intro ns
 induction ns with
 | nil =>
  intro vs w
  rw[List.map_nil] at w
  cases w
  exact .nil
 | cons n ns ih =>
  intro vs w
  rw[List.map_cons] at w
  cases w with
  | cons a b =>
   cases a
   exact .cons _ _ (ih _ b)
theorem script_of{l:OpenLaw}{n:Nat}(hn:l.most=some n){P:Params}{h:Heap}{args:List WData}{vals:List Value}
  (hpre:l.row.toRowW.claim.pre args=true) (hwl:WellAll P h vals args) :
  ∃ a vs ns,vals=[Value.ref a]∧args=[WData.list (ns.map WData.int)]∧h.get? a=some { cls:=.type "list", data:=.seq vs.toArray }∧IntsAre vs ns∧ns.length≤n:=by
 have hsh:WShape.hasAll [] args [.list .int]=true:=(pre_splitW hpre).1
 have hc:l.pre.holds [] { args:=args }=true:=(pre_splitW hpre).2
 obtain⟨d,r,rfl,h1,h2⟩:=hasAllW_cons hsh
 obtain rfl:=hasAllW_nil h2
 obtain⟨xs,rfl,h3⟩:=hasW_list h1
 obtain⟨ns,rfl⟩:=items_int h3
 have hlen:ns.length≤n:=by
  unfold OpenLaw.pre at hc
  have h4:(WTm.not (.lt (.lit (.int (n:Int))) (.len (.arg 0)))).holds [] { args:=[.list (ns.map .int)] }=true:=by
   have h4:=(holds_andW hc).1
   rw[hn] at h4
   exact h4
  have h5:=condW_of h4 (w_not (w_lt w_lit (w_len_list (w_arg rfl))))
  rw[List.length_map] at h5
  refine Nat.le_of_not_lt fun q=>?_
  have q':(n:Int) < ((ns.length:Nat):Int):=by omega
  first
   | (rw[decide_eq_true q'] at h5;exact absurd h5 (by decide))
   | (simp at h5;omega)
 cases hwl with
 | cons w1 w2 =>
  cases w2
  cases w1 with
  | list ho hall=>exact⟨_,_,ns,rfl,rfl,ho,ints_of_wellAll ns _ hall,hlen⟩
theorem post_true(l:OpenLaw)(args:List WData):l.row.toRowW.claim.post args (.bool true) args=true :=
 postW_of (r:=l.row.toRowW) (X:=(true == true))
  (show WShape.has [] (.bool true) .bool=true by first | rfl | decide | simp[WShape.has,WShape.arms,WShape.armsAll])
  (show (WTm.eq .res (.lit (.bool true))).value [] { args:=args,res:=some (.bool true),after:=args }=some (.bool (true == true)) from w_eq_bool (w_res rfl) w_lit) rfl
theorem attach_call{l:OpenLaw}{n:Nat}{q:Program}{loose:List Str}{XP:(Str→Option Value)→Heap→Prop}{YP:World→Heap→Prop}{d:DefRec}
  (hn:l.most=some n) (hdf:d.params.defaults=[])
  (call:∀(w:World)(s₀ s₁:Shared)(mg mb:Str→Option Value)(fa:Addr)(o:Obj)(pm cd doc:Value)(a:Addr)(vs:List Value)(ns:List Int),
   Ground q loose [] XP w s₀ mg mb s₁.heap→YP w s₁.heap →
   s₁.heap.get? fa=some o→o.data=.func (docDef d.name d.params d.body d.scope pm cd doc)→s₁.heap.CodeRec cd d.name→mg d.name=some (.ref fa) →
   s₁.heap.get? a=some { cls:=.type "list", data:=.seq vs.toArray }→IntsAre vs ns→ns.length≤n→s₁.gens=#[] →
   codeAny (model l.prog w) callerA (.call (.ref fa) ⟨[.ref a],[]⟩) (fun r s'=>r=.ok (.ret (.bool true))∧OldK s₁.heap s'.heap∧s'.os=s₁.os∧AllBare s'.gens) s₁) :
  WalkO q loose XP YP l.row.toRowW d [] (fun f vs=>PySem.call f vs):=by
 intro w s₀ s₁ mg mb G Y fa o pm cd doc dV kV ho hd hcd hD hmg hg args vals as hpre hlay hrd hwl hlo
 obtain rfl:dV=.none:=Dflts.none hD hdf
 obtain rfl:kV=.none:=Dflts.noKw hD
 obtain⟨a,vs,ns,rfl,rfl,hobj,hints,hlen⟩:=script_of hn hpre hwl
 refine enter_call (codeAny_mono (call w s₀ s₁ mg mb fa o pm cd doc a vs ns G Y ho (fd_plain hd) hcd hmg hobj hints hlen hg) fun r s' hq=>?_)
 obtain⟨rfl,h2,h3,h4⟩:=hq
 exact⟨.inl ⟨.bool true,.bool true,[],rfl,fun _=>rfl,.bool true,post_true l _,fun _=>⟨List.Pairwise.nil,fun _ hm=>(nomatch hm)⟩⟩,h2,h3,h4⟩
section
variable {prog:Program}{w:World}{A:Around}{E:Value→Shared→Prop}{s:Shared}{K:Frag}
end
end Att
namespace L2
open PySem PySem.Spec PyProof.Rows
theorem vals_ints:∀{vs:List Value}{ns:List Int},IntsAre vs ns→Vals (ns.map V.int) vs
 | _,_,.nil=>.nil
 | _,_,.cons n t h=>.cons ⟨t,rfl⟩ (vals_ints h)
def Only(H:Hp):Prop:=∀ b,H b=none∨∃ o xs,H b=some (.frz o (.lst xs))
theorem law_call{P:Program}{w:World}{K:PySem.W.Frag}{mg mb:Str→Option Value}{CX:CXT}{k:Nat}{fa a:Addr}{fd:FuncData}{x:Str}{sp:Sp}{s₁:Shared}{vs:List Value}{ns:List Int}
  (KX:K.In s₁.heap) (hns:s₁.heap.Ns mainGlobals mg) (hb:s₁.heap.Ns builtinsNs mb) (hbb:∀ x:Str,x ≠ "__name__" → mb x=bootBuiltins x) (hlim:s₁.heap.NoLimit) (hg:s₁.gens=#[])
  (ha:s₁.heap.get? a=some { cls:=.type "list", data:=.seq vs.toArray }) (hi:IntsAre vs ns) (hl:ns.length≤sizeLine) (hr:Room k callerA)
  (F:∀ base:Heap,K.In base→base.Ns mainGlobals mg→FnOk P w K mg base CX k fa fd [x] sp) (hbind:∀(s:Shared)(u:Value),BindsTo s fd ⟨[u],[]⟩ [(x,u)])
  (hsp:∀ H:Hp,Only H→SqL K H a (ns.map V.int)→sp [.ref a] H (fun v _=>v=.bl true) fun _ _ _=>False)
  (hCX:∀ H e s',CX [] H s₁ (fun _ _ _=>False) e s'→False) :
  codeAny (model P w) callerA (.call (.ref fa) ⟨[.ref a],[]⟩) (fun r s'=>r=.ok (.ret (.bool true))∧OldK s₁.heap s'.heap∧s'.os=s₁.os∧AllBare s'.gens) s₁:=by
 have rv:=vals_ints hi
 have lenV:=hi.length
 have core:∀ H:Hp,Only H→SqL K H a (ns.map V.int)→HOk P w H s₁.heap→(∀ b,H b≠none→b=a)→(H a≠none→K.lookup a=none) →
   codeAny (model P w) callerA (.call (.ref fa) ⟨[.ref a],[]⟩) (fun r s'=>r=.ok (.ret (.bool true))∧OldK s₁.heap s'.heap∧s'.os=s₁.os∧AllBare s'.gens) s₁:=by
  intro H hO hS hok hA hK
  have base_of:∀{b:Addr}{o:Obj},s₁.heap.get? b=some o→H b=none→(hidT s₁.heap H).get? b=some o:=fun e n=>hidT_get e n
  have noA:∀{b:Addr}{o:Obj}{es:Array DictEntry}{ep:Nat},s₁.heap.get? b=some o→o.data=.dict es ep→H b=none:=fun {b o es ep} e d=>by
   cases q:H b with
   | none=>rfl
   | some u =>
    have e':b=a:=hA b (by rw[q];simp)
    subst e'
    rw[ha] at e;cases e
    have d':Data.seq vs.toArray _=Data.dict es ep:=d
    cases d'
  have nsK:∀{b:Addr}{m:Str→Option Value},s₁.heap.Ns b m→(hidT s₁.heap H).Ns b m:=fun {b m} ⟨o,es,ep,e,d,r⟩=>⟨o,es,ep,base_of e (noA e d),d,r⟩
  have hKb:K.In (hidT s₁.heap H):=fun b o e=>base_of (KX b o e) (by
   cases q:H b with
   | none=>rfl
   | some u =>
    have e':b=a:=hA b (by rw[q];simp)
    subst e'
    rw[hK (by rw[q];simp)] at e;cases e)
  have hM:Mod K mg (hidT s₁.heap H):=⟨hKb,nsK hns,⟨mb,nsK hb,hbb⟩,let ⟨mc,h1,h2⟩:=hlim;⟨mc,nsK h1,h2⟩⟩
  have e0:Env0 P w K mg (hidT s₁.heap H) callerA [] s₁ H:=⟨rfl,hM,fun b o e=>of_hidT e,Nat.le_of_eq (hidT_size _ _),trivial,fun b hb=>absurd (show b∈([]:List Addr) from hb) (by simp),hok,.of_eq hg⟩
  refine codeAny_mono ((F _ hKb (nsK hns)).run callerA [] s₁ H ⟨[.ref a],[]⟩ [.ref a] [.ref a] _ _ hr e0 (hbind s₁ (.ref a)) (.cons rfl .nil) (hsp H hO hS)) fun r s' h=>?_
  cases r with
  | error e=>exact (hCX H e s' h).elim
  | ok fl =>
   cases fl with
   | next=>exact False.elim h
   | brk=>exact False.elim h
   | cont=>exact False.elim h
   | ret u =>
    obtain⟨v,H',os,bare,un,hok',r',q⟩:=h
    have q':v=.bl true:=q
    subst q'
    obtain rfl:u=Value.bool true:=r'
    refine⟨rfl,OldK.of_keep fun b o e=>?_,os,bare⟩
    cases q:H b with
    | none=>exact un.keep b o e q (by intro z;exact absurd (show b∈([]:List Addr) from z) (by simp)) (by simp)
    | some u =>
     rcases hO b with z | ⟨ob,xs,z⟩
     ·rw[q] at z;cases z
     ·have z2:=un.frzs b ob _ z
      obtain⟨e1,_⟩:=hok b _ z
      obtain⟨e2,_⟩:=hok' b _ z2
      rw[e] at e1;cases e1
      exact e2
 cases hk:K.lookup a with
 | some o =>
  have e:=KX a o hk
  rw[ha] at e
  cases e
  refine core (fun _=>none) (fun _=>.inl rfl) (.inr ⟨_,vs.toArray,_,hk,rfl,rfl,rfl,by rw[List.size_toArray,lenV];exact hl,by simpa using rv⟩) (fun b u z=>by have z':(none:Option HO)=some u:=z;cases z') (fun b z=>absurd rfl z) fun z=>absurd rfl z
 | none =>
  refine core (fun b=>if b=a then some (.frz { cls:=.type "list", data:=.seq vs.toArray } (.lst (ns.map V.int))) else none) (fun b=>?_) (.inl (.inr ⟨{ cls:=.type "list", data:=.seq vs.toArray },if_pos rfl⟩)) (fun b u z=>?_) (fun b z=>?_) fun _=>hk
  ·by_cases hb:b=a
   ·exact .inr ⟨_,_,if_pos hb⟩
   ·exact .inl (if_neg hb)
  ·by_cases hb:b=a
   ·have z':=(if_pos hb).symm.trans z
    cases z'
    subst hb
    exact⟨ha,by rw[List.length_map];exact hl,vs,_,rv,ha⟩
   ·have z':=(if_neg hb).symm.trans z
    cases z'
  ·by_cases hb:b=a
   ·exact hb
   ·exact absurd (if_neg hb) z
end L2
namespace L2
open PySem PySem.Spec PyProof.Rows
theorem walk_of{l:PySem.W.OpenLaw}{n k:Nat}{q:Program}{loose:List Str}{XP:(Str→Option Value)→Heap→Prop}{YP:World→Heap→Prop}{d:DefRec}{K:Params→PySem.W.Frag}{CX:World→CXT}{sp:World→Sp}{x:Str}
  (hn:l.most=some n) (hn2:n≤sizeLine) (hdf:d.params.defaults=[]) (hr:Room k callerA)
  (hY:∀(w:World)(h:Heap),YP w h→(K w.params).In h)
  (F:∀(w:World)(mg:Str→Option Value)(fa:Addr)(h:Heap),(K w.params).In h→h.Ns mainGlobals mg→mg d.name=some (.ref fa) →
   ∃ fd:FuncData,(∀(s:Shared)(u:Value),BindsTo s fd ⟨[u],[]⟩ [(x,u)]) ∧
    ∀ base:Heap,(K w.params).In base→base.Ns mainGlobals mg→FnOk l.prog w (K w.params) mg base (CX w) k fa fd [x] (sp w))
  (hsp:∀(w:World)(H:Hp)(a:Addr)(ns:List Int),ns.length≤n→Only H→SqL (K w.params) H a (ns.map V.int)→sp w [.ref a] H (fun v _=>v=.bl true) fun _ _ _=>False)
  (hCX:∀(w:World)(H:Hp)(s:Shared)(e:Value)(s':Shared),CX w [] H s (fun _ _ _=>False) e s'→False) :
  PySem.W.WalkO q loose XP YP l.row.toRowW d [] (fun f vs=>PySem.call f vs):=by
 refine Att.attach_call hn hdf fun w s₀ s₁ mg mb fa o pm cd doc a vs ns G Y ho hd hcd hmg hobj hints hlen hg=>?_
 have KX:=hY w _ Y
 obtain⟨fd,hb,hF⟩:=F w mg fa _ KX G.T.g hmg
 exact law_call KX G.T.g G.T.b G.T.builtins G.T.nolimit hg hobj hints (Nat.le_trans hlen hn2) hr hF hb (fun H hO hS=>hsp w H a ns hlen hO hS) fun H e s'=>hCX w H s₁ e s'
end L2
namespace L2
open PySem PySem.Spec PyProof.Rows
def inClass(s:Stmt)(j:Nat):Stmt:=match s with
 | .ClassDef _ _ _ body _ _ _ _ _ _ _=>body.getD j (.Pass ⟨0,0,0,0⟩)
 | _=>.Pass ⟨0,0,0,0⟩
def defArgs(s:Stmt):Arguments:=match s with
 | .FunctionDef _ a _ _ _ _ _ _ _ _=>a
 | _=>{ posonlyargs:=[],args:=[],vararg:=none,kwonlyargs:=[],kw_defaults:=[],kwarg:=none,defaults:=[] }
def defBody(s:Stmt):List Stmt:=match s with
 | .FunctionDef _ _ b _ _ _ _ _ _ _=>b
 | _=>[]
def defScope(s:Stmt):Scope:=match s with
 | .FunctionDef _ _ _ _ _ _ sc _ _ _=>sc
 | _=>{ kind:=.function,names:=[],isGenerator:=false,isCoroutine:=false }
abbrev CX0:CXT:=fun _ _ _ _ _ _=>False
abbrev E0:XK:=fun _ _ _=>False
theorem pass0{X:Cx}:Passes CX0 X E0:=fun _ _ _ _ _ _ _ h=>h.elim
structure Fun(K:PySem.W.Frag)(x qual:Str)(st:Stmt)(f:Addr)(fd:FuncData):Prop where
 ex:∃(oc:Value)(od:Option Addr)(kV doc pm:Value)(an:Option Addr)(cdv ct:Value) (osl:Array (Option Value)),
  fd=PySem.W.fnOf x qual (defArgs st) (defBody st) (defScope st) .none kV doc pm an cdv ct∧K.lookup f=some ⟨oc,od,.func fd,osl⟩∧PySem.W.codeIn K cdv qual=true
 kp:PySem.W.keepIn K (.ref f)=true
section
variable {P:Program}{w:World}{K:PySem.W.Frag}{mg:Str→Option Value}{base:Heap}
theorem Fun.ok{x qual:Str}{st:Stmt}{f:Addr}{fd:FuncData}{N ps:List Str}{k:Nat}{sp:Sp}(F:Fun K x qual st f fd)(S:FnScope N ps (defScope st))(len:∀ vs H Q E,sp vs H Q E→vs.length=ps.length)
  (hbody:∀(cdv:Value)(A:Around)(outer:List Env)(s:Shared)(H:Hp)(vs:List V)(Q:VK)(E:XK),Room k (A.deeper (envOfC qual (defScope st) s.heap.objs.size f cdv))→sp vs H Q E →
   ∃ t,PSs (cxOf CX0 P w K mg base N qual (defScope st) f cdv A outer s H E).nox (defBody st) t∧t { nx:=fun _ H'=>Q .non H',rt:=Q } (start N vs) H):FnOk P w K mg base CX0 (k+1) f fd ps sp:=by
 obtain⟨oc,od,kV,doc,pm,an,cdv,ct,osl,rfl,lk,hcd⟩:=F.ex
 refine fn_of lk hcd S len fun A outer s H vs Q E hr hsp=>?_
 obtain⟨t,h,q⟩:=hbody cdv A outer s H vs Q E hr hsp
 exact⟨t,h.nox,q⟩
theorem Fun.binds{x qual:Str}{st:Stmt}{f:Addr}{fd:FuncData}{ps:List Str}(F:Fun K x qual st f fd)
  (h:∀(kV doc pm:Value)(an:Option Addr)(cdv ct:Value)(us:List Value),us.length=ps.length→bindArgs (PySem.W.fnOf x qual (defArgs st) (defBody st) (defScope st) .none kV doc pm an cdv ct) ⟨us,[]⟩=pure (ps.zip us)):Binds K fd ps []:=by
 obtain⟨oc,od,kV,doc,pm,an,cdv,ct,osl,rfl,lk,hcd⟩:=F.ex
 exact .all (h kV doc pm an cdv ct)
theorem fun_mk{x qual:Str}{st:Stmt}{f:Addr}{oc:Value}{od an:Option Addr}{osl:Array (Option Value)}{kV doc pm cdv ct:Value}(l:K.lookup f=some ⟨oc,od,.func (PySem.W.fnOf x qual (defArgs st) (defBody st) (defScope st) .none kV doc pm an cdv ct),osl⟩)
  (c:PySem.W.codeIn K cdv qual=true) (k:PySem.W.keepIn K (.ref f)=true):Fun K x qual st f (PySem.W.fnOf x qual (defArgs st) (defBody st) (defScope st) .none kV doc pm an cdv ct):=⟨⟨oc,od,kV,doc,pm,an,cdv,ct,osl,rfl,l,c⟩,k⟩
end
theorem hu_of{A:Around}{k:Nat}(hr:Room k A):A.units+1 < cLine:=Nat.lt_of_le_of_lt (Nat.add_le_add_left (by decide:1≤64) _) hr.units
theorem small1000{n:Nat}(h:n≤1000):n < sizeLine:=Nat.lt_of_le_of_lt h (by decide)
section
variable {X:Cx}
theorem pv(i:Nat){x:Str}{pos:Pos}(hN:X.N[i]?=some x:=by rfl)(hv:Vis X.env.scope x:=by first | exact Or.inl rfl | exact Or.inr (Or.inl rfl) | exact Or.inr (Or.inr rfl))(hd:(x == ("__debug__" : Str))=false:=by decide)
  (hcd:(x == ("__classdict__" : Str))=false:=by decide):PE X (.Name x pos) (tVar i):=pe_var hN hv hd hcd
end
def Same(H H':Hp):Prop:=∀ b o,H b=some o→H' b=some o
theorem Same.refl(H:Hp):Same H H:=fun _ _ h=>h
theorem Same.trans{H H1 H2:Hp}(a:Same H H1)(b:Same H1 H2):Same H H2:=fun c o h=>b c o (a c o h)
theorem Same.free{H H':Hp}(e:Same H H'){l:Addr}(h:H' l=Option.none):H l=Option.none:=by
 cases q:H l with
 | none=>rfl
 | some o =>
  rw[e l o q] at h
  cases h
theorem Same.seq{K:PySem.W.Frag}{H H':Hp}{a:Addr}{xs:List V}(e:Same H H')(h:SqL K H a xs):SqL K H' a xs:=by
 rcases h with (h | ⟨o,h⟩) | h
 ·exact .inl (.inl (e _ _ h))
 ·exact .inl (.inr ⟨o,e _ _ h⟩)
 ·exact .inr h
end L2
namespace L2
open PySem PySem.Spec PyProof.Rows
section
variable {P:Program}{w:World}{H H':Hp}{h h':Heap}{a:Addr}{o:HO}
theorem ObjOk.there(x:ObjOk P w H h a o):∃ ob,h.get? a=some ob:=by
 induction o with
 | lst xs=>obtain⟨_,its,n,_,e⟩:=x;exact⟨_,e⟩
 | tup xs=>obtain⟨_,its,_,ob,e,_⟩:=x;exact⟨_,e⟩
 | dK kvs=>obtain⟨_,_,vs,_,ob,es,ep,e,_⟩:=x;exact⟨_,e⟩
 | dT kvs=>obtain⟨_,_,xs,_,ob,es,ep,e,_⟩:=x;exact⟨_,e⟩
 | set S n=>obtain⟨ob,es,ep,tb,e,_⟩:=(x:h.SetOf (intKind P w) a S n);exact⟨_,e⟩
 | ins C dx fs=>obtain⟨_,_,_,e,_⟩:=x;exact⟨_,e⟩
 | own x'=>exact x
 | xd fs=>obtain⟨mA,⟨ob,es,ep,e,_⟩,_⟩:=x;exact⟨_,e⟩
 | met f y=>exact⟨_,x⟩
 | rng lo hi=>obtain⟨t,u,v,e⟩:=x;exact⟨_,e⟩
 | frz ob u ih=>exact⟨_,x.1⟩
 | tbl ps=>exact⟨_,x⟩
 | ext φ=>exact x.2.1
theorem HOk.stays(x:HOk P w H h)(k:∀ b u,H b≠none→h.get? b=some u→h'.get? b=some u):HOk P w H h':=fun a o e =>
 (x a o e).stay (fun b u hb q=>k b u (by
  rcases hb with z | z
  ·rw[z,e];exact Option.some_ne_none _
  ·rw[z];exact Option.some_ne_none _) q) (fun _ q=>q) fun _ _ q=>q
end
def Fly(outer:List Env)(H':Hp)(h₀ h':Heap)(e:Addr)(cls:Value):Prop :=
 ∃ B a0,Heap.FlyingW B outer e cls a0 h'∧∀ b o,h'.get? b=some o→(H' b≠none∨∃ o₀,h₀.get? b=some o₀)→b∉frs outer→B.get? b=some o
def CXR(P:Program)(w:World):CXT:=fun outer H s E e s'=>∃ ea cls H',e=.ref ea∧s'.os=s.os∧AllBare s'.gens∧Un (frs outer) [] H H' s.heap s'.heap∧HOk P w H' s'.heap∧Fly outer H' s.heap s'.heap ea cls∧E cls none H'
theorem frs_cons{env:Env}{l:List Env}{L:Addr}(hf:env.frame=some L){b:Addr}:b∈frs (env::l)↔b=L∨b∈frs l:=by
 unfold frs
 rw[List.filterMap_cons,hf]
 exact List.mem_cons
theorem Un.onSlots{fs fs':List Addr}{H H1:Hp}{h h1 h2:Heap}(u:Un fs [] H H1 h h1)(hsub:∀ b o,h.get? b=some o→b∈fs'→b∈fs)
  (k:∀ b o,(∃ o₀,h.get? b=some o₀)→h1.get? b=some o→b∉fs'→h2.get? b=some o) (sl:∀ b o,h1.get? b=some o→b∈fs'→∃ sl,h2.get? b=some { o with slots:=sl }):Un fs [] H H1 h h2 where
 keep:=fun b o e n hb hx=>k b o ⟨o,e⟩ (u.keep b o e n hb hx) fun z=>hb (hsub b o e z)
 slot:=fun b o e n hb hx=>by
  obtain⟨s1,e1⟩:=u.slot b o e n hb hx
  by_cases z:b∈fs'
  ·obtain⟨s2,e2⟩:=sl b _ e1 z
   exact⟨s2,e2⟩
  ·exact⟨s1,k b _ ⟨o,e⟩ e1 z⟩
 free:=u.free
 there:=fun b o e hx=>by
  obtain⟨o1,e1⟩:=u.there b o e hx
  by_cases z:b∈fs'
  ·obtain⟨s2,e2⟩:=sl b _ e1 z
   exact⟨_,e2⟩
  ·exact⟨_,k b _ ⟨o,e⟩ e1 z⟩
 tups:=u.tups
 frzs:=u.frzs
 tbls:=u.tbls
section
variable {P:Program}{w:World}{K:PySem.W.Frag}{mg:Str→Option Value}{base:Heap}{N:List Str}{qual:Str}{scope:Scope}{f:Addr}{cd:Value}{A:Around}{outer:List Env}{s:Shared}{H:Hp}{E:XK}
abbrev cxR(P:Program)(w:World)(K:PySem.W.Frag)(mg:Str→Option Value)(base:Heap)(N:List Str)(qual:Str)(scope:Scope)(f:Addr)(cd:Value)(A:Around)(outer:List Env)(s:Shared)(H:Hp)(E:XK):Cx :=
 cxOf (CXR P w) P w K mg base N qual scope f cd A outer s H E
theorem frame_slots{l:List Env}{B h h':Heap}(hl:h.FunFrames B l)(k:h.UpToSlots h'){b:Addr}{o:Obj}(hb:b∈frs l)(e:h.get? b=some o):∃ sl,h'.get? b=some { o with slots:=sl }:=by
 obtain⟨_,o',e',nf⟩:=hl.mem hb
 rw[e] at e'
 cases e'
 exact k b o e nf
end
abbrev veTail:List Value:=[.type "ValueError", .type "Exception", .type "BaseException", .type "object"]
structure Exc(K:PySem.W.Frag)(mg:Str→Option Value)(x:Str)(C:Addr):Prop where
 bound:mg x=some (.ref C)
 isIn:PySem.W.excIn K C veTail "ValueError.__new__" = true
def tRaise(C:Addr)(E:XK)(t:TA):TS:=fun _ σ H=>t σ H fun vs H1=>vs.length≤sizeLine∧E (.ref C) none H1
abbrev XEx:=Value→St→Hp→Prop
abbrev Cx.pinned(X:Cx)(pn:List (Addr×Obj)):Cx:={ X with pn:=pn }
abbrev Cx.inH(X:Cx)(e:Addr):Cx:={ X with A:=X.A.mark (some (.ref e)),calm:=false,xe:=fun _ _=>False }
def tCallX(sp:Sp)(EX:XEx)(t:TA):TE:=fun σ H Q=>t σ H fun vs H1=>sp vs H1 Q fun cls _ H2=>EX cls σ H2
theorem Inv.repin{X:Cx}{pins:List (Addr×Obj)}{σ:St}{H:Hp}{s:Shared}(I:Inv X pins σ H s):Inv (X.pinned (X.pn++pins)) [] σ H s :=
 ⟨⟨I.ok.mod,I.ok.kind,I.ok.glob,I.ok.blt,I.ok.above,I.ok.inj,I.ok.has,I.ok.cab,I.ok.hd,I.ok.frames,I.ok.stk,I.ok.exf,I.ok.bs,I.ok.bsz,I.ok.noex,I.ok.exfs,I.ok.funs,I.ok.frf⟩,I.os,I.bare,I.base,I.loc,I.cell,I.free,I.freeC,
  fun p hp=>I.pin p (by
   have hp':p∈(X.pn++pins)++[]:=hp
   rwa [List.append_nil] at hp'),I.hok,I.len⟩
theorem Inv.unrepin{X:Cx}{pins pins':List (Addr×Obj)}{σ:St}{H:Hp}{s:Shared}(I:Inv (X.pinned (X.pn++pins)) pins' σ H s):Inv X pins σ H s :=
 ⟨⟨I.ok.mod,I.ok.kind,I.ok.glob,I.ok.blt,I.ok.above,I.ok.inj,I.ok.has,I.ok.cab,I.ok.hd,I.ok.frames,I.ok.stk,I.ok.exf,I.ok.bs,I.ok.bsz,I.ok.noex,I.ok.exfs,I.ok.funs,I.ok.frf⟩,I.os,I.bare,I.base,I.loc,I.cell,I.free,I.freeC,
  fun p hp=>I.pin p (List.mem_append_left pins' (show p∈X.pn++pins from hp)),I.hok,I.len⟩
theorem Inv.toH{X:Cx}{pins:List (Addr×Obj)}{σ:St}{H:Hp}{s:Shared}(I:Inv X pins σ H s)(e:Addr):Inv (X.inH e) pins σ H s :=
 ⟨⟨I.ok.mod,I.ok.kind,I.ok.glob,I.ok.blt,I.ok.above,I.ok.inj,I.ok.has,I.ok.cab,(fun z=>absurd (show false=true from z) Bool.false_ne_true),I.ok.frames,I.ok.stk,I.ok.exf,I.ok.bs,I.ok.bsz,I.ok.noex,I.ok.exfs,I.ok.funs,I.ok.frf⟩,I.os,I.bare,I.base,I.loc,I.cell,I.free,I.freeC,I.pin,I.hok,I.len⟩
theorem Inv.ofH{X:Cx}{pins:List (Addr×Obj)}{σ:St}{H:Hp}{s:Shared}{e:Addr}(ok:X.Ok)(I:Inv (X.inH e) pins σ H s):Inv X pins σ H s :=
 ⟨ok,I.os,I.bare,I.base,I.loc,I.cell,I.free,I.freeC,I.pin,I.hok,I.len⟩
theorem SP.imp{X Y:Cx}{pins pins':List (Addr×Obj)}{D:Ends}{f:Flow}{s':Shared}(k:∀ σ H,Inv X pins σ H s'→Inv Y pins' σ H s')(h:SP X pins D f s'):SP Y pins' D f s':=by
 cases f with
 | next=>obtain⟨σ,H,I,q⟩:=h;exact⟨σ,H,k σ H I,q⟩
 | brk=>obtain⟨σ,H,I,q⟩:=h;exact⟨σ,H,k σ H I,q⟩
 | cont=>obtain⟨σ,H,I,q⟩:=h;exact⟨σ,H,k σ H I,q⟩
 | ret u=>obtain⟨v,σ,H,I,r,q⟩:=h;exact⟨v,σ,H,k σ H I,r,q⟩
def tTry(C:Addr)(tb:XEx→TS)(th:TS):TS:=fun D σ H=>tb (fun cls σ' H'=>cls=.ref C∧th D σ' H') D σ H
end L2
namespace L2
open PySem PySem.Spec PyProof.Rows
theorem closure_ex{env:Env}:∀ (names:List (Str×NameKind)) (cs:List (Str×Addr)),(∀ y∈names,y.2=.free→∃ c,env.cells.lookup y.1=some c)→(∀ y c,cs.lookup y=some c→env.cells.lookup y=some c) →
  ∃ cl:List (Str×Addr),(forIn names cs fun (x:Str×NameKind) (r:List (Str×Addr))=>(if (x.2 == NameKind.free)=true then (cellOf env x.1 >>= fun a=>(pure (ForInStep.yield ((x.1,a)::r)):Sem _)) else pure (ForInStep.yield r)))=(pure cl:Sem (List (Str×Addr))) ∧
   (∀ y c,cl.lookup y=some c→env.cells.lookup y=some c)∧(∀ y c,cs.lookup y=some c→∃ c',cl.lookup y=some c')∧∀ y∈names,y.2=.free→∃ c,cl.lookup y.1=some c
 | [],cs,_,h2=>⟨cs,rfl,h2,fun y c e=>⟨c,e⟩,fun _ z=>nomatch z⟩
 | (n,k)::r,cs,h1,h2=>by
  have h1':∀ y∈r,y.2=.free→∃ c,env.cells.lookup y.1=some c:=fun y hy=>h1 y (List.mem_cons_of_mem _ hy)
  by_cases hk:k=.free
  ·subst hk
   obtain⟨c,hc⟩:=h1 (n,.free) List.mem_cons_self rfl
   obtain⟨cl,e,a1,a2,a3⟩:=closure_ex r ((n,c)::cs) h1' (fun y c' hy=>by
    rw[List.lookup_cons] at hy
    split at hy
    ·rename_i hyn
     have:y=n:=by simpa using hyn
     subst this
     cases hy
     exact hc
    ·exact h2 y c' hy)
   refine⟨cl,?_,a1,fun y c' hy=>?_,fun y hy hf=>?_⟩
   ·rw[List.forIn_cons]
    have e1:cellOf env n=(pure c:Sem Addr):=by unfold cellOf;rw[hc]
    simp only[beq_self_eq_true,if_true,e1,pure_bind]
    exact e
   ·by_cases hyn:(y == n)=true
    ·exact a2 y c (by rw[List.lookup_cons,hyn])
    ·exact a2 y c' (by rw[List.lookup_cons];simp only[hyn];exact hy)
   ·rcases List.mem_cons.mp hy with rfl | hy
    ·exact a2 n c (by rw[List.lookup_cons];simp)
    ·exact a3 y hy hf
  ·obtain⟨cl,e,a1,a2,a3⟩:=closure_ex r cs h1' h2
   refine⟨cl,?_,a1,a2,fun y hy hf=>?_⟩
   ·rw[List.forIn_cons]
    have hb:(k == NameKind.free)=false:=by simpa using hk
    simp only[hb,Bool.false_eq_true,if_false,pure_bind]
    exact e
   ·rcases List.mem_cons.mp hy with rfl | hy
    ·exact absurd hf hk
    ·exact a3 y hy hf
theorem closure_of{env:Env}{scope:Scope}(h:∀ y∈scope.names,y.2=.free→∃ c,env.cells.lookup y.1=some c) :
  ∃ cl,closureFor scope env=pure cl∧(∀ y c,cl.lookup y=some c→env.cells.lookup y=some c)∧∀ y∈scope.names,y.2=.free→∃ c,cl.lookup y.1=some c:=by
 obtain⟨cl,e,a1,_,a3⟩:=closure_ex (env:=env) scope.names [] h (fun y c z=>by simp at z)
 refine⟨cl,?_,a1,a3⟩
 unfold closureFor
 refine Eq.trans (congrArg (fun z=>z >>= fun (r:List (Str×Addr))=>(pure r:Sem (List (Str×Addr)))) ?_) (by rw[pure_bind])
 exact e
abbrev Cx.comp(X:Cx)(N':List Str)(scope:Scope)(cl:List (Str×Addr))(C:Addr)(fp:List Addr)(s2:Shared)(H2:Hp):Cx :=
 { X with N:=N',s₀:=s2,H₀:=H2,env:=compEnvC scope cl C X.env,outer:=X.stack,ex:=fp,fn:=fun _=>false,pn:=[],xe:=fun _ _=>False }
def PFs(X:Cx)(ifs:List Expr)(t:TT):Prop :=
 ∀ (pins:List (Addr×Obj)) (s:Shared) (σ:St) (H:Hp) (Q:Bool→Hp→Prop),Inv X pins σ H s→t σ H Q →
  wpAny (model X.prog X.w) X.A (forIn ifs true fun c r=>if r=true then do let ok ← isTrue c X.env (eval c X.env);pure (ForInStep.yield ok) else pure (ForInStep.yield r)) (TP X pins σ Q) X.xe s
def tYes:TT:=fun _ H Q=>Q true H
theorem pf_nil{X:Cx}:PFs X [] tYes:=fun _ _ _ H _ I h=>wpAny_tests_nil ⟨H,I,h⟩
def compSt(n:Nat)(js:List Nat)(σ:St):St:=List.replicate n none++js.map fun j=>(σ[j]?).join
def Ext(σ σ':St):Prop:=σ.length=σ'.length∧∀(i:Nat) v,σ[i]?=some (some v)→σ'[i]?=some (some v)
def GExt(g:TG)(n:Nat):Prop:=∀(r:St) x H Q,g x (List.replicate n none++r) H Q→g x (List.replicate n none++r) H fun σ2 H2=>Ext (List.replicate n none++r) σ2∧Q σ2 H2
theorem ext_set{n k:Nat}(hk:k < n)(r:St){σ:St}(e:Ext (List.replicate n none++r) σ)(v:V):Ext (List.replicate n none++r) (σ.set k (some v)):=by
 refine⟨by rw[List.length_set];exact e.1,fun i w h=>?_⟩
 by_cases hi:i=k
 ·subst hi
  rw[List.getElem?_append_left (by simpa using hk),List.getElem?_replicate] at h
  split at h<;>cases h
 ·rw[List.getElem?_set_ne (fun z=>hi z.symm)]
  exact e.2 i w h
theorem Ext.refl(σ:St):Ext σ σ:=⟨rfl,fun _ _ h=>h⟩
theorem gext_name{n k:Nat}(hk:k < n):GExt (gName k) n:=fun r x H Q h=>⟨ext_set hk r (Ext.refl _) x,h⟩
theorem gext_tup2{K:PySem.W.Frag}{m n k j:Nat}(hk:k < n)(hj:j < n):GExt (gTup K m (gCons (gName k) (gCons (gName j) gNil))) n:=fun r x H Q h=>by
 obtain⟨a,xs,e1,h1,h2,v,r1,e2,v2,r2,e3,e4,q⟩:=h
 exact⟨a,xs,e1,h1,h2,v,r1,e2,v2,r2,e3,e4,ext_set hj r (ext_set hk r (Ext.refl _) v) v2,q⟩
def tComp(n:Nat)(js:List Nat)(wi:TI)(g:TG)(tt:TT)(te:TE):TE:=fun σ H Q=>wi σ H fun J H1=>∀ l,H1 l=none→∃ W:Nat→Nat→List V→Hp→Prop,(∃ m,W 0 m [] (upd H1 l (.lst [])))∧∀ i m acc H,W i m acc H →
 (J.stop i H∧Q (.ref l) H)∨(J.go i H∧∃ N:List V→Hp→Prop,(∀ acc' H',N acc' H'→∃ m',m' < m∧W (i+1) m' acc' H') ∧
  ∀ x H',J.yld i H x H'→g x (compSt n js σ) H' fun σ2 H2=>tt σ2 H2 fun b H3=>if b=true then te σ2 H3 fun y H4=>H4 l=some (.lst acc)∧acc.length < sizeLine∧N (acc++[y]) (upd H4 l (.lst (acc++[y]))) else N acc H3)
section
variable {prog:Program}{w:World}{A:Around}{R:Result→Shared→Prop}{s:Shared}
theorem compLoop_any{elt tg iter:Expr}{ifs:List Expr}{scope:Scope}{pos:Pos}{it acc:Value}{env:Env}(I:Nat→Shared→Prop){E:Value→Shared→Prop}(hE:∀ e s',E e s'→False)
  (turn:∀ n s,I n s→wpAny (model prog w) A (pyNext it) (fun r s₁=>match r with
   | none=>R (.ok .next) s₁
   | some v=>wpAny (model prog w) A (letOwnedTupleGo tg it v) (fun _ s₁=>wpAny (model prog w) A (assign tg env v) (fun _ s₂ =>
     wpAny (model prog w) A (forIn ifs true fun c r=>if r=true then do let ok ← isTrue c env (eval c env);pure (ForInStep.yield ok) else pure (ForInStep.yield r)) (fun ok s₃ =>
      if ok=true then wpAny (model prog w) A (eval elt env) (fun x s₄=>wpAny (model prog w) A (call (.builtin "list.append") [acc,x]) (fun _ s₅=>∃ m,m < n∧I m s₅) E s₄) E s₃
      else ∃ m,m < n∧I m s₃) E s₂) E s₁) E s₁) E s)
  (n:Nat) (h:I n s):codeAny (model prog w) A (.compLoop (.ListComp elt [⟨tg,iter,ifs,0⟩] scope pos) 0 it acc env) R s:=by
 refine codeAny_loop rfl I (fun n s hI=>?_) n h
 show wpAny _ A ((compTurn (.ListComp elt [⟨tg,iter,ifs,0⟩] scope pos) 0 it acc env).onRaise (fun x=>do noteFrame x env;theTreesLotGoes x)) _ _ s
 refine wpAny_noted ?_
 rw[compTurn_list]
 have up:∀{α:Type}{t:Sem α}{Q:α→Shared→Prop}{E':Value→Shared→Prop}{s:Shared},wpAny (model prog w) A t Q E s→wpAny (model prog w) A t Q E' s:=fun h=>wpAny_mono h (fun _ _ z=>z) fun _ _ z=>(hE _ _ z).elim
 refine wpAny_bind (wpAny_standAt (wpAny_bind (up (wpAny_mono (turn n s hI) (fun r s₁ h₁=>?_) fun _ _ z=>z))))
 cases r with
 | none=>exact wpAny_pure h₁
 | some v =>
  refine wpAny_bind (up (thn h₁ fun _ s₂ h₂=>wpAny_bind (up (thn h₂ fun _ s₃ h₃=>wpAny_bind (up (thn h₃ fun ok s₄ h₄=>?_))))))
  cases ok with
  | false=>exact wpAny_pure ⟨rfl,h₄⟩
  | true=>exact wpAny_bind (wpAny_bind (up (thn h₄ fun x s₅ h₅=>wpAny_bind (up (thn h₅ fun _ s₆ h₆=>wpAny_pure (wpAny_pure ⟨rfl,h₆⟩))))))
end
section
variable {X:Cx}
theorem Inv.fpComp{pins:List (Addr×Obj)}{σ:St}{H H':Hp}{s:Shared}{fp:List Addr}{N':List Str}{scope:Scope}{cl:List (Str×Addr)}{C:Addr}(I:Inv X pins σ H s)(f:∀ b∈fp,FpOk X pins H b)
  (hb:∀ b∈fp,b < s.heap.objs.size) (hC:s.heap.objs.size≤C) (hcl:∀ y c,cl.lookup y=some c→X.env.cells.lookup y=some c) (hn:∀ b∈fp,H' b=none) :
  ∀ b∈fp,FpOk (X.comp N' scope cl C fp s H) [] H' b:=fun b z=>by
 obtain⟨_,f1,f2,f3,f4,f5⟩:=f b z
 exact⟨hn b z,Nat.ne_of_lt (Nat.lt_of_lt_of_le (hb b z) hC),fun q=>(List.mem_cons.mp (I.stkSub b q)).elim f1 f2,.inl z,fun x c e=>f4 x c (hcl x c e),fun p hp=>absurd (show p∈([]:List (Addr×Obj))++[] from hp) (by simp)⟩
theorem Inv.comp{pins:List (Addr×Obj)}{σ:St}{H:Hp}{s s4:Shared}{fp:List Addr}{own:List Str}{fr:List (Str×Nat)}{scope:Scope}{cl:List (Str×Addr)}{C D:Addr}(I:Inv X pins σ H s)(f:∀ b∈fp,FpOk X pins H b)
  (hb:∀ b∈fp,b < s.heap.objs.size) (hkind:scope.kind=.function) (hcell:∀ y∈scope.names,y.2≠.cell)
  (hcl:∀ y c,cl.lookup y=some c→X.env.cells.lookup y=some c) (hcl2:∀ y∈scope.names,y.2=.free→∃ c,cl.lookup y.1=some c)
  (hfr:∀ p∈fr,X.N[p.2]?=some p.1∧(X.env.kindOf p.1=some .cell∨X.env.kindOf p.1=some .free)∧(p.1,NameKind.free)∈scope.names∧((relabel scope X.env).names.lookup p.1=some .cell∨(relabel scope X.env).names.lookup p.1=some .free))
  (hD:s.heap.objs.size≤D) (hC:s.heap.objs.size≤C) (hCD:C≠D) (hns:s4.heap.Ns C (fun _=>none)) (k:∀ b o,s.heap.get? b=some o→s4.heap.get? b=some o) (hl:s4.heap.get? D=some { cls:=.type "list", data:=.seq ([]:List Value).toArray })
  (os:s4.os=s.os) (bare:AllBare s4.gens):Inv (X.comp (own++fr.map (·.1)) scope cl C fp s H) [] (compSt own.length (fr.map (·.2)) σ) (upd H D (.lst [])) s4:=by
 have fresh:∀ b,s.heap.objs.size≤b→H b=none:=fun b h=>I.hok.fresh h
 have cellLt:∀ y c,X.env.cells.lookup y=some c→c < s.heap.objs.size:=fun y c e=>by
  obtain⟨v,q⟩:=I.cell y c e
  exact q.lt
 have relK:∀ y,((relabel scope X.env).names.lookup y=some .cell∨(relabel scope X.env).names.lookup y=some .free)→∃ z∈scope.names,z.1=y∧z.2=.free:=fun y h=>by
  have mem:∃ kk,(y,kk)∈(relabel scope X.env).names∧(kk=.cell∨kk=.free):=by
   rcases h with h | h
   ·exact⟨_,PySem.mem_of_lookup h,.inl rfl⟩
   ·exact⟨_,PySem.mem_of_lookup h,.inr rfl⟩
  obtain⟨kk,hm,hk⟩:=mem
  obtain⟨⟨n,k0⟩,hz,e⟩:=List.mem_map.mp hm
  refine⟨(n,k0),hz,?_,?_⟩
  ·dsimp only at e
   split at e<;>cases e<;>rfl
  ·dsimp only at e ⊢
   split at e
   ·rename_i hc
    simp only[Bool.and_eq_true,beq_iff_eq] at hc
    exact hc.1.1
   ·cases e
    rcases hk with hk | hk
    ·exact absurd hk (hcell _ hz)
    ·exact hk
 have ok:(X.comp (own++fr.map (·.1)) scope cl C fp s H).Ok :=
  {mod:=I.ok.mod
   kind:=hkind
   glob:=I.ok.glob
   blt:=I.ok.blt
   above:=hC
   inj:=fun x y c e1 e2=>I.ok.inj x y c (hcl x c e1) (hcl y c e2)
   has:=fun y hy=>by
    obtain⟨z,hz,rfl,hf⟩:=relK y hy
    exact hcl2 z hz hf
   cab:=fun x c z=>by cases (show false=true from z)
   hd:=I.ok.hd
   frames:=I.ok.frames
   stk:=.inl rfl
   exf:=fun b z=>⟨Nat.ne_of_lt (Nat.lt_of_lt_of_le (hb b z) hC),fun x c e=>(f b z).2.2.2.2.1 x c (hcl x c e)⟩
   bs:=fun b o e=>I.bs b o e
   bsz:=Nat.le_trans I.ok.bsz I.sz
   noex:=fun b o e z=>by
    obtain⟨_,_,_,h4,_⟩:=f b z
    rcases h4 with h4 | h4
    ·exact I.ok.noex b o e h4
    ·exact absurd (Heap.lt_size (I.ok.bs b o e).1) (Nat.not_lt.mpr h4)
   exfs:=fun b z q=>(List.mem_cons.mp (I.stkSub b q)).elim (f b z).2.1 (f b z).2.2.1
   funs:=I.stack
   frf:=I.stkFree }
 refine⟨ok,os,bare,Un.laid k hD (fresh D hD),⟨fun _=>none,hns,fun i x v h1 h2 h3=>?_⟩,fun x c e=>?_,?_,fun x c e=>?_,fun p hp=>absurd (show p∈([]:List (Addr×Obj))++[] from hp) (by simp),I.hok.laid k hD ⟨Nat.zero_le _,[],0,.nil,hl⟩,?_⟩
 ·-- a closed-over name
  have h2':(compSt own.length (fr.map (·.2)) σ)[i]?=some (some v):=h2
  have h1':(own++fr.map (·.1))[i]?=some x:=h1
  unfold compSt at h2'
  by_cases hi:i < own.length
  ·rw[List.getElem?_append_left (by simpa using hi),List.getElem?_replicate] at h2'
   split at h2'<;>cases h2'
  ·rw[List.getElem?_append_right (by simpa using hi),List.length_replicate,List.getElem?_map,List.getElem?_map] at h2'
   rw[List.getElem?_append_right (by omega),List.getElem?_map] at h1'
   cases e:fr[i - own.length]? with
   | none=>rw[e] at h1';cases h1'
   | some p =>
    rw[e] at h1' h2'
    have hx:p.1=x:=Option.some.inj h1'
    have hv:(σ[p.2]?).join=some v:=Option.some.inj h2'
    have hv':σ[p.2]?=some (some v):=by
     cases q:σ[p.2]? with
     | none=>rw[q] at hv;cases hv
     | some o=>rw[q] at hv;rw[show o=some v from hv]
    obtain⟨hN,hkx,hmem,hrel⟩:=hfr p (List.mem_of_getElem? e)
    obtain⟨m,hn,hl2⟩:=I.loc
    obtain⟨u,r,lk⟩:=hl2 p.2 p.1 v hN hv' (hkx.elim (fun z=>.inr (.inl z)) fun z=>.inr (.inr z))
    rcases lk with ⟨lk,_⟩ | ⟨_,c,hc,hcell'⟩
    ·rcases hkx with z | z
     ·rw[lk] at z;cases z
     ·rw[lk] at z;cases z
    ·subst hx
     obtain⟨c',hc'⟩:=hcl2 _ hmem rfl
     have:=hcl _ _ hc'
     rw[hc] at this
     cases this
     refine⟨u,r,.inr ⟨hrel,c,hc',?_⟩⟩
     obtain⟨ob,e1,e2⟩:=hcell'
     exact⟨ob,k _ _ e1,e2⟩
 ·obtain⟨v,ob,e1,e2⟩:=I.cell x c (hcl x c e)
  exact⟨v,ob,k _ _ e1,e2⟩
 ·show upd H D (.lst []) C=none
  rw[upd_ne hCD]
  exact fresh C hC
 ·rw[upd_ne (Nat.ne_of_lt (Nat.lt_of_lt_of_le (cellLt x c (hcl x c e)) hD))]
  exact I.freeC x c (hcl x c e)
 ·show (compSt own.length (fr.map (·.2)) σ).length=(own++fr.map (·.1)).length
  unfold compSt
  simp
theorem pe_comp{elt iter tg:Expr}{ifs:List Expr}{scope:Scope}{pos:Pos}{wi:TI}{g:TG}{tt:TT}{te:TE}(own:List Str)(fr:List (Str×Nat))(hc:X.calm=true)(hi:PI X tg iter wi)
  (hgx:GExt g own.length) (hB:∀ cl C fp s2 H2,PG (X.comp (own++fr.map (·.1)) scope cl C fp s2 H2) tg g∧PFs (X.comp (own++fr.map (·.1)) scope cl C fp s2 H2) ifs tt∧PE (X.comp (own++fr.map (·.1)) scope cl C fp s2 H2) elt te)
  (hkind:scope.kind=.function) (hcell:∀ y∈scope.names,y.2≠.cell) (hnames:∀ y∈scope.names,y.2=.local→scope.names.lookup y.1=some .local)
  (hfree:∀ y∈scope.names,y.2=.free→X.env.kindOf y.1=some .cell∨X.env.kindOf y.1=some .free)
  (hfr:∀ p∈fr,X.N[p.2]?=some p.1∧(X.env.kindOf p.1=some .cell∨X.env.kindOf p.1=some .free)∧(p.1,NameKind.free)∈scope.names∧((relabel scope X.env).names.lookup p.1=some .cell∨(relabel scope X.env).names.lookup p.1=some .free))
  (hs:∀ x,foldedSetIterable iter X.env x=pure x:=by intro _;rfl):PE X (.ListComp elt [⟨tg,iter,ifs,0⟩] scope pos) (tComp own.length (fr.map (·.2)) wi g tt te):=by
 intro pins s σ H Q I h
 obtain⟨cl,hclos,hcl,hcl2⟩:=closure_of (env:=X.env) (scope:=scope) fun y hy hf=>I.ok.has y.1 (hfree y hy hf)
 rw[eval_ListComp]
 refine wpAny_comprehension_free (use:=none) rfl hs hclos hkind hnames (thn (hi pins s σ H _ I h) fun v s1 h1=>thn h1 fun itv s2 h2=>?_)
 obtain⟨it,fp,tn,J,H2,e,I2,T,st2,f2,h3⟩:=h2
 subst e
 obtain⟨W,⟨m0,w0⟩,turn⟩:=h3 s2.heap.objs.size I2.fresh
 have hb:∀ b∈fp,b < s2.heap.objs.size:=fun b z=>by
  obtain⟨o,e,_⟩:=T.obj _ _ st2 b z
  exact Heap.lt_size e
 refine wpAny_newObj_type (wpAny_newFunctionEnv hcell (by intro y hy;simp at hy) (fun h₁ hns₁ hsb₁=>?_) hkind)
 dsimp only at hns₁ hsb₁ ⊢
 generalize hH2:s2.heap.push { cls:=.type "list", dict:=none,data:=.seq ([]:List Value).toArray }=G at hns₁ hsb₁ ⊢
 have hCs:G.objs.size=s2.heap.objs.size+1:=by rw[← hH2,Heap.size_push]
 have old:∀ b o,s2.heap.get? b=some o→h₁.get? b=some o:=fun b o e=>hsb₁.extBut b o (Nat.ne_of_lt (by rw[hCs];exact Nat.lt_succ_of_lt (Heap.lt_size e))) (Heap.get?_push_of_some _ (hH2▸Heap.get?_push_of_some _ e))
 have hD:h₁.get? s2.heap.objs.size=some { cls:=.type "list", data:=.seq ([]:List Value).toArray }:=hsb₁.extBut _ _ (Nat.ne_of_lt (by rw[hCs];exact Nat.lt_succ_self _)) (Heap.get?_push_of_some _ (hH2▸Heap.get?_push_size _ rfl))
 generalize hC:G.objs.size=C at hns₁ hsb₁ hCs ⊢
 have hns':h₁.Ns C (fun _=>none):=by
  have e:(fun x=>(([]:List (Str×Value)).reverse.lookup x))=fun _=>(none:Option Value):=by funext x;rfl
  rw[← e]
  exact hns₁
 have hle:s2.heap.objs.size≤C:=by rw[hCs];exact Nat.le_succ _
 have hne:C≠s2.heap.objs.size:=Nat.ne_of_gt (by rw[hCs];exact Nat.lt_succ_self _)
 let Y:Cx:=X.comp (own++fr.map (·.1)) scope cl C fp s2 H2
 have stat:∀{H':Hp},(∀ b∈fp,H' b=none)→∀ b∈fp,FpOk Y [] H' b:=fun hn=>Inv.fpComp I2 f2 hb hle hcl hn
 obtain⟨gY,pY,eY⟩:=hB cl C fp s2 H2
 have IY:Inv Y [] (compSt own.length (fr.map (·.2)) σ) (upd H2 s2.heap.objs.size (.lst [])) { s2 with heap:=h₁,toks:=s2.toks+([]:List (Str×Value)).length } :=
  Inv.comp (D:=s2.heap.objs.size) I2 f2 hb hkind hcell hcl hcl2 hfr (Nat.le_refl _) hle hne hns' old hD rfl I2.bare
 have loop:codeAny (model X.prog X.w) X.A (.compLoop (.ListComp elt [⟨tg,iter,ifs,0⟩] scope pos) 0 (.ref it) (.ref s2.heap.objs.size) (compEnvC scope cl C X.env)) (compPost (model X.prog X.w) X.A X.xe none (EP X pins σ Q) (.ref s2.heap.objs.size) C)
   { s2 with heap:=h₁,toks:=s2.toks+([]:List (Str×Value)).length }:=by
  refine compLoop_any (E:=fun _ _=>False) (fun n s'=>∃ i acc H',Inv Y [] (compSt own.length (fr.map (·.2)) σ) H' s'∧tn i s'.heap∧(∀ b∈fp,H' b=none)∧W i n acc H') (fun _ _ z=>z) ?_ m0
   ⟨0,[],_,IY,T.keep _ _ _ st2 fun b _ o e=>old b o e,fun b z=>by rw[upd_ne (Nat.ne_of_lt (hb b z))];exact (f2 b z).1,w0⟩
  rintro n s3 ⟨i,acc,H3,I3,st3,fr3,w3⟩
  rcases turn i n acc H3 w3 with ⟨stop,q⟩ | ⟨go,Nn,hN,step⟩
  ·refine thn (T.done Y rfl rfl rfl hc i [] s3 _ H3 _ I3 (stat fr3) st3 stop) fun r s4 ⟨hr,I4⟩=>?_
   subst hr
   obtain⟨m4,hn4,_⟩:=I4.loc
   refine⟨m4,hn4,fun h' hs'=>?_⟩
   have kb:∀ b o,b≠C→s4.heap.get? b=some o→h'.get? b=some o:=fun b o hne e=>hs'.extBut b o hne e
   have hok':HOk X.prog X.w H3 h':=HOk.stays (show HOk X.prog X.w H3 s4.heap from I4.hok) fun b u hn e=>kb b u (fun z=>hn (by rw[z];exact I4.free)) e
   have bI:Un (frs X.stack) fp H2 H3 s2.heap s4.heap:=I4.base
   have lt:∀ b o,s2.heap.get? b=some o→b≠C:=fun b o e=>Nat.ne_of_lt (Nat.lt_of_lt_of_le (Heap.lt_size e) hle)
   have un:Un (frs X.stack) fp H2 H3 s2.heap h' :=
    {keep:=fun b o e n hb hx=>kb b o (lt b o e) (bI.keep b o e n hb hx)
     slot:=fun b o e n hb hx=>by
      obtain⟨sl,e1⟩:=bI.slot b o e n hb hx
      exact⟨sl,kb b _ (lt b o e) e1⟩
     free:=bI.free
     there:=fun b o e hx=>by
      obtain⟨o1,e1⟩:=bI.there b o e hx
      exact⟨o1,kb b _ (lt b o e) e1⟩
     tups:=bI.tups
     frzs:=bI.frzs
     tbls:=bI.tbls }
   exact⟨.ref s2.heap.objs.size,H3,I2.call' (s':={ s4 with heap:=h' }) (ch:=fp) I4.os un hok' I4.bare (fun b z=>⟨(f2 b z).2.2.2.1,(f2 b z).2.1,(f2 b z).2.2.2.2.1,(f2 b z).2.2.2.2.2⟩),rfl,q⟩
  ·refine thn (T.item Y rfl rfl rfl hc i [] s3 _ H3 _ I3 (stat fr3) st3 go) fun r s4 ⟨u,hr,h4⟩=>?_
   subst hr
   refine thn h4 fun _ s5 ⟨x,H5,I5,r5,y5,st5,fr5⟩=>?_
   have I5':=I5.pinned (stat fr5) (T.obj _ _ st5)
   refine thn (gY _ s5 _ H5 x u _ I5' r5 (hgx _ x H5 _ (step x H5 y5))) fun _ s6 ⟨σ6,H6,I6,ex6,q6⟩=>?_
   refine thn (pY _ s6 σ6 H6 _ I6 q6) fun ok s7 ⟨H7,I7,q7⟩=>?_
   have again:∀{acc':List V}{H8:Hp}{s8:Shared},Inv Y ([]++pinsAt fp s5.heap) σ6 H8 s8→Nn acc' H8→∃ m,m < n∧∃ i acc H',Inv Y [] (compSt own.length (fr.map (·.2)) σ) H' s8∧tn i s8.heap∧(∀ b∈fp,H' b=none)∧W i m acc H':=fun {acc' H8 s8} I8 n8=>by
    obtain⟨m',hm,w8⟩:=hN acc' H8 n8
    refine⟨m',hm,i+1,acc',H8,I8.unpinned.weak ex6.1 ex6.2,T.keep _ _ _ st5 fun b hb o e=>(I8.pin (b,o) (List.mem_append_right _ (List.mem_append_right _ (mem_pinsAt hb e)))).1,fun b hb=>?_,w8⟩
    obtain⟨o,e,d⟩:=T.obj _ _ st5 b hb
    exact (I8.pin (b,o) (List.mem_append_right _ (List.mem_append_right _ (mem_pinsAt hb e)))).2.1
   cases ok with
   | false=>exact again I7 (by simpa using q7)
   | true =>
    have q7':=(by simpa using q7:te σ6 H7 _)
    refine thn (eY _ s7 σ6 H7 _ I7 q7') fun xv s8 ⟨y,H8,I8,r8,hl8,hz8,n8⟩=>?_
    refine thn (mt_append (X:=Y) _ s8 σ6 H8 (.ref s2.heap.objs.size) [y] (.ref s2.heap.objs.size) [xv] (fun v H9=>v=.non∧H9=upd H8 s2.heap.objs.size (.lst (acc++[y]))) I8 rfl (.cons r8 .nil) ⟨_,acc,y,rfl,rfl,hl8,hz8,rfl,rfl⟩) fun _ s9 ⟨v9,H9,I9,_,_,e9⟩=>?_
    subst e9
    exact again I9 n8
 exact codeAny_compStart_list loop (T.self X.A 0 _ _ _ (T.keep _ _ _ st2 fun b _ o e=>old b o e) loop)
end
theorem comp_list{K:PySem.W.Frag}{a l:Addr}{xs:List V}{n:Nat}{js:List Nat}{g:TG}{tt:TT}{te:TE}{σ:St}{H1:Hp}{Q:VK}(Pv:Nat→List V→Hp→Prop)(h0:Pv 0 [] (upd H1 l (.lst [])))(hl:∀ i acc H,i≤xs.length→Pv i acc H→SqL K H a xs)
  (hs:∀ i x acc H,xs[i]?=some x→Pv i acc H→g x (compSt n js σ) H fun σ2 H2=>tt σ2 H2 fun b H3=>if b=true then te σ2 H3 fun y H4=>H4 l=some (.lst acc)∧acc.length < sizeLine∧Pv (i+1) (acc++[y]) (upd H4 l (.lst (acc++[y]))) else Pv (i+1) acc H3)
  (hd:∀ acc H,Pv xs.length acc H→Q (.ref l) H) :
  ∃ W:Nat→Nat→List V→Hp→Prop,(∃ m,W 0 m [] (upd H1 l (.lst [])))∧∀ i m acc H,W i m acc H →
   ((Itl K a).stop i H∧Q (.ref l) H)∨((Itl K a).go i H∧∃ N:List V→Hp→Prop,(∀ acc' H',N acc' H'→∃ m',m' < m∧W (i+1) m' acc' H') ∧
    ∀ x H',(Itl K a).yld i H x H'→g x (compSt n js σ) H' fun σ2 H2=>tt σ2 H2 fun b H3=>if b=true then te σ2 H3 fun y H4=>H4 l=some (.lst acc)∧acc.length < sizeLine∧N (acc++[y]) (upd H4 l (.lst (acc++[y]))) else N acc H3):=by
 refine⟨fun i m acc H=>m=xs.length - i∧i≤xs.length∧Pv i acc H,⟨xs.length,by simp,Nat.zero_le _,h0⟩,?_⟩
 rintro i m acc H ⟨rfl,hi,p⟩
 have q:=hl i acc H hi p
 by_cases hlt:i < xs.length
 ·refine .inr ⟨⟨xs,xs[i],q,by simp[hlt]⟩,Pv (i+1),fun acc' H' p'=>⟨xs.length - (i+1),by omega,rfl,hlt,p'⟩,fun x H' y=>?_⟩
  obtain⟨e,y⟩:=y
  subst e
  exact hs i x acc _ (y xs q) p
 ·have e:i=xs.length:=by omega
  subst e
  exact .inl ⟨⟨xs,q,Nat.le_refl _⟩,hd acc H p⟩
theorem comp_tup{K:PySem.W.Frag}{a l:Addr}{xs:List V}{n:Nat}{js:List Nat}{g:TG}{tt:TT}{te:TE}{σ:St}{H1:Hp}{Q:VK}(Pv:Nat→List V→Hp→Prop)(h0:Pv 0 [] (upd H1 l (.lst [])))(hl:∀ i acc H,i≤xs.length→Pv i acc H→SqT K H a xs)
  (hs:∀ i x acc H,xs[i]?=some x→Pv i acc H→g x (compSt n js σ) H fun σ2 H2=>tt σ2 H2 fun b H3=>if b=true then te σ2 H3 fun y H4=>H4 l=some (.lst acc)∧acc.length < sizeLine∧Pv (i+1) (acc++[y]) (upd H4 l (.lst (acc++[y]))) else Pv (i+1) acc H3)
  (hd:∀ acc H,Pv xs.length acc H→Q (.ref l) H) :
  ∃ W:Nat→Nat→List V→Hp→Prop,(∃ m,W 0 m [] (upd H1 l (.lst [])))∧∀ i m acc H,W i m acc H →
   ((Itt K a).stop i H∧Q (.ref l) H)∨((Itt K a).go i H∧∃ N:List V→Hp→Prop,(∀ acc' H',N acc' H'→∃ m',m' < m∧W (i+1) m' acc' H') ∧
    ∀ x H',(Itt K a).yld i H x H'→g x (compSt n js σ) H' fun σ2 H2=>tt σ2 H2 fun b H3=>if b=true then te σ2 H3 fun y H4=>H4 l=some (.lst acc)∧acc.length < sizeLine∧N (acc++[y]) (upd H4 l (.lst (acc++[y]))) else N acc H3):=by
 refine⟨fun i m acc H=>m=xs.length - i∧i≤xs.length∧Pv i acc H,⟨xs.length,by simp,Nat.zero_le _,h0⟩,?_⟩
 rintro i m acc H ⟨rfl,hi,p⟩
 have q:=hl i acc H hi p
 by_cases hlt:i < xs.length
 ·refine .inr ⟨⟨xs,xs[i],q,by simp[hlt]⟩,Pv (i+1),fun acc' H' p'=>⟨xs.length - (i+1),by omega,rfl,hlt,p'⟩,fun x H' y=>?_⟩
  obtain⟨e,y⟩:=y
  subst e
  exact hs i x acc _ (y xs q) p
 ·have e:i=xs.length:=by omega
  subst e
  exact .inl ⟨⟨xs,q,Nat.le_refl _⟩,hd acc H p⟩
theorem comp_range{lo:Int}{k:Nat}{l:Addr}{n:Nat}{js:List Nat}{g:TG}{tt:TT}{te:TE}{σ:St}{H1:Hp}{Q:VK}(Pv:Nat→List V→Hp→Prop)(h0:Pv 0 [] (upd H1 l (.lst [])))
  (hs:∀ i acc H,i < k→Pv i acc H→g (.int (lo+i)) (compSt n js σ) H fun σ2 H2=>tt σ2 H2 fun b H3=>if b=true then te σ2 H3 fun y H4=>H4 l=some (.lst acc)∧acc.length < sizeLine∧Pv (i+1) (acc++[y]) (upd H4 l (.lst (acc++[y]))) else Pv (i+1) acc H3)
  (hd:∀ acc H,Pv k acc H→Q (.ref l) H) :
  ∃ W:Nat→Nat→List V→Hp→Prop,(∃ m,W 0 m [] (upd H1 l (.lst [])))∧∀ i m acc H,W i m acc H →
   ((Itr lo k).stop i H∧Q (.ref l) H)∨((Itr lo k).go i H∧∃ N:List V→Hp→Prop,(∀ acc' H',N acc' H'→∃ m',m' < m∧W (i+1) m' acc' H') ∧
    ∀ x H',(Itr lo k).yld i H x H'→g x (compSt n js σ) H' fun σ2 H2=>tt σ2 H2 fun b H3=>if b=true then te σ2 H3 fun y H4=>H4 l=some (.lst acc)∧acc.length < sizeLine∧N (acc++[y]) (upd H4 l (.lst (acc++[y]))) else N acc H3):=by
 refine⟨fun i m acc H=>m=k - i∧i≤k∧Pv i acc H,⟨k,by simp,Nat.zero_le _,h0⟩,?_⟩
 rintro i m acc H ⟨rfl,hi,p⟩
 by_cases hlt:i < k
 ·refine .inr ⟨hlt,Pv (i+1),fun acc' H' p'=>⟨k - (i+1),by omega,rfl,hlt,p'⟩,fun x H' y=>?_⟩
  obtain⟨e,y⟩:=y
  subst e y
  exact hs i acc _ hlt p
 ·have e:i=k:=by omega
  subst e
  exact .inl ⟨Nat.le_refl _,hd acc H p⟩
theorem comp_listR{K:PySem.W.Frag}{a l:Addr}{xs:List V}{n:Nat}{js:List Nat}{g:TG}{tt:TT}{te:TE}{σ:St}{H1:Hp}{R:Hp→Prop}(Pv:Nat→List V→Hp→Prop)(h0:Pv 0 [] (upd H1 l (.lst [])))(hl:∀ i acc H,i≤xs.length→Pv i acc H→SqL K H a xs)
  (hs:∀ i x acc H,xs[i]?=some x→Pv i acc H→g x (compSt n js σ) H fun σ2 H2=>tt σ2 H2 fun b H3=>if b=true then te σ2 H3 fun y H4=>H4 l=some (.lst acc)∧acc.length < sizeLine∧Pv (i+1) (acc++[y]) (upd H4 l (.lst (acc++[y]))) else Pv (i+1) acc H3)
  (hd:∀ acc H,Pv xs.length acc H→R H) :
  ∃ W:Nat→Nat→List V→Hp→Prop,(∃ m,W 0 m [] (upd H1 l (.lst [])))∧∀ i m acc H,W i m acc H →
   ((Itl K a).stop i H∧R H)∨((Itl K a).go i H∧∃ N:List V→Hp→Prop,(∀ acc' H',N acc' H'→∃ m',m' < m∧W (i+1) m' acc' H') ∧
    ∀ x H',(Itl K a).yld i H x H'→g x (compSt n js σ) H' fun σ2 H2=>tt σ2 H2 fun b H3=>if b=true then te σ2 H3 fun y H4=>H4 l=some (.lst acc)∧acc.length < sizeLine∧N (acc++[y]) (upd H4 l (.lst (acc++[y]))) else N acc H3):=comp_list (Q:=fun _ H=>R H) Pv h0 hl hs hd
theorem comp_tupR{K:PySem.W.Frag}{a l:Addr}{xs:List V}{n:Nat}{js:List Nat}{g:TG}{tt:TT}{te:TE}{σ:St}{H1:Hp}{R:Hp→Prop}(Pv:Nat→List V→Hp→Prop)(h0:Pv 0 [] (upd H1 l (.lst [])))(hl:∀ i acc H,i≤xs.length→Pv i acc H→SqT K H a xs)
  (hs:∀ i x acc H,xs[i]?=some x→Pv i acc H→g x (compSt n js σ) H fun σ2 H2=>tt σ2 H2 fun b H3=>if b=true then te σ2 H3 fun y H4=>H4 l=some (.lst acc)∧acc.length < sizeLine∧Pv (i+1) (acc++[y]) (upd H4 l (.lst (acc++[y]))) else Pv (i+1) acc H3)
  (hd:∀ acc H,Pv xs.length acc H→R H) :
  ∃ W:Nat→Nat→List V→Hp→Prop,(∃ m,W 0 m [] (upd H1 l (.lst [])))∧∀ i m acc H,W i m acc H →
   ((Itt K a).stop i H∧R H)∨((Itt K a).go i H∧∃ N:List V→Hp→Prop,(∀ acc' H',N acc' H'→∃ m',m' < m∧W (i+1) m' acc' H') ∧
    ∀ x H',(Itt K a).yld i H x H'→g x (compSt n js σ) H' fun σ2 H2=>tt σ2 H2 fun b H3=>if b=true then te σ2 H3 fun y H4=>H4 l=some (.lst acc)∧acc.length < sizeLine∧N (acc++[y]) (upd H4 l (.lst (acc++[y]))) else N acc H3):=comp_tup (Q:=fun _ H=>R H) Pv h0 hl hs hd
theorem comp_rangeR{lo:Int}{k:Nat}{l:Addr}{n:Nat}{js:List Nat}{g:TG}{tt:TT}{te:TE}{σ:St}{H1:Hp}{R:Hp→Prop}(Pv:Nat→List V→Hp→Prop)(h0:Pv 0 [] (upd H1 l (.lst [])))
  (hs:∀ i acc H,i < k→Pv i acc H→g (.int (lo+i)) (compSt n js σ) H fun σ2 H2=>tt σ2 H2 fun b H3=>if b=true then te σ2 H3 fun y H4=>H4 l=some (.lst acc)∧acc.length < sizeLine∧Pv (i+1) (acc++[y]) (upd H4 l (.lst (acc++[y]))) else Pv (i+1) acc H3)
  (hd:∀ acc H,Pv k acc H→R H) :
  ∃ W:Nat→Nat→List V→Hp→Prop,(∃ m,W 0 m [] (upd H1 l (.lst [])))∧∀ i m acc H,W i m acc H →
   ((Itr lo k).stop i H∧R H)∨((Itr lo k).go i H∧∃ N:List V→Hp→Prop,(∀ acc' H',N acc' H'→∃ m',m' < m∧W (i+1) m' acc' H') ∧
    ∀ x H',(Itr lo k).yld i H x H'→g x (compSt n js σ) H' fun σ2 H2=>tt σ2 H2 fun b H3=>if b=true then te σ2 H3 fun y H4=>H4 l=some (.lst acc)∧acc.length < sizeLine∧N (acc++[y]) (upd H4 l (.lst (acc++[y]))) else N acc H3):=comp_range (Q:=fun _ H=>R H) Pv h0 hs hd
end L2
namespace L2
open PySem PySem.Spec PyProof.Rows
open PySem.Builtin.Int (intBits)
abbrev Sz(k:Nat)(x:Int):Prop:=intBits x≤k
theorem Sz.of{k:Nat}{x:Int}(h:x.natAbs < 2 ^ k):Sz k x:=PySem.intBits_le_iff.mpr h
theorem Sz.lt{k:Nat}{x:Int}(h:Sz k x):x.natAbs < 2 ^ k:=PySem.intBits_le_iff.mp h
theorem Sz.mono{j k:Nat}{x:Int}(h:Sz j x)(q:j≤k):Sz k x:=Nat.le_trans h q
theorem Sz.okR{k:Nat}{x y:Int}(q:Sz k y)(e:k≤64):IntMulOk x y:=IntMulOk.of_right (Nat.le_trans q e)
theorem Sz.noPy{k:Nat}{x y:Int}(q:Sz k y)(e:k≤9000):Builtin.divisionGoesByPylong x y=false:=by
 refine PyProof.noPylong_of_log2 ?_
 by_cases h0:y.natAbs=0
 ·rw[h0];decide +kernel
 ·exact (Nat.log2_lt h0).mpr (Sz.lt (q.mono e))
section
variable {X:Cx}
def CMulB(i j:Int):Prop:=IntMulOk i j
def CDivB(i j:Int):Prop:=0 < j∧Sz 9000 j
theorem op_mulB:OpR X (binaryOp .Mult) (rI CMulB fun i j=>.int (i*j)):=opI fun _ _ _ _ _ _ _ hc q=>mul_int q hc
theorem op_fdivB:OpR X (binaryOp .FloorDiv) (rI CDivB fun i j=>.int (i / j)):=opI fun i j _ _ _ _ _ hc q=>by
 have h1:(0:Int) < j:=hc.1
 exact floordiv_int (by omega) (by rw[Int.fdiv_eq_ediv_of_nonneg i (by omega)];exact q) (.inl (Sz.noPy hc.2 (Nat.le_refl _)))
def tyNm(x:V)(H:Hp):Option String:=match x with
 | .non=>some "NoneType"
 | .bl _=>some "bool"
 | .int _=>some "int"
 | .str _=>some "str"
 | .ref a=>(match H a with
  | some (.lst _)=>some "list"
  | some (.tup _)=>some "tuple"
  | some (.dK _)=>some "dict"
  | _=>none)
 | _=>none
theorem tyNm_of{K:PySem.W.Frag}{H:Hp}{x:V}{n:String}(h:tyNm x H=some n):TyOf K H x (.type n):=by
 unfold tyNm at h
 split at h
 ·cases h;exact .non
 ·cases h;exact .bl _
 ·cases h;exact .int _
 ·cases h;exact .str _
 ·split at h
  ·cases h;exact .lst (by assumption)
  ·cases h;exact .tup (by assumption)
  ·cases h;exact .dK (by assumption)
  ·cases h
 ·cases h
def isiB(t c:String):Bool:=t == c || (t == "bool" && c == "int")
def isiNames:List String:=["NoneType", "bool", "int", "str", "list", "tuple", "dict"]
theorem kit_of(K:PySem.W.Frag):∀ t∈isiNames,∀ c∈["bool", "int", "str", "list", "tuple", "dict"],PySem.W.kitOne K (.type t) (.type c)=some (isiB t c):=by
 intro t ht c hc
 simp only[isiNames,List.mem_cons,List.not_mem_nil,or_false] at ht hc
 rcases ht with rfl | rfl | rfl | rfl | rfl | rfl | rfl<;>rcases hc with rfl | rfl | rfl | rfl | rfl | rfl<;>kernel_rfl
theorem tyNm_mem{x:V}{H:Hp}{n:String}(h:tyNm x H=some n):n∈isiNames:=by
 unfold tyNm at h
 split at h
 ·cases h;decide
 ·cases h;decide
 ·cases h;decide
 ·cases h;decide
 ·split at h
  ·cases h;decide
  ·cases h;decide
  ·cases h;decide
  ·cases h
 ·cases h
def rIsi:List V→Hp→VK→Prop:=fun xs H Q=>∃ x n t,xs=[x,.ty n]∧n∈["bool", "int", "str", "list", "tuple", "dict"]∧tyNm x H=some t∧Q (.bl (isiB t n)) H
theorem call_isi:CallR X (.builtin "isinstance") rIsi:=by
 intro pins s σ H xs us Q I r h
 obtain⟨x,n,t,rfl,hn,ty,q⟩:=h
 obtain⟨u,v,rfl,ru,rv⟩:=r.two
 obtain rfl:v=Value.type n:=rv
 exact isinst_ok I ru (tyNm_of ty) (kit_of X.K t (tyNm_mem ty) n hn) fun tk=>⟨.bl _,H,I.tok tk,rfl,q⟩
theorem isiN_int:("int" ∈ ["bool", "int", "str", "list", "tuple", "dict"])=True:=eq_true (by decide)
theorem isiN_bool:("bool" ∈ ["bool", "int", "str", "list", "tuple", "dict"])=True:=eq_true (by decide)
theorem isiN_list:("list" ∈ ["bool", "int", "str", "list", "tuple", "dict"])=True:=eq_true (by decide)
theorem isiN_tuple:("tuple" ∈ ["bool", "int", "str", "list", "tuple", "dict"])=True:=eq_true (by decide)
theorem isiN_str:("str" ∈ ["bool", "int", "str", "list", "tuple", "dict"])=True:=eq_true (by decide)
theorem isi_ii:isiB "int" "int" = true:=rfl
theorem isi_ib:isiB "int" "bool" = false:=rfl
theorem isi_bb:isiB "bool" "bool" = true:=rfl
theorem isi_bi:isiB "bool" "int" = true:=rfl
theorem isi_tt:isiB "tuple" "tuple" = true:=rfl
theorem isi_ll:isiB "list" "list" = true:=rfl
theorem isi_nt:isiB "NoneType" "tuple" = false:=rfl
theorem isi_ni:isiB "NoneType" "int" = false:=rfl
def seqAt(H:Hp)(p:Addr):Option (List V):=match H p with
 | some (.lst xs)=>some xs
 | some (.tup xs)=>some xs
 | some (.frz _ (.lst xs))=>some xs
 | _=>none
theorem sq_of{K:PySem.W.Frag}{H:Hp}{p:Addr}{xs:List V}(h:seqAt H p=some xs):SqL K H p xs∨SqT K H p xs:=by
 unfold seqAt at h
 split at h
 ·rename_i e;cases h;exact .inl (SqL.of e)
 ·rename_i e;cases h;exact .inr (SqT.of e)
 ·rename_i e;cases h;exact .inl (.inl (.inr ⟨_,e⟩))
 ·cases h
def rIxF:R2:=fun x y H Q=>∃ p xs i v,x=.ref p∧y=.int i∧seqAt H p=some xs∧atI xs i=some v∧Q v H
theorem ix_seqA:IxR X rIxF:=by
 intro value slice pins s σ H x y v u Q I rx ry h hs
 obtain⟨p,xs,i,z,e1,e2,hq,he,q⟩:=h
 rcases sq_of (K:=X.K) hq with h' | h'
 ·exact ix_list value slice pins s σ H x y v u Q I rx ry ⟨p,xs,i,z,e1,e2,h',he,q⟩ hs
 ·exact ix_tup value slice pins s σ H x y v u Q I rx ry ⟨p,xs,i,z,e1,e2,h',he,q⟩ hs
def rLenF:List V→Hp→VK→Prop:=fun xs H Q=>∃ p ys,xs=[.ref p]∧seqAt H p=some ys∧Q (.int ys.length) H
theorem call_lenF:CallR X (.builtin "len") rLenF:=by
 intro pins s σ H xs us Q I r h
 obtain⟨p,ys,e1,hq,q⟩:=h
 exact call_len_seq pins s σ H xs us Q I r ⟨p,ys,e1,sq_of hq,q⟩
def rGetF:V→V→Hp→VK→Prop:=fun x y H Q=>∃ p xs i v,x=.ref p∧y=.int i∧H p=some (.lst xs)∧0≤i∧atI xs i=some v∧Q v H
theorem get_list:PGet X rGetF:=by
 intro pins s σ H o i ov iv Q I r1 r2 h
 obtain⟨p,xs,k,v,rfl,rfl,hl,h0,he,q⟩:=h
 obtain rfl:ov=Value.ref p:=r1
 obtain⟨t,rfl⟩:=r2
 obtain⟨its,rv,pl,hz⟩:=I.list (SqL.of hl)
 obtain⟨j,h1,h2,h3,h4,h5⟩:=atI_get he
 obtain⟨u,hu,ru⟩:=rv.get h2
 have hlen:=rv.length
 have hn:=line63
 have hj:k.toNat=j:=by
  rw[seqIndex_of h0 h5] at h1
  exact Option.some.inj h1
 exact wpAny_getItem_list pl.isList h0 (by omega) (by rw[hj];simpa using hu) ⟨v,H,I,ru,q⟩
theorem atI_0{α:Type}{a:α}{l:List α}:atI (a::l) 0=some a:=atI_nat (j:=0) rfl
theorem atI_1{α:Type}{a b:α}{l:List α}:atI (a::b::l) 1=some b:=atI_nat (j:=1) rfl
theorem atI_2{α:Type}{a b c:α}{l:List α}:atI (a::b::c::l) 2=some c:=atI_nat (j:=2) rfl
theorem atI_3{α:Type}{a b c d:α}{l:List α}:atI (a::b::c::d::l) 3=some d:=atI_nat (j:=3) rfl
theorem ixN_4_0:ixN 4 0=some 0:=rfl
theorem ixN_4_1:ixN 4 1=some 1:=rfl
theorem ixN_4_2:ixN 4 2=some 2:=rfl
theorem ixN_4_3:ixN 4 3=some 3:=rfl
theorem atI_lt{α:Type}{xs:List α}{i:Int}(h0:0≤i)(h1:i < xs.length):∃ v,atI xs i=some v∧v∈xs:=by
 have hl:i.toNat < xs.length:=by omega
 refine⟨xs[i.toNat],?_,List.getElem_mem hl⟩
 have:=atI_nat (xs:=xs) (j:=i.toNat) (v:=xs[i.toNat]) (by simp[hl])
 rwa [Int.toNat_of_nonneg h0] at this
end
theorem bt_len:bootBuiltins "len" = some (.builtin "len"):=by decide +kernel
theorem bt_isinstance:bootBuiltins "isinstance" = some (.builtin "isinstance"):=by decide +kernel
theorem bt_all:bootBuiltins "all" = some (.builtin "all"):=by decide +kernel
theorem bt_int:bootBuiltins "int" = some (.type "int"):=by decide +kernel
theorem bt_bool:bootBuiltins "bool" = some (.type "bool"):=by decide +kernel
theorem bt_str:bootBuiltins "str" = some (.type "str"):=by decide +kernel
theorem bt_list:bootBuiltins "list" = some (.type "list"):=by decide +kernel
theorem bt_tuple:bootBuiltins "tuple" = some (.type "tuple"):=by decide +kernel
theorem scal_ii{i j:Int}:scal (.int i) (.int j)=true:=rfl
theorem scal_bb{i j:Bool}:scal (.bl i) (.bl j)=true:=rfl
theorem scal_ss{i j:Str}:scal (.str i) (.str j)=true:=rfl
theorem scal_nn:scal .non .non=true:=rfl
theorem sizeLine_1:(1≤sizeLine)=True:=eq_true (by decide)
theorem sizeLine_2:(2≤sizeLine)=True:=eq_true (by decide)
theorem sizeLine_3:(3≤sizeLine)=True:=eq_true (by decide)
theorem sizeLine_4:(4≤sizeLine)=True:=eq_true (by decide)
theorem sizeLine_5:(5≤sizeLine)=True:=eq_true (by decide)
theorem sizeLine_6:(6≤sizeLine)=True:=eq_true (by decide)
theorem sizeLine_7:(7≤sizeLine)=True:=eq_true (by decide)
theorem int_c2:(((2:Nat):Int))=2:=rfl
theorem pow_ok:(Int.natAbs 10 < 2 ^ 64)=True:=eq_true (by decide)
theorem int_01:((0:Int)≤1)=True:=eq_true (by decide)
section
variable {X:Cx}
def rListF:List V→Hp→VK→Prop:=fun xs H Q=>∃ p ys,xs=[.ref p]∧seqAt H p=some ys∧∀ l,H l=none→Q (.ref l) (upd H l (.lst ys))
theorem call_listF:CallR X (.type "list") rListF:=by
 intro pins s σ H xs us Q I r h
 obtain⟨p,ys,e1,hq,q⟩:=h
 exact call_list_of pins s σ H xs us Q I r ⟨p,ys,e1,sq_of hq,q⟩
def rTupF:List V→Hp→VK→Prop:=fun xs H Q=>∃ p ys,xs=[.ref p]∧H p=some (.lst ys)∧∀ l,H l=none→Q (.ref l) (upd H l (.tup ys))
theorem call_tupF:CallR X (.type "tuple") rTupF:=by
 intro pins s σ H xs us Q I r h
 obtain⟨p,ys,e1,hq,q⟩:=h
 exact call_tuple_of pins s σ H xs us Q I r ⟨p,ys,e1,.inl ⟨SqL.of hq,q⟩⟩
theorem cutV_all{ns:List V}{k:Nat}(h:ns.length≤k):cutV ns none (some (k:Int))=ns:=by
 unfold cutV
 rw[HT.sIx_none,HT.sIx_nat,List.drop_zero,Nat.sub_zero,Nat.min_eq_right h,List.take_length]
end
def DefOk(P:Program)(w:World)(K:PySem.W.Frag)(mg:Str→Option Value)(base:Heap)(CX:CXT)(k:Nat)(x:Str)(ps:List Str)(sp:Sp):Prop :=
 ∃ f fd,FnOk P w K mg base CX k f fd ps sp∧mg x=some (.ref f)∧PySem.W.keepIn K (.ref f)=true∧Binds K fd ps []
inductive Tg.{u} {α:Sort u} (a:α):Type
 | mk
def Hold(Q:VK)(_:Tg Q):VK:=Q
theorem Hold_ap{Q:VK}{k:Tg Q}{v:V}{H:Hp}:Hold Q k v H=Q v H:=propext Iff.rfl
def tD(sp:Sp)(E:XK)(t:TA):TE:=fun σ H Q=>t σ H fun vs H1=>sp vs H1 (Hold Q .mk) E
section
variable {X:Cx}{CX:CXT}{k:Nat}{ps:List Str}{sp:Sp}{E:XK}{x:Str}{p pos:Pos}{e:Expr}{es:List Expr}{t:TA}
theorem pe_d(d:DefOk X.prog X.w X.K X.mg X.base CX k x ps sp)(hr:Room k X.A)(hx:Passes CX X E)(hg:Gl X x)(ha:PA X (e::es) t)
  (hdb:(x == ("__debug__" : Str))=false:=by decide) (he:starEach (e::es) X.env=(false,eval e X.env)::starEach es X.env:=by rfl) (hpl:(backTo pos (starEach es X.env)).any (·.1)=false:=by rfl) :
  PE X (.Call (.Name x p) (e::es) [] pos) (tD sp E t):=by
 obtain⟨f,fd,F,hm,hk,hb⟩:=d
 intro pins s σ H Q I h
 refine pe_call (dvs:=[]) (ds:=[]) F hr hg hm hk hb .nil hx ha hdb he hpl pins s σ H Q I ?_
 have e0:tCall sp [] E t=tD sp E t:=by
  funext σ H Q
  unfold tCall tD Hold
  simp only[List.append_nil]
 rw[e0]
 exact h
end
structure DefAt(K:PySem.W.Frag)(mg:Str→Option Value)(x:Str)(st:Stmt)(f:Addr)(fd:FuncData):Prop where
 fn:Fun K x x st f fd
 mg:mg x=some (.ref f)
theorem DefAt.ok{P:Program}{w:World}{K:PySem.W.Frag}{mg:Str→Option Value}{base:Heap}{CX:CXT}{k:Nat}{x:Str}{st:Stmt}{f:Addr}{fd:FuncData}{ps:List Str}{sp:Sp}(D:DefAt K mg x st f fd)(F:FnOk P w K mg base CX k f fd ps sp)(b:Binds K fd ps []):DefOk P w K mg base CX k x ps sp :=
 ⟨f,fd,F,D.mg,D.fn.kp,b⟩
theorem pick{P:Int→Prop}(l:List Int){d:Int}(h0:0≤d)(h1:d < l.length)(hp:∀ x∈l,P x):∃ x,atI (l.map V.int) d=some (.int x)∧P x:=by
 obtain⟨v,e,hv⟩:=atI_lt (xs:=l.map V.int) h0 (by rw[List.length_map];exact h1)
 obtain⟨x,hx,rfl⟩:=List.mem_map.mp hv
 exact⟨x,e,hp x hx⟩
def Fr1(B:Addr)(H H':Hp):Prop:=∀ b o,b≠B→H b=some o→H' b=some o
theorem Fr1.refl{B:Addr}{H:Hp}:Fr1 B H H:=fun _ _ _ h=>h
theorem Fr1.trans{B:Addr}{H H1 H2:Hp}(a:Fr1 B H H1)(b:Fr1 B H1 H2):Fr1 B H H2:=fun c o n h=>b c o n (a c o n h)
theorem Fr1.upd{B:Addr}{H:Hp}{o:HO}:Fr1 B H (L2.upd H B o):=fun c u n h=>by rw[upd_ne n];exact h
theorem Fr1.new{B p:Addr}{H:Hp}{o:HO}(hp:H p=none):Fr1 B H (L2.upd H p o):=fun c u n h=>by rw[upd_ne (ne_of_none h hp)];exact h
theorem Same.new{p:Addr}{H:Hp}{o:HO}(hp:H p=none):Same H (L2.upd H p o):=fun c u h=>by rw[upd_ne (ne_of_none h hp)];exact h
theorem Room.le{j k:Nat}{A:Around}(r:Room k A)(h:j≤k:=by decide):Room j A:=r.mono h
def Brk(b:Bool)(A B:Prop)(_:Tg A)(_:Tg B):Prop:=if b=true then A else B
theorem Brk_t{A B:Prop}{k:Tg A}{l:Tg B}:Brk true A B k l=A:=by unfold Brk;rw[if_pos rfl]
theorem Brk_f{A B:Prop}{k:Tg A}{l:Tg B}:Brk false A B k l=B:=by unfold Brk;rw[if_neg Bool.false_ne_true]
theorem brk{b:Bool}{A B:Prop}{k:Tg A}{l:Tg B}(h1:b=true→A)(h2:b=false→B):Brk b A B k l:=by
 cases b with
 | true=>rw[Brk_t];exact h1 rfl
 | false=>rw[Brk_f];exact h2 rfl
theorem brkD{p:Prop}[Decidable p]{A B:Prop}{k:Tg A}{l:Tg B}(h1:p→A)(h2:¬ p→B):Brk (decide p) A B k l:=brk (fun h=>h1 (of_decide_eq_true h)) (fun h=>h2 (of_decide_eq_false h))
theorem brkN{p:Prop}[Decidable p]{A B:Prop}{k:Tg A}{l:Tg B}(h1:¬ p→A)(h2:p→B):Brk (!decide p) A B k l:=brk (fun h=>h1 (by simpa using h)) (fun h=>h2 (by simpa using h))
section
variable {σ:St}{H:Hp}{Q:VK}{D:Ends}{te ta tb:TE}{t u:TS}{c c':TT}{tr:TA}{QT:Bool→Hp→Prop}{QA:List V→Hp→Prop}{x y:V}{xs:List V}{v:V}
theorem tSeq_ap:tSeq t u D σ H=t { D with nx:=u D } σ H:=propext Iff.rfl
theorem tIfS_ap:tIfS c t u D σ H=c σ H fun b H1=>Brk b (t D σ H1) (u D σ H1) .mk .mk:=propext Iff.rfl
theorem tNext_ap:tNext D σ H=D.nx σ H:=propext Iff.rfl
theorem tDrop_ap:tDrop te D σ H=te σ H fun _ H1=>D.nx σ H1:=propext Iff.rfl
theorem tRet_ap:tRet te D σ H=te σ H D.rt:=propext Iff.rfl
theorem tRetN_ap:tRetN D σ H=D.rt .non H:=propext Iff.rfl
theorem tAsg_ap{g:TG}:tAsg te g D σ H=te σ H fun x H1=>g x σ H1 D.nx:=propext Iff.rfl
theorem gName_ap{i:Nat}{R:St→Hp→Prop}:gName i v σ H R=R (σ.set i (some v)) H:=propext Iff.rfl
theorem gSub_ap{to ti:TE}{ts:TSet}{R:St→Hp→Prop}:gSub to ti ts v σ H R=to σ H fun o H1=>ti σ H1 fun i H2=>ts o i v H2 fun H3=>R σ H3:=propext Iff.rfl
theorem tPar_ap{i j:Nat}:tPar i j tr D σ H=tr σ H fun vs H1=>∃ v w,vs=[v,w]∧D.nx ((σ.set i (some v)).set j (some w)) H1:=propext Iff.rfl
theorem tAugS_ap{to ti:TE}{tg:V→V→Hp→VK→Prop}{tp:TIp}{ts:TSet}:tAugS to ti te tg tp ts D σ H=to σ H fun o H1=>ti σ H1 fun i H2=>tg o i H2 fun x H3=>te σ H3 fun y H4=>tp x y H4 fun z H5=>ts o i z H5 fun H6=>D.nx σ H6:=propext Iff.rfl
theorem tVar_ap{i:Nat}:tVar i σ H Q=∃ v,σ[i]?=some (some v)∧Q v H:=propext Iff.rfl
theorem tC_ap:tC v σ H Q=Q v H:=propext Iff.rfl
theorem tB_ap:tB te σ H QT=te σ H fun x H1=>∃ c,x=.bl c∧QT c H1:=propext Iff.rfl
theorem tTest_ap:tTest te σ H QT=te σ H fun x H1=>∃ c,x=.bl c∧QT c H1:=propext Iff.rfl
theorem tOp_ap{r:R2}:tOp r ta tb σ H Q=ta σ H fun x H1=>tb σ H1 fun y H2=>r x y H2 Q:=propext Iff.rfl
theorem tUn_ap{r:V→Hp→VK→Prop}:tUn r ta σ H Q=ta σ H fun x H1=>r x H1 Q:=propext Iff.rfl
theorem tCB_ap{r:List V→Hp→VK→Prop}:tCB r tr σ H Q=tr σ H fun vs H1=>r vs H1 Q:=propext Iff.rfl
theorem tNil_ap:tNil σ H QA=QA [] H:=propext Iff.rfl
theorem tCons_ap:tCons ta tr σ H QA=ta σ H fun x H1=>tr σ H1 fun xs H2=>QA (x::xs) H2:=propext Iff.rfl
theorem tTup_ap:tTup tr σ H Q=tr σ H fun xs H1=>xs.length≤sizeLine∧∀ p,H1 p=none→Q (.ref p) (upd H1 p (.tup xs)):=propext Iff.rfl
theorem tLst_ap:tLst tr σ H Q=tr σ H fun xs H1=>xs.length≤sizeLine∧∀ p,H1 p=none→Q (.ref p) (upd H1 p (.lst xs)):=propext Iff.rfl
theorem tAnd_ap:tAnd c c' σ H QT=c σ H fun b H1=>Brk b (c' σ H1 QT) (QT false H1) .mk .mk:=propext Iff.rfl
theorem tOr_ap:tOr c c' σ H QT=c σ H fun b H1=>Brk b (QT true H1) (c' σ H1 QT) .mk .mk:=propext Iff.rfl
theorem tNot_ap:tNot c σ H QT=c σ H fun b H1=>QT (!b) H1:=propext Iff.rfl
theorem tAndV_ap:tAndV ta tb σ H Q=ta σ H fun x H1=>∃ c,x=.bl c∧Brk c (tb σ H1 Q) (Q (.bl false) H1) .mk .mk:=propext Iff.rfl
theorem tOrV_ap:tOrV ta tb σ H Q=ta σ H fun x H1=>∃ c,x=.bl c∧Brk c (Q (.bl true) H1) (tb σ H1 Q) .mk .mk:=propext Iff.rfl
theorem tNotV_ap:tNotV ta σ H Q=ta σ H fun x H1=>∃ c,x=.bl c∧Q (.bl (!c)) H1:=propext Iff.rfl
theorem tIf_ap:tIf c ta tb σ H Q=c σ H fun b H1=>Brk b (ta σ H1 Q) (tb σ H1 Q) .mk .mk:=propext Iff.rfl
theorem tD_ap{sp:Sp}{E:XK}:tD sp E tr σ H Q=tr σ H fun vs H1=>sp vs H1 (Hold Q .mk) E:=propext Iff.rfl
theorem tCallX_ap{sp:Sp}{EX:XEx}:tCallX sp EX tr σ H Q=tr σ H fun vs H1=>sp vs H1 (Hold Q .mk) fun cls _ H2=>EX cls σ H2:=propext Iff.rfl
theorem tTry_ap{C:Addr}{tb':XEx→TS}{th:TS}:tTry C tb' th D σ H=tb' (fun cls σ' H'=>cls=.ref C∧th D σ' H') D σ H:=propext Iff.rfl
theorem tRaise_ap{C:Addr}{E:XK}:tRaise C E tr D σ H=tr σ H fun vs H1=>vs.length≤sizeLine∧E (.ref C) none H1:=propext Iff.rfl
theorem tIsN_ap:tIsN ta σ H Q=ta σ H fun x H1=>Q (.bl (decide (x=.non))) H1:=propext Iff.rfl
theorem tNotN_ap:tNotN ta σ H Q=ta σ H fun x H1=>Q (.bl (!decide (x=.non))) H1:=propext Iff.rfl
theorem rI_ap{C:Int→Int→Prop}{g:Int→Int→V}:rI C g x y H Q=∃ i j,x=.int i∧y=.int j∧C i j∧Q (g i j) H:=propext Iff.rfl
theorem rI0_ap{g:Int→Int→V}:rI0 g x y H Q=∃ i j,x=.int i∧y=.int j∧Q (g i j) H:=propext Iff.rfl
theorem rU_ap{g:Int→V}:rU g x H Q=∃ i,x=.int i∧Q (g i) H:=propext Iff.rfl
theorem rEq_ap:rEq x y H Q=(scal x y=true∧Q (.bl (decide (x=y))) H):=propext Iff.rfl
theorem rNe_ap:rNe x y H Q=(scal x y=true∧Q (.bl (!decide (x=y))) H):=propext Iff.rfl
theorem ipI_ap{f:Int→Int→Int}:ipI f x y H Q=∃ i j,x=.int i∧y=.int j∧Q (.int (f i j)) H:=propext Iff.rfl
theorem rIxF_ap:rIxF x y H Q=∃ p xs i v,x=.ref p∧y=.int i∧seqAt H p=some xs∧atI xs i=some v∧Q v H:=propext Iff.rfl
theorem rLenF_ap:rLenF xs H Q=∃ p ys,xs=[.ref p]∧seqAt H p=some ys∧Q (.int ys.length) H:=propext Iff.rfl
theorem rGetF_ap:rGetF x y H Q=∃ p xs i v,x=.ref p∧y=.int i∧H p=some (.lst xs)∧0≤i∧atI xs i=some v∧Q v H:=propext Iff.rfl
theorem rSetL_ap{R:Hp→Prop}:rSetL x y v H R=∃ p xs k j,x=.ref p∧y=.int k∧H p=some (.lst xs)∧ixN xs.length k=some j∧R (upd H p (.lst (xs.set j v))):=propext Iff.rfl
theorem rIsi_ap:rIsi xs H Q=∃ x n t,xs=[x,.ty n]∧n∈["bool", "int", "str", "list", "tuple", "dict"]∧tyNm x H=some t∧Q (.bl (isiB t n)) H:=propext Iff.rfl
theorem rListF_ap:rListF xs H Q=∃ p ys,xs=[.ref p]∧seqAt H p=some ys∧∀ l,H l=none→Q (.ref l) (upd H l (.lst ys)):=propext Iff.rfl
theorem rTupF_ap:rTupF xs H Q=∃ p ys,xs=[.ref p]∧H p=some (.lst ys)∧∀ l,H l=none→Q (.ref l) (upd H l (.tup ys)):=propext Iff.rfl
end
theorem seqAt_lst{H:Hp}{p:Addr}{xs:List V}(h:H p=some (.lst xs)):seqAt H p=some xs:=by unfold seqAt;rw[h]
theorem seqAt_tup{H:Hp}{p:Addr}{xs:List V}(h:H p=some (.tup xs)):seqAt H p=some xs:=by unfold seqAt;rw[h]
end L2
namespace L2
open PySem PySem.Spec PyProof.Rows
structure QE(X:Cx)(e:Expr)(t:TE):Prop where
 p:PE X e t
structure QT(X:Cx)(e:Expr)(t:TT):Prop where
 p:PT X e t
structure QW(X:Cx)(e:Expr)(t:TT):Prop where
 p:PW X e t
structure QA(X:Cx)(e:List Expr)(t:TA):Prop where
 p:PA X e t
structure QS(X:Cx)(e:Stmt)(t:TS):Prop where
 p:PS X e t
structure QB(X:Cx)(e:List Stmt)(t:TS):Prop where
 p:PSs X e t
structure QI(X:Cx)(tg e:Expr)(t:TI):Prop where
 p:PI X tg e t
structure QG(X:Cx)(e:Expr)(t:TG):Prop where
 p:PG X e t
structure QGs(X:Cx)(e:List Expr)(t:TGs):Prop where
 p:PGs X e t
structure QF(X:Cx)(e:List Expr)(t:TT):Prop where
 p:PFs X e t
structure QO(X:Cx)(e:Option Expr)(t:TO):Prop where
 p:PO X e t
section
variable {X:Cx}{a b c e o:Expr}{es rest:List Expr}{ta tb tc te:TE}{t tr:TA}{tA tB':TT}{pos p:Pos}{x:Str}{st:Stmt}{sts:List Stmt}{ts us:TS}
theorem qv(i:Nat)(hN:X.N[i]?=some x:=by rfl)(hv:Vis X.env.scope x:=by first | exact Or.inl rfl | exact Or.inr (Or.inl rfl) | exact Or.inr (Or.inr rfl))(hd:(x == ("__debug__" : Str))=false:=by decide)
  (hcd:(x == ("__classdict__" : Str))=false:=by decide):QE X (.Name x pos) (tVar i):=⟨pe_var hN hv hd hcd⟩
theorem qe_int{i j}:QE X (.Constant (.int i) j pos) (tC (.int i)):=⟨pe_int⟩
theorem qe_bl{i j}:QE X (.Constant (.bool i) j pos) (tC (.bl i)):=⟨pe_bl⟩
theorem qe_non{j}:QE X (.Constant .none j pos) (tC .non):=⟨pe_non⟩
theorem qe_str{i j}:QE X (.Constant (.str i) j pos) (tC (.str i)):=⟨pe_str⟩
theorem qe_bltn{v:V}{u:Value}(hg:Gl X x)(hm:X.mg x=none)(hv:bootBuiltins x=some u)(r:RelV v u)(hn:x ≠ "__name__" := by decide)(hd:(x == ("__debug__" : Str))=false:=by decide):QE X (.Name x pos) (tC v):=⟨pe_bltn hg hm hv r hn hd⟩
theorem qe_op{op:Operator}{r:R2}(ho:OpR X (binaryOp op) r)(ha:QE X a ta)(hb:QE X b tb):QE X (.BinOp a op b pos) (tOp r ta tb):=⟨pe_op ho ha.p hb.p⟩
theorem qe_un{op:UnaryOp}{r:V→Hp→VK→Prop}(ho:UnR X (unaryOp op) r)(ha:QE X a ta):QE X (.UnaryOp op a pos) (tUn r ta):=⟨pe_un ho ha.p⟩
theorem qe_not(ha:QE X a ta):QE X (.UnaryOp .Not a pos) (tNotV ta):=⟨pe_not ha.p⟩
theorem qe_one{op}(h:QE X a ta):QE X (.BoolOp op [a] pos) ta:=⟨pe_one h.p⟩
theorem qe_and(ha:QE X a ta)(hb:QE X (.BoolOp .And (b::rest) pos) tb):QE X (.BoolOp .And (a::b::rest) pos) (tAndV ta tb):=⟨pe_and ha.p hb.p⟩
theorem qe_isN{j pos'}(ha:QE X a ta):QE X (.Compare a [.Is] [.Constant .none j pos'] pos) (tIsN ta):=⟨pe_cmp (pc_isN ha.p)⟩
theorem qt_isN{j pos'}(ha:QE X a ta):QT X (.Compare a [.Is] [.Constant .none j pos'] pos) (tB (tIsN ta)):=⟨pt_cmp (pc_isN ha.p)⟩
theorem qt_notN{j pos'}(ha:QE X a ta):QT X (.Compare a [.IsNot] [.Constant .none j pos'] pos) (tB (tNotN ta)):=⟨pt_cmp (pc_notN ha.p)⟩
theorem qe_cmpR{op:CmpOp}{r:R2}(ho:OpR X (compareOp op) r)(ha:QE X a ta)(hb:QE X b tb)(hm:behindInMarks op b=false):QE X (.Compare a [op] [b] pos) (tOp r ta tb):=⟨pe_cmpR ho ha.p hb.p hm⟩
theorem qe_tup{x1}(h:QA X es t):QE X (.Tuple es x1 pos) (tTup t):=⟨pe_tup h.p⟩
theorem qe_lst(h:QA X es t):QE X (.List es pos) (tLst t):=⟨pe_lst h.p⟩
theorem qe_slice{r:V→Option Int→Option Int→Hp→VK→Prop}{lo hi:Option Expr}{tl th:TO}{p2:Pos}(hr:SlR X r)(he:QE X e te)(hl:QO X lo tl)(hu:QO X hi th):QE X (.Subscript e (.Slice lo hi none p2) pos) (tSl r te tl th):=⟨pe_slice hr he.p hl.p hu.p⟩
theorem qe_ix{r:R2}(hr:IxR X r)(ha:QE X a ta)(hb:QE X b tb)(hs:PlainIx b):QE X (.Subscript a b pos) (tOp r ta tb):=⟨pe_ix hr ha.p hb.p hs⟩
theorem qe_callB{id:String}{r:List V→Hp→VK→Prop}(hc:CallR X (.builtin id) r)(hg:Gl X x)(hm:X.mg x=none)(hv:bootBuiltins x=some (.builtin id))(ha:QA X (e::es) t)(hn:x ≠ "__name__" := by decide)(hdb:(x == ("__debug__" : Str))=false:=by decide)
  (he:starEach (e::es) X.env=(false,eval e X.env)::starEach es X.env:=by rfl) (hpl:(backTo pos (starEach es X.env)).any (·.1)=false:=by rfl):QE X (.Call (.Name x p) (e::es) [] pos) (tCB r t):=⟨pe_callB hc hg hm hv ha.p hn hdb he hpl⟩
theorem qe_callTy{T:String}{r:List V→Hp→VK→Prop}(hc:CallR X (.type T) r)(hg:Gl X x)(hm:X.mg x=none)(hv:bootBuiltins x=some (.type T))(ha:QA X (e::es) t)(hn:x ≠ "__name__" := by decide)(hdb:(x == ("__debug__" : Str))=false:=by decide)
  (he:starEach (e::es) X.env=(false,eval e X.env)::starEach es X.env:=by rfl) (hpl:(backTo pos (starEach es X.env)).any (·.1)=false:=by rfl):QE X (.Call (.Name x p) (e::es) [] pos) (tCB r t):=⟨pe_callTy hc hg hm hv ha.p hn hdb he hpl⟩
theorem qe_d{CX:CXT}{k:Nat}{ps:List Str}{sp:Sp}{E:XK}(d:DefOk X.prog X.w X.K X.mg X.base CX k x ps sp)(hr:Room k X.A)(hx:Passes CX X E)(hg:Gl X x)(ha:QA X (e::es) t)
  (hdb:(x == ("__debug__" : Str))=false:=by decide) (he:starEach (e::es) X.env=(false,eval e X.env)::starEach es X.env:=by rfl) (hpl:(backTo pos (starEach es X.env)).any (·.1)=false:=by rfl) :
  QE X (.Call (.Name x p) (e::es) [] pos) (tD sp E t):=⟨pe_d d hr hx hg ha.p hdb he hpl⟩
theorem qt_cmpR{op:CmpOp}{r:R2}(ho:OpR X (compareOp op) r)(ha:QE X a ta)(hb:QE X b tb)(hm:behindInMarks op b=false):QT X (.Compare a [op] [b] pos) (tTest (tOp r ta tb)):=⟨pt_cmpR ho ha.p hb.p hm⟩
theorem qt_chain{op op':CmpOp}{r r':R2}(ho:OpR X (compareOp op) r)(ho':OpR X (compareOp op') r')(ha:QE X a ta)(hb:QE X b tb)(hc:QE X c tc)(hm:lastMarks [op,op'] [b,c]=false:=by with_unfolding_all rfl) :
  QT X (.Compare a [op,op'] [b,c] pos) (tTest (tChain r r' ta tb tc)):=⟨pt_chain ho ho' ha.p hb.p hc.p hm⟩
theorem qt_not(ha:QT X a tA):QT X (.UnaryOp .Not a pos) (tNot tA):=⟨pt_not ha.p⟩
theorem qw_and(ha:QT X a tA)(hb:QW X (.BoolOp .And (b::rest) pos) tB'):QW X (.BoolOp .And (a::b::rest) pos) (tAnd tA tB'):=⟨pw_and ha.p hb.p⟩
theorem qw_and1(ha:QT X a tA):QW X (.BoolOp .And [a] pos) tA:=⟨pw_and1 ha.p⟩
theorem qw_or(ha:QT X a tA)(hb:QW X (.BoolOp .Or (b::rest) pos) tB'):QW X (.BoolOp .Or (a::b::rest) pos) (tOr tA tB'):=⟨pw_or ha.p hb.p⟩
theorem qw_or1(ha:QT X a tA):QW X (.BoolOp .Or [a] pos) tA:=⟨pw_or1 ha.p⟩
theorem QW.pt(h:QW X e tA):QT X e tA:=⟨h.p.pt⟩
theorem qt_val(h:QE X e te)(he:∀ whole,isTrue e X.env whole=(do let v ← whole;standAt e.pos;holding [v] (truthy v)):=by intro _;rfl):QT X e (tB te):=⟨pt_val h.p he⟩
theorem qa_nil:QA X [] tNil:=⟨pa_nil⟩
theorem qa_cons(ha:QE X e te)(hr:QA X es t)(hs:starEach (e::es) X.env=(false,eval e X.env)::starEach es X.env:=by rfl):QA X (e::es) (tCons te t):=⟨pa_cons ha.p hr.p hs⟩
theorem qi_list{tg:Expr}(hl:QE X e te):QI X tg e (iList X.K te):=⟨pi_list hl.p⟩
theorem qi_tup{tg:Expr}(hl:QE X e te):QI X tg e (iTup X.K te):=⟨pi_tup hl.p⟩
theorem qi_range1{tg:Expr}(hg:Gl X "range")(hm:X.mg "range" = none)(ha:QA X [a] t)(hs:starEach [a] X.env=[(false,eval a X.env)]:=by rfl):QI X tg (.Call (.Name "range" p) [a] [] pos) (iRng1 t):=⟨pi_range1 hg hm ha.p hs⟩
theorem qg_name{i:Nat}(hN:X.N.Nodup)(hi:X.N[i]?=some x)(hx:Loc X.env.scope x)(hf:X.fn x=true∨X.env.scope.names.lookup x=some .local:=by first | exact .inl rfl | exact .inr rfl | assumption):QG X (.Name x pos) (gName i):=⟨pg_name hN hi hx hf⟩
theorem qg_tup{k:Nat}{tg:TGs}{n:Nat}(hc:X.calm=true)(h:QGs X es tg)(hn:(assignEach es X.env).length=n:=by rfl)(hst:(assignEach es X.env).findIdx? (·.1)=none:=by rfl):QG X (.Tuple es k pos) (gTup X.K n tg):=⟨pg_tup hc h.p hn hst⟩
theorem qg_sub{i:Expr}{ti:TE}{tset:TSet}(ho:QE X o ta)(hi:QE X i ti)(hs:PSet X tset)
  (ha:∀ v,assign (.Subscript o i pos) X.env v=(do
   let ov ← holding [v] (eval o X.env)
   let iv ← holding [v,ov] (eval i X.env)
   standAt pos
   holding [v,ov,iv] (setItem ov iv v)
   release [v,ov,iv] []):=by intro _;rfl):QG X (.Subscript o i pos) (gSub ta ti tset):=⟨pg_sub ho.p hi.p hs ha⟩
theorem qgs_nil:QGs X [] gNil:=⟨pgs_nil⟩
theorem qgs_cons{tg:TG}{tgs:TGs}(h1:QG X e tg)(h2:QGs X es tgs)(hs:(assignEach (e::es) X.env).map (·.2)=assign e X.env::(assignEach es X.env).map (·.2):=by rfl):QGs X (e::es) (gCons tg tgs):=⟨pgs_cons h1.p h2.p hs⟩
theorem qss_nil:QB X [] tNext:=⟨pss_nil⟩
theorem qss_cons(h1:QS X st ts)(h2:QB X sts us):QB X (st::sts) (tSeq ts us):=⟨pss_cons h1.p h2.p⟩
theorem qss_one(h1:QS X st ts):QB X [st] ts:=⟨pss_one h1.p⟩
theorem qs_set{i:Nat}{pos':Pos}(hN:X.N.Nodup)(hi:X.N[i]?=some x)(hx:Loc X.env.scope x)(he:QE X e te)(hs:swapsWith e (some (.Name x pos')) pos.line X.env=pure false:=by rfl)(hf:X.fn x=true∨X.env.scope.names.lookup x=some .local:=by first | exact .inl rfl | exact .inr rfl | assumption) :
  QS X (.Assign [.Name x pos'] e pos) (tAsg te (gName i)):=⟨ps_set hN hi hx he.p hs hf⟩
theorem qs_asg{tg:Expr}{g:TG}(he:QE X e te)(hg:QG X tg g)(hs:swapsWithSole [tg] e pos.line X.env=pure false:=by rfl)(hw:swappedStores [tg] e X.env=pure none:=by rfl)(h1:List.map (fun x=>x.snd) (assignEach [tg] X.env)=[assign tg X.env]:=by rfl):QS X (.Assign [tg] e pos) (tAsg te g):=⟨ps_asg he.p hg.p hs hw h1⟩
theorem qs_augS{i:Expr}{ti:TE}{tget:V→V→Hp→VK→Prop}{tip:TIp}{tset:TSet}{op:Operator}{tpos:Pos}(ho:QE X o ta)(hi:QE X i ti)(hg:PGet X tget)(he:QE X e te)(hp:PIp X op tip)(hs:PSet X tset)
  (ha:∀ ov iv new,augStore i ov iv new=(do holding [new,ov,iv] (setItem ov iv new);release [new,ov,iv] [];pure .next):=by intros;rfl):QS X (.AugAssign (.Subscript o i tpos) op e pos) (tAugS ta ti te tget tip tset):=⟨ps_augS ho.p hi.p hg he.p hp hs ha⟩
theorem qs_ret(he:QE X e te):QS X (.Return (some e) pos) (tRet te):=⟨ps_ret he.p⟩
theorem qs_if{ss:List Stmt}(hc:QT X c tA)(ha:QB X sts ts)(hb:QB X ss us):QS X (.If c sts ss pos) (tIfS tA ts us):=⟨ps_if hc.p ha.p hb.p⟩
theorem qs_for{tg iter:Expr}{wi:TI}{g:TG}(hp:PassesOwn (model X.prog X.w) X.A X.env X.xe)(hc:X.calm=true)(hi:QI X tg iter wi)(hg:QG X tg g)(hb:QB X sts ts)
  (hs:∀ x,foldedSetIterable iter X.env x=pure x:=by intro _;rfl):QS X (.For tg iter sts [] pos) (tFor wi g ts):=⟨ps_for hp hc hi.p hg.p hb.p hs⟩
theorem qs_expr(he:QE X e te)(hs:swapsWith e none pos.line X.env=pure false:=by rfl):QS X (.Expr e pos) (tDrop te):=⟨ps_expr he.p hs⟩
theorem qo_none:QO X none tNoPart:=⟨po_none⟩
theorem qo_some(h:QE X e te):QO X (some e) (tPart te):=⟨po_some h.p⟩
end
section
variable {X:Cx}{elt iter tg c:Expr}{ifs:List Expr}{scope:Scope}{pos spos py:Pos}{wi:TI}{g:TG}{tt:TT}{te:TE}
theorem qf_nil:QF X [] tYes:=⟨pf_nil⟩
theorem qe_comp(own:List Str)(fr:List (Str×Nat))(hc:X.calm=true)(hi:QI X tg iter wi)
  (hgx:GExt g own.length) (hB:∀ cl C fp s2 H2,QG (X.comp (own++fr.map (·.1)) scope cl C fp s2 H2) tg g∧QF (X.comp (own++fr.map (·.1)) scope cl C fp s2 H2) ifs tt∧QE (X.comp (own++fr.map (·.1)) scope cl C fp s2 H2) elt te)
  (hkind:scope.kind=.function) (hcell:∀ y∈scope.names,y.2≠.cell) (hnames:∀ y∈scope.names,y.2=.local→scope.names.lookup y.1=some .local)
  (hfree:∀ y∈scope.names,y.2=.free→X.env.kindOf y.1=some .cell∨X.env.kindOf y.1=some .free)
  (hfr:∀ p∈fr,X.N[p.2]?=some p.1∧(X.env.kindOf p.1=some .cell∨X.env.kindOf p.1=some .free)∧(p.1,NameKind.free)∈scope.names∧((relabel scope X.env).names.lookup p.1=some .cell∨(relabel scope X.env).names.lookup p.1=some .free))
  (hs:∀ x,foldedSetIterable iter X.env x=pure x:=by intro _;rfl):QE X (.ListComp elt [⟨tg,iter,ifs,0⟩] scope pos) (tComp own.length (fr.map (·.2)) wi g tt te) :=
 ⟨pe_comp own fr hc hi.p hgx (fun cl C fp s2 H2=>⟨(hB cl C fp s2 H2).1.p,(hB cl C fp s2 H2).2.1.p,(hB cl C fp s2 H2).2.2.p⟩) hkind hcell hnames hfree hfr hs⟩
theorem tChain_ap{r r':R2}{ta tb tc:TE}{σ:St}{H:Hp}{Q:VK}:tChain r r' ta tb tc σ H Q=ta σ H fun x H1=>tb σ H1 fun y H2=>r x y H2 fun z H3=>∃ k,z=.bl k∧Brk k (tc σ H3 fun w' H4=>r' y w' H4 Q) (Q (.bl false) H3) .mk .mk:=propext Iff.rfl
end
theorem free_of{names:List (Str×NameKind)}{k:Str→Option NameKind}(h:names.all (fun y=>!decide (y.2=.free) || (decide (k y.1=some .cell) || decide (k y.1=some .free)))=true):∀ y∈names,y.2=.free→k y.1=some .cell∨k y.1=some .free:=fun y hy hf=>by
 have:=List.all_eq_true.mp h y hy
 simpa [hf] using this
theorem fr_of{N:List Str}{names rel:List (Str×NameKind)}{k:Str→Option NameKind}{fr:List (Str×Nat)}
  (h:fr.all (fun p=>decide (N[p.2]?=some p.1) && (decide (k p.1=some .cell) || decide (k p.1=some .free)) && decide ((p.1,NameKind.free)∈names) && (decide (rel.lookup p.1=some .cell) || decide (rel.lookup p.1=some .free)))=true) :
  ∀ p∈fr,N[p.2]?=some p.1∧(k p.1=some .cell∨k p.1=some .free)∧(p.1,NameKind.free)∈names∧(rel.lookup p.1=some .cell∨rel.lookup p.1=some .free):=fun p hp=>by
 have:=List.all_eq_true.mp h p hp
 simp only[Bool.and_eq_true,Bool.or_eq_true,decide_eq_true_eq] at this
 exact⟨this.1.1.1,this.1.1.2,this.1.2,this.2⟩
theorem DefAt.q{P:Program}{w:World}{K:PySem.W.Frag}{mg:Str→Option Value}{base:Heap}{x:Str}{st:Stmt}{f:Addr}{fd:FuncData}{N ps:List Str}{k:Nat}{sp:Sp}(D:DefAt K mg x st f fd)(S:FnScope N ps (defScope st))(len:∀ vs H Q E,sp vs H Q E→vs.length=ps.length)
  (hbody:∀(cdv:Value)(A:Around)(outer:List Env)(s:Shared)(H:Hp)(vs:List V)(Q:VK)(E:XK),Room k (A.deeper (envOfC x (defScope st) s.heap.objs.size f cdv))→sp vs H Q E →
   ∃ t,QB (cxOf CX0 P w K mg base N x (defScope st) f cdv A outer s H E).nox (defBody st) t∧t { nx:=fun _ H'=>Q .non H',rt:=Q } (start N vs) H):FnOk P w K mg base CX0 (k+1) f fd ps sp :=
 D.fn.ok S len fun cdv A outer s H vs Q E hr h=>by
  obtain⟨t,h1,h2⟩:=hbody cdv A outer s H vs Q E hr h
  exact⟨t,h1.p,h2⟩
end L2
namespace L2
open PySem PySem.Spec PyProof.Rows
inductive Dt where
 | non | bl (b:Bool) | int (i:Int) | str (x:Str) | tup (l:List Dt) | lst (l:List Dt)
mutual
def Den(H:Hp):Dt→V→Prop
 | .non,x=>x=.non
 | .bl b,x=>x=.bl b
 | .int i,x=>x=.int i
 | .str z,x=>x=.str z
 | .tup ds,x=>∃ a xs,x=.ref a∧H a=some (.tup xs)∧Dens H ds xs
 | .lst ds,x=>∃ a xs,x=.ref a∧H a=some (.lst xs)∧Dens H ds xs
def Dens(H:Hp):List Dt→List V→Prop
 | [],xs=>xs=[]
 | d::ds,xs=>∃ y ys,xs=y::ys∧Den H d y∧Dens H ds ys
end
theorem Dens.length{H:Hp}:∀{ds:List Dt}{xs:List V},Dens H ds xs→ds.length=xs.length
 | [],xs,h=>by
  unfold Dens at h
  rw[h]
  rfl
 | d::ds,xs,h=>by
  unfold Dens at h
  obtain⟨y,ys,rfl,_,h2⟩:=h
  rw[List.length_cons,List.length_cons,Dens.length h2]
theorem Dens.get{H:Hp}:∀{ds:List Dt}{xs:List V}{j:Nat}{d:Dt},Dens H ds xs→ds[j]?=some d→∃ y,xs[j]?=some y∧Den H d y
 | [],xs,j,d,h,e=>by simp at e
 | c::ds,xs,0,d,h,e=>by
  unfold Dens at h
  obtain⟨y,ys,rfl,h1,h2⟩:=h
  cases e
  exact⟨y,rfl,h1⟩
 | c::ds,xs,j+1,d,h,e=>by
  unfold Dens at h
  obtain⟨y,ys,rfl,h1,h2⟩:=h
  obtain⟨y',g,n⟩:=Dens.get (j:=j) h2 (by simpa using e)
  exact⟨y',by simpa using g,n⟩
mutual
theorem Den.same{H H':Hp}(s:∀ b o,H b=some o→H' b=some o):∀{d:Dt}{x:V},Den H d x→Den H' d x
 | .non,x,h=>by unfold Den at h ⊢;exact h
 | .bl b,x,h=>by unfold Den at h ⊢;exact h
 | .int i,x,h=>by unfold Den at h ⊢;exact h
 | .str z,x,h=>by unfold Den at h ⊢;exact h
 | .tup ds,x,h=>by
  unfold Den at h ⊢
  obtain⟨a,xs,e,h1,h2⟩:=h
  exact⟨a,xs,e,s _ _ h1,Dens.same s h2⟩
 | .lst ds,x,h=>by
  unfold Den at h ⊢
  obtain⟨a,xs,e,h1,h2⟩:=h
  exact⟨a,xs,e,s _ _ h1,Dens.same s h2⟩
theorem Dens.same{H H':Hp}(s:∀ b o,H b=some o→H' b=some o):∀{ds:List Dt}{xs:List V},Dens H ds xs→Dens H' ds xs
 | [],xs,h=>by unfold Dens at h ⊢;exact h
 | d::ds,xs,h=>by
  unfold Dens at h ⊢
  obtain⟨y,ys,e,h1,h2⟩:=h
  exact⟨y,ys,e,Den.same s h1,Dens.same s h2⟩
end
mutual
theorem Den.inj{H:Hp}:∀{d e:Dt}{x:V},Den H d x→Den H e x→d=e
 | d,e,x,h1,h2=>by
  cases d with
  | tup ds =>
   unfold Den at h1
   obtain⟨a,xs,rfl,g1,g2⟩:=h1
   cases e<;>unfold Den at h2
   case tup es =>
    obtain⟨b,ys,eb,k1,k2⟩:=h2
    cases eb
    rw[g1] at k1
    cases k1
    rw[Dens.inj g2 k2]
   case lst es =>
    obtain⟨b,ys,eb,k1,k2⟩:=h2
    cases eb
    rw[g1] at k1
    cases k1
   all_goals cases h2
  | lst ds =>
   unfold Den at h1
   obtain⟨a,xs,rfl,g1,g2⟩:=h1
   cases e<;>unfold Den at h2
   case lst es =>
    obtain⟨b,ys,eb,k1,k2⟩:=h2
    cases eb
    rw[g1] at k1
    cases k1
    rw[Dens.inj g2 k2]
   case tup es =>
    obtain⟨b,ys,eb,k1,k2⟩:=h2
    cases eb
    rw[g1] at k1
    cases k1
   all_goals cases h2
  | non=>unfold Den at h1;subst h1;cases e<;>unfold Den at h2<;>first | (obtain⟨_,_,z,_⟩:=h2;cases z;done) | (cases h2;rfl) | (cases h2;done) | rfl
  | bl b=>unfold Den at h1;subst h1;cases e<;>unfold Den at h2<;>first | (obtain⟨_,_,z,_⟩:=h2;cases z;done) | (cases h2;rfl) | (cases h2;done) | rfl
  | int b=>unfold Den at h1;subst h1;cases e<;>unfold Den at h2<;>first | (obtain⟨_,_,z,_⟩:=h2;cases z;done) | (cases h2;rfl) | (cases h2;done) | rfl
  | str b=>unfold Den at h1;subst h1;cases e<;>unfold Den at h2<;>first | (obtain⟨_,_,z,_⟩:=h2;cases z;done) | (cases h2;rfl) | (cases h2;done) | rfl
theorem Dens.inj{H:Hp}:∀{ds es:List Dt}{xs:List V},Dens H ds xs→Dens H es xs→ds=es
 | [],[],_,_,_=>rfl
 | [],e::es,xs,h1,h2=>by
  unfold Dens at h1 h2
  obtain⟨_,_,z,_⟩:=h2
  rw[h1] at z
  cases z
 | d::ds,[],xs,h1,h2=>by
  unfold Dens at h1 h2
  obtain⟨_,_,z,_⟩:=h1
  rw[h2] at z
  cases z
 | d::ds,e::es,xs,h1,h2=>by
  unfold Dens at h1 h2
  obtain⟨y,ys,rfl,a1,a2⟩:=h1
  obtain⟨y',ys',ez,b1,b2⟩:=h2
  cases ez
  rw[Den.inj a1 b1,Dens.inj a2 b2]
end
def Cmp:Nat→Dt→Dt→Prop
 | _,.int _,.int _=>True
 | _,.bl _,.bl _=>True
 | _,.str _,.str _=>True
 | _,.non,.non=>True
 | _,.non,.tup _=>True
 | _,.tup _,.non=>True
 | k+1,.tup ds,.tup es=>∀(j:Nat) d e,ds[j]?=some d→es[j]?=some e→Cmp k d e
 | k+1,.lst ds,.lst es=>ds.length=es.length→∀(j:Nat) d e,ds[j]?=some d→es[j]?=some e→Cmp k d e
 | _,_,_=>False
section
open Classical
theorem all_range{ds es:List Dt}(n:Nat)(hn:n=min ds.length es.length):((List.range n).all (fun j=>decide (ds[j]?=es[j]?)) && decide (ds.length=es.length))=decide (ds=es):=by
 rw[Bool.eq_iff_iff]
 simp only[Bool.and_eq_true,List.all_eq_true,List.mem_range,decide_eq_true_eq]
 constructor
 ·rintro ⟨h1,h2⟩
  refine List.ext_getElem? fun i=>?_
  by_cases hi:i < n
  ·exact h1 i hi
  ·rw[List.getElem?_eq_none_iff.mpr (by omega),List.getElem?_eq_none_iff.mpr (by omega)]
 ·rintro rfl
  exact⟨fun _ _=>rfl,rfl⟩
theorem all_range2{ds es:List Dt}(hl:ds.length=es.length):((List.range ds.length).all (fun j=>decide (ds[j]?=es[j]?)))=decide (ds=es):=by
 have h:=all_range (ds:=ds) (es:=es) ds.length (by omega)
 rw[decide_eq_true hl,Bool.and_true] at h
 exact h
theorem dec_tup(ds es:List Dt):decide (Dt.tup ds=Dt.tup es)=decide (ds=es):=by
 rw[decide_eq_decide]
 exact⟨fun h=>Dt.tup.inj h,fun h=>by rw[h]⟩
theorem dec_lst(ds es:List Dt):decide (Dt.lst ds=Dt.lst es)=decide (ds=es):=by
 rw[decide_eq_decide]
 exact⟨fun h=>Dt.lst.inj h,fun h=>by rw[h]⟩
variable {X:Cx}{pins:List (Addr×Obj)}{σ:St}{H:Hp}{s:Shared}
theorem rc_seq(I:Inv X pins σ H s){k:Nat}(ih:∀ d e x y u v (A:Around),Den H d x→Den H e y→Cmp k d e→A.units+k+2 < cLine→RelV x u→RelV y v→SeqAt.EqAt A s u v (decide (d=e)))
  {ds es:List Dt} {a b:Addr} {A:Around} (hu:A.units+(k+1)+2 < cLine) :
  (∀ xs ys,H a=some (.tup xs)→H b=some (.tup ys)→Dens H ds xs→Dens H es ys→(∀(j:Nat) d e,ds[j]?=some d→es[j]?=some e→Cmp k d e)→SeqAt.RcAt A s (.ref a) (.ref b) (decide (Dt.tup ds=Dt.tup es))∧SeqAt.RcNeAt A s (.ref a) (.ref b) (!decide (Dt.tup ds=Dt.tup es))) ∧
  (∀ xs ys,H a=some (.lst xs)→H b=some (.lst ys)→Dens H ds xs→Dens H es ys→(ds.length=es.length→∀(j:Nat) d e,ds[j]?=some d→es[j]?=some e→Cmp k d e)→SeqAt.RcAt A s (.ref a) (.ref b) (decide (Dt.lst ds=Dt.lst es))∧SeqAt.RcNeAt A s (.ref a) (.ref b) (!decide (Dt.lst ds=Dt.lst es))):=by
 have hu':A.units < cLine:=by omega
 have el:∀(xs ys:List V)(i1 i2:List Value),Dens H ds xs→Dens H es ys→Vals xs i1→Vals ys i2→(∀(j:Nat) d e,ds[j]?=some d→es[j]?=some e→Cmp k d e) →
   ∀ j (h1:j < i1.toArray.size) (h2:j < i2.toArray.size),SeqAt.EqAt A.in1 s i1.toArray[j] i2.toArray[j] (decide (ds[j]?=es[j]?)):=fun xs ys i1 i2 d1 d2 v1 v2 hc j h1 h2=>by
  have l1:=v1.length
  have l2:=v2.length
  have l3:=d1.length
  have l4:=d2.length
  have k1:j < i1.length:=by simpa using h1
  have k2:j < i2.length:=by simpa using h2
  have m1:j < ds.length:=by omega
  have m2:j < es.length:=by omega
  have e1:ds[j]?=some ds[j]:=List.getElem?_eq_getElem m1
  have e2:es[j]?=some es[j]:=List.getElem?_eq_getElem m2
  obtain⟨y1,g1,n1⟩:=d1.get e1
  obtain⟨y2,g2,n2⟩:=d2.get e2
  obtain⟨u1,w1,r1⟩:=v1.get g1
  obtain⟨u2,w2,r2⟩:=v2.get g2
  have z1:i1.toArray[j]=u1:=by
   rw[List.getElem?_eq_getElem k1] at w1
   simpa using w1
  have z2:i2.toArray[j]=u2:=by
   rw[List.getElem?_eq_getElem k2] at w2
   simpa using w2
  have key:=ih _ _ _ _ _ _ A.in1 n1 n2 (hc j _ _ e1 e2) (by show A.units+1+k+2 < cLine;omega) r1 r2
  have ed:decide (ds[j]?=es[j]?)=decide (ds[j]=es[j]):=by
   rw[decide_eq_decide,e1,e2]
   exact⟨fun h=>Option.some.inj h,fun h=>by rw[h]⟩
  rw[z1,z2,ed]
  exact key
 refine⟨fun xs ys ha hb d1 d2 hc=>?_,fun xs ys ha hb d1 d2 hc=>?_⟩
 ·obtain⟨i1,v1,t1,_⟩:=I.tuple (SqT.of ha)
  obtain⟨i2,v2,t2,_⟩:=I.tuple (SqT.of hb)
  have l1:=v1.length
  have l2:=v2.length
  have l3:=d1.length
  have l4:=d2.length
  have e:=el xs ys i1 i2 d1 d2 v1 v2 hc
  have s1:i1.toArray.size=ds.length:=by rw[List.size_toArray];omega
  have s2:i2.toArray.size=es.length:=by rw[List.size_toArray];omega
  have b1:((List.range (min i1.toArray.size i2.toArray.size)).all (fun j=>decide (ds[j]?=es[j]?)) && i1.toArray.size == i2.toArray.size)=decide (Dt.tup ds=Dt.tup es):=by
   rw[s1,s2,dec_tup,← all_range (ds:=ds) (es:=es) _ rfl]
   congr 1
   all_goals (rw[Bool.eq_iff_iff];simp)
  rw[← b1]
  exact⟨SeqAt.RcAt.tuples t1 t2 hu' e,SeqAt.RcNeAt.tuples t1 t2 hu' e⟩
 ·obtain⟨i1,v1,t1,_⟩:=I.list (SqL.of ha)
  obtain⟨i2,v2,t2,_⟩:=I.list (SqL.of hb)
  have l1:=v1.length
  have l2:=v2.length
  have l3:=d1.length
  have l4:=d2.length
  have s1:i1.toArray.size=ds.length:=by rw[List.size_toArray];omega
  have s2:i2.toArray.size=es.length:=by rw[List.size_toArray];omega
  by_cases hl:ds.length=es.length
  ·have e:=el xs ys i1 i2 d1 d2 v1 v2 (hc hl)
   have b1:(List.range i1.toArray.size).all (fun j=>decide (ds[j]?=es[j]?))=decide (Dt.lst ds=Dt.lst es):=by
    rw[s1,dec_lst,← all_range2 hl]
   rw[← b1]
   exact⟨SeqAt.RcAt.lists t1.isList t2.isList (by omega) hu' e,SeqAt.RcNeAt.lists t1.isList t2.isList (by omega) hu' e⟩
  ·have b1:decide (Dt.lst ds=Dt.lst es)=false:=decide_eq_false fun h=>hl (by rw[Dt.lst.inj h])
   have nz:(i1.toArray.size != i2.toArray.size)=true:=by
    rw[s1,s2]
    simpa using hl
   rw[b1]
   exact⟨SeqAt.RcAt.lists_lengths t1.isList t2.isList nz hu',SeqAt.RcNeAt.lists_lengths t1.isList t2.isList nz hu'⟩
theorem dec_int'(a b:Int):decide (Dt.int a=Dt.int b)=(a == b):=by
 rw[Bool.eq_iff_iff]
 simp
theorem dec_bl'(a b:Bool):decide (Dt.bl a=Dt.bl b)=(a == b):=by
 rw[Bool.eq_iff_iff]
 simp
theorem dec_str'(a b:Str):decide (Dt.str a=Dt.str b)=(a == b):=by
 rw[Bool.eq_iff_iff]
 simp
theorem eq_den(I:Inv X pins σ H s):∀(k:Nat)(d e:Dt)(x y:V)(u v:Value)(A:Around),Den H d x→Den H e y→Cmp k d e→A.units+k+2 < cLine→RelV x u→RelV y v→SeqAt.EqAt A s u v (decide (d=e)):=by
 intro k
 induction k with
 | zero =>
  intro d e x y u v A h1 h2 hc hu r1 r2
  cases d<;>cases e<;>first | exact hc.elim | skip
  ·unfold Den at h1 h2;subst h1;subst h2;cases r1;cases r2
   rw[decide_eq_true rfl];exact SeqAt.EqAt.same _
  ·unfold Den at h1 h2;subst h1;cases r1
   obtain⟨a,xs,rfl,ha,_⟩:=h2;cases r2
   obtain⟨i1,_,t1,_⟩:=I.tuple (SqT.of ha)
   rw[decide_eq_false (by intro z;cases z)];exact SeqAt.EqAt.none_tuple t1 (by omega)
  ·unfold Den at h1 h2;subst h1;subst h2;cases r1;cases r2
   rw[dec_bl'];exact SeqAt.EqAt.bool_bool _ _
  ·unfold Den at h1 h2;subst h1;subst h2;obtain⟨t1,rfl⟩:=r1;obtain⟨t2,rfl⟩:=r2
   rw[dec_int'];exact SeqAt.EqAt.int_int _ _ _ _
  ·unfold Den at h1 h2;subst h1;subst h2;obtain⟨t1,rfl⟩:=r1;obtain⟨t2,rfl⟩:=r2
   rw[dec_str'];exact SeqAt.EqAt.str_str _ _ _ _
  ·unfold Den at h1 h2;subst h2;cases r2
   obtain⟨a,xs,rfl,ha,_⟩:=h1;cases r1
   obtain⟨i1,_,t1,_⟩:=I.tuple (SqT.of ha)
   rw[decide_eq_false (by intro z;cases z)];exact SeqAt.EqAt.tuple_none t1 (by omega)
 | succ k ih =>
  intro d e x y u v A h1 h2 hc hu r1 r2
  cases d<;>cases e<;>first | exact hc.elim | skip
  ·unfold Den at h1 h2;subst h1;subst h2;cases r1;cases r2
   rw[decide_eq_true rfl];exact SeqAt.EqAt.same _
  ·unfold Den at h1 h2;subst h1;cases r1
   obtain⟨a,xs,rfl,ha,_⟩:=h2;cases r2
   obtain⟨i1,_,t1,_⟩:=I.tuple (SqT.of ha)
   rw[decide_eq_false (by intro z;cases z)];exact SeqAt.EqAt.none_tuple t1 (by omega)
  ·unfold Den at h1 h2;subst h1;subst h2;cases r1;cases r2
   rw[dec_bl'];exact SeqAt.EqAt.bool_bool _ _
  ·unfold Den at h1 h2;subst h1;subst h2;obtain⟨t1,rfl⟩:=r1;obtain⟨t2,rfl⟩:=r2
   rw[dec_int'];exact SeqAt.EqAt.int_int _ _ _ _
  ·unfold Den at h1 h2;subst h1;subst h2;obtain⟨t1,rfl⟩:=r1;obtain⟨t2,rfl⟩:=r2
   rw[dec_str'];exact SeqAt.EqAt.str_str _ _ _ _
  ·unfold Den at h1 h2;subst h2;cases r2
   obtain⟨a,xs,rfl,ha,_⟩:=h1;cases r1
   obtain⟨i1,_,t1,_⟩:=I.tuple (SqT.of ha)
   rw[decide_eq_false (by intro z;cases z)];exact SeqAt.EqAt.tuple_none t1 (by omega)
  ·have g1:=h1
   have g2:=h2
   unfold Den at h1 h2
   obtain⟨a,xs,rfl,ha,da⟩:=h1
   obtain⟨b,ys,rfl,hb,db⟩:=h2
   cases r1;cases r2
   by_cases hab:a=b
   ·subst hab
    rw[decide_eq_true (g1.inj g2)]
    exact SeqAt.EqAt.same _
   ·exact SeqAt.EqAt.of_refs hab ((rc_seq I ih hu).1 xs ys ha hb da db hc).1
  ·have g1:=h1
   have g2:=h2
   unfold Den at h1 h2
   obtain⟨a,xs,rfl,ha,da⟩:=h1
   obtain⟨b,ys,rfl,hb,db⟩:=h2
   cases r1;cases r2
   by_cases hab:a=b
   ·subst hab
    rw[decide_eq_true (g1.inj g2)]
    exact SeqAt.EqAt.same _
   ·exact SeqAt.EqAt.of_refs hab ((rc_seq I ih hu).2 xs ys ha hb da db hc).1
def rEqD:R2:=fun x y H Q=>∃ d e,Den H d x∧Den H e y∧Cmp 8 d e∧Q (.bl (decide (d=e))) H
def rNeD:R2:=fun x y H Q=>∃ d e,Den H d x∧Den H e y∧Cmp 8 d e∧Q (.bl (!decide (d=e))) H
theorem rcs(I:Inv X pins σ H s){d e:Dt}{x y:V}{u v:Value}{A:Around}(h1:Den H d x)(h2:Den H e y)(hc:Cmp 8 d e)(hu:A.units+64 < cLine)(r1:RelV x u)(r2:RelV y v) :
  SeqAt.RcAt A s u v (decide (d=e))∧SeqAt.RcNeAt A s u v (!decide (d=e)):=by
 cases d<;>cases e<;>first | exact hc.elim | skip
 ·unfold Den at h1 h2;subst h1;subst h2;cases r1;cases r2
  rw[decide_eq_true rfl];exact⟨SeqAt.RcAt.none_none,SeqAt.RcNeAt.none_none⟩
 ·unfold Den at h1 h2;subst h1;cases r1
  obtain⟨a,xs,rfl,ha,_⟩:=h2;cases r2
  obtain⟨i1,_,t1,_⟩:=I.tuple (SqT.of ha)
  rw[decide_eq_false (by intro z;cases z)];exact⟨SeqAt.RcAt.none_tuple t1 (by omega),SeqAt.RcNeAt.none_tuple t1 (by omega)⟩
 ·unfold Den at h1 h2;subst h1;subst h2;cases r1;cases r2
  rw[dec_bl'];exact⟨SeqAt.RcAt.bool_bool _ _,SeqAt.RcNeAt.bool_bool _ _⟩
 ·unfold Den at h1 h2;subst h1;subst h2;obtain⟨t1,rfl⟩:=r1;obtain⟨t2,rfl⟩:=r2
  rw[dec_int'];exact⟨SeqAt.RcAt.int_int _ _ _ _,SeqAt.RcNeAt.int_int _ _ _ _⟩
 ·unfold Den at h1 h2;subst h1;subst h2;obtain⟨t1,rfl⟩:=r1;obtain⟨t2,rfl⟩:=r2
  rw[dec_str'];exact⟨SeqAt.RcAt.str_str _ _ _ _,SeqAt.RcNeAt.str_str _ _ _ _⟩
 ·unfold Den at h1 h2;subst h2;cases r2
  obtain⟨a,xs,rfl,ha,_⟩:=h1;cases r1
  obtain⟨i1,_,t1,_⟩:=I.tuple (SqT.of ha)
  rw[decide_eq_false (by intro z;cases z)];exact⟨SeqAt.RcAt.tuple_none t1 (by omega),SeqAt.RcNeAt.tuple_none t1 (by omega)⟩
 ·unfold Den at h1 h2
  obtain⟨a,xs,rfl,ha,da⟩:=h1
  obtain⟨b,ys,rfl,hb,db⟩:=h2
  cases r1;cases r2
  exact (rc_seq I (eq_den I 7) (by omega)).1 xs ys ha hb da db hc
 ·unfold Den at h1 h2
  obtain⟨a,xs,rfl,ha,da⟩:=h1
  obtain⟨b,ys,rfl,hb,db⟩:=h2
  cases r1;cases r2
  exact (rc_seq I (eq_den I 7) (by omega)).2 xs ys ha hb da db hc
theorem op_eqD(hu:X.A.units+64 < cLine):OpR X (compareOp .Eq) rEqD:=by
 intro pins s σ H x y v u Q I rx ry h
 obtain⟨d,e,h1,h2,hc,q⟩:=h
 exact (rcs I h1 h2 hc hu rx ry).1 _ _ _ _ ⟨.bl _,H,I,rfl,q⟩
end
section
variable {X:Cx}
def rEqP:R2:=fun x y H Q=>∃ p q a b c d,x=.ref p∧y=.ref q∧H p=some (.tup [.int a,.int b])∧H q=some (.tup [.int c,.int d])∧Q (.bl (decide (a=c∧b=d))) H
def rNeP:R2:=fun x y H Q=>∃ p q a b c d,x=.ref p∧y=.ref q∧H p=some (.tup [.int a,.int b])∧H q=some (.tup [.int c,.int d])∧Q (.bl (!decide (a=c∧b=d))) H
end
end L2
namespace L2
open PySem PySem.Spec PyProof.Rows
section
variable {X:Cx}
end
theorem qi_listK{X:Cx}{K:PySem.W.Frag}{e tg:Expr}{te:TE}(hK:X.K=K)(hl:QE X e te):QI X tg e (iList K te):=hK▸qi_list hl
theorem qi_tupK{X:Cx}{K:PySem.W.Frag}{e tg:Expr}{te:TE}(hK:X.K=K)(hl:QE X e te):QI X tg e (iTup K te):=hK▸qi_tup hl
section
variable {H:Hp}{Q:VK}{v:V}{l:St}
end
end L2
namespace L2
open PySem PySem.Spec PyProof.Rows
section
variable {X:Cx}
def rSumF:List V→Hp→VK→Prop:=fun xs H Q=>∃(p:Addr)(ns:List Int),xs=[.ref p]∧H p=some (.lst (ns.map V.int))∧Q (.int ns.sum) H
def rAllF:List V→Hp→VK→Prop:=fun xs H Q=>∃(p:Addr)(bs:List Bool),xs=[.ref p]∧H p=some (.lst (bs.map V.bl))∧Q (.bl (bs.all id)) H
def rAnyF:List V→Hp→VK→Prop:=fun xs H Q=>∃(p:Addr)(bs:List Bool),xs=[.ref p]∧H p=some (.lst (bs.map V.bl))∧Q (.bl (bs.any id)) H
theorem bools_of_vals{bs:List Bool}{vs:List Value}(h:Vals (bs.map V.bl) vs):vs=bs.map Value.bool:=by
 induction bs generalizing vs with
 | nil=>cases h;rfl
 | cons b bs ih =>
  cases vs with
  | nil=>cases h
  | cons v vs =>
   cases h with
   | cons r rr =>
    cases r
    rw[ih rr];rfl
theorem range_all(bs:List Bool):((List.range bs.length).all fun i=>bs.getD i false)=bs.all id:=by
 rw[Bool.eq_iff_iff,List.all_eq_true,List.all_eq_true]
 constructor
 ·intro h b hb
  obtain⟨i,hi,rfl⟩:=List.getElem_of_mem hb
  have:=h i (List.mem_range.mpr hi)
  simpa [List.getD_eq_getElem?_getD,hi] using this
 ·intro h i hi
  have hi':=List.mem_range.mp hi
  have:=h bs[i] (List.getElem_mem hi')
  simpa [List.getD_eq_getElem?_getD,hi'] using this
theorem iter_list_of{M:Program}{w:World}{A:Around}{E:Value→Shared→Prop}{s:Shared}{l:Addr}{items:Array Value}{Q:Value→Shared→Prop}(hl:s.heap.IsList l items)
  (h:∀ s₂:Shared,s₂={ s with heap:=s.heap.push { cls:=.type "list_iterator", data:=.fields #[.ref l,.int 0 0] } } →
   (s₂.heap.IsListIter s.heap.objs.size l 0∧s₂.heap.IsList l items)→l≠s.heap.objs.size→Q (.ref s.heap.objs.size) s₂) :
  wpAny (model M w) A (pyIter (.ref l)) Q E s:=by
 have hlt:l < s.heap.objs.size:=by obtain⟨_,e,_⟩:=hl;exact Heap.lt_size e
 exact wpAny_pyIter_list hl (h _ rfl ⟨⟨_,Heap.get?_push_size _ rfl,rfl,rfl⟩,hl.push _⟩ (Nat.ne_of_lt hlt))
theorem truth_bools{P:Program}{w:World}{A:Around}{bs:List Bool}:TruthOf P w A (fun i v=>(List.toArray (bs.map Value.bool))[i]?=some v) (fun i=>bs.getD i false):=by
 intro i v s Q E hv hq
 have hv':(bs.map Value.bool)[i]?=some v:=by simpa using hv
 rw[List.getElem?_map] at hv'
 cases e:bs[i]? with
 | none=>rw[e] at hv';cases hv'
 | some b =>
  rw[e] at hv'
  cases hv'
  have:bs.getD i false=b:=by simp[List.getD_eq_getElem?_getD,e]
  have hq':Q (bs.getD i false) s:=hq
  rw[this] at hq'
  exact wpAny_truthy_bool hq'
theorem call_allF(hc:X.calm=true):CallR X (.builtin "all") rAllF:=by
 intro pins s σ H xs us Q I r h
 obtain⟨p,bs,rfl,hp,q⟩:=h
 obtain⟨u,rfl,rx⟩:=vals1 r
 cases rx
 obtain⟨its,r',pl,hz⟩:=I.list (SqL.of hp)
 rw[bools_of_vals r'] at pl
 refine call_all_walk (iter_list_of pl.isList fun s₂ e st hne=>?_)
 subst e
 refine⟨_,_,_,_,_,_,_,rfl,Walks.list (A:=X.A.in1) (I.ok.hd hc) _ p hne _,st,truth_bools,fun h' tk hk=>⟨.bl (bs.all id),H,I.kept (old_kept hk),?_,q⟩⟩
 show Value.bool _=Value.bool _
 rw[List.size_toArray,List.length_map,range_all]
theorem Inv.laidL{pins:List (Addr×Obj)}{σ:St}{H:Hp}{s:Shared}{h':Heap}{t':Nat}{wr:List Addr}{T:Addr}{o:HO}(I:Inv X pins σ H s)(k:∀ b u,b∉wr→s.heap.get? b=some u→h'.get? b=some u)(hw:∀ b∈wr,FpOk X pins H b)
  (hp:s.heap.objs.size≤T) (new:ObjOk X.prog X.w (upd H T o) h' T o):Inv X pins σ (upd H T o) { s with heap:=h',toks:=t' }:=by
 have hn:H T=none:=I.hok.fresh hp
 have neT:∀ b ob,s.heap.get? b=some ob→b≠T:=fun b ob e=>Nat.ne_of_lt (Nat.lt_of_lt_of_le (Heap.lt_size e) hp)
 have up:∀{b:Addr}{u:HO},H b=some u→upd H T o b=some u:=fun e=>by rw[upd_ne (ne_of_none e hn)];exact e
 have nit:∀ b u,H b=some u→b∉wr:=fun b u e z=>by rw[(hw b z).1] at e;cases e
 refine I.step (g':=s.gens) (d':=s.drawn) (ch:=wr) (fun b hb=>?_) (fun b ob _ _ hc e _=>k b ob hc e) (fun b ob _ _ hc e _=>⟨ob.slots,k b ob hc e⟩) (fun b ob _ e n=>by rw[upd_ne (neT b ob e)];exact n)
  (fun b ob hc e=>⟨ob,k b ob hc e⟩) (fun _ _ e=>up e) (fun _ _ _ e=>up e) (fun b ps e=>⟨#[],by rw[up e];simp⟩) (fun m hm=>?_) (fun b u e=>?_) I.bare
 ·obtain⟨_,f1,_,f3,f4,f5⟩:=hw b hb
  exact⟨f3,f1,f4,f5⟩
 ·obtain⟨ob,es,ep,ho,r⟩:=hm
  exact⟨ob,es,ep,k _ ob (fun z=>(hw _ z).2.1 rfl) ho,r⟩
 ·by_cases hb:b=T
  ·subst hb;rw[upd_same] at e;cases e;exact new
  ·rw[upd_ne hb] at e
   refine (I.hok b u e).stay (fun c v hc q=>k c v ?_ q) (fun c q=>up q) fun c xs q=>up q
   rcases hc with z | z
   ·rw[z];exact nit b u e
   ·exact nit c _ z
theorem Inv.turnedL{pins:List (Addr×Obj)}{σ:St}{H:Hp}{s:Shared}{h':Heap}{t':Nat}{wr:List Addr}(I:Inv X pins σ H s)(k:∀ b o,b∉wr→s.heap.get? b=some o→h'.get? b=some o)(hw:∀ b∈wr,FpOk X pins H b):Inv X pins σ H { s with heap:=h',toks:=t' }:=by
 have nit:∀ b u,H b=some u→b∉wr:=fun b u e z=>by rw[(hw b z).1] at e;cases e
 refine I.step (g':=s.gens) (d':=s.drawn) (ch:=wr) (fun b hb=>?_) (fun b o _ _ hc e _=>k b o hc e) (fun b o _ _ hc e _=>⟨o.slots,k b o hc e⟩) (fun _ _ _ _ n=>n)
  (fun b o hc e=>⟨o,k b o hc e⟩) (fun _ _ e=>e) (fun _ _ _ e=>e) (fun b ps e=>⟨#[],by rw[e];simp⟩) (fun m hm=>?_) (fun b u e=>?_) I.bare
 ·obtain⟨_,f1,_,f3,f4,f5⟩:=hw b hb
  exact⟨f3,f1,f4,f5⟩
 ·obtain⟨o,es,ep,ho,r⟩:=hm
  exact⟨o,es,ep,k _ o (fun z=>(hw _ z).2.1 rfl) ho,r⟩
 ·refine (I.hok b u e).stay (fun c v hc q=>k c v ?_ q) (fun _ q=>q) fun _ _ q=>q
  rcases hc with z | z
  ·rw[z];exact nit b u e
  ·exact nit c _ z
end
section
variable {X:Cx}{a b:Expr}{t:TA}{p pos tp:Pos}{elts:List Expr}{k:Nat}
end
theorem rSumF_ap{xs:List V}{H:Hp}{Q:VK}:rSumF xs H Q=∃(p:Addr)(ns:List Int),xs=[.ref p]∧H p=some (.lst (ns.map V.int))∧Q (.int ns.sum) H:=propext Iff.rfl
theorem rAllF_ap{xs:List V}{H:Hp}{Q:VK}:rAllF xs H Q=∃(p:Addr)(bs:List Bool),xs=[.ref p]∧H p=some (.lst (bs.map V.bl))∧Q (.bl (bs.all id)) H:=propext Iff.rfl
theorem rAnyF_ap{xs:List V}{H:Hp}{Q:VK}:rAnyF xs H Q=∃(p:Addr)(bs:List Bool),xs=[.ref p]∧H p=some (.lst (bs.map V.bl))∧Q (.bl (bs.any id)) H:=propext Iff.rfl
end L2
namespace L2
open PySem PySem.Spec PyProof.Rows
section
variable {X:Cx}
def rCatA:R2:=fun x y H Q=>∃ a b xs ys,x=.ref a∧y=.ref b∧H a=some (.tup xs)∧H b=some (.tup ys)∧ys≠[]∧xs.length+ys.length≤sizeLine∧∀ p H',Same H H'→H' p=some (.tup (xs++ys))→Q (.ref p) H'
theorem op_catA:OpR X (binaryOp .Add) rCatA:=by
 intro pins s σ H x y v u Q I rx ry h
 obtain⟨a,b,xs,ys,rfl,rfl,ha,hb,hy,hz,q⟩:=h
 by_cases hx:xs=[]
 ·subst hx
  cases rx
  cases ry
  obtain⟨its,r1,p1,_⟩:=I.tuple (SqT.of ha)
  obtain⟨its2,r2,p2,_⟩:=I.tuple (SqT.of hb)
  cases r1
  obtain⟨⟨cls,dd,data,sl⟩,ho,hc,n,hd⟩:=id p1
  obtain⟨⟨cls2,dd2,data2,sl2⟩,ho2,hc2,n2,hd2⟩:=id p2
  simp only at hc hd hc2 hd2
  subst hc hd hc2 hd2
  exact concat_meets ⟨_,ho,rfl⟩ ⟨_,ho2,rfl⟩ noFill_tuple_add seq_tuple_add PySem.F.slot_tuple_add PySem.F.entry_tuple_add (PySem.F.args_tuple_add_2 _ _)
   (tuple_addW0 a b _ _ n n2 dd dd2 sl sl2 (by simp)) ⟨ho,ho2,⟨.ref b,H,I,rfl,q b H (Same.refl H) (by simpa using hb)⟩⟩
 ·exact op_catT pins s σ H (.ref a) (.ref b) _ _ Q I rx ry ⟨a,b,xs,ys,rfl,rfl,SqT.of ha,SqT.of hb,hx,hz,fun z=>absurd z hy,fun _ p hp=>q p _ (Same.new hp) upd_same⟩
end
theorem tBM_ap{K:PySem.W.Frag}{T:String}{r:V→List V→Hp→VK→Prop}{to:TE}{t:TA}{σ:St}{H:Hp}{Q:VK}:tBM K T r to t σ H Q=to σ H fun x H1=>tyV K T x H1∧t σ H1 fun vs H2=>r x vs H2 Q:=propext Iff.rfl
theorem rAppend_ap{x:V}{vs:List V}{H:Hp}{Q:VK}:rAppend x vs H Q=∃ l xs y,x=.ref l∧vs=[y]∧H l=some (.lst xs)∧xs.length < sizeLine∧Q .non (upd H l (.lst (xs++[y]))):=propext Iff.rfl
theorem sizeLine_8:(8≤sizeLine)=True:=eq_true (by decide)
theorem sizeLine_10:(10≤sizeLine)=True:=eq_true (by decide)
end L2
namespace L2
open PySem PySem.Spec PyProof.Rows
section
variable {X:Cx}{o e:Expr}{es:List Expr}{to:TE}{t:TA}{name:Str}{apos cpos:Pos}{T id:String}{r:V→List V→Hp→VK→Prop}
theorem qe_bm(pa:PlainAttrs T)(slot:Slot T name id)(hty:typeOf (.builtin id)=pure (.type "method_descriptor"))(hm:MtR X id r)(ho:QE X o to)(ha:QA X (e::es) t)
  (hbase:attributeBase o name X.env (eval o X.env)=eval o X.env:=by rfl)
  (hfew:((backTo cpos (starEach (e::es) X.env)).all (fun x=>!x.1) && (backToKw cpos (keywordEach [] X.env)).all (fun x=>x.1.isSome)
   && decide ((e::es).length+([]:List Keyword).length+(if ([]:List Keyword).isEmpty then 0 else 1) < 30))=true:=by rfl)
  (hline:(apos.endLine == cpos.line)=true:=by rfl) (hs:starEach (e::es) X.env=(false,eval e X.env)::starEach es X.env:=by rfl) (hplain:(backTo cpos (starEach es X.env)).any (·.1)=false:=by rfl) :
  QE X (.Call (.Attribute o name apos) (e::es) [] cpos) (tBM X.K T r to t):=⟨pe_bm pa slot hty hm ho.p ha.p hbase hfew hline hs hplain⟩
end
end L2
namespace L2
theorem compSt_ap{n:Nat}{js:List Nat}{σ:St}:compSt n js σ=List.replicate n none++js.map fun j=>(σ[j]?).join:=by unfold compSt;exact rfl
theorem join_somz{α:Type}{x:Option α}:(some x).join=x:=rfl
end L2
namespace L2
open PySem
end L2
namespace L2
open PySem
theorem qg_tupK{X:Cx}{K:PySem.W.Frag}{es:List Expr}{pos:Pos}{k:Nat}{tg:TGs}{n:Nat}(hK:X.K=K)(hc:X.calm=true)(h:QGs X es tg)(hn:(assignEach es X.env).length=n:=by rfl)(hst:(assignEach es X.env).findIdx? (·.1)=none:=by rfl):QG X (.Tuple es k pos) (gTup K n tg):=hK▸qg_tup hc h hn hst
end L2
namespace L2
theorem sizeLine_0:(0≤PySem.sizeLine)=True:=eq_true (Nat.zero_le _)
end L2
namespace L2
end L2
set_option maxHeartbeats 4000000
namespace Srt
open PySem PyProof.Rows
abbrev PS:=Array Nat×Array (Nat×Nat×Nat)×Nat
abbrev TW(β:Type):=PS→Option (β×PS)
abbrev enc(k:Nat→Keyed)(t:PS):SortSt:=SortSt.mk' oneType' (t.1.map k) t.2.1 t.2.2 none
structure Asked(P:Program)(w:World)(A:Around)(s:Shared)(k:Nat→Keyed)(c:Nat→Nat→Bool)(N:Nat):Prop where
 lt:∀ i j,i < N→j < N→∀(E:Value→Shared→Prop)(Q:Bool→Shared→Prop),Q (c i j) s→wpAny (model P w) A (oneLt' true (k i).1 (k j).1) Q E s
structure Sim(c:Nat→Nat→Bool)(N:Nat){α β:Type}(φ:(Nat→Keyed)→β→α)(m:(Nat→Keyed)→StateT SortSt Sem α)(n:TW β):Prop where
 run:∀(P:Program)(w:World)(A:Around)(E:Value→Shared→Prop)(s:Shared)(k:Nat→Keyed),Asked P w A s k c N→∀ t b t',n t=some (b,t')→wpS (model P w) A E s (m k) (fun a st=>a=φ k b∧st=enc k t') (enc k t)
section
variable {c:Nat→Nat→Bool}{N:Nat}{α β γ δ:Type}
def tpure(b:β):TW β:=fun t=>some (b,t)
def tbind(n:TW β)(g:β→TW δ):TW δ:=fun t=>match n t with
 | none=>none
 | some (b,t')=>g b t'
def tfor(f:Nat→β→TW (ForInStep β)):List Nat→β→TW β
 | [],b=>tpure b
 | x::l,b=>fun t=>match f x b t with
  | none=>none
  | some (.done b',t')=>some (b',t')
  | some (.yield b',t')=>tfor f l b' t'
def tite(p:Prop)[Decidable p](x y:TW β):TW β:=fun t=>if p then x t else y t
def tget:TW PS:=fun t=>some (t,t)
def tmod(f:PS→PS):TW Unit:=fun t=>some ((),f t)
def tlt(c:Nat→Nat→Bool)(N i j:Nat):TW Bool:=fun t=>if i < N∧j < N then some (c i j,t) else none
def tel(p:Array Nat)(i:Nat):TW Nat:=fun t=>match p[i]? with
 | none=>none
 | some j=>some (j,t)
abbrev ident:(Nat→Keyed)→β→β:=fun _ b=>b
theorem sim_pure(b:β):Sim c N ident (fun _=>pure b) (tpure b):=by
 refine⟨?_⟩
 intro P w A E s k h t b' t' e
 cases e
 exact wpS_pure ⟨rfl,rfl⟩
theorem sim_pureV{φ:(Nat→Keyed)→β→α}{v:(Nat→Keyed)→α}(b:β)(hv:∀ k,v k=φ k b):Sim c N φ (fun k=>pure (v k)) (tpure b):=by
 refine⟨?_⟩
 intro P w A E s k h t b' t' e
 cases e
 exact wpS_pure ⟨hv k,rfl⟩
theorem sim_bind{φ:(Nat→Keyed)→β→α}{ψ:(Nat→Keyed)→δ→γ}{m:(Nat→Keyed)→StateT SortSt Sem α}{f:(Nat→Keyed)→α→StateT SortSt Sem γ}{n:TW β}{g:β→TW δ}
  (h1:Sim c N φ m n) (h2:∀ b,Sim c N ψ (fun k=>f k (φ k b)) (g b)):Sim c N ψ (fun k=>m k >>= f k) (tbind n g):=by
 refine⟨?_⟩
 intro P w A E s k h t b t' e
 unfold tbind at e
 cases e1:n t with
 | none=>rw[e1] at e;cases e
 | some r =>
  obtain⟨b1,t1⟩:=r
  rw[e1] at e
  refine wpS_bind (wpS_mono (h1.run P w A E s k h t b1 t1 e1) fun a st ⟨ea,es⟩=>?_)
  rw[ea,es]
  exact (h2 b1).run P w A E s k h t1 b t' e
theorem sim_ite{φ:(Nat→Keyed)→β→α}{p:Prop}{d:(Nat→Keyed)→Decidable p}[Decidable p]{m1 m2:(Nat→Keyed)→StateT SortSt Sem α}{n1 n2:TW β}(h1:Sim c N φ m1 n1)(h2:Sim c N φ m2 n2):Sim c N φ (fun k=>@ite _ p (d k) (m1 k) (m2 k)) (tite p n1 n2):=by
 refine⟨?_⟩
 intro P w A E s k h t b t' e
 unfold tite at e
 by_cases hp:p
 ·rw[if_pos hp] at e
  simp only[if_pos hp]
  exact h1.run P w A E s k h t b t' e
 ·rw[if_neg hp] at e
  simp only[if_neg hp]
  exact h2.run P w A E s k h t b t' e
theorem sim_mod{f:SortSt→SortSt}(f':PS→PS)(hf:∀ k t,f (enc k t)=enc k (f' t)):Sim c N ident (fun _=>modify f) (tmod f'):=by
 refine⟨?_⟩
 intro P w A E s k h t b' t' e
 cases e
 exact wpS_modify ⟨rfl,hf k t⟩
theorem sim_rule{x:String}:Sim c N ident (fun _=>(liftM (rule x):StateT SortSt Sem Unit)) (tpure ()):=by
 refine⟨?_⟩
 intro P w A E s k h t b' t' e
 cases e
 exact wpS_lift (wpAny_rule ⟨rfl,rfl,rfl⟩)
theorem sim_lt{i j:Nat}:Sim c N (fun _ b=>some b) (fun k=>lt' (k i) (k j)) (tlt c N i j):=by
 refine⟨?_⟩
 intro P w A E s k h t b' t' e
 unfold tlt at e
 split at e
 case isFalse=>cases e
 rename_i hij
 cases e
 try dsimp only
 rw[lt'_eq]
 refine wpS_bind (wpS_get ?_)
 show wpS _ _ _ _ (do let r ← (keyLt' oneType' (k i).1 (k j).1).attempt;_) _ _
 rw[keyLt'_oneType]
 refine wpS_bind (wpS_lift (wpAny_attempt (h.lt i j hij.1 hij.2 _ _ ⟨rfl,?_⟩)))
 exact wpS_pure ⟨rfl,rfl⟩
theorem sim_el{p:Array Nat}{i:Nat}:Sim c N (fun k j=>k j) (fun k=>elem' (p.map k) i) (tel p i):=by
 refine⟨?_⟩
 intro P w A E s k h t b' t' e
 unfold tel at e
 try dsimp only
 rw[elem'_eq]
 cases e1:p[i]? with
 | none=>rw[e1] at e;cases e
 | some j =>
  rw[e1] at e
  cases e
  rw[Array.getElem?_map,e1]
  exact wpS_pure ⟨rfl,rfl⟩
def stepM(φ:(Nat→Keyed)→β→α)(k:Nat→Keyed):ForInStep β→ForInStep α
 | .done b=>.done (φ k b)
 | .yield b=>.yield (φ k b)
theorem sim_forL{φ:(Nat→Keyed)→β→α}{F:(Nat→Keyed)→Nat→α→StateT SortSt Sem (ForInStep α)}{f:Nat→β→TW (ForInStep β)}(h:∀ x b,Sim c N (stepM φ) (fun k=>F k x (φ k b)) (f x b)) :
  ∀(l:List Nat)(b:β),Sim c N φ (fun k=>forIn l (φ k b) (F k)) (tfor f l b)
 | [],b=>by
  refine⟨?_⟩
  intro P w A E s k ha t b' t' e
  cases e
  simp only[List.forIn_nil]
  exact wpS_pure ⟨rfl,rfl⟩
 | x::l,b=>by
  refine⟨?_⟩
  intro P w A E s k ha t b' t' e
  simp only[List.forIn_cons]
  unfold tfor at e
  cases e1:f x b t with
  | none=>rw[e1] at e;cases e
  | some r =>
   obtain⟨r,t1⟩:=r
   rw[e1] at e
   refine wpS_bind (wpS_mono ((h x b).run P w A E s k ha t r t1 e1) fun a st ⟨ea,es⟩=>?_)
   rw[ea,es]
   cases r with
   | done b1 =>
    cases e
    exact wpS_pure ⟨rfl,rfl⟩
   | yield b1=>exact (sim_forL h l b1).run P w A E s k ha t1 b' t' e
theorem sim_for{φ:(Nat→Keyed)→β→α}{F:(Nat→Keyed)→Nat→α→StateT SortSt Sem (ForInStep α)}{f:Nat→β→TW (ForInStep β)}{a b:Nat}{v:(Nat→Keyed)→α}(b0:β)(hv:∀ k,v k=φ k b0)(h:∀ x b,Sim c N (stepM φ) (fun k=>F k x (φ k b)) (f x b)) :
  Sim c N φ (fun k=>forIn [a:b] (v k) (F k)) (tfor f (List.range' a (b - a)) b0):=by
 refine⟨?_⟩
 intro P w A E s k ha t b' t' e
 have:=(sim_forL h _ b0).run P w A E s k ha t b' t' e
 try dsimp only
 rw[hv k,Std.Legacy.Range.forIn_eq_forIn_range']
 have hsz:([a:b]:Std.Legacy.Range).size=b - a:=by simp[Std.Legacy.Range.size]
 show wpS _ _ _ _ (forIn (List.range' a ([a:b]:Std.Legacy.Range).size 1) _ _) _ _
 rw[hsz]
 exact this
theorem sim_forI{F:(Nat→Keyed)→Nat→β→StateT SortSt Sem (ForInStep β)}{f:Nat→β→TW (ForInStep β)}{a b:Nat}{b0:β}(h:∀ x b,Sim c N (stepM ident) (fun k=>F k x b) (f x b)) :
  Sim c N ident (fun k=>forIn [a:b] b0 (F k)) (tfor f (List.range' a (b - a)) b0):=sim_for b0 (fun _=>rfl) h
theorem sim_done(b:β):Sim c N (stepM ident) (fun _=>pure (ForInStep.done b)) (tpure (.done b)):=sim_pureV _ fun _=>rfl
theorem sim_yield(b:β):Sim c N (stepM ident) (fun _=>pure (ForInStep.yield b)) (tpure (.yield b)):=sim_pureV _ fun _=>rfl
def tcase{ρ τ:Type}(g1:ρ→τ→TW δ)(g2:τ→TW δ):Option ρ×τ→TW δ
 | (some r,y)=>g1 r y
 | (none,y)=>g2 y
theorem sim_case{ρ τ:Type}{ψ:(Nat→Keyed)→δ→γ}{f:(Nat→Keyed)→Option ρ×τ→StateT SortSt Sem γ}{g1:ρ→τ→TW δ}{g2:τ→TW δ}(h1:∀ r y,Sim c N ψ (fun k=>f k (some r,y)) (g1 r y))(h2:∀ y,Sim c N ψ (fun k=>f k (none,y)) (g2 y)) :
  ∀ b,Sim c N ψ (fun k=>f k b) (tcase g1 g2 b)
 | (some r,y)=>h1 r y
 | (none,y)=>h2 y
theorem sim_ltAt{i j:Nat}:Sim c N (fun _ b=>some b) (fun _=>ltAt' i j) (fun t=>tbind (tel t.1 i) (fun x=>tbind (tel t.1 j) (tlt c N x)) t):=by
 refine⟨?_⟩
 intro P w A E s k h t b' t' e
 try dsimp only
 rw[ltAt'_eq]
 refine wpS_bind (wpS_get ?_)
 have g:Sim c N (fun _ b=>some b) (fun k=>do let x ← elem' (t.1.map k) i;let y ← elem' (t.1.map k) j;lt' x y) (tbind (tel t.1 i) (fun x=>tbind (tel t.1 j) (tlt c N x))):=sim_bind sim_el fun x=>sim_bind sim_el fun y=>sim_lt
 exact g.run P w A E s k h t b' t' e
theorem swap_map(k:Nat→Keyed)(xs:Array Nat)(i j:Nat):(xs.map k).swapIfInBounds i j=(xs.swapIfInBounds i j).map k:=by
 by_cases hi:i < xs.size
 ·by_cases hj:j < xs.size
  ·apply Array.ext_getElem?
   intro q
   rw[getElem?_swapIB (by rw[Array.size_map];exact hi) (by rw[Array.size_map];exact hj)]
   simp only[Array.getElem?_map]
   rw[getElem?_swapIB hi hj]
   by_cases h1:j=q<;>by_cases h2:i=q<;>simp[h1,h2]
  ·simp[Array.swapIfInBounds_def,hi,hj]
 ·simp[Array.swapIfInBounds_def,hi]
theorem mirror_map(k:Nat→Keyed)(xs:Array Nat)(i j d:Nat):mirror (xs.map k) i j d=(mirror xs i j d).map k:=by
 have go:∀(l:List Nat)(xs:Array Nat),l.foldl (fun a q=>a.swapIfInBounds (i+q) (j - 1 - q)) (xs.map k)=(l.foldl (fun a q=>a.swapIfInBounds (i+q) (j - 1 - q)) xs).map k:=by
  intro l
  induction l with
  | nil=>intro xs;rfl
  | cons x l ih=>intro xs;simp only[List.foldl_cons];rw[swap_map,ih]
 exact go _ _
theorem bubble_map(k:Nat→Keyed)(xs:Array Nat)(src d:Nat):bubble (xs.map k) src d=(bubble xs src d).map k:=by
 have go:∀(l:List Nat)(xs:Array Nat),l.foldl (fun a q=>a.swapIfInBounds (src - q) (src - q - 1)) (xs.map k)=(l.foldl (fun a q=>a.swapIfInBounds (src - q) (src - q - 1)) xs).map k:=by
  intro l
  induction l with
  | nil=>intro xs;rfl
  | cons x l ih=>intro xs;simp only[List.foldl_cons];rw[swap_map,ih]
 exact go _ _
end
end Srt
set_option maxHeartbeats 4000000
namespace Srt
open PySem PyProof.Rows
variable {c:Nat→Nat→Bool}{N:Nat}
theorem sim_moveDown{src dst:Nat}:Sim c N ident (fun _=>moveDown' src dst) (tmod fun t=>(bubble t.1 src (src - dst),t.2)):=by
 simp only[moveDown'_eq]
 exact sim_mod _ fun k t=>by
  show SortSt.mk' oneType' (bubble (t.1.map k) src (src - dst)) t.2.1 t.2.2 none=_
  rw[bubble_map]
theorem sim_reverse{i j:Nat}:Sim c N ident (fun _=>reverseSlice' i j) (tmod fun t=>(mirror t.1 i j ((j - i) / 2),t.2)):=by
 simp only[reverseSlice'_eq]
 exact sim_mod _ fun k t=>by
  show SortSt.mk' oneType' (mirror (t.1.map k) i j ((j - i) / 2)) t.2.1 t.2.2 none=_
  rw[mirror_map]
def mkS{α β:Type}{φ:(Nat→Keyed)→β→α}{m:(Nat→Keyed)→StateT SortSt Sem α}{n:TW β}(h:Sim c N φ m n):{ n:TW β // Sim c N φ m n }:=⟨n,h⟩
def binS(c:Nat→Nat→Bool)(N lo n ok:Nat):{ m:TW Bool // Sim c N ident (fun _=>binarySort' lo n ok) m }:=by
 apply mkS
 ·simp only[binarySort'_eq]
  repeat' (first
   | with_reducible exact sim_done _ | with_reducible exact sim_yield _ | with_reducible exact sim_pure _ | with_reducible exact sim_ltAt | with_reducible exact sim_moveDown | with_reducible exact sim_reverse | with_reducible exact sim_rule | with_reducible exact sim_el | with_reducible exact sim_lt
   | apply sim_ite | with_reducible apply sim_forI | with_reducible apply sim_case | with_reducible apply sim_bind | (intro _;try dsimp only[ident]))
def countS(c:Nat→Nat→Bool)(N lo nrem:Nat):{ m:TW (Option Nat) // Sim c N ident (fun _=>countRun' lo nrem) m }:=by
 apply mkS
 ·simp only[countRun'_eq]
  repeat' (first
   | with_reducible exact sim_done _ | with_reducible exact sim_yield _ | with_reducible exact sim_pure _ | with_reducible exact sim_ltAt | with_reducible exact sim_moveDown | with_reducible exact sim_reverse | with_reducible exact sim_rule | with_reducible exact sim_el | with_reducible exact sim_lt
   | apply sim_ite | with_reducible apply sim_forI | with_reducible apply sim_case | with_reducible apply sim_bind | (intro _;try dsimp only[ident]))
end Srt
set_option maxHeartbeats 4000000
namespace Srt
open PySem PyProof.Rows
variable {c:Nat→Nat→Bool}{N:Nat}
def gallop':Bool→Keyed→Array Keyed→Nat→Nat→Nat→StateT SortSt Sem (Option Nat):=sortPriv% PySem.Builtin.gallop
def tbey(c:Nat→Nat→Bool)(N:Nat)(left:Bool)(p:Array Nat)(i j:Nat):TW Bool:=tbind (tel p i) fun x=>tite (left=true) (tlt c N x j) (tbind (tlt c N j x) fun r=>tpure (!r))
theorem sim_beyond{left:Bool}{p:Array Nat}{i j:Nat}:Sim c N (fun _ b=>some b) (fun k=>elem' (p.map k) i >>= fun x=>if left=true then lt' x (k j) else lt' (k j) x >>= fun r=>pure (Option.map (fun x=>!x) r)) (tbey c N left p i j):=by
 unfold tbey
 apply sim_bind
 ·exact sim_el
 ·intro x
  apply sim_ite
  ·exact sim_lt
  ·apply sim_bind
   ·exact sim_lt
   ·intro r
    exact sim_pureV (φ:=fun _ b=>some b) (!r) fun _=>rfl
def gallopS(c:Nat→Nat→Bool)(N:Nat)(left:Bool)(j:Nat)(p:Array Nat)(base n hint:Nat):{ m:TW (Option Nat) // Sim c N ident (fun k=>gallop' left (k j) (p.map k) base n hint) m }:=by
 apply mkS
 ·apply sim_bind
  ·exact sim_beyond
  ·intro b
   dsimp only
   repeat' (first
    | with_reducible exact sim_done _ | with_reducible exact sim_yield _ | with_reducible exact sim_pure _ | exact sim_beyond
    | apply sim_ite | with_reducible apply sim_forI | with_reducible apply sim_case | with_reducible apply sim_bind | (intro _;try dsimp only[ident]))
section
variable {τ δ γ:Type}
end
end Srt
set_option maxHeartbeats 4000000
namespace Srt
open PySem PyProof.Rows
def sub(i:Nat):List Int:=((List.range 6).filter fun b=>i.testBit b).map Int.ofNat
def llt:List Int→List Int→Bool
 | [],[]=>false
 | [],_::_=>true
 | _::_,[]=>false
 | x::xs,y::ys=>if x=y then llt xs ys else decide (x < y)
def cmp(i j:Nat):Bool:=llt (sub i) (sub j)
def a1:Array Nat:=#[0,1,3,7,15,31,23,11,27,19,5,13,29,21,9,25,17,2,6,14,30,22,10,26,18,4,12,28,20,8,24,16,32,33,34,35,36,37,38,39,40,41,42,43,44,45,46,47,48,49,50,51,52,53,54,55,56,57,58,59,60,61,62,63]
def a3:Array Nat:=#[0,1,3,7,15,31,23,11,27,19,5,13,29,21,9,25,17,2,6,14,30,22,10,26,18,4,12,28,20,8,24,16,33,32,34,35,36,37,38,39,40,41,42,43,44,45,46,47,48,49,50,51,52,53,54,55,56,57,58,59,60,61,62,63]
def a4:Array Nat:=#[0,1,3,7,15,31,23,11,27,19,5,13,29,21,9,25,17,2,6,14,30,22,10,26,18,4,12,28,20,8,24,16,63,47,55,39,59,43,51,35,61,45,53,37,57,41,49,33,62,46,54,38,58,42,50,34,60,44,52,36,56,40,48,32]
def order:Array Nat:=#[0,1,3,7,15,31,63,47,23,55,39,11,27,59,43,19,51,35,5,13,29,61,45,21,53,37,9,25,57,41,17,49,33,2,6,14,30,62,46,22,54,38,10,26,58,42,18,50,34,4,12,28,60,44,20,52,36,8,24,56,40,16,48,32]
def t0:PS:=((List.range 64).toArray,#[],7)
def t2:PS:=(a1,#[(0,32,0)],7)
def t4:PS:=(a4,#[(0,32,0)],7)
def t5:PS:=(a4,#[(0,32,1),(32,32,0)],7)
def t6:PS:=(a4,#[(0,64,1)],7)
theorem e0:(countS cmp 64 0 64).1 t0=some (some 3,t0):=by kernel_rfl
theorem e1:(binS cmp 64 0 32 3).1 t0=some (true,(a1,#[],7)):=by kernel_rfl
theorem e2:(countS cmp 64 32 32).1 t2=some (some 2,(a3,#[(0,32,0)],7)):=by kernel_rfl
theorem e3:(binS cmp 64 32 32 2).1 (a3,#[(0,32,0)],7)=some (true,t4):=by kernel_rfl
theorem e4:(gallopS cmp 64 false (a4.getD 32 0) a4 0 32 0).1 t6=some (some 6,t6):=by kernel_rfl
theorem e5:(gallopS cmp 64 true (a4.getD 31 0) a4 32 32 31).1 t6=some (some 30,t6):=by kernel_rfl
def mg:Array Nat:=order.extract 6 62
section
variable {P:Program}{w:World}{A:Around}{E:Value→Shared→Prop}{s:Shared}{k:Nat→Keyed}
end
end Srt
set_option maxHeartbeats 4000000
namespace Srt
open PySem PyProof.Rows
section
variable {P:Program}{w:World}{A:Around}{E:Value→Shared→Prop}{s:Shared}{k:Nat→Keyed}
def o2:Array Nat:=#[0,1]
theorem c2:(countS cmp 2 0 2).1 ((List.range 2).toArray,#[],7)=some (some 2,((List.range 2).toArray,#[],7)):=by kernel_rfl
def o4:Array Nat:=#[0,1,3,2]
theorem c4:(countS cmp 4 0 4).1 ((List.range 4).toArray,#[],7)=some (some 3,((List.range 4).toArray,#[],7)):=by kernel_rfl
theorem b4:(binS cmp 4 0 4 3).1 ((List.range 4).toArray,#[],7)=some (true,(o4,#[],7)):=by kernel_rfl
def o8:Array Nat:=#[0,1,3,7,5,2,6,4]
theorem b8:(binS cmp 8 0 8 3).1 ((List.range 8).toArray,#[],7)=some (true,(o8,#[],7)):=by kernel_rfl
end
end Srt
namespace L2
open PySem PySem.Spec PyProof.Rows Srt
section
variable {prog:Program}{w:World}{A:Around}{E:Value→Shared→Prop}{s:Shared}
end
end L2
namespace L2
open PySem PySem.Spec PyProof.Rows Srt
def ordL(n:Nat):List Nat:=order.toList.filter fun i=>decide (i < n)
def SubsAt(H:Hp)(vs:List V)(n:Nat):Prop:=vs.length=n∧∀ i,i < n→∃ t,vs[i]?=some (.ref t)∧H t=some (.tup ((sub i).map V.int))
section
variable {X:Cx}
end
end L2
namespace L2
open PySem PySem.Spec PyProof.Rows
section
variable {X:Cx}
def tRev(te:TE)(ts:TO):TE:=fun σ H Q=>te σ H fun x H1=>ts σ H1 fun l H2=>l=some (-1)∧∃ a xs,x=.ref a∧H2 a=some (.lst xs)∧∀ p,H2 p=none→Q (.ref p) (upd H2 p (.lst xs.reverse))
def rInsert:V→List V→Hp→VK→Prop:=fun x vs H Q=>∃ l xs i y,x=.ref l∧vs=[.int i,y]∧H l=some (.lst xs)∧0≤i∧i≤xs.length∧xs.length < 1000∧Q .non (upd H l (.lst (xs.take i.toNat++y::xs.drop i.toNat)))
theorem mt_insert:MtM X "list.insert" rInsert:=by
 intro pins s σ H x vs v us Q I rx rv h
 obtain⟨l,xs,i,y,rfl,rfl,hH,h0,h1,hz,q⟩:=h
 cases rx
 obtain⟨u,v2,rfl,⟨t,rfl⟩,ru⟩:=rv.two
 obtain⟨z,its,n,r,hl,e⟩:=I.lstM hH
 have hf:Builtin.List.listFitsIndex i=true:=by
  unfold Builtin.List.listFitsIndex
  simp
  omega
 refine call_meets F.slot_list_insert ⟨_,e,rfl⟩ F.entry_list_insert (F.args_list_insert_3 _ _ _) (PySem.AutoSeq1.list_insert_list_int_val_1 l its.toArray n i t v2 (by simp[hf]) (by rw[List.size_toArray,← hl];exact z)) ⟨e,?_⟩
 refine⟨.non,_,I.lset (its':=its.take i.toNat++v2::its.drop i.toNat) hH e ?_ ((r.take i.toNat).append (.cons ru (r.drop i.toNat))) ?_,rfl,q⟩
 ·show (its.toArray.extract 0 (if i < 0 then (i+(its.toArray.size:Int)).toNat else min i.toNat its.toArray.size)).push v2++its.toArray.extract (if i < 0 then (i+(its.toArray.size:Int)).toNat else min i.toNat its.toArray.size)=_
  have ek:(if i < 0 then (i+(its.toArray.size:Int)).toNat else min i.toNat its.toArray.size)=i.toNat:=by
   rw[if_neg (by omega),List.size_toArray,← hl]
   omega
  rw[ek]
  exact PySem.W.kl_ins_eq its i.toNat v2
 ·rw[List.length_append,List.length_cons,List.length_take,List.length_drop]
  have:=small1000 (n:=1000) (Nat.le_refl _)
  omega
end
theorem tRev_ap{te:TE}{ts:TO}{σ:St}{H:Hp}{Q:VK}:tRev te ts σ H Q=te σ H fun x H1=>ts σ H1 fun l H2=>l=some (-1)∧∃ a xs,x=.ref a∧H2 a=some (.lst xs)∧∀ p,H2 p=none→Q (.ref p) (upd H2 p (.lst xs.reverse)):=propext Iff.rfl
theorem rInsert_ap{x:V}{vs:List V}{H:Hp}{Q:VK}:rInsert x vs H Q=∃ l xs i y,x=.ref l∧vs=[.int i,y]∧H l=some (.lst xs)∧0≤i∧i≤xs.length∧xs.length < 1000∧Q .non (upd H l (.lst (xs.take i.toNat++y::xs.drop i.toNat))):=propext Iff.rfl
end L2
namespace L2
open PySem
theorem tPart_ap{te:TE}{σ:St}{H:Hp}{K:Option Int→Hp→Prop}:tPart te σ H K=te σ H fun x H1=>∃ i,x=.int i∧K (some i) H1:=propext Iff.rfl
theorem tNoPart_ap{σ:St}{H:Hp}{K:Option Int→Hp→Prop}:tNoPart σ H K=K none H:=propext Iff.rfl
end L2
namespace Toy
open PySem L2
open PySem.Builtin.Int (intBits)
structure BagAt(H:Hp)(B L:Addr):Prop where
 ex:∃ ns i r salt,H B=some (.lst [.ref L,.int i,.int r,.int salt])∧H L=some (.lst (List.map V.int ns))∧(0:Int)≤i
theorem BagAt.new{H:Hp}{B L p:Addr}{o:HO}(b:BagAt H B L)(hp:H p=none):BagAt (upd H p o) B L:=by
 obtain⟨ns,i,r,salt,h1,h2,h3⟩:=b
 exact⟨ns,i,r,salt,by rw[upd_ne (ne_of_none h1 hp)];exact h1,by rw[upd_ne (ne_of_none h2 hp)];exact h2,h3⟩
theorem BagAt.ne{H:Hp}{B L p:Addr}(b:BagAt H B L)(hp:H p=none):p≠B:=fun e=>by
 obtain⟨_,_,_,_,z,_⟩:=b
 rw[← e,hp] at z
 cases z
abbrev lowN(n u:Int):Int:=n / (Int.gcd n u:Int)
abbrev lowU(n u:Int):Int:=u / (Int.gcd n u:Int)
def RowAt(H:Hp)(xs:List V)(ps:List (Int×Int)):Prop:=xs.length=ps.length∧∀(i:Nat) p,ps[i]?=some p→∃ r,xs[i]?=some (.ref r)∧H r=some (.tup [.int p.1,.int p.2])∧0 < p.2∧Sz 100 p.1∧Sz 31 p.2
def TS(H H':Hp):Prop:=∀ b xs,H b=some (.tup xs)→H' b=some (.tup xs)
theorem TS.fr{H H':Hp}{B L:Addr}(b:BagAt H B L)(f:Fr1 B H H'):TS H H':=fun c xs h=>f c _ (fun e=>by
 obtain⟨_,_,_,_,z,_⟩:=b
 rw[← e,h] at z
 cases z) h
theorem TS.lst{H:Hp}{l:Addr}{xs:List V}{o:HO}(h:H l=some (.lst xs)):TS H (L2.upd H l o):=fun c ys hc=>by
 rw[upd_ne (fun e=>by rw[e,h] at hc;cases hc)]
 exact hc
theorem BagAt.put{H:Hp}{B L F:Addr}{o:HO}(b:BagAt H B L)(nB:F≠B)(nL:F≠L):BagAt (L2.upd H F o) B L:=by
 obtain⟨ns,i,r,salt,h1,h2,h3⟩:=b
 exact⟨ns,i,r,salt,by rw[upd_ne nB.symm];exact h1,by rw[upd_ne nL.symm];exact h2,h3⟩
theorem BagAt.neL{H:Hp}{B L p:Addr}(b:BagAt H B L)(hp:H p=none):p≠L:=fun e=>by
 obtain⟨_,_,_,_,_,z,_⟩:=b
 rw[← e,hp] at z
 cases z
theorem BagAt.keep{H H':Hp}{B L:Addr}(b:BagAt H B L)(s:Same H H'):BagAt H' B L:=by
 obtain⟨ns,i,r,salt,h1,h2,h3⟩:=b
 exact⟨ns,i,r,salt,s _ _ h1,s _ _ h2,h3⟩
theorem Fr1.of{H H':Hp}{B:Addr}(s:Same H H'):Fr1 B H H':=fun b o _ h=>s b o h
structure Cl where
 n:Int
 u:Int
 hp:List Int
 rk:Int
def ClAt(H:Hp)(v:V)(c:Cl):Prop:=∃ r p h,v=.ref r∧H r=some (.tup [.ref p,.ref h,.int c.rk])∧H p=some (.tup [.int c.n,.int c.u])∧H h=some (.tup (c.hp.map V.int))
def ClsAt(H:Hp)(xs:List V)(cs:List Cl):Prop:=xs.length=cs.length∧∀(i:Nat) c,cs[i]?=some c→∃ v,xs[i]?=some v∧ClAt H v c
theorem ints_dens{H:Hp}:∀ hs:List Int,Dens H (hs.map Dt.int) (hs.map V.int)
 | []=>by unfold List.map Dens;rfl
 | x::hs=>by
  show Dens H (Dt.int x::hs.map Dt.int) (V.int x::hs.map V.int)
  unfold Dens
  exact⟨_,_,rfl,by unfold Den;rfl,ints_dens hs⟩
theorem dens1{H:Hp}{d:Dt}{ds:List Dt}{x:V}{xs:List V}(h:Den H d x)(h2:Dens H ds xs):Dens H (d::ds) (x::xs):=by
 unfold Dens
 exact⟨_,_,rfl,h,h2⟩
theorem dens0{H:Hp}:Dens H [] []:=by unfold Dens;rfl
theorem den_tup{H:Hp}{a:Addr}{xs:List V}{ds:List Dt}(h:H a=some (.tup xs))(h2:Dens H ds xs):Den H (.tup ds) (.ref a):=by unfold Den;exact⟨a,xs,rfl,h,h2⟩
theorem int_at{ns:List Int}{i:Nat}{y:V}(h:(ns.map V.int)[i]?=some y):∃ hi:i < ns.length,y=.int ns[i]:=by
 rw[List.getElem?_map] at h
 cases e:ns[i]? with
 | none=>rw[e] at h;cases h
 | some k =>
  rw[e] at h
  obtain⟨hi,e2⟩:=List.getElem?_eq_some_iff.mp e
  exact⟨hi,by rw[e2];exact (Option.some.inj h).symm⟩
def HeapsAt(H:Hp)(xs:List V)(m:Int):Prop:=∀ v∈xs,∃(t:Addr)(hs:List Int),v=.ref t∧H t=some (.tup (hs.map V.int))∧(hs.length:Int)≤m∧∀ x∈hs,0≤x∧x < m
def hp(m:Int):Int→List Int→Bool
 | _,[]=>true
 | l,x::r=>if x≤l∨m≤x then false else hp m x r
theorem sub_add:∀ p,p < 6→∀ j,j < 2 ^ p→Srt.sub (2 ^ p+j)=Srt.sub j++[Int.ofNat p]:=by decide +kernel
def OrdAt(H:Hp)(xs:List V)(n:Nat):Prop:=∃ ts:Nat→Addr,xs=(ordL n).map (fun i=>V.ref (ts i))∧∀ i,i < n→H (ts i)=some (.tup ((Srt.sub i).map V.int))
def oD(n:Nat):List Dt:=(ordL n).map fun i=>.tup ((Srt.sub i).map Dt.int)
theorem seq_cut{ta tb:L2.TS}{D:Ends}{σ:St}{H:Hp}(W:St→Hp→Prop)(h2:∀ σ' H',W σ' H'→tb D σ' H')(h1:∀ tb':L2.TS,(∀ σ' H',W σ' H'→tb' D σ' H')→tSeq ta tb' D σ H):tSeq ta tb D σ H:=h1 tb h2
theorem seq_cut2{t1 t2 tb:L2.TS}{D:Ends}{σ:St}{H:Hp}(W:St→Hp→Prop)(h2:∀ σ' H',W σ' H'→tb D σ' H')(h1:∀ tb':L2.TS,(∀ σ' H',W σ' H'→tb' D σ' H')→(tSeq t1 (tSeq t2 tb')) D σ H):(tSeq t1 (tSeq t2 tb)) D σ H:=h1 tb h2
theorem seq_cut5{t1 t2 t3 t4 t5 tb:L2.TS}{D:Ends}{σ:St}{H:Hp}(W:St→Hp→Prop)(h2:∀ σ' H',W σ' H'→tb D σ' H')(h1:∀ tb':L2.TS,(∀ σ' H',W σ' H'→tb' D σ' H')→(tSeq t1 (tSeq t2 (tSeq t3 (tSeq t4 (tSeq t5 tb'))))) D σ H):(tSeq t1 (tSeq t2 (tSeq t3 (tSeq t4 (tSeq t5 tb))))) D σ H:=h1 tb h2
def OptH(H:Hp)(v:V):Option Nat→Prop
 | none=>v=.non
 | some i=>∃ t,v=.ref t∧H t=some (.tup ((Srt.sub i).map V.int))
theorem for_rangeN{lo:Int}{n:Nat}{g:TG}{tb:L2.TS}{D:Ends}{σ:St}{H:Hp}(Pv:Nat→St→Hp→Prop)(h0:Pv 0 σ H)
  (hs:∀ i σ H (N B:St→Hp→Prop),i < n→Pv i σ H→(∀ σ' H',Pv (i+1) σ' H'→N σ' H')→(∀ σ' H',D.nx σ' H'→B σ' H')→g (.int (lo+i)) σ H fun σ2 H2=>tb { nx:=N,rt:=D.rt,bk:=B,ct:=N } σ2 H2) (hd:∀ σ H,Pv n σ H→D.nx σ H) :
  ∃ W:Nat→Nat→St→Hp→Prop,(∃ m,W 0 m σ H)∧∀ i m σ H,W i m σ H →
   ((Itr lo n).stop i H∧D.nx σ H)∨((Itr lo n).go i H∧∃ N:St→Hp→Prop,(∀ σ' H',N σ' H'→∃ m',m' < m∧W (i+1) m' σ' H')∧∀ x H',(Itr lo n).yld i H x H'→g x σ H' fun σ2 H2=>tb { D with nx:=N,ct:=N,bk:=D.nx } σ2 H2) :=
 for_range Pv h0 (fun i σ H hi hp=>hs i σ H (Pv (i+1)) D.nx hi hp (fun _ _ h=>h) fun _ _ h=>h) hd
theorem qe_bmK{X:Cx}{K:PySem.W.Frag}(hK:X.K=K){o e:Expr}{es:List Expr}{to:TE}{t:TA}{name:Str}{apos cpos:Pos}{T id:String}{r:V→List V→Hp→VK→Prop}(pa:PlainAttrs T)(slot:PySem.Slot T name id)(hty:typeOf (.builtin id)=pure (.type "method_descriptor"))(hm:MtR X id r)(ho:QE X o to)(ha:QA X (e::es) t)
  (hbase:attributeBase o name X.env (eval o X.env)=eval o X.env:=by rfl)
  (hfew:((backTo cpos (starEach (e::es) X.env)).all (fun x=>!x.1) && (backToKw cpos (keywordEach [] X.env)).all (fun x=>x.1.isSome)
   && decide ((e::es).length+([]:List Keyword).length+(if ([]:List Keyword).isEmpty then 0 else 1) < 30))=true:=by rfl)
  (hline:(apos.endLine == cpos.line)=true:=by rfl) (hs:starEach (e::es) X.env=(false,eval e X.env)::starEach es X.env:=by rfl) (hplain:(backTo cpos (starEach es X.env)).any (·.1)=false:=by rfl) :
  QE X (.Call (.Attribute o name apos) (e::es) [] cpos) (tBM K T r to t):=hK▸qe_bm pa slot hty hm ho ha hbase hfew hline hs hplain
end Toy
namespace L2
open PySem
section
variable {σ:St}{H:Hp}{Q:VK}{D:Ends}{te ta tb:TE}{t u:TS}{c c':TT}{tr:TA}{QT:Bool→Hp→Prop}{QA:List V→Hp→Prop}{x y:V}{xs:List V}{v:V}{i j:Int}{p:Addr}
theorem i_tSeq(h:t { D with nx:=u D } σ H):tSeq t u D σ H:=h
theorem i_tIfS(h:c σ H fun b H1=>Brk b (t D σ H1) (u D σ H1) .mk .mk):tIfS c t u D σ H:=h
theorem i_tNext(h:D.nx σ H):tNext D σ H:=h
theorem i_tDrop(h:te σ H fun _ H1=>D.nx σ H1):tDrop te D σ H:=h
theorem i_tRet(h:te σ H D.rt):tRet te D σ H:=h
theorem i_tAsg{g:TG}(h:te σ H fun x H1=>g x σ H1 D.nx):tAsg te g D σ H:=h
theorem i_gName{k:Nat}{R:St→Hp→Prop}(h:R (σ.set k (some v)) H):gName k v σ H R:=h
theorem i_gSub{to ti:TE}{ts:TSet}{R:St→Hp→Prop}(h:to σ H fun o H1=>ti σ H1 fun i H2=>ts o i v H2 fun H3=>R σ H3):gSub to ti ts v σ H R:=h
theorem i_tAugS{to ti:TE}{tg:V→V→Hp→VK→Prop}{tp:TIp}{ts:TSet}(h:to σ H fun o H1=>ti σ H1 fun i H2=>tg o i H2 fun x H3=>te σ H3 fun y H4=>tp x y H4 fun z H5=>ts o i z H5 fun H6=>D.nx σ H6):tAugS to ti te tg tp ts D σ H:=h
theorem i_tVar{k:Nat}(e:σ[k]?=some (some v))(h:Q v H):tVar k σ H Q:=⟨v,e,h⟩
theorem i_tC(h:Q v H):tC v σ H Q:=h
theorem i_tB(h:te σ H fun x H1=>∃ c,x=.bl c∧QT c H1):tB te σ H QT:=h
theorem i_tTest(h:te σ H fun x H1=>∃ c,x=.bl c∧QT c H1):tTest te σ H QT:=h
theorem i_exB{b:Bool}{P:Bool→Prop}(h:P b):∃ c,V.bl b=V.bl c∧P c:=⟨b,rfl,h⟩
theorem i_tOp{r:R2}(h:ta σ H fun x H1=>tb σ H1 fun y H2=>r x y H2 Q):tOp r ta tb σ H Q:=h
theorem i_tUn{r:V→Hp→VK→Prop}(h:ta σ H fun x H1=>r x H1 Q):tUn r ta σ H Q:=h
theorem i_tCB{r:List V→Hp→VK→Prop}(h:tr σ H fun vs H1=>r vs H1 Q):tCB r tr σ H Q:=h
theorem i_tNil(h:QA [] H):tNil σ H QA:=h
theorem i_tCons(h:ta σ H fun x H1=>tr σ H1 fun xs H2=>QA (x::xs) H2):tCons ta tr σ H QA:=h
theorem i_tNot(h:c σ H fun b H1=>QT (!b) H1):tNot c σ H QT:=h
theorem i_tAnd(h:c σ H fun b H1=>Brk b (c' σ H1 QT) (QT false H1) .mk .mk):tAnd c c' σ H QT:=h
theorem i_tOr(h:c σ H fun b H1=>Brk b (QT true H1) (c' σ H1 QT) .mk .mk):tOr c c' σ H QT:=h
theorem i_tD{sp:Sp}{E:XK}(h:tr σ H fun vs H1=>sp vs H1 Q E):tD sp E tr σ H Q:=h
theorem i_rI0{g:Int→Int→V}(h:Q (g i j) H):rI0 g (.int i) (.int j) H Q:=⟨i,j,rfl,rfl,h⟩
theorem i_rI{C:Int→Int→Prop}{g:Int→Int→V}(hc:C i j)(h:Q (g i j) H):rI C g (.int i) (.int j) H Q:=⟨i,j,rfl,rfl,hc,h⟩
theorem i_rU{g:Int→V}(h:Q (g i) H):rU g (.int i) H Q:=⟨i,rfl,h⟩
theorem i_ixL(hp:H p=some (.lst xs))(e:atI xs i=some v)(h:Q v H):rIxF (.ref p) (.int i) H Q:=⟨p,xs,i,v,rfl,rfl,seqAt_lst hp,e,h⟩
theorem i_ixT(hp:H p=some (.tup xs))(e:atI xs i=some v)(h:Q v H):rIxF (.ref p) (.int i) H Q:=⟨p,xs,i,v,rfl,rfl,seqAt_tup hp,e,h⟩
theorem i_lenL(hp:H p=some (.lst xs))(h:Q (.int xs.length) H):rLenF [.ref p] H Q:=⟨p,xs,rfl,seqAt_lst hp,h⟩
theorem i_getL(hp:H p=some (.lst xs))(h0:0≤i)(e:atI xs i=some v)(h:Q v H):rGetF (.ref p) (.int i) H Q:=⟨p,xs,i,v,rfl,rfl,hp,h0,e,h⟩
theorem i_ipI{f:Int→Int→Int}(h:Q (.int (f i j)) H):ipI f (.int i) (.int j) H Q:=⟨i,j,rfl,rfl,h⟩
end
section
variable {σ:St}{H:Hp}{Q:VK}{D:Ends}{tr:TA}{xs:List V}{A B:Prop}{k:Tg A}{l:Tg B}{q:Prop}[Decidable q]
theorem i_brkT(h:A):Brk true A B k l:=brk (fun _=>h) (fun z=>by cases z)
theorem i_brkF(h:B):Brk false A B k l:=brk (fun z=>by cases z) (fun _=>h)
theorem i_brkP(hq:q)(h:A):Brk (decide q) A B k l:=brkD (fun _=>h) (fun z=>absurd hq z)
theorem i_brkN(hq:¬ q)(h:B):Brk (decide q) A B k l:=brkD (fun z=>absurd z hq) (fun _=>h)
end
end L2
namespace Toy
open PySem L2
open PySem.Builtin.Int (intBits)
def num(U:Int)(p:Int×Int):Int:=p.1*(U / p.2)
structure Ok(U:Int)(p:Int×Int):Prop where
 pos:0 < p.2
 dvd:p.2∣U
 cop:Int.gcd p.1 p.2=1
def low(n u:Int):Int×Int:=(lowN n u,lowU n u)
structure UOk(U:Int):Prop where
 pos:0 < U
 sz:Sz 4000 U
structure PtOk(U:Int)(k:Nat)(p:Int×Int):Prop extends Ok U p where
 sz:Sz k (num U p)
def RowU(U:Int)(k:Nat)(H:Hp)(xs:List V)(ps:List (Int×Int)):Prop:=xs.length=ps.length∧∀(i:Nat) p,ps[i]?=some p→∃ r,xs[i]?=some (.ref r)∧H r=some (.tup [.int p.1,.int p.2])∧PtOk U k p
structure Lvl(R D:Nat→Int)(n:Nat)(r:Int×Int):Prop where
 pos:0 < r.2
 cop:Int.gcd r.1 r.2=1
 one:r.1≤r.2
 le:∀ i,i < n→0 < D i→r.1*D i≤R i*r.2
 at':r=(1,1)∨∃ i,i < n∧0 < D i∧r.1*D i=R i*r.2
structure Du(U:Int)(k:Nat)(n u:Int):Prop where
 pt:PtOk U k (n,u)
 nn:0≤n
def RowsAt(X:List Addr)(U:Int)(k:Nat)(H:Hp)(zs:List V)(rss:List (List (Int×Int))):Prop:=zs.length=rss.length∧zs.Nodup∧∀(i:Nat) r,rss[i]?=some r→∃ l xs,zs[i]?=some (.ref l)∧H l=some (.lst xs)∧RowU U k H xs r∧l∉X
end Toy
namespace Toy
open PySem L2
open PySem.Builtin.Int (intBits)
end Toy
namespace L2
open PySem
section
variable {σ:St}{H:Hp}{Q:VK}{D:Ends}{te ta tb:TE}{t u:TS}{c c':TT}{tr:TA}{x y:V}{xs ys:List V}{v:V}{i j:Int}{p:Addr}
theorem i_setN{R:Hp→Prop}{k:Nat}(hp:H p=some (.lst xs))(e:ixN xs.length i=some k)(ey:xs.set k v=ys)(h:∀ H',H' p=some (.lst ys)→Fr1 p H H'→R H'):rSetL (.ref p) (.int i) v H R :=
 ⟨p,xs,i,k,rfl,rfl,hp,e,ey▸h _ (ey▸upd_same) Fr1.upd⟩
theorem mul_mod_ok{a b:Int}:IntMulOk (a % 2147483647) (b % 2147483647):=Sz.okR (k:=31) (Sz.of (by
 have h1:=Int.emod_nonneg b (by decide:(2147483647:Int)≠0)
 have h2:=Int.emod_lt_of_pos b (by decide:(0:Int) < 2147483647)
 omega)) (by decide)
def NewO(f:List V→HO)(xs:List V)(H:Hp)(Q:VK):Prop:=xs.length≤sizeLine∧∀ p,H p=none→Q (.ref p) (upd H p (f xs))
theorem i_tTup(h:tr σ H fun xs H1=>NewO HO.tup xs H1 Q):tTup tr σ H Q:=h
theorem i_tLst(h:tr σ H fun xs H1=>NewO HO.lst xs H1 Q):tLst tr σ H Q:=h
theorem i_NewO{f:List V→HO}(hl:xs.length≤64)(h:∀ p H',H p=none→Same H H'→H' p=some (f xs)→Q (.ref p) H'):NewO f xs H Q :=
 ⟨Nat.le_trans hl (by decide),fun p hp=>h p _ hp (Same.new hp) upd_same⟩
theorem i_tBM{K:PySem.W.Frag}{T:String}{r:V→List V→Hp→VK→Prop}{to:TE}(h:to σ H fun x H1=>tyV K T x H1∧tr σ H1 fun xs H2=>r x xs H2 Q):tBM K T r to tr σ H Q:=h
end
end L2
namespace Toy
open PySem L2
end Toy
namespace L2
open PySem PySem.Spec PyProof.Rows
def Its(x:Str):It:=⟨fun i _=>i < x.cps.size,fun i H v H'=>H'=H∧∃ c,x.cps[i]?=some c∧v=.str ⟨#[c]⟩,fun i _=>x.cps.size≤i⟩
theorem turn_str{P:Program}{w:World}{K:PySem.W.Frag}{tg:Expr}(x:Str)(t:Tok)(it:Addr):Turn P w K tg (Its x) [it] it (fun i h=>h.IsStrIter it "str_ascii_iterator" x t i) where
 mem:=by simp
 obj:=fun i h st b hb=>by
  have e:b=it:=by simpa using hb
  subst e
  obtain⟨o,e,c,d⟩:=st
  exact⟨o,e,fun v z=>by rw[d] at z;cases z⟩
 keep:=fun i h h' st k=>let ⟨o,ho,r⟩:=st;⟨o,k it (by simp) o ho,r⟩
 item:=by
  intro X hP hw hK hc i pins s σ H E I hf st hg
  subst hP hw hK
  have hg':i < x.cps.size:=hg
  obtain⟨f0,f1,f2,f3,f4,f5⟩:=hf it (by simp)
  refine wpAny_pyNext_ascii_item st (c:=x.cps[i]) (by simp[hg']) fun h' st' sb=>?_
  have I1:Inv X pins σ H { s with heap:=h',toks:=s.toks+1 }:=I.turned (t':=s.toks+1) (fun b o hb e=>(sb.2 b hb).trans e) f0 f1 f3 f4 f5
  obtain⟨o,e,c,d⟩:=id st'
  exact⟨_,rfl,go_of (s:={ s with heap:=h',toks:=s.toks+1 }) e c d (by decide) ⟨.str ⟨#[x.cps[i]]⟩,H,I1,⟨_,rfl⟩,⟨rfl,_,by simp[hg'],rfl⟩,st',fun b hb=>(hf b hb).1⟩⟩
 done:=by
  intro X hP hw hK hc i pins s σ H E I hf st hg
  subst hP hw hK
  have hg':x.cps.size≤i:=hg
  obtain⟨f0,f1,f2,f3,f4,f5⟩:=hf it (by simp)
  exact wpAny_pyNext_ascii_end (I.ok.hd hc) st (by simp[hg']) fun h' eb=>⟨rfl,I.turned (t':=s.toks) (fun b o hb e=>eb b o hb e) f0 f1 f3 f4 f5⟩
 self:=fun _ _ _ _ _ st h=>wpAny_pyIter_striter_ascii st h
section
variable {X:Cx}{tg:Expr}
def iStr(tl:TE):TI:=fun σ H R=>tl σ H fun x H1=>∃ z,x=.str z∧z.cps.all (· < 128)=true∧R (Its z) H1
theorem pi_str{l:Expr}{tl:TE}(hl:PE X l tl):PI X tg l (iStr tl):=by
 intro pins s σ H R I h
 refine thn (hl pins s σ H _ I h) fun v s1 ⟨x,H1,I1,r1,q1⟩=>?_
 obtain⟨z,e,ha,q⟩:=q1
 subst e
 obtain⟨t,rfl⟩:=r1
 refine wpAny_pyIter_ascii ha ?_
 refine⟨s1.heap.objs.size,[s1.heap.objs.size],_,_,H1,rfl,I1.kept (t':=s1.toks) fun b o e=>Heap.get?_push_of_some _ e,turn_str z t _,⟨_,Heap.get?_push_size _ rfl,rfl,rfl⟩,fun b hb=>?_,q⟩
 have e:b=s1.heap.objs.size:=by simpa using hb
 subst e
 exact I1.fpOk (Nat.le_refl _) (I1.hok.fresh (Nat.le_refl _))
theorem qi_str{l:Expr}{tl:TE}(hl:QE X l tl):QI X tg l (iStr tl):=⟨pi_str hl.p⟩
def rSlS:V→Option Int→Option Int→Hp→VK→Prop:=fun x lo hi H Q=>∃ z,x=.str z∧z.length≤sizeLine∧Q (.str (Txt.slice z lo hi)) H
theorem sl_str:SlR X rSlS:=by
 intro pins s σ H x v vl vu lo hi sl Q I rx hs pl pu h
 obtain⟨z,rfl,hz,q⟩:=h
 obtain⟨t,rfl⟩:=rx
 refine⟨"str", _,F.slot_str_getitem.lookup,typeIs_str _ _ _,?_⟩
 have fin:∀ l u:Option (Int×Tok),s.heap.IsSlice sl l u none→Q (.str (Txt.slice z (l.map (·.1)) (u.map (·.1)))) H→wpAny (model X.prog X.w) X.A (getItem (.str z t) (.ref sl)) (EP X pins σ Q) X.xe s:=fun l u hs q =>
  wpAny_getItem_str_slice (l:=l) (u:=u) (st:=none) hs rfl (post_val_or_str ⟨Nat.le_trans (Txt.slice_le z _ _) hz,fun t' k=>⟨.str _,H,I.tok k,⟨_,rfl⟩,q⟩⟩)
 cases pl with
 | none =>
  cases pu with
  | none=>exact fin none none hs q
  | int j uj=>exact fin none (some (j,uj)) hs q
 | int i ui =>
  cases pu with
  | none=>exact fin (some (i,ui)) none hs q
  | int j uj=>exact fin (some (i,ui)) (some (j,uj)) hs q
def rJoin:V→List V→Hp→VK→Prop:=fun x vs H Q=>∃ z l ys,x=.str z∧vs=[.ref l]∧H l=some (.lst (ys.map V.str))∧(ys.map (·.length)).sum+ys.length*z.length≤16777216∧Q (.str (Txt.join z ys)) H
theorem strs_of:∀{ys:List Str}{us:List Value},Vals (ys.map V.str) us→StrsAre us ys
 | [],_,.nil=>.nil
 | y::ys,_,.cons r t=>by
  obtain⟨k,rfl⟩:=r
  exact .cons y k (strs_of t)
theorem mt_join:MtM X "str.join" rJoin:=by
 intro pins s σ H x vs v us Q I rx rv h
 obtain⟨z,l,ys,rfl,rfl,hH,hz,q⟩:=h
 obtain⟨t,rfl⟩:=rx
 obtain⟨u,rfl,ru⟩:=rv.one
 cases ru
 obtain⟨its,r,p,_⟩:=I.list (SqL.of hH)
 exact join_list p.isList (by simpa using strs_of r) hz fun t' k=>⟨.str (Txt.join z ys),H,I.tok _,⟨_,rfl⟩,q⟩
end
theorem comp_strR{z:Str}{l:Addr}{n:Nat}{js:List Nat}{g:TG}{tt:TT}{te:TE}{σ:St}{H1:Hp}{R:Hp→Prop}(Pv:Nat→List V→Hp→Prop)(h0:Pv 0 [] (upd H1 l (.lst [])))
  (hs:∀ i c acc H,z.cps[i]?=some c→Pv i acc H→g (.str ⟨#[c]⟩) (compSt n js σ) H fun σ2 H2=>tt σ2 H2 fun b H3=>if b=true then te σ2 H3 fun y H4=>H4 l=some (.lst acc)∧acc.length < sizeLine∧Pv (i+1) (acc++[y]) (upd H4 l (.lst (acc++[y]))) else Pv (i+1) acc H3)
  (hd:∀ acc H,Pv z.cps.size acc H→R H) :
  ∃ W:Nat→Nat→List V→Hp→Prop,(∃ m,W 0 m [] (upd H1 l (.lst [])))∧∀ i m acc H,W i m acc H →
   ((Its z).stop i H∧R H)∨((Its z).go i H∧∃ N:List V→Hp→Prop,(∀ acc' H',N acc' H'→∃ m',m' < m∧W (i+1) m' acc' H') ∧
    ∀ x H',(Its z).yld i H x H'→g x (compSt n js σ) H' fun σ2 H2=>tt σ2 H2 fun b H3=>if b=true then te σ2 H3 fun y H4=>H4 l=some (.lst acc)∧acc.length < sizeLine∧N (acc++[y]) (upd H4 l (.lst (acc++[y]))) else N acc H3):=by
 refine⟨fun i m acc H=>m=z.cps.size - i∧i≤z.cps.size∧Pv i acc H,⟨z.cps.size,by simp,Nat.zero_le _,h0⟩,?_⟩
 rintro i m acc H ⟨rfl,hi,p⟩
 by_cases hlt:i < z.cps.size
 ·refine .inr ⟨hlt,Pv (i+1),fun acc' H' p'=>⟨z.cps.size - (i+1),by omega,rfl,hlt,p'⟩,fun x H' y=>?_⟩
  obtain⟨e,c,hc,y⟩:=y
  subst e y
  exact hs i c acc _ hc p
 ·have e:i=z.cps.size:=by omega
  subst e
  exact .inl ⟨Nat.le_refl _,hd acc H p⟩
def LET:Str:=⟨#[97,98,99,100,101,102,103,104,105,106,107,108,109,110,111,112,113,114,115,116,117,118,119,120,121,122]⟩
def lowC(c:Nat):Bool:=decide (97≤c) && decide (c≤122)
theorem let_in:∀ c,c < 128→(!(Builtin.Str.occurrences LET ⟨#[c]⟩ 0 LET.length 1).isEmpty)=lowC c:=by decide +kernel
theorem let_eq:Str.ofString "abcdefghijklmnopqrstuvwxyz" = LET:=by decide +kernel
theorem qe_globS{X:Cx}{x z y:Str}{pos:Pos}(hg:Gl X x)(hm:∃ t,X.mg x=some (.str y t))(e:y=z)(hd:(x == ("__debug__" : Str))=false:=by decide):QE X (.Name x pos) (tC (.str z)):=by
 obtain⟨t,hm⟩:=hm
 subst e
 exact⟨pe_glob hg hm ⟨t,rfl⟩ hd⟩
section
variable {H:Hp}{Q:VK}{z y:Str}{i:Int}
theorem i_ixS{c:Nat}(hz:z.length≤1000)(e:atI z.cps.toList i=some c)(h:Q (.str ⟨#[c]⟩) H):rIxS (.str z) (.int i) H Q:=⟨z,i,c,rfl,rfl,Nat.le_trans hz (by decide),e,h⟩
theorem i_tAndV{ta tb:TE}{σ:St}(h:ta σ H fun x H1=>∃ c,x=.bl c∧Brk c (tb σ H1 Q) (Q (.bl false) H1) .mk .mk):tAndV ta tb σ H Q:=h
theorem i_tChain{r r':R2}{ta tb tc:TE}{σ:St}(h:ta σ H fun x H1=>tb σ H1 fun y H2=>r x y H2 fun z H3=>∃ k,z=.bl k∧Brk k (tc σ H3 fun w' H4=>r' y w' H4 Q) (Q (.bl false) H3) .mk .mk):tChain r r' ta tb tc σ H Q:=h
theorem i_slS{lo hi:Option Int}(hz:z.length≤1000)(h:Q (.str (Txt.slice z lo hi)) H):rSlS (.str z) lo hi H Q:=⟨z,rfl,Nat.le_trans hz (by decide),h⟩
end
def sg(z:Str):List Nat:=z.cps.toList
theorem sg_len(z:Str):(sg z).length=z.length:=by unfold sg Str.length;simp
theorem sg_add(a b:Str):sg (a++b)=sg a++sg b:=by
 show (a.cps++b.cps).toList=_
 rw[Array.toList_append]
 rfl
theorem sg_slice{z:Str}{lo hi:Option Int}{c:Nat}(h:c∈sg (Txt.slice z lo hi)):c∈sg z:=by
 unfold Txt.slice at h
 split at h
 ·exact h
 ·obtain⟨i,_,e⟩:=List.mem_filterMap.mp (show c∈List.filterMap _ _ from h)
  unfold sg
  exact Array.mem_toList_iff.mpr (Array.mem_of_getElem? e)
theorem sg_join:∀ cs:List Nat,sg (Txt.join ⟨#[]⟩ (cs.map fun c=>(⟨#[c]⟩:Str)))=cs:=by
 have go:∀(cs:List Nat)(acc:Array Nat),((cs.map fun c=>(⟨#[c]⟩:Str)).foldl (fun acc p=>acc++(#[]:Array Nat)++p.cps) acc).toList=acc.toList++cs:=by
  intro cs
  induction cs with
  | nil=>intro acc;simp
  | cons c r ih =>
   intro acc
   rw[List.map_cons,List.foldl_cons,ih]
   simp
 intro cs
 cases cs with
 | nil=>rfl
 | cons c r=>exact (go r #[c]).trans (by simp)
theorem asc_of{z:Str}(h:∀ c∈sg z,c < 128):z.cps.all (· < 128)=true:=by
 rw[Array.all_eq_true']
 intro c hc
 simpa using h c (Array.mem_toList_iff.mpr hc)
theorem sg_take{α:Type}(f:Nat→α){z:Str}{i c:Nat}(h:z.cps[i]?=some c):((sg z).take (i+1)).map f=((sg z).take i).map f++[f c]:=by
 have h':(sg z)[i]?=some c:=by unfold sg;simpa using h
 obtain⟨hi,e⟩:=List.getElem?_eq_some_iff.mp h'
 rw[List.take_succ_eq_append_getElem hi,List.map_append,e]
 rfl
theorem sg_mem{z:Str}{i c:Nat}(h:z.cps[i]?=some c):c∈sg z:=Array.mem_toList_iff.mpr (Array.mem_of_getElem? h)
theorem sg_size(z:Str):z.cps.size=(sg z).length:=by unfold sg;simp
theorem same_put{H H2:Hp}{l:Addr}{o:HO}(hl:H l=none)(s:Same H H2):Same H (upd H2 l o):=fun b u hb=>by
 rw[upd_ne (fun z=>by rw[z,hl] at hb;cases hb)]
 exact s b u hb
def nameB(z:Str):Bool:=decide (1≤z.length) && (decide (z.length≤8) && (sg z).all lowC)
end L2
namespace Toy
open PySem L2
section
variable {I:List Nat}{q hq:Nat→Bool}{a x x':Nat→Int}{n d:Int}
end
end Toy
namespace L2
open PySem
def Ris(xs:Array Nat):Prop:=xs.toList.Pairwise (· < ·)
def stand(xs:Array Nat):Nat→Nat
 | 0=>0
 | i+1=>xs.getD i 0+1
structure TabOk(L:Bool)(t:SetTable):Prop where
 ris:Ris t.place
 dum:t.dummies=#[]
 led:t.led=L
def keyOf:Int×Value→Int
 | (_,.int k _)=>k
 | _=>0
abbrev setO(es:Array (Int×Value))(ep:Nat)(t:SetTable):Obj:={ cls:=.type "set", dict:=none,data:=.set es ep t }
structure SetAt(h:Heap)(S:Addr)(L:Bool)(es:Array (Int×Value))(ep:Nat)(t:SetTable):Prop where
 at':h.get? S=some (setO es ep t)
 sh:∀ e∈es.toList,∃ k tk,e=(hashInt k,Value.int k tk)
 nd:(es.toList.map keyOf).Nodup
 sz:es.size < 100
 fit:t.fits es.size=true
 tab:TabOk L t
section
variable {prog:Program}{w:World}{A:Around}{E:Value→Shared→Prop}{s:Shared}{S:Addr}{L:Bool}{es:Array (Int×Value)}{ep:Nat}{t:SetTable}
end
end L2
namespace L2
open PySem
section
variable {prog:Program}{w:World}{A:Around}{E:Value→Shared→Prop}{s:Shared}
abbrev byT(w:World):Bool:=w.params.followText "set-order"
end
end L2
namespace L2
open PySem
section
variable {prog:Program}{w:World}{A:Around}{E:Value→Shared→Prop}{s:Shared}
variable {S:Addr}{es:Array (Int×Value)}{ep:Nat}{t:SetTable}
end
end L2
namespace L2
open PySem
section
variable {prog:Program}{w:World}{A:Around}{E:Value→Shared→Prop}{s:Shared}{S:Addr}{es:Array (Int×Value)}{ep:Nat}{t:SetTable}
end
end L2
namespace L2
open PySem
section
variable {prog:Program}{w:World}{A:Around}{E:Value→Shared→Prop}{s:Shared}{S:Addr}{es:Array (Int×Value)}{ep:Nat}{t:SetTable}
end
end L2
namespace L2
open PySem
section
variable {X:Cx}{e:Expr}{te:TE}{p1 p2 p3 p4:Pos}
end
end L2
namespace L2
open PySem PySem.Spec PyProof.Rows
section
variable {X:Cx}{e:Expr}{te:TE}{p1 p2 p3 p4:Pos}
end
end L2
namespace L2
open PySem PyProof.Rows PySem.SeqAt
section
variable {X:Cx}
end
end L2
namespace L2
open PySem PyProof.Rows PySem.SeqAt
section
variable {X:Cx}
def rInT:R2:=fun x y H Q=>∃(a p:Addr)(ts:List Int)(js:List Nat)(f:Nat→Addr)(g:Nat→List Int),x=.ref a∧y=.ref p∧H a=some (.tup (ts.map V.int))∧H p=some (.lst (js.map fun i=>V.ref (f i)))∧(∀ i∈js,H (f i)=some (.tup ((g i).map V.int)))∧Q (.bl (js.any fun i=>decide (g i=ts))) H
theorem cmp_tI{k:Nat}(a b:List Int):Cmp (k+1) (.tup (a.map Dt.int)) (.tup (b.map Dt.int)):=by
 unfold Cmp
 intro j d e h1 h2
 rw[List.getElem?_map] at h1 h2
 obtain⟨x,_,rfl⟩:=Option.map_eq_some_iff.mp h1
 obtain⟨y,_,rfl⟩:=Option.map_eq_some_iff.mp h2
 unfold Cmp
 trivial
theorem vals_refs:∀{l:List Addr}{us:List Value},Vals (l.map V.ref) us→us=l.map Value.ref
 | [],_,.nil=>rfl
 | a::l,_,.cons r t=>by
  cases r
  rw[List.map_cons,vals_refs t]
end
end L2
namespace HT
open PySem PySem.Spec PyProof.Rows
section
variable {prog:Program}{w:World}{A:Around}{E:Value→Shared→Prop}{s:Shared}
end
end HT
namespace L2
open PySem PySem.Spec PyProof.Rows
section
variable {X:Cx}
end
end L2
namespace Z3
open PySem PySem.Spec PyProof.Rows
theorem tc(a b c:Value):checkTypeCall "zip" ⟨[a,b,c],[]⟩=pure ():=by kernel_rfl
theorem nc(a b c:Value):checkBuiltinCall "zip.__new__" ⟨[.type "zip", a,b,c],[]⟩=pure ():=by kernel_rfl
theorem ac(a b c d:Value):argsOk "object.__init__" ⟨[a,b,c,d],[]⟩:=by
 unfold argsOk
 rw[signature?_of (id := "object.__init__")
  (n:=['_','_','t','i','n','i','_','_'])
  (o:=['t','c','e','j','b','o'])
  (by kernel_rfl) PySem.F.owner_object]
 kernel_rfl
structure Ap(n l1 l2 l3:Nat):Prop where
 a1:l1 < n
 a2:l2 < n
 a3:l3 < n
theorem dif{a b:Nat}(h:a < b∨b < a):(show Addr from a)≠(show Addr from b):=fun e=>by
 have e:a=b:=e
 omega
section
variable {prog:Program}{w:World}{A:Around}{E:Value→Shared→Prop}{s:Shared}
abbrev hp1(h:Heap)(l1:Addr):Heap:=h.push { cls:=.type "list_iterator", data:=.fields #[.ref l1,.int 0 0] }
abbrev hp2(h:Heap)(l1 l2:Addr):Heap:=hp1 (hp1 h l1) l2
abbrev hp3(h:Heap)(l1 l2 l3:Addr):Heap:=hp1 (hp2 h l1 l2) l3
abbrev hp4(h:Heap)(l1 l2 l3:Addr):Heap:=(hp3 h l1 l2 l3).push { cls:=.type "tuple", data:=.seq #[.ref h.objs.size,.ref (hp1 h l1).objs.size,.ref (hp2 h l1 l2).objs.size] }
abbrev hp5(h:Heap)(l1 l2 l3:Addr):Heap:=(hp4 h l1 l2 l3).push { cls:=.type "tuple", data:=.seq #[.none,.none,.none] }
abbrev hp6(h:Heap)(l1 l2 l3:Addr):Heap:=(hp5 h l1 l2 l3).push { cls:=.type "zip", data:=.fields #[.none,.bool false,.bool false,.ref (hp3 h l1 l2 l3).objs.size,.ref (hp4 h l1 l2 l3).objs.size] }
end
end Z3
namespace L2
open PySem PySem.Spec PyProof.Rows Z3
section
variable {X:Cx}
end
end L2
namespace L2
open PySem PySem.Spec PyProof.Rows
end L2
namespace ZT
open PySem PySem.Spec PyProof.Rows
abbrev IsPr(h:Heap)(T:Addr)(a b:Value):Prop:=h.get? T=some { cls:=.type "tuple", data:=.seq #[a,b] }
theorem tc(a b:Value):checkTypeCall "zip" ⟨[a,b],[]⟩=pure ():=by kernel_rfl
theorem nc(a b:Value):checkBuiltinCall "zip.__new__" ⟨[.type "zip", a,b],[]⟩=pure ():=by kernel_rfl
theorem ac(a b d:Value):argsOk "object.__init__" ⟨[a,b,d],[]⟩:=by
 unfold argsOk
 rw[signature?_of (id := "object.__init__")
  (n:=['_','_','t','i','n','i','_','_'])
  (o:=['t','c','e','j','b','o'])
  (by kernel_rfl) PySem.F.owner_object]
 kernel_rfl
structure Ap(n l1 l2:Nat):Prop where
 a1:l1 < n
 a2:l2 < n
section
variable {prog:Program}{w:World}{A:Around}{E:Value→Shared→Prop}{s:Shared}
theorem nxT{it l:Addr}{i:Nat}{items:Array Value}{x:Value}{Q:Value→Shared→Prop}(hit:s.heap.IsTupleIter it l i)
  (hl:s.heap.IsTuple l items) (hx:items[i]?=some x)
  (hQ:∀ h',h'.IsTupleIter it l (i+1)→Heap.SameBut it s.heap h'→Q x { s with heap:=h' }) :
  wpAny (model prog w) A (Builtin.SmallTypes.nextOf (.ref it)) Q E s:=by
 obtain⟨o,ho,hc,hd⟩:=id hit
 obtain⟨ol,hol,_,nl,hdl⟩:=hl
 unfold Builtin.SmallTypes.nextOf
 refine wpAny_bind (wpAny_callSpecial?_slot (name:=Str.ofString "__next__") hit.typeIs F.slot_tuple_iterator_next
  (wpAny_call_entry F.slot_tuple_iterator_next hit.typeIs F.entry_tuple_iterator_next ?_ (F.args_tuple_iterator_next_1 _)))
 show wpAny _ _ (field (.ref it) 0 >>= _) _ _ s
 refine wpAny_bind (wpAny_field ho hd (x:=.ref l) rfl ?_)
 show wpAny _ _ (if (Value.ref l == Value.none)=true then _ else _) _ _ s
 rw[if_neg (show ¬ ((Value.ref l == Value.none)=true) from Bool.false_ne_true)]
 show wpAny _ _ (field (.ref it) 1 >>= _) _ _ s
 refine wpAny_bind (wpAny_field ho hd (x:=.int i 0) rfl ?_)
 show wpAny _ _ (seqItems? (.ref l) >>= _) _ _ s
 refine wpAny_bind (wpAny_seqItems hol hdl ?_)
 simp only[Int.toNat_natCast,hx]
 refine wpAny_bind (wpAny_setField ho hd (by simp) (wpAny_pure ⟨x,rfl,wpAny_pure (hQ _ ?_ (Heap.SameBut.update ..))⟩))
 exact⟨_,Heap.get?_update_self _ ho (Obj.isFreed_of_fields (Obj.data_mapFields hd _)),(Obj.cls_mapFields ..).trans hc,by
  rw[Obj.data_mapFields hd];simp[rawInt]⟩
theorem nxE{it l:Addr}{i:Nat}{items:Array Value}{Q:Value→Shared→Prop}(hh:A.handled=none)
  (hit:s.heap.IsTupleIter it l i) (hl:s.heap.IsTuple l items) (hx:items[i]?=none)
  (hE:∀ h' e,Heap.ExtBut it s.heap h'→(∃ o,h'.get? e=some o∧o.cls=.type "StopIteration")→E (.ref e) { s with heap:=h' }) :
  wpAny (model prog w) A (Builtin.SmallTypes.nextOf (.ref it)) Q E s:=by
 obtain⟨o,ho,hc,hd⟩:=id hit
 obtain⟨ol,hol,_,nl,hdl⟩:=hl
 unfold Builtin.SmallTypes.nextOf
 refine wpAny_bind (wpAny_callSpecial?_slot (name:=Str.ofString "__next__") hit.typeIs F.slot_tuple_iterator_next
  (wpAny_call_entry F.slot_tuple_iterator_next hit.typeIs F.entry_tuple_iterator_next ?_ (F.args_tuple_iterator_next_1 _)))
 show wpAny _ _ (field (.ref it) 0 >>= _) _ _ s
 refine wpAny_bind (wpAny_field ho hd (x:=.ref l) rfl ?_)
 show wpAny _ _ (if (Value.ref l == Value.none)=true then _ else _) _ _ s
 rw[if_neg (show ¬ ((Value.ref l == Value.none)=true) from Bool.false_ne_true)]
 show wpAny _ _ (field (.ref it) 1 >>= _) _ _ s
 refine wpAny_bind (wpAny_field ho hd (x:=.int i 0) rfl ?_)
 show wpAny _ _ (seqItems? (.ref l) >>= _) _ _ s
 refine wpAny_bind (wpAny_seqItems hol hdl ?_)
 simp only[Int.toNat_natCast,hx]
 refine wpAny_bind (wpAny_rule (wpAny_bind (wpAny_setField ho hd (by simp) ?_)))
 show wpAny _ _ (newExc (.type "StopIteration") [] >>= _) _ _ _
 refine wpAny_bind ?_
 simp only[newExc,newTuple]
 refine wpAny_bind (wpAny_newObj_type ?_ (by size_fits))
 refine wpAny_bind (m:=firstArgMember _ _) (wpAny_of_eq (a:=Value.none) (by first | rfl | (simp only[firstArgMember];rfl)) ?_)
 refine wpAny_newObj_type ?_ (by size_fits)
 simp only[raiseNew]
 refine wpAny_bind (wpAny_handled ?_)
 first | rw[show A.in1.handled=none from hh] | rw[hh]
 refine wpAny_bind (wpAny_pure (wpAny_throw ?_))
 exact hE _ _ (((Heap.SameBut.update ..).extBut.push _).push _) ⟨_,Heap.get?_push_size _ rfl,rfl⟩
theorem up2{T:Addr}{a b x:Value}{k:Nat}{Q:Unit→Shared→Prop}(hT:IsPr s.heap T a b)
  (h:∀ h',h'.get? T=some { cls:=.type "tuple", data:=.seq ((#[a,b]:Array Value).setIfInBounds k x) }→Heap.SameBut T s.heap h'→Q () { s with heap:=h' }) :
  wpAny (model prog w) A (updateSeq T (·.setIfInBounds k x)) Q E s:=by
 refine wpAny_updateSeq hT rfl (h _ ?_ (Heap.SameBut.update ..))
 rw[Heap.get?_update_self _ hT rfl]
 simp[Obj.mapSeq]
abbrev hp1(h:Heap)(l1:Addr):Heap:=h.push { cls:=.type "tuple_iterator", data:=.fields #[.ref l1,.int 0 0] }
abbrev hp2(h:Heap)(l1 l2:Addr):Heap:=hp1 (hp1 h l1) l2
abbrev hp4(h:Heap)(l1 l2:Addr):Heap:=(hp2 h l1 l2).push { cls:=.type "tuple", data:=.seq #[.ref h.objs.size,.ref (hp1 h l1).objs.size] }
abbrev hp5(h:Heap)(l1 l2:Addr):Heap:=(hp4 h l1 l2).push { cls:=.type "tuple", data:=.seq #[.none,.none] }
abbrev hp6(h:Heap)(l1 l2:Addr):Heap:=(hp5 h l1 l2).push { cls:=.type "zip", data:=.fields #[.none,.bool false,.bool false,.ref (hp2 h l1 l2).objs.size,.ref (hp4 h l1 l2).objs.size] }
theorem new2(l1 l2:Addr)(xs ys:Array Value) :
  Meets (Builtin.«zip.__new__» ⟨[.type "zip", .ref l1,.ref l2],[]⟩) (fun _ R s=>s.heap.IsTuple l1 xs∧s.heap.IsTuple l2 ys ∧
   R (.ok (.ret (.ref (hp5 s.heap l1 l2).objs.size))) { s with heap:=hp6 s.heap l1 l2 }) :=
 .of_wp fun prog w A R s h=>by
  obtain⟨hp,g,d,tk,os⟩:=s
  obtain⟨hl1,hl2,h⟩:=h
  have hsub:=sub_zip
  have hL1:Heap.IsTuple (Shared.heap ⟨hp,g,d,tk,os⟩) l1 xs:=hl1
  have hL2:Heap.IsTuple (Shared.heap ⟨hp1 hp l1,g,d,tk,os⟩) l2 ys:=by
   obtain⟨o,e,r⟩:=hl2
   exact⟨o,Heap.get?_push_of_some _ e,r⟩
  wp_walk using wpAny_pyIter_tuple hL1,wpAny_pyIter_tuple hL2
  exact⟨_,rfl,h⟩
theorem call2{l1 l2:Addr}{xs ys:Array Value}{Q:Value→Shared→Prop}(hl1:s.heap.IsTuple l1 xs)(hl2:s.heap.IsTuple l2 ys)
  (h:∀ h' n,n=s.heap.objs.size→IsZip h' (n+4) (n+2) (n+3) .none→IsPr h' (n+2) (.ref n) (.ref (n+1)) →
   IsPr h' (n+3) .none .none→h'.IsTupleIter n l1 0→h'.IsTupleIter (n+1) l2 0 →
   (∀ c o,s.heap.get? c=some o→h'.get? c=some o)→Q (.ref (n+4)) { s with heap:=h' }) :
  wpAny (model prog w) A (call (.type "zip") [.ref l1,.ref l2]) Q E s:=by
 refine callType_new F.called_zip (by decide) (tc _ _) (nc _ _) (fun obj=>ac obj _ _) F.entry_zip_new
  (new2 l1 l2 xs ys) ⟨hl1,hl2,?_⟩
 have z1:(hp1 s.heap l1).objs.size=s.heap.objs.size+1:=Heap.size_push ..
 have z2:(hp2 s.heap l1 l2).objs.size=s.heap.objs.size+2:=by rw[Heap.size_push,z1]
 have z4:(hp4 s.heap l1 l2).objs.size=s.heap.objs.size+3:=by rw[Heap.size_push,z2]
 have z5:(hp5 s.heap l1 l2).objs.size=s.heap.objs.size+4:=by rw[Heap.size_push,z4]
 have up {h:Heap} {o:Obj} {c:Addr} {u:Obj} (e:h.get? c=some u):(h.push o).get? c=some u:=Heap.get?_push_of_some _ e
 have g6:(hp6 s.heap l1 l2).get? (hp5 s.heap l1 l2).objs.size=some _:=Heap.get?_push_size _ rfl
 have g5:(hp6 s.heap l1 l2).get? (hp4 s.heap l1 l2).objs.size=some _:=up (Heap.get?_push_size _ rfl)
 have g4:(hp6 s.heap l1 l2).get? (hp2 s.heap l1 l2).objs.size=some _:=up (up (Heap.get?_push_size _ rfl))
 have g2:(hp6 s.heap l1 l2).get? (hp1 s.heap l1).objs.size=some _:=up (up (up (Heap.get?_push_size _ rfl)))
 have g1:(hp6 s.heap l1 l2).get? s.heap.objs.size=some _:=up (up (up (up (Heap.get?_push_size _ rfl))))
 show _∧_
 rw[z2,z4,z5] at g6
 rw[z4] at g5
 rw[z1,z2] at g4
 rw[z1] at g2
 rw[z5]
 exact⟨⟨_,g6,rfl⟩,h _ _ rfl g6 g4 g5 ⟨_,g1,rfl,rfl⟩ ⟨_,g2,rfl,rfl⟩ fun c o x=>up (up (up (up (up x))))⟩
theorem item2{n l1 l2:Addr}{k:Nat}{xs ys:Array Value}{x y a b:Value}{Q:Option Value→Shared→Prop}(D:Ap n l1 l2)
  (hz:IsZip s.heap (n+4) (n+2) (n+3) .none) (hTI:IsPr s.heap (n+2) (.ref n) (.ref (n+1))) (hTO:IsPr s.heap (n+3) a b)
  (h1:s.heap.IsTupleIter n l1 k) (h2:s.heap.IsTupleIter (n+1) l2 k) (hl1:s.heap.IsTuple l1 xs) (hl2:s.heap.IsTuple l2 ys) (hx:xs[k]?=some x) (hy:ys[k]?=some y)
  (hQ:∀ h',IsZip h' (n+4) (n+2) (n+3) (rawInt s.heap.objs.size)→IsPr h' (n+3) x y→h'.IsTupleIter n l1 (k+1)→h'.IsTupleIter (n+1) l2 (k+1)→IsPr h' s.heap.objs.size x y →
   (∀ q o,q≠n+4→q≠n+3→q≠n→q≠n+1→s.heap.get? q=some o→h'.get? q=some o)→Q (some (.ref s.heap.objs.size)) { s with heap:=h' }) :
  wpAny (model prog w) A (pyNext (.ref (n+4))) Q E s:=by
 obtain⟨d1,d2⟩:=D
 have q0:n≠n+3:=Z3.dif (.inl (by omega))
 have q1:n+1≠n+3:=Z3.dif (.inl (by omega))
 have q3:n≠n+1:=Z3.dif (.inl (by omega))
 have z0:n≠n+4:=Z3.dif (.inl (by omega))
 have z1:n+1≠n+4:=Z3.dif (.inl (by omega))
 have z4:n+3≠n+4:=Z3.dif (.inl (by omega))
 have L1:∀ j,l1≠n+j:=fun j=>Z3.dif (.inl (by omega))
 have L2:∀ j,l2≠n+j:=fun j=>Z3.dif (.inl (by omega))
 have hT:s.TypeIs (.ref (n+4)) "zip" := ⟨_,hz,rfl⟩
 unfold pyNext
 refine wpAny_bind (wpAny_attempt (wpAny_callSpecial?_slot (name:=Str.ofString "__next__") hT F.slot_zip_next
  (wpAny_call_entry F.slot_zip_next hT F.entry_zip_next ?_ (F.args_zip_next_1 _))))
 show wpAny _ _ (field (.ref (n+4)) 2 >>= _) _ _ _
 refine wpAny_bind (wpAny_field hz rfl (x:=.bool false) rfl ?_)
 show wpAny _ _ (field (.ref (n+4)) 3 >>= _) _ _ _
 refine wpAny_bind (wpAny_field hz rfl (x:=.ref (n+2)) rfl ?_)
 refine wpAny_bind (wpAny_seqItems hTI rfl ?_)
 show wpAny _ _ (Builtin.SmallTypes.ownedTupleIsFree (.ref (n+4)) >>= _) _ _ _
 refine wpAny_bind ?_
 unfold Builtin.SmallTypes.ownedTupleIsFree
 refine wpAny_bind (wpAny_field hz rfl (x:=.none) rfl (wpAny_pure ?_))
 simp only[if_true]
 refine wpAny_bind (wpAny_rule ?_)
 refine wpAny_bind (wpAny_field hz rfl (x:=.ref (n+3)) rfl ?_)
 refine wpAny_bind (wpAny_setField_rec hz (by simp) fun g1 hz1 s1=>?_)
 replace hz1:IsZip g1 (n+4) (n+2) (n+3) .ellipsis:=hz1
 refine wpAny_bind ?_
 simp only[List.zipIdx_cons,List.zipIdx_nil,List.forIn_cons,List.forIn_nil]
 refine wpAny_bind (wpAny_bind (wpAny_onRaise ?_))
 show wpAny _ _ (Builtin.SmallTypes.nextOf (.ref n) >>= _) _ _ _
 refine wpAny_bind (nxT (h1.extBut s1.extBut z0) (hl1.extBut s1.extBut (L1 4)) hx fun g2 i1 s2=>wpAny_pure ?_)
 have t2:IsPr g2 (n+3) a b:=s2.extBut _ _ q0.symm (s1.extBut _ _ z4 hTO)
 refine wpAny_bind (wpAny_seqItems t2 rfl ?_)
 refine wpAny_bind (up2 t2 fun g3 t3 s3=>?_)
 replace t3:IsPr g3 (n+3) x b:=t3
 refine wpAny_bind (wpAny_letGo (wpAny_pure ?_))
 refine wpAny_bind (wpAny_bind (wpAny_onRaise ?_))
 show wpAny _ _ (Builtin.SmallTypes.nextOf (.ref (n+1)) >>= _) _ _ _
 refine wpAny_bind (nxT (((h2.extBut s1.extBut z1).extBut s2.extBut q3.symm).extBut s3.extBut q1)
  (((hl2.extBut s1.extBut (L2 4)).extBut s2.extBut (L2 0)).extBut s3.extBut (L2 3)) hy fun g4 i2 s4=>wpAny_pure ?_)
 have t4:IsPr g4 (n+3) x b:=s4.extBut _ _ q1.symm t3
 refine wpAny_bind (wpAny_seqItems t4 rfl ?_)
 refine wpAny_bind (up2 t4 fun g5 t5 s5=>?_)
 replace t5:IsPr g5 (n+3) x y:=t5
 refine wpAny_bind (wpAny_letGo (wpAny_pure (wpAny_pure ?_)))
 refine wpAny_bind (wpAny_seqItems t5 rfl ?_)
 refine wpAny_bind (wpAny_newTuple ?_)
 have hsz:g5.objs.size=s.heap.objs.size:=by rw[s5.1,s4.1,s3.1,s2.1,s1.1]
 have hz7:IsZip g5 (n+4) (n+2) (n+3) .ellipsis:=s5.extBut _ _ z4.symm (s4.extBut _ _ z1.symm (s3.extBut _ _ z4.symm (s2.extBut _ _ z0.symm hz1)))
 have kk:∀ q o,q≠n+4→q≠n+3→q≠n→q≠n+1→s.heap.get? q=some o→g5.get? q=some o:=fun q o c5 c4 c0 c1 e =>
  s5.extBut _ _ c4 (s4.extBut _ _ c1 (s3.extBut _ _ c4 (s2.extBut _ _ c0 (s1.extBut _ _ c5 e))))
 have j1:g5.IsTupleIter n l1 (k+1):=((i1.extBut s3.extBut q0).extBut s4.extBut q3).extBut s5.extBut q0
 have j2:g5.IsTupleIter (n+1) l2 (k+1):=i2.extBut s5.extBut q1
 have zlt:n+4 < g5.objs.size:=Heap.lt_size hz7
 show wpAny _ _ (Builtin.SmallTypes.ownedTupleHandOut (.ref (n+4)) (.ref g5.objs.size) >>= _) _ _ _
 refine wpAny_bind ?_
 unfold Builtin.SmallTypes.ownedTupleHandOut
 have hz8:IsZip (g5.push { cls:=.type "tuple", data:=.seq #[x,y] }) (n+4) (n+2) (n+3) .ellipsis:=Heap.get?_push_of_some _ hz7
 refine wpAny_bind (wpAny_setField_rec hz8 (by simp) fun g9 hz9 s9=>?_)
 replace hz9:IsZip g9 (n+4) (n+2) (n+3) (rawInt g5.objs.size):=hz9
 refine wpAny_setField_rec hz9 (by simp) fun g10 hz10 s10=>?_
 replace hz10:IsZip g10 (n+4) (n+2) (n+3) (rawInt g5.objs.size):=hz10
 have up:∀ q o,q≠n+4→g5.get? q=some o→g10.get? q=some o:=fun q o c1 e=>s10.extBut _ _ c1 (s9.extBut _ _ c1 (Heap.get?_push_of_some _ e))
 have tt:IsPr g10 g5.objs.size x y:=s10.extBut _ _ (Nat.ne_of_gt zlt) (s9.extBut _ _ (Nat.ne_of_gt zlt) (Heap.get?_push_size _ rfl))
 rw[hsz] at hz10 tt
 refine wpAny_pure ⟨_,rfl,wpAny_pure ?_⟩
 show Q (some (.ref g5.objs.size)) _
 rw[hsz]
 exact hQ g10 hz10 (up _ _ z4 t5) (j1.at fun o e=>up _ o z0 e) (j2.at fun o e=>up _ o z1 e) tt fun q o c5 c4 c0 c1 e=>up q o c5 (kk q o c5 c4 c0 c1 e)
theorem end2{n l1 l2:Addr}{k:Nat}{xs ys:Array Value}{x a b:Value}{Q:Option Value→Shared→Prop}(hh:A.handled=none)(D:Ap n l1 l2)
  (hz:IsZip s.heap (n+4) (n+2) (n+3) .none) (hTI:IsPr s.heap (n+2) (.ref n) (.ref (n+1))) (hTO:IsPr s.heap (n+3) a b)
  (h1:s.heap.IsTupleIter n l1 k) (h2:s.heap.IsTupleIter (n+1) l2 k) (hl1:s.heap.IsTuple l1 xs) (hl2:s.heap.IsTuple l2 ys) (hx:xs[k]?=some x) (hy:ys[k]?=none)
  (hQ:∀ h',(∀ q o,q≠n+4→q≠n+3→q≠n→q≠n+1→s.heap.get? q=some o→h'.get? q=some o)→Q none { s with heap:=h' }) :
  wpAny (model prog w) A (pyNext (.ref (n+4))) Q E s:=by
 obtain⟨d1,d2⟩:=D
 have q0:n≠n+3:=Z3.dif (.inl (by omega))
 have q1:n+1≠n+3:=Z3.dif (.inl (by omega))
 have q3:n≠n+1:=Z3.dif (.inl (by omega))
 have z0:n≠n+4:=Z3.dif (.inl (by omega))
 have z1:n+1≠n+4:=Z3.dif (.inl (by omega))
 have z4:n+3≠n+4:=Z3.dif (.inl (by omega))
 have L1:∀ j,l1≠n+j:=fun j=>Z3.dif (.inl (by omega))
 have L2:∀ j,l2≠n+j:=fun j=>Z3.dif (.inl (by omega))
 have hT:s.TypeIs (.ref (n+4)) "zip" := ⟨_,hz,rfl⟩
 unfold pyNext
 refine wpAny_bind (wpAny_attempt (wpAny_callSpecial?_slot (name:=Str.ofString "__next__") hT F.slot_zip_next
  (wpAny_call_entry F.slot_zip_next hT F.entry_zip_next ?_ (F.args_zip_next_1 _))))
 show wpAny _ _ (field (.ref (n+4)) 2 >>= _) _ _ _
 refine wpAny_bind (wpAny_field hz rfl (x:=.bool false) rfl ?_)
 show wpAny _ _ (field (.ref (n+4)) 3 >>= _) _ _ _
 refine wpAny_bind (wpAny_field hz rfl (x:=.ref (n+2)) rfl ?_)
 refine wpAny_bind (wpAny_seqItems hTI rfl ?_)
 show wpAny _ _ (Builtin.SmallTypes.ownedTupleIsFree (.ref (n+4)) >>= _) _ _ _
 refine wpAny_bind ?_
 unfold Builtin.SmallTypes.ownedTupleIsFree
 refine wpAny_bind (wpAny_field hz rfl (x:=.none) rfl (wpAny_pure ?_))
 simp only[if_true]
 refine wpAny_bind (wpAny_rule ?_)
 refine wpAny_bind (wpAny_field hz rfl (x:=.ref (n+3)) rfl ?_)
 refine wpAny_bind (wpAny_setField_rec hz (by simp) fun g1 hz1 s1=>?_)
 replace hz1:IsZip g1 (n+4) (n+2) (n+3) .ellipsis:=hz1
 refine wpAny_bind ?_
 simp only[List.zipIdx_cons,List.zipIdx_nil,List.forIn_cons,List.forIn_nil]
 refine wpAny_bind (wpAny_bind (wpAny_onRaise ?_))
 show wpAny _ _ (Builtin.SmallTypes.nextOf (.ref n) >>= _) _ _ _
 refine wpAny_bind (nxT (h1.extBut s1.extBut z0) (hl1.extBut s1.extBut (L1 4)) hx fun g2 i1 s2=>wpAny_pure ?_)
 have t2:IsPr g2 (n+3) a b:=s2.extBut _ _ q0.symm (s1.extBut _ _ z4 hTO)
 refine wpAny_bind (wpAny_seqItems t2 rfl ?_)
 refine wpAny_bind (up2 t2 fun g3 t3 s3=>?_)
 replace t3:IsPr g3 (n+3) x b:=t3
 refine wpAny_bind (wpAny_letGo (wpAny_pure ?_))
 refine wpAny_bind (wpAny_bind (wpAny_onRaise ?_))
 show wpAny _ _ (Builtin.SmallTypes.nextOf (.ref (n+1)) >>= _) _ _ _
 refine wpAny_bind (nxE hh (((h2.extBut s1.extBut z1).extBut s2.extBut q3.symm).extBut s3.extBut q1)
  (((hl2.extBut s1.extBut (L2 4)).extBut s2.extBut (L2 0)).extBut s3.extBut (L2 3)) hy fun g4 e s4 he=>?_)
 obtain⟨oe,hoe,hce⟩:=he
 have hz2:IsZip g4 (n+4) (n+2) (n+3) .ellipsis:=s4 _ _ z1.symm (s3.extBut _ _ z4.symm (s2.extBut _ _ z0.symm hz1))
 have hez:e≠n+4:=fun x=>by
  rw[x,hz2] at hoe
  cases hoe
  simp at hce
 refine wpAny_setField_rec hz2 (by simp) fun g5 _ s5=>?_
 refine wpAny_bind (wpAny_isInstance (T := "StopIteration") (b:=true) ⟨oe,s5.extBut _ _ hez hoe,hce⟩ isSubtype_stop ?_)
 exact wpAny_pure (hQ g5 fun q o c5 c4 c0 c1 x=>s5.extBut _ _ c5 (s4 _ _ c1 (s3.extBut _ _ c4 (s2.extBut _ _ c0 (s1.extBut _ _ c5 x)))))
end
end ZT
namespace L2
open PySem PySem.Spec PyProof.Rows ZT
section
variable {X:Cx}
end
end L2
namespace L2
open PySem PySem.Spec PyProof.Rows
end L2
namespace L2
open PySem PySem.Spec PyProof.Rows
end L2
namespace L2
open PySem PySem.Spec PyProof.Rows
theorem qe_iS{X:Cx}{a b:Expr}{ta tb:TE}{pos:Pos}(ha:QE X a ta)(hb:QE X b tb)(hs:PlainIx b:=by exact fun _ _=>rfl):QE X (.Subscript a b pos) (tOp rIxF ta tb):=qe_ix ix_seqA ha hb hs
section
variable {X:Cx}{elt iter tg:Expr}{ifs:List Expr}{scope:Scope}{pos spos py:Pos}{wi:TI}{g:TG}{tt:TT}{te:TE}
theorem qe_cp(own:List Str)(fr:List (Str×Nat))(hi:QI X tg iter wi)
  (hgx:GExt g own.length) (hB:∀ cl C fp s2 H2,QG (X.comp (own++fr.map (·.1)) scope cl C fp s2 H2) tg g∧QF (X.comp (own++fr.map (·.1)) scope cl C fp s2 H2) ifs tt∧QE (X.comp (own++fr.map (·.1)) scope cl C fp s2 H2) elt te) (hc:X.calm=true:=by rfl)
  (hkind:scope.kind=.function:=by rfl) (hcell:∀ y∈scope.names,y.2≠.cell:=by decide +kernel) (hnames:∀ y∈scope.names,y.2=.local→scope.names.lookup y.1=some .local:=by decide +kernel)
  (hfree:∀ y∈scope.names,y.2=.free→X.env.kindOf y.1=some .cell∨X.env.kindOf y.1=some .free:=by exact free_of (by rfl))
  (hfr:∀ p∈fr,X.N[p.2]?=some p.1∧(X.env.kindOf p.1=some .cell∨X.env.kindOf p.1=some .free)∧(p.1,NameKind.free)∈scope.names∧((relabel scope X.env).names.lookup p.1=some .cell∨(relabel scope X.env).names.lookup p.1=some .free):=by exact fr_of (by rfl))
  (hs:∀ x,foldedSetIterable iter X.env x=pure x:=by intro _;rfl):QE X (.ListComp elt [⟨tg,iter,ifs,0⟩] scope pos) (tComp own.length (fr.map (·.2)) wi g tt te):=qe_comp own fr hc hi hgx hB hkind hcell hnames hfree hfr hs
end
section
variable {X:Cx}{e:Expr}{es:List Expr}{te:TE}{t:TA}{pos p:Pos}{x:Str}
theorem qs_sL(i:Nat){pos':Pos}(hN:X.N.Nodup)(he:QE X e te)(hi:X.N[i]?=some x:=by rfl)(hx:Loc X.env.scope x:=by exact Or.inl rfl)(hs:swapsWith e (some (.Name x pos')) pos.line X.env=pure false:=by rfl)(hf:X.fn x=true∨X.env.scope.names.lookup x=some .local:=by first | exact .inl rfl | exact .inr rfl | assumption) :
  QS X (.Assign [.Name x pos'] e pos) (tAsg te (gName i)):=qs_set hN hi hx he hs hf
theorem qe_f{CX:CXT}{k:Nat}{ps:List Str}{sp:Sp}{E:XK}(d:DefOk X.prog X.w X.K X.mg X.base CX k x ps sp)(hr:Room k X.A)(hx:Passes CX X E)(ha:QA X (e::es) t)(hg:Gl X x:=by rfl)
  (hdb:(x == ("__debug__" : Str))=false:=by decide) (he:starEach (e::es) X.env=(false,eval e X.env)::starEach es X.env:=by rfl) (hpl:(backTo pos (starEach es X.env)).any (·.1)=false:=by rfl) :
  QE X (.Call (.Name x p) (e::es) [] pos) (tD sp E t):=qe_d d hr hx hg ha hdb he hpl
theorem qe_g{k:Nat}{ps:List Str}{sp:Sp}(d:DefOk X.prog X.w X.K X.mg X.base CX0 k x ps sp)(ha:QA X (e::es) t)(hr:Room k X.A:=by exact Room.le (by assumption))(hg:Gl X x:=by rfl)
  (hdb:(x == ("__debug__" : Str))=false:=by decide) (he:starEach (e::es) X.env=(false,eval e X.env)::starEach es X.env:=by rfl) (hpl:(backTo pos (starEach es X.env)).any (·.1)=false:=by rfl) :
  QE X (.Call (.Name x p) (e::es) [] pos) (tD sp E0 t):=qe_d d hr pass0 hg ha hdb he hpl
end
section
variable {X:Cx}{a b c:Expr}{ta tb tc:TE}
theorem qa_1(ha:QE X a ta)(h1:starEach [a] X.env=(false,eval a X.env)::starEach [] X.env:=by rfl):QA X [a] (tCons ta tNil):=qa_cons ha qa_nil h1
theorem qa_2(ha:QE X a ta)(hb:QE X b tb)(h1:starEach [a,b] X.env=(false,eval a X.env)::starEach [b] X.env:=by rfl)(h2:starEach [b] X.env=(false,eval b X.env)::starEach [] X.env:=by rfl):QA X [a,b] (tCons ta (tCons tb tNil)):=qa_cons ha (qa_1 hb h2) h1
end
end L2
namespace L2
open PySem PySem.Spec PyProof.Rows
section
variable {κ:Type}[DecidableEq κ]
def valV(kvs:List (κ×V))(k:κ):Option V:=(kvs.find? fun kv=>decide (kv.1=k)).map (·.2)
def putK(kvs:List (κ×V))(k:κ)(v:V):List (κ×V) :=
 if (kvs.any fun kv=>decide (kv.1=k))=true then kvs.map (fun kv=>if kv.1=k then (kv.1,v) else kv) else kvs++[(k,v)]
def dropK(kvs:List (κ×V))(k:κ):List (κ×V):=kvs.filter fun kv=>decide (kv.1≠k)
theorem valV_pos{p:κ×V}{r:List (κ×V)}{k:κ}(e:p.1=k):valV (p::r) k=some p.2:=by simp[valV,List.find?_cons,e]
theorem valV_neg{p:κ×V}{r:List (κ×V)}{k:κ}(e:¬ p.1=k):valV (p::r) k=valV r k:=by simp[valV,List.find?_cons,e]
theorem length_putK(kvs:List (κ×V))(k:κ)(v:V):(putK kvs k v).length≤kvs.length+1:=by
 unfold putK
 split
 ·rw[List.length_map];omega
 ·rw[List.length_append,List.length_cons,List.length_nil];omega
theorem RelO.getD{o:Option V}{u:Option Value}{d:V}{d':Value}(r:RelO o u)(rd:RelV d d'):RelV (o.getD d) (u.getD d'):=by
 cases o with
 | none=>cases u with
  | none=>exact rd
  | some _=>exact (show False from r).elim
 | some _=>cases u with
  | none=>exact (show False from r).elim
  | some _=>exact r
theorem KV.val{kvs:List (κ×V)}{vs:List (κ×Value)}(r:KV kvs vs)(k:κ):RelO (valV kvs k) (valueAt vs k):=by
 unfold KV at r
 induction r with
 | nil=>exact True.intro
 | @cons p q ps qs h t ih =>
  obtain⟨h1,h2⟩:=h
  by_cases e:p.1=k
  ·have e':q.1=k:=h1.symm.trans e
   have b:valueAt (q::qs) k=some q.2:=by simp[valueAt,List.find?_cons,e']
   rw[valV_pos e,b];exact h2
  ·have e':¬ q.1=k:=fun z=>e (h1.trans z)
   have b:valueAt (q::qs) k=valueAt qs k:=by simp[valueAt,List.find?_cons,e']
   rw[valV_neg e,b];exact ih
theorem KV.any{kvs:List (κ×V)}{vs:List (κ×Value)}(r:KV kvs vs)(k:κ):(kvs.any fun kv=>decide (kv.1=k))=vs.any fun kv=>decide (kv.1=k):=by
 unfold KV at r
 induction r with
 | nil=>rfl
 | cons h t ih=>rw[List.any_cons,List.any_cons,ih,h.1]
theorem KV.repl{kvs:List (κ×V)}{vs:List (κ×Value)}(r:KV kvs vs)(k:κ){y:V}{u:Value}(ry:RelV y u) :
  KV (kvs.map fun kv=>if kv.1=k then (kv.1,y) else kv) (vs.map fun kv=>if kv.1=k then (kv.1,u) else kv):=by
 unfold KV at r ⊢
 induction r with
 | nil=>exact .nil
 | @cons p q ps qs h t ih =>
  rw[List.map_cons,List.map_cons]
  refine .cons ?_ ih
  obtain⟨h1,h2⟩:=h
  by_cases e:p.1=k
  ·rw[if_pos e,if_pos (h1.symm.trans e)];exact⟨h1,ry⟩
  ·rw[if_neg e,if_neg (fun z=>e (h1.trans z))];exact⟨h1,h2⟩
theorem KV.put{kvs:List (κ×V)}{vs:List (κ×Value)}(r:KV kvs vs)(k:κ){y:V}{u:Value}(ry:RelV y u):KV (putK kvs k y) (stored vs k u):=by
 unfold putK stored
 rw[r.any k]
 by_cases e:(vs.any fun kv=>decide (kv.1=k))=true
 ·rw[if_pos e,if_pos e];exact r.repl k ry
 ·rw[if_neg e,if_neg e];exact Paired.snoc r ⟨rfl,ry⟩
theorem KV.length{kvs:List (κ×V)}{vs:List (κ×Value)}(r:KV kvs vs):kvs.length=vs.length:=Paired.length r
end
theorem kV_is{P:Program}{w:World}{k:Key}{u:Value}(r:RelV (kV k) u):(mixKind P w).is k u=true:=by
 cases k with
 | inl i=>obtain⟨t,e⟩:=(show ∃ t,u=Value.int i t from r);subst e;exact mixKind_int P w i t
 | inr x=>obtain⟨t,e⟩:=(show ∃ t,u=Value.str x t from r);subst e;exact mixKind_str P w x t
theorem items_are{P:Program}{w:World}:∀{ks:List Key}{us:List Value},Vals (ks.map kV) us→ItemsAre (mixKind P w) ks us
 | [],_,r=>by rw[List.map_nil] at r;cases r;exact .nil
 | k::ks,_,r=>by
  rw[List.map_cons] at r
  cases r with
  | cons h t=>exact .cons (kV_is h) (items_are t)
abbrev KT(H:Hp):List (List Key×V)→List (List Key×Addr×Value)→Prop:=Paired fun p q=>p.1=q.1∧H q.2.1=some (.tup (p.1.map kV))∧RelV p.2 q.2.2
theorem KT.val{H:Hp}{kvs:List (List Key×V)}{xs:List (List Key×Addr×Value)}(r:KT H kvs xs)(k:List Key):RelO (valV kvs k) ((atKey xs k).map (·.2)):=by
 induction r with
 | nil=>exact True.intro
 | @cons p q ps qs h t ih =>
  obtain⟨h1,_,h2⟩:=h
  by_cases e:p.1=k
  ·have e':q.1=k:=h1.symm.trans e
   have b:atKey (q::qs) k=some q.2:=by simp[atKey,List.find?_cons,e']
   rw[valV_pos e,b];exact h2
  ·have e':¬ q.1=k:=fun z=>e (h1.trans z)
   have b:atKey (q::qs) k=atKey qs k:=by simp[atKey,List.find?_cons,e']
   rw[valV_neg e,b];exact ih
section
variable {P:Program}{w:World}{H:Hp}{h:Heap}{a:Addr}
theorem rd_of{u:HO}(ok:HOk P w H h)(e:Rd H a u):ObjOk P w H h a u:=e.ok ok
theorem dk_rd{kvs:List (Key×V)}(ok:HOk P w H h)(e:Rd H a (.dK kvs)):kvs.length≤sizeLine∧(a == sysModules)=false∧∃ vs,KV kvs vs∧h.DictOf (mixKind P w) a vs :=
 show ObjOk P w H h a (.dK kvs) from rd_of ok e
theorem dk_of{kvs:List (Key×V)}(ok:HOk P w H h)(e:H a=some (.dK kvs)):kvs.length≤sizeLine∧(a == sysModules)=false∧∃ vs,KV kvs vs∧h.DictOf (mixKind P w) a vs:=dk_rd ok (.inl e)
theorem key_of{ks:List Key}(ok:HOk P w H h)(e:H a=some (.tup (ks.map kV))):(tupleKind (mixKind P w)).is h ks a:=by
 obtain⟨_,its,r,o,h1,h2,n,h3⟩:=(show ObjOk P w H h a (.tup (ks.map kV)) from ok a _ e)
 exact⟨o,its.toArray,n,h1,h2,h3,by simpa using items_are r⟩
theorem dt_rd{kvs:List (List Key×V)}(ok:HOk P w H h)(e:Rd H a (.dT kvs)):kvs.length≤sizeLine∧(a == sysModules)=false ∧
  ∃ xs,KT H kvs xs∧h.DictOfH (tupleKind (mixKind P w)) a xs:=by
 obtain⟨z,y,xs,r,o,es,ep,h1,h2,h3,h4,h5⟩:=(show ObjOk P w H h a (.dT kvs) from rd_of ok e)
 refine⟨z,y,xs,r,o,es,ep,h1,h2,h3,h4,fun x hx=>?_,h5⟩
 have all:∀ {l:List (List Key×V)} {m:List (List Key×Addr×Value)},KT H l m→∀ x∈m,(tupleKind (mixKind P w)).is h x.1 x.2.1:=by
  intro l m q
  induction q with
  | nil=>intro x hx;exact nomatch hx
  | @cons p q ps qs hq t ih =>
   intro x hx
   rcases List.mem_cons.mp hx with e | hx
   ·subst e
    exact key_of ok (by rw[← hq.1];exact hq.2.1)
   ·exact ih x hx
 exact all r x hx
end
def DGet(H:Hp)(a:Addr)(y:V)(r:Option V):Prop :=
 (∃ kvs k,Rd H a (.dK kvs)∧y=kV k∧r=valV kvs k)∨∃ kvs k b,Rd H a (.dT kvs)∧y=.ref b∧H b=some (.tup (k.map kV))∧r=valV kvs k
def DPut(H:Hp)(a:Addr)(y v:V)(H':Hp):Prop :=
 (∃ kvs k,H a=some (.dK kvs)∧y=kV k∧kvs.length < sizeLine∧H'=upd H a (.dK (putK kvs k v))) ∨
 ∃ kvs k b,H a=some (.dT kvs)∧y=.ref b∧H b=some (.tup (k.map kV))∧kvs.length < sizeLine∧H'=upd H a (.dT (putK kvs k v))
theorem DGet.k{H:Hp}{a:Addr}{kvs:List (Key×V)}{k:Key}(e:H a=some (.dK kvs)):DGet H a (kV k) (valV kvs k):=.inl ⟨kvs,k,.inl e,rfl,rfl⟩
section
variable {X:Cx}{pins:List (Addr×Obj)}{σ:St}{H:Hp}{s:Shared}{a:Addr}{y v:V}{u r:Value}{o:Option V}{A:Around}{E:Value→Shared→Prop}
theorem Inv.big(I:Inv X pins σ H s):sysModules < s.heap.objs.size:=by
 have h:mainGlobals < s.heap.objs.size:=(I.mod.glob.keeps I.bk).lt
 exact Nat.lt_trans (by decide) h
theorem d_write{h':Heap}{t':Nat}{ob:HO}(I:Inv X pins σ H s)(mu:Mut (H a))(hs:Heap.SameBut a s.heap h')(he:∃ q,h'.get? a=some q)(new:ObjOk X.prog X.w (upd H a ob) h' a ob) :
  Inv X pins σ (upd H a ob) { s with heap:=h',toks:=t' } :=
 I.write (x:=a) (e:=a) mu (.inl rfl) (fun b q hb z=>(hs.2 b hb).trans z) he new
theorem dk_new{P:Program}{w:World}{H':Hp}{h':Heap}{kvs:List (Key×V)}{vs:List (Key×Value)}(z:kvs.length≤sizeLine)(hd:(a == sysModules)=false)(rel:KV kvs vs)(dd:h'.DictOf (mixKind P w) a vs) :
  ObjOk P w H' h' a (.dK kvs):=⟨z,hd,vs,rel,dd⟩
end
section
variable {X:Cx}{pins:List (Addr×Obj)}{σ:St}{H:Hp}{s:Shared}{a:Addr}{kvs:List (Key×V)}{k:Key}{u:Value}{A:Around}{E:Value→Shared→Prop}
end
section
variable {X:Cx}{o i e value:Expr}{pos pos' tpos:Pos}{td ty tv:TE}
end
theorem dk_empty{P:Program}{w:World}{H:Hp}(h:Heap)(hb:sysModules < h.objs.size):ObjOk P w H (h.push { cls:=.type "dict", data:=.dict #[] }) h.objs.size (.dK []) :=
 ⟨Nat.zero_le _,beq_eq_false_iff_ne.mpr (Ne.symm (Nat.ne_of_lt hb)),[],.nil,Heap.DictOf.new h⟩
section
variable {X:Cx}{pos:Pos}
end
def tPairs:List (TE×TE)→St→Hp→(List (V×V)→Hp→Prop)→Prop
 | [],_,H,Q=>Q [] H
 | (tk,tv)::r,σ,H,Q=>tk σ H fun x H1=>tv σ H1 fun y H2=>tPairs r σ H2 fun ps H3=>Q ((x,y)::ps) H3
abbrev VV:List (V×V)→List (Value×Value)→Prop:=Paired fun p q=>RelV p.1 q.1∧RelV p.2 q.2
def PPs(X:Cx)(pos:Pos)(keys:List (Option Expr))(values:List Expr)(trs:List (TE×TE)):Prop :=
 ∀ (pins:List (Addr×Obj)) (s:Shared) (σ:St) (H:Hp) (Q:List (V×V)→Hp→Prop),Inv X pins σ H s→tPairs trs σ H Q →
  wpAny (model X.prog X.w) X.A (evalPairs (pairTrees keys values X.env pos)) (fun vs s'=>∃ ps H',Inv X pins σ H' s'∧VV ps vs∧Q ps H') X.xe s
theorem pps_nil{X:Cx}{pos:Pos}:PPs X pos [] [] []:=fun pins s σ H Q I h=>pairTrees_nil_walk ⟨[],H,I,.nil,h⟩
theorem pps_cons{X:Cx}{pos:Pos}{k v:Expr}{ks:List (Option Expr)}{vs:List Expr}{tk tv:TE}{trs:List (TE×TE)}(hk:PE X k tk)(hv:PE X v tv)(hr:PPs X pos ks vs trs) :
  PPs X pos (some k::ks) (v::vs) ((tk,tv)::trs):=fun pins s σ H Q I h =>
 pairTrees_cons_walk (thn (hk pins s σ H _ I h) fun u s1 ⟨x,H1,I1,rx,q1⟩=>thn (hv pins s1 σ H1 _ I1 q1) fun w2 s2 ⟨y,H2,I2,ry,q2⟩ =>
  thn (hr pins s2 σ H2 _ I2 q2) fun ws s3 ⟨ps,H3,I3,rel,q3⟩=>⟨(x,y)::ps,H3,I3,.cons ⟨rx,ry⟩ rel,q3⟩)
def mergeK(kvs more:List (Key×V)):List (Key×V):=more.foldl (fun acc kv=>putK acc kv.1 kv.2) kvs
theorem KV.merge:∀ {more:List (Key×V)} {rs:List (Key×Value)} {kvs:List (Key×V)} {vs:List (Key×Value)},KV more rs→KV kvs vs→KV (mergeK kvs more) (merged vs rs):=by
 intro more rs kvs vs r
 unfold KV at r
 induction r generalizing kvs vs with
 | nil=>intro q;exact q
 | @cons p q ps qs h t ih =>
  intro r0
  have e:KV (putK kvs p.1 p.2) (stored vs q.1 q.2):=by
   have:=r0.put p.1 h.2
   rw[← h.1];exact this
  exact ih e
theorem length_mergeK:∀ (more kvs:List (Key×V)),(mergeK kvs more).length≤kvs.length+more.length
 | [],kvs=>by show kvs.length≤kvs.length+0;omega
 | p::r,kvs=>by
  have h1:=length_mergeK r (putK kvs p.1 p.2)
  have h2:=length_putK kvs p.1 p.2
  show (mergeK (putK kvs p.1 p.2) r).length≤_
  rw[List.length_cons];omega
theorem carries_of{P:Program}{w:World}:∀ {kvs:List (Key×V)} {ws:List (Value×Value)},VV (kvs.map fun kv=>(kV kv.1,kv.2)) ws→∃ rs,Carries (mixKind P w) ws rs∧KV kvs rs
 | [],_,r=>by rw[List.map_nil] at r;cases r;exact⟨[],True.intro,.nil⟩
 | p::kvs,_,r=>by
  rw[List.map_cons] at r
  cases r with
  | @cons a b as bs h t =>
   obtain⟨rs,c,q⟩:=carries_of (P:=P) (w:=w) t
   obtain⟨b1,b2⟩:=b
   exact⟨(p.1,b2)::rs,⟨kV_is h.1,rfl,c⟩,.cons ⟨rfl,h.2⟩ q⟩
def tDisp(trs:List (TE×TE)):TE:=fun σ H Q=>∀ p,H p=none→tPairs trs σ (upd H p (.dK [])) fun ps H2=>H2 p=some (.dK [])∧∃ kvs:List (Key×V),ps=kvs.map (fun kv=>(kV kv.1,kv.2))∧kvs.length≤15∧Q (.ref p) (upd H2 p (.dK (mergeK [] kvs)))
theorem pe_disp{X:Cx}{pos:Pos}{keys:List (Option Expr)}{values:List Expr}{trs:List (TE×TE)}(h:PPs X pos keys values trs)(hall:keys.all (·.isSome)=true)(hl:keys.length=values.length)(h0:keys≠[])
  (h15:keys.length≤15):PE X (.Dict keys values pos) (tDisp trs):=by
 intro pins s σ H Q I q
 have hn:=I.hok.fresh (Nat.le_refl s.heap.objs.size)
 have I1:=I.laid (a:=s.heap.objs.size) (o:=.dK []) (h':=s.heap.push { cls:=.type "dict", data:=.dict #[] }) (t':=s.toks) (fun _ _ q=>Heap.get?_push_of_some _ q) (Nat.le_refl _) (dk_empty s.heap I.big)
 refine wpAny_Dict_walk (knd:=mixKind X.prog X.w) hall hl h0 h15 (thn (h pins _ σ _ _ I1 (q _ hn)) fun ws s2 ⟨ps,H2,I2,rel,e,kvs,ep,lk,q2⟩=>?_)
 subst ep
 obtain⟨rs,c,rk⟩:=carries_of (P:=X.prog) (w:=X.w) rel
 obtain⟨z,hd,vs0,r0,dd⟩:=dk_of I2.hok e
 cases r0
 refine⟨rs,c,dd,fun h' dd' hs=>⟨.ref s.heap.objs.size,_,?_,rfl,q2⟩⟩
 have hz:(mergeK [] kvs).length≤sizeLine:=by
  have h1:=length_mergeK kvs []
  rw[List.length_nil] at h1
  rw[sizeLine_eq];omega
 have he:∃ q,h'.get? s.heap.objs.size=some q:=let ⟨q,_,_,hq,_⟩:=dd';⟨q,hq⟩
 exact d_write I2 (by rw[e];exact True.intro) hs he (dk_new hz hd (rk.merge .nil) dd')
structure M1(X:Cx)(o:Expr)(m:Str)(apos:Pos)(e:Expr)(cpos:Pos):Prop where
 base:attributeBase o m X.env (eval o X.env)=eval o X.env
 few:((backTo cpos (starEach [e] X.env)).all (fun x=>!x.1) && (backToKw cpos (keywordEach [] X.env)).all (fun x=>x.1.isSome)
  && decide (([e]:List Expr).length+([]:List Keyword).length+(if ([]:List Keyword).isEmpty then 0 else 1) < 30))=true
 line:(apos.endLine == cpos.line)=true
 trees:backTo cpos (starEach [e] X.env)=[(false,eval e X.env)]
structure M2(X:Cx)(o:Expr)(m:Str)(apos:Pos)(e f:Expr)(cpos:Pos):Prop where
 base:attributeBase o m X.env (eval o X.env)=eval o X.env
 few:((backTo cpos (starEach [e,f] X.env)).all (fun x=>!x.1) && (backToKw cpos (keywordEach [] X.env)).all (fun x=>x.1.isSome)
  && decide (([e,f]:List Expr).length+([]:List Keyword).length+(if ([]:List Keyword).isEmpty then 0 else 1) < 30))=true
 line:(apos.endLine == cpos.line)=true
 trees:backTo cpos (starEach [e,f] X.env)=[(false,eval e X.env),(false,eval f X.env)]
def IsD(H:Hp)(a:Addr):Prop:=(∃ kvs,Rd H a (.dK kvs))∨∃ kvs,Rd H a (.dT kvs)
theorem isD_at{X:Cx}{pins:List (Addr×Obj)}{σ:St}{H:Hp}{s:Shared}{a:Addr}(I:Inv X pins σ H s)(d:IsD H a) :
  s.TypeIs (.ref a) "dict" ∧ (∀ b,Value.ref a=.ref b→∃ ob,s.heap.get? b=some ob∧ob.dict=none)∧(a == sysModules)=false:=by
 rcases d with ⟨kvs,e⟩ | ⟨kvs,e⟩
 ·obtain⟨_,hd,vs,_,dd⟩:=dk_rd I.hok e
  refine⟨dd.typeIs,fun b q=>?_,hd⟩
  cases q
  obtain⟨ob,_,_,h1,h2,_⟩:=dd
  exact⟨ob,h1,h2.2.1⟩
 ·obtain⟨_,hd,xs,_,dd⟩:=dt_rd I.hok e
  refine⟨dd.typeIs,fun b q=>?_,hd⟩
  cases q
  obtain⟨ob,_,_,h1,h2,_⟩:=dd
  exact⟨ob,h1,h2.2.1⟩
section
variable {X:Cx}{pins:List (Addr×Obj)}{σ:St}{H:Hp}{s:Shared}{a:Addr}{y d:V}{u r:Value}{o:Option V}{A:Around}{E:Value→Shared→Prop}
theorem d_get1{Q:Value→Shared→Prop}(hu:A.units+1 < cLine)(I:Inv X pins σ H s)(g:DGet H a y o)(ry:RelV y u)(h:∀ w' s',Inv X pins σ H s'→RelV (o.getD .non) w'→Q w' s') :
  wpAny (model X.prog X.w) A (call (.builtin "dict.get") [.ref a,u]) Q E s:=by
 rcases g with ⟨kvs,k,e,ey,l⟩ | ⟨kvs,k,b,e,ey,eb,l⟩
 ·subst ey
  obtain⟨z,hd,vs,rel,dd⟩:=dk_rd I.hok e
  refine call_meetsIn PySem.F.slot_dict_get dd.typeIs PySem.F.entry_dict_get (PySem.F.args_dict_get_2 _ _) (meets_dict_get (mixKind X.prog X.w) a (kV_is ry) hd) ⟨_,dd.mapOf,h _ _ (I.tok _) ?_⟩
  rw[l]
  exact (rel.val k).getD rfl
 ·subst ey
  cases (show u=Value.ref b from ry)
  obtain⟨z,hd,xs,rel,dd⟩:=dt_rd I.hok e
  refine call_meetsIn PySem.F.slot_dict_get dd.typeIs PySem.F.entry_dict_get (PySem.F.args_dict_get_2 _ _) (meetsH_dict_get (tupleKind (mixKind X.prog X.w)) a b hd) ⟨tupleKind_room_in1 hu,k,xs,key_of I.hok eb,dd,h _ _ (I.tok _) ?_⟩
  rw[l]
  exact (rel.val k).getD rfl
theorem d_get2{Q:Value→Shared→Prop}(hu:A.units+1 < cLine)(I:Inv X pins σ H s)(g:DGet H a y o)(ry:RelV y u)(rd:RelV d r)(h:∀ w' s',Inv X pins σ H s'→RelV (o.getD d) w'→Q w' s') :
  wpAny (model X.prog X.w) A (call (.builtin "dict.get") [.ref a,u,r]) Q E s:=by
 rcases g with ⟨kvs,k,e,ey,l⟩ | ⟨kvs,k,b,e,ey,eb,l⟩
 ·subst ey
  obtain⟨z,hd,vs,rel,dd⟩:=dk_rd I.hok e
  refine call_meetsIn PySem.F.slot_dict_get dd.typeIs PySem.F.entry_dict_get (PySem.F.args_dict_get_3 _ _ _) (meets_dict_get_default (mixKind X.prog X.w) a (kV_is ry) hd r) ⟨_,dd.mapOf,h _ _ (I.tok _) ?_⟩
  rw[l]
  exact (rel.val k).getD rd
 ·subst ey
  cases (show u=Value.ref b from ry)
  obtain⟨z,hd,xs,rel,dd⟩:=dt_rd I.hok e
  refine call_meetsIn PySem.F.slot_dict_get dd.typeIs PySem.F.entry_dict_get (PySem.F.args_dict_get_3 _ _ _) (meetsH_dict_get_default (tupleKind (mixKind X.prog X.w)) a b hd r) ⟨tupleKind_room_in1 hu,k,xs,key_of I.hok eb,dd,h _ _ (I.tok _) ?_⟩
  rw[l]
  exact (rel.val k).getD rd
end
def tDGet1(td ty:TE):TE:=fun σ H Q=>td σ H fun x H1=>∃ a,x=.ref a∧IsD H1 a∧ty σ H1 fun y H2=>∃ o,DGet H2 a y o∧Q (o.getD .non) H2
def tDGet2(td ty tx:TE):TE:=fun σ H Q=>td σ H fun x H1=>∃ a,x=.ref a∧IsD H1 a∧ty σ H1 fun y H2=>tx σ H2 fun z H3=>∃ o,DGet H3 a y o∧Q (o.getD z) H3
section
variable {X:Cx}{o e f:Expr}{apos cpos:Pos}{td ty tx:TE}
theorem pe_dget1(hu:X.A.units+1 < cLine)(ho:PE X o td)(he:PE X e ty)(m:M1 X o "get" apos e cpos):PE X (.Call (.Attribute o "get" apos) [e] [] cpos) (tDGet1 td ty):=by
 intro pins s σ H Q I h
 refine wpAny_Call_method m.base m.few m.line PySem.F.plainAttrs_dict PySem.F.slot_dict_get PySem.F.type_dict_get (thn (ho pins s σ H _ I h) fun u s1 ⟨x,H1,I1,rx,a,ex,d,q1⟩=>?_)
 subst ex
 obtain rfl:u=Value.ref a:=rx
 obtain⟨t1,t2,_⟩:=isD_at I1 d
 refine⟨t1,t2,?_⟩
 rw[m.trees]
 refine Calls.callWith_builtin rfl (Calls.evalArgs_plain (Calls.spliced_cons (thn (he pins s1 σ H1 _ I1 q1) fun iv s2 ⟨y,H2,I2,ry,ov,g,q2⟩=>Calls.spliced_nil ?_)))
 exact d_get1 hu I2 g ry fun w' s3 I3 rw'=>⟨_,H2,I3,rw',q2⟩
theorem pe_dget2(hu:X.A.units+1 < cLine)(ho:PE X o td)(he:PE X e ty)(hf:PE X f tx)(m:M2 X o "get" apos e f cpos):PE X (.Call (.Attribute o "get" apos) [e,f] [] cpos) (tDGet2 td ty tx):=by
 intro pins s σ H Q I h
 refine wpAny_Call_method m.base m.few m.line PySem.F.plainAttrs_dict PySem.F.slot_dict_get PySem.F.type_dict_get (thn (ho pins s σ H _ I h) fun u s1 ⟨x,H1,I1,rx,a,ex,d,q1⟩=>?_)
 subst ex
 obtain rfl:u=Value.ref a:=rx
 obtain⟨t1,t2,_⟩:=isD_at I1 d
 refine⟨t1,t2,?_⟩
 rw[m.trees]
 refine Calls.callWith_builtin rfl (Calls.evalArgs_plain (Calls.spliced_cons (thn (he pins s1 σ H1 _ I1 q1) fun iv s2 ⟨y,H2,I2,ry,q2⟩ =>
  Calls.spliced_cons (thn (hf pins s2 σ H2 _ I2 q2) fun fv s3 ⟨z,H3,I3,rz,ov,g,q3⟩=>Calls.spliced_nil ?_))))
 exact d_get2 hu I3 g ry rz fun w' s4 I4 rw'=>⟨_,H3,I4,rw',q3⟩
end
section
variable {X:Cx}{pins:List (Addr×Obj)}{σ:St}{H:Hp}{s:Shared}{a:Addr}{kvs:List (Key×V)}{A:Around}{E:Value→Shared→Prop}
end
section
variable {X:Cx}{pins:List (Addr×Obj)}{σ:St}{H:Hp}{s:Shared}{a:Addr}{y:V}{u:Value}{A:Around}{E:Value→Shared→Prop}
end
end L2
namespace L2
open PySem PySem.Spec PyProof.Rows
section
variable {X:Cx}
end
end L2
namespace L2
open PySem PySem.Spec PyProof.Rows
def dec(n:Int):Str:=Str.ofString (toString n)
section
variable {X:Cx}
def rStr:List V→Hp→VK→Prop:=fun xs H Q=>(∃ z,xs=[.str z]∧Q (.str z) H)∨∃ n:Int,xs=[.int n]∧n.natAbs < 2 ^ 1000∧Q (.str (dec n)) H
theorem call_str1:CallR X (.type "str") rStr:=by
 intro pins s σ H xs us Q I r h
 rcases h with ⟨z,rfl,q⟩ | ⟨n,rfl,hn,q⟩
 ·obtain⟨u,rfl,ru⟩:=r.one
  obtain⟨t,rfl⟩:=ru
  exact P.str_of_str ⟨.str z,H,I,⟨_,rfl⟩,q⟩
 ·obtain⟨u,rfl,ru⟩:=r.one
  obtain⟨t,rfl⟩:=ru
  refine P.str_of_int ?_ ⟨.str (dec n),H,I.tok _,⟨_,rfl⟩,q⟩
  by_cases h0:n.natAbs=0
  ·rw[h0];decide +kernel
  ·exact Nat.lt_of_lt_of_le ((Nat.log2_lt h0).mpr hn) (by decide)
def rIntS:List V→Hp→VK→Prop:=fun xs H Q=>∃ z n,xs=[.str z]∧intText? z=some n∧z.length≤640∧Q (.int n) H
theorem call_intS:CallR X (.type "int") rIntS:=by
 intro pins s σ H xs us Q I r h
 obtain⟨z,n,rfl,hn,hz,q⟩:=h
 obtain⟨u,rfl,ru⟩:=r.one
 obtain⟨t,rfl⟩:=ru
 exact PySem.W.KIN.call_text hn hz ⟨.int n,H,I.tok _,⟨_,rfl⟩,q⟩
theorem vals_strs:∀ (l:List (Str×Tok)),Vals ((l.map (·.1)).map V.str) (strValues l)
 | []=>.nil
 | (x,t)::l=>.cons ⟨t,rfl⟩ (vals_strs l)
def rSplit:V→List V→Hp→VK→Prop:=fun x vs H Q=>∃ z y,x=.str z∧vs=[.str y]∧(y.length == 0)=false∧z.length≤1000∧∀ l,H l=none→Q (.ref l) (upd H l (.lst ((Txt.split z y).map V.str)))
theorem mt_split:MtM X "str.split" rSplit:=by
 intro pins s σ H x vs v us Q I rx rv h
 obtain⟨z,y,rfl,rfl,hy,hz,q⟩:=h
 obtain⟨t,rfl⟩:=rx
 obtain⟨u',rfl,ru⟩:=rv.one
 obtain⟨u,rfl⟩:=ru
 have hZ:z.length+2≤sizeLine:=by rw[sizeLine_eq];omega
 have hn:(Builtin.Str.partsBetween z (Builtin.Str.occurrences z y 0 z.length (z.length+1)) y.length).length≤1002:=by
  have e1:=StrLaws.occ_length_le z y 0 z.length (z.length+1)
  rw[length_partsBetween]
  omega
 have hn':(Builtin.Str.partsBetween z (Builtin.Str.occurrences z y 0 z.length (z.length+1)) y.length).length≤sizeLine:=by rw[sizeLine_eq];omega
 have fin:∀ (l:List (Str×Tok)) (k:Nat),l.map (·.1)=Txt.split z y→l.length≤1002→EP X pins σ Q (.ref s.heap.objs.size) { s with heap:=s.heap.push { cls:=.type "list", data:=.seq (strValues l).toArray },toks:=k }:=fun l k e hl=>by
  refine⟨.ref s.heap.objs.size,_,I.laid (t':=k) (fun b o e=>Heap.get?_push_of_some _ e) (Nat.le_refl _) (show ObjOk X.prog X.w _ _ _ (.lst ((Txt.split z y).map V.str)) from ⟨?_,strValues l,0,?_,Heap.get?_push_size _ rfl⟩),rfl,q _ (I.hok.fresh (Nat.le_refl _))⟩
  ·rw[List.length_map,← e,List.length_map,sizeLine_eq];omega
  ·rw[← e];exact vals_strs l
 cases h1:(decide (z.length < y.length) || decide (Builtin.Str.strKind z < Builtin.Str.strKind y))
 ·cases hf:(Builtin.Str.occurrences z y 0 z.length (z.length+1)).isEmpty
  ·refine call_meets F.slot_str_split (typeIs_str _ _ _) F.entry_str_split (F.args_str_split_2 _ _) (meets_str_split_sep z y t u h1 hy hf (by omega) hn') ?_
   show wants _ _ _ { s with toks:=_,heap:=s.heap.push { cls:=.type "list", data:=.seq (strsFrom s.toks (Builtin.Str.partsBetween z (Builtin.Str.occurrences z y 0 z.length (z.length+1)) y.length)).toArray } }
   rw[strsFrom_eq]
   refine fin (numbered s.toks _) _ ((numbered_texts _ _).trans ((if_neg (ne_true_of_eq_false h1)).trans (if_neg (ne_true_of_eq_false hf))).symm) ?_
   have e:=congrArg List.length (numbered_texts s.toks (Builtin.Str.partsBetween z (Builtin.Str.occurrences z y 0 z.length (z.length+1)) y.length))
   rw[List.length_map] at e
   omega
  ·exact call_meets F.slot_str_split (typeIs_str _ _ _) F.entry_str_split (F.args_str_split_2 _ _) (meets_str_split_not_found z y t u h1 hy hf) (fin [(z,t)] _ ((if_neg (ne_true_of_eq_false h1)).trans (if_pos hf)).symm (by show 1≤1002;decide))
 ·exact call_meets F.slot_str_split (typeIs_str _ _ _) F.entry_str_split (F.args_str_split_2 _ _) (meets_str_split_cannot_occur z y t u h1) (fin [(z,t)] _ (if_pos h1).symm (by show 1≤1002;decide))
end
end L2
namespace ZL
open PySem PySem.Spec PyProof.Rows ZT
section
variable {prog:Program}{w:World}{A:Around}{E:Value→Shared→Prop}{s:Shared}
abbrev hp1(h:Heap)(l1:Addr):Heap:=h.push { cls:=.type "tuple_iterator", data:=.fields #[.ref l1,.int 0 0] }
abbrev hp2(h:Heap)(l1 l2:Addr):Heap:=(hp1 h l1).push { cls:=.type "list_iterator", data:=.fields #[.ref l2,.int 0 0] }
abbrev hp4(h:Heap)(l1 l2:Addr):Heap:=(hp2 h l1 l2).push { cls:=.type "tuple", data:=.seq #[.ref h.objs.size,.ref (hp1 h l1).objs.size] }
abbrev hp5(h:Heap)(l1 l2:Addr):Heap:=(hp4 h l1 l2).push { cls:=.type "tuple", data:=.seq #[.none,.none] }
abbrev hp6(h:Heap)(l1 l2:Addr):Heap:=(hp5 h l1 l2).push { cls:=.type "zip", data:=.fields #[.none,.bool false,.bool false,.ref (hp2 h l1 l2).objs.size,.ref (hp4 h l1 l2).objs.size] }
theorem new2(l1 l2:Addr)(xs ys:Array Value) :
  Meets (Builtin.«zip.__new__» ⟨[.type "zip", .ref l1,.ref l2],[]⟩) (fun _ R s=>s.heap.IsTuple l1 xs∧s.heap.IsList l2 ys ∧
   R (.ok (.ret (.ref (hp5 s.heap l1 l2).objs.size))) { s with heap:=hp6 s.heap l1 l2 }) :=
 .of_wp fun prog w A R s h=>by
  obtain⟨hp,g,d,tk,os⟩:=s
  obtain⟨hl1,hl2,h⟩:=h
  have hsub:=sub_zip
  have hL1:Heap.IsTuple (Shared.heap ⟨hp,g,d,tk,os⟩) l1 xs:=hl1
  have hL2:Heap.IsList (Shared.heap ⟨hp1 hp l1,g,d,tk,os⟩) l2 ys:=by
   obtain⟨o,e,r⟩:=hl2
   exact⟨o,Heap.get?_push_of_some _ e,r⟩
  wp_walk using wpAny_pyIter_tuple hL1,wpAny_pyIter_list hL2
  exact⟨_,rfl,h⟩
theorem call2{l1 l2:Addr}{xs ys:Array Value}{Q:Value→Shared→Prop}(hl1:s.heap.IsTuple l1 xs)(hl2:s.heap.IsList l2 ys)
  (h:∀ h' n,n=s.heap.objs.size→IsZip h' (n+4) (n+2) (n+3) .none→IsPr h' (n+2) (.ref n) (.ref (n+1)) →
   IsPr h' (n+3) .none .none→h'.IsTupleIter n l1 0→h'.IsListIter (n+1) l2 0 →
   (∀ c o,s.heap.get? c=some o→h'.get? c=some o)→Q (.ref (n+4)) { s with heap:=h' }) :
  wpAny (model prog w) A (call (.type "zip") [.ref l1,.ref l2]) Q E s:=by
 refine callType_new F.called_zip (by decide) (tc _ _) (nc _ _) (fun obj=>ac obj _ _) F.entry_zip_new
  (new2 l1 l2 xs ys) ⟨hl1,hl2,?_⟩
 have z1:(hp1 s.heap l1).objs.size=s.heap.objs.size+1:=Heap.size_push ..
 have z2:(hp2 s.heap l1 l2).objs.size=s.heap.objs.size+2:=by rw[Heap.size_push,z1]
 have z4:(hp4 s.heap l1 l2).objs.size=s.heap.objs.size+3:=by rw[Heap.size_push,z2]
 have z5:(hp5 s.heap l1 l2).objs.size=s.heap.objs.size+4:=by rw[Heap.size_push,z4]
 have up {h:Heap} {o:Obj} {c:Addr} {u:Obj} (e:h.get? c=some u):(h.push o).get? c=some u:=Heap.get?_push_of_some _ e
 have g6:(hp6 s.heap l1 l2).get? (hp5 s.heap l1 l2).objs.size=some _:=Heap.get?_push_size _ rfl
 have g5:(hp6 s.heap l1 l2).get? (hp4 s.heap l1 l2).objs.size=some _:=up (Heap.get?_push_size _ rfl)
 have g4:(hp6 s.heap l1 l2).get? (hp2 s.heap l1 l2).objs.size=some _:=up (up (Heap.get?_push_size _ rfl))
 have g2:(hp6 s.heap l1 l2).get? (hp1 s.heap l1).objs.size=some _:=up (up (up (Heap.get?_push_size _ rfl)))
 have g1:(hp6 s.heap l1 l2).get? s.heap.objs.size=some _:=up (up (up (up (Heap.get?_push_size _ rfl))))
 show _∧_
 rw[z2,z4,z5] at g6
 rw[z4] at g5
 rw[z1,z2] at g4
 rw[z1] at g2
 rw[z5]
 exact⟨⟨_,g6,rfl⟩,h _ _ rfl g6 g4 g5 ⟨_,g1,rfl,rfl⟩ ⟨_,g2,rfl,rfl⟩ fun c o x=>up (up (up (up (up x))))⟩
theorem item2{n l1 l2:Addr}{k:Nat}{xs ys:Array Value}{x y a b:Value}{Q:Option Value→Shared→Prop}(D:Ap n l1 l2)
  (hz:IsZip s.heap (n+4) (n+2) (n+3) .none) (hTI:IsPr s.heap (n+2) (.ref n) (.ref (n+1))) (hTO:IsPr s.heap (n+3) a b)
  (h1:s.heap.IsTupleIter n l1 k) (h2:s.heap.IsListIter (n+1) l2 k) (hl1:s.heap.IsTuple l1 xs) (hl2:s.heap.IsList l2 ys) (hx:xs[k]?=some x) (hy:ys[k]?=some y)
  (hQ:∀ h',IsZip h' (n+4) (n+2) (n+3) (rawInt s.heap.objs.size)→IsPr h' (n+3) x y→h'.IsTupleIter n l1 (k+1)→h'.IsListIter (n+1) l2 (k+1)→IsPr h' s.heap.objs.size x y →
   (∀ q o,q≠n+4→q≠n+3→q≠n→q≠n+1→s.heap.get? q=some o→h'.get? q=some o)→Q (some (.ref s.heap.objs.size)) { s with heap:=h' }) :
  wpAny (model prog w) A (pyNext (.ref (n+4))) Q E s:=by
 obtain⟨d1,d2⟩:=D
 have q0:n≠n+3:=Z3.dif (.inl (by omega))
 have q1:n+1≠n+3:=Z3.dif (.inl (by omega))
 have q3:n≠n+1:=Z3.dif (.inl (by omega))
 have z0:n≠n+4:=Z3.dif (.inl (by omega))
 have z1:n+1≠n+4:=Z3.dif (.inl (by omega))
 have z4:n+3≠n+4:=Z3.dif (.inl (by omega))
 have L1:∀ j,l1≠n+j:=fun j=>Z3.dif (.inl (by omega))
 have L2:∀ j,l2≠n+j:=fun j=>Z3.dif (.inl (by omega))
 have hT:s.TypeIs (.ref (n+4)) "zip" := ⟨_,hz,rfl⟩
 unfold pyNext
 refine wpAny_bind (wpAny_attempt (wpAny_callSpecial?_slot (name:=Str.ofString "__next__") hT F.slot_zip_next
  (wpAny_call_entry F.slot_zip_next hT F.entry_zip_next ?_ (F.args_zip_next_1 _))))
 show wpAny _ _ (field (.ref (n+4)) 2 >>= _) _ _ _
 refine wpAny_bind (wpAny_field hz rfl (x:=.bool false) rfl ?_)
 show wpAny _ _ (field (.ref (n+4)) 3 >>= _) _ _ _
 refine wpAny_bind (wpAny_field hz rfl (x:=.ref (n+2)) rfl ?_)
 refine wpAny_bind (wpAny_seqItems hTI rfl ?_)
 show wpAny _ _ (Builtin.SmallTypes.ownedTupleIsFree (.ref (n+4)) >>= _) _ _ _
 refine wpAny_bind ?_
 unfold Builtin.SmallTypes.ownedTupleIsFree
 refine wpAny_bind (wpAny_field hz rfl (x:=.none) rfl (wpAny_pure ?_))
 simp only[if_true]
 refine wpAny_bind (wpAny_rule ?_)
 refine wpAny_bind (wpAny_field hz rfl (x:=.ref (n+3)) rfl ?_)
 refine wpAny_bind (wpAny_setField_rec hz (by simp) fun g1 hz1 s1=>?_)
 replace hz1:IsZip g1 (n+4) (n+2) (n+3) .ellipsis:=hz1
 refine wpAny_bind ?_
 simp only[List.zipIdx_cons,List.zipIdx_nil,List.forIn_cons,List.forIn_nil]
 refine wpAny_bind (wpAny_bind (wpAny_onRaise ?_))
 show wpAny _ _ (Builtin.SmallTypes.nextOf (.ref n) >>= _) _ _ _
 refine wpAny_bind (nxT (h1.extBut s1.extBut z0) (hl1.extBut s1.extBut (L1 4)) hx fun g2 i1 s2=>wpAny_pure ?_)
 have t2:IsPr g2 (n+3) a b:=s2.extBut _ _ q0.symm (s1.extBut _ _ z4 hTO)
 refine wpAny_bind (wpAny_seqItems t2 rfl ?_)
 refine wpAny_bind (up2 t2 fun g3 t3 s3=>?_)
 replace t3:IsPr g3 (n+3) x b:=t3
 refine wpAny_bind (wpAny_letGo (wpAny_pure ?_))
 refine wpAny_bind (wpAny_bind (wpAny_onRaise ?_))
 show wpAny _ _ (Builtin.SmallTypes.nextOf (.ref (n+1)) >>= _) _ _ _
 refine wpAny_bind (wpAny_nextOf_list_item (((h2.extBut s1.extBut z1).extBut s2.extBut q3.symm).extBut s3.extBut q1)
  (((hl2.extBut s1.extBut (L2 4)).extBut s2.extBut (L2 0)).extBut s3.extBut (L2 3)) hy fun g4 i2 s4=>wpAny_pure ?_)
 have t4:IsPr g4 (n+3) x b:=s4.extBut _ _ q1.symm t3
 refine wpAny_bind (wpAny_seqItems t4 rfl ?_)
 refine wpAny_bind (up2 t4 fun g5 t5 s5=>?_)
 replace t5:IsPr g5 (n+3) x y:=t5
 refine wpAny_bind (wpAny_letGo (wpAny_pure (wpAny_pure ?_)))
 refine wpAny_bind (wpAny_seqItems t5 rfl ?_)
 refine wpAny_bind (wpAny_newTuple ?_)
 have hsz:g5.objs.size=s.heap.objs.size:=by rw[s5.1,s4.1,s3.1,s2.1,s1.1]
 have hz7:IsZip g5 (n+4) (n+2) (n+3) .ellipsis:=s5.extBut _ _ z4.symm (s4.extBut _ _ z1.symm (s3.extBut _ _ z4.symm (s2.extBut _ _ z0.symm hz1)))
 have kk:∀ q o,q≠n+4→q≠n+3→q≠n→q≠n+1→s.heap.get? q=some o→g5.get? q=some o:=fun q o c5 c4 c0 c1 e =>
  s5.extBut _ _ c4 (s4.extBut _ _ c1 (s3.extBut _ _ c4 (s2.extBut _ _ c0 (s1.extBut _ _ c5 e))))
 have j1:g5.IsTupleIter n l1 (k+1):=((i1.extBut s3.extBut q0).extBut s4.extBut q3).extBut s5.extBut q0
 have j2:g5.IsListIter (n+1) l2 (k+1):=i2.extBut s5.extBut q1
 have zlt:n+4 < g5.objs.size:=Heap.lt_size hz7
 show wpAny _ _ (Builtin.SmallTypes.ownedTupleHandOut (.ref (n+4)) (.ref g5.objs.size) >>= _) _ _ _
 refine wpAny_bind ?_
 unfold Builtin.SmallTypes.ownedTupleHandOut
 have hz8:IsZip (g5.push { cls:=.type "tuple", data:=.seq #[x,y] }) (n+4) (n+2) (n+3) .ellipsis:=Heap.get?_push_of_some _ hz7
 refine wpAny_bind (wpAny_setField_rec hz8 (by simp) fun g9 hz9 s9=>?_)
 replace hz9:IsZip g9 (n+4) (n+2) (n+3) (rawInt g5.objs.size):=hz9
 refine wpAny_setField_rec hz9 (by simp) fun g10 hz10 s10=>?_
 replace hz10:IsZip g10 (n+4) (n+2) (n+3) (rawInt g5.objs.size):=hz10
 have up:∀ q o,q≠n+4→g5.get? q=some o→g10.get? q=some o:=fun q o c1 e=>s10.extBut _ _ c1 (s9.extBut _ _ c1 (Heap.get?_push_of_some _ e))
 have tt:IsPr g10 g5.objs.size x y:=s10.extBut _ _ (Nat.ne_of_gt zlt) (s9.extBut _ _ (Nat.ne_of_gt zlt) (Heap.get?_push_size _ rfl))
 rw[hsz] at hz10 tt
 refine wpAny_pure ⟨_,rfl,wpAny_pure ?_⟩
 show Q (some (.ref g5.objs.size)) _
 rw[hsz]
 exact hQ g10 hz10 (up _ _ z4 t5) (j1.at fun o e=>up _ o z0 e) (j2.at fun o e=>up _ o z1 e) tt fun q o c5 c4 c0 c1 e=>up q o c5 (kk q o c5 c4 c0 c1 e)
theorem end2{n l1 l2:Addr}{k:Nat}{xs ys:Array Value}{a b:Value}{Q:Option Value→Shared→Prop}(hh:A.handled=none)(D:Ap n l1 l2)
  (hz:IsZip s.heap (n+4) (n+2) (n+3) .none) (hTI:IsPr s.heap (n+2) (.ref n) (.ref (n+1))) (hTO:IsPr s.heap (n+3) a b)
  (h1:s.heap.IsTupleIter n l1 k) (h2:s.heap.IsListIter (n+1) l2 k) (hl1:s.heap.IsTuple l1 xs) (hl2:s.heap.IsList l2 ys) (hx:xs[k]?=none)
  (hQ:∀ h',(∀ q o,q≠n+4→q≠n+3→q≠n→q≠n+1→s.heap.get? q=some o→h'.get? q=some o)→Q none { s with heap:=h' }) :
  wpAny (model prog w) A (pyNext (.ref (n+4))) Q E s:=by
 obtain⟨d1,d2⟩:=D
 have q0:n≠n+3:=Z3.dif (.inl (by omega))
 have q1:n+1≠n+3:=Z3.dif (.inl (by omega))
 have q3:n≠n+1:=Z3.dif (.inl (by omega))
 have z0:n≠n+4:=Z3.dif (.inl (by omega))
 have z1:n+1≠n+4:=Z3.dif (.inl (by omega))
 have z4:n+3≠n+4:=Z3.dif (.inl (by omega))
 have L1:∀ j,l1≠n+j:=fun j=>Z3.dif (.inl (by omega))
 have L2:∀ j,l2≠n+j:=fun j=>Z3.dif (.inl (by omega))
 have hT:s.TypeIs (.ref (n+4)) "zip" := ⟨_,hz,rfl⟩
 unfold pyNext
 refine wpAny_bind (wpAny_attempt (wpAny_callSpecial?_slot (name:=Str.ofString "__next__") hT F.slot_zip_next
  (wpAny_call_entry F.slot_zip_next hT F.entry_zip_next ?_ (F.args_zip_next_1 _))))
 show wpAny _ _ (field (.ref (n+4)) 2 >>= _) _ _ _
 refine wpAny_bind (wpAny_field hz rfl (x:=.bool false) rfl ?_)
 show wpAny _ _ (field (.ref (n+4)) 3 >>= _) _ _ _
 refine wpAny_bind (wpAny_field hz rfl (x:=.ref (n+2)) rfl ?_)
 refine wpAny_bind (wpAny_seqItems hTI rfl ?_)
 show wpAny _ _ (Builtin.SmallTypes.ownedTupleIsFree (.ref (n+4)) >>= _) _ _ _
 refine wpAny_bind ?_
 unfold Builtin.SmallTypes.ownedTupleIsFree
 refine wpAny_bind (wpAny_field hz rfl (x:=.none) rfl (wpAny_pure ?_))
 simp only[if_true]
 refine wpAny_bind (wpAny_rule ?_)
 refine wpAny_bind (wpAny_field hz rfl (x:=.ref (n+3)) rfl ?_)
 refine wpAny_bind (wpAny_setField_rec hz (by simp) fun g1 hz1 s1=>?_)
 replace hz1:IsZip g1 (n+4) (n+2) (n+3) .ellipsis:=hz1
 refine wpAny_bind ?_
 simp only[List.zipIdx_cons,List.zipIdx_nil,List.forIn_cons,List.forIn_nil]
 refine wpAny_bind (wpAny_bind (wpAny_onRaise ?_))
 show wpAny _ _ (Builtin.SmallTypes.nextOf (.ref n) >>= _) _ _ _
 refine wpAny_bind (nxE hh (h1.extBut s1.extBut z0) (hl1.extBut s1.extBut (L1 4)) hx fun g4 e s4 he=>?_)
 obtain⟨oe,hoe,hce⟩:=he
 have hz2:IsZip g4 (n+4) (n+2) (n+3) .ellipsis:=s4 _ _ z0.symm hz1
 have hez:e≠n+4:=fun x=>by
  rw[x,hz2] at hoe
  cases hoe
  simp at hce
 refine wpAny_setField_rec hz2 (by simp) fun g5 _ s5=>?_
 refine wpAny_bind (wpAny_isInstance (T := "StopIteration") (b:=true) ⟨oe,s5.extBut _ _ hez hoe,hce⟩ isSubtype_stop ?_)
 exact wpAny_pure (hQ g5 fun q o c5 c4 c0 c1 x=>s5.extBut _ _ c5 (s4 _ _ c0 (s1.extBut _ _ c5 x)))
end
end ZL
namespace L2
open PySem PySem.Spec PyProof.Rows ZT ZL
section
variable {X:Cx}
def ItzL(K:PySem.W.Frag)(a b:Addr):It :=
 ⟨fun i H=>∃ xs ys x y,SqT K H a xs∧SqL K H b ys∧xs[i]?=some x∧ys[i]?=some y,
   fun i H v H'=>∃ p x y,H p=none∧(∀ xs,SqT K H a xs→xs[i]?=some x)∧(∀ ys,SqL K H b ys→ys[i]?=some y)∧v=.ref p∧H'=upd H p (.tup [x,y]),
   fun i H=>∃ xs ys,SqT K H a xs∧SqL K H b ys∧i=xs.length⟩
theorem turn_zipL{P:Program}{w:World}{K:PySem.W.Frag}{elts:List Expr}{k:Nat}{tp:Pos}(n a b:Addr)(D:Ap n a b) :
  Turn P w K (.Tuple elts k tp) (ItzL K a b) [n+4,n+2,n+3,n,n+1] (n+4) (fun i h=>IsZip h (n+4) (n+2) (n+3) .none∧IsPr h (n+2) (.ref n) (.ref (n+1))∧(∃ a b,IsPr h (n+3) a b)∧h.IsTupleIter n a i∧h.IsListIter (n+1) b i) where
 mem:=by simp
 obj:=fun i h st q hb=>by
  obtain⟨s1,s2,⟨_,_,s3⟩,⟨o4,e4,_,d4⟩,⟨o5,e5,_,d5⟩⟩:=st
  simp only[List.mem_cons,List.not_mem_nil,or_false] at hb
  rcases hb with rfl | rfl | rfl | rfl | rfl
  ·exact⟨_,s1,fun v z=>by cases (show Data.fields _=Data.cell v from z)⟩
  ·exact⟨_,s2,fun v z=>by cases (show Data.seq _ _=Data.cell v from z)⟩
  ·exact⟨_,s3,fun v z=>by cases (show Data.seq _ _=Data.cell v from z)⟩
  ·exact⟨_,e4,fun v z=>by rw[d4] at z;cases z⟩
  ·exact⟨_,e5,fun v z=>by rw[d5] at z;cases z⟩
 keep:=fun i h h' st hk=>by
  obtain⟨s1,s2,⟨_,_,s3⟩,s4,s5⟩:=st
  exact⟨hk _ (by simp) _ s1,hk _ (by simp) _ s2,⟨_,_,hk _ (by simp) _ s3⟩,s4.at fun o e=>hk n (by simp) o e,s5.at fun o e=>hk (n+1) (by simp) o e⟩
 item:=by
  intro X hP hw hK hc i pins s σ H E I hf st hg
  subst hP hw hK
  obtain⟨xs,ys,x,y,hq1,hq2,hx,hy⟩:=hg
  obtain⟨its1,rv1,p1,hz1⟩:=I.tuple hq1
  obtain⟨its2,rv2,p2,hz2⟩:=I.list hq2
  obtain⟨u1,hu1,ru1⟩:=rv1.get hx
  obtain⟨u2,hu2,ru2⟩:=rv2.get hy
  obtain⟨s1,s2,⟨_,_,s3⟩,s4,s5⟩:=st
  refine ZL.item2 D s1 s2 s3 s4 s5 (show s.heap.IsTuple a its1.toArray from p1) p2.isList (by simpa using hu1) (by simpa using hu2) fun h' z1 t1 i1 i2 tT kk=>?_
  have hlt:n+4 < s.heap.objs.size:=Heap.lt_size s1
  have ne:∀ q,q≤n+4→q≠s.heap.objs.size:=fun q hq=>Nat.ne_of_lt (Nat.lt_of_le_of_lt hq hlt)
  refine⟨.ref s.heap.objs.size,rfl,wpAny_letOwnedTupleGo_zip z1 fun h2 z2 k2=>?_⟩
  have d0:n≠n+4:=Z3.dif (.inl (by omega))
  have d1:n+1≠n+4:=Z3.dif (.inl (by omega))
  have d3:n+2≠n+4:=Z3.dif (.inl (by omega))
  have d4:n+3≠n+4:=Z3.dif (.inl (by omega))
  have e4:n+2≠n+3:=Z3.dif (.inl (by omega))
  have e0:n+2≠n:=Z3.dif (.inr (by omega))
  have e1:n+2≠n+1:=Z3.dif (.inr (by omega))
  have kept:∀ q o,q∉[n+4,n+3,n,n+1]→s.heap.get? q=some o→h2.get? q=some o:=fun q o hc e=>by
   simp only[List.mem_cons,List.not_mem_nil,or_false,not_or] at hc
   obtain⟨c5,c4,c0,c1⟩:=hc
   exact k2.extBut _ _ c5 (kk q o c5 c4 c0 c1 e)
  have sub:∀ q∈[n+4,n+3,n,n+1],q∈[n+4,n+2,n+3,n,n+1]:=fun q hc=>by
   simp only[List.mem_cons,List.not_mem_nil,or_false] at hc ⊢
   rcases hc with rfl | rfl | rfl | rfl<;>simp
  refine⟨.ref s.heap.objs.size,upd H s.heap.objs.size (.tup [x,y]),I.laidL (t':=s.toks) kept (fun q hc=>hf q (sub q hc)) (Nat.le_refl _) ⟨by show 2≤sizeLine;decide,[u1,u2],.cons ru1 (.cons ru2 .nil),?_⟩,rfl,
   ⟨s.heap.objs.size,x,y,I.hok.fresh (Nat.le_refl _),fun zs hzs=>by rw[I.tuple_inj hzs hq1];exact hx,fun zs hzs=>by rw[I.list_inj hzs hq2];exact hy,rfl,rfl⟩,⟨z2,?_,⟨_,_,k2.extBut _ _ d4 t1⟩,i1.extBut k2.extBut d0,i2.extBut k2.extBut d1⟩,fun q hc=>?_⟩
  ·exact⟨_,k2.extBut _ _ (Nat.ne_of_gt hlt) tT,rfl,_,rfl⟩
  ·exact k2.extBut _ _ d3 (kk _ _ d3 e4 e0 e1 s2)
  ·have hcn:=(hf q hc).1
   have hcl:q≤n+4:=by
    simp only[List.mem_cons,List.not_mem_nil,or_false] at hc
    rcases hc with rfl | rfl | rfl | rfl | rfl<;>first | exact Nat.le_refl _ | (show (_:Nat)≤_;omega)
   rw[upd_ne (ne q hcl)]
   exact hcn
 done:=by
  intro X hP hw hK hc i pins s σ H E I hf st hg
  subst hP hw hK
  obtain⟨xs,ys,hq1,hq2,hy⟩:=hg
  obtain⟨its1,rv1,p1,hz1⟩:=I.tuple hq1
  obtain⟨its2,rv2,p2,hz2⟩:=I.list hq2
  obtain⟨s1,s2,⟨_,_,s3⟩,s4,s5⟩:=st
  have sub:∀ q∈[n+4,n+3,n,n+1],q∈[n+4,n+2,n+3,n,n+1]:=fun q hc=>by
   simp only[List.mem_cons,List.not_mem_nil,or_false] at hc ⊢
   rcases hc with rfl | rfl | rfl | rfl<;>simp
  refine ZL.end2 (I.ok.hd hc) D s1 s2 s3 s4 s5 (show s.heap.IsTuple a its1.toArray from p1) p2.isList (by rw[hy,rv1.length];simp) fun h' kk=>⟨rfl,I.turnedL (wr:=[n+4,n+3,n,n+1]) (t':=s.toks) (fun q o hq e=>?_) fun q hc=>hf q (sub q hc)⟩
  simp only[List.mem_cons,List.not_mem_nil,or_false,not_or] at hq
  exact kk q o hq.1 hq.2.1 hq.2.2.1 hq.2.2.2 e
 self:=fun _ _ _ _ _ st h=>wpAny_pyIter_zip st.1 h
def iZipL(K:PySem.W.Frag)(ta:TA):TI:=fun σ H R=>ta σ H fun vs H1=>∃ a b,vs=[.ref a,.ref b]∧(∃ xs,SqT K H1 a xs)∧(∃ ys,SqL K H1 b ys)∧R (ItzL K a b) H1
theorem pi_zipL{a b:Expr}{ta:TA}{p pos tp:Pos}{elts:List Expr}{k:Nat}(hg:Gl X "zip")(hm:X.mg "zip" = none)(ha:PA X [a,b] ta)
  (hs:starEach [a,b] X.env=[(false,eval a X.env),(false,eval b X.env)]:=by rfl) (hs2:starEach [b] X.env=[(false,eval b X.env)]:=by rfl) :
  PI X (.Tuple elts k tp) (.Call (.Name "zip" p) [a,b] [] pos) (iZipL X.K ta):=by
 intro pins s σ H R I h
 refine Call_ (ld_blt I hg hm boot_zip (PyProof.Rows.callWith_type1 (thn (ha pos pins s σ H _ I h) fun us s1 ⟨vs,H1,I1,r1,q1⟩=>?_) (by rw[hs,hs2]) (by rw[hs2];rfl)))
 obtain⟨a',b',e,⟨xs,hq1⟩,⟨ys,hq2⟩,q⟩:=q1
 subst e
 cases r1 with
 | cons r rr =>
  cases rr with
  | cons r' rr =>
   cases rr
   cases r
   cases r'
   obtain⟨its1,rv1,p1,hz1⟩:=I1.tuple hq1
   obtain⟨its2,rv2,p2,hz2⟩:=I1.list hq2
   have p1:s1.heap.IsTuple a' its1.toArray:=p1
   have p2:s1.heap.IsList b' its2.toArray:=p2.isList
   have lt1:a' < s1.heap.objs.size:=by obtain⟨_,e,_⟩:=p1;exact Heap.lt_size e
   have lt2:b' < s1.heap.objs.size:=by obtain⟨_,e,_⟩:=p2;exact Heap.lt_size e
   refine ZL.call2 p1 p2 fun h' n hn hz hTI hTO hi1 hi2 hk=>?_
   subst hn
   refine wpAny_pyIter_zip hz ?_
   refine⟨_,[_,_,_,_,_],_,_,H1,rfl,I1.kept (t':=s1.toks) hk,turn_zipL _ a' b' ⟨lt1,lt2⟩,⟨hz,hTI,⟨_,_,hTO⟩,hi1,hi2⟩,fun q hc=>?_,by assumption⟩
   have hle:s1.heap.objs.size≤q:=by
    simp only[List.mem_cons,List.not_mem_nil,or_false] at hc
    rcases hc with rfl | rfl | rfl | rfl | rfl<;>first | exact Nat.le_refl _ | exact Nat.le_add_right _ _
   exact I1.fpOk hle (I1.hok.fresh hle)
end
end L2
namespace L2
open PySem PySem.Spec PyProof.Rows
theorem qi_zipLK{X:Cx}{K:PySem.W.Frag}(hK:X.K=K){a b:Expr}{t:TA}{elts:List Expr}{k:Nat}{tp p pos:Pos}(hg:Gl X "zip")(hm:X.mg "zip" = none)(ha:QA X [a,b] t)
  (hs:starEach [a,b] X.env=[(false,eval a X.env),(false,eval b X.env)]:=by rfl) (hs2:starEach [b] X.env=[(false,eval b X.env)]:=by rfl) :
  QI X (.Tuple elts k tp) (.Call (.Name "zip" p) [a,b] [] pos) (iZipL K t):=hK▸⟨pi_zipL hg hm ha.p hs hs2⟩
theorem comp_zipLR{K:PySem.W.Frag}{a b l:Addr}{xs ys:List V}{n:Nat}{js:List Nat}{g:TG}{tt:TT}{te:TE}{σ:St}{H1:Hp}{R:Hp→Prop}(Pv:Nat→List V→Hp→Prop)(h0:Pv 0 [] (upd H1 l (.lst [])))(he:xs.length=ys.length)
  (hl:∀ i acc H,i≤xs.length→Pv i acc H→SqT K H a xs∧SqL K H b ys)
  (hs:∀ i x y p acc H,xs[i]?=some x→ys[i]?=some y→H p=none→Pv i acc H→g (.ref p) (compSt n js σ) (upd H p (.tup [x,y])) fun σ2 H2=>tt σ2 H2 fun b H3=>if b=true then te σ2 H3 fun y H4=>H4 l=some (.lst acc)∧acc.length < sizeLine∧Pv (i+1) (acc++[y]) (upd H4 l (.lst (acc++[y]))) else Pv (i+1) acc H3)
  (hd:∀ acc H,Pv xs.length acc H→R H) :
  ∃ W:Nat→Nat→List V→Hp→Prop,(∃ m,W 0 m [] (upd H1 l (.lst [])))∧∀ i m acc H,W i m acc H →
   ((ItzL K a b).stop i H∧R H)∨((ItzL K a b).go i H∧∃ N:List V→Hp→Prop,(∀ acc' H',N acc' H'→∃ m',m' < m∧W (i+1) m' acc' H') ∧
    ∀ x H',(ItzL K a b).yld i H x H'→g x (compSt n js σ) H' fun σ2 H2=>tt σ2 H2 fun b H3=>if b=true then te σ2 H3 fun y H4=>H4 l=some (.lst acc)∧acc.length < sizeLine∧N (acc++[y]) (upd H4 l (.lst (acc++[y]))) else N acc H3):=by
 refine⟨fun i m acc H=>m=xs.length - i∧i≤xs.length∧Pv i acc H,⟨xs.length,by simp,Nat.zero_le _,h0⟩,?_⟩
 rintro i m acc H ⟨rfl,hi,p⟩
 obtain⟨q1,q2⟩:=hl i acc H hi p
 by_cases hlt:i < xs.length
 ·have hlt2:i < ys.length:=by omega
  refine .inr ⟨⟨xs,ys,xs[i],ys[i],q1,q2,by simp[hlt],by simp[hlt2]⟩,Pv (i+1),fun acc' H' p'=>⟨xs.length - (i+1),by omega,rfl,hlt,p'⟩,fun v H' y=>?_⟩
  obtain⟨pp,x,y',hn,y1,y2,rfl,rfl⟩:=y
  exact hs i x y' pp acc _ (y1 xs q1) (y2 ys q2) hn p
 ·have e:i=xs.length:=by omega
  subst e
  exact .inl ⟨⟨xs,ys,q1,q2,rfl⟩,hd acc H p⟩
end L2
namespace L2
open PySem PySem.Spec PyProof.Rows
abbrev kvS(p:Str×V):Key×V:=(Sum.inr p.1,p.2)
structure KDict(P:Params)(K:PySem.W.Frag)(d:Addr)(D:List (Str×V)):Prop where
 lo:(d == sysModules)=false
 nd:(D.map (·.1)).Nodup
 few:D.length≤1000
 at':∃(o:Obj)(es:Array DictEntry)(ep:Nat),K.lookup d=some o∧o.ExactDict∧o.data=.dict es ep∧Paired (fun (p:Str×V) (e:DictEntry)=>e.hash=PyData.keyHash P p.1∧(∃ t,e.key=.str p.1 t)∧RelV p.2 e.val) D es.toList
theorem kd_pairs{prog:Program}{w:World}:∀ {D:List (Str×V)} {es:List DictEntry},Paired (fun (p:Str×V) (e:DictEntry)=>e.hash=PyData.keyHash w.params p.1∧(∃ t,e.key=.str p.1 t)∧RelV p.2 e.val) D es →
  ∃ vs:List (Key×Value),KV (D.map kvS) vs∧Pairs (mixKind prog w) es vs∧vs.map (·.1)=D.map (fun p=>(Sum.inr p.1:Key))∧∀ e∈es,∃ k,(mixKind prog w).is k e.key=true∧e.hash=(mixKind prog w).hash k
 | [],_,.nil=>⟨[],.nil,.nil,rfl,fun e h=>by cases h⟩
 | p::D,e::es,.cons ⟨h1,⟨t,h2⟩,h3⟩ r=>by
  obtain⟨vs,a1,a2,a3,a4⟩:=kd_pairs (prog:=prog) r
  have k1:(mixKind prog w).is (.inr p.1) e.key=true:=by rw[h2];exact mixKind_str prog w p.1 t
  refine⟨(.inr p.1,e.val)::vs,.cons ⟨rfl,h3⟩ a1,.cons k1 rfl a2,by rw[List.map_cons,List.map_cons,a3],fun x hx=>?_⟩
  rcases List.mem_cons.mp hx with rfl | hx
  ·exact⟨.inr p.1,k1,h1⟩
  ·exact a4 x hx
theorem KDict.of{prog:Program}{w:World}{K:PySem.W.Frag}{d:Addr}{D:List (Str×V)}{h:Heap}(x:KDict w.params K d D)(X:K.In h):∃ vs,KV (D.map kvS) vs∧h.DictOf (mixKind prog w) d vs:=by
 obtain⟨o,es,ep,a1,a2,a3,a4⟩:=x.at'
 obtain⟨vs,b1,b2,b3,b4⟩:=kd_pairs (prog:=prog) a4
 refine⟨vs,b1,o,es,ep,X _ _ a1,a2,a3,fun e he=>b4 e (Array.mem_toList_iff.mpr he),b2,?_⟩
 rw[b3]
 have:=x.nd
 rw[List.nodup_iff_pairwise_ne,List.pairwise_map] at this ⊢
 exact this.imp fun h z=>h (Sum.inr.inj z)
section
variable {X:Cx}
def rDictK(X:Cx):List V→Hp→VK→Prop:=fun xs H Q=>∃ d D,xs=[.ref d]∧KDict X.w.params X.K d D∧∀ p,H p=none→Q (.ref p) (upd H p (.dK (D.map kvS)))
theorem call_dictK:CallR X (.type "dict") (rDictK X):=by
 intro pins s σ H xs us Q I r h
 obtain⟨d,D,rfl,hD,q⟩:=h
 obtain⟨u,rfl,ru⟩:=r.one
 cases ru
 obtain⟨vs,kv,dd⟩:=hD.of (prog:=X.prog) (w:=X.w) I.kIn
 have hl:vs.length=D.length:=by
  have:(D.map kvS).length=vs.length:=KV.length kv
  rw[List.length_map] at this
  exact this.symm
 have few:=hD.few
 refine kt_call_dict hD.lo dd (by rw[hl,sizeLine_eq];omega) fun h' dn sb=>?_
 refine⟨.ref s.heap.objs.size,_,I.laid (t':=s.toks) (fun b o e=>?_) (Nat.le_refl _) (show ObjOk X.prog X.w _ _ _ (.dK (D.map kvS)) from ⟨?_,?_,vs,kv,dn⟩),rfl,q _ (I.hok.fresh (Nat.le_refl _))⟩
 ·rw[sb.2 b (Nat.ne_of_lt (Heap.lt_size e))]
  exact Heap.get?_push_of_some _ e
 ·rw[List.length_map,sizeLine_eq];omega
 ·exact beq_eq_false_iff_ne.mpr (Nat.ne_of_gt I.big)
theorem valV_kvS{D:List (Str×V)}{z:Str}{v:V}(h:D.lookup z=some v):valV (D.map kvS) (Sum.inr z)=some v:=by
 induction D with
 | nil=>cases h
 | cons p D ih =>
  unfold valV
  rw[List.map_cons,List.find?_cons]
  rw[List.lookup_cons] at h
  by_cases e:z=p.1
  ·have e':decide ((kvS p).1=Sum.inr z)=true:=decide_eq_true (by rw[e])
   rw[e']
   have:(z == p.1)=true:=by rw[e];exact beq_self_eq_true _
   rw[this] at h
   exact h
  ·have e':decide ((kvS p).1=Sum.inr z)=false:=decide_eq_false fun q=>e (Sum.inr.inj q).symm
   rw[e']
   have:(z == p.1)=false:=beq_eq_false_iff_ne.mpr e
   rw[this] at h
   exact ih h
theorem qe_dget1{o e:Expr}{td ty:TE}{apos cpos:Pos}(hu:X.A.units+1 < cLine)(ho:QE X o td)(he:QE X e ty)(m:M1 X o "get" apos e cpos:=by exact⟨rfl,rfl,rfl,rfl⟩):QE X (.Call (.Attribute o "get" apos) [e] [] cpos) (tDGet1 td ty):=⟨pe_dget1 hu ho.p he.p m⟩
def rIsiT:List V→Hp→VK→Prop:=fun xs H Q=>∃ a q,xs=[.ref a,.ref q]∧H q=some (.tup [.ty "list", .ty "tuple"])∧((∃ ys,H a=some (.tup ys))∨∃ ys,H a=some (.lst ys))∧Q (.bl true) H
theorem kit_lt(K:PySem.W.Frag):PySem.W.kitAny K (.type "list") [.type "list", .type "tuple"]=some true:=by
 unfold PySem.W.kitAny
 rw[show PySem.W.kitOne K (.type "list") (.type "list")=some true from rfl]
theorem kit_tl(K:PySem.W.Frag):PySem.W.kitAny K (.type "tuple") [.type "list", .type "tuple"]=some true:=by
 unfold PySem.W.kitAny
 rw[kit_of K "tuple" (by decide) "list" (by decide)]
 show PySem.W.kitAny K (.type "tuple") [.type "tuple"]=some true
 unfold PySem.W.kitAny
 rw[show PySem.W.kitOne K (.type "tuple") (.type "tuple")=some true from rfl]
theorem call_isiT:CallR X (.builtin "isinstance") rIsiT:=by
 intro pins s σ H xs us Q I r h
 obtain⟨a,q,rfl,hq,ha,k⟩:=h
 obtain⟨u,v,rfl,ru,rv⟩:=r.two
 cases rv
 cases ru
 obtain⟨its,rt,pt,_⟩:=I.tuple (SqT.of hq)
 obtain⟨a1,a2,e1,r1,r2⟩:=rt.two
 cases r1
 cases r2
 subst e1
 obtain⟨o,ho,hc,n,hd⟩:=pt
 obtain⟨oc,od,odt,osl⟩:=o
 simp only at hc hd
 subst hc hd
 rcases ha with ⟨ys,ea⟩ | ⟨ys,ea⟩
 ·obtain⟨_,_,_,p⟩:=(show ObjOk X.prog X.w H s.heap a (.tup ys) from I.hok a _ ea)
  obtain⟨o',h1,h2,_⟩:=p
  exact PySem.W.kia_tup PySem.W.kitx_tuple I.kIn ⟨o',h1,h2⟩ ho (kit_tl X.K) (fun z=>nomatch z) fun tk=>⟨.bl true,H,I.tok tk,rfl,k⟩
 ·obtain⟨_,_,n',_,h1⟩:=(show ObjOk X.prog X.w H s.heap a (.lst ys) from I.hok a _ ea)
  exact PySem.W.kia_tup PySem.W.kitx_list I.kIn ⟨_,h1,rfl⟩ ho (kit_lt X.K) (fun z=>nomatch z) fun tk=>⟨.bl true,H,I.tok tk,rfl,k⟩
end
theorem for_strN{z:Str}{g:TG}{tb:L2.TS}{D:Ends}{σ:St}{H:Hp}(Pv:Nat→St→Hp→Prop)(h0:Pv 0 σ H)
  (hs:∀(i c:Nat)(σ:St)(H:Hp)(N B:St→Hp→Prop),z.cps[i]?=some c→Pv i σ H→(∀ σ' H',Pv (i+1) σ' H'→N σ' H')→(∀ σ' H',D.nx σ' H'→B σ' H')→g (.str ⟨#[c]⟩) σ H fun σ2 H2=>tb { nx:=N,rt:=D.rt,bk:=B,ct:=N } σ2 H2) (hd:∀ σ H,Pv z.cps.size σ H→D.nx σ H) :
  ∃ W:Nat→Nat→St→Hp→Prop,(∃ m,W 0 m σ H)∧∀ i m σ H,W i m σ H →
   ((Its z).stop i H∧D.nx σ H)∨((Its z).go i H∧∃ N:St→Hp→Prop,(∀ σ' H',N σ' H'→∃ m',m' < m∧W (i+1) m' σ' H')∧∀ x H',(Its z).yld i H x H'→g x σ H' fun σ2 H2=>tb { D with nx:=N,ct:=N,bk:=D.nx } σ2 H2):=by
 refine⟨fun i m σ H=>m=z.cps.size - i∧i≤z.cps.size∧Pv i σ H,⟨z.cps.size,by simp,Nat.zero_le _,h0⟩,?_⟩
 rintro i m σ H ⟨rfl,hi,p⟩
 by_cases hlt:i < z.cps.size
 ·refine .inr ⟨hlt,Pv (i+1),fun σ' H' p'=>⟨z.cps.size - (i+1),by omega,rfl,hlt,p'⟩,fun v H' y=>?_⟩
  obtain⟨rfl,c,hc,rfl⟩:=y
  exact hs i c σ _ (Pv (i+1)) D.nx hc p (fun _ _ h=>h) fun _ _ h=>h
 ·have e:i=z.cps.size:=by omega
  subst e
  exact .inl ⟨Nat.le_refl _,hd σ H p⟩
theorem rec0{P:Program}{w:World}{K:PySem.W.Frag}{mg:Str→Option Value}{base:Heap}{CX:CXT}{k:Nat}{x:Str}{st:Stmt}{f:Addr}{fd:FuncData}{ps:List Str}{sp:Sp}(D:DefAt K mg x st f fd)(b:Binds K fd ps [])(hn:∀ vs H Q E,¬ sp vs H Q E):DefOk P w K mg base CX k x ps sp :=
 D.ok ⟨fun _ _ _ _ h=>(hn _ _ _ _ h).elim,fun _ _ _ _ _ _ _ _ _ _ _ _ _ h=>(hn _ _ _ _ h).elim⟩ b
theorem qe_globI{X:Cx}{x:Str}{n:Int}{pos:Pos}(hg:Gl X x)(hm:∃ t,X.mg x=some (.int n t))(hd:(x == ("__debug__" : Str))=false:=by decide):QE X (.Name x pos) (tC (.int n)):=by
 obtain⟨t,hm⟩:=hm
 exact⟨pe_glob hg hm ⟨t,rfl⟩ hd⟩
def KTup(K:PySem.W.Frag)(a:Addr)(xs:List V):Prop:=∃(o:Obj)(its:Array Value)(n:Nat),K.lookup a=some o∧o.cls=.type "tuple" ∧ o.data=.seq its n∧its.size≤sizeLine∧Vals xs its.toList
theorem KTup.sq{K:PySem.W.Frag}{a:Addr}{xs:List V}(h:KTup K a xs)(H:Hp):SqT K H a xs:=.inr h
section
variable {H:Hp}{Q:VK}{σ:St}
theorem i_tIf{t:TT}{ta tb:TE}(h:t σ H fun c H1=>if c=true then ta σ H1 Q else tb σ H1 Q):tIf t ta tb σ H Q:=h
theorem i_strN{n:Int}(hn:n.natAbs < 2 ^ 1000)(h:Q (.str (dec n)) H):rStr [.int n] H Q:=.inr ⟨n,rfl,hn,h⟩
theorem i_strS{z:Str}(h:Q (.str z) H):rStr [.str z] H Q:=.inl ⟨z,rfl,h⟩
theorem i_intS{z:Str}{n:Int}(hn:intText? z=some n)(hz:z.length≤640)(h:Q (.int n) H):rIntS [.str z] H Q:=⟨z,n,rfl,hn,hz,h⟩
end
theorem qe_globR{X:Cx}{x:Str}{d:Addr}{pos:Pos}(hg:Gl X x)(hm:X.mg x=some (.ref d))(hd:(x == ("__debug__" : Str))=false:=by decide):QE X (.Name x pos) (tC (.ref d)):=⟨pe_glob hg hm rfl hd⟩
theorem bt_dict:bootBuiltins "dict" = some (.type "dict"):=by decide +kernel
end L2
namespace PySem
open Sem (wp)
def Fld(o:Obj)(i:Nat)(x:Value):Prop:=∃ vs,o.data=.fields vs∧vs[i]?=some x
def putF(i:Nat)(x:Value):Obj→Obj:=Obj.mapFields (·.setIfInBounds i x)
theorem putF_dict(i:Nat)(x:Value)(o:Obj):(putF i x o).dict=o.dict:=by
 cases o with
 | mk c d t k=>cases t<;>rfl
theorem Fld.put{o:Obj}{i:Nat}{y:Value}(f:Fld o i y)(x:Value):Fld (putF i x o) i x:=by
 obtain⟨vs,e,g⟩:=f
 have lt:=(Array.getElem?_eq_some_iff.mp g).1
 exact⟨_,Obj.data_mapFields e _,by rw[Array.getElem?_setIfInBounds_self,if_pos lt]⟩
theorem Fld.live{o:Obj}{i:Nat}{x:Value}(f:Fld o i x):o.isFreed=false:=Obj.isFreed_of_fields f.choose_spec.1
def Set1(a:Addr)(f:Obj→Obj)(h h':Heap):Prop:=(∀ o,h.get? a=some o→h'.get? a=some (f o))∧∀ b,b≠a→h'.get? b=h.get? b
structure Soft(base h h':Heap):Prop where
 low:base.StaysIn h→base.StaysIn h'
 up:h.UpToSlots h'
theorem Soft.trans{base h g k:Heap}(x:Soft base h g)(y:Soft base g k):Soft base h k:=⟨fun z=>y.low (x.low z),x.up.trans y.up⟩
theorem Soft.frames{base h h':Heap}(x:Soft base h h'){l:List Env}(f:h.FunFrames base l):h'.FunFrames base l :=
 f.of_keeps fun b o e n=>by
  obtain⟨k,q⟩:=x.up b o e n
  exact⟨_,q,rfl⟩
theorem Set1.soft{base h h':Heap}{a:Addr}{g:Obj→Obj}{o:Obj}{i:Nat}{x:Value}(s:Set1 a g h h')(ho:h.get? a=some o)(f:Fld o i x)(nb:base.get? a=none):Soft base h h':=by
 constructor
 ·intro st b u hb
  rw[s.2 b fun z=>by rw[z,nb] at hb;exact nomatch hb]
  exact st b u hb
 ·intro b u hb nf
  refine⟨u.slots,?_⟩
  rw[s.2 b fun z=>?_]
  ·exact hb
  ·obtain⟨vs,e,_⟩:=f
   rw[z,ho] at hb
   cases hb
   exact nf vs e
section
variable {M:Model}{A:Around}{E:Value→Shared→Prop}{s:Shared}{base:Heap}{env:Env}{outer l:List Env}{L e:Addr}{cls m:Value}{od:Option Addr}
theorem fld_get{a:Addr}{o:Obj}{i:Nat}{x:Value}{Q:Value→Shared→Prop}(ho:s.heap.get? a=some o)(f:Fld o i x)(q:Q x s):wpAny M A (field (.ref a) i) Q E s:=by
 obtain⟨vs,d,g⟩:=f
 exact wpAny_field ho d g q
theorem fld_set{a:Addr}{o:Obj}{i:Nat}{x y:Value}{Q:Unit→Shared→Prop}(ho:s.heap.get? a=some o)(f:Fld o i x)(q:∀ h',Set1 a (putF i y) s.heap h'→Q () { s with heap:=h' }):wpAny M A (setField (.ref a) i y) Q E s:=by
 have lv:=(f.put y).live
 obtain⟨vs,d,g⟩:=f
 refine wpAny_setField ho d (Array.getElem?_eq_some_iff.mp g).1 (q _ ⟨fun u hu=>?_,fun b nb=>Heap.get?_update_other _ _ (Ne.symm nb)⟩)
 rw[ho] at hu
 cases hu
 exact Heap.get?_update_self _ ho lv
def XOn(base:Heap)(e:Addr)(cls:Value)(od:Option Addr)(m:Value)(h:Heap):Prop :=
 ∃ r T q,(h.get? e=some r∧r.cls=cls∧r.dict=od)∧Fld r 1 (.ref T)∧(T≠e∧base.get? T=none)∧h.get? T=some q∧Fld q 3 m
def Heap.AtD(base:Heap)(l:List Env)(e:Addr)(cls:Value)(od:Option Addr)(m:Value)(h:Heap):Prop :=
 base.StaysIn h∧base.get? e=none∧h.FunFrames base l∧XOn base e cls od m h
def Heap.FlyingD(base:Heap)(l:List Env)(e:Addr)(cls:Value)(od:Option Addr)(h:Heap):Prop:=Heap.AtD base l e cls od .none h
theorem Heap.AtD.there{h:Heap}(x:Heap.AtD base l e cls od m h):∃ ob,h.get? e=some ob∧ob.cls=cls :=
 let ⟨_,_,_,r,_,_,g,_⟩:=x
 ⟨r,g.1,g.2.1⟩
theorem Heap.AtD.tail{h:Heap}(x:Heap.AtD base (env::outer) e cls od m h):Heap.AtD base outer e cls od m h:=⟨x.1,x.2.1,x.2.2.1.2.2,x.2.2.2⟩
def tbO(hd:Value)(L:Addr)(pl:List Value):Obj:={ cls:=.type "traceback", dict:=none,data:=.fields ([hd,.ref L,.none,rawInt L,.none]++(if pl.isEmpty then List.replicate 6 Value.none else pl)).toArray }
theorem tbO_mark(hd:Value)(L:Addr)(pl:List Value):Fld (tbO hd L pl) 3 (rawInt L):=⟨_,rfl,by rw[List.getElem?_toArray];rfl⟩
theorem entry_laid{r:Obj}{y hd:Value}{nx:Bool}{Q:Unit→Shared→Prop}(fs:A.frames=some (env::outer))(hf:env.frame=some L)(st:base.StaysIn s.heap)(ne:base.get? e=none)
  (fr:s.heap.FunFrames base (env::outer)) (he:s.heap.get? e=some r) (f1:Fld r 1 y) (hc:r.cls=cls) (hx:r.dict=od)
  (q:∀ h',Soft base s.heap h'→XOn base e cls od (rawInt L) h'→Q () { s with heap:=h' }) :
  wpAny M A (do let a ← frameOf env;let pl ← entryPlaceOf L nx;let b ← EntryCells.newEntry hd a .none (rawInt L) .none pl;setField (.ref e) 1 b) Q E s:=by
 have out:e∉(env::outer).filterMap (·.frame):=fun z=>by
  obtain⟨_,o,ho,nf⟩:=fr.mem z
  rw[he] at ho
  cases ho
  obtain⟨vs,d,_⟩:=f1
  exact nf vs d
 refine wpAny_bind (wpAny_frameOf_fun fs fr hf fun g sl=>wpAny_bind (wpAny_entryPlaceOf fun pl isp=>?_))
 unfold EntryCells.newEntry newFields
 have sf1:Soft base s.heap g:=⟨fun z b o hb=>by
  rw[sl.2.1 b fun i=>by rw[(fr.mem i).1] at hb;exact nomatch hb]
  exact z b o hb,fun b o hb _=>sl.2.2 b o hb⟩
 have eg:g.get? e=some r:=by rw[sl.2.1 e out];exact he
 refine wpAny_bind (wpAny_newObj_type ?_ (isp.sizeOk5 _ _ _ _ _))
 have ep:(g.push (tbO hd L pl)).get? e=some r:=Heap.get?_push_of_some _ eg
 refine fld_set ep f1 fun h' s1=>q h' ?_ ?_
 ·have sf2:Soft base g (g.push (tbO hd L pl)) :=
   ⟨fun z b o hb=>Heap.get?_push_of_some _ (z b o hb),fun b o hb _=>⟨o.slots,Heap.get?_push_of_some _ hb⟩⟩
  exact sf1.trans (sf2.trans (s1.soft ep f1 ne))
 ·have nT:g.objs.size≠e:=fun z=>Nat.lt_irrefl _ (z▸Heap.lt_size eg)
  refine⟨putF 1 (.ref g.objs.size) r,g.objs.size,tbO hd L pl,⟨s1.1 _ ep,(Obj.cls_mapFields _ _).trans hc,(putF_dict _ _ _).trans hx⟩,f1.put _,⟨nT,(sf1.low st).fresh⟩,?_,tbO_mark _ _ _⟩
  rw[s1.2 _ nT]
  exact Heap.get?_push_size g rfl
theorem note_first{r:Obj}{Q:Unit→Shared→Prop}(fs:A.frames=some (env::outer))(hf:env.frame=some L)(st:base.StaysIn s.heap)(ne:base.get? e=none)
  (fr:s.heap.FunFrames base (env::outer)) (he:s.heap.get? e=some r) (f1:Fld r 1 .none) (hc:r.cls=cls) (hx:r.dict=od)
  (q:∀ h',Soft base s.heap h'→XOn base e cls od (rawInt L) h'→Q () { s with heap:=h' }):wpAny M A (noteFrame (.ref e) env) Q E s:=by
 unfold noteFrame
 simp only[hf]
 refine wpAny_bind (fld_get he f1 ?_)
 rw[if_neg (by decide)]
 exact entry_laid fs hf st ne fr he f1 hc hx q
theorem note_any{Q:Unit→Shared→Prop}(fs:A.frames=some (env::outer))(hf:env.frame=some L)(R:Heap.AtD base (env::outer) e cls od m s.heap)
  (q:∀ h',Heap.AtD base (env::outer) e cls od (rawInt L) h'→s.heap.UpToSlots h'→Q () { s with heap:=h' }):wpAny M A (noteFrame (.ref e) env) Q E s:=by
 have R0:=R
 obtain⟨st,ne,fr,r,T,u,⟨he,hc,hx⟩,f1,⟨nT,bT⟩,hT,f3⟩:=R
 unfold noteFrame
 simp only[hf]
 refine wpAny_bind (fld_get he f1 ?_)
 rw[if_pos (by simp:(Value.ref T != Value.none)=true)]
 refine wpAny_bind (fld_get hT f3 ?_)
 by_cases z:(m == rawInt L)=true
 ·rw[if_pos z]
  have zz:m=rawInt L:=eq_of_beq z
  rw[zz] at R0
  exact wpAny_pure (q s.heap R0 (Heap.UpToSlots.refl _))
 ·rw[if_neg z]
  refine wpAny_bind (fld_set hT f3 fun g s1=>?_)
  have sf:=s1.soft hT f3 bT
  refine entry_laid (s:={ s with heap:=g }) fs hf (sf.low st) ne (sf.frames fr) ((s1.2 e (Ne.symm nT)).trans he) f1 hc hx fun h' sf2 x=>?_
  have sf3:=sf.trans sf2
  exact q h' ⟨sf3.low st,ne,sf3.frames fr,x⟩ sf3.up
theorem mark_any{o?:Option Addr}{Q:Unit→Shared→Prop}(R:Heap.AtD base l e cls od m s.heap)
  (q:∀ h',Heap.AtD base l e cls od (o?.elim Value.none fun f=>rawInt f) h'→s.heap.UpToSlots h'→Q () { s with heap:=h' }):wpAny M A (setFlight (.ref e) o?) Q E s:=by
 obtain⟨st,ne,fr,r,T,u,⟨he,hc,hx⟩,f1,⟨nT,bT⟩,hT,f3⟩:=R
 unfold setFlight
 refine wpAny_bind (fld_get he f1 ?_)
 rw[if_pos (by simp:(Value.ref T != Value.none)=true)]
 refine fld_set hT f3 fun g s1=>?_
 have sf:=s1.soft hT f3 bT
 exact q g ⟨sf.low st,ne,sf.frames fr,r,T,_,⟨(s1.2 e (Ne.symm nT)).trans he,hc,hx⟩,f1,⟨nT,bT⟩,s1.1 _ hT,f3.put _⟩ sf.up
theorem leaves_any{Q:Unit→Shared→Prop}(fs:A.frames=some (env::outer))(hf:env.frame=some L)(R:Heap.AtD base (env::outer) e cls od m s.heap)
  (q:∀ h',Heap.FlyingD base outer e cls od h'→s.heap.UpToSlots h'→Q () { s with heap:=h' }):wpAny M A (leaving env (.ref e)) Q E s:=by
 unfold leaving
 refine wpAny_bind (note_any fs hf R fun h1 R1 u1=>?_)
 exact mark_any (s:={ s with heap:=h1 }) (o?:=none) R1 fun h2 R2 u2=>q h2 R2.tail (u1.trans u2)
theorem leaves_first{r:Obj}{Q:Unit→Shared→Prop}(fs:A.frames=some (env::outer))(hf:env.frame=some L)(st:base.StaysIn s.heap)(ne:base.get? e=none)
  (fr:s.heap.FunFrames base (env::outer)) (he:s.heap.get? e=some r) (f1:Fld r 1 .none) (hc:r.cls=cls) (hx:r.dict=od)
  (q:∀ h',Heap.FlyingD base outer e cls od h'→s.heap.UpToSlots h'→Q () { s with heap:=h' }):wpAny M A (leaving env (.ref e)) Q E s:=by
 unfold leaving
 refine wpAny_bind (note_first fs hf st ne fr he f1 hc hx fun h1 sf x=>?_)
 exact mark_any (s:={ s with heap:=h1 }) (o?:=none) ⟨sf.low st,ne,sf.frames fr,x⟩ fun h2 R2 u2=>q h2 R2.tail (sf.up.trans u2)
end
end PySem
namespace L2
open PySem PySem.Spec PyProof.Rows
section
variable {prog:Program}{w:World}{A:Around}{E:Value→Shared→Prop}{K:PySem.W.Frag}{C x:Addr}{s:Shared}{name:Str}{v:Value}
def xOver:List Value→Bool
 | []=>false
 | a::r=>match a with
  | .ref _=>xOver r
  | _=>(a::r) == veTail
theorem refuse_x(self:Value):∀{l:List Value},xOver l=true→refuseLoop self "__setattr__" l=pure ()
 | [],e=>by cases e
 | a::r,e=>by
  cases a with
  | ref c=>rw[refuseLoop_ref];exact refuse_x self (l:=r) e
  | _=>rw[show _=veTail from beq_iff_eq.mp e];exact PySem.F.store_ValueError.passes self
theorem xOver_has:∀{l:List Value},xOver l=true→l.contains (.type "object")=true
 | [],e=>by cases e
 | a::r,e=>by
  cases a with
  | ref c=>rw[List.contains_cons,xOver_has (l:=r) e,Bool.or_true]
  | _=>rw[show _=veTail from beq_iff_eq.mp e];decide
theorem xOver_exc:∀{l:List Value},xOver l=true→l.contains (.type "BaseException")=true
 | [],e=>by cases e
 | a::r,e=>by
  cases a with
  | ref c=>rw[List.contains_cons,xOver_exc (l:=r) e,Bool.or_true]
  | _=>rw[show _=veTail from beq_iff_eq.mp e];decide
theorem xset{cd:ClassData}{vs:Array Value}{sl:Array (Option Value)}{Q:Unit→Shared→Prop}(X:K.In s.heap)(hx:s.heap.get? x=some ⟨.ref C,none,.fields vs,sl⟩)
  (hs:PySem.W.findIn K (.ref C) "__setattr__" = some (some (.builtin "object.__setattr__"))) (hn:PySem.W.findIn K (.ref C) name=some none)
  (hc:PySem.W.clsIn K C=some cd) (ho:xOver cd.mro=true) (hd:cd.hasDict=true)
  (h:∀ h',h'.get? x=some ⟨.ref C,some s.heap.objs.size,.fields vs,sl⟩→h'.Ns1 s.heap.objs.size (fun y=>if y=name then some v else none)→(∀ b o,b≠x→s.heap.get? b=some o→h'.get? b=some o)→Q () { s with heap:=h',toks:=s.toks+2 }) :
  wpAny (model prog w) A (setAttr (.ref x) name v) Q E s:=by
 have I:PySem.W.InstAt s.heap x ⟨.ref C,none,.fields vs,sl⟩ C none:=⟨hx,rfl,rfl,trivial⟩
 have SF:=PySem.F.store_object
 refine PySem.W.set_plain X I hs ?_
 have ne:cd.mro.isEmpty=false:=by cases q:cd.mro with | nil=>rw[q] at ho;cases ho | cons _ _=>rfl
 have sub:PySem.W.Looks (model prog w) s.heap (isInstance (.ref x) (.type "object")) true:=I.type.andThen (PySem.W.looks_mroIn X (by unfold PySem.W.mroIn;rw[hc,Option.bind_some,if_neg (by rw[ne];decide),xOver_has ho]))
 have hm:PySem.W.Looks (model prog w) s.heap (mroOf (.ref C)) cd.mro:=(PySem.W.looks_clsIn X hc).andThen .now
 refine codeAny_call_builtin SF.slot.plain SF.entry (@PySem.W.check_slot (model prog w) _ _ { s with toks:=s.toks+1 } "object.__setattr__" "object" "__setattr__" (.ref x) [.str name s.toks,v] [] _ SF.kind SF.split sub (SF.args (.ref x) (.str name s.toks) v) ?_)
 rw[PySem.W.osa_eq,refuse_eq]
 refine wpAny_bind (wpAny_bind (PySem.W.Looks.here (s:={ s with toks:=s.toks+1 }) I.type (wpAny_bind (PySem.W.Looks.here (s:={ s with toks:=s.toks+1 }) hm ?_))))
 rw[refuse_x _ ho]
 refine wpAny_pure (wpAny_bind (PySem.W.Looks.here (s:={ s with toks:=s.toks+1 }) I.type (wpAny_bind (PySem.W.Looks.here (s:={ s with toks:=s.toks+1 }) (PySem.W.looks_findIn X hn) (wpAny_bind (wpAny_pure ?_))))))
 refine wpAny_bind (wpAny_pure (wpAny_bind (wpAny_bind (wpAny_loadPart hx (wpAny_bind (PySem.W.Looks.here (s:={ s with toks:=s.toks+1 }) (PySem.W.looks_clsIn X hc) ?_))))))
 rw[hd,if_neg (by decide)]
 dsimp only
 rw[if_neg (by simp[typeHasDict])]
 have hx₁:(s.heap.push { cls:=.type "dict", data:=.dict #[] }).get? x=some ⟨.ref C,none,.fields vs,sl⟩:=Heap.get?_push_of_some _ hx
 have hxs:x≠s.heap.objs.size:=Nat.ne_of_lt (Heap.lt_size hx)
 refine wpAny_bind (wpAny_alloc' ?_)
 refine wpAny_bind (wpAny_update' hx₁ ?_)
 refine wpAny_pure ?_
 have hgd:((s.heap.push { cls:=.type "dict", data:=.dict #[] }).update x fun o=>{ cls:=o.cls,dict:=some s.heap.objs.size,data:=o.data,slots:=o.slots }).get? s.heap.objs.size
   = some { cls:=.type "dict", data:=.dict #[] } :=
  (Heap.get?_update_ne _ _ _ _ hxs.symm).trans (Heap.get?_push_at rfl rfl)
 have hnd:((s.heap.push { cls:=.type "dict", data:=.dict #[] }).update x fun o=>{ cls:=o.cls,dict:=some s.heap.objs.size,data:=o.data,slots:=o.slots }).Ns s.heap.objs.size (fun _=>none) :=
  ⟨_,#[],_,hgd,rfl,fun e he=>absurd he (by simp),fun _=>rfl⟩
 refine wpAny_bind (wpAny_pure (wpAny_bind (wpAny_nsSet1 (Heap.Ns1.of_empty hnd) fun h' hn' hs2=>?_)))
 obtain⟨oD,esD,epD,hoD,hdD,hcD⟩:=hn'.count (PySem.Within.cons name v PySem.Within.nil)
 refine wpAny_bind (wpAny_lookBehind hoD (by rw[hdD];exact pastItsLine_dict (Nat.le_trans hcD (by rw[List.length_cons,List.length_nil,sizeLine_eq];omega))) ?_)
 refine wpAny_pure (h h' ?_ hn' fun b o hb e=>?_)
 ·exact (hs2.2 x hxs).trans (Heap.get?_update_self _ hx₁ rfl)
 ·exact (hs2.2 b (Nat.ne_of_lt (Heap.lt_size e))).trans ((Heap.get?_update_ne _ _ _ _ hb).trans (Heap.get?_push_of_some _ e))
theorem xget{ox:Obj}{od:Option Obj}{expr:Bool}{cd:ClassData}{Q:Value→Shared→Prop}(X:K.In s.heap)(I:PySem.W.InstAt s.heap x ox C od)
  (hga:PySem.W.findIn K (.ref C) "__getattribute__" = some (some (.builtin "BaseException.__getattribute__"))) (hk:PySem.W.findIn K (.ref C) "__getattr__" = some none)
  (hc:PySem.W.clsIn K C=some cd) (ho:xOver cd.mro=true) (hf:PySem.W.findObj K C od name=some (.value v)) (hh:PySem.W.handedIn v=true) (h:Q v { s with toks:=s.toks+1 }) :
  wpAny (model prog w) A (getAttr (.ref x) name expr) Q E s:=by
 have ne:cd.mro.isEmpty=false:=by cases q:cd.mro with | nil=>rw[q] at ho;cases ho | cons _ _=>rfl
 have sub:PySem.W.Looks (model prog w) s.heap (isInstance (.ref x) (.type "BaseException")) true:=I.type.andThen (PySem.W.looks_mroIn X (by unfold PySem.W.mroIn;rw[hc,Option.bind_some,if_neg (by rw[ne];decide),xOver_exc ho]))
 have L0:=I.type (M:=model prog w)
 have L1:=PySem.W.looks_find (M:=model prog w) X I hf
 refine wpAny_bind (wpAny_mkText (wpAny_holding (wpAny_bind (I.type _ _ _ _ (fun _ _ e=>e) (wpAny_bind (PySem.W.looks_findIn X hga _ _ _ _ (fun _ _ e=>e) ?_))))))
 dsimp only
 rw[show (onTheHeap (.ref C) && Value.builtin "BaseException.__getattribute__" == Value.builtin "object.__getattribute__")=false from by rw[show (Value.builtin "BaseException.__getattribute__" == Value.builtin "object.__getattribute__")=false from by decide +kernel,Bool.and_false],if_neg (by decide)]
 refine wpAny_bind (PySem.W.looks_findIn X hk _ _ _ _ (fun _ _ e=>e) (wpAny_bind (wpAny_attempt (wpAny_holding ?_))))
 unfold callGetattribute
 rw[show (expr && onTheHeap (Value.builtin "BaseException.__getattribute__"))=false from Bool.and_false _,if_neg (by decide)]
 unfold boundAndCalled
 rw[PySem.F.excAttr_ValueError.ga.bind]
 refine wpAny_bind (wpAny_pure ?_)
 show wpAny _ _ (call (.builtin "BaseException.__getattribute__") [.ref x,.str name s.toks]) _ _ _
 refine wpAny_call (codeAny_call_builtin PySem.F.excAttr_ValueError.ga.plain PySem.F.entry_bexc_ga ?_)
 refine @PySem.W.check_slot (model prog w) _ _ { s with toks:=s.toks+1 } "BaseException.__getattribute__" "BaseException" "__getattribute__" (.ref x) [.str name s.toks] [] _ (by decide +kernel) (by decide +kernel) sub (PySem.F.args_bexc_ga (.ref x) (.str name s.toks)) ?_
 refine wpAny_bind (wpAny_pure (wpAny_bind (wpAny_pure (wpAny_bind (PySem.W.Looks.here (s:={ s with toks:=s.toks+1 }) L0 (wpAny_bind (PySem.W.Looks.here (s:={ s with toks:=s.toks+1 }) L1 ?_)))))))
 refine wpAny_pure ?_
 show wpAny _ _ (handedOut v) _ _ _
 rw[PySem.W.handedOut_of hh];exact wpAny_pure h
end
section
variable {prog:Program}{w:World}{A:Around}{E:Value→Shared→Prop}{h:Heap}{g:Array GenState}{d:Drawn}{t:Nat}{os:OsState}
variable {nm q:Str}{C N:Addr}{bs bm bmB:List Value}{hdct:Bool}{sn:List Str}{sub:List Value}{ab:Bool}{col:Option Bool}{dd:Option Addr}{k0 k1 k2 k3 k5:Option Value}{B newId initId:String}
theorem type_call_xinit(F:ExcBaseFacts B newId initId bmB)(T:OwnTail h bmB bm){mN:Str→Option Value}{rest:List Value}{fI:Addr}{oI:Obj}{Q:Fin→Shared→Prop}
  (hC:h.get? C=some (excClassObj nm q C N bs bm hdct sn sub ab col dd k0 k1 k2 k3 k5 newId)) (hn:h.Ns N mN) (hi:mN "__init__" = some (.ref fI))
  (hfI:h.get? fI=some oI) (hfc:oI.cls=.type "function")
  (hq:∀ h' e,h.objs.size < e→Heap.MadeExcOf h h' e (.ref C) rest →
   wpAny (model prog w) A (call (.ref fI) (.ref e::rest)) (fun r s'=>r=.none∧Q (.done (.ret (.ref e))) s') E ⟨h',g,d,t,os⟩) (hrest:rest.length≤sizeLine) :
  wpAny (model prog w) A (Builtin.«type.__call__» ⟨.ref C::rest,[]⟩) Q E ⟨h,g,d,t,os⟩:=by
 repeat (first | with_reducible refine wpAny_loadPart_at hC ?_ | with_reducible refine wpAny_madeBy_exc hC ?_ | wp_step)
 refine codeAny_call_builtin_code (Code.quiet_builtin _ F.quiet) (wpAny_check_new_subT F T hC ?_)
 refine codeAny_exc_new_subT F T hC ?_ hrest
 show wpAny _ _ _ _ _ _
 have hC₁:=Heap.get?_push_of_some { cls:=.ref C,data:=.fields #[.ref h.objs.size,.none,.none,.none,.bool false,.none] }
  (Heap.get?_push_of_some { cls:=.type "tuple", data:=.seq rest.toArray } hC)
 have hfI₁:=Heap.get?_push_of_some { cls:=.ref C,data:=.fields #[.ref h.objs.size,.none,.none,.none,.bool false,.none] }
  (Heap.get?_push_of_some { cls:=.type "tuple", data:=.seq rest.toArray } hfI)
 have hn₁:((h.push { cls:=.type "tuple", data:=.seq rest.toArray }).push { cls:=.ref C,data:=.fields #[.ref h.objs.size,.none,.none,.none,.bool false,.none] }).Ns N mN :=
  let ⟨o,es,ep,e,r⟩:=hn;⟨o,es,ep,Heap.get?_push_of_some _ (Heap.get?_push_of_some _ e),r⟩
 have hget:((h.push { cls:=.type "tuple", data:=.seq rest.toArray }).push
   { cls:=.ref C,data:=.fields #[.ref h.objs.size,.none,.none,.none,.bool false,.none] }).get? (h.objs.size+1)=some
   { cls:=.ref C,data:=.fields #[.ref h.objs.size,.none,.none,.none,.bool false,.none] }:=by heap_get
 have hcC:(Value.ref C::bm).contains (.ref C)=true:=by simp
 have T₁:=T.keeps (h':=(h.push { cls:=.type "tuple", data:=.seq rest.toArray }).push { cls:=.ref C,data:=.fields #[.ref h.objs.size,.none,.none,.none,.bool false,.none] })
  fun b o e=>Heap.get?_push_of_some _ (Heap.get?_push_of_some _ e)
 unfold isInstance
 repeat (first | with_reducible refine wpAny_loadPart_at hget ?_ | (with_reducible refine wpAny_isSubtype_exc hC₁ ?_;rw[hcC]) | wp_step)
 show wpAny _ _ (typeLookup (.ref C) _) _ _ _
 refine wpAny_typeLookup_tail hC₁ hn₁ T₁ F.mroIs F.init.lookup ?_
 rw[hi]
 refine wpAny_holding (wpAny_bind ?_)
 unfold bindSpecial
 refine wpAny_bind (wpAny_typeOf (T := "function") ⟨_,hfI₁,hfc⟩ ?_)
 rw[if_pos (by decide)]
 refine wpAny_pure (wpAny_bind (wpAny_mono (hq _ (h.objs.size+1) (Nat.lt_succ_self _) ⟨fun b o hb=>Heap.get?_push_of_some _ (Heap.get?_push_of_some _ hb),Heap.get?_none_of_le (Nat.le_succ _),h.objs.size,hget,Heap.get?_none_of_le (Nat.le_refl _),?_⟩) (fun r s' hr=>?_) fun _ _ x=>x))
 ·exact Heap.get?_push_of_some _ (Heap.get?_push_at rfl rfl)
 ·obtain⟨rfl,hQ⟩:=hr
  wp_walk
  exact hQ
theorem call_xinit(F:ExcBaseFacts B newId initId bmB)(T:OwnTail h bmB bm){mN:Str→Option Value}{rest:List Value}{fI:Addr}{oI:Obj}{Q:Value→Shared→Prop}
  (hC:h.get? C=some (excClassObj nm q C N bs bm hdct sn sub ab col dd k0 k1 k2 k3 k5 newId)) (hn:h.Ns N mN) (hi:mN "__init__" = some (.ref fI))
  (hfI:h.get? fI=some oI) (hfc:oI.cls=.type "function")
  (hq:∀ h' e,h.objs.size < e→Heap.MadeExcOf h h' e (.ref C) rest →
   wpAny (model prog w) (A.under (.builtin "type.__call__" ⟨.ref C::rest,[]⟩)) (call (.ref fI) (.ref e::rest)) (fun r s'=>r=.none∧Q (.ref e) s') E ⟨h',g,d,t,os⟩) (hrest:rest.length≤sizeLine) :
  wpAny (model prog w) A (call (.ref C) rest) Q E ⟨h,g,d,t,os⟩:=by
 have f1:=tc_lookup
 have f2:=tc_bind (.ref C)
 have hT:(⟨h,g,d,t,os⟩:Shared).TypeIs (.ref C) "type" := ⟨_,hC,rfl⟩
 refine wpAny_call (codeAny_of_tree ?_)
 show wpAny _ _ (callAny (.ref C) _) _ _ _
 repeat (any_goals (first | assumption | with_reducible refine wpAny_loadPart_at hC ?_ | wp_step))
 refine⟨rfl,?_⟩
 refine codeAny_call_builtin_at (Code.quiet_builtin _ (by decide +kernel)) entry_typeCall (wpAny_check_type_call_sub hC (type_call_xinit F T hC hn hi hfI hfc (fun h' e hz hm=>hq h' e hz hm) hrest))
end
section
variable {prog:Program}{w:World}{A:Around}{E:Value→Shared→Prop}{s:Shared}{env:Env}
variable {nm q:Str}{C N:Addr}{bs bm bmB:List Value}{hdct:Bool}{sn:List Str}{sub:List Value}{ab:Bool}{col:Option Bool}{dd:Option Addr}{k0 k1 k2 k3 k5:Option Value}{B newId initId:String}
abbrev xObj(C:Addr)(od:Option Addr)(t:Addr):Obj:=⟨.ref C,od,.fields #[.ref t,.none,.none,.none,.bool false,.none],#[]⟩
theorem raiseStmt_x{x:Sem Value}{Q:Flow→Shared→Prop}(hbase:bm.contains (.type "BaseException")=true)(hh:A.handled=none)
  (h:wpAny (model prog w) A x (fun v s₁=>∃ e od t,v=.ref e∧s₁.heap.get? C=some (excClassObj nm q C N bs bm hdct sn sub ab col dd k0 k1 k2 k3 k5 newId) ∧
   s₁.heap.get? e=some (xObj C od t)∧E (.ref e) s₁) E s) :
  wpAny (model prog w) A (raiseStmt env (some x) none) Q E s:=by
 have hcB:(Value.ref C::bm).contains (.type "BaseException")=true:=by rw[List.contains_cons,hbase,Bool.or_true]
 unfold raiseStmt
 refine wpAny_bind (wpAny_mono h (fun v s₁ h₁=>?_) fun _ _ x=>x)
 obtain⟨e,od,t,rfl,hC,he,hE⟩:=h₁
 unfold xObj at he
 obtain⟨hp,g,d,tk,os⟩:=s₁
 repeat (first | with_reducible refine wpAny_loadPart_at he ?_ | with_reducible refine wpAny_loadPart_at hC ?_ | (with_reducible refine wpAny_isSubtype_exc hC ?_;rw[hcB]) | wp_step)
 exact wpAny_raiseNew_none hh hE
theorem Raise_xinit(F:ExcBaseFacts B newId initId bmB){mN:Str→Option Value}{x:Str}{np cpos pos:Pos}{args:List Expr}{Q:Flow→Shared→Prop}{fI:Addr}{oI:Obj}
  (hbase:bm.contains (.type "BaseException")=true) (hh:A.handled=none) (hplain:(backTo cpos (starEach args env)).any (·.1)=false) (hi:mN "__init__" = some (.ref fI)) (hfc:oI.cls=.type "function")
  (h:wpAny (model prog w) A (eval (.Name x np) env) (fun f s₁=>f=.ref C∧wpAny (model prog w) A (evalArgs (.ref C) true (backTo cpos (starEach args env)) [])
   (fun a s₂=>a.kw=[]∧a.pos.length≤sizeLine∧s₂.heap.get? C=some (excClassObj nm q C N bs bm hdct sn sub ab col dd k0 k1 k2 k3 k5 newId)∧s₂.heap.Ns N mN∧OwnTail s₂.heap bmB bm∧s₂.heap.get? fI=some oI ∧
    ∀ h' e,s₂.heap.objs.size < e→Heap.MadeExcOf s₂.heap h' e (.ref C) a.pos→wpAny (model prog w) (A.under (.builtin "type.__call__" ⟨.ref C::a.pos,[]⟩)) (call (.ref fI) (.ref e::a.pos)) (fun r s'=>r=.none ∧
     ∃ od t,s'.heap.get? C=some (excClassObj nm q C N bs bm hdct sn sub ab col dd k0 k1 k2 k3 k5 newId)∧s'.heap.get? e=some (xObj C od t)∧E (.ref e) s') E { s₂ with heap:=h' }) E s₁) E s) :
  wpAny (model prog w) A (exec (.Raise (some (.Call (.Name x np) args [] cpos)) none pos) env) Q E s:=by
 rw[arm_exec_Raise]
 refine wpAny_bind (wpAny_standAt (raiseStmt_x (C:=C) (nm:=nm) (q:=q) (N:=N) (bs:=bs) (bm:=bm) (hdct:=hdct) (sn:=sn) (sub:=sub) (ab:=ab) (col:=col) (dd:=dd) (k0:=k0) (k1:=k1) (k2:=k2) (k3:=k3) (k5:=k5) (newId:=newId) hbase hh (wpAny_bind (wpAny_mono (wpAny_Call_ofName (wpAny_mono h (fun f s₁ h₁=>?_) fun _ _ x=>x)) (fun v s₃ h₃=>wpAny_bind (wpAny_standAt (wpAny_pure h₃))) fun _ _ x=>x))))
 obtain⟨rfl,h₁⟩:=h₁
 unfold callWith
 refine wpAny_bind (wpAny_holding (wpAny_mono h₁ (fun a s₂ h₂=>wpAny_bind (wpAny_standAt ?_)) fun _ _ x=>x))
 obtain⟨apos,akw⟩:=a
 obtain⟨hkw,hlen,hC,hn,T,hfI,h₂⟩:=h₂
 obtain rfl:akw=[]:=hkw
 obtain⟨hp,g,d,tk,os⟩:=s₂
 simp only[hplain]
 refine wpAny_bind (wpAny_keeperOf_exc hC ?_)
 refine wpAny_bind (call_xinit (Q:=fun v s'=>_) F T hC hn hi hfI hfc (fun h' e hz hm=>wpAny_mono (h₂ h' e hz hm) (fun r s' z=>⟨z.1,wpAny_bind (wpAny_holding (wpAny_point (wpAny_pure ?_)))⟩) fun _ _ x=>x) hlen)
 obtain⟨od,t,z1,z2,z4⟩:=z.2
 exact⟨e,od,t,rfl,z1,z2,z4⟩
end
section
variable {K:PySem.W.Frag}{C fI:Addr}{f:Str}{h:Heap}
def xIn(K:PySem.W.Frag)(C fI:Addr):Bool:=match K.lookup C with
 | some ⟨.type "type", _,.cls cd,sl⟩=>(match cd.mro,sl.toList with
  | .ref C'::bm,[_,_,_,_,some (.builtin n),_]=>C' == C && n == "ValueError.__new__" && !cd.hasDel && PySem.W.tailIn K veTail bm && PySem.W.nsOkIn K cd.ns && PySem.W.nsIn K cd.ns "__init__" == some (some (.ref fI))
  | _,_=>false)
 | _=>false
structure XCls(K:PySem.W.Frag)(C fI:Addr)(f:Str):Prop where
 isIn:xIn K C fI=true
 sa:PySem.W.findIn K (.ref C) "__setattr__" = some (some (.builtin "object.__setattr__"))
 at_:PySem.W.findIn K (.ref C) f=some none
 ga:PySem.W.findIn K (.ref C) "__getattribute__" = some (some (.builtin "BaseException.__getattribute__"))
 gr:PySem.W.findIn K (.ref C) "__getattr__" = some none
 mro:(PySem.W.clsIn K C).any (fun cd=>xOver cd.mro && cd.hasDict)=true
 fn:PySem.W.isFn K (.ref fI)=true
structure XBase(K:PySem.W.Frag)(B:Addr):Prop where
 ga:PySem.W.specialIn K (.ref B) "__getattribute__" = some (some (.builtin "type.__getattribute__"))
 rd:PySem.W.readsIn K B (.type "type")=true
 fc:PySem.W.findCls K (.ref B) (.type "type") "__init__" = some (.val (.builtin "ValueError.__init__"))
theorem ns_some{N:Addr}{mg:Str→Option Value}{n:Str}{v:Value}(X:K.In h)(G:h.Ns N mg)(e:PySem.W.nsIn K N n=some (some v)):mg n=some v:=by
 obtain⟨o,es,ep,ho,hd,_,hf⟩:=G
 unfold PySem.W.nsIn at e
 split at e
 ·rename_i c d es' n' sl q
  have:=X _ _ q
  rw[ho] at this
  cases this
  cases hd
  split at e
  ·rename_i en he
   cases e
   rw[← hf]
   unfold nsFind findBy
   rw[← Array.find?_toList,he]
   rfl
  ·split at e<;>cases e
 ·cases e
theorem XCls.obj(O:XCls K C fI f)(X:K.In h) :
  ∃ bm N nm q bs hdct sn sub ab col dd k0 k1 k2 k3 k5 mN,h.get? C=some (excClassObj nm q C N bs bm hdct sn sub ab col dd k0 k1 k2 k3 k5 "ValueError.__new__")∧h.Ns N mN∧mN "__init__" = some (.ref fI)∧OwnTail h veTail bm:=by
 have q:=O.isIn
 unfold xIn at q
 split at q
 case h_2=>cases q
 rename_i dd cd sl ho
 split at q
 case h_2=>cases q
 rename_i C' bm k0 k1 k2 k3 n k5 hm hs
 simp only[Bool.and_eq_true,beq_iff_eq,Bool.not_eq_true'] at q
 obtain⟨⟨⟨⟨⟨e1,e2⟩,hdel⟩,ht⟩,hok⟩,hni⟩:=q
 subst e1;subst e2
 cases cd with
 | mk nm bs mro ns qn hd sn sub ab col del =>
  dsimp only at hm hdel hok hni
  subst hm;subst hdel
  obtain rfl:sl=#[k0,k1,k2,k3,some (.builtin "ValueError.__new__"),k5]:=by
   cases sl with
   | mk l=>exact congrArg Array.mk hs
  have G:h.Ns ns _:=.of_isNs (PySem.W.isNs_of_in X hok)
  exact⟨bm,ns,nm,qn,bs,hd,sn,sub,ab,col,dd,k0,k1,k2,k3,k5,_,X _ _ ho,G,ns_some X G hni,PySem.W.tail_of_in X ht⟩
theorem XCls.cls(O:XCls K C fI f):∃ cd,PySem.W.clsIn K C=some cd∧xOver cd.mro=true∧cd.hasDict=true:=by
 obtain⟨cd,hc,q⟩:=PySem.W.any_some O.mro
 simp only[Bool.and_eq_true] at q
 exact⟨cd,hc,q.1,q.2⟩
theorem XCls.fnObj(O:XCls K C fI f)(X:K.In h):∃ oI,h.get? fI=some oI∧oI.cls=.type "function" := by
 have q:PySem.W.typeIn K (.ref fI)=some (.type "function"):=beq_iff_eq.mp O.fn
 unfold PySem.W.typeIn at q
 obtain⟨o,ho,hc⟩:=Option.map_eq_some_iff.mp q
 exact⟨o,X _ _ ho,hc⟩
end
def exO(a C:Addr)(od:Option Addr):HO:=.ext fun h=>∃ t,h.get? a=some (xObj C od t)
theorem exO_ok{P:Program}{w:World}{H:Hp}{h:Heap}{a C:Addr}{od:Option Addr}(e:∃ t,h.get? a=some (xObj C od t)):ObjOk P w H h a (exO a C od) :=
 ⟨e,let ⟨_,q⟩:=e;⟨_,q⟩,fun _ _ ⟨t,q⟩ k=>⟨t,k _ q⟩⟩
theorem exO_at{P:Program}{w:World}{H:Hp}{h:Heap}{a C:Addr}{od:Option Addr}(x:HOk P w H h)(e:H a=some (exO a C od)):∃ t,h.get? a=some (xObj C od t):=(x a _ e).1
section
variable {X:Cx}{pins:List (Addr×Obj)}{σ:St}{H:Hp}{s:Shared}{a C fI:Addr}{f:Str}{A:Around}{E:Value→Shared→Prop}
theorem xinit_ok{us:List Value}{Q:Value→Shared→Prop}(I:Inv X pins σ H s)(O:XCls X.K C fI f)(e:H a=some (exO a C none))(hl:us.length≤sizeLine)(h:∀ s',Inv X pins σ H s'→Q .none s') :
  wpAny (model X.prog X.w) A (call (.builtin "ValueError.__init__") (.ref a::us)) Q E s:=by
 obtain⟨t0,he⟩:=exO_at I.hok e
 obtain⟨tl,Nn,nm,q,bs,hdct,sn,sub,ab,col,dd,k0,k1,k2,k3,k5,mN,hC,hN,hni,T⟩:=O.obj I.kIn
 obtain⟨hh,g,d,tk,os⟩:=s
 refine wpAny_call (codeAny_call_builtin PySem.F.excBase_ValueError.init.plain PySem.F.excBase_ValueError.initEntry (wpAny_check_init_subT PySem.F.excBase_ValueError T hC he rfl ?_))
 have he':hh.get? a=some { cls:=.ref C,data:=.fields #[.ref t0,.none,.none,.none,.bool false,.none] }:=he
 wp_walk
 have na:a≠hh.objs.size:=Nat.ne_of_lt (Heap.lt_size he')
 have hp:(hh.push { cls:=.type "tuple", data:=.seq us.toArray }).get? a=some { cls:=.ref C,data:=.fields #[.ref t0,.none,.none,.none,.bool false,.none] }:=Heap.get?_push_of_some _ he'
 have hu:=Heap.get?_update_self (Obj.mapFields fun x=>x.setIfInBounds 0 (Value.ref hh.objs.size)) hp rfl
 have hw:=Inv.write (x:=a) (e:=a) (o:=exO a C none) (t':=tk) (h':=(hh.push { cls:=.type "tuple", data:=.seq us.toArray }).update a (Obj.mapFields fun x=>x.setIfInBounds 0 (Value.ref hh.objs.size))) I (by rw[e];exact True.intro) (.inl rfl)
  (fun b u hb q=>(Heap.get?_update_ne _ _ _ _ hb).trans (Heap.get?_push_of_some _ q)) ⟨_,hu⟩ (exO_ok ⟨hh.objs.size,hu⟩)
 have hH:upd H a (exO a C none)=H:=funext fun b=>by
  by_cases q:b=a
  ·rw[q,upd_same,e]
  ·rw[upd_ne q]
 rw[hH] at hw
 exact h _ hw
theorem xset_ok{y:V}{u:Value}{Q:Unit→Shared→Prop}(I:Inv X pins σ H s)(O:XCls X.K C fI f)(e:H a=some (exO a C none))(ry:RelV y u)
  (h:∀ dx s',H dx=none→Inv X pins σ (upd (upd H dx (.xd [(f,y)])) a (exO a C (some dx))) s'→Q () s'):wpAny (model X.prog X.w) A (setAttr (.ref a) f u) Q E s:=by
 obtain⟨t0,he⟩:=exO_at I.hok e
 obtain⟨cd,hc,ho,hd⟩:=O.cls
 refine xset I.kIn he O.sa O.at_ hc ho hd fun h' q1 q2 q3=>h s.heap.objs.size _ (I.hok.fresh (Nat.le_refl _)) ?_
 obtain⟨oD,es,ep,g1,g2⟩:=id q2
 have na:a≠s.heap.objs.size:=Nat.ne_of_lt (Heap.lt_size he)
 have g3:(s.heap.push oD).get? s.heap.objs.size=some oD:=Heap.get?_push_size _ (Heap.get?_some_iff.mp g1).2
 have I1:=I.laid (a:=s.heap.objs.size) (o:=.xd [(f,y)]) (h':=s.heap.push oD) (t':=s.toks) (fun b v q=>Heap.get?_push_of_some _ q) (Nat.le_refl _)
  ⟨_,⟨oD,es,ep,g3,g2⟩,fun g=>by
   show RelO (List.lookup g [(f,y)]) (if g=f then some u else none)
   by_cases q:g=f
   ·rw[if_pos q,q];simp only[List.lookup,beq_self_eq_true];exact ry
   ·rw[if_neg q];simp only[List.lookup,beq_eq_false_iff_ne.mpr q];exact True.intro⟩
 refine Inv.write (s:={ s with heap:=s.heap.push oD }) (x:=a) (e:=a) (t':=s.toks+2) I1 (by rw[upd_ne na,e];exact True.intro) (.inl rfl) (fun b v hb q=>?_) ⟨_,q1⟩ (exO_ok ⟨t0,q1⟩)
 by_cases z:b=s.heap.objs.size
 ·rw[z] at q ⊢
  exact g1.trans (g3.symm.trans q)
 ·refine q3 b v hb ?_
  exact (Heap.get?_push_ne _ _ _ z).symm.trans q
end
section
variable {X:Cx}{o value e:Expr}{es:List Expr}{ta tv:TE}{t:TA}{f x:Str}{pos pos' apos p:Pos}
def sXFld(K:PySem.W.Frag)(ta tv:TE)(f:Str):TS:=fun D σ H=>tv σ H fun y H1=>ta σ H1 fun x H2=>∃ a C fI,x=.ref a∧XCls K C fI f∧H2 a=some (exO a C none) ∧
 ∀ dx,H2 dx=none→D.nx σ (upd (upd H2 dx (.xd [(f,y)])) a (exO a C (some dx)))
theorem ps_xfld(ha:PE X o ta)(hv:PE X value tv)(hs:swapsWith value (some (.Attribute o f pos')) pos.line X.env=pure false:=by rfl):PS X (.Assign [.Attribute o f pos'] value pos) (sXFld X.K ta tv f):=by
 intro pins s σ H D I h
 refine plainObj_wpAny_Assign_Attribute (thn (hv pins s σ H _ I h) fun u s1 ⟨y,H1,I1,ry,q⟩=>thn (ha pins s1 σ H1 _ I1 q) fun ov s2 ⟨x,H2,I2,rx,a,C,fI,ex,O,ea,q2⟩=>?_) hs
 subst ex
 obtain rfl:ov=Value.ref a:=rx
 exact xset_ok I2 O ea ry fun dx s3 hdx I3=>⟨σ,_,I3,q2 dx hdx⟩
def tXInit(K:PySem.W.Frag)(t:TA):TE:=fun σ H Q=>t σ H fun vs H1=>∃ a C fI f v,vs=.ref a::v∧v.length≤1000∧XCls K C fI f∧H1 a=some (exO a C none)∧Q .non H1
theorem pe_xinit{B:Addr}{pl:Sem Bool}(W:XBase X.K B)(hg:Gl X x)(hm:X.mg x=some (.ref B))(ha:PA X (e::es) t)(hdb:(x == ("__debug__" : Str))=false:=by decide)
  (hst:starEach (e::es) X.env=(false,eval e X.env)::starEach es X.env:=by rfl) (hpl:(backTo pos (starEach es X.env)).any (·.1)=false:=by rfl)
  (ht:eval (.Call (.Attribute (.Name x p) "__init__" apos) (e::es) [] pos) X.env=(do
   let ov ← eval (.Name x p) X.env
   standAt apos.atName
   let (f,first) ← holding [ov] (getMethod ov "__init__" pl)
   callWith pos f first (backTo pos (starEach (e::es) X.env)) (backToKw pos (keywordEach [] X.env))):=by rfl) :
  PE X (.Call (.Attribute (.Name x p) "__init__" apos) (e::es) [] pos) (tXInit X.K t):=by
 intro pins s σ H Q I h
 refine PySem.W.methodCall_KW (pl:=pl) (ld_glob I hg hm ?_ hdb) ht
 refine PySem.W.method_cls I.kIn W.ga (PySem.W.cls_value I.kIn W.rd W.fc rfl ?_)
 refine PyProof.Rows.callWith_builtin1 (thn (ha pos pins _ σ H _ (I.tok _) h) fun us s1 ⟨vs,H1,I1,r,a,C,fI,f,v,ev,hl,O,e,q⟩=>?_) hst hpl
 subst ev
 cases r with
 | cons r1 r2 =>
  obtain rfl:=(show _=Value.ref a from r1)
  exact xinit_ok I1 O e (by rw[← r2.length,sizeLine_eq];omega) fun s' I'=>⟨.non,H1,I',rfl,q⟩
end
def del(H:Hp)(a:Addr):Hp:=fun b=>if b=a then none else H b
theorem del_same{H:Hp}{a:Addr}:del H a a=none:=if_pos rfl
theorem del_ne{H:Hp}{a b:Addr}(h:b≠a):del H a b=H b:=if_neg h
theorem HOk.del{P:Program}{w:World}{H:Hp}{h:Heap}{a:Addr}{φ:Heap→Prop}(x:HOk P w H h)(e:H a=some (.ext φ)):HOk P w (del H a) h:=fun b o q=>by
 have hb:b≠a:=fun z=>by rw[z,del_same] at q;cases q
 rw[del_ne hb] at q
 refine (x b o q).stay (fun _ _ _ z=>z) (fun c hc=>?_) fun c xs hc=>?_
 ·rw[del_ne fun z=>by rw[z,e] at hc;cases hc];exact hc
 ·rw[del_ne fun z=>by rw[z,e] at hc;cases hc];exact hc
theorem Un.del{fs ex:List Addr}{H H1:Hp}{h h1:Heap}{a:Addr}{φ:Heap→Prop}(u:Un fs ex H H1 h h1)(e:H1 a=some (.ext φ)):Un fs ex H (del H1 a) h h1 where
 keep:=u.keep
 slot:=u.slot
 free:=fun b o q n hx=>by
  by_cases z:b=a
  ·rw[z,del_same]
  ·rw[del_ne z];exact u.free b o q n hx
 there:=u.there
 tups:=fun b xs q=>by have:=u.tups b xs q;rw[del_ne fun z=>by rw[z,e] at this;cases this];exact this
 frzs:=fun b o v q=>by have:=u.frzs b o v q;rw[del_ne fun z=>by rw[z,e] at this;cases this];exact this
 tbls:=fun b ps q=>by obtain⟨m,this⟩:=u.tbls b ps q;exact⟨m,by rw[del_ne fun z=>by rw[z,e] at this;cases this];exact this⟩
def FlyD(outer:List Env)(H':Hp)(h₀ h':Heap)(e:Addr)(cls:Value)(od:Option Addr):Prop :=
 ∃ B,Heap.FlyingD B outer e cls od h'∧∀ b o,h'.get? b=some o→(H' b≠none∨∃ o₀,h₀.get? b=some o₀)→b∉frs outer→B.get? b=some o
def CXD(P:Program)(w:World):CXT:=fun outer H s E e s'=>∃ ea cls od H',e=.ref ea∧s'.os=s.os∧AllBare s'.gens∧Un (frs outer) [] H H' s.heap s'.heap∧HOk P w H' s'.heap∧FlyD outer H' s.heap s'.heap ea cls od∧E cls od H'
section
variable {M:Model}{A:Around}{E:Value→Shared→Prop}{s:Shared}
theorem leaves_x{base:Heap}{env:Env}{outer:List Env}{L e C t:Addr}{od:Option Addr}{Q:Unit→Shared→Prop}(hfr:A.frames=some (env::outer))(hl:s.heap.FunFrames base (env::outer))(hf:env.frame=some L)
  (he:s.heap.get? e=some (xObj C od t)) (hkb:base.StaysIn s.heap) (hen:base.get? e=none)
  (hQ:∀ h',Heap.FlyingD base outer e (.ref C) od h'→s.heap.UpToSlots h'→Q () { s with heap:=h' }):wpAny M A (leaving env (.ref e)) Q E s:=by
 exact leaves_first hfr hf hkb hen hl he ⟨_,rfl,rfl⟩ rfl rfl hQ
end
section
variable {P:Program}{w:World}{K:PySem.W.Frag}{mg:Str→Option Value}{base:Heap}{N:List Str}{qual:Str}{scope:Scope}{f:Addr}{cd:Value}{A:Around}{outer:List Env}{s:Shared}{H:Hp}{E:XK}
abbrev cxD(P:Program)(w:World)(K:PySem.W.Frag)(mg:Str→Option Value)(base:Heap)(N:List Str)(qual:Str)(scope:Scope)(f:Addr)(cd:Value)(A:Around)(outer:List Env)(s:Shared)(H:Hp)(E:XK):Cx :=
 cxOf (CXD P w) P w K mg base N qual scope f cd A outer s H E
theorem raised_xd{pins:List (Addr×Obj)}{σ:St}{H1:Hp}{s1:Shared}{e C:Addr}{od:Option Addr}
  (I:Inv (cxD P w K mg base N qual scope f cd A outer s H E) pins σ H1 s1) (hne:s.heap.get? e=none) (he:H1 e=some (exO e C od)) (hE:E (.ref C) od (del H1 e)) :
  (cxD P w K mg base N qual scope f cd A outer s H E).xe (.ref e) s1:=by
 obtain⟨t,hx⟩:=exO_at I.hok he
 have hF:=I.stack
 have hin:∀ env∈(envOfC qual scope s.heap.objs.size f cd::outer),∀ b,env.frame=some b→b∈e::(envOfC qual scope s.heap.objs.size f cd::outer).filterMap (·.frame):=fun env he b hb=>List.mem_cons_of_mem _ (List.mem_filterMap.mpr ⟨env,he,hb⟩)
 have hfr:(envOfC qual scope s.heap.objs.size f cd).frame=some s.heap.objs.size:=rfl
 refine leaves_x (base:=PySem.W.hideAll s1.heap (e::(envOfC qual scope s.heap.objs.size f cd::outer).filterMap (·.frame))) I.ok.frames (PySem.W.funFrames_hide hF hin) hfr hx (fun b o q=>PySem.W.of_hideAll _ q) (PySem.W.hideAll_none _ (List.mem_cons_self ..)) fun h' x1 x4=>?_
 have k1:∀ b o,s1.heap.get? b=some o→b≠e→b∉frs (envOfC qual scope s.heap.objs.size f cd::outer)→h'.get? b=some o:=fun b o q z n=>x1.1 b o (PySem.W.hideAll_get _ q fun y=>by
  rcases List.mem_cons.mp y with y | y
  ·exact z y
  ·exact n y)
 have k2:∀ b o,s1.heap.get? b=some o→b∈frs (envOfC qual scope s.heap.objs.size f cd::outer)→∃ sl,h'.get? b=some { o with slots:=sl }:=fun b o q n=>frame_slots hF x4 n q
 have old:∀ b o,s.heap.get? b=some o→b∈frs (envOfC qual scope s.heap.objs.size f cd::outer)→b∈frs outer:=fun b o q z=>by
  rcases (frs_cons hfr).mp z with z | z
  ·rw[z] at q
   exact absurd (Heap.lt_size q) (Nat.lt_irrefl _)
  ·exact z
 have ne:∀ b,(∃ o₀,s.heap.get? b=some o₀)→b≠e:=fun b ⟨o₀,q⟩ z=>by rw[z,hne] at q;cases q
 have un:Un (frs outer) [] H (del H1 e) s.heap h':=Un.onSlots (Un.del (show Un (frs outer) [] H H1 s.heap s1.heap from I.base) he) old (fun b o z q=>k1 b o q (ne b z)) k2
 have hok:=I.hok.del he
 refine⟨e,.ref C,od,del H1 e,rfl,I.os,I.bare,un,hok.stays fun b u n q=>?_,⟨_,x1,fun b o q hb hn=>?_⟩,hE⟩
 ·have z:b≠e:=fun z=>n (by rw[z,del_same])
  rw[del_ne z] at n
  exact k1 b u q z fun y=>n (I.stkFree b y)
 ·have z:b≠e:=by
   rcases hb with hb | hb
   ·exact fun z=>hb (by rw[z,del_same])
   ·exact ne b hb
  rw[del_ne z] at hb
  have hs:b∉frs (envOfC qual scope s.heap.objs.size f cd::outer):=fun y=>by
   rcases hb with hb | ⟨o₀,hb⟩
   ·exact hb (I.stkFree b y)
   ·exact hn (old b o₀ hb y)
  have h1:∃ o1,s1.heap.get? b=some o1:=by
   rcases hb with hb | ⟨o₀,hb⟩
   ·cases q':H1 b with
    | none=>exact absurd q' hb
    | some u=>exact (I.hok b u q').there
   ·exact I.base.there b o₀ hb (by intro z;exact absurd (show b∈([]:List Addr) from z) (by simp))
  obtain⟨o1,h1⟩:=h1
  have:=k1 b o1 h1 z hs
  rw[q] at this
  cases this
  exact PySem.W.hideAll_get _ h1 fun y=>by
   rcases List.mem_cons.mp y with y | y
   ·exact z y
   ·exact hs y
end
section
variable {X:Cx}{pins:List (Addr×Obj)}{σ:St}{H:Hp}{s:Shared}
theorem unname_ok{M:Model}{A:Around}{E:Value→Shared→Prop}{i:Nat}{x:Str}{pos:Pos}{Q:Unit→Shared→Prop}(I:Inv X pins σ H s)(hN:X.N.Nodup)(hi:X.N[i]?=some x)(hk:X.env.scope.names.lookup x=some .local)
  (h:∀ s',Inv X pins (σ.set i none) H s'→Q () s'):wpAny M A (do bindName X.env x .none;unbindBehindTheSuite X.env x pos) Q E s:=by
 obtain⟨m,hn,hl⟩:=id I.loc
 have hcls:(X.env.scope.kind == .class || (X.env.scope.kind == .module && X.env.locals != X.env.globals))=false:=by rw[I.ok.kind];rfl
 have hiσ:i < σ.length:=by rw[I.len];exact (List.getElem?_eq_some_iff.mp hi).1
 have cne:=I.cne
 refine wpAny_nameGoes_keeps hk hn hcls fun h' v hn' hs=>?_
 obtain⟨oL,_,_,hoL,_⟩:=id hn
 have hok:HOk X.prog X.w H h':=fun b ob e=>by
  refine (I.hok b ob e).stay (fun c w' hc q=>(hs.2 c ?_).trans q) (fun _ q=>q) fun _ _ q=>q
  rintro rfl
  rcases hc with z | hc
  ·rw[← z,I.free] at e;cases e
  ·rw[I.free] at hc;cases hc
 refine h _ ⟨I.ok,I.os,I.bare,⟨fun b o e n hb hx=>?_,fun b o e n hb hx=>?_,I.base.free,fun b o e hx=>?_,I.base.tups,I.base.frzs,I.base.tbls⟩,⟨_,hn',fun j y v' e1 e2 e3=>?_⟩,fun y c e=>?_,I.free,I.freeC,fun p hp=>?_,hok,by simpa using I.len⟩
 ·exact (hs.2 b (Nat.ne_of_lt (Nat.lt_of_lt_of_le (Heap.lt_size e) I.ok.above))).trans (I.base.keep b o e n hb hx)
 ·obtain⟨sl,e1⟩:=I.base.slot b o e n hb hx
  exact⟨sl,(hs.2 b (Nat.ne_of_lt (Nat.lt_of_lt_of_le (Heap.lt_size e) I.ok.above))).trans e1⟩
 ·obtain⟨o',e1⟩:=I.base.there b o e hx
  exact⟨o',(hs.2 b (Nat.ne_of_lt (Nat.lt_of_lt_of_le (Heap.lt_size e) I.ok.above))).trans e1⟩
 ·by_cases hj:j=i
  ·subst hj
   rw[List.getElem?_set_self hiσ] at e2
   cases e2
  ·rw[List.getElem?_set_ne (Ne.symm hj)] at e2
   obtain⟨u',r',q⟩:=hl j y v' e1 e2 e3
   refine⟨u',r',?_⟩
   rcases q with ⟨k,e⟩ | ⟨k,c,e,z⟩
   ·refine .inl ⟨k,?_⟩
    have:y≠x:=fun e=>hj (nodup_ix hN e1 (e▸hi))
    simp[this,e]
   ·exact .inr ⟨k,c,e,z.sameBut hs (cne y c e)⟩
 ·obtain⟨v,z⟩:=I.cell y c e
  exact⟨v,z.sameBut hs (cne y c e)⟩
 ·obtain⟨p1,p2,p3,p4⟩:=I.pin p hp
  exact⟨(hs.2 _ p3).trans p1,p2,p3,p4⟩
end
end L2
namespace L2
open PySem PySem.Spec PyProof.Rows
section
variable {P:Program}{w:World}{K:PySem.W.Frag}{mg:Str→Option Value}{base:Heap}{N:List Str}{qual:Str}{scope:Scope}{f:Addr}{cd:Value}{A:Around}{outer:List Env}{s:Shared}{H:Hp}{E:XK}
theorem fly_onD{X:Cx}{pins:List (Addr×Obj)}{σ:St}{H1 H2:Hp}{s1:Shared}{h2 h3 B:Heap}{e:Addr}{cls:Value}{od:Option Addr}(I:Inv X pins σ H1 s1)(u:Un (frs X.stack) [] H1 H2 s1.heap h2)(hok:HOk X.prog X.w H2 h2)
  (fl:Heap.FlyingD B X.stack e cls od h2) (hB:∀ b o,h2.get? b=some o→(H2 b≠none∨∃ o₀,s1.heap.get? b=some o₀)→b∉frs X.stack→B.get? b=some o) (st:B.StaysIn h3) (sm:h2.UpToSlots h3) :
  Un (frs X.stack) [] H1 H2 s1.heap h3∧HOk X.prog X.w H2 h3:=by
 have fr2:∀ b∈frs X.stack,H2 b=none:=fun b hb=>by
  obtain⟨_,o,q,_⟩:=I.stack.mem hb
  exact u.free b o q (I.stkFree b hb) (by simp)
 refine⟨Un.onSlots u (fun _ _ _ z=>z) (fun b o h0 q n=>st b o (hB b o q (.inr h0) n)) fun b o q n=>frame_slots fl.2.2.1 sm n q,hok.stays fun b v n q=>st b v (hB b v q (.inl n) fun z=>n (fr2 b z))⟩
theorem passD:Passes (CXD P w) (cxD P w K mg base N qual scope f cd A outer s H E) E:=by
 intro pins σ H1 s1 e s2 I hc
 obtain⟨ea,cls,od,H2,rfl,os,bare,u,hok,⟨B,fl,hB⟩,hE⟩:=hc
 have hfr:(envOfC qual scope s.heap.objs.size f cd).frame=some s.heap.objs.size:=rfl
 refine leaves_any I.ok.frames hfr fl fun h' x1 x2=>?_
 obtain⟨u',hok'⟩:=fly_onD I u hok fl hB x1.1 x2
 have old:∀ b o,s.heap.get? b=some o→b∈frs (envOfC qual scope s.heap.objs.size f cd::outer)→b∈frs outer:=fun b o q z=>by
  rcases (frs_cons hfr).mp z with z | z
  ·rw[z] at q
   exact absurd (Heap.lt_size q) (Nat.lt_irrefl _)
  ·exact z
 have ib:Un (frs outer) [] H H1 s.heap s1.heap:=I.base
 have hs2:∀ b,(∃ o₀,s.heap.get? b=some o₀)→∃ o1,s1.heap.get? b=some o1:=fun b ⟨o₀,q⟩=>ib.there b o₀ q (by simp)
 have un:Un (frs outer) [] H H2 s.heap h' :=
  {keep:=fun b o q n hb hx=>u'.keep b o (ib.keep b o q n hb hx) (ib.free b o q n hx) (fun z=>hb (old b o q z)) hx
   slot:=fun b o q n hb hx=>by
    obtain⟨s3,e3⟩:=ib.slot b o q n hb hx
    obtain⟨s4,e4⟩:=u'.slot b _ e3 (ib.free b o q n hx) ((frs_cons hfr).mpr (.inr hb)) hx
    exact⟨s4,e4⟩
   free:=fun b o q n hx=>by
    obtain⟨o1,e1⟩:=ib.there b o q hx
    exact u'.free b o1 e1 (ib.free b o q n hx) hx
   there:=fun b o q hx=>by
    obtain⟨o1,e1⟩:=ib.there b o q hx
    exact u'.there b o1 e1 hx
   tups:=fun b xs q=>u'.tups b xs (ib.tups b xs q)
   frzs:=fun b o v q=>u'.frzs b o v (ib.frzs b o v q)
   tbls:=fun b ps q=>by
    obtain⟨m1,q1⟩:=ib.tbls b ps q
    obtain⟨m2,q2⟩:=u'.tbls b _ q1
    exact⟨m1++m2,by rw[q2,Array.append_assoc]⟩ }
 refine⟨ea,cls,od,H2,rfl,os.trans I.os,bare,un,hok',⟨B,x1,fun b o q hb hn=>?_⟩,hE⟩
 have fr2:∀ b∈frs (envOfC qual scope s.heap.objs.size f cd::outer),H2 b=none:=fun b hb=>by
  obtain⟨_,o,q,_⟩:=I.stack.mem hb
  exact u.free b o q (I.stkFree b hb) (by simp)
 have hs:b∉frs (envOfC qual scope s.heap.objs.size f cd::outer):=fun z=>by
  rcases hb with hb | ⟨o₀,hb⟩
  ·exact hb (fr2 b z)
  ·exact hn (old b o₀ hb z)
 have h1:∃ o2,s2.heap.get? b=some o2:=by
  rcases hb with hb | hb
  ·cases q':H2 b with
   | none=>exact absurd q' hb
   | some v=>exact (hok b v q').there
  ·obtain⟨o1,e1⟩:=hs2 b hb
   exact u.there b o1 e1 (by simp)
 obtain⟨o2,e2⟩:=h1
 have hBb:=hB b o2 e2 (hb.imp id (hs2 b)) hs
 have:=x1.1 b o2 hBb
 rw[q] at this
 cases this
 exact hBb
end
def RaisesX(X:Cx)(E:XK):Prop:=∀ (pins:List (Addr×Obj)) (σ:St) (H:Hp) (s:Shared) (e C:Addr) (od:Option Addr),Inv X pins σ H s→X.s₀.heap.get? e=none→H e=some (exO e C od)→E (.ref C) od (del H e)→X.xe (.ref e) s
theorem raisesD{P:Program}{w:World}{K:PySem.W.Frag}{mg:Str→Option Value}{base:Heap}{N:List Str}{qual:Str}{scope:Scope}{f:Addr}{cd:Value}{A:Around}{outer:List Env}{s:Shared}{H:Hp}{E:XK} :
  RaisesX (cxD P w K mg base N qual scope f cd A outer s H E) E:=fun _ _ _ _ _ _ _ I hn he hE=>raised_xd I hn he hE
def tRaiseX(C:Addr)(sp:Sp)(E:XK)(t:TA):TS:=fun _ σ H=>t σ H fun vs H1=>vs.length≤sizeLine∧∀ e,H1 e=none →
 sp (.ref e::vs) (upd H1 e (exO e C none)) (fun v H2=>v=.non∧∃ od,H2 e=some (exO e C od)∧E (.ref C) od (del H2 e)) E0
theorem ps_raiseX{X:Cx}{E:XK}{x g:Str}{C fI:Addr}{np cpos pos:Pos}{e:Expr}{es:List Expr}{t:TA}{k:Nat}{fd:FuncData}{ps:List Str}{sp:Sp}(hR:RaisesX X E)(O:XCls X.K C fI g)(hm:X.mg x=some (.ref C))
  (F:FnOk X.prog X.w X.K X.mg X.base CX0 k fI fd ps sp) (hr:Room (k+1) X.A) (hb:Binds X.K fd ps []) (hc:X.calm=true) (hg:Gl X x) (ha:PA X (e::es) t)
  (hdb:(x == ("__debug__" : Str))=false:=by decide) (he:starEach (e::es) X.env=(false,eval e X.env)::starEach es X.env:=by rfl) (hpl:(backTo cpos (starEach es X.env)).any (·.1)=false:=by rfl) :
  PS X (.Raise (some (.Call (.Name x np) (e::es) [] cpos)) none pos) (tRaiseX C sp E t):=by
 intro pins s σ H D I h
 obtain⟨tl,Nn,nm,q,bs,hdct,sn,sub,ab,col,dd,k0,k1,k2,k3,k5,mN,hC,hN,hi,T⟩:=O.obj I.ok.mod.kin
 obtain⟨oI,hfI,hfc⟩:=O.fnObj I.ok.mod.kin
 refine Raise_xinit (C:=C) (nm:=nm) (q:=q) (N:=Nn) (bs:=bs) (bm:=tl) (hdct:=hdct) (sn:=sn) (sub:=sub) (ab:=ab) (col:=col) (dd:=dd) (k0:=k0) (k1:=k1) (k2:=k2) (k3:=k3) (k5:=k5) (fI:=fI) (oI:=oI)
  PySem.F.excBase_ValueError (mN:=mN) (T.hasType PySem.F.excBase_ValueError.hasBase) (I.ok.hd hc) (by rw[he];show (false || (backTo cpos (starEach es X.env)).any (·.1))=false;rw[hpl];rfl) hi hfc (ld_glob I hg hm ⟨rfl,?_⟩ hdb)
 have hp:=ha cpos pins s σ H _ I h
 rw[he] at hp ⊢
 refine Calls.evalArgs_plain (thn hp fun us s2 ⟨vs,H1,I1,r,hl,hE⟩=>⟨rfl,?_,I1.bk _ _ hC,hN.keeps I1.bk,T.keeps I1.bk,I1.bk _ _ hfI,fun h' e' hz hm'=>?_⟩)
 ·show us.length≤sizeLine
  rw[← r.length]
  exact hl
 obtain⟨t0,ht0,_⟩:=hm'.there
 have I2:=I1.laid (a:=e') (o:=exO e' C none) (h':=h') (t':=s2.toks) hm'.keeps (Nat.le_of_lt hz) (exO_ok ⟨t0,ht0⟩)
 have hsp:=hE e' (I1.hok.fresh (Nat.le_of_lt hz))
 have r2:Vals (V.ref e'::vs) (Value.ref e'::us):=.cons rfl r
 have hll:((Value.ref e'::us)++([]:List Value)).length=ps.length:=by rw[List.append_nil,← r2.length];exact F.len _ _ _ _ hsp
 have bd:=hb { s2 with heap:=h' } (.ref e'::us) I2.kIn hll
 rw[List.append_nil] at bd
 have hne:X.s₀.heap.get? e'=none:=Heap.get?_none_of_le (Nat.le_trans I1.sz (Nat.le_of_lt hz))
 refine wpAny_call (codeAny_mono (F.run _ X.stack { s2 with heap:=h' } _ ⟨.ref e'::us,[]⟩ (.ref e'::us) (.ref e'::vs) _ E0 (hr.make C us []) (I2.env0.make C us []) bd r2 hsp) fun rr s' hq=>?_)
 cases rr with
 | error e=>exact False.elim hq
 | ok fl =>
  cases fl with
  | ret u =>
   obtain⟨v,H',I3,rv,ev,od,hod,q3⟩:=I2.after hq
   subst ev
   obtain rfl:u=Value.none:=rv
   obtain⟨t,ht⟩:=exO_at I3.hok hod
   exact⟨rfl,od,t,I3.bk _ _ hC,ht,hR pins σ H' s' e' C od I3 hne hod q3⟩
  | next=>exact False.elim hq
  | brk=>exact False.elim hq
  | cont=>exact False.elim hq
theorem Fun.okD{P:Program}{w:World}{K:PySem.W.Frag}{mg:Str→Option Value}{base:Heap}{x qual:Str}{st:Stmt}{f:Addr}{fd:FuncData}{N ps:List Str}{k:Nat}{sp:Sp}(F:Fun K x qual st f fd)(S:FnScope N ps (defScope st))(len:∀ vs H Q E,sp vs H Q E→vs.length=ps.length)
  (hbody:∀(cdv:Value)(A:Around)(outer:List Env)(s:Shared)(H:Hp)(vs:List V)(Q:VK)(E:XK),Room k (A.deeper (envOfC qual (defScope st) s.heap.objs.size f cdv))→sp vs H Q E →
   ∃ t,PSs (cxD P w K mg base N qual (defScope st) f cdv A outer s H E) (defBody st) t∧t { nx:=fun _ H'=>Q .non H',rt:=Q } (start N vs) H):FnOk P w K mg base (CXD P w) (k+1) f fd ps sp:=by
 obtain⟨oc,od,kV,doc,pm,an,cdv,ct,osl,rfl,lk,hcd⟩:=F.ex
 exact fn_of lk hcd S len fun A outer s H vs Q E hr hsp=>hbody cdv A outer s H vs Q E hr hsp
abbrev XExD:=Value→Option Addr→St→Hp→Prop
def XED(X:Cx)(EX:XExD):Value→Shared→Prop:=fun e s'=>∃ pins σ H1 s1,Inv X pins σ H1 s1∧CXD X.prog X.w X.stack H1 s1 (fun cls od H2=>EX cls od σ H2) e s'
abbrev Cx.trD(X:Cx)(pn:List (Addr×Obj))(EX:XExD):Cx:=(X.pinned pn).wish (XED (X.pinned pn) EX)
def tCallXD(sp:Sp)(EX:XExD)(t:TA):TE:=fun σ H Q=>t σ H fun vs H1=>sp vs H1 Q fun cls od H2=>EX cls od σ H2
def PassXD(X:Cx)(EX:XExD):Prop:=∀ (pins:List (Addr×Obj)) (σ:St) (H:Hp) (s:Shared) (e:Value) (s':Shared),Inv X pins σ H s→CXD X.prog X.w X.stack H s (fun cls od H2=>EX cls od σ H2) e s'→X.xe e s'
theorem passXD{X:Cx}{pn:List (Addr×Obj)}{EX:XExD}:PassXD (X.trD pn EX) EX:=fun pins σ H s _ _ I h=>⟨pins,σ,H,s,I.unwish,h⟩
theorem pe_callXD{X:Cx}{k:Nat}{f:Addr}{fd:FuncData}{ps:List Str}{sp:Sp}{EX:XExD}{x:Str}{p pos:Pos}{e:Expr}{es:List Expr}{t:TA}
  (F:FnOk X.prog X.w X.K X.mg X.base (CXD X.prog X.w) k f fd ps sp) (hr:Room k X.A) (hg:Gl X x) (hm:X.mg x=some (.ref f)) (hk:PySem.W.keepIn X.K (.ref f)=true) (hb:Binds X.K fd ps []) (hx:PassXD X EX)
  (ha:PA X (e::es) t) (hdb:(x == ("__debug__" : Str))=false:=by decide) (he:starEach (e::es) X.env=(false,eval e X.env)::starEach es X.env:=by rfl) (hpl:(backTo pos (starEach es X.env)).any (·.1)=false:=by rfl) :
  PE X (.Call (.Name x p) (e::es) [] pos) (tCallXD sp EX t):=by
 intro pins s σ H Q I h
 refine wpAny_Call_Name_kw (ld_glob I hg hm ?_ hdb)
 refine PySem.W.callWith_K (h₀:=X.base) I.ok.mod.kin hk (thn (ha pos pins s σ H _ I h) fun us s1 ⟨vs,H1,I1,r,q⟩=>⟨I1.kIn,?_⟩) he hpl
 have hl:(us++([]:List Value)).length=ps.length:=by rw[List.append_nil,← r.length];exact F.len _ _ _ _ q
 have bd:=hb s1 us I1.kIn hl
 rw[List.append_nil] at bd
 refine wpAny_call (codeAny_mono (F.run X.A X.stack s1 H1 ⟨us,[]⟩ us vs Q _ hr I1.env0 bd r q) fun rr s' hq=>?_)
 cases rr with
 | error e=>exact hx pins σ H1 s1 e s' I1 hq
 | ok fl =>
  cases fl with
  | ret u=>exact I1.after hq
  | next=>exact False.elim hq
  | brk=>exact False.elim hq
  | cont=>exact False.elim hq
structure Held(X:Cx)(ea C dx:Addr):Prop where
 ex:∃ oe vs,(ea,oe)∈X.pn∧oe.cls=.ref C∧oe.dict=some dx∧oe.data=.fields vs
def tXAt(i:Nat)(f:Str)(ea dx:Addr):TE:=fun σ H Q=>σ[i]?=some (some (.ref ea))∧∃ fs v,H dx=some (.xd fs)∧fs.lookup f=some v∧Q v H
theorem pe_xat{X:Cx}{i:Nat}{n f:Str}{p pos:Pos}{C fI ea dx:Addr}(O:XCls X.K C fI f)(hh:Held X ea C dx)(hN:X.N[i]?=some n)(hv:Vis X.env.scope n)(hd:(n == ("__debug__" : Str))=false:=by decide)(hcd:(n == ("__classdict__" : Str))=false:=by decide)
  (hb:attributeBase (.Name n p) f X.env (eval (.Name n p) X.env)=eval (.Name n p) X.env:=by rfl):PE X (.Attribute (.Name n p) f pos) (tXAt i f ea dx):=by
 intro pins s σ H Q I ⟨hσ,fs,v,hdx,hl,q⟩
 refine attr_of hb (thn (pe_var hN hv hd hcd pins s σ H (fun x H1=>x=.ref ea∧H1=H) I ⟨_,hσ,rfl,rfl⟩) fun u s1 ⟨x,H1,I1,rx,ex,eH⟩=>?_)
 subst ex eH
 obtain rfl:u=Value.ref ea:=rx
 obtain⟨oe,vs,hp,c1,c2,c3⟩:=hh.ex
 obtain⟨cd,hc,ho,hd'⟩:=O.cls
 obtain⟨g1,_⟩:=I1.pin _ (List.mem_append_left _ hp)
 obtain⟨mA,hns,hr⟩:=I1.hok dx _ hdx
 obtain⟨od,g2,hlk⟩:=lookIn_ns hns
 obtain⟨u,hu,ru⟩:=RelO.some_of (v:=v) (o:=mA f) (by rw[← hl];exact hr f)
 obtain⟨oc,odi,oda,osl⟩:=oe
 dsimp only at c1 c2 c3
 subst c1 c2 c3
 have J:PySem.W.InstAt s1.heap ea ⟨.ref C,some dx,.fields vs,osl⟩ C (some od):=⟨g1,rfl,rfl,g2⟩
 exact xget I1.kIn J O.ga O.gr hc ho (PySem.W.findObj_own (by unfold PySem.W.hasDictIn;rw[hc];exact hd') O.at_ rfl (by rw[hlk,hu])) (handed_of ru) ⟨v,_,I1.tok _,ru,q⟩
def Ends.un(D:Ends)(i:Nat):Ends:={ nx:=fun σ H=>D.nx (σ.set i none) H,rt:=D.rt,bk:=fun σ H=>D.bk (σ.set i none) H,ct:=fun σ H=>D.ct (σ.set i none) H }
def tTryX(C:Addr)(i:Nat)(tb:XExD→TS)(th:Addr→Addr→TS):TS:=fun D σ H=>tb (fun cls od σ' H'=>cls=.ref C∧∃ dx,od=some dx∧∀ ea,th ea dx (D.un i) (σ'.set i (some (.ref ea))) H') D σ H
theorem lands_againD{M:Model}{A:Around}{E:Value→Shared→Prop}{s:Shared}{base:Heap}{l:List Env}{e:Addr}{cls:Value}{a0:Option Addr}{Q:Unit→Shared→Prop}(hh:Heap.FlyingD base l e cls a0 s.heap)
  (hQ:∀ h',Heap.FlyingD base l e cls a0 h'→s.heap.UpToSlots h'→Q () { s with heap:=h' }):wpAny M A (setFlight (.ref e) none) Q E s:=by
 exact mark_any (o?:=none) hh hQ
theorem ps_tryX{X:Cx}{x n g:Str}{i:Nat}{C fI:Addr}{np hpos pos:Pos}{body suite:List Stmt}{b₀:Stmt}{tb:XExD→TS}{th:Addr→Addr→TS}(O:XCls X.K C fI g)(hm:X.mg x=some (.ref C))(hg:Gl X x)(hs:X.stack=X.env::X.outer)(hf:X.env.frame=some X.env.locals)
  (hN:X.N.Nodup) (hi:X.N[i]?=some n) (hk:X.env.scope.names.lookup n=some .local)
  (hb:∀ pn EX,PSs (X.trD pn EX) body (tb EX)) (hh:∀ ea dx pn,Held ((X.inH ea).pinned pn) ea C dx→PSs ((X.inH ea).pinned pn) (b₀::suite) (th ea dx)) (hdb:(x == ("__debug__" : Str))=false:=by decide) :
  PS X (.Try body [.ExceptHandler (some (.Name x np)) (some n) (b₀::suite) hpos] [] [] pos) (tTryX C i tb th):=by
 intro pins s σ H D I h
 refine wpAny_Try_except (wpAny_mono (hb (X.pn++pins) _ [] s σ H D (I.repin.wish _) h) (fun f s1 q=>?_) fun e s1 q=>?_)
 ·have q':SP X pins D f s1:=SP.imp (fun σ H J=>Inv.unrepin (Inv.unwish J)) q
  cases f with
  | next=>exact wpAny_execs_nil q'
  | brk=>exact q'
  | cont=>exact q'
  | ret u=>exact q'
 ·obtain⟨pins2,σ1,H1,s0,I1,ea,cls,od,H2,rfl,os,bare,u,hok,⟨B,fl,hB⟩,rfl,dx,rfl,hq⟩:=q
  have J:Inv X pins σ1 H1 s0:=I1.unrepin
  have fl':Heap.FlyingD B (X.env::X.outer) ea (.ref C) (some dx) s1.heap:=by rw[← hs];exact fl
  have hfrm:X.A.frames=some (X.env::X.outer):=by rw[← hs];exact I.ok.frames
  have inv:∀ h3,B.StaysIn h3→s1.heap.UpToSlots h3→Inv X pins σ1 H2 { s1 with heap:=h3 }:=fun h3 st sm=>by
   obtain⟨u3,hok3⟩:=fly_onD J u hok fl hB st sm
   exact J.call' (s':={ s1 with heap:=h3 }) (ch:=[]) os u3 hok3 bare fun b z=>absurd z (by simp)
  refine note_any hfrm hf fl' fun h4 held4 sm4=>?_
  refine mark_any (o?:=none) held4 fun h5 fl5 sm5=>?_
  have I5:=inv h5 fl5.1 (sm4.trans sm5)
  refine wpAny_handleBy_cons (codeAny_handlers_test (ld_glob (X:=X.inH ea) (I5.toH ea) hg hm ?_ hdb)) (by intro z;cases z)
  obtain⟨ob,hob,hobc⟩:=fl5.there
  obtain⟨tl,Nn,nm,qn,bs,hdct,sn,sub,ab,col,dd,k0,k1,k2,k3,k5,mN,hC,hNs,hni,T⟩:=O.obj I5.kIn
  refine wpAny_excMatches_sub_self hC hob hobc (T.hasType PySem.F.excBase_ValueError.hasBase) (codeAny_handlers_suite_as ?_)
  refine lands_againD fl5 fun h6 fl6 sm6=>?_
  have I6:=inv h6 fl6.1 ((sm4.trans sm5).trans sm6)
  obtain⟨g1,g2,g3,oe,T',oT,⟨he,c1,c2⟩,⟨vs,c3,_⟩,_⟩:=id fl6
  have nfr:ea∉frs (X.env::X.outer):=fun z=>by
   obtain⟨_,o,q1,q2⟩:=g3.mem z
   rw[he] at q1;cases q1;exact q2 vs c3
  have nH:H2 ea=none:=by
   cases q':H2 ea with
   | none=>rfl
   | some v =>
    obtain⟨o2,e2⟩:=(hok ea v q').there
    have:=hB ea o2 e2 (.inl (by rw[q'];exact Option.some_ne_none _)) (by rw[hs];exact nfr)
    rw[g2] at this;cases this
  have I7:Inv (X.pinned ((X.pn++pins)++[(ea,oe)])) [] σ1 H2 { s1 with heap:=h6 } :=
   ⟨⟨I6.ok.mod,I6.ok.kind,I6.ok.glob,I6.ok.blt,I6.ok.above,I6.ok.inj,I6.ok.has,I6.ok.cab,I6.ok.hd,I6.ok.frames,I6.ok.stk,I6.ok.exf,I6.ok.bs,I6.ok.bsz,I6.ok.noex,I6.ok.exfs,I6.ok.funs,I6.ok.frf⟩,I6.os,I6.bare,I6.base,I6.loc,I6.cell,I6.free,I6.freeC,
    fun p hp=>by
     have hp':p∈((X.pn++pins)++[(ea,oe)])++[]:=hp
     rw[List.append_nil] at hp'
     rcases List.mem_append.mp hp' with z | z
     ·exact I6.pin p z
     ·obtain rfl:p=(ea,oe):=List.mem_singleton.mp z
      exact⟨he,nH,fun z=>nfr ((frs_cons hf).mpr (.inl z)),fun z=>nfr ((frs_cons hf).mpr (.inr z)),fun v z=>by rw[c3] at z;cases z⟩,I6.hok,I6.len⟩
  have held:Held ((X.inH ea).pinned ((X.pn++pins)++[(ea,oe)])) ea C dx:=⟨oe,vs,List.mem_append_right _ (List.mem_singleton.mpr rfl),c1,c2,c3⟩
  have I8:Inv ((X.inH ea).pinned ((X.pn++pins)++[(ea,oe)])) [] σ1 H2 { s1 with heap:=h6 }:=I7.toH ea
  refine store_ok (X:=(X.inH ea).pinned ((X.pn++pins)++[(ea,oe)])) (s:={ s1 with heap:=h6 }) (v:=V.ref ea) I8 hN hi (.inl hk) rfl (fun s9 I9=>?_) (.inr hk)
  refine wpAny_mono (hh ea dx _ held [] _ _ H2 (D.un i) I9 (hq ea)) (fun f s' z=>?_) fun _ _ z=>z.elim
  have back:∀ {σ H s},Inv ((X.inH ea).pinned ((X.pn++pins)++[(ea,oe)])) [] σ H s→Inv X pins σ H s:=fun {σ H s} K=>by
   have K1:Inv (X.pinned ((X.pn++pins)++[(ea,oe)])) [] σ H s:=Inv.ofH I7.ok K
   exact⟨I.ok,K1.os,K1.bare,K1.base,K1.loc,K1.cell,K1.free,K1.freeC,fun p hp=>K1.pin p (List.mem_append_left _ (List.mem_append_left _ hp)),K1.hok,K1.len⟩
  cases f with
  | next=>obtain⟨σ',H',K,q⟩:=z;exact unname_ok (back K) hN hi hk fun s' I'=>⟨_,H',I',q⟩
  | brk=>obtain⟨σ',H',K,q⟩:=z;exact unname_ok (back K) hN hi hk fun s' I'=>⟨_,H',I',q⟩
  | cont=>obtain⟨σ',H',K,q⟩:=z;exact unname_ok (back K) hN hi hk fun s' I'=>⟨_,H',I',q⟩
  | ret u=>obtain⟨v,σ',H',K,r,q⟩:=z;exact unname_ok (back K) hN hi hk fun s' I'=>⟨v,_,H',I',r,q⟩
structure XT(K:PySem.W.Frag)(mg:Str→Option Value)(x bn f q:Str)(st:Stmt)(C:Addr):Prop where
 ex:∃ fI fd B,Fun K "__init__" q st fI fd∧XBase K B∧mg bn=some (.ref B)∧XCls K C fI f∧mg x=some (.ref C)
abbrev sp_xi(C:Addr)(f:Str):Sp:=fun vs H Q _=>∃ a v,vs=[.ref a,v]∧H a=some (exO a C none)∧∀ dx,H dx=none→dx≠a→Q .non (upd (upd H dx (.xd [(f,v)])) a (exO a C (some dx)))
def XOk(P:Program)(w:World)(K:PySem.W.Frag)(mg:Str→Option Value)(base:Heap)(x f:Str)(C:Addr):Prop :=
 ∃ fI fd ps,XCls K C fI f∧mg x=some (.ref C)∧Binds K fd ps []∧FnOk P w K mg base CX0 1 fI fd ps (sp_xi C f)
def tRaiseV(C:Addr)(f:Str)(E:XK)(t:TA):TS:=fun _ σ H=>t σ H fun vs H1=>∃ v,vs=[v]∧∀ dx,H1 dx=none→E (.ref C) (some dx) (upd H1 dx (.xd [(f,v)]))
def tMono(t:TA):TA:=fun σ H Q=>∃ Q0,t σ H Q0∧∀ vs H1,Q0 vs H1→Q vs H1
theorem pa_mono{X:Cx}{es:List Expr}{t:TA}(ha:PA X es t):PA X es (tMono t):=fun pos pins s σ H Q I ⟨Q0,h,m⟩=>thn (ha pos pins s σ H Q0 I h) fun us s1 ⟨vs,H1,I1,r,q⟩=>⟨vs,H1,I1,r,m _ _ q⟩
theorem ps_raiseV{X:Cx}{E:XK}{x g:Str}{C:Addr}{np cpos pos:Pos}{e:Expr}{t:TA}(hR:RaisesX X E)(O:XOk X.prog X.w X.K X.mg X.base x g C)(hr:Room 2 X.A)(hc:X.calm=true)(hg:Gl X x)(ha:PA X [e] t)
  (hdb:(x == ("__debug__" : Str))=false:=by decide) (he:starEach [e] X.env=(false,eval e X.env)::starEach [] X.env:=by rfl) (hpl:(backTo cpos (starEach [] X.env)).any (·.1)=false:=by rfl) :
  PS X (.Raise (some (.Call (.Name x np) [e] [] cpos)) none pos) (tRaiseV C g E t):=by
 obtain⟨fI,fd,ps,O,hm,hb,F⟩:=O
 intro pins s σ H D I h
 refine ps_raiseX hR O hm F hr hb hc hg (pa_mono ha) hdb he hpl pins s σ H D I ⟨_,h,fun vs H1 ⟨v,ev,q⟩=>?_⟩
 subst ev
 refine⟨by show 1≤sizeLine;decide,fun e' he'=>⟨e',v,rfl,upd_same ..,fun dx hdx hne=>⟨rfl,some dx,upd_same ..,?_⟩⟩⟩
 rw[upd_ne hne] at hdx
 have hH:del (upd (upd (upd H1 e' (exO e' C none)) dx (.xd [(g,v)])) e' (exO e' C (some dx))) e'=upd H1 dx (.xd [(g,v)]):=funext fun b=>by
  by_cases z:b=e'
  ·rw[z,del_same,upd_ne (Ne.symm hne),he']
  ·rw[del_ne z,upd_ne z]
   by_cases y:b=dx
   ·rw[y,upd_same,upd_same]
   ·rw[upd_ne y,upd_ne y,upd_ne z]
 rw[hH]
 exact q dx hdx
end L2
namespace L2
open PySem PySem.Spec PyProof.Rows
section
variable {M:Model}{A:Around}{E:Value→Shared→Prop}{s:Shared}{base:Heap}{env:Env}{outer l:List Env}{L e:Addr}{cls fl:Value}{od:Option Addr}
theorem note_env{env':Env}(h:env'.frame=env.frame)(x:Value):noteFrame x env'=noteFrame x env:=by
 unfold noteFrame PySem.frameOf
 rw[h]
theorem passOn_any{α:Type}{what:String}{cenv:Env}(R:Heap.AtD base l e cls od fl s.heap)(hQ:∀ fl' h',Heap.AtD base l e cls od fl' h'→s.heap.UpToSlots h'→E (.ref e) { s with heap:=h' }) :
  wpAny M A (passOn what (.ref e) cenv:Sem α) (fun _ _=>False) E s:=by
 unfold PySem.passOn
 obtain⟨_,_,_,oe,T,oT,⟨he,_⟩,f1,_⟩:=id R
 refine wpAny_bind (fld_get he f1 ?_)
 rw[if_neg (show ¬ ((Value.ref T == Value.none)=true) from by simp)]
 exact wpAny_bind (mark_any R fun h' R' u=>wpAny_throw (hQ _ h' R' u))
end
theorem funFrames_but{h h' base:Heap}{C:Addr}(k:∀ b,b≠C→h'.get? b=h.get? b):∀{l:List Env},h.FunFrames base l→C∉frs l→h'.FunFrames base l
 | [],_,_=>trivial
 | env::rest,⟨hk,⟨L,o,hf,hn,ho,hd⟩,hr⟩,hC=>⟨hk,⟨L,o,hf,hn,(k L fun z=>hC ((frs_cons hf).mpr (.inl z.symm))).trans ho,hd⟩,funFrames_but k hr fun z=>hC ((frs_cons hf).mpr (.inr z))⟩
theorem atD_but{B h h':Heap}{l:List Env}{e C:Addr}{cls fl:Value}{od:Option Addr}(R:Heap.AtD B l e cls od fl h)(k:∀ b,b≠C→h'.get? b=h.get? b)(hC:C∉frs l)(hn:∀ o,h.get? C=some o→∀ vs,o.data≠.fields vs) :
  Heap.AtD (PySem.W.hideAll B [C]) l e cls od fl h':=by
 obtain⟨f1,f2,f3,oe,T,oT,⟨he,hc⟩,g1,⟨hTe,hnT⟩,hT,g3⟩:=R
 have st:(PySem.W.hideAll B [C]).StaysIn B:=fun b o q=>PySem.W.of_hideAll _ q
 have nC:∀ b o,(PySem.W.hideAll B [C]).get? b=some o→b≠C:=fun b o q z=>by rw[z,PySem.W.hideAll_none _ (List.mem_singleton.mpr rfl)] at q;cases q
 have off:∀ {a o i x},h.get? a=some o→Fld o i x→a≠C:=fun ho f z=>by
  obtain⟨vs,d,_⟩:=f
  exact hn _ (z▸ho) vs d
 exact⟨fun b o q=>(k b (nC b o q)).trans (f1 b o (st b o q)),PySem.W.fresh_of_stays st f2,funFrames_but k (PySem.W.funFrames_base st f3) hC,oe,T,oT,⟨(k e (off he g1)).trans he,hc⟩,g1,⟨hTe,PySem.W.fresh_of_stays st hnT⟩,(k T (off hT g3)).trans hT,g3⟩
def LeaveAt(X:Cx)(E:XK):Prop:=∀ (pins:List (Addr×Obj)) (σ:St) (H2:Hp) (s2:Shared) (B:Heap) (ea:Addr) (cls:Value) (od:Option Addr) (fl:Value),Inv X pins σ H2 s2→Heap.AtD B X.stack ea cls od fl s2.heap →
 (∀ b o,s2.heap.get? b=some o→(H2 b≠none∨∃ o₀,X.s₀.heap.get? b=some o₀)→b∉frs X.stack→B.get? b=some o)→E cls od H2→X.xe (.ref ea) s2
section
variable {P:Program}{w:World}{K:PySem.W.Frag}{mg:Str→Option Value}{base:Heap}{N:List Str}{qual:Str}{scope:Scope}{f:Addr}{cd:Value}{A:Around}{outer:List Env}{s:Shared}{H:Hp}{E:XK}
theorem leaveD:LeaveAt (cxD P w K mg base N qual scope f cd A outer s H E) E:=by
 intro pins σ H2 s2 B ea cls od fl I R hB hE
 have hfr:(envOfC qual scope s.heap.objs.size f cd).frame=some s.heap.objs.size:=rfl
 have R':Heap.AtD B (envOfC qual scope s.heap.objs.size f cd::outer) ea cls od fl s2.heap:=R
 have hB':∀ b o,s2.heap.get? b=some o→(H2 b≠none∨∃ o₀,s.heap.get? b=some o₀)→b∉frs (envOfC qual scope s.heap.objs.size f cd::outer)→B.get? b=some o:=hB
 refine leaves_any I.ok.frames hfr R' fun h' x1 x2=>?_
 have old:∀ b o,s.heap.get? b=some o→b∈frs (envOfC qual scope s.heap.objs.size f cd::outer)→b∈frs outer:=fun b o q z=>by
  rcases (frs_cons hfr).mp z with z | z
  ·rw[z] at q
   exact absurd (Heap.lt_size q) (Nat.lt_irrefl _)
  ·exact z
 have ib:Un (frs outer) [] H H2 s.heap s2.heap:=I.base
 have un:Un (frs outer) [] H H2 s.heap h':=Un.onSlots ib old (fun b o z q n=>x1.1 b o (hB' b o q (.inr z) n)) fun b o q n=>frame_slots R'.2.2.1 x2 n q
 refine⟨ea,cls,od,H2,rfl,I.os,I.bare,un,I.hok.stays fun b u n q=>x1.1 b u (hB' b u q (.inl n) fun z=>n (I.stkFree b z)),⟨B,x1,fun b o q hb hn=>?_⟩,hE⟩
 have hs:b∉frs (envOfC qual scope s.heap.objs.size f cd::outer):=fun z=>by
  rcases hb with hb | ⟨o₀,hb⟩
  ·exact hb (I.stkFree b z)
  ·exact hn (old b o₀ hb z)
 have h1:∃ o2,s2.heap.get? b=some o2:=by
  rcases hb with hb | ⟨o₀,hb⟩
  ·cases q':H2 b with
   | none=>exact absurd q' hb
   | some v=>exact (I.hok b v q').there
  ·exact ib.there b o₀ hb (by simp)
 obtain⟨o2,e2⟩:=h1
 have hBb:=hB' b o2 e2 hb hs
 have:=x1.1 b o2 hBb
 rw[q] at this
 cases this
 exact hBb
end
def compXe(X:Cx)(scope:Scope)(cl:List (Str×Addr))(C:Addr):Value→Shared→Prop:=fun x s'=>notedBy (model X.prog X.w) X.A (compEnvC scope cl C X.env) (fun x s''=>∃ m,s''.heap.Ns C m∧∀ h',Heap.SameBut C s''.heap h'→∀ cenv:Env,cenv.locals=C →
 wpAny (model X.prog X.w) X.A (PySem.passOn "comprehension.variables-let-go" x cenv:Sem Value) (fun _ _=>False) X.xe { s'' with heap:=h' }) x s'
abbrev Cx.compD(X:Cx)(N':List Str)(scope:Scope)(cl:List (Str×Addr))(C:Addr)(fp:List Addr)(s2:Shared)(H2:Hp):Cx:=(X.comp N' scope cl C fp s2 H2).wish (compXe X scope cl C)
theorem passC{X:Cx}{E:XK}{L:Addr}{pins:List (Addr×Obj)}{σ:St}{H2:Hp}{s2:Shared}{fp:List Addr}{N':List Str}{scope:Scope}{cl:List (Str×Addr)}{C:Addr}(hL:LeaveAt X E)(hex:X.ex=[])(hst:X.stack=X.env::X.outer)(hfm:X.env.frame=some L)
  (I2:Inv X pins σ H2 s2) (f2:∀ b∈fp,FpOk X pins H2 b) (hb:∀ b∈fp,b < s2.heap.objs.size) (hle:s2.heap.objs.size≤C):Passes (CXD X.prog X.w) (X.compD N' scope cl C fp s2 H2) E:=by
 intro pins' σ' H1 s1 e s' I1 hc
 obtain⟨ea,cls,od,H',rfl,os,bare,u,hok,⟨B,fl,hB⟩,hE⟩:=hc
 have u:Un (frs X.stack) [] H1 H' s1.heap s'.heap:=u
 have fl:Heap.FlyingD B X.stack ea cls od s'.heap:=fl
 have hB:∀ b o,s'.heap.get? b=some o→(H' b≠none∨∃ o₀,s1.heap.get? b=some o₀)→b∉frs X.stack→B.get? b=some o:=hB
 have b1:Un (frs X.stack) fp H2 H1 s2.heap s1.heap:=I1.base
 have u12:Un (frs X.stack) fp H2 H' s2.heap s'.heap:=b1.trans ⟨fun b o e n hb _=>u.keep b o e n hb (by simp),fun b o e n hb _=>u.slot b o e n hb (by simp),fun b o e n _=>u.free b o e n (by simp),fun b o e _=>u.there b o e (by simp),u.tups,u.frzs,u.tbls⟩
 obtain⟨m,hnC,_⟩:=I1.loc
 have hnC:s1.heap.Ns C m:=hnC
 obtain⟨oC,es,ep,hoC,hdC,hrC⟩:=id hnC
 have fC:H1 C=none:=I1.free
 have lt:∀ b o,s2.heap.get? b=some o→b≠C:=fun b o e=>Nat.ne_of_lt (Nat.lt_of_lt_of_le (Heap.lt_size e) hle)
 have frOld:∀ b∈frs X.stack,∃ o,s2.heap.get? b=some o:=fun b z=>by obtain⟨_,o,q,_⟩:=I2.stack.mem z;exact⟨o,q⟩
 have nfC:C∉frs X.stack:=fun z=>by obtain⟨o,q⟩:=frOld C z;exact lt C o q rfl
 have hoC':s'.heap.get? C=some oC:=u.keep C oC hoC fC nfC (by simp)
 have fC':H' C=none:=u.free C oC hoC fC (by simp)
 have fr2:∀ b∈frs X.stack,H' b=none:=fun b z=>by
  obtain⟨o,q⟩:=frOld b z
  exact u12.free b o q (I2.stkFree b z) (fun y=>(f2 b y).2.2.1 (by
   have:=(List.mem_cons.mp (I2.stkSub b z))
   rcases this with t | t
   ·exact absurd t (f2 b y).2.1
   ·exact t))
 have hfrm:X.A.frames=some (X.env::X.outer):=by rw[← hst];exact I2.ok.frames
 show compXe X scope cl C (.ref ea) s'
 unfold compXe notedBy
 rw[note_env (env:=X.env) (env':=compEnvC scope cl C X.env) rfl]
 have fl':Heap.AtD B (X.env::X.outer) ea cls od .none s'.heap:=by rw[← hst];exact fl
 refine note_any hfrm hfm fl' fun h3 R3 u3=>?_
 have nC3:h3.get? C=some oC:=R3.1 C oC (hB C oC hoC' (.inr ⟨oC,hoC⟩) nfC)
 refine⟨m,⟨oC,es,ep,nC3,hdC,hrC⟩,fun h' hs' cenv _=>?_⟩
 have R4:=atD_but R3 (fun b z=>hs'.2 b z) (by rw[← hst];exact nfC) (fun o q vs z=>by rw[show h3.get? C=some o from q] at nC3;cases nC3;rw[hdC] at z;cases z)
 refine passOn_any R4 fun fl5 h5 R5 u5=>?_
 have k:∀ b o,s'.heap.get? b=some o→(H' b≠none∨∃ o₀,s1.heap.get? b=some o₀)→b∉frs X.stack→b≠C→h5.get? b=some o:=fun b o q z n y=>R5.1 b o (PySem.W.hideAll_get _ (hB b o q z n) fun t=>y (List.mem_singleton.mp t))
 have sl:∀ b o,s'.heap.get? b=some o→b∈frs X.stack→∃ sl,h5.get? b=some { o with slots:=sl }:=fun b o q z=>by
  obtain⟨_,o',e',nf⟩:=fl.2.2.1.mem z
  rw[q] at e'
  cases e'
  obtain⟨s3,e3⟩:=u3 b o q nf
  have e4:h'.get? b=_:=(hs'.2 b fun y=>nfC (y▸z)).trans e3
  obtain⟨s5,e5⟩:=u5 b _ e4 nf
  exact⟨s5,e5⟩
 have un:Un (frs X.stack) fp H2 H' s2.heap h5 :=
  {keep:=fun b o e n hb hx=>k b o (u12.keep b o e n hb hx) (.inr (b1.there b o e hx)) hb (lt b o e)
   slot:=fun b o e n hb hx=>by
    obtain⟨sl1,e1⟩:=u12.slot b o e n hb hx
    obtain⟨sl2,e2⟩:=sl b _ e1 hb
    exact⟨sl2,e2⟩
   free:=u12.free
   there:=fun b o e hx=>by
    obtain⟨o1,e1⟩:=u12.there b o e hx
    by_cases z:b∈frs X.stack
    ·obtain⟨sl2,e2⟩:=sl b _ e1 z
     exact⟨_,e2⟩
    ·exact⟨_,k b _ e1 (.inr (b1.there b o e hx)) z (lt b o e)⟩
   tups:=u12.tups
   frzs:=u12.frzs
   tbls:=u12.tbls }
 have hok5:HOk X.prog X.w H' h5:=HOk.stays (show HOk X.prog X.w H' s'.heap from hok) fun b v n q=>k b v q (.inl n) (fun z=>n (fr2 b z)) fun z=>n (by rw[z];exact fC')
 have I5:Inv X pins σ H' { s' with heap:=h5 }:=I2.call' (s':={ s' with heap:=h5 }) (ch:=fp) (os.trans I1.os) un hok5 bare (fun b z=>⟨(f2 b z).2.2.2.1,(f2 b z).2.1,(f2 b z).2.2.2.2.1,(f2 b z).2.2.2.2.2⟩)
 have R5':Heap.AtD (PySem.W.hideAll B [C]) X.stack ea cls od fl5 h5:=by rw[hst];exact R5
 refine hL pins σ H' _ _ ea cls od fl5 I5 R5' (fun b o q hb hn=>?_) hE
 have s0:∀ o₀,X.s₀.heap.get? b=some o₀→b≠C∧∃ o1,s1.heap.get? b=some o1:=fun o₀ q0=>by
  obtain⟨o2,q2⟩:=I2.base.there b o₀ q0 (by rw[hex];simp)
  refine⟨lt b o2 q2,b1.there b o2 q2 fun y=>?_⟩
  rcases (f2 b y).2.2.2.1 with t | t
  ·rw[hex] at t;cases t
  ·exact absurd (Heap.lt_size q0) (Nat.not_lt.mpr t)
 have hb1:b≠C∧(H' b≠none∨∃ o₀,s1.heap.get? b=some o₀):=by
  rcases hb with hb | ⟨o₀,hb⟩
  ·exact⟨fun z=>hb (by rw[z];exact fC'),.inl hb⟩
  ·exact⟨(s0 o₀ hb).1,.inr (s0 o₀ hb).2⟩
 have h1:∃ o2,s'.heap.get? b=some o2:=by
  rcases hb1.2 with hb | ⟨o1,hb⟩
  ·cases q':H' b with
   | none=>exact absurd q' hb
   | some v=>exact (hok b v q').there
  ·exact u.there b o1 hb (by simp)
 obtain⟨o2,e2⟩:=h1
 have hBb:=PySem.W.hideAll_get [C] (hB b o2 e2 hb1.2 hn) fun t=>hb1.1 (List.mem_singleton.mp t)
 have:=R5.1 b o2 hBb
 rw[show h5.get? b=some o from q] at this
 cases this
 exact hBb
section
variable {prog:Program}{w:World}{A:Around}{R:Result→Shared→Prop}{s:Shared}
theorem compLoop_anyD{elt tg iter:Expr}{ifs:List Expr}{scope:Scope}{pos:Pos}{it acc:Value}{env:Env}(I:Nat→Shared→Prop){E:Value→Shared→Prop}(hE:∀ e s',E e s'→notedBy (model prog w) A env (fun x s''=>R (.error x) s'') e s')
  (turn:∀ n s,I n s→wpAny (model prog w) A (pyNext it) (fun r s₁=>match r with
   | none=>R (.ok .next) s₁
   | some v=>wpAny (model prog w) A (letOwnedTupleGo tg it v) (fun _ s₁=>wpAny (model prog w) A (assign tg env v) (fun _ s₂ =>
     wpAny (model prog w) A (forIn ifs true fun c r=>if r=true then do let ok ← isTrue c env (eval c env);pure (ForInStep.yield ok) else pure (ForInStep.yield r)) (fun ok s₃ =>
      if ok=true then wpAny (model prog w) A (eval elt env) (fun x s₄=>wpAny (model prog w) A (call (.builtin "list.append") [acc,x]) (fun _ s₅=>∃ m,m < n∧I m s₅) (fun _ _=>False) s₄) E s₃
      else ∃ m,m < n∧I m s₃) (fun _ _=>False) s₂) (fun _ _=>False) s₁) (fun _ _=>False) s₁) (fun _ _=>False) s)
  (n:Nat) (h:I n s):codeAny (model prog w) A (.compLoop (.ListComp elt [⟨tg,iter,ifs,0⟩] scope pos) 0 it acc env) R s:=by
 refine codeAny_loop rfl I (fun n s hI=>?_) n h
 show wpAny _ A ((compTurn (.ListComp elt [⟨tg,iter,ifs,0⟩] scope pos) 0 it acc env).onRaise (fun x=>do noteFrame x env;theTreesLotGoes x)) _ _ s
 refine wpAny_noted ?_
 rw[compTurn_list]
 have up:∀{α:Type}{t:Sem α}{Q:α→Shared→Prop}{E':Value→Shared→Prop}{s:Shared},wpAny (model prog w) A t Q (fun _ _=>False) s→wpAny (model prog w) A t Q E' s:=fun h=>wpAny_mono h (fun _ _ z=>z) fun _ _ z=>z.elim
 refine wpAny_bind (wpAny_standAt (wpAny_bind (up (wpAny_mono (turn n s hI) (fun r s₁ h₁=>?_) fun _ _ z=>z))))
 cases r with
 | none=>exact wpAny_pure h₁
 | some v =>
  refine wpAny_bind (up (thn h₁ fun _ s₂ h₂=>wpAny_bind (up (thn h₂ fun _ s₃ h₃=>wpAny_bind (up (thn h₃ fun ok s₄ h₄=>?_))))))
  cases ok with
  | false=>exact wpAny_pure ⟨rfl,h₄⟩
  | true=>exact wpAny_bind (wpAny_bind (wpAny_mono h₄ (fun x s₅ h₅=>wpAny_bind (up (thn h₅ fun _ s₆ h₆=>wpAny_pure (wpAny_pure ⟨rfl,h₆⟩)))) fun e s₅ h₅=>hE e s₅ h₅))
end
section
variable {X:Cx}
theorem pe_compD{E:XK}{L:Addr}{elt iter tg:Expr}{ifs:List Expr}{scope:Scope}{pos:Pos}{wi:TI}{g:TG}{tt:TT}{te:TE}(own:List Str)(fr:List (Str×Nat))(hL:LeaveAt X E)(hex:X.ex=[])(hst:X.stack=X.env::X.outer)(hfm:X.env.frame=some L)(hc:X.calm=true)(hi:PI X tg iter wi)
  (hgx:GExt g own.length) (hB:∀ cl C fp s2 H2,Passes (CXD X.prog X.w) (X.compD (own++fr.map (·.1)) scope cl C fp s2 H2) E→PG (X.comp (own++fr.map (·.1)) scope cl C fp s2 H2) tg g∧PFs (X.comp (own++fr.map (·.1)) scope cl C fp s2 H2) ifs tt∧PE (X.compD (own++fr.map (·.1)) scope cl C fp s2 H2) elt te)
  (hkind:scope.kind=.function) (hcell:∀ y∈scope.names,y.2≠.cell) (hnames:∀ y∈scope.names,y.2=.local→scope.names.lookup y.1=some .local)
  (hfree:∀ y∈scope.names,y.2=.free→X.env.kindOf y.1=some .cell∨X.env.kindOf y.1=some .free)
  (hfr:∀ p∈fr,X.N[p.2]?=some p.1∧(X.env.kindOf p.1=some .cell∨X.env.kindOf p.1=some .free)∧(p.1,NameKind.free)∈scope.names∧((relabel scope X.env).names.lookup p.1=some .cell∨(relabel scope X.env).names.lookup p.1=some .free))
  (hs:∀ x,foldedSetIterable iter X.env x=pure x:=by intro _;rfl):PE X (.ListComp elt [⟨tg,iter,ifs,0⟩] scope pos) (tComp own.length (fr.map (·.2)) wi g tt te):=by
 intro pins s σ H Q I h
 obtain⟨cl,hclos,hcl,hcl2⟩:=closure_of (env:=X.env) (scope:=scope) fun y hy hf=>I.ok.has y.1 (hfree y hy hf)
 rw[eval_ListComp]
 refine wpAny_comprehension_free (use:=none) rfl hs hclos hkind hnames (thn (hi pins s σ H _ I h) fun v s1 h1=>thn h1 fun itv s2 h2=>?_)
 obtain⟨it,fp,tn,J,H2,e,I2,T,st2,f2,h3⟩:=h2
 subst e
 obtain⟨W,⟨m0,w0⟩,turn⟩:=h3 s2.heap.objs.size I2.fresh
 have hb:∀ b∈fp,b < s2.heap.objs.size:=fun b z=>by
  obtain⟨o,e,_⟩:=T.obj _ _ st2 b z
  exact Heap.lt_size e
 refine wpAny_newObj_type (wpAny_newFunctionEnv hcell (by intro y hy;simp at hy) (fun h₁ hns₁ hsb₁=>?_) hkind)
 dsimp only at hns₁ hsb₁ ⊢
 generalize hH2:s2.heap.push { cls:=.type "list", dict:=none,data:=.seq ([]:List Value).toArray }=G at hns₁ hsb₁ ⊢
 have hCs:G.objs.size=s2.heap.objs.size+1:=by rw[← hH2,Heap.size_push]
 have old:∀ b o,s2.heap.get? b=some o→h₁.get? b=some o:=fun b o e=>hsb₁.extBut b o (Nat.ne_of_lt (by rw[hCs];exact Nat.lt_succ_of_lt (Heap.lt_size e))) (Heap.get?_push_of_some _ (hH2▸Heap.get?_push_of_some _ e))
 have hD:h₁.get? s2.heap.objs.size=some { cls:=.type "list", data:=.seq ([]:List Value).toArray }:=hsb₁.extBut _ _ (Nat.ne_of_lt (by rw[hCs];exact Nat.lt_succ_self _)) (Heap.get?_push_of_some _ (hH2▸Heap.get?_push_size _ rfl))
 generalize hC:G.objs.size=C at hns₁ hsb₁ hCs ⊢
 have hns':h₁.Ns C (fun _=>none):=by
  have e:(fun x=>(([]:List (Str×Value)).reverse.lookup x))=fun _=>(none:Option Value):=by funext x;rfl
  rw[← e]
  exact hns₁
 have hle:s2.heap.objs.size≤C:=by rw[hCs];exact Nat.le_succ _
 have hne:C≠s2.heap.objs.size:=Nat.ne_of_gt (by rw[hCs];exact Nat.lt_succ_self _)
 let Y:Cx:=X.comp (own++fr.map (·.1)) scope cl C fp s2 H2
 have stat:∀{H':Hp},(∀ b∈fp,H' b=none)→∀ b∈fp,FpOk Y [] H' b:=fun hn=>Inv.fpComp I2 f2 hb hle hcl hn
 obtain⟨gY,pY,eY⟩:=hB cl C fp s2 H2 (passC hL hex hst hfm I2 f2 hb hle)
 have IY:Inv Y [] (compSt own.length (fr.map (·.2)) σ) (upd H2 s2.heap.objs.size (.lst [])) { s2 with heap:=h₁,toks:=s2.toks+([]:List (Str×Value)).length } :=
  Inv.comp (D:=s2.heap.objs.size) I2 f2 hb hkind hcell hcl hcl2 hfr (Nat.le_refl _) hle hne hns' old hD rfl I2.bare
 have loop:codeAny (model X.prog X.w) X.A (.compLoop (.ListComp elt [⟨tg,iter,ifs,0⟩] scope pos) 0 (.ref it) (.ref s2.heap.objs.size) (compEnvC scope cl C X.env)) (compPost (model X.prog X.w) X.A X.xe none (EP X pins σ Q) (.ref s2.heap.objs.size) C)
   { s2 with heap:=h₁,toks:=s2.toks+([]:List (Str×Value)).length }:=by
  refine compLoop_anyD (E:=compXe X scope cl C) (fun n s'=>∃ i acc H',Inv Y [] (compSt own.length (fr.map (·.2)) σ) H' s'∧tn i s'.heap∧(∀ b∈fp,H' b=none)∧W i n acc H') (fun _ _ z=>z) ?_ m0
   ⟨0,[],_,IY,T.keep _ _ _ st2 fun b _ o e=>old b o e,fun b z=>by rw[upd_ne (Nat.ne_of_lt (hb b z))];exact (f2 b z).1,w0⟩
  rintro n s3 ⟨i,acc,H3,I3,st3,fr3,w3⟩
  rcases turn i n acc H3 w3 with ⟨stop,q⟩ | ⟨go,Nn,hN,step⟩
  ·refine thn (T.done Y rfl rfl rfl hc i [] s3 _ H3 _ I3 (stat fr3) st3 stop) fun r s4 ⟨hr,I4⟩=>?_
   subst hr
   obtain⟨m4,hn4,_⟩:=I4.loc
   refine⟨m4,hn4,fun h' hs'=>?_⟩
   have kb:∀ b o,b≠C→s4.heap.get? b=some o→h'.get? b=some o:=fun b o hne e=>hs'.extBut b o hne e
   have hok':HOk X.prog X.w H3 h':=HOk.stays (show HOk X.prog X.w H3 s4.heap from I4.hok) fun b u hn e=>kb b u (fun z=>hn (by rw[z];exact I4.free)) e
   have bI:Un (frs X.stack) fp H2 H3 s2.heap s4.heap:=I4.base
   have lt:∀ b o,s2.heap.get? b=some o→b≠C:=fun b o e=>Nat.ne_of_lt (Nat.lt_of_lt_of_le (Heap.lt_size e) hle)
   have un:Un (frs X.stack) fp H2 H3 s2.heap h' :=
    {keep:=fun b o e n hb hx=>kb b o (lt b o e) (bI.keep b o e n hb hx)
     slot:=fun b o e n hb hx=>by
      obtain⟨sl,e1⟩:=bI.slot b o e n hb hx
      exact⟨sl,kb b _ (lt b o e) e1⟩
     free:=bI.free
     there:=fun b o e hx=>by
      obtain⟨o1,e1⟩:=bI.there b o e hx
      exact⟨o1,kb b _ (lt b o e) e1⟩
     tups:=bI.tups
     frzs:=bI.frzs
     tbls:=bI.tbls }
   exact⟨.ref s2.heap.objs.size,H3,I2.call' (s':={ s4 with heap:=h' }) (ch:=fp) I4.os un hok' I4.bare (fun b z=>⟨(f2 b z).2.2.2.1,(f2 b z).2.1,(f2 b z).2.2.2.2.1,(f2 b z).2.2.2.2.2⟩),rfl,q⟩
  ·refine thn (T.item Y rfl rfl rfl hc i [] s3 _ H3 _ I3 (stat fr3) st3 go) fun r s4 ⟨u,hr,h4⟩=>?_
   subst hr
   refine thn h4 fun _ s5 ⟨x,H5,I5,r5,y5,st5,fr5⟩=>?_
   have I5':=I5.pinned (stat fr5) (T.obj _ _ st5)
   refine thn (gY _ s5 _ H5 x u _ I5' r5 (hgx _ x H5 _ (step x H5 y5))) fun _ s6 ⟨σ6,H6,I6,ex6,q6⟩=>?_
   refine thn (pY _ s6 σ6 H6 _ I6 q6) fun ok s7 ⟨H7,I7,q7⟩=>?_
   have again:∀{acc':List V}{H8:Hp}{s8:Shared},Inv Y ([]++pinsAt fp s5.heap) σ6 H8 s8→Nn acc' H8→∃ m,m < n∧∃ i acc H',Inv Y [] (compSt own.length (fr.map (·.2)) σ) H' s8∧tn i s8.heap∧(∀ b∈fp,H' b=none)∧W i m acc H':=fun {acc' H8 s8} I8 n8=>by
    obtain⟨m',hm,w8⟩:=hN acc' H8 n8
    refine⟨m',hm,i+1,acc',H8,I8.unpinned.weak ex6.1 ex6.2,T.keep _ _ _ st5 fun b hb o e=>(I8.pin (b,o) (List.mem_append_right _ (List.mem_append_right _ (mem_pinsAt hb e)))).1,fun b hb=>?_,w8⟩
    obtain⟨o,e,d⟩:=T.obj _ _ st5 b hb
    exact (I8.pin (b,o) (List.mem_append_right _ (List.mem_append_right _ (mem_pinsAt hb e)))).2.1
   cases ok with
   | false=>exact again I7 (by simpa using q7)
   | true =>
    have q7':=(by simpa using q7:te σ6 H7 _)
    refine thn (eY _ s7 σ6 H7 _ (I7.wish _) q7') fun xv s8 ⟨y,H8,I8,r8,hl8,hz8,n8⟩=>?_
    refine thn (mt_append (X:=Y) _ s8 σ6 H8 (.ref s2.heap.objs.size) [y] (.ref s2.heap.objs.size) [xv] (fun v H9=>v=.non∧H9=upd H8 s2.heap.objs.size (.lst (acc++[y]))) I8.unwish rfl (.cons r8 .nil) ⟨_,acc,y,rfl,rfl,hl8,hz8,rfl,rfl⟩) fun _ s9 ⟨v9,H9,I9,_,_,e9⟩=>?_
    subst e9
    exact again I9 n8
 exact codeAny_compStart_list loop (T.self X.A 0 _ _ _ (T.keep _ _ _ st2 fun b _ o e=>old b o e) loop)
end
end L2
namespace L2
open PySem PySem.Spec PyProof.Rows
section
variable {X:Cx}{x:Str}{p pos:Pos}{e:Expr}{es:List Expr}{t:TA}{sts:List Stmt}
theorem qs_raiseV{E:XK}{g:Str}{C:Addr}{np cpos:Pos}(hR:RaisesX X E)(O:XOk X.prog X.w X.K X.mg X.base x g C)(ha:QA X [e] t)(hr:Room 2 X.A:=by exact Room.le (by assumption))(hc:X.calm=true:=by rfl)(hg:Gl X x:=by rfl)
  (hdb:(x == ("__debug__" : Str))=false:=by decide) (he:starEach [e] X.env=(false,eval e X.env)::starEach [] X.env:=by rfl) (hpl:(backTo cpos (starEach [] X.env)).any (·.1)=false:=by rfl) :
  QS X (.Raise (some (.Call (.Name x np) [e] [] cpos)) none pos) (tRaiseV C g E t):=⟨ps_raiseV hR O hr hc hg ha.p hdb he hpl⟩
theorem qe_dXD{EX:XExD}{k:Nat}{ps:List Str}{sp:Sp}(d:DefOk X.prog X.w X.K X.mg X.base (CXD X.prog X.w) k x ps sp)(hr:Room k X.A)(hx:PassXD X EX)(hg:Gl X x)(ha:QA X (e::es) t)
  (hdb:(x == ("__debug__" : Str))=false:=by decide) (he:starEach (e::es) X.env=(false,eval e X.env)::starEach es X.env:=by rfl) (hpl:(backTo pos (starEach es X.env)).any (·.1)=false:=by rfl) :
  QE X (.Call (.Name x p) (e::es) [] pos) (tCallXD sp EX t):=by
 obtain⟨f,fd,F,hm,hk,hb⟩:=d
 exact⟨pe_callXD F hr hg hm hk hb hx ha.p hdb he hpl⟩
theorem qs_tryX{P:Program}{w:World}{base:Heap}{n g:Str}{C:Addr}{np hpos:Pos}{suite:List Stmt}{b₀:Stmt}{tb:XExD→TS}{th:Addr→Addr→TS}(i:Nat)(O:XOk P w X.K X.mg base x g C)(hN:X.N.Nodup)
  (hb:∀ pn EX,QB (X.trD pn EX) sts (tb EX)) (hh:∀ fI,XCls X.K C fI g→∀ ea dx pn,Held ((X.inH ea).pinned pn) ea C dx→QB ((X.inH ea).pinned pn) (b₀::suite) (th ea dx)) (hg:Gl X x:=by rfl) (hs:X.stack=X.env::X.outer:=by rfl) (hf:X.env.frame=some X.env.locals:=by rfl)
  (hi:X.N[i]?=some n:=by rfl) (hk:X.env.scope.names.lookup n=some .local:=by rfl) (hdb:(x == ("__debug__" : Str))=false:=by decide) :
  QS X (.Try sts [.ExceptHandler (some (.Name x np)) (some n) (b₀::suite) hpos] [] [] pos) (tTryX C i tb th):=by
 obtain⟨fI,fd,ps,O,hm,_⟩:=O
 exact⟨ps_tryX O hm hg hs hf hN hi hk (fun pn EX=>(hb pn EX).p) (fun ea dx pn z=>(hh fI O ea dx pn z).p) hdb⟩
theorem qe_xat{i:Nat}{n f:Str}{C fI ea dx:Addr}(O:XCls X.K C fI f)(hh:Held X ea C dx)(hN:X.N[i]?=some n:=by rfl)(hv:Vis X.env.scope n:=by first | exact Or.inl rfl | exact Or.inr (Or.inl rfl) | exact Or.inr (Or.inr rfl))(hd:(n == ("__debug__" : Str))=false:=by decide)(hcd:(n == ("__classdict__" : Str))=false:=by decide)
  (hb:attributeBase (.Name n p) f X.env (eval (.Name n p) X.env)=eval (.Name n p) X.env:=by rfl):QE X (.Attribute (.Name n p) f pos) (tXAt i f ea dx):=⟨pe_xat O hh hN hv hd hcd hb⟩
end
section
variable {X:Cx}{elt iter tg:Expr}{ifs:List Expr}{scope:Scope}{pos:Pos}{wi:TI}{g:TG}{tt:TT}{te:TE}
theorem qe_cpD{E:XK}{L:Addr}(own:List Str)(fr:List (Str×Nat))(hL:LeaveAt X E)(hi:QI X tg iter wi)
  (hgx:GExt g own.length) (hB:∀ cl C fp s2 H2,Passes (CXD X.prog X.w) (X.compD (own++fr.map (·.1)) scope cl C fp s2 H2) E→QG (X.comp (own++fr.map (·.1)) scope cl C fp s2 H2) tg g∧QF (X.comp (own++fr.map (·.1)) scope cl C fp s2 H2) ifs tt∧QE (X.compD (own++fr.map (·.1)) scope cl C fp s2 H2) elt te)
  (hex:X.ex=[]:=by rfl) (hst:X.stack=X.env::X.outer:=by rfl) (hfm:X.env.frame=some L:=by rfl) (hc:X.calm=true:=by rfl)
  (hkind:scope.kind=.function:=by rfl) (hcell:∀ y∈scope.names,y.2≠.cell:=by decide +kernel) (hnames:∀ y∈scope.names,y.2=.local→scope.names.lookup y.1=some .local:=by decide +kernel)
  (hfree:∀ y∈scope.names,y.2=.free→X.env.kindOf y.1=some .cell∨X.env.kindOf y.1=some .free:=by exact free_of (by rfl))
  (hfr:∀ p∈fr,X.N[p.2]?=some p.1∧(X.env.kindOf p.1=some .cell∨X.env.kindOf p.1=some .free)∧(p.1,NameKind.free)∈scope.names∧((relabel scope X.env).names.lookup p.1=some .cell∨(relabel scope X.env).names.lookup p.1=some .free):=by exact fr_of (by rfl))
  (hs:∀ x,foldedSetIterable iter X.env x=pure x:=by intro _;rfl):QE X (.ListComp elt [⟨tg,iter,ifs,0⟩] scope pos) (tComp own.length (fr.map (·.2)) wi g tt te) :=
 ⟨pe_compD own fr hL hex hst hfm hc hi.p hgx (fun cl C fp s2 H2 z=>⟨(hB cl C fp s2 H2 z).1.p,(hB cl C fp s2 H2 z).2.1.p,(hB cl C fp s2 H2 z).2.2.p⟩) hkind hcell hnames hfree hfr hs⟩
end
theorem DefAt.qD{P:Program}{w:World}{K:PySem.W.Frag}{mg:Str→Option Value}{base:Heap}{x:Str}{st:Stmt}{f:Addr}{fd:FuncData}{N ps:List Str}{k:Nat}{sp:Sp}(D:DefAt K mg x st f fd)(S:FnScope N ps (defScope st))(len:∀ vs H Q E,sp vs H Q E→vs.length=ps.length)
  (hbody:∀(cdv:Value)(A:Around)(outer:List Env)(s:Shared)(H:Hp)(vs:List V)(Q:VK)(E:XK),Room k (A.deeper (envOfC x (defScope st) s.heap.objs.size f cdv))→sp vs H Q E →
   ∃ t,QB (cxD P w K mg base N x (defScope st) f cdv A outer s H E) (defBody st) t∧t { nx:=fun _ H'=>Q .non H',rt:=Q } (start N vs) H):FnOk P w K mg base (CXD P w) (k+1) f fd ps sp :=
 D.fn.okD S len fun cdv A outer s H vs Q E hr h=>by
  obtain⟨t,h1,h2⟩:=hbody cdv A outer s H vs Q E hr h
  exact⟨t,h1.p,h2⟩
section
variable {σ:St}{H:Hp}{D:Ends}{C:Addr}{f:Str}{E:XK}{t:TA}
theorem i_raiseV(h:t σ H fun vs H1=>∃ v,vs=[v]∧∀ dx,H1 dx=none→E (.ref C) (some dx) (upd H1 dx (.xd [(f,v)]))):tRaiseV C f E t D σ H:=h
theorem i_tryX{i:Nat}{tb:XExD→TS}{th:Addr→Addr→TS}(h:tb (fun cls od σ' H'=>cls=.ref C∧∃ dx,od=some dx∧∀ ea,th ea dx (D.un i) (σ'.set i (some (.ref ea))) H') D σ H):tTryX C i tb th D σ H:=h
end
def XQ(K:PySem.W.Frag)(x bn f q:Str)(st:Stmt)(C:Addr):Prop :=
 ∃ fI fd B,Fun K "__init__" q st fI fd∧XBase K B∧PySem.W.nsIn K mainGlobals bn=some (some (.ref B))∧XCls K C fI f∧PySem.W.nsIn K mainGlobals x=some (some (.ref C))
theorem XQ.mk{K:PySem.W.Frag}{x bn f q:Str}{st:Stmt}{C fI B:Addr}{oc:Value}{od:Option Addr}{kV dc pm:Value}{an:Option Addr}{cd ct:Value}{sl:Array (Option Value)}
  (a1:PySem.W.nsIn K mainGlobals x=some (some (.ref C))) (a2:PySem.W.nsIn K mainGlobals bn=some (some (.ref B))) (a3:PySem.W.findIn K (.ref C) "__init__" = some (some (.ref fI)))
  (a4:K.lookup fI=some ⟨oc,od,.func (PySem.W.fnOf "__init__" q (defArgs st) (defBody st) (defScope st) .none kV dc pm an cd ct),sl⟩) (a5:PySem.W.codeIn K cd q=true) (a6:PySem.W.keepIn K (.ref fI)=true)
  (a7:xIn K C fI=true) (a8:PySem.W.findIn K (.ref C) "__setattr__" = some (some (.builtin "object.__setattr__"))) (a9:PySem.W.findIn K (.ref C) f=some none)
  (b1:PySem.W.findIn K (.ref C) "__getattribute__" = some (some (.builtin "BaseException.__getattribute__"))) (b2:PySem.W.findIn K (.ref C) "__getattr__" = some none)
  (b3:(PySem.W.clsIn K C).any (fun cd=>xOver cd.mro && cd.hasDict)=true) (b4:PySem.W.isFn K (.ref fI)=true)
  (b5:PySem.W.specialIn K (.ref B) "__getattribute__" = some (some (.builtin "type.__getattribute__"))) (b6:PySem.W.readsIn K B (.type "type")=true)
  (b7:PySem.W.findCls K (.ref B) (.type "type") "__init__" = some (.val (.builtin "ValueError.__init__"))):XQ K x bn f q st C :=
 ⟨fI,_,B,fun_mk (st:=st) a4 a5 a6,⟨b5,b6,b7⟩,a2,⟨a7,a8,a9,b1,b2,b3,b4⟩,a1⟩
theorem XQ.xt{K:PySem.W.Frag}{h:Heap}{mg:Str→Option Value}{x bn f q:Str}{st:Stmt}{C:Addr}(z:XQ K x bn f q st C)(X:K.In h)(G:h.Ns mainGlobals mg):XT K mg x bn f q st C:=by
 obtain⟨fI,fd,B,F,W,hB,O,hm⟩:=z
 exact⟨fI,fd,B,F,W,PySem.W.mg_of X G hB,O,PySem.W.mg_of X G hm⟩
def rNotInT:R2:=fun x y H Q=>∃(a p:Addr)(ts:List Int)(js:List Nat)(f:Nat→Addr)(g:Nat→List Int),x=.ref a∧y=.ref p∧H a=some (.tup (ts.map V.int))∧H p=some (.lst (js.map fun i=>V.ref (f i)))∧(∀ i∈js,H (f i)=some (.tup ((g i).map V.int)))∧Q (.bl (!js.any fun i=>decide (g i=ts))) H
section
variable {X:Cx}
open Classical in
theorem op_notInT(hu:X.A.units+64 < cLine):OpR X (compareOp .NotIn) rNotInT:=by
 intro pins s σ H x y v u Q I rx ry h
 obtain⟨a,p,ts,js,f,g,rfl,rfl,ha,hp,hf,q⟩:=h
 cases rx
 cases ry
 obtain⟨its,r,pl,hz⟩:=I.list (SqL.of hp)
 have e:js.map (fun i=>V.ref (f i))=(js.map f).map V.ref:=by rw[List.map_map];rfl
 rw[e] at r
 have eu:=vals_refs r
 subst eu
 have eb:∀ i∈js,decide (Dt.tup ((g i).map Dt.int)=Dt.tup (ts.map Dt.int))=decide (g i=ts):=fun i _=>by
  rw[decide_eq_decide]
  exact⟨fun z=>(List.map_inj_right fun x y e=>Dt.int.inj e).mp (Dt.tup.inj z),fun z=>by rw[z]⟩
 let G:Value→Bool:=fun u=>match u with
  | .ref b=>decide (H b=some (.tup (ts.map V.int)))
  | _=>false
 have eG:∀ i∈js,G (.ref (f i))=decide (g i=ts):=fun i hi=>by
  show decide (H (f i)=some (.tup (ts.map V.int)))=_
  rw[hf i hi,decide_eq_decide]
  refine⟨fun z=>?_,fun z=>by rw[z]⟩
  exact (List.map_inj_right fun x y e=>V.int.inj e).mp (HO.tup.inj (Option.some.inj z))
 refine SeqAt.notIn_listAt G pl.isList (fun w hw=>?_) ⟨.bl _,H,I,rfl,?_⟩
 ·have hw:w∈(js.map f).map Value.ref:=by simpa using hw
  rw[List.map_map] at hw
  obtain⟨i,hi,rfl⟩:=List.mem_map.mp hw
  show SeqAt.EqAt _ _ (Value.ref (f i)) _ (G (.ref (f i)))
  rw[eG i hi,← eb i hi]
  have hin:X.A.in1.units=X.A.units+1:=rfl
  exact eq_den I 7 _ _ _ _ _ _ _ (Toy.den_tup (hf i hi) (Toy.ints_dens _)) (Toy.den_tup ha (Toy.ints_dens _)) (cmp_tI _ _) (by omega) rfl rfl
 ·have e2:((js.map f).map Value.ref).toArray.any G=js.any fun i=>decide (g i=ts):=by
   rw[List.any_toArray,List.any_map,List.any_map]
   rw[Bool.eq_iff_iff,List.any_eq_true,List.any_eq_true]
   constructor
   ·rintro ⟨i,hi,h⟩
    exact⟨i,hi,by rw[← eG i hi];exact h⟩
   ·rintro ⟨i,hi,h⟩
    exact⟨i,hi,by show G (.ref (f i))=true;rw[eG i hi];exact h⟩
  rw[e2]
  exact q
end
section
variable {X:Cx}
theorem qe_dget2{o e f:Expr}{td ty tx:TE}{apos cpos:Pos}(hu:X.A.units+1 < cLine)(ho:QE X o td)(he:QE X e ty)(hf:QE X f tx)(m:M2 X o "get" apos e f cpos:=by exact⟨rfl,rfl,rfl,rfl⟩):QE X (.Call (.Attribute o "get" apos) [e,f] [] cpos) (tDGet2 td ty tx):=⟨pe_dget2 hu ho.p he.p hf.p m⟩
theorem dq_nil{pos:Pos}:PPs X pos [] [] []:=pps_nil
theorem dq_cons{pos:Pos}{k v:Expr}{ks:List (Option Expr)}{vs:List Expr}{tk tv:TE}{trs:List (TE×TE)}(hk:QE X k tk)(hv:QE X v tv)(hr:PPs X pos ks vs trs):PPs X pos (some k::ks) (v::vs) ((tk,tv)::trs):=pps_cons hk.p hv.p hr
theorem qe_disp{pos:Pos}{keys:List (Option Expr)}{values:List Expr}{trs:List (TE×TE)}(h:PPs X pos keys values trs)(hall:keys.all (·.isSome)=true:=by rfl)(hl:keys.length=values.length:=by rfl)(h0:keys≠[]:=by exact List.cons_ne_nil _ _)
  (h15:keys.length≤15:=by decide):QE X (.Dict keys values pos) (tDisp trs):=⟨pe_disp h hall hl h0 h15⟩
end
end L2
namespace L2
open PySem PySem.Spec PyProof.Rows
def isN:V→Bool
 | .non=>true
 | _=>false
def rInN:R2:=fun x y H Q=>∃ p xs,x=.non∧y=.ref p∧H p=some (.lst xs)∧(∀ v∈xs,v=.non∨(∃ i,v=.int i)∨(∃ z,v=.str z)∨∃(t:Addr)(js:List Int),v=.ref t∧H t=some (.tup (js.map V.int)))∧Q (.bl (xs.any isN)) H
theorem rel_mem:∀{xs:List V}{us:List Value},Vals xs us→∀ w∈us,∃ v∈xs,RelV v w
 | _,_,.nil,w,h=>by cases h
 | _,_,.cons r t,w,h=>by
  rcases List.mem_cons.mp h with rfl | h
  ·exact⟨_,List.mem_cons_self,r⟩
  ·obtain⟨v,hv,q⟩:=rel_mem t w h
   exact⟨v,List.mem_cons_of_mem _ hv,q⟩
theorem any_isN:∀{xs:List V}{us:List Value},Vals xs us→(∀ v∈xs,∀ w,RelV v w→(w == Value.none)=isN v)→us.any (fun u=>u == Value.none)=xs.any isN
 | _,_,.nil,_=>rfl
 | _,_,.cons r t,h=>by
  rw[List.any_cons,List.any_cons,h _ List.mem_cons_self _ r,any_isN t fun v hv=>h v (List.mem_cons_of_mem _ hv)]
section
variable {X:Cx}
open Classical in
theorem op_inN(hu:X.A.units+64 < cLine):OpR X (compareOp .In) rInN:=by
 intro pins s σ H x y v u Q I rx ry h
 obtain⟨p,xs,rfl,rfl,hp,hf,q⟩:=h
 cases ry
 obtain rfl:v=Value.none:=rx
 obtain⟨its,r,pl,hz⟩:=I.list (SqL.of hp)
 have key:∀ v∈xs,∀ w,RelV v w→(w == Value.none)=isN v:=fun v hv w rw'=>by
  rcases hf v hv with rfl | ⟨i,rfl⟩ | ⟨z,rfl⟩ | ⟨t,js,rfl,ht⟩
  ·obtain rfl:w=Value.none:=rw'
   rfl
  ·obtain⟨k,rfl⟩:=(show ∃ k,w=Value.int i k from rw')
   rfl
  ·obtain⟨k,rfl⟩:=(show ∃ k,w=Value.str z k from rw')
   rfl
  ·obtain rfl:w=Value.ref t:=rw'
   rfl
 refine SeqAt.in_listAt (fun u=>u == Value.none) pl.isList (fun w hw=>?_) ⟨.bl _,H,I,rfl,?_⟩
 ·obtain⟨v,hv,rv⟩:=rel_mem r w (by simpa using hw)
  rw[key v hv w rv]
  have hin:X.A.in1.units=X.A.units+1:=rfl
  have flat:flatV v=true→eqV v .non=isN v→SeqAt.EqAt X.A.in1 s w Value.none (isN v):=fun f e=>by
   have h:=mem_eqAt (A:=X.A.in1) (s:=s) (x:=V.non) (v:=Value.none) rfl rfl (xs:=[v]) (us:=[w]) (.cons rv .nil) (by rw[List.all_cons,f];rfl) w (List.mem_singleton.mpr rfl)
   rw[eqU_of rv f,e] at h
   exact h
  rcases hf v hv with rfl | ⟨i,rfl⟩ | ⟨z,rfl⟩ | ⟨t,js,rfl,ht⟩
  ·exact flat rfl rfl
  ·exact flat rfl rfl
  ·exact flat rfl rfl
  ·have h:=eq_den I 7 _ _ _ _ _ _ X.A.in1 (Toy.den_tup ht (Toy.ints_dens js)) (show Den H .non .non from rfl) trivial (by omega) rv rfl
   rw[decide_eq_false (fun z=>by cases z)] at h
   exact h
 ·rw[show its.toArray.any (fun u=>u == Value.none)=its.any (fun u=>u == Value.none) by simp,any_isN r key]
  exact q
end
end L2
namespace L2
open PySem PySem.Spec PyProof.Rows
def rRepS:R2:=fun x y H Q=>∃ z k,x=.str z∧y=.int k∧0≤k∧k≤1000∧z.length≤1000∧Q (.str (Txt.mul z k)) H
theorem sg_foldl(z:Str):∀(n:Nat)(a:Array Nat),((List.replicate n z.cps).foldl (·++·) a).toList=a.toList++(List.replicate n z.cps.toList).flatten
 | 0,a=>by simp
 | n+1,a=>by
  rw[List.replicate_succ,List.foldl_cons,sg_foldl z n,List.replicate_succ,List.flatten_cons,Array.toList_append,List.append_assoc]
theorem sg_mul(z:Str)(k:Int):sg (Txt.mul z k)=(List.replicate k.toNat (sg z)).flatten:=by
 unfold Txt.mul
 by_cases h1:k < 1
 ·rw[if_pos h1,show k.toNat=0 by omega]
  rfl
 ·rw[if_neg h1]
  by_cases h2:(k == 1 || z.length == 0)=true
  ·rw[if_pos h2]
   rcases Bool.or_eq_true_iff.mp h2 with h | h
   ·rw[show k=1 by simpa using h]
    simp
   ·have e:z.length=0:=by simpa using h
    have e2:sg z=[]:=List.eq_nil_of_length_eq_zero (by rw[sg_len];exact e)
    rw[e2]
    simp
  ·rw[if_neg h2]
   show ((List.replicate k.toNat z.cps).foldl (·++·) #[]).toList=_
   rw[sg_foldl]
   simp[sg]
section
variable {X:Cx}
theorem op_repS:OpR X (binaryOp .Mult) rRepS:=by
 intro pins s σ H x y v u Q I rx ry h
 obtain⟨z,k,rfl,rfl,h0,h1,hz,q⟩:=h
 obtain⟨t,rfl⟩:=rx
 obtain⟨t',rfl⟩:=ry
 have hm:z.length*k.toNat≤1000*1000:=Nat.mul_le_mul hz (by omega)
 refine SB.mul ⟨?_,fun h2 _=>?_,fun _ _=>?_⟩ fun t' tk=>⟨.str _,H,I.tok _,⟨_,rfl⟩,q⟩
 ·rw[decide_eq_false (by omega),decide_eq_false (by omega)];rfl
 ·have:(1000:Int)≤(2 ^ 63 - 1) / k:=by
   rw[Int.le_ediv_iff_mul_le (by omega)]
   omega
  omega
 ·exact decide_eq_false (Nat.not_lt.mpr (Nat.le_trans hm (by decide)))
end
end L2
set_option maxHeartbeats 4000000
namespace Toy
open PySem L2
open PySem.Builtin.Int (intBits)
def top(i:Nat):Stmt:=PySem.Challenge.pw_keelbond_k56_lines_read_or_refused.main.body.getD i (.Pass ⟨0,0,0,0⟩)
abbrev s_is_name:Stmt:=top 6
theorem sc_is_name:FnScope ["text"] ["text"] (defScope s_is_name):=⟨rfl,rfl,rfl,by decide +kernel,rfl,by decide +kernel,by decide +kernel⟩
abbrev s_is_heap:Stmt:=top 8
theorem sc_is_heap:FnScope ["many", "places", "last", "place"] ["many", "places"] (defScope s_is_heap):=⟨rfl,rfl,rfl,by decide +kernel,rfl,by decide +kernel,by decide +kernel⟩
abbrev s_consists_of:Stmt:=top 14
theorem sc_consists_of:FnScope ["word", "signs"] ["word", "signs"] (defScope s_consists_of):=⟨rfl,rfl,rfl,by decide +kernel,rfl,by decide +kernel,by decide +kernel⟩
abbrev s_read_name:Stmt:=top 15
theorem sc_read_name:FnScope ["word"] ["word"] (defScope s_read_name):=⟨rfl,rfl,rfl,by decide +kernel,rfl,by decide +kernel,by decide +kernel⟩
abbrev s_read_number:Stmt:=top 16
theorem sc_read_number:FnScope ["word"] ["word"] (defScope s_read_number):=⟨rfl,rfl,rfl,by decide +kernel,rfl,by decide +kernel,by decide +kernel⟩
abbrev s_read_heap:Stmt:=top 17
theorem sc_read_heap:FnScope ["word", "heap"] ["word"] (defScope s_read_heap):=⟨rfl,rfl,rfl,by decide +kernel,rfl,by decide +kernel,by decide +kernel⟩
abbrev s_read_word:Stmt:=top 18
theorem sc_read_word:FnScope ["kind", "word"] ["kind", "word"] (defScope s_read_word):=⟨rfl,rfl,rfl,by decide +kernel,rfl,by decide +kernel,by decide +kernel⟩
abbrev s_read_line:Stmt:=top 19
theorem sc_read_line:FnScope ["line", "forms", "words", "form"] ["line", "forms"] (defScope s_read_line):=⟨rfl,rfl,rfl,by decide +kernel,rfl,by decide +kernel,by decide +kernel⟩
abbrev s_read_deed:Stmt:=top 20
theorem sc_read_deed:FnScope ["line"] ["line"] (defScope s_read_deed):=⟨rfl,rfl,rfl,by decide +kernel,rfl,by decide +kernel,by decide +kernel⟩
abbrev s__law_bag:Stmt:=top 22
theorem sc__law_bag:FnScope ["_law_script", "_law_salt", "_law_one"] ["_law_script"] (defScope s__law_bag):=⟨rfl,rfl,rfl,by decide +kernel,rfl,by decide +kernel,by decide +kernel⟩
abbrev s__law_pull:Stmt:=top 23
theorem sc__law_pull:FnScope ["_law_bag_here", "_law_many", "_law_seed", "_law_mixed", "_law_drawn"] ["_law_bag_here", "_law_many"] (defScope s__law_pull):=⟨rfl,rfl,rfl,by decide +kernel,rfl,by decide +kernel,by decide +kernel⟩
abbrev s__law_whole:Stmt:=top 24
theorem sc__law_whole:FnScope ["_law_found"] ["_law_found"] (defScope s__law_whole):=⟨rfl,rfl,rfl,by decide +kernel,rfl,by decide +kernel,by decide +kernel⟩
abbrev s__law_heaps:Stmt:=top 25
theorem sc__law_heaps:FnScope ["_law_many", "_law_found", "_law_place"] ["_law_many"] (defScope s__law_heaps):=⟨rfl,rfl,rfl,by decide +kernel,rfl,by decide +kernel,by decide +kernel⟩
abbrev s__law_word:Stmt:=top 26
theorem sc__law_word:FnScope ["_law_bag_here", "_law_size"] ["_law_bag_here", "_law_size"] (defScope s__law_word):=⟨rfl,rfl,rfl,by decide +kernel,rfl,by decide +kernel,by decide +kernel⟩
abbrev s__law_alike:Stmt:=top 27
theorem sc__law_alike:FnScope ["_law_found", "_law_due"] ["_law_found", "_law_due"] (defScope s__law_alike):=⟨rfl,rfl,rfl,by decide +kernel,rfl,by decide +kernel,by decide +kernel⟩
abbrev s__law_any_number:Stmt:=top 28
theorem sc__law_any_number:FnScope ["_law_bag_here", "_law_most"] ["_law_bag_here"] (defScope s__law_any_number):=⟨rfl,rfl,rfl,by decide +kernel,rfl,by decide +kernel,by decide +kernel⟩
abbrev s__law_any_name:Stmt:=top 29
theorem sc__law_any_name:FnScope ["_law_bag_here"] ["_law_bag_here"] (defScope s__law_any_name):=⟨rfl,rfl,rfl,by decide +kernel,rfl,by decide +kernel,by decide +kernel⟩
abbrev s__law_any_heap:Stmt:=top 30
theorem sc__law_any_heap:FnScope ["_law_bag_here", "_law_found"] ["_law_bag_here"] (defScope s__law_any_heap):=⟨rfl,rfl,rfl,by decide +kernel,rfl,by decide +kernel,by decide +kernel⟩
abbrev s__law_any_deed:Stmt:=top 31
theorem sc__law_any_deed:FnScope ["_law_bag_here", "_law_forms", "_law_word_here", "_law_form", "_law_found", "_law_sign"] ["_law_bag_here"] (defScope s__law_any_deed):=⟨rfl,rfl,rfl,by decide +kernel,rfl,by decide +kernel,by decide +kernel⟩
abbrev s__law_thing_text:Stmt:=top 32
theorem sc__law_thing_text:FnScope ["_law_thing"] ["_law_thing"] (defScope s__law_thing_text):=⟨rfl,rfl,rfl,by decide +kernel,rfl,by decide +kernel,by decide +kernel⟩
abbrev s__law_deed_text:Stmt:=top 33
theorem sc__law_deed_text:FnScope ["_law_deed"] ["_law_deed"] (defScope s__law_deed_text):=⟨rfl,rfl,rfl,by decide +kernel,rfl,by decide +kernel,by decide +kernel⟩
abbrev s__law_figures:Stmt:=top 34
theorem sc__law_figures:FnScope ["_law_word_here"] ["_law_word_here"] (defScope s__law_figures):=⟨rfl,rfl,rfl,by decide +kernel,rfl,by decide +kernel,by decide +kernel⟩
abbrev s__law_thing_in:Stmt:=top 35
theorem sc__law_thing_in:FnScope ["_law_sign", "_law_word_here", "_law_heap"] ["_law_sign", "_law_word_here"] (defScope s__law_thing_in):=⟨rfl,rfl,rfl,by decide +kernel,rfl,by decide +kernel,by decide +kernel⟩
abbrev s__law_read:Stmt:=top 36
theorem sc__law_read:FnScope ["_law_line", "_law_forms", "_law_words", "_law_form", "_law_found"] ["_law_line"] (defScope s__law_read):=⟨rfl,rfl,rfl,by decide +kernel,rfl,by decide +kernel,by decide +kernel⟩
abbrev s__law_spoilt:Stmt:=top 37
theorem sc__law_spoilt:FnScope ["_law_bag_here", "_law_line", "_law_signs", "_law_words", "_law_at", "_law_way"] ["_law_bag_here", "_law_line"] (defScope s__law_spoilt):=⟨rfl,rfl,rfl,by decide +kernel,rfl,by decide +kernel,by decide +kernel⟩
abbrev s__law_told:Stmt:=top 38
theorem sc__law_told:FnScope ["_law_line", "_law_found", "_law_at", "e"] ["_law_line"] (defScope s__law_told):=⟨rfl,rfl,rfl,by decide +kernel,rfl,by decide +kernel,by decide +kernel⟩
abbrev s_law:Stmt:=top 39
theorem sc_law:FnScope ["_law_script", "_law_bag_here", "_law_k", "_law_line", "_law_due", "_law_found", "_law_at"] ["_law_script"] (defScope s_law):=⟨rfl,rfl,rfl,by decide +kernel,rfl,by decide +kernel,by decide +kernel⟩
abbrev i_BadText:Stmt:=inClass (top 3) 0
theorem si_BadText:FnScope ["self", "at"] ["self", "at"] (defScope i_BadText):=⟨rfl,rfl,rfl,by decide +kernel,rfl,by decide +kernel,by decide +kernel⟩
theorem ox_BadText{P:Program}{w:World}{K:PySem.W.Frag}{mg:Str→Option Value}{base:Heap}{C:Addr}(T:XT K mg "BadText" "KeelError" "at" "BadText.__init__" i_BadText C):XOk P w K mg base "BadText" "at" C:=by
 obtain⟨fI,fd,B,F,W,hB,O,hm⟩:=T.ex
 refine⟨fI,fd,["self", "at"],O,hm,F.binds fun _ _ _ _ _ _ us hl=>match us,hl with | [_,_],_=>rfl,F.ok si_BadText (fun vs H Q E h=>?_) fun cdv A outer s H vs Q E hr h=>?_⟩
 ·obtain⟨_,_,rfl,_⟩:=h;rfl
 ·obtain⟨a,v,rfl,e,q⟩:=h
  refine⟨_,pss_cons (ps_expr (pe_xinit (pl:=_) W (by rfl) hB (pa_cons (pv 0) (pa_cons pe_str pa_nil)))) (pss_one (ps_xfld (pv 0) (pv 1))),?_⟩
  exact⟨_,rfl,a,C,fI, "at", _,rfl,by show 1≤1000;decide,O,e,_,rfl,_,rfl,a,C,fI,rfl,O,e,fun dx hdx=>q dx hdx fun z=>by rw[z,e] at hdx;cases hdx⟩
def At_DEEDS(pr:Params)(K:PySem.W.Frag)(d:Addr):Prop:=∃ t0 t1 t2 t3 t4 t5 t6 t7 t8 t9:Addr,KDict pr K d [("out", .ref t0),("load", .ref t1),("sail", .ref t2),("hire", .ref t3),("dismiss", .ref t4),("lend", .ref t5),("rescue", .ref t6),("lose", .ref t7),("land", .ref t8),("settle", .ref t9)]∧KTup K t0 [.str "name", .str "number"]∧KTup K t1 [.str "name", .str "number", .str "number", .str "number"]∧KTup K t2 [.str "name", .str "number"]∧KTup K t3 [.str "name", .str "number"]∧KTup K t4 [.str "name", .str "number"]∧KTup K t5 [.str "name", .str "heap", .str "number", .str "number"]∧KTup K t6 [.str "name", .str "heap", .str "number"]∧KTup K t7 [.str "name", .str "number", .str "number"]∧KTup K t8 [.str "name"]∧KTup K t9 [.str "name", .str "number", .str "number"]
structure Txt(pr:Params)(K:PySem.W.Frag)(mg:Str→Option Value)(cx:Str→Addr):Prop where
 n_all:mg "all" = none
 n_len:mg "len" = none
 n_int:mg "int" = none
 n_tuple:mg "tuple" = none
 n_zip:mg "zip" = none
 n_dict:mg "dict" = none
 n_list:mg "list" = none
 n_isinstance:mg "isinstance" = none
 n_bool:mg "bool" = none
 n_range:mg "range" = none
 n_str:mg "str" = none
 x_BadText:XT K mg "BadText" "KeelError" "at" "BadText.__init__" i_BadText (cx "BadText")
 g_LETTERS:∃ t,mg "LETTERS" = some (.str "abcdefghijklmnopqrstuvwxyz" t)
 g_FIGURES:∃ t,mg "FIGURES" = some (.str "0123456789" t)
 g_PLACES:∃ t,mg "PLACES" = some (.str "012345" t)
 g_MOST_FIGURES:∃ t,mg "MOST_FIGURES" = some (.int 13 t)
 g_DEEDS:∃ d,mg "DEEDS" = some (.ref d)∧At_DEEDS pr K d
structure Pt(H:Hp)(p:Addr)(n u:Int)(k l:Nat):Prop where
 at_:H p=some (.tup [.int n,.int u])
 pos:0 < u
 cop:Int.gcd n u=1
 zn:Sz k n
 zu:Sz l u
theorem str_ext{a b:Str}(h:sg a=sg b):a=b:=PyProof.Rows.ext_toList h
theorem sg_of(s:String):sg (Str.ofString s)=s.toList.map Char.toNat:=by
 unfold sg
 exact PyProof.Rows.signs_ofString s
theorem sg_num(m:Nat):sg (dec (m:Int))=(Nat.toDigits 10 m).map Char.toNat:=PySem.W.KIN.signs_num m
theorem dec_neg(m:Nat):dec (-((m+1:Nat):Int))=Str.ofString "-" ++ dec ((m+1:Nat):Int):=by
 apply str_ext
 rw[sg_add,sg_num]
 have e:toString (-((m+1:Nat):Int)) = "-" ++ toString (m+1):=rfl
 unfold dec
 rw[e,sg_of,String.toList_append,List.map_append,sg_of]
 congr 1
 show (Nat.repr (m+1)).toList.map Char.toNat=_
 rw[Nat.toList_repr]
theorem app_em(a:Str):a++Str.ofString "" = a:=by
 apply str_ext
 rw[sg_add,sg_of]
 exact List.append_nil _
theorem sg_dec{m k:Nat}(hk:0 < k)(h:m < 10 ^ k):(sg (dec (m:Int))).length≤k:=by
 rw[sg_len]
 refine PyProof.Rows.toString_length_le (v:=(m:Int)) (by omega) hk ?_
 have:((m:Nat):Int) < ((10 ^ k:Nat):Int):=Int.ofNat_lt.mpr h
 rwa [Int.natCast_pow] at this
theorem dec_len{n:Int}(h:n.natAbs < 2 ^ 200):(dec n).length≤70:=by
 have hb:(2:Nat) ^ 200≤10 ^ 61:=by decide +kernel
 rcases Int.eq_nat_or_neg n with ⟨m,rfl | rfl⟩
 ·rw[← sg_len]
  have:m < 10 ^ 61:=by rw[Int.natAbs_natCast] at h;omega
  exact Nat.le_trans (sg_dec (by decide) this) (by decide)
 ·rw[Int.natAbs_neg,Int.natAbs_natCast] at h
  cases m with
  | zero=>rw[← sg_len];exact Nat.le_trans (sg_dec (m:=0) (k:=1) (by decide) (by decide)) (by decide)
  | succ m =>
   rw[dec_neg,← sg_len,sg_add,List.length_append,sg_of]
   have:=sg_dec (m:=m+1) (k:=61) (by decide) (by omega)
   show 1+_≤70
   omega
def jn(c:Nat):List (List Nat)→List Nat
 | []=>[]
 | [x]=>x
 | x::y::r=>x++c::jn c (y::r)
theorem sg_sj(c:Nat):∀ ps:List Str,sg (Str.join ⟨#[c]⟩ ps)=jn c (ps.map sg)
 | []=>rfl
 | [x]=>rfl
 | x::y::r=>by
  have e:Str.join ⟨#[c]⟩ (x::y::r)=x++⟨#[c]⟩++Str.join ⟨#[c]⟩ (y::r):=rfl
  rw[e,sg_add,sg_add,sg_sj c (y::r),List.append_assoc]
  rfl
theorem split_ne(x:Str)(c:Nat):Txt.split x ⟨#[c]⟩≠[]:=by
 unfold Txt.split
 split
 ·simp
 ·split
  ·simp
  ·intro z
   have:=congrArg List.length z
   rw[PySem.length_partsBetween] at this
   cases this
theorem txt_join(s:Str)(ws:List Str):Txt.join s ws=Str.join s ws:=StrLaws.glued_eq_join s ws
def kwS(j:Nat):Str:=Str.ofString (["out", "load", "sail", "hire", "dismiss", "lend", "rescue", "lose", "land", "settle"].getD j "")
def fmK(j:Nat):List Nat:=[[0,2],[0,2,2,2],[0,2],[0,2],[0,2],[0,1,2,2],[0,1,2],[0,2,2],[0],[0,2,2]].getD j []
def kdS(k:Nat):Str:=Str.ofString (["name", "heap", "number"].getD k "")
def hpT(js:List Int):Str:=Txt.join (Str.ofString "") (js.map dec)
def txD:Dt→Str
 | .int n=>dec n
 | .str z=>z
 | .tup ds=>Txt.join (Str.ofString "") (ds.map fun d=>match d with | .int j=>dec j | _=>Str.ofString "")
 | _=>Str.ofString ""
theorem txD_hp(js:List Int):txD (.tup (js.map Dt.int))=hpT js:=by
 show Txt.join _ (List.map _ (List.map Dt.int js))=Txt.join _ _
 rw[List.map_map]
 rfl
inductive okW:Nat→Dt→Prop
 | nm (z:Str):nameB z=true→okW 0 (.str z)
 | hp (i:Nat):0 < i→i < 64→okW 1 (.tup ((Srt.sub i).map Dt.int))
 | nu (n:Nat):n < 10 ^ 13→okW 2 (.int n)
inductive okX:Dt→Prop
 | str (z:Str):z.length≤70→okX (.str z)
 | hp (js:List Int):js.length≤6→(∀ x∈js,0≤x∧x < 10)→okX (.tup (js.map Dt.int))
 | int (n:Int):n.natAbs < 2 ^ 200→okX (.int n)
theorem sub_ok:∀ i,i < 64→(Srt.sub i).length≤6∧∀ x∈Srt.sub i,0≤x∧x < 6:=by decide +kernel
theorem name_len{z:Str}(h:nameB z=true):1≤z.length∧z.length≤8∧∀ c∈sg z,lowC c=true:=by
 unfold nameB at h
 simp only[Bool.and_eq_true,decide_eq_true_eq] at h
 exact⟨h.1,h.2.1,fun c hc=>List.all_eq_true.mp h.2.2 c hc⟩
theorem okW.x{k:Nat}{d:Dt}(h:okW k d):okX d:=by
 cases h with
 | nm z hz=>exact .str z (by have:=(name_len hz).2.1;omega)
 | hp i h0 h1=>exact .hp _ (sub_ok i h1).1 fun x hx=>by have:=(sub_ok i h1).2 x hx;omega
 | nu n hn=>exact .int _ (by rw[Int.natAbs_natCast];exact Nat.lt_of_lt_of_le hn (by decide +kernel))
theorem dg_all(m:Nat):∀ c∈sg (dec (m:Int)),48≤c∧c≤57:=by
 intro c hc
 rw[sg_num] at hc
 obtain⟨ch,hch,rfl⟩:=List.mem_map.mp hc
 exact PyProof.Rows.digit_range (Nat.isDigit_of_mem_toDigits (by decide) (by decide) hch)
def FIG:Str:=⟨#[48,49,50,51,52,53,54,55,56,57]⟩
def PLA:Str:=⟨#[48,49,50,51,52,53]⟩
theorem fig_eq:Str.ofString "0123456789" = FIG:=by decide +kernel
theorem pla_eq:Str.ofString "012345" = PLA:=by decide +kernel
theorem fig_in:∀ c,48≤c→c≤57→c∈sg FIG:=by
 have:∀ c,c < 58→48≤c→c∈sg FIG:=by decide +kernel
 exact fun c h1 h2=>this c (by omega) h1
theorem int_one:∀ j,j < 6→intText? ⟨#[48+j]⟩=some (j:Int):=by decide +kernel
theorem hp_sg:∀ i,i < 64→sg (hpT (Srt.sub i))=(Srt.sub i).map fun x=>48+x.toNat:=by decide +kernel
theorem kw_ok:∀ j,j < 10→(kwS j).length≤7∧32∉sg (kwS j)∧(∀ c∈sg (kwS j),c < 128):=by decide +kernel
theorem blank_eq:Str.ofString " " = (⟨#[32]⟩:Str):=by decide +kernel
theorem dens_ints{H:Hp}:∀{js:List Int}{xs:List V},Dens H (js.map Dt.int) xs→xs=js.map V.int
 | [],xs,h=>h
 | j::js,xs,h=>by
  obtain⟨y,ys,rfl,h1,h2⟩:=h
  rw[show y=.int j from h1,dens_ints h2]
  rfl
theorem ty_tup{H:Hp}{t:Addr}{xs:List V}(h:H t=some (.tup xs)):tyNm (.ref t) H=some "tuple" := by
 unfold tyNm
 simp only[h]
theorem okX.len{d:Dt}(h:okX d):(txD d).length≤420:=by
 cases h with
 | str z hz=>exact Nat.le_trans hz (by decide)
 | int n hn=>exact Nat.le_trans (dec_len hn) (by decide)
 | hp js hj hb =>
  rw[txD_hp]
  unfold hpT
  rw[txt_join,← sg_len]
  have:∀ l:List Int,(∀ x∈l,0≤x∧x < 10)→(sg (Str.join (Str.ofString "") (l.map dec))).length≤70*l.length:=by
   intro l
   induction l with
   | nil=>intro _;exact Nat.le_refl _
   | cons a l ih =>
    intro h
    have h1:=ih fun x hx=>h x (List.mem_cons_of_mem _ hx)
    have h2:=h a List.mem_cons_self
    have h3:=dec_len (n:=a) (Nat.lt_of_lt_of_le (by omega:a.natAbs < 10) (by decide +kernel))
    cases l with
    | nil =>
     show (sg (dec a)).length≤70
     rw[sg_len]
     exact h3
    | cons b l =>
     have e:Str.join (Str.ofString "") ((a::b::l).map dec)=dec a++Str.ofString "" ++ Str.join (Str.ofString "") ((b::l).map dec):=rfl
     rw[e,app_em,sg_add,List.length_append,sg_len (dec a)]
     rw[List.length_cons]
     omega
  have:=this js hb
  omega
theorem tx_sum:∀ ds:List Dt,(∀ d∈ds,okX d)→((ds.map txD).map (·.length)).sum≤420*ds.length
 | [],_=>Nat.le_refl _
 | d::ds,h=>by
  have h1:=tx_sum ds fun x hx=>h x (List.mem_cons_of_mem _ hx)
  have h2:=(h d List.mem_cons_self).len
  rw[List.map_cons,List.map_cons,List.sum_cons,List.length_cons]
  omega
theorem pla_in:∀ j,j < 6→48+j∈sg PLA:=by decide +kernel
theorem hp_true:∀ i,i < 64→hp 6 (-1) (Srt.sub i)=true:=by decide +kernel
theorem fm_len:∀ j,j < 10→(fmK j).length≤4:=by decide
theorem rgt{F:Nat→Dt→Prop}:∀{l:List Nat}{ds:List Dt},Paired F l ds→∀ d∈ds,∃ k,F k d
 | _,_,.nil,d,h=>by cases h
 | _,_,.cons r t,d,h=>by
  rcases List.mem_cons.mp h with rfl | h
  ·exact⟨_,r⟩
  ·exact rgt t d h
theorem okW.len{k:Nat}{d:Dt}(h:okW k d):(txD d).length≤13:=by
 cases h with
 | nm z hz =>
  have:=(name_len hz).2.1
  exact Nat.le_trans this (by decide)
 | hp i h0 h1 =>
  rw[txD_hp,← sg_len,hp_sg i h1,List.length_map]
  exact Nat.le_trans (sub_ok i h1).1 (by decide)
 | nu n hn =>
  show (dec (n:Int)).length≤13
  rw[← sg_len]
  exact sg_dec (by decide) hn
theorem jn_len(c:Nat):∀ ps:List (List Nat),(∀ p∈ps,p.length≤13)→(jn c ps).length≤14*ps.length
 | [],_=>Nat.le_refl _
 | [x],h=>Nat.le_trans (h x List.mem_cons_self) (show 13≤14 by decide)
 | x::y::r,h=>by
  have h1:=jn_len c (y::r) fun p hp=>h p (List.mem_cons_of_mem _ hp)
  have h2:=h x List.mem_cons_self
  show (x++c::jn c (y::r)).length≤_
  rw[List.length_append,List.length_cons,List.length_cons]
  omega
theorem i_tSl{r:V→Option Int→Option Int→Hp→VK→Prop}{te:TE}{tl th:TO}{σ:St}{H:Hp}{Q:VK}(h:te σ H fun x H1=>tl σ H1 fun l H2=>th σ H2 fun u H3=>r x l u H3 Q):tSl r te tl th σ H Q:=h
theorem cut_hd{xs:List V}{n:Nat}:cutV xs none (some (n:Int))=xs.take n:=by
 unfold cutV
 rw[HT.sIx_none,HT.sIx_nat,List.drop_zero,Nat.sub_zero]
 exact List.take_eq_take_min.symm
theorem cut_tl{xs:List V}{n:Nat}:cutV xs (some (n:Int)) none=xs.drop n:=by
 unfold cutV
 rw[HT.sIx_none,HT.sIx_nat]
 by_cases h:n≤xs.length
 ·rw[Nat.min_eq_left h]
  exact List.take_of_length_le (by rw[List.length_drop];exact Nat.le_refl _)
 ·rw[Nat.min_eq_right (by omega),List.drop_eq_nil_of_le (Nat.le_refl _),List.drop_eq_nil_of_le (by omega),List.take_nil]
theorem Dens.snoc{H:Hp}:∀{ds:List Dt}{xs:List V}{d:Dt}{v:V},Dens H ds xs→Den H d v→Dens H (ds++[d]) (xs++[v])
 | [],xs,d,v,h,hv=>by
  have h:xs=[]:=h
  subst h
  exact dens1 hv dens0
 | e::ds,xs,d,v,h,hv=>by
  obtain⟨y,ys,rfl,h1,h2⟩:=h
  exact dens1 h1 (Dens.snoc h2 hv)
theorem okW.ts{H H':Hp}{k:Nat}{d:Dt}{v:V}(h:okW k d)(hv:Den H d v)(s:TS H H'):Den H' d v:=by
 cases h with
 | nm z hz=>exact hv
 | nu n hn=>exact hv
 | hp i h0 h1 =>
  obtain⟨t,xs,rfl,ht,hD⟩:=hv
  rw[dens_ints hD] at ht
  exact⟨t,_,rfl,s _ _ ht,ints_dens _⟩
theorem dens_ts{H H':Hp}(s:TS H H'):∀{ds:List Dt}{xs:List V},(∀ d∈ds,∃ k,okW k d)→Dens H ds xs→Dens H' ds xs
 | [],xs,_,h=>h
 | d::ds,xs,ok,h=>by
  obtain⟨y,ys,rfl,h1,h2⟩:=h
  obtain⟨k,o⟩:=ok d List.mem_cons_self
  exact dens1 (o.ts h1 s) (dens_ts s (fun e he=>ok e (List.mem_cons_of_mem _ he)) h2)
theorem fr_put{B l:Addr}{H H2:Hp}{o:HO}(hl:H l=none)(f:Fr1 B H H2):Fr1 B H (upd H2 l o):=fun b u nb hb=>by
 rw[upd_ne (fun z=>by rw[z,hl] at hb;cases hb)]
 exact f b u nb hb
theorem atI_let:∀ d:Nat,d < 26→atI LET.cps.toList (d:Int)=some (97+d):=by decide +kernel
theorem let_len:LET.length≤1000:=by decide +kernel
theorem em_eq:Str.ofString "" = (⟨#[]⟩:Str):=by decide +kernel
def fmS(j:Nat):Str:=Str.ofString (["nk", "nkkk", "nk", "nk", "nk", "nhkk", "nhk", "nkk", "n", "nkk"].getD j "")
def chK(k:Nat):Nat:=[110,104,107].getD k 0
theorem fm_sg:∀ j,j < 10→sg (fmS j)=(fmK j).map chK∧(∀ c∈sg (fmS j),c < 128)∧∀ k∈fmK j,k < 3:=by decide +kernel
theorem pair_snoc{F:Nat→Dt→Prop}:∀{l:List Nat}{ds:List Dt}{k:Nat}{d:Dt},Paired F l ds→F k d→Paired F (l++[k]) (ds++[d])
 | _,_,_,_,.nil,h=>.cons h .nil
 | _,_,_,_,.cons r t,h=>.cons r (pair_snoc t h)
inductive AlD:Nat→Dt→Prop
 | int (n:Nat) (i:Int):AlD (n+1) (.int i)
 | str (n:Nat) (z:Str):AlD (n+1) (.str z)
 | tup (n:Nat) (l:List Dt):l.length≤1000→(∀ d∈l,AlD n d)→AlD (n+1) (.tup l)
def XW(H:Hp)(E:Option Addr→Hp→Prop):Prop:=∀ dx H',Same H H'→H' dx=some (.xd [(Str.ofString "at", .int 0)])→E (some dx) H'
def consB(z g:Str):Bool:=decide (0 < z.length) && (sg z).all fun c=>decide (c∈sg g)
def numB(z:Str):Option Int:=if consB z FIG=true∧z.length≤13∧((sg z).head?=some 48→z=Str.ofString "0") then intText? z else none
theorem fig_mem:∀ c,c∈sg FIG→48≤c∧c≤57:=by
 intro c hc
 have:∀ c∈sg FIG,48≤c∧c≤57:=by decide +kernel
 exact this c hc
theorem cons_all{z g:Str}(h:consB z g=true):sg z≠[]∧∀ c∈sg z,c∈sg g:=by
 unfold consB at h
 simp only[Bool.and_eq_true,decide_eq_true_eq,List.all_eq_true] at h
 exact⟨fun e=>by
  have:=h.1
  rw[← sg_len,e] at this
  exact absurd this (by decide),h.2⟩
theorem fig_int{z:Str}(h:consB z FIG=true)(hl:z.length≤640):∃ n:Nat,intText? z=some (n:Int):=by
 obtain⟨h0,h1⟩:=cons_all h
 exact⟨_,intText_digits (x:=z) (fun c hc=>fig_mem c (h1 c hc)) h0 (Nat.le_trans hl (by decide))⟩
def jsS(z:Str):List Int:=(sg z).map fun (c:Nat)=>(c:Int) - 48
def heapB(z:Str):Option (List Int):=if consB z PLA=true∧hp 6 (-1) (jsS z)=true then some (jsS z) else none
theorem pla_mem:∀ c,c∈sg PLA→48≤c∧c < 54:=by
 intro c hc
 have:∀ c∈sg PLA,48≤c∧c < 54:=by decide +kernel
 exact this c hc
theorem one_int{c:Nat}(h0:48≤c)(h1:c < 54):intText? ⟨#[c]⟩=some ((c:Int) - 48):=by
 have:=int_one (c - 48) (by omega)
 rw[show 48+(c - 48)=c by omega] at this
 rw[this]
 congr 1
 omega
def rdK(k:Nat)(z:Str):Option Dt:=if k=0 then (if nameB z=true then some (.str z) else none) else if k=1 then (heapB z).map fun js=>.tup (js.map Dt.int) else (numB z).map Dt.int
theorem XW.mono{H H1:Hp}{E:Option Addr→Hp→Prop}(h:XW H E)(s:Same H H1):XW H1 E:=fun dx H' s1 e=>h dx H' (s.trans s1) e
def fmOf(w:Str):Option (List Nat):=((List.range 10).find? fun j=>decide (kwS j=w)).map fmK
def rdAll:List Nat→List Str→Option (List Dt)
 | [],[]=>some []
 | k::ks,z::zs=>(rdK k z).bind fun d=>(rdAll ks zs).map (d::·)
 | _,_=>none
def rdL:List Str→Option (List Dt)
 | []=>none
 | w::r=>(fmOf w).bind fun ks=>(rdAll ks r).map (.str w::·)
theorem rdAll_len:∀{ks:List Nat}{zs:List Str}{ds:List Dt},rdAll ks zs=some ds→ks.length=zs.length∧ds.length=zs.length
 | [],[],ds,h=>by cases h;exact⟨rfl,rfl⟩
 | k::ks,z::zs,ds,h=>by
  obtain⟨d,h1,h2⟩:=Option.bind_eq_some_iff.mp h
  obtain⟨es,h3,rfl⟩:=Option.map_eq_some_iff.mp h2
  have:=rdAll_len h3
  exact⟨by rw[List.length_cons,List.length_cons,this.1],by rw[List.length_cons,List.length_cons,this.2]⟩
 | [],_::_,_,h=>by cases h
 | _::_,[],_,h=>by cases h
theorem rdAll_none:∀{ks:List Nat}{zs:List Str}{i:Nat}(h1:i < ks.length)(h2:i < zs.length),rdK ks[i] zs[i]=none→rdAll ks zs=none
 | k::ks,z::zs,0,_,_,h=>by
  show (rdK k z).bind _=none
  rw[show rdK k z=none from h];rfl
 | k::ks,z::zs,i+1,h1,h2,h=>by
  show (rdK k z).bind _=none
  rw[rdAll_none (ks:=ks) (zs:=zs) (i:=i) (Nat.lt_of_succ_lt_succ h1) (Nat.lt_of_succ_lt_succ h2) h]
  cases rdK k z<;>rfl
theorem rdAll_snoc:∀{ks:List Nat}{zs:List Str}{ds:List Dt}{k:Nat}{z:Str}{d:Dt},rdAll ks zs=some ds→rdK k z=some d→rdAll (ks++[k]) (zs++[z])=some (ds++[d])
 | [],[],ds,k,z,d,h,hd=>by
  cases h
  show (rdK k z).bind _=_
  rw[hd];rfl
 | k'::ks,z'::zs,ds,k,z,d,h,hd=>by
  obtain⟨d',h1,h2⟩:=Option.bind_eq_some_iff.mp h
  obtain⟨es,h3,rfl⟩:=Option.map_eq_some_iff.mp h2
  show (rdK k' z').bind _=_
  rw[h1]
  show (rdAll (ks++[k]) (zs++[z])).map _=_
  rw[rdAll_snoc h3 hd];rfl
 | [],_::_,_,_,_,_,h,_=>by cases h
 | _::_,[],_,_,_,_,h,_=>by cases h
inductive okF:Dt→Prop
 | str (z:Str):okF (.str z)
 | hp (js:List Int):okF (.tup (js.map Dt.int))
 | int (n:Int):okF (.int n)
theorem okF.ts{H H':Hp}{d:Dt}{v:V}(h:okF d)(hv:Den H d v)(s:TS H H'):Den H' d v:=by
 cases h with
 | str z=>exact hv
 | int n=>exact hv
 | hp js =>
  obtain⟨t,xs,rfl,ht,hD⟩:=hv
  rw[dens_ints hD] at ht
  exact⟨t,_,rfl,s _ _ ht,ints_dens _⟩
theorem densF_ts{H H':Hp}(s:TS H H'):∀{ds:List Dt}{xs:List V},(∀ d∈ds,okF d)→Dens H ds xs→Dens H' ds xs
 | [],xs,_,h=>h
 | d::ds,xs,ok,h=>by
  obtain⟨y,ys,rfl,h1,h2⟩:=h
  exact dens1 ((ok d List.mem_cons_self).ts h1 s) (densF_ts s (fun e he=>ok e (List.mem_cons_of_mem _ he)) h2)
theorem rdK_F{k:Nat}{z:Str}{d:Dt}(h:rdK k z=some d):okF d:=by
 unfold rdK at h
 split at h
 ·split at h
  ·cases h;exact .str _
  ·cases h
 ·split at h
  ·obtain⟨js,_,rfl⟩:=Option.map_eq_some_iff.mp h;exact .hp js
  ·obtain⟨n,_,rfl⟩:=Option.map_eq_some_iff.mp h;exact .int n
theorem rdAll_F:∀{ks:List Nat}{zs:List Str}{ds:List Dt},rdAll ks zs=some ds→∀ d∈ds,okF d
 | [],[],ds,h,d,hd=>by cases h;cases hd
 | k::ks,z::zs,ds,h,d,hd=>by
  obtain⟨d',h1,h2⟩:=Option.bind_eq_some_iff.mp h
  obtain⟨es,h3,rfl⟩:=Option.map_eq_some_iff.mp h2
  rcases List.mem_cons.mp hd with rfl | hd
  ·exact rdK_F h1
  ·exact rdAll_F h3 d hd
 | [],_::_,_,h,_,_=>by cases h
 | _::_,[],_,h,_,_=>by cases h
theorem jn_part{c:Nat}:∀ {ps:List (List Nat)} {p:List Nat},p∈ps→p.length≤(jn c ps).length∧∀ x∈p,x∈jn c ps
 | [x],p,h=>by
  rw[List.mem_singleton.mp h]
  exact⟨Nat.le_refl _,fun _ z=>z⟩
 | x::y::r,p,h=>by
  show p.length≤(x++c::jn c (y::r)).length∧∀ a∈p,a∈x++c::jn c (y::r)
  rw[List.length_append,List.length_cons]
  rcases List.mem_cons.mp h with rfl | h
  ·exact⟨by omega,fun a z=>List.mem_append_left _ z⟩
  ·have:=jn_part (c:=c) h
   exact⟨by omega,fun a z=>List.mem_append_right _ (List.mem_cons_of_mem _ (this.2 a z))⟩
theorem split_part{line w:Str}(h:w∈Txt.split line (Str.ofString " ")):w.length≤line.length∧∀ c∈sg w,c∈sg line:=by
 rw[blank_eq] at h
 have e:=congrArg sg (StrLaws.join_split line ⟨#[32]⟩)
 rw[sg_sj] at e
 have:=jn_part (c:=32) (List.mem_map.mpr ⟨w,h,rfl⟩:sg w∈(Txt.split line ⟨#[32]⟩).map sg)
 rw[e,sg_len,sg_len] at this
 exact this
theorem valV_kvN{z:Str}:∀ {D:List (Str×V)},D.lookup z=none→valV (D.map kvS) (Sum.inr z)=none
 | [],_=>rfl
 | p::D,h=>by
  rw[List.lookup_cons] at h
  by_cases e:z=p.1
  ·rw[show (z == p.1)=true by rw[e];exact beq_self_eq_true _] at h
   cases h
  ·rw[show (z == p.1)=false from beq_eq_false_iff_ne.mpr e] at h
   rw[List.map_cons,valV_neg (fun q:(kvS p).1=Sum.inr z=>e (Sum.inr.inj q).symm)]
   exact valV_kvN h
theorem fmOf_none{w:Str}(h:∀ j,j < 10→kwS j≠w):fmOf w=none:=by
 unfold fmOf
 rw[List.find?_eq_none.mpr fun j hj=>?_]
 ·rfl
 ·have:=h j (List.mem_range.mp hj)
  simp[this]
def chS(k:Nat):Str:=⟨#[chK k]⟩
theorem ch0:chS 0=Str.ofString "n" := by decide +kernel
theorem ch2:chS 2=Str.ofString "k" := by decide +kernel
theorem pla_fig:∀ c,c∈sg PLA→c∈sg FIG:=fun c h=>fig_in c (pla_mem c h).1 (by have:=(pla_mem c h).2;omega)
theorem cons_fig{z:Str}(h:consB z PLA=true):consB z FIG=true:=by
 unfold consB at h ⊢
 simp only[Bool.and_eq_true,decide_eq_true_eq,List.all_eq_true] at h ⊢
 exact⟨h.1,fun c hc=>pla_fig c (h.2 c hc)⟩
theorem rdK_nofig{k:Nat}{z:Str}(k0:k≠0)(h:consB z FIG=false):rdK k z=none:=by
 unfold rdK
 rw[if_neg k0]
 split
 ·rw[show heapB z=none from if_neg fun q=>by rw[cons_fig q.1] at h;cases h];rfl
 ·rw[show numB z=none from if_neg fun q=>by rw[q.1] at h;cases h];rfl
def incs:Nat→Int→List (List Int)
 | 0,_=>[[]]
 | n+1,l=>[]::([0,1,2,3,4,5]:List Int).flatMap fun a=>if l < a then (incs n a).map (a::·) else []
theorem hp_incs:∀(n:Nat)(l:Int)(js:List Int),-1≤l→5 - l≤n→hp 6 l js=true→js∈incs n l
 | n,l,[],_,_,_=>by cases n<;>exact List.mem_cons_self
 | n,l,a::js,h0,h1,h=>by
  have hh:(l < a∧a < 6)∧hp 6 a js=true:=by
   have:=h
   unfold hp at this
   split at this
   ·cases this
   ·rename_i q
    exact⟨by omega,this⟩
  obtain⟨⟨a1,a2⟩,h⟩:=hh
  cases n with
  | zero=>omega
  | succ n =>
   refine List.mem_cons_of_mem _ (List.mem_flatMap.mpr ⟨a,?_,?_⟩)
   ·have:a=0∨a=1∨a=2∨a=3∨a=4∨a=5:=by omega
    rcases this with rfl | rfl | rfl | rfl | rfl | rfl<;>simp
   ·rw[if_pos a1]
    exact List.mem_map.mpr ⟨js,hp_incs n a js (by omega) (by omega) h,rfl⟩
theorem incs_sub:∀ js∈incs 6 (-1),∃ i∈List.range 64,Srt.sub i=js:=by decide +kernel
theorem hp_sub56{js:List Int}(h:hp 6 (-1) js=true):∃ i,i < 64∧js=Srt.sub i:=by
 obtain⟨i,hi,e⟩:=incs_sub js (hp_incs 6 (-1) js (by omega) (by omega) h)
 exact⟨i,List.mem_range.mp hi,e.symm⟩
theorem fig_one{c:Nat}(h0:48≤c)(h1:c≤57):intText? ⟨#[c]⟩=some ((c:Int) - 48):=by
 have:∀ j,j < 10→intText? ⟨#[48+j]⟩=some (j:Int):=by decide +kernel
 have:=this (c - 48) (by omega)
 rw[show 48+(c - 48)=c by omega] at this
 rw[this]
 congr 1
 omega
theorem heapB_iff{z:Str}(hf:consB z FIG=true):heapB z=if z.length≤6∧((List.range 64).any fun i=>decide (Srt.sub i=jsS z))=true then some (jsS z) else none:=by
 unfold heapB
 have l6:(jsS z).length=z.length:=by unfold jsS;rw[List.length_map,sg_len]
 have key:(consB z PLA=true∧hp 6 (-1) (jsS z)=true)↔(z.length≤6∧((List.range 64).any fun i=>decide (Srt.sub i=jsS z))=true):=by
  constructor
  ·rintro ⟨_,h⟩
   obtain⟨i,hi,e⟩:=hp_sub56 h
   refine⟨?_,List.any_eq_true.mpr ⟨i,List.mem_range.mpr hi,decide_eq_true e.symm⟩⟩
   rw[← l6,e]
   exact (sub_ok i hi).1
  ·rintro ⟨_,h⟩
   obtain⟨i,hi,e⟩:=List.any_eq_true.mp h
   have hi:=List.mem_range.mp hi
   have e:=of_decide_eq_true e
   refine⟨?_,by rw[← e];exact hp_true i hi⟩
   obtain⟨h0,h1⟩:=cons_all hf
   unfold consB
   simp only[Bool.and_eq_true,decide_eq_true_eq,List.all_eq_true]
   refine⟨by rw[← sg_len];exact List.length_pos_iff.mpr h0,fun c hc=>?_⟩
   have b:=fig_mem c (h1 c hc)
   have:((c:Int) - 48)∈Srt.sub i:=by rw[e];exact List.mem_map.mpr ⟨c,hc,rfl⟩
   have:=(sub_ok i hi).2 _ this
   have:=pla_in (c - 48) (by omega)
   rwa [show 48+(c - 48)=c by omega] at this
 by_cases h:consB z PLA=true∧hp 6 (-1) (jsS z)=true
 ·rw[if_pos h,if_pos (key.mp h)]
 ·rw[if_neg h,if_neg fun q=>h (key.mpr q)]
theorem slice9{z:Str}(h:z.length≤9):Txt.slice z none (some 9)=z:=by
 have:∀ n,n < 10→(Builtin.Str.strSliceIndices none (some 9) 1 n).length=n:=by decide +kernel
 unfold Txt.slice
 exact if_pos (by rw[this z.length (by omega)];simp)
theorem subs_fn{H:Hp}{xs:List V}{n:Nat}(h:SubsAt H xs n):∃ f:Nat→Addr,xs=(List.range n).map (fun i=>V.ref (f i))∧∀ i∈List.range n,H (f i)=some (.tup ((Srt.sub i).map V.int)):=by
 have h2:∀ i,∃ t:Addr,i < n→xs[i]?=some (.ref t)∧H t=some (.tup ((Srt.sub i).map V.int)):=fun i=>by
  by_cases hi:i < n
  ·obtain⟨t,e1,e2⟩:=h.2 i hi
   exact⟨t,fun _=>⟨e1,e2⟩⟩
  ·exact⟨0,fun z=>absurd z hi⟩
 refine⟨fun i=>Classical.choose (h2 i),List.ext_getElem? fun i=>?_,fun i hi=>(Classical.choose_spec (h2 i) (List.mem_range.mp hi)).2⟩
 by_cases hi:i < n
 ·rw[(Classical.choose_spec (h2 i) hi).1,List.getElem?_map,List.getElem?_range hi]
  rfl
 ·rw[List.getElem?_eq_none (by rw[h.1];omega),List.getElem?_eq_none (by rw[List.length_map,List.length_range];omega)]
def fmD:List (Str×V):=[(Str.ofString "out", V.str (Str.ofString "nk")),(Str.ofString "load", V.str (Str.ofString "nkkk")),(Str.ofString "sail", V.str (Str.ofString "nk")),(Str.ofString "hire", V.str (Str.ofString "nk")),(Str.ofString "dismiss", V.str (Str.ofString "nk")),(Str.ofString "lend", V.str (Str.ofString "nhkk")),(Str.ofString "rescue", V.str (Str.ofString "nhk")),(Str.ofString "lose", V.str (Str.ofString "nkk")),(Str.ofString "land", V.str (Str.ofString "n")),(Str.ofString "settle", V.str (Str.ofString "nkk"))]
theorem fmD_some:∀ j,j < 10→fmOf (kwS j)=some (fmK j)∧(fmS j).length=(fmK j).length∧fmS j≠Str.ofString "" := by decide +kernel
theorem fmD_lk{j:Nat}(hj:j < 10):fmD.lookup (kwS j)=some (.str (fmS j)):=by
 have:j=0∨j=1∨j=2∨j=3∨j=4∨j=5∨j=6∨j=7∨j=8∨j=9:=by omega
 rcases this with rfl | rfl | rfl | rfl | rfl | rfl | rfl | rfl | rfl | rfl<;>rfl
theorem fmD_no{w:Str}(hw:∀ j,j < 10→kwS j≠w):fmD.lookup w=none:=by
 have h:=fun j hj=>beq_eq_false_iff_ne.mpr (Ne.symm (hw j hj))
 have h0:=h 0 (by decide);have h1:=h 1 (by decide);have h2:=h 2 (by decide);have h3:=h 3 (by decide);have h4:=h 4 (by decide)
 have h5:=h 5 (by decide);have h6:=h 6 (by decide);have h7:=h 7 (by decide);have h8:=h 8 (by decide);have h9:=h 9 (by decide)
 unfold fmD
 simp only[List.lookup_cons,show (w == Str.ofString "out")=false from h0,show (w == Str.ofString "load")=false from h1,show (w == Str.ofString "sail")=false from h2,show (w == Str.ofString "hire")=false from h3,show (w == Str.ofString "dismiss")=false from h4,show (w == Str.ofString "lend")=false from h5,show (w == Str.ofString "rescue")=false from h6,show (w == Str.ofString "lose")=false from h7,show (w == Str.ofString "land")=false from h8,show (w == Str.ofString "settle")=false from h9]
 rfl
def RV(H:Hp):Option Dt→V→Prop
 | some d,v=>Den H d v∧okF d
 | none,v=>v=.non
def RVs(H:Hp):List (Option Dt)→List V→Prop
 | [],xs=>xs=[]
 | o::os,xs=>∃ y ys,xs=y::ys∧RV H o y∧RVs H os ys
theorem RV.ts{H H':Hp}(s:TS H H'):∀{o:Option Dt}{v:V},RV H o v→RV H' o v
 | some _,_,h=>⟨h.2.ts h.1 s,h.2⟩
 | none,_,h=>h
theorem RV.same{H H':Hp}(s:Same H H'):∀{o:Option Dt}{v:V},RV H o v→RV H' o v
 | some _,_,h=>⟨Den.same s h.1,h.2⟩
 | none,_,h=>h
theorem RVs.imp{H H':Hp}(k:∀ o v,RV H o v→RV H' o v):∀ {os:List (Option Dt)} {xs:List V},RVs H os xs→RVs H' os xs
 | [],_,h=>h
 | _::_,_,⟨y,ys,e,h1,h2⟩=>⟨y,ys,e,k _ _ h1,RVs.imp k h2⟩
theorem RVs.snoc{H:Hp}:∀ {os:List (Option Dt)} {xs:List V} {o:Option Dt} {v:V},RVs H os xs→RV H o v→RVs H (os++[o]) (xs++[v])
 | [],xs,o,v,h,hv=>by
  have h:xs=[]:=h
  subst h
  exact⟨v,[],rfl,hv,rfl⟩
 | _::_,_,_,_,⟨y,ys,e,h1,h2⟩,hv=>⟨y,ys++[_],by rw[e];rfl,h1,RVs.snoc h2 hv⟩
theorem RVs.length{H:Hp}:∀ {os:List (Option Dt)} {xs:List V},RVs H os xs→xs.length=os.length
 | [],xs,h=>by rw[show xs=[] from h];rfl
 | _::_,_,⟨y,ys,e,_,h2⟩=>by rw[e,List.length_cons,List.length_cons,RVs.length h2]
theorem isN_F{H:Hp}{d:Dt}{v:V}(h:okF d)(hv:Den H d v):isN v=false:=by
 cases h with
 | str z=>rw[show v=.str z from hv];rfl
 | int n=>rw[show v=.int n from hv];rfl
 | hp js=>obtain⟨t,xs,rfl,_⟩:=hv;rfl
def opts:List Nat→List Str→List (Option Dt)
 | k::ks,z::zs=>rdK k z::opts ks zs
 | _,_=>[]
theorem opts_all{H:Hp}:∀{ks:List Nat}{zs:List Str}{xs:List V},ks.length=zs.length→RVs H (opts ks zs) xs→(xs.any isN=(rdAll ks zs).isNone)∧∀ ds,rdAll ks zs=some ds→Dens H ds xs
 | [],[],xs,_,h=>by
  have h:xs=[]:=h
  subst h
  exact⟨rfl,fun ds e=>by cases e;rfl⟩
 | k::ks,z::zs,xs,hl,h=>by
  obtain⟨y,ys,rfl,h1,h2⟩:=h
  obtain⟨a1,a2⟩:=opts_all (by simpa using hl) h2
  have e:rdAll (k::ks) (z::zs)=(rdK k z).bind fun d=>(rdAll ks zs).map (d::·):=rfl
  rw[e]
  cases hk:rdK k z with
  | none =>
   rw[hk] at h1
   rw[show y=.non from h1]
   exact⟨rfl,fun ds e=>by cases e⟩
  | some d =>
   rw[hk] at h1
   refine⟨?_,fun ds e=>?_⟩
   ·rw[List.any_cons,isN_F h1.2 h1.1,Bool.false_or,a1]
    show (rdAll ks zs).isNone=((rdAll ks zs).map _).isNone
    cases rdAll ks zs<;>rfl
   ·obtain⟨es,h3,rfl⟩:=Option.map_eq_some_iff.mp e
    exact dens1 h1.1 (a2 es h3)
 | [],_::_,_,hl,_=>by simp at hl
 | _::_,[],_,hl,_=>by simp at hl
theorem opts_take:∀{ks:List Nat}{zs:List Str}{i:Nat}(h1:i < ks.length)(h2:i < zs.length),(opts ks zs).take (i+1)=(opts ks zs).take i++[rdK ks[i] zs[i]]
 | k::ks,z::zs,0,_,_=>rfl
 | k::ks,z::zs,i+1,h1,h2=>by
  have h1':i < ks.length:=Nat.lt_of_succ_lt_succ h1
  have h2':i < zs.length:=Nat.lt_of_succ_lt_succ h2
  show rdK k z::(opts ks zs).take (i+1)=rdK k z::((opts ks zs).take i++[rdK ks[i] zs[i]])
  rw[opts_take h1' h2']
theorem opts_len:∀{ks:List Nat}{zs:List Str},ks.length=zs.length→(opts ks zs).length=zs.length
 | [],[],_=>rfl
 | k::ks,z::zs,h=>by
  show (opts ks zs).length+1=zs.length+1
  rw[opts_len (by simpa using h)]
 | [],_::_,h=>by simp at h
 | _::_,[],h=>by simp at h
theorem RV.kind{H:Hp}:∀{o:Option Dt}{v:V},RV H o v→v=.non∨(∃ i,v=.int i)∨(∃ z,v=.str z)∨∃(t:Addr)(js:List Int),v=.ref t∧H t=some (.tup (js.map V.int))
 | none,_,h=>.inl h
 | some d,v,⟨h,o⟩=>by
  cases o with
  | str z=>exact .inr (.inr (.inl ⟨z,h⟩))
  | int n=>exact .inr (.inl ⟨n,h⟩)
  | hp js =>
   obtain⟨t,xs,rfl,ht,hD⟩:=h
   rw[dens_ints hD] at ht
   exact .inr (.inr (.inr ⟨t,js,rfl,ht⟩))
theorem RVs.kinds{H:Hp}:∀ {os:List (Option Dt)} {xs:List V},RVs H os xs→∀ v∈xs,v=.non∨(∃ i,v=.int i)∨(∃ z,v=.str z)∨∃(t:Addr)(js:List Int),v=.ref t∧H t=some (.tup (js.map V.int))
 | [],xs,h,v,hv=>by rw[show xs=[] from h] at hv;cases hv
 | _::_,_,⟨y,ys,e,h1,h2⟩,v,hv=>by
  rw[e] at hv
  rcases List.mem_cons.mp hv with rfl | hv
  ·exact h1.kind
  ·exact RVs.kinds h2 v hv
def mW(ws:List Str):Nat:=(ws.map fun w=>w.length+1).sum
def GW(n:Nat)(ws:List Str):Prop:=mW ws≤n∧∀ w∈ws,∀ c∈sg w,c < 128
theorem mW_app(a b:List Str):mW (a++b)=mW a+mW b:=by unfold mW;rw[List.map_append,List.sum_append_nat]
theorem mW_cons(w:Str)(a:List Str):mW (w::a)=w.length+1+mW a:=by unfold mW;rw[List.map_cons,List.sum_cons]
theorem mW_td(a:Nat)(ws:List Str):mW ws=mW (ws.take a)+mW (ws.drop a):=by rw[← mW_app,List.take_append_drop]
theorem mW_ge:∀ ws:List Str,ws.length≤mW ws
 | []=>Nat.zero_le _
 | w::r=>by have:=mW_ge r;rw[mW_cons,List.length_cons];omega
theorem mW_mem{w:Str}:∀{ws:List Str},w∈ws→w.length+1≤mW ws
 | x::r,h=>by
  rw[mW_cons]
  rcases List.mem_cons.mp h with rfl | h
  ·omega
  ·have:=mW_mem h;omega
theorem GW.mono{n m:Nat}{ws:List Str}(h:GW n ws)(l:n≤m):GW m ws:=⟨Nat.le_trans h.1 l,h.2⟩
theorem GW.len{n:Nat}{ws:List Str}(h:GW n ws):ws.length≤n:=Nat.le_trans (mW_ge ws) h.1
theorem GW.mem{n:Nat}{ws:List Str}(h:GW n ws){w:Str}(hw:w∈ws):w.length+1≤n:=Nat.le_trans (mW_mem hw) h.1
theorem GW.set{n a:Nat}{ws:List Str}{v:Str}(h:GW n ws)(ha:a < ws.length)(hv:∀ c∈sg v,c < 128):GW (n+v.length) (ws.set a v):=by
 refine⟨?_,fun w hw=>?_⟩
 ·have h1:=h.1
  rw[mW_td a,List.drop_eq_getElem_cons ha,mW_cons] at h1
  rw[List.set_eq_take_append_cons_drop,if_pos ha,mW_app,mW_cons]
  omega
 ·rcases List.mem_or_eq_of_mem_set hw with hw | rfl
  ·exact h.2 w hw
  ·exact hv
theorem GW.del{n a:Nat}{ws:List Str}(h:GW n ws):GW n (ws.take a++ws.drop (a+1)):=by
 refine⟨?_,fun w hw=>?_⟩
 ·have h1:=h.1
  rw[mW_td (a+1)] at h1
  have:=mW_td a (ws.take (a+1))
  rw[List.take_take,Nat.min_eq_left (Nat.le_succ a)] at this
  rw[mW_app]
  omega
 ·rcases List.mem_append.mp hw with hw | hw
  ·exact h.2 w (List.mem_of_mem_take hw)
  ·exact h.2 w (List.mem_of_mem_drop hw)
theorem GW.ins{n a:Nat}{ws:List Str}{v:Str}(h:GW n ws)(hv:∀ c∈sg v,c < 128):GW (n+v.length+1) (ws.take a++v::ws.drop a):=by
 refine⟨?_,fun w hw=>?_⟩
 ·have h1:=h.1
  rw[mW_td a] at h1
  rw[mW_app,mW_cons]
  omega
 ·rcases List.mem_append.mp hw with hw | hw
  ·exact h.2 w (List.mem_of_mem_take hw)
  ·rcases List.mem_cons.mp hw with rfl | hw
   ·exact hv
   ·exact h.2 w (List.mem_of_mem_drop hw)
theorem jn_mW:∀ ws:List Str,ws≠[]→(jn 32 (ws.map sg)).length+1=mW ws
 | [],h=>absurd rfl h
 | [x],_=>by
  show (sg x).length+1=_
  rw[sg_len];rfl
 | x::y::r,_=>by
  have:=jn_mW (y::r) (by simp)
  rw[mW_cons]
  show (sg x++32::jn 32 ((y::r).map sg)).length+1=_
  rw[List.length_append,List.length_cons,sg_len]
  omega
theorem jn_mem{c x:Nat}:∀ {ps:List (List Nat)},x∈jn c ps→x=c∨∃ p∈ps,x∈p
 | [],h=>by cases h
 | [p],h=>.inr ⟨p,List.mem_singleton.mpr rfl,h⟩
 | p::q::r,h=>by
  rcases List.mem_append.mp (show x∈p++c::jn c (q::r) from h) with h | h
  ·exact .inr ⟨p,List.mem_cons_self,h⟩
  ·rcases List.mem_cons.mp h with h | h
   ·exact .inl h
   ·rcases jn_mem h with h | ⟨p',h1,h2⟩
    ·exact .inl h
    ·exact .inr ⟨p',List.mem_cons_of_mem _ h1,h2⟩
theorem GW.split{line:Str}(hc:∀ c∈sg line,c < 128):GW (line.length+1) (Txt.split line (Str.ofString " ")):=by
 refine⟨?_,fun w hw c h=>hc c ((split_part hw).2 c h)⟩
 rw[blank_eq,← jn_mW _ (split_ne _ _),← sg_sj,StrLaws.join_split,sg_len]
 exact Nat.le_refl _
theorem sum_mW:∀ ws:List Str,(ws.map (·.length)).sum+ws.length*1=mW ws
 | []=>rfl
 | w::r=>by have:=sum_mW r;rw[mW_cons,List.map_cons,List.sum_cons,List.length_cons];omega
theorem GW.join{n:Nat}{ws:List Str}(h:GW n ws):(Txt.join (Str.ofString " ") ws).length≤n∧∀ c∈sg (Txt.join (Str.ofString " ") ws),c < 128:=by
 have e:Txt.join (Str.ofString " ") ws=Str.join ⟨#[32]⟩ ws:=by rw[txt_join,blank_eq]
 rw[e]
 refine⟨?_,fun c hc=>?_⟩
 ·rw[← sg_len,sg_sj]
  by_cases h0:ws=[]
  ·rw[h0];exact Nat.zero_le _
  ·have:=jn_mW ws h0
   have:=h.1
   omega
 ·rw[sg_sj] at hc
  rcases jn_mem hc with rfl | ⟨p,h1,h2⟩
  ·decide
  ·obtain⟨w,hw,rfl⟩:=List.mem_map.mp h1
   exact h.2 w hw c h2
def SGN:Str:=Str.ofString " !\"#$&'()*+,-./0123456789:;<=>?@ABCDEFGHIJKLMNOPQRSTUVWXYZ[\\]^_`{|}~\n" ++ Str.ofString "abcdefghijklmnopqrstuvwxyz"
theorem sgn_ok:0 < SGN.length∧SGN.length≤200∧∀ c∈sg SGN,c < 128:=by decide +kernel
def spS:List Str:=[Str.ofString "", Str.ofString "-1", Str.ofString "10", Str.ofString "9999999999999", Str.ofString "10000000000000", Str.ofString "out", Str.ofString "012345", Str.ofString "-"]
theorem spS_ok:∀ z∈spS,z.length≤14∧∀ c∈sg z,c < 128:=by decide +kernel
theorem fig_asc:∀ c∈sg FIG,c < 128:=by decide +kernel
theorem sg_at{z:Str}{i:Int}{c:Nat}(h:atI z.cps.toList i=some c):c∈sg z:=by
 obtain⟨j,_,h2⟩:=Option.bind_eq_some_iff.mp h
 exact List.mem_of_getElem? h2
theorem rep_mem{c x k:Nat}(h:x∈(List.replicate k [c]).flatten):x=c:=by
 obtain⟨l,h1,h2⟩:=List.mem_flatten.mp h
 rw[(List.mem_replicate.mp h1).2] at h2
 exact List.mem_singleton.mp h2
theorem rep_len{c:Nat}:∀ k:Nat,((List.replicate k [c]).flatten).length=k
 | 0=>rfl
 | k+1=>by rw[List.replicate_succ,List.flatten_cons,List.length_append,rep_len k,Nat.add_comm];rfl
theorem ixN_nat{n k:Nat}(h:k < n):ixN n (k:Int)=some k:=by
 unfold ixN
 rw[if_pos (Int.natCast_nonneg k),if_pos (by omega)]
 rfl
theorem okW.asc{k:Nat}{d:Dt}(h:okW k d):∀ c∈sg (txD d),c < 128:=by
 intro c hc
 cases h with
 | nm z hz =>
  have:=(name_len hz).2.2 c hc
  unfold lowC at this
  simp only[Bool.and_eq_true,decide_eq_true_eq] at this
  omega
 | hp i h0 h1 =>
  rw[txD_hp,hp_sg i h1] at hc
  obtain⟨x,hx,rfl⟩:=List.mem_map.mp hc
  have:=(sub_ok i h1).2 x hx
  omega
 | nu n hn =>
  have:=dg_all n c hc
  omega
theorem deed_line(j:Nat)(hj:j < 10)(ds:List Dt)(h4:ds.length≤4)(ok:∀ d∈ds,∃ k,okW k d):(Txt.join (Str.ofString " ") ((.str (kwS j)::ds).map txD)).length≤70∧∀ c∈sg (Txt.join (Str.ofString " ") ((.str (kwS j)::ds).map txD)),c < 128:=by
 rw[txt_join,blank_eq,← sg_len,sg_sj]
 refine⟨?_,fun c hc=>?_⟩
 ·have:=jn_len 32 (((.str (kwS j)::ds).map txD).map sg) fun p hp=>by
   obtain⟨w,hw,rfl⟩:=List.mem_map.mp hp
   obtain⟨d,hd,rfl⟩:=List.mem_map.mp hw
   rw[sg_len]
   rcases List.mem_cons.mp hd with rfl | hd
   ·exact Nat.le_trans (kw_ok j hj).1 (by decide)
   ·obtain⟨k,h⟩:=ok d hd
    exact h.len
  rw[List.length_map,List.length_map,List.length_cons] at this
  omega
 ·rcases jn_mem hc with rfl | ⟨p,h1,h2⟩
  ·decide
  ·obtain⟨w,hw,rfl⟩:=List.mem_map.mp h1
   obtain⟨d,hd,rfl⟩:=List.mem_map.mp hw
   rcases List.mem_cons.mp hd with rfl | hd
   ·exact (kw_ok j hj).2.2 c h2
   ·obtain⟨k,h⟩:=ok d hd
    exact h.asc c h2
theorem rdK_al{k:Nat}{z:Str}{d:Dt}(h:rdK k z=some d):AlD 2 d:=by
 unfold rdK at h
 split at h
 ·split at h
  ·cases h;exact .str 1 _
  ·cases h
 ·split at h
  ·obtain⟨js,hj,rfl⟩:=Option.map_eq_some_iff.mp h
   unfold heapB at hj
   split at hj
   ·rename_i q
    cases hj
    obtain⟨i,hi,e⟩:=hp_sub56 q.2
    rw[e]
    refine .tup 1 _ (by rw[List.length_map];have:=(sub_ok i hi).1;omega) fun d hd=>?_
    obtain⟨x,_,rfl⟩:=List.mem_map.mp hd
    exact .int 0 _
   ·cases hj
  ·obtain⟨n,_,rfl⟩:=Option.map_eq_some_iff.mp h;exact .int 1 _
theorem rdAll_al:∀{ks:List Nat}{zs:List Str}{ds:List Dt},rdAll ks zs=some ds→∀ d∈ds,AlD 2 d
 | [],[],ds,h,d,hd=>by cases h;cases hd
 | k::ks,z::zs,ds,h,d,hd=>by
  obtain⟨d',h1,h2⟩:=Option.bind_eq_some_iff.mp h
  obtain⟨es,h3,rfl⟩:=Option.map_eq_some_iff.mp h2
  rcases List.mem_cons.mp hd with rfl | hd
  ·exact rdK_al h1
  ·exact rdAll_al h3 d hd
 | [],_::_,_,h,_,_=>by cases h
 | _::_,[],_,h,_,_=>by cases h
theorem rdL_al{ws:List Str}{ds:List Dt}(h:rdL ws=some ds)(l5:ws.length≤1000):AlD 3 (.tup ds):=by
 cases ws with
 | nil=>cases h
 | cons w r =>
  obtain⟨ks,h1,h2⟩:=Option.bind_eq_some_iff.mp h
  obtain⟨es,h3,rfl⟩:=Option.map_eq_some_iff.mp h2
  refine .tup 2 _ (by rw[List.length_cons,(rdAll_len h3).2];exact l5) fun d hd=>?_
  rcases List.mem_cons.mp hd with rfl | hd
  ·exact .str 1 _
  ·exact rdAll_al h3 d hd
theorem rdL_em:rdL (Txt.split (Str.ofString "") (Str.ofString " "))=none:=by
 have e:Txt.split (Str.ofString "") (Str.ofString " ")=[Str.ofString ""]:=by decide +kernel
 rw[e]
 exact congrArg (fun o:Option (List Nat)=>o.bind fun ks=>(rdAll ks []).map (.str (Str.ofString "")::·)) (show fmOf (Str.ofString "")=none by decide +kernel)
theorem cmp_em:Cmp 8 (Dt.tup [Dt.non,Dt.int 0]) (Dt.tup [Dt.non,Dt.int 0]):=by
 intro j d e h1 h2
 rcases j with _ | _ | j
 ·cases h1;cases h2;trivial
 ·cases h1;cases h2;trivial
 ·cases h1
open Classical in
theorem dec_rfl(d:Dt):decide (d=d)=true:=decide_eq_true rfl
inductive sp_is_name (vs:List V) (H:Hp) (Q:VK) (E:XK):Prop
 | mk:∀ z,(vs=[.str z])→(z.length≤1000)→((∀ c∈sg z,c < 128))→(∀ H',Same H H'→Q (.bl (nameB z)) H')→sp_is_name vs H Q E
inductive sp_is_heap (vs:List V) (H:Hp) (Q:VK) (E:XK):Prop
 | mk:∀(m:Int)(t:Addr)(ts:List Int),(vs=[.int m,.ref t])→(H t=some (.tup (ts.map V.int)))→(Q (.bl (hp m (-1) ts)) H)→sp_is_heap vs H Q E
inductive sp_consists_of (vs:List V) (H:Hp) (Q:VK) (E:XK):Prop
 | mk:∀ z g,(vs=[.str z,.str g])→(z.length≤1000)→((∀ c∈sg z,c < 128))→(∀ H',Same H H'→Q (.bl (consB z g)) H')→sp_consists_of vs H Q E
inductive sp_read_name (K:PySem.W.Frag) (cx:Str→Addr) (vs:List V) (H:Hp) (Q:VK) (E:XK):Prop
 | mk:∀ z,(vs=[.str z])→(z.length≤1000)→((∀ c∈sg z,c < 128))→((nameB z=true→∀ H',Same H H'→Q (.str z) H'))→((nameB z=false→XW H (E (.ref (cx "BadText")))))→sp_read_name K cx vs H Q E
inductive sp_read_number (K:PySem.W.Frag) (cx:Str→Addr) (vs:List V) (H:Hp) (Q:VK) (E:XK):Prop
 | mk:∀ z,(vs=[.str z])→(z.length≤1000)→((∀ c∈sg z,c < 128))→((∀ n,numB z=some n→∀ H',Same H H'→Q (.int n) H'))→((numB z=none→XW H (E (.ref (cx "BadText")))))→sp_read_number K cx vs H Q E
inductive sp_read_heap (K:PySem.W.Frag) (cx:Str→Addr) (vs:List V) (H:Hp) (Q:VK) (E:XK):Prop
 | mk:∀ z,(vs=[.str z])→(z.length≤1000)→((∀ c∈sg z,c < 128))→((∀ js,heapB z=some js→∀ t H',Same H H'→H' t=some (.tup (js.map V.int))→Q (.ref t) H'))→((heapB z=none→XW H (E (.ref (cx "BadText")))))→sp_read_heap K cx vs H Q E
inductive sp_read_word (K:PySem.W.Frag) (cx:Str→Addr) (vs:List V) (H:Hp) (Q:VK) (E:XK):Prop
 | mk:∀ k z,(vs=[.str (kdS k),.str z])→(k < 3)→(z.length≤1000)→((∀ c∈sg z,c < 128))→((∀ d,rdK k z=some d→∀ v H',Same H H'→Den H' d v→Q v H'))→((rdK k z=none→XW H (E (.ref (cx "BadText")))))→sp_read_word K cx vs H Q E
inductive sp_read_line (K:PySem.W.Frag) (cx:Str→Addr) (vs:List V) (H:Hp) (Q:VK) (E:XK):Prop
 | mk:∀(line:Str)(f:Addr) (D:List (Str×V)),(vs=[.str line,.ref f])→(H f=some (.dK (D.map kvS)))→((∀ w,(D.lookup w=none∧fmOf w=none)∨∃ tf ks,D.lookup w=some (.ref tf)∧KTup K tf (ks.map fun k=>.str (kdS k))∧fmOf w=some ks∧ks.length≤4∧∀ k∈ks,k < 3))→(line.length≤1000)→((∀ c∈sg line,c < 128))→((∀ ds,rdL (Txt.split line (Str.ofString " "))=some ds→∀ a H',Same H H'→Den H' (.tup ds) (.ref a)→Q (.ref a) H'))→((rdL (Txt.split line (Str.ofString " "))=none→XW H (E (.ref (cx "BadText")))))→sp_read_line K cx vs H Q E
inductive sp_read_deed (K:PySem.W.Frag) (cx:Str→Addr) (vs:List V) (H:Hp) (Q:VK) (E:XK):Prop
 | mk:∀(line:Str),(vs=[.str line])→(line.length≤1000)→((∀ c∈sg line,c < 128))→((∀ ds,rdL (Txt.split line (Str.ofString " "))=some ds→∀ a H',Same H H'→Den H' (.tup ds) (.ref a)→Q (.ref a) H'))→((rdL (Txt.split line (Str.ofString " "))=none→XW H (E (.ref (cx "BadText")))))→sp_read_deed K cx vs H Q E
inductive sp__law_bag (K:PySem.W.Frag) (cx:Str→Addr) (vs:List V) (H:Hp) (Q:VK) (E:XK):Prop
 | mk:∀ a ns,(vs=[.ref a])→(SqL K H a (List.map V.int ns))→(ns.length≤63)→(∀ B L H',Same H H'→H B=none→BagAt H' B L→Q (.ref B) H')→sp__law_bag K cx vs H Q E
inductive sp__law_pull (vs:List V) (H:Hp) (Q:VK) (E:XK):Prop
 | mk:∀ B m L,(vs=[.ref B,.int m])→(BagAt H B L)→(0 < m)→(Sz 9000 m)→(∀ d H',0≤d→d < m→BagAt H' B L→Fr1 B H H'→Q (.int d) H')→sp__law_pull vs H Q E
abbrev sp__law_whole:Sp:=fun vs H Q _=>∃ n:Int,vs=[.int n]∧Q (.bl true) H
inductive sp__law_heaps (vs:List V) (H:Hp) (Q:VK) (E:XK):Prop
 | mk:∀ m:Nat,(vs=[.int (m:Int)])→(m≤6)→(∀ F xs H',Same H H'→H F=none→H' F=some (.lst xs)→SubsAt H' xs (2 ^ m)→Q (.ref F) H')→sp__law_heaps vs H Q E
inductive sp__law_word (vs:List V) (H:Hp) (Q:VK) (E:XK):Prop
 | mk:∀ B L m,(vs=[.ref B,.int ((m:Nat):Int)])→(BagAt H B L)→(m≤10)→(∀ z H',z.length=m→(∀ c∈sg z,lowC c=true)→BagAt H' B L→Fr1 B H H'→Q (.str z) H')→sp__law_word vs H Q E
abbrev sp__law_alike(n:Nat):Sp:=fun vs H Q _=>∃ d x y,vs=[x,y]∧Den H d x∧Den H d y∧AlD n d∧∀ H',Same H H'→Q (.bl true) H'
theorem no__law_alike:∀ vs H Q E,¬ sp__law_alike 0 vs H Q E:=fun vs H Q E ⟨_,_,_,_,_,_,h,_⟩=>by cases h
inductive sp__law_any_number (vs:List V) (H:Hp) (Q:VK) (E:XK):Prop
 | mk:∀ B L,(vs=[.ref B])→(BagAt H B L)→(∀(n:Nat) H',n < 10 ^ 13→BagAt H' B L→Fr1 B H H'→Q (.int n) H')→sp__law_any_number vs H Q E
inductive sp__law_any_name (vs:List V) (H:Hp) (Q:VK) (E:XK):Prop
 | mk:∀ B L,(vs=[.ref B])→(BagAt H B L)→(∀ z H',nameB z=true→BagAt H' B L→Fr1 B H H'→Q (.str z) H')→sp__law_any_name vs H Q E
inductive sp__law_any_heap (vs:List V) (H:Hp) (Q:VK) (E:XK):Prop
 | mk:∀ B L,(vs=[.ref B])→(BagAt H B L)→(∀ t i H',0 < i→i < 64→H' t=some (.tup ((Srt.sub i).map V.int))→BagAt H' B L→Fr1 B H H'→Q (.ref t) H')→sp__law_any_heap vs H Q E
inductive sp__law_any_deed (vs:List V) (H:Hp) (Q:VK) (E:XK):Prop
 | mk:∀ B L,(vs=[.ref B])→(BagAt H B L)→(∀ a j ds H',j < 10→Paired okW (fmK j) ds→Den H' (.tup (.str (kwS j)::ds)) (.ref a)→BagAt H' B L→Fr1 B H H'→Q (.ref a) H')→sp__law_any_deed vs H Q E
inductive sp__law_thing_text (vs:List V) (H:Hp) (Q:VK) (E:XK):Prop
 | mk:∀ v d,(vs=[v])→(Den H d v)→(okX d)→(∀ H',Same H H'→Q (.str (txD d)) H')→sp__law_thing_text vs H Q E
inductive sp__law_deed_text (vs:List V) (H:Hp) (Q:VK) (E:XK):Prop
 | mk:∀ a ds,(vs=[.ref a])→(Den H (.tup ds) (.ref a))→(ds.length≤6)→((∀ d∈ds,okX d))→(∀ H',Same H H'→Q (.str (Txt.join (Str.ofString " ") (ds.map txD))) H')→sp__law_deed_text vs H Q E
inductive sp__law_figures (vs:List V) (H:Hp) (Q:VK) (E:XK):Prop
 | mk:∀ z,(vs=[.str z])→(z.length≤1000)→((∀ c∈sg z,c < 128))→(∀ H',Same H H'→Q (.bl (consB z FIG)) H')→sp__law_figures vs H Q E
inductive sp__law_thing_in (vs:List V) (H:Hp) (Q:VK) (E:XK):Prop
 | mk:∀ k z,(vs=[.str (chS k),.str z])→(k < 3)→(z.length≤1000)→((∀ c∈sg z,c < 128))→((∀ d,rdK k z=some d→∀ v H',Same H H'→Den H' d v→Q v H'))→((rdK k z=none→∀ H',Same H H'→Q .non H'))→sp__law_thing_in vs H Q E
inductive sp__law_read (vs:List V) (H:Hp) (Q:VK) (E:XK):Prop
 | mk:∀ line:Str,(vs=[.str line])→(line.length≤1000)→((∀ c∈sg line,c < 128))→((∀ ds,rdL (Txt.split line (Str.ofString " "))=some ds→∀ a H',Same H H'→Den H' (.tup ds) (.ref a)→Q (.ref a) H'))→((rdL (Txt.split line (Str.ofString " "))=none→∀ H',Same H H'→Q .non H'))→sp__law_read vs H Q E
inductive sp__law_spoilt (vs:List V) (H:Hp) (Q:VK) (E:XK):Prop
 | mk:∀ B L (line:Str),(vs=[.ref B,.str line])→(BagAt H B L)→(line.length≤300)→((∀ c∈sg line,c < 128))→(∀(y:Str) H',y.length≤3*line.length+40→(∀ c∈sg y,c < 128)→BagAt H' B L→Fr1 B H H'→Q (.str y) H')→sp__law_spoilt vs H Q E
inductive sp__law_told (vs:List V) (H:Hp) (Q:VK) (E:XK):Prop
 | mk:∀ line:Str,(vs=[.str line])→(line.length≤1000)→((∀ c∈sg line,c < 128))→((∀ ds,rdL (Txt.split line (Str.ofString " "))=some ds→∀ p a H',Same H H'→Den H' (.tup ds) (.ref a)→H' p=some (.tup [.ref a,.non])→Q (.ref p) H'))→((rdL (Txt.split line (Str.ofString " "))=none→∀ p H',Same H H'→H' p=some (.tup [.non,.int 0])→Q (.ref p) H'))→sp__law_told vs H Q E
abbrev sp_law(K:PySem.W.Frag)(cx:Str→Addr):Sp:=fun vs H Q _=>∃ a ns,vs=[.ref a]∧SqL K H a (List.map V.int ns)∧ns.length≤63∧∀ H',Q (.bl true) H'
local macro_rules | `(tactic| k_extra "rd")=>`(tactic| simp only[tSeq_ap,tIfS_ap,tNext_ap,tDrop_ap,tRet_ap,tRetN_ap,tVar_ap,tC_ap,tB_ap,tTest_ap,tOp_ap,tUn_ap,tCB_ap,tNil_ap,tCons_ap,tTup_ap,tLst_ap,tAsg_ap,gName_ap,gSub_ap,tPar_ap,tAugS_ap,rI_ap,rI0_ap,rU_ap,rEq_ap,rNe_ap,  scal_ii,scal_bb,scal_ss,scal_nn,tAnd_ap,tOr_ap,tNot_ap,tAndV_ap,tOrV_ap,tNotV_ap,tIf_ap,tChain_ap,tD_ap,Hold_ap,Brk_t,Brk_f,tIsN_ap,tNotN_ap,ipI_ap,
 rIxF_ap,rLenF_ap,rGetF_ap,rSetL_ap,rIsi_ap,tyNm,isiN_int,isiN_bool,isiN_list,isiN_tuple,isiN_str,isi_ii,isi_ib,isi_bb,isi_bi,isi_tt,isi_ll,isi_nt,isi_ni,rListF_ap,rTupF_ap,rSumF_ap,rAllF_ap,rAnyF_ap,tBM_ap,rAppend_ap,compSt_ap,join_somz,tRev_ap,rInsert_ap,tPart_ap,tNoPart_ap,Int.reduceEq,  sizeLine_0,sizeLine_8,sizeLine_10,L2.start,CMulB,CDivB,CPow,tCallX_ap,tTry_ap,tRaise_ap,sp__law_whole,
 List.getElem?_cons_zero,List.getElem?_cons_succ,List.set_cons_zero,List.set_cons_succ,List.map_cons,List.map_nil,List.cons_append,List.nil_append,List.length_cons,List.length_nil,List.length_map,Nat.reduceAdd,Nat.reduceSub,Nat.zero_add,Nat.sub_self,List.replicate_succ,List.replicate_zero,
 Option.some.injEq,V.int.injEq,V.bl.injEq,V.ref.injEq,V.ty.injEq,V.str.injEq,HO.lst.injEq,HO.tup.injEq,List.cons.injEq,reduceCtorEq,exists_eq_left',exists_eq_left,exists_eq_right',exists_eq_right,exists_and_left,and_assoc,and_true,true_and,and_self,eq_self,decide_true,decide_false,decide_eq_true_eq,Bool.not_eq_true',decide_eq_false_iff_not,Bool.true_eq_false,Bool.false_eq_true,if_true,if_false,Bool.not_false,Bool.not_true,Bool.true_and,Bool.false_and,Bool.and_true,Bool.and_false,Bool.true_or,Bool.false_or,not_true_eq_false,ne_eq,not_false_eq_true,atI_0,atI_1,atI_2,atI_3,ixN_4_0,ixN_4_1,ixN_4_2,ixN_4_3,seqAt,upd_same,upd_ne,sizeLine_1,sizeLine_2,sizeLine_3,sizeLine_4,sizeLine_5,sizeLine_6,sizeLine_7,int_01,int_c2,pow_ok,Int.reduceLE,Int.reduceLT,Int.reduceAdd,Int.reduceSub,Int.reduceMul,Int.reduceNeg,Int.reducePow,Int.reduceToNat, *])
local macro_rules | `(tactic| k_extra "rx")=>`(tactic| repeat (first
 | (with_reducible refine i_tSeq ?_) | (with_reducible refine i_tIf ?_) | (with_reducible refine i_tAsg ?_) | (with_reducible refine i_gName ?_) | ((with_reducible apply i_tVar);(exact rfl)) | (with_reducible refine i_tC ?_) | (with_reducible refine i_tOp ?_) | (with_reducible refine i_tIfS ?_) | (with_reducible refine i_tTest ?_) | (with_reducible refine i_tB ?_) | (with_reducible refine i_exB ?_)
 | (with_reducible refine i_rI0 ?_) | (with_reducible refine i_tUn ?_) | (with_reducible refine i_rU ?_) | (with_reducible refine i_tCons ?_) | (with_reducible refine i_tNil ?_) | (with_reducible refine i_tD ?_) | (with_reducible refine i_tCB ?_) | (with_reducible refine i_tRet ?_) | (with_reducible refine i_tNext ?_) | (with_reducible refine i_tDrop ?_) | (with_reducible refine i_gSub ?_) | (with_reducible refine i_tAugS ?_) | (with_reducible refine i_tNot ?_) | (with_reducible refine i_tAnd ?_) | (with_reducible refine i_tOr ?_) | (with_reducible refine i_ipI ?_) | (with_reducible refine i_brkT ?_) | (with_reducible refine i_brkF ?_) | (with_reducible refine i_tTup ?_) | (with_reducible refine i_tLst ?_)
 | ((with_reducible refine i_rI ?_ ?_);(first | (exact Sz.ok (by assumption) (by assumption) (by decide)) | (exact⟨by assumption,by assumption⟩) | (exact⟨by decide,by decide⟩) | (show (0:Int) < _;first | decide | assumption) | (exact mul_mod_ok) | (exact Sz.okR (k:=31) (by decide) (by decide)) | (exact (⟨by decide,by decide,by decide⟩:CPow _ _))))
 | refine i_ixL (by assumption) rfl ?_ | refine i_ixT (by assumption) rfl ?_ | refine i_ixL (by assumption) (by assumption) ?_ | refine i_lenL (by assumption) ?_ | refine i_getL (by assumption) (by decide) rfl ?_))
section
variable {P:Program}{w:World}{K:PySem.W.Frag}{mg:Str→Option Value}{base:Heap}{cx:Str→Addr}{f:Addr}{fd:FuncData}
theorem ok_is_name(D:DefAt K mg "is_name" s_is_name f fd)(T:Txt w.params K mg cx):DefOk P w K mg base CX0 1 "is_name" ["text"] sp_is_name:=by
 refine D.ok (D.q sc_is_name (fun vs H Q E h=>?_) (fun cdv A outer s H vs Q E hr h=>?_)) (D.fn.binds fun _ _ _ _ _ _ us hl=>match us,hl with | [_],_=>rfl)
 ·obtain⟨_,rfl,_⟩:=h
  rfl
 obtain⟨z,rfl,hz,ha,hQ⟩:=h
 refine⟨_,(qss_one (qs_ret (qe_and (qe_cmpR op_ge (qe_callB call_len_str (by rfl) T.n_len bt_len (qa_1 (qv 0))) qe_int (nomark _)) (qe_and (qe_cmpR op_le (qe_callB call_len_str (by rfl) T.n_len bt_len (qa_1 (qv 0))) qe_int (nomark _)) (qe_one (qe_callB (call_allF rfl) (by rfl) T.n_all bt_all (qa_1 (qe_cp ["letter"] [] (qi_str (qv 0)) (gext_name (by decide)) (fun _ _ _ _ _=>⟨(qg_name (i:=0) (show (["letter"]:List Str).Nodup by decide +kernel) rfl (Or.inl rfl)),qf_nil,(qe_cmpR op_in_str (qv 0) (qe_globS (z:=LET) (by rfl) T.g_LETTERS let_eq) (by rfl))⟩))))))))),?_⟩
 k_extra "rx"
 refine i_tAndV ?_
 k_extra "rx"
 refine⟨z,rfl,Nat.le_trans hz (by decide),?_⟩
 k_extra "rx"
 refine brkD (fun h1=>?_) (fun h1=>?_)
 ·refine i_tAndV ?_
  k_extra "rx"
  refine⟨z,rfl,Nat.le_trans hz (by decide),?_⟩
  k_extra "rx"
  refine brkD (fun h2=>?_) (fun h2=>?_)
  ·k_extra "rx"
   refine⟨_,rfl,z,rfl,asc_of ha,fun l hl=>?_⟩
   refine comp_strR (fun i acc H2=>Same H H2∧H2 l=some (.lst acc)∧acc=((sg z).take i).map fun c=>V.bl (lowC c)) ⟨Same.new hl,upd_same,rfl⟩ ?_ ?_
   ·rintro i c acc H2 hc ⟨s2,hl2,rfl⟩
    rw[sg_take _ hc]
    have hlen:(((sg z).take i).map fun c=>V.bl (lowC c)).length≤1000:=by
     rw[List.length_map,List.length_take,sg_len]
     omega
    simp only[gName_ap,tYes,if_true]
    refine⟨_,rfl,_,_,rfl,rfl,?_⟩
    rw[let_in c (ha c (sg_mem hc))]
    exact⟨hl2,small1000 hlen,same_put hl s2,upd_same,rfl⟩
   ·rintro acc H2 ⟨s2,hl2,rfl⟩
    rw[sg_size,List.take_length] at hl2
    refine⟨l,(sg z).map lowC,rfl,by rw[List.map_map];exact hl2,?_⟩
    have e:nameB z=((sg z).map lowC).all id:=by
     unfold nameB
     rw[decide_eq_true (by omega),decide_eq_true (by omega),Bool.true_and,Bool.true_and,List.all_map]
     rfl
    rw[← e]
    exact hQ _ s2
  ·have e:nameB z=false:=by
    unfold nameB
    rw[decide_eq_false (p:=z.length≤8) (by omega),Bool.false_and,Bool.and_false]
   rw[← e]
   exact hQ _ (Same.refl _)
 ·have e:nameB z=false:=by
   unfold nameB
   rw[decide_eq_false (by omega),Bool.false_and]
  rw[← e]
  exact hQ _ (Same.refl _)
theorem ok_is_heap(D:DefAt K mg "is_heap" s_is_heap f fd)(T:Txt w.params K mg cx):DefOk P w K mg base CX0 1 "is_heap" ["many","places"] sp_is_heap:=by
 refine D.ok (D.q sc_is_heap (fun vs H Q E h=>?_) (fun cdv A outer s H vs Q E hr h=>?_)) (D.fn.binds fun _ _ _ _ _ _ us hl=>match us,hl with | [_,_],_=>rfl)
 ·obtain⟨_,_,_,rfl,_⟩:=h
  rfl
 obtain⟨m,t,ts,rfl,ht,hQ⟩:=h
 refine⟨_,(qss_cons (qs_sL 2 sc_is_heap.nd (qe_un un_neg qe_int))
   (qss_cons (qs_for PassesOwn.never rfl (qi_tupK (K:=K) rfl (qv 1)) (qg_name (i:=3) sc_is_heap.nd rfl (Or.inl rfl)) (qss_cons (qs_if (qw_or (qt_cmpR op_le (qv 3) (qv 2) (nomark _)) (qw_or1 (qt_cmpR op_ge (qv 3) (qv 0) (nomark _)))).pt (qss_one (qs_ret qe_bl)) qss_nil)
   (qss_one (qs_sL 2 sc_is_heap.nd (qv 3)))))
   (qss_one (qs_ret qe_bl)))),?_⟩
 k_extra "rd"
 refine⟨_,rfl,t,rfl,⟨_,SqT.of ht⟩,for_tup (K:=K) (a:=t) (xs:=ts.map V.int) (fun i σ H2=>∃ l v,σ=[some (.int m),some (.ref t),some (.int l),v]∧H2=H∧hp m l (ts.drop i)=hp m (-1) ts) ⟨-1,none,rfl,rfl,rfl⟩ (fun i σ H2 _ ⟨_,_,_,e,_⟩=>by rw[e];exact SqT.of ht) ?_ ?_⟩
 ·rintro i y σ H2 hy ⟨l,v,rfl,rfl,e⟩
  obtain⟨hi,rfl⟩:=int_at hy
  have ed:ts.drop i=ts[i]::ts.drop (i+1):=List.drop_eq_getElem_cons hi
  rw[ed] at e
  have e':(if ts[i]≤l∨m≤ts[i] then false else hp m ts[i] (ts.drop (i+1)))=hp m (-1) ts:=e
  clear e ed hy
  generalize ts[i]=x at e' ⊢
  simp only[gName_ap]
  k_extra "rd"
  refine brkD (fun h1=>?_) (fun h1=>?_)
  ·rw[if_pos (.inl h1)] at e'
   rw[← e'] at hQ
   clear e'
   k_extra "rd"
  ·k_extra "rd"
   refine brkD (fun h2=>?_) (fun h2=>?_)
   ·rw[if_pos (.inr h2)] at e'
    rw[← e'] at hQ
    clear e'
    k_extra "rd"
   ·rw[if_neg (fun z=>z.elim h1 h2)] at e'
    k_extra "rd"
 ·rintro σ H2 ⟨l,v,rfl,rfl,e⟩
  rw[List.length_map,List.drop_length] at e
  have e':true=hp m (-1) ts:=e
  rw[← e'] at hQ
  exact hQ
theorem ok_consists_of(D:DefAt K mg "consists_of" s_consists_of f fd)(T:Txt w.params K mg cx):DefOk P w K mg base CX0 1 "consists_of" ["word","signs"] sp_consists_of:=by
 refine D.ok (D.q sc_consists_of (fun vs H Q E h=>?_) (fun cdv A outer s H vs Q E hr h=>?_)) (D.fn.binds fun _ _ _ _ _ _ us hl=>match us,hl with | [_,_],_=>rfl)
 ·obtain⟨_,_,rfl,_⟩:=h
  rfl
 obtain⟨z,g,rfl,hz,hg,hQ⟩:=h
 refine⟨_,(qss_one (qs_ret (qe_and (qe_cmpR op_gt (qe_callB call_len_str (by rfl) T.n_len bt_len (qa_1 (qv 0))) qe_int (nomark _)) (qe_one (qe_callB (call_allF rfl) (by rfl) T.n_all bt_all (qa_1 (qe_cp ["sign"] [("signs", 1)] (qi_str (qv 0)) (gext_name (by decide)) (fun _ _ _ _ _=>⟨(qg_name (i:=0) (show (["sign","signs"]:List Str).Nodup by decide +kernel) rfl (Or.inl rfl)),qf_nil,(qe_cmpR op_in_str (qv 0) (qv 1) (by rfl))⟩)))))))),?_⟩
 k_extra "rx"
 refine i_tAndV ?_
 k_extra "rx"
 refine⟨z,rfl,Nat.le_trans hz (by decide),?_⟩
 k_extra "rx"
 refine brkD (fun h1=>?_) (fun h1=>?_)
 ·k_extra "rx"
  refine⟨_,rfl,z,rfl,asc_of fun c hc=>hg c hc,fun l hl=>?_⟩
  refine comp_strR (fun i acc H2=>Same H H2∧H2 l=some (.lst acc)∧acc=((sg z).take i).map fun c=>V.bl (decide (c∈sg g))) ⟨Same.new hl,upd_same,rfl⟩ ?_ ?_
  ·rintro i c acc H2 hc ⟨s2,hl2,rfl⟩
   rw[sg_take _ hc]
   have hlen:(((sg z).take i).map fun c=>V.bl (decide (c∈sg g))).length≤1000:=by
    rw[List.length_map,List.length_take,sg_len]
    omega
   simp only[gName_ap,tYes,if_true]
   refine⟨_,rfl,_,rfl,_,_,rfl,rfl,?_⟩
   rw[StrLaws.found_one]
   exact⟨hl2,small1000 hlen,same_put hl s2,upd_same,rfl⟩
  ·rintro acc H2 ⟨s2,hl2,rfl⟩
   rw[sg_size,List.take_length] at hl2
   refine⟨l,(sg z).map fun c=>decide (c∈sg g),rfl,by rw[List.map_map];exact hl2,?_⟩
   have e:((sg z).map fun c=>decide (c∈sg g)).all id=consB z g:=by
    unfold consB
    rw[List.all_map,decide_eq_true (show 0 < z.length by omega),Bool.true_and]
    rfl
   rw[e]
   exact hQ _ s2
 ·k_extra "rx"
  have e:consB z g=false:=by unfold consB;rw[decide_eq_false (show ¬ 0 < z.length by omega)];rfl
  rw[← e]
  exact hQ _ (Same.refl _)
theorem ok_read_name(D:DefAt K mg "read_name" s_read_name f fd)(T:Txt w.params K mg cx)(d_is_name:DefOk P w K mg base CX0 1 "is_name" ["text"] sp_is_name):DefOk P w K mg base (CXD P w) 3 "read_name" ["word"] (sp_read_name K cx):=by
 have O_BadText:=ox_BadText (P:=P) (w:=w) (base:=base) T.x_BadText
 refine D.ok (D.qD sc_read_name (fun vs H Q E h=>?_) (fun cdv A outer s H vs Q E hr h=>?_)) (D.fn.binds fun _ _ _ _ _ _ us hl=>match us,hl with | [_],_=>rfl)
 ·obtain⟨_,rfl,_⟩:=h
  rfl
 obtain⟨z,rfl,hl,hc,hQ,hE⟩:=h
 refine⟨_,(qss_cons (qs_if (qt_not (qt_val (qe_g d_is_name (qa_1 (qv 0))))) (qss_one (qs_raiseV raisesD O_BadText (qa_1 qe_int))) qss_nil)
   (qss_one (qs_ret (qv 0)))),?_⟩
 k_extra "rx"
 refine⟨z,rfl,hl,hc,fun H1 s1=>?_⟩
 cases hn:nameB z with
 | true =>
  refine⟨_,rfl,i_brkF ?_⟩
  k_extra "rx"
  exact hQ hn _ s1
 | false =>
  refine⟨_,rfl,i_brkT ?_⟩
  exact i_raiseV ⟨.int 0,rfl,fun dx hdx=>hE hn dx _ (s1.trans (Same.new hdx)) upd_same⟩
theorem ok_read_number(D:DefAt K mg "read_number" s_read_number f fd)(T:Txt w.params K mg cx)(d_consists_of:DefOk P w K mg base CX0 1 "consists_of" ["word","signs"] sp_consists_of):DefOk P w K mg base (CXD P w) 3 "read_number" ["word"] (sp_read_number K cx):=by
 have O_BadText:=ox_BadText (P:=P) (w:=w) (base:=base) T.x_BadText
 refine D.ok (D.qD sc_read_number (fun vs H Q E h=>?_) (fun cdv A outer s H vs Q E hr h=>?_)) (D.fn.binds fun _ _ _ _ _ _ us hl=>match us,hl with | [_],_=>rfl)
 ·obtain⟨_,rfl,_⟩:=h
  rfl
 obtain⟨z,rfl,hl,hc,hQ,hE⟩:=h
 refine⟨_,(qss_cons (qs_if (qw_or (qt_not (qt_val (qe_g d_consists_of (qa_2 (qv 0) (qe_globS (z:=FIG) (by rfl) T.g_FIGURES fig_eq))))) (qw_or1 (qt_cmpR op_gt (qe_callB call_len_str (by rfl) T.n_len bt_len (qa_1 (qv 0))) (qe_globI (by rfl) T.g_MOST_FIGURES) (nomark _)))).pt (qss_one (qs_raiseV raisesD O_BadText (qa_1 qe_int))) qss_nil)
   (qss_cons (qs_if (qw_and (qt_cmpR op_eq (qe_ix ix_str (qv 0) qe_int (fun _ _=>rfl)) qe_str (nomark _)) (qw_and1 (qt_cmpR op_ne (qv 0) qe_str (nomark _)))).pt (qss_one (qs_raiseV raisesD O_BadText (qa_1 qe_int))) qss_nil)
   (qss_one (qs_ret (qe_callTy call_intS (by rfl) T.n_int bt_int (qa_1 (qv 0))))))),?_⟩
 k_extra "rx"
 refine⟨z,FIG,rfl,hl,hc,fun H1 s1=>?_⟩
 have R:numB z=none→∀ D σ,tRaiseV (cx "BadText") "at" E (tCons (tC (V.int 0)) tNil) D σ H1:=fun h D σ=>i_raiseV ⟨.int 0,rfl,fun dx hdx=>hE h dx _ (s1.trans (Same.new hdx)) upd_same⟩
 cases hcb:consB z FIG with
 | false =>
  refine⟨_,rfl,i_brkT (i_brkT (R ?_ _ _))⟩
  exact if_neg fun h=>by rw[hcb] at h;exact absurd h.1 (by decide)
 | true =>
  obtain⟨c0,l,el⟩:∃ c l,sg z=c::l:=by
   cases e:sg z with
   | nil=>exact absurd e (cons_all hcb).1
   | cons c l=>exact⟨c,l,rfl⟩
  refine⟨_,rfl,i_brkF ?_⟩
  k_extra "rx"
  refine⟨_,rfl,Nat.le_trans hl (by decide),?_⟩
  k_extra "rx"
  refine brkD (fun h1=>R (if_neg fun h=>?_) _ _) (fun h1=>?_)
  ·have:=h.2.1
   omega
  have h13:z.length≤13:=by omega
  obtain⟨n,hn⟩:=fig_int hcb (by omega)
  k_extra "rx"
  refine i_ixS (c:=c0) hl (by show atI (sg z) ((0:Nat):Int)=_;exact atI_nat (by rw[el];rfl)) ?_
  k_extra "rx"
  refine⟨rfl,?_⟩
  refine⟨_,rfl,brkD (fun h1=>?_) (fun h1=>?_)⟩
  ·have hc0:c0=48:=by
    have:=congrArg sg (V.str.inj h1)
    rw[sg_of] at this
    exact (List.cons.inj this).1
   k_extra "rx"
   refine⟨rfl,?_⟩
   refine⟨_,rfl,brkN (fun h2=>?_) (fun h2=>?_)⟩
   ·refine R (if_neg fun h=>?_) _ _
    exact h2 (by rw[h.2.2 (by rw[el,hc0];rfl)])
   ·k_extra "rx"
    refine i_intS hn (by omega) ?_
    refine hQ _ (Eq.trans (if_pos ⟨hcb,h13,fun _=>V.str.inj h2⟩) hn) _ s1
  ·k_extra "rx"
   refine i_intS hn (by omega) ?_
   refine hQ _ (Eq.trans (if_pos ⟨hcb,h13,fun h=>?_⟩) hn) _ s1
   refine absurd ?_ h1
   rw[el] at h
   have:c0=48:=Option.some.inj h
   rw[this]
   exact congrArg V.str (show (⟨#[48]⟩:Str)=Str.ofString "0" by decide +kernel)
theorem ok_read_heap(D:DefAt K mg "read_heap" s_read_heap f fd)(T:Txt w.params K mg cx)(d_consists_of:DefOk P w K mg base CX0 1 "consists_of" ["word","signs"] sp_consists_of)(d_is_heap:DefOk P w K mg base CX0 1 "is_heap" ["many","places"] sp_is_heap):DefOk P w K mg base (CXD P w) 3 "read_heap" ["word"] (sp_read_heap K cx):=by
 have O_BadText:=ox_BadText (P:=P) (w:=w) (base:=base) T.x_BadText
 refine D.ok (D.qD sc_read_heap (fun vs H Q E h=>?_) (fun cdv A outer s H vs Q E hr h=>?_)) (D.fn.binds fun _ _ _ _ _ _ us hl=>match us,hl with | [_],_=>rfl)
 ·obtain⟨_,rfl,_⟩:=h
  rfl
 obtain⟨z,rfl,hl,hc,hQ,hE⟩:=h
 refine⟨_,(qss_cons (qs_if (qt_not (qt_val (qe_g d_consists_of (qa_2 (qv 0) (qe_globS (z:=PLA) (by rfl) T.g_PLACES pla_eq))))) (qss_one (qs_raiseV raisesD O_BadText (qa_1 qe_int))) qss_nil)
   (qss_cons (qs_sL 1 sc_read_heap.nd (qe_callTy call_tupF (by rfl) T.n_tuple bt_tuple (qa_1 (qe_cp ["sign"] [] (qi_str (qv 0)) (gext_name (by decide)) (fun _ _ _ _ _=>⟨(qg_name (i:=0) (show (["sign"]:List Str).Nodup by decide +kernel) rfl (Or.inl rfl)),qf_nil,(qe_callTy call_intS (by rfl) T.n_int bt_int (qa_1 (qv 0)))⟩)))))
   (qss_cons (qs_if (qt_not (qt_val (qe_g d_is_heap (qa_2 (qe_callB call_len_str (by rfl) T.n_len bt_len (qa_1 (qe_globS (z:=PLA) (by rfl) T.g_PLACES pla_eq))) (qv 1))))) (qss_one (qs_raiseV raisesD O_BadText (qa_1 qe_int))) qss_nil)
   (qss_one (qs_ret (qv 1)))))),?_⟩
 have R:heapB z=none→∀ D σ H1,Same H H1→tRaiseV (cx "BadText") "at" E (tCons (tC (V.int 0)) tNil) D σ H1:=fun h D σ H1 s1=>i_raiseV ⟨.int 0,rfl,fun dx hdx=>hE h dx _ (s1.trans (Same.new hdx)) upd_same⟩
 k_extra "rx"
 refine⟨z,PLA,rfl,hl,hc,fun H1 s1=>?_⟩
 cases hcb:consB z PLA with
 | false =>
  refine⟨_,rfl,i_brkT (R ?_ _ _ _ s1)⟩
  exact if_neg fun h=>by rw[hcb] at h;exact absurd h.1 (by decide)
 | true =>
  have hd:=(cons_all hcb).2
  refine⟨_,rfl,i_brkF ?_⟩
  k_extra "rx"
  refine⟨_,rfl,_,rfl,asc_of fun c hc'=>hc c hc',fun l hl'=>?_⟩
  refine comp_strR (fun a acc H2=>Same H1 H2∧H2 l=some (.lst acc)∧acc=((sg z).take a).map fun (c:Nat)=>V.int ((c:Int) - 48)) ⟨Same.new hl',upd_same,rfl⟩ ?_ ?_
  ·rintro a c acc H2 hc' ⟨s2,hl2,rfl⟩
   rw[sg_take _ hc']
   have hlen:(((sg z).take a).map fun (c:Nat)=>V.int ((c:Int) - 48)).length≤1000:=by
    rw[List.length_map,List.length_take,sg_len]
    omega
   have b:=pla_mem c (hd c (sg_mem hc'))
   simp only[gName_ap,tYes,if_true]
   k_extra "rx"
   refine i_intS (one_int b.1 b.2) (by show 1≤640;decide) ?_
   exact⟨hl2,small1000 hlen,same_put hl' s2,upd_same,rfl⟩
  ·rintro acc H2 ⟨s2,hl2,rfl⟩
   rw[sg_size,List.take_length] at hl2
   have ej:((sg z).map fun (c:Nat)=>V.int ((c:Int) - 48))=(jsS z).map V.int:=by unfold jsS;rw[List.map_map];rfl
   rw[ej] at hl2
   k_extra "rx"
   refine⟨l,_,rfl,hl2,fun t ht=>?_⟩
   have s3:=Same.new (o:=.tup ((jsS z).map V.int)) ht
   have ht3:upd H2 t (.tup ((jsS z).map V.int)) t=_:=upd_same
   generalize upd H2 t (.tup ((jsS z).map V.int))=H3 at s3 ht3 ⊢
   k_extra "rx"
   refine⟨PLA,rfl,by decide,?_⟩
   k_extra "rx"
   refine⟨6,t,jsS z,rfl,ht3,?_⟩
   cases hh:hp 6 (-1) (jsS z) with
   | false =>
    refine⟨_,rfl,i_brkT (R ?_ _ _ _ ((s1.trans s2).trans s3))⟩
    exact if_neg fun h=>by rw[hh] at h;exact absurd h.2 (by decide)
   | true =>
    refine⟨_,rfl,i_brkF ?_⟩
    k_extra "rx"
    exact hQ _ (if_pos ⟨hcb,hh⟩) t H3 ((s1.trans s2).trans s3) ht3
theorem ok_read_word(D:DefAt K mg "read_word" s_read_word f fd)(T:Txt w.params K mg cx)(d_read_number:DefOk P w K mg base (CXD P w) 3 "read_number" ["word"] (sp_read_number K cx))(d_read_name:DefOk P w K mg base (CXD P w) 3 "read_name" ["word"] (sp_read_name K cx))(d_read_heap:DefOk P w K mg base (CXD P w) 3 "read_heap" ["word"] (sp_read_heap K cx)):DefOk P w K mg base (CXD P w) 4 "read_word" ["kind","word"] (sp_read_word K cx):=by
 refine D.ok (D.qD sc_read_word (fun vs H Q E h=>?_) (fun cdv A outer s H vs Q E hr h=>?_)) (D.fn.binds fun _ _ _ _ _ _ us hl=>match us,hl with | [_,_],_=>rfl)
 ·obtain⟨_,_,rfl,_⟩:=h
  rfl
 obtain⟨k,z,rfl,hk,hl,hc,hQ,hE⟩:=h
 refine⟨_,(qss_cons (qs_if (qt_cmpR op_eq (qv 0) qe_str (nomark _)) (qss_one (qs_ret (qe_f d_read_name hr.le passD (qa_1 (qv 1))))) qss_nil)
   (qss_cons (qs_if (qt_cmpR op_eq (qv 0) qe_str (nomark _)) (qss_one (qs_ret (qe_f d_read_heap hr.le passD (qa_1 (qv 1))))) qss_nil)
   (qss_one (qs_ret (qe_f d_read_number hr.le passD (qa_1 (qv 1))))))),?_⟩
 by_cases k0:k=0
 ·subst k0
  k_extra "rx"
  refine⟨rfl,?_⟩
  refine⟨_,rfl,brkD (fun h1=>?_) (fun h1=>absurd rfl h1)⟩
  k_extra "rx"
  exact⟨z,rfl,hl,hc,fun hn H1 s1=>hQ (.str z) (if_pos hn) _ _ s1 rfl,fun hn=>hE (by show (if nameB z=true then _ else _)=none;rw[hn];rfl)⟩
 by_cases k1:k=1
 ·subst k1
  k_extra "rx"
  refine⟨rfl,?_⟩
  refine⟨_,rfl,brkD (fun h1=>absurd (V.str.inj h1) (by decide +kernel)) (fun _=>?_)⟩
  k_extra "rx"
  refine⟨rfl,?_⟩
  refine⟨_,rfl,brkD (fun _=>?_) (fun h1=>absurd rfl h1)⟩
  k_extra "rx"
  refine⟨z,rfl,hl,hc,fun js hj t H1 s1 ht=>hQ (.tup (js.map Dt.int)) ?_ _ _ s1 ⟨t,_,rfl,ht,ints_dens _⟩,fun hn=>hE ?_⟩
  ·show (heapB z).map _=_
   rw[hj];rfl
  ·show (heapB z).map _=_
   rw[hn];rfl
 ·obtain rfl:k=2:=by omega
  k_extra "rx"
  refine⟨rfl,?_⟩
  refine⟨_,rfl,brkD (fun h1=>absurd (V.str.inj h1) (by decide +kernel)) (fun _=>?_)⟩
  k_extra "rx"
  refine⟨rfl,?_⟩
  refine⟨_,rfl,brkD (fun h1=>absurd (V.str.inj h1) (by decide +kernel)) (fun _=>?_)⟩
  k_extra "rx"
  refine⟨z,rfl,hl,hc,fun n hj H1 s1=>hQ (.int n) ?_ _ _ s1 rfl,fun hn=>hE ?_⟩
  ·show (numB z).map _=_
   rw[hj];rfl
  ·show (numB z).map _=_
   rw[hn];rfl
theorem ok_read_line(D:DefAt K mg "read_line" s_read_line f fd)(T:Txt w.params K mg cx)(d_read_word:DefOk P w K mg base (CXD P w) 4 "read_word" ["kind","word"] (sp_read_word K cx)):DefOk P w K mg base (CXD P w) 5 "read_line" ["line","forms"] (sp_read_line K cx):=by
 have O_BadText:=ox_BadText (P:=P) (w:=w) (base:=base) T.x_BadText
 refine D.ok (D.qD sc_read_line (fun vs H Q E h=>?_) (fun cdv A outer s H vs Q E hr h=>?_)) (D.fn.binds fun _ _ _ _ _ _ us hl=>match us,hl with | [_,_],_=>rfl)
 ·obtain⟨_,_,_,rfl,_⟩:=h
  rfl
 obtain⟨line,f,D,rfl,hf,hD,hl,hc,hQ,hE⟩:=h
 refine⟨_,(qss_cons (qs_sL 2 sc_read_line.nd (qe_bmK (K:=K) rfl PySem.F.plainAttrs_str PySem.F.slot_str_split PySem.F.type_str_split mt_split (qv 0) (qa_1 qe_str)))
   (qss_cons (qs_sL 3 sc_read_line.nd (qe_dget1 (hu_of hr) (qv 1) (qe_iS (qv 2) qe_int)))
   (qss_cons (qs_if (qw_or (qt_isN ((qv 3))) (qw_or1 (qt_cmpR op_ne (qe_callB call_lenF (by rfl) T.n_len bt_len (qa_1 (qv 2))) (qe_op op_add (qe_callB call_len_seq (by rfl) T.n_len bt_len (qa_1 (qv 3))) qe_int) (nomark _)))).pt (qss_one (qs_raiseV raisesD O_BadText (qa_1 qe_int))) qss_nil)
   (qss_one (qs_ret (qe_callTy call_tupF (by rfl) T.n_tuple bt_tuple (qa_1 (qe_op op_cat (qe_slice sl_list (qv 2) qo_none (qo_some qe_int)) (qe_cpD ["kind","word"] [] leaveD (qi_zipLK (K:=K) rfl (by rfl) T.n_zip (qa_2 (qv 3) (qe_slice sl_list (qv 2) (qo_some qe_int) qo_none))) (gext_tup2 (by decide) (by decide)) (fun _ _ _ _ _ hp=>⟨(qg_tupK (K:=K) (n:=2) rfl rfl (qgs_cons (qg_name (i:=0) (show (["kind","word"]:List Str).Nodup by decide +kernel) rfl (Or.inl rfl)) (qgs_cons (qg_name (i:=1) (show (["kind","word"]:List Str).Nodup by decide +kernel) rfl (Or.inl rfl)) qgs_nil))),qf_nil,(qe_f d_read_word hr.le hp (qa_2 (qv 0) (qv 1)))⟩)))))))))),?_⟩
 have part:∀ w∈Txt.split line (Str.ofString " "),w.length≤1000∧∀ c∈sg w,c < 128:=fun w hw=>⟨Nat.le_trans (split_part hw).1 hl,fun c hcw=>hc c ((split_part hw).2 c hcw)⟩
 have R:rdL (Txt.split line (Str.ofString " "))=none→∀ D σ H1,Same H H1→tRaiseV (cx "BadText") "at" E (tCons (tC (V.int 0)) tNil) D σ H1:=fun h D σ H1 s1=>i_raiseV ⟨.int 0,rfl,fun dx hdx=>hE h dx _ (s1.trans (Same.new hdx)) upd_same⟩
 k_extra "rx"
 refine⟨_,rfl,rfl,?_⟩
 k_extra "rx"
 refine⟨_,_,rfl,rfl,rfl,hl,fun w hw=>?_⟩
 obtain⟨w0,r,ew⟩:∃ w0 r,Txt.split line (Str.ofString " ")=w0::r:=by
  cases e:Txt.split line (Str.ofString " ") with
  | nil=>rw[blank_eq] at e;exact absurd e (split_ne _ _)
  | cons a b=>exact⟨a,b,rfl⟩
 rw[ew] at part R hQ hE ⊢
 have s1:=Same.new (o:=.lst ((w0::r).map V.str)) hw
 have w1:upd H w (.lst ((w0::r).map V.str)) w=_:=upd_same
 generalize upd H w (.lst ((w0::r).map V.str))=H1 at s1 w1 ⊢
 have hf1:=s1 _ _ hf
 have at0:atI ((w0::r).map V.str) ((0:Nat):Int)=some (.str w0):=atI_nat rfl
 have at0:atI ((w0::r).map V.str) 0=some (.str w0):=at0
 k_extra "rx"
 unfold tDGet1
 k_extra "rx"
 refine⟨f,rfl,.inl ⟨_,.inl hf1⟩,?_⟩
 k_extra "rx"
 refine⟨_,DGet.k (k:=Sum.inr w0) hf1,?_⟩
 rcases hD w0 with ⟨lk,hfm⟩ | ⟨tf,ks,lk,hT,hfm,k4,k3⟩
 ·rw[valV_kvN lk]
  k_extra "rx"
  rw[tIsN_ap]
  refine⟨_,rfl,?_⟩
  refine⟨_,rfl,brk (fun _=>i_brkT (R ?_ _ _ _ s1)) (fun z=>absurd rfl (of_decide_eq_false z))⟩
  show (fmOf w0).bind _=none
  rw[hfm];rfl
 ·rw[valV_kvS lk]
  k_extra "rx"
  rw[tIsN_ap]
  refine⟨_,rfl,?_⟩
  refine⟨_,rfl,brk (fun z=>nomatch z) (fun _=>?_)⟩
  k_extra "rx"
  refine⟨tf,_,rfl,.inr (hT.sq _),?_⟩
  k_extra "rx"
  refine⟨rfl,?_⟩
  by_cases fl:r.length=ks.length
  ·have ne:V.int ((((w0::r).map V.str).length:Nat):Int)=V.int (((ks.map fun k=>V.str (kdS k)).length:Nat)+1):=by rw[List.length_map,List.length_map,List.length_cons,fl];rfl
   rw[decide_eq_true ne]
   refine⟨_,rfl,i_brkF ?_⟩
   k_extra "rx"
   refine i_tSl ?_
   k_extra "rx"
   refine⟨1,rfl,w,_,rfl,SqL.of w1,fun p1 hp1=>?_⟩
   rw[show cutV ((w0::r).map V.str) none (some 1)=[.str w0] from cut_hd (n:=1)]
   have s2:=Same.new (o:=.lst [.str w0]) hp1
   have p1':upd H1 p1 (.lst [.str w0]) p1=_:=upd_same
   generalize upd H1 p1 (.lst [.str w0])=H2 at s2 p1' ⊢
   k_extra "rx"
   refine⟨_,rfl,?_⟩
   refine i_tSl ?_
   k_extra "rx"
   refine⟨1,rfl,w,_,rfl,SqL.of (s2 _ _ w1),fun p2 hp2=>?_⟩
   rw[show cutV ((w0::r).map V.str) (some 1) none=r.map V.str from cut_tl (n:=1)]
   have s3:=Same.new (o:=.lst (r.map V.str)) hp2
   have p2':upd H2 p2 (.lst (r.map V.str)) p2=_:=upd_same
   generalize upd H2 p2 (.lst (r.map V.str))=H3 at s3 p2' ⊢
   have p13:=s3 _ _ p1'
   have rl:rdL (w0::r)=(rdAll ks r).map (.str w0::·):=by
    show (fmOf w0).bind _=_
    rw[hfm];rfl
   refine⟨tf,p2,rfl,⟨_,hT.sq _⟩,⟨_,SqL.of p2'⟩,fun F hF=>?_⟩
   refine comp_zipLR (K:=K) (a:=tf) (b:=p2) (xs:=ks.map fun k=>V.str (kdS k)) (ys:=r.map V.str) (fun i acc H4=>Same H3 H4∧H4 F=some (.lst acc)∧∃ ds,rdAll (ks.take i) (r.take i)=some ds∧Dens H4 ds acc) ⟨Same.new hF,upd_same,[],rfl,rfl⟩ (by rw[List.length_map,List.length_map,fl]) (fun i acc H4 _ ⟨s4,_⟩=>⟨hT.sq _,SqL.of (s4 _ _ p2')⟩) ?_ ?_
   ·rintro i x y p acc H4 hx hy hp' ⟨s4,hF4,ds,hA1,hA⟩
    have hi:i < r.length:=by
     have:=(List.getElem?_eq_some_iff.mp hy).1
     rw[List.length_map] at this
     exact this
    have hi2:i < ks.length:=by omega
    rw[List.getElem?_map,List.getElem?_eq_getElem hi2] at hx
    rw[List.getElem?_map,List.getElem?_eq_getElem hi] at hy
    cases hx
    cases hy
    have s5:=Same.new (o:=.tup [.str (kdS ks[i]),.str r[i]]) hp'
    have al:=hA.length
    have dl:=(rdAll_len hA1).2
    rw[List.length_take] at dl
    refine⟨p,_,rfl,SqT.of upd_same,rfl,_,_,rfl,_,_,rfl,rfl,?_⟩
    dsimp only
    simp only[tYes,if_true]
    k_extra "rx"
    have pw:=part r[i] (List.mem_cons_of_mem _ (List.getElem_mem hi))
    refine⟨_,_,rfl,k3 _ (List.getElem_mem hi2),pw.1,pw.2,fun d hd v H5 s6 hv=>?_,fun hn=>?_⟩
    ·have F5:=s6 _ _ (s5 _ _ hF4)
     have A5:=Dens.same (s5.trans s6) hA
     have et:r.take (i+1)=r.take i++[r[i]]:=List.take_succ_eq_append_getElem hi
     have ek:ks.take (i+1)=ks.take i++[ks[i]]:=List.take_succ_eq_append_getElem hi2
     have ts:=TS.lst (o:=.lst (acc++[v])) F5
     refine⟨F5,small1000 (by omega),same_put hF ((s4.trans s5).trans s6),upd_same,ds++[d],?_,?_⟩
     ·rw[et,ek];exact rdAll_snoc hA1 hd
     ·exact Dens.snoc (densF_ts ts (rdAll_F hA1) A5) ((rdK_F hd).ts hv ts)
    ·refine (hE ?_).mono (((((s1.trans s2).trans s3).trans s4)).trans s5)
     rw[rl,rdAll_none hi2 hi hn];rfl
   ·rintro acc H4 ⟨s4,hF4,ds,hA1,hA⟩
    rw[List.length_map,List.take_length,← fl,List.take_length] at hA1
    have al:=hA.length
    have dl:=(rdAll_len hA1).2
    refine⟨p1,F,_,_,rfl,rfl,s4 _ _ p13,hF4,Nat.le_trans (by show 1+acc.length≤100;omega) (by decide),fun G hG=>?_⟩
    have s5:=Same.new (o:=.lst ([.str w0]++acc)) hG
    have g5:upd H4 G (.lst ([.str w0]++acc)) G=_:=upd_same
    generalize upd H4 G (.lst ([.str w0]++acc))=H5 at s5 g5 ⊢
    k_extra "rx"
    refine⟨G,_,rfl,g5,fun a ha=>?_⟩
    have s6:=Same.new (o:=.tup ([.str w0]++acc)) ha
    refine hQ (.str w0::ds) (by rw[rl,hA1];rfl) a _ (((((s1.trans s2).trans s3).trans s4).trans s5).trans s6) ⟨a,_,rfl,upd_same,dens1 rfl (Dens.same (s5.trans s6) hA)⟩
  ·have ne:¬ V.int ((((w0::r).map V.str).length:Nat):Int)=V.int (((ks.map fun k=>V.str (kdS k)).length:Nat)+1):=fun z=>by
    have z:=V.int.inj z
    rw[List.length_map,List.length_map,List.length_cons] at z
    exact fl (by omega)
   rw[decide_eq_false ne]
   refine⟨_,rfl,i_brkT (R ?_ _ _ _ s1)⟩
   show (fmOf w0).bind _=none
   rw[hfm]
   show (rdAll ks r).map _=none
   cases e:rdAll ks r with
   | none=>rfl
   | some ds=>exact absurd (rdAll_len e).1.symm fl
theorem ok_read_deed(D:DefAt K mg "read_deed" s_read_deed f fd)(T:Txt w.params K mg cx)(d_read_line:DefOk P w K mg base (CXD P w) 5 "read_line" ["line","forms"] (sp_read_line K cx)):DefOk P w K mg base (CXD P w) 6 "read_deed" ["line"] (sp_read_deed K cx):=by
 refine D.ok (D.qD sc_read_deed (fun vs H Q E h=>?_) (fun cdv A outer s H vs Q E hr h=>?_)) (D.fn.binds fun _ _ _ _ _ _ us hl=>match us,hl with | [_],_=>rfl)
 ·obtain⟨_,rfl,_⟩:=h
  rfl
 obtain⟨line,rfl,hl,hc,hQ,hE⟩:=h
 obtain⟨dd,hd_DEEDS,hD⟩:=T.g_DEEDS
 refine⟨_,(qss_one (qs_ret (qe_f d_read_line hr.le passD (qa_2 (qv 0) (qe_callTy call_dictK (by rfl) T.n_dict bt_dict (qa_1 (qe_globR (by rfl) hd_DEEDS))))))),?_⟩
 obtain⟨t0,t1,t2,t3,t4,t5,t6,t7,t8,t9,kd,q0,q1,q2,q3,q4,q5,q6,q7,q8,q9⟩:=hD
 k_extra "rx"
 refine⟨dd,_,rfl,kd,fun f hf=>?_⟩
 have s1:=Same.new (o:=.dK (List.map kvS [("out", V.ref t0),("load", .ref t1),("sail", .ref t2),("hire", .ref t3),("dismiss", .ref t4),("lend", .ref t5),("rescue", .ref t6),("lose", .ref t7),("land", .ref t8),("settle", .ref t9)])) hf
 k_extra "rx"
 refine⟨line,f,_,rfl,upd_same,fun w=>?_,hl,hc,fun ds h a H' s hd=>hQ ds h a H' (s1.trans s) hd,fun h=>(hE h).mono s1⟩
 have hw:(∃ j,j < 10∧kwS j=w)∨∀ j,j < 10→kwS j≠w:=by
  by_cases h:∃ j,j < 10∧kwS j=w
  ·exact .inl h
  ·exact .inr fun j hj e=>h ⟨j,hj,e⟩
 rcases hw with ⟨j,hj,rfl⟩ | hw
 ·refine .inr ?_
  have:j=0∨j=1∨j=2∨j=3∨j=4∨j=5∨j=6∨j=7∨j=8∨j=9:=by omega
  rcases this with rfl | rfl | rfl | rfl | rfl | rfl | rfl | rfl | rfl | rfl
  ·exact⟨t0,fmK 0,rfl,q0,by decide +kernel,by decide,by decide⟩
  ·exact⟨t1,fmK 1,rfl,q1,by decide +kernel,by decide,by decide⟩
  ·exact⟨t2,fmK 2,rfl,q2,by decide +kernel,by decide,by decide⟩
  ·exact⟨t3,fmK 3,rfl,q3,by decide +kernel,by decide,by decide⟩
  ·exact⟨t4,fmK 4,rfl,q4,by decide +kernel,by decide,by decide⟩
  ·exact⟨t5,fmK 5,rfl,q5,by decide +kernel,by decide,by decide⟩
  ·exact⟨t6,fmK 6,rfl,q6,by decide +kernel,by decide,by decide⟩
  ·exact⟨t7,fmK 7,rfl,q7,by decide +kernel,by decide,by decide⟩
  ·exact⟨t8,fmK 8,rfl,q8,by decide +kernel,by decide,by decide⟩
  ·exact⟨t9,fmK 9,rfl,q9,by decide +kernel,by decide,by decide⟩
 ·refine .inl ⟨?_,fmOf_none hw⟩
  have h:=fun j hj=>beq_eq_false_iff_ne.mpr (Ne.symm (hw j hj))
  have h0:=h 0 (by decide);have h1:=h 1 (by decide);have h2:=h 2 (by decide);have h3:=h 3 (by decide);have h4:=h 4 (by decide)
  have h5:=h 5 (by decide);have h6:=h 6 (by decide);have h7:=h 7 (by decide);have h8:=h 8 (by decide);have h9:=h 9 (by decide)
  simp only[List.lookup_cons,show (w == Str.ofString "out")=false from h0,show (w == Str.ofString "load")=false from h1,show (w == Str.ofString "sail")=false from h2,show (w == Str.ofString "hire")=false from h3,show (w == Str.ofString "dismiss")=false from h4,show (w == Str.ofString "lend")=false from h5,show (w == Str.ofString "rescue")=false from h6,show (w == Str.ofString "lose")=false from h7,show (w == Str.ofString "land")=false from h8,show (w == Str.ofString "settle")=false from h9]
  rfl
theorem ok__law_bag(D:DefAt K mg "_law_bag" s__law_bag f fd)(T:Txt w.params K mg cx):DefOk P w K mg base CX0 1 "_law_bag" ["_law_script"] (sp__law_bag K cx):=by
 refine D.ok (D.q sc__law_bag (fun vs H Q E h=>?_) (fun cdv A outer s H vs Q E hr h=>?_)) (D.fn.binds fun _ _ _ _ _ _ us hl=>match us,hl with | [_],_=>rfl)
 ·obtain⟨_,_,rfl,_⟩:=h
  rfl
 obtain⟨a,ns,rfl,hS,hl,hQ⟩:=h
 have hc:cutV (List.map V.int ns) none (some (63:Int))=List.map V.int ns:=cutV_all (k:=63) (by rw[List.length_map];exact hl)
 refine⟨_,(qss_cons (qs_sL 1 sc__law_bag.nd (qe_callB call_lenF (by rfl) T.n_len bt_len (qa_1 (qe_slice sl_list (qv 0) qo_none (qo_some qe_int)))))
   (qss_cons (qs_for PassesOwn.never rfl (qi_listK (K:=K) rfl (qe_slice sl_list (qv 0) qo_none (qo_some qe_int))) (qg_name (i:=2) sc__law_bag.nd rfl (Or.inl rfl)) (qss_one (qs_sL 1 sc__law_bag.nd (qe_op op_mod (qe_op op_add (qe_op op_mulB (qv 1) qe_int) (qv 2)) qe_int))))
   (qss_one (qs_ret (qe_lst (qa_cons (qe_callTy call_listF (by rfl) T.n_list bt_list (qa_1 (qe_slice sl_list (qv 0) qo_none (qo_some qe_int)))) (qa_cons qe_int (qa_cons qe_int (qa_cons (qv 1) qa_nil))))))))),?_⟩
 refine⟨_,rfl,_,rfl,a,_,rfl,hS,fun p hp=>?_⟩
 rw[hc]
 refine⟨p,_,rfl,by unfold seqAt;rw[upd_same],?_⟩
 have s1:Same H (upd H p (.lst (List.map V.int ns))):=Same.new hp
 refine⟨_,rfl,_,rfl,a,_,rfl,s1.seq hS,fun p2 hp2=>?_⟩
 rw[hc]
 have s2:Same H (upd (upd H p (.lst (List.map V.int ns))) p2 (.lst (List.map V.int ns))):=s1.trans (Same.new hp2)
 refine⟨p2,rfl,⟨_,SqL.of upd_same⟩,for_list (K:=K) (a:=p2) (xs:=List.map V.int ns) (fun i σ H2=>∃(z:Int)(v:Option V),σ=[some (.ref a),some (.int z),v]∧Same H H2∧SqL K H2 p2 (List.map V.int ns)) ⟨_,_,rfl,s2,SqL.of upd_same⟩ (fun i σ H2 _ ⟨_,_,_,_,q⟩=>q) ?_ ?_⟩
 ·rintro i y σ H2 hy ⟨z,v,rfl,s3,hp3⟩
  obtain⟨k,rfl⟩:∃ k,y=V.int k:=by
   rw[List.getElem?_map] at hy
   cases e:ns[i]? with
   | none=>rw[e] at hy;cases hy
   | some k=>rw[e] at hy;exact⟨k,(Option.some.inj hy).symm⟩
  k_extra "rd"
  exact⟨Sz.okR (k:=10) (by decide) (by decide),_,rfl⟩
 ·rintro σ H2 ⟨z,v,rfl,s3,hp3⟩
  refine⟨_,rfl,_,rfl,a,_,rfl,s3.seq hS,fun p4 hp4=>?_⟩
  rw[hc]
  refine⟨p4,_,rfl,by unfold seqAt;rw[upd_same],fun L hL=>?_⟩
  k_extra "rd"
  intro B hB
  have s5:=(s3.trans (Same.new (o:=.lst (List.map V.int ns)) hp4)).trans (Same.new (o:=.lst (List.map V.int ns)) hL)
  have nBL:L≠B:=fun e=>by rw[← e,upd_same] at hB;cases hB
  refine hQ B L _ (s5.trans (Same.new hB)) (s5.free hB) ⟨ns,0,0,z,upd_same,?_,by omega⟩
  rw[upd_ne nBL,upd_same]
theorem ok__law_pull(D:DefAt K mg "_law_pull" s__law_pull f fd)(T:Txt w.params K mg cx):DefOk P w K mg base CX0 1 "_law_pull" ["_law_bag_here","_law_many"] sp__law_pull:=by
 refine D.ok (D.q sc__law_pull (fun vs H Q E h=>?_) (fun cdv A outer s H vs Q E hr h=>?_)) (D.fn.binds fun _ _ _ _ _ _ us hl=>match us,hl with | [_,_],_=>rfl)
 ·obtain⟨_,_,_,rfl,_⟩:=h
  rfl
 obtain⟨B,m,L,rfl,⟨ns,i,r,salt,hB,hL,hi⟩,hm,hz,hQ⟩:=h
 have nLB:L≠B:=ne_of hL hB (by intro e;cases ns<;>cases e)
 refine⟨_,(qss_cons (qs_if (qt_cmpR op_le (qe_iS (qv 0) qe_int) qe_int (nomark _)) (qss_cons (qs_augS (qv 0) qe_int get_list qe_int ip_add set_list)
   (qss_cons (qs_sL 2 sc__law_pull.nd (qe_iS (qv 0) qe_int))
   (qss_cons (qs_if (qt_cmpR op_le (qe_iS (qv 0) qe_int) (qe_callB call_lenF (by rfl) T.n_len bt_len (qa_1 (qe_iS (qv 0) qe_int))) (nomark _)) (qss_one (qs_sL 2 sc__law_pull.nd (qe_iS (qe_iS (qv 0) qe_int) (qe_op op_sub (qe_iS (qv 0) qe_int) qe_int)))) qss_nil)
   (qss_cons (qs_if (qw_or (qt_cmpR op_gt (qe_iS (qv 0) qe_int) (qe_callB call_lenF (by rfl) T.n_len bt_len (qa_1 (qe_iS (qv 0) qe_int))) (nomark _)) (qw_or1 (qt_cmpR op_lt (qv 2) (qe_op op_pow qe_int qe_int) (nomark _)))).pt (qss_cons (qs_sL 3 sc__law_pull.nd (qe_op op_mod (qe_op op_add (qe_op op_add (qe_op op_mulB (qv 2) qe_int) (qe_op op_mulB (qe_iS (qv 0) qe_int) qe_int)) qe_int) qe_int))
   (qss_cons (qs_sL 3 sc__law_pull.nd (qe_op op_mod (qe_op op_mulB (qv 3) (qv 3)) qe_int))
   (qss_one (qs_ret (qe_op op_mod (qe_op op_fdivB (qe_op op_mod (qe_op op_mulB (qe_op op_add (qv 3) (qe_iS (qv 0) qe_int)) qe_int) qe_int) qe_int) (qv 1)))))) qss_nil)
   (qss_one (qs_asg (qv 2) (qg_sub (qv 0) qe_int set_list))))))) qss_nil)
   (qss_cons (qs_sL 4 sc__law_pull.nd (qe_op op_mod (qe_iS (qv 0) qe_int) (qv 1)))
   (qss_cons (qs_asg (qe_op op_fdivB (qe_iS (qv 0) qe_int) (qv 1)) (qg_sub (qv 0) qe_int set_list))
   (qss_one (qs_ret (qv 4)))))),?_⟩
 refine seq_cut (fun σ' H'=>∃ i' r' v2 v3,σ'=[some (.ref B),some (.int m),v2,v3,none]∧H' B=some (.lst [.ref L,.int i',.int r',.int salt])∧0≤i'∧Fr1 B H H') ?_ fun tb' key=>?_
 ·rintro σ H1 ⟨i',r',v2,v3,rfl,hB1,hi1,f1⟩
  clear hB
  k_extra "rx"
  refine i_setN hB1 rfl rfl fun H2 hB2 f2=>?_
  k_extra "rx"
  exact hQ _ _ (Int.emod_nonneg _ (Int.ne_of_gt hm)) (Int.emod_lt_of_pos _ hm) ⟨ns,i',_,salt,hB2,f2 _ _ nLB (f1 _ _ nLB hL),hi1⟩ (f1.trans f2)
 k_extra "rx"
 refine brkD (fun h1=>?_) (fun h1=>?_)
 ·k_extra "rx"
  refine i_setN hB rfl rfl fun H1 s1 f1=>?_
  have hL1:=f1 _ _ nLB hL
  have i1:0≤i+1:=Int.le_add_one hi
  clear hB
  k_extra "rx"
  refine brkD (fun h2=>?_) (fun h2=>?_)
  ·obtain⟨v,e,hv⟩:=atI_lt (xs:=List.map V.int ns) (i:=i+1 - 1) (by omega) (by omega)
   obtain⟨z,_,rfl⟩:=List.mem_map.mp hv
   k_extra "rx"
   refine i_brkN (by omega) ?_
   k_extra "rx"
   refine brkD (fun h4=>?_) (fun h4=>?_)
   ·k_extra "rx"
    exact hQ _ _ (Int.emod_nonneg _ (Int.ne_of_gt hm)) (Int.emod_lt_of_pos _ hm) ⟨ns,_,_,salt,s1,hL1,i1⟩ f1
   ·k_extra "rx"
    refine i_setN s1 rfl rfl fun H2 s2 f2=>?_
    exact key _ _ ⟨_,_,_,_,rfl,s2,i1,f1.trans f2⟩
  ·k_extra "rx"
   refine i_brkP (by omega) ?_
   k_extra "rx"
   exact hQ _ _ (Int.emod_nonneg _ (Int.ne_of_gt hm)) (Int.emod_lt_of_pos _ hm) ⟨ns,_,_,salt,s1,hL1,i1⟩ f1
 ·k_extra "rx"
  exact key _ _ ⟨_,_,_,_,rfl,hB,hi,Fr1.refl⟩
theorem ok__law_whole(D:DefAt K mg "_law_whole" s__law_whole f fd)(T:Txt w.params K mg cx):DefOk P w K mg base CX0 1 "_law_whole" ["_law_found"] sp__law_whole:=by
 refine D.ok (D.q sc__law_whole (fun vs H Q E h=>?_) (fun cdv A outer s H vs Q E hr h=>?_)) (D.fn.binds fun _ _ _ _ _ _ us hl=>match us,hl with | [_],_=>rfl)
 ·obtain⟨_,rfl,_⟩:=h
  rfl
 obtain⟨n,rfl,hQ⟩:=h
 refine⟨_,(qss_one (qs_ret (qe_and (qe_callB call_isi (by rfl) T.n_isinstance bt_isinstance (qa_2 (qv 0) (qe_bltn (v:=.ty "int") (by rfl) T.n_int bt_int rfl))) (qe_one (qe_not (qe_callB call_isi (by rfl) T.n_isinstance bt_isinstance (qa_2 (qv 0) (qe_bltn (v:=.ty "bool") (by rfl) T.n_bool bt_bool rfl)))))))),?_⟩
 k_extra "rd"
theorem ok__law_heaps(D:DefAt K mg "_law_heaps" s__law_heaps f fd)(T:Txt w.params K mg cx):DefOk P w K mg base CX0 1 "_law_heaps" ["_law_many"] sp__law_heaps:=by
 refine D.ok (D.q sc__law_heaps (fun vs H Q E h=>?_) (fun cdv A outer s H vs Q E hr h=>?_)) (D.fn.binds fun _ _ _ _ _ _ us hl=>match us,hl with | [_],_=>rfl)
 ·obtain⟨_,rfl,_⟩:=h
  rfl
 obtain⟨m,rfl,m6,hQ⟩:=h
 refine⟨_,(qss_cons (qs_sL 1 sc__law_heaps.nd (qe_lst (qa_1 (qe_tup qa_nil))))
   (qss_cons (qs_for PassesOwn.never rfl (qi_range1 (by rfl) T.n_range (qa_1 (qv 0))) (qg_name (i:=2) sc__law_heaps.nd rfl (Or.inr rfl)) (qss_one (qs_sL 1 sc__law_heaps.nd (qe_op op_cat (qv 1) (qe_cp ["_law_heap"] [("_law_place", 2)] (qi_listK (K:=K) rfl (qv 1)) (gext_name (by decide)) (fun _ _ _ _ _=>⟨(qg_name (i:=0) (show (["_law_heap","_law_place"]:List Str).Nodup by decide +kernel) rfl (Or.inl rfl)),qf_nil,(qe_op op_catA (qv 0) (qe_tup (qa_1 (qv 1))))⟩))))))
   (qss_one (qs_ret (qv 1))))),?_⟩
 refine⟨by show 0≤sizeLine;decide,fun t0 ht0=>⟨by show 1≤sizeLine;decide,fun F0 hF0=>?_⟩⟩
 have s0:=(Same.new (o:=.tup []) ht0).trans (Same.new (o:=.lst [.ref t0]) hF0)
 have k0:=(Same.new (o:=.lst [.ref t0]) hF0) t0 _ upd_same
 have n0:H F0=none:=(Same.new (o:=.tup []) ht0).free hF0
 have j0:upd (upd H t0 (.tup [])) F0 (.lst [.ref t0]) F0=_:=upd_same
 generalize upd (upd H t0 (.tup [])) F0 (.lst [.ref t0])=H0 at s0 k0 j0 ⊢
 refine⟨_,rfl,(m:Int),rfl,by omega,by omega,for_range (lo:=0) (n:=((m:Nat):Int).toNat) (fun i σ H2=>∃ F xs v,σ=[some (.int (m:Int)),some (.ref F),v]∧Same H H2∧H F=none∧H2 F=some (.lst xs)∧SubsAt H2 xs (2 ^ i)) ⟨F0,[.ref t0],none,rfl,s0,n0,j0,?_⟩ ?_ ?_⟩
 ·refine⟨rfl,fun i hi=>?_⟩
  have:i=0:=by have:i < 1:=hi;omega
  subst this
  exact⟨t0,rfl,k0⟩
 ·rintro i σ H2 hi ⟨F,xs,v,rfl,s2,nF,hF,hS⟩
  have hi6:i < 6:=by omega
  have hl:=hS.1
  have l64:2 ^ i≤32:=by
   have:i=0∨i=1∨i=2∨i=3∨i=4∨i=5:=by omega
   rcases this with rfl | rfl | rfl | rfl | rfl | rfl<;>decide
  simp only[gName_ap]
  refine⟨_,rfl,_,rfl,F,rfl,⟨_,SqL.of hF⟩,fun l hl'=>?_⟩
  refine comp_listR (K:=K) (a:=F) (xs:=xs) (fun j acc H3=>Same H2 H3∧H3 l=some (.lst acc)∧acc.length=j∧∀ q,q < j→∃ t,acc[q]?=some (.ref t)∧H3 t=some (.tup ((Srt.sub (2 ^ i+q)).map V.int))) ⟨Same.new hl',upd_same,rfl,fun q hq=>by omega⟩ (fun j acc H3 _ ⟨s3,_⟩=>SqL.of (s3 _ _ hF)) ?_ ?_
  ·rintro j y acc H3 hy ⟨s3,hl3,hj,hA⟩
   have hjl:=(List.getElem?_eq_some_iff.mp hy).1
   have hj2:j < 2 ^ i:=by omega
   obtain⟨t,et,ht⟩:=hS.2 j hj2
   rw[et] at hy
   cases hy
   simp only[gName_ap,tYes,if_true]
   refine⟨_,rfl,_,rfl,by show 1≤sizeLine;decide,fun q hq=>?_⟩
   have s4:=Same.new (o:=.tup [.int (0+(i:Int))]) hq
   refine⟨t,q,(Srt.sub j).map V.int,[.int (0+(i:Int))],rfl,rfl,s4 _ _ (s3 _ _ ht),upd_same,by simp,?_,fun r H5 s5 hr=>?_⟩
   ·show ((Srt.sub j).map V.int).length+1≤sizeLine
    rw[List.length_map]
    have:(Srt.sub j).length≤6:=by
     unfold Srt.sub
     rw[List.length_map]
     exact Nat.le_trans (List.length_filter_le _ _) (by rw[List.length_range];exact Nat.le_refl _)
    exact Nat.le_of_lt (small1000 (by omega))
   ·have s35:=s4.trans s5
    have hl5:=s35 _ _ hl3
    have nrl:r≠l:=fun z=>by rw[z,hl5] at hr;cases hr
    refine⟨hl5,small1000 (by omega),fun b o hb=>?_,upd_same,by rw[List.length_append,hj];rfl,fun q hq=>?_⟩
    ·have nb:b≠l:=fun z=>by rw[z,hl'] at hb;cases hb
     rw[upd_ne nb]
     exact s35 _ _ (s3 _ _ hb)
    ·by_cases hqj:q < j
     ·obtain⟨t',e',h'⟩:=hA q hqj
      have h5:=s35 _ _ h'
      have ntl:t'≠l:=fun z=>by rw[z,hl5] at h5;cases h5
      exact⟨t',by rw[List.getElem?_append_left (by omega)];exact e',by rw[upd_ne ntl];exact h5⟩
     ·have e:q=acc.length:=by omega
      subst e
      refine⟨r,by rw[List.getElem?_append_right (Nat.le_refl _),Nat.sub_self];rfl,?_⟩
      rw[upd_ne nrl,hr,hj,sub_add i hi6 j hj2,List.map_append,Int.zero_add]
      rfl
  ·rintro acc H3 ⟨s3,hl3,hj,hA⟩
   have hF3:=s3 _ _ hF
   refine⟨F,l,xs,acc,rfl,rfl,hF3,hl3,?_,fun G hG=>?_⟩
   ·exact Nat.le_of_lt (small1000 (by omega))
   ·have s4:=Same.new (o:=.lst (xs++acc)) hG
    refine⟨G,xs++acc,_,rfl,s2.trans (s3.trans s4),(s2.trans s3).free hG,upd_same,?_,fun q hq=>?_⟩
    ·rw[List.length_append,hj,hl,Nat.pow_succ]
     omega
    ·rw[Nat.pow_succ] at hq
     by_cases hq1:q < 2 ^ i
     ·obtain⟨t',e',h'⟩:=hS.2 q hq1
      exact⟨t',by rw[List.getElem?_append_left (by omega)];exact e',s4 _ _ (s3 _ _ h')⟩
     ·obtain⟨t',e',h'⟩:=hA (q - 2 ^ i) (by omega)
      have eq:2 ^ i+(q - 2 ^ i)=q:=by omega
      rw[eq] at h'
      exact⟨t',by rw[List.getElem?_append_right (by omega),hl];exact e',s4 _ _ h'⟩
 ·rintro σ H2 ⟨F,xs,v,rfl,s2,nF,hF,hS⟩
  have em:((m:Nat):Int).toNat=m:=Int.toNat_natCast m
  rw[em] at hS
  exact⟨_,rfl,hQ F xs H2 s2 nF hF hS⟩
theorem ok__law_word(D:DefAt K mg "_law_word" s__law_word f fd)(T:Txt w.params K mg cx)(d__law_pull:DefOk P w K mg base CX0 1 "_law_pull" ["_law_bag_here","_law_many"] sp__law_pull):DefOk P w K mg base CX0 2 "_law_word" ["_law_bag_here","_law_size"] sp__law_word:=by
 refine D.ok (D.q sc__law_word (fun vs H Q E h=>?_) (fun cdv A outer s H vs Q E hr h=>?_)) (D.fn.binds fun _ _ _ _ _ _ us hl=>match us,hl with | [_,_],_=>rfl)
 ·obtain⟨_,_,_,rfl,_⟩:=h
  rfl
 obtain⟨B,L,m,rfl,b,hm,hQ⟩:=h
 refine⟨_,(qss_one (qs_ret (qe_bmK (K:=K) rfl PySem.F.plainAttrs_str PySem.F.slot_str_join PySem.F.type_str_join mt_join qe_str (qa_1 (qe_cp ["_law_k"] [("_law_bag_here", 0)] (qi_range1 (by rfl) T.n_range (qa_1 (qv 1))) (gext_name (by decide)) (fun _ _ _ _ _=>⟨(qg_name (i:=0) (show (["_law_k","_law_bag_here"]:List Str).Nodup by decide +kernel) rfl (Or.inl rfl)),qf_nil,(qe_ix ix_str qe_str (qe_g d__law_pull (qa_2 (qv 1) qe_int)) (fun _ _=>rfl))⟩)))))),?_⟩
 k_extra "rx"
 refine⟨rfl,?_⟩
 k_extra "rx"
 refine⟨_,rfl,_,rfl,by omega,by omega,fun l hl=>?_⟩
 have nB:=b.ne hl
 have nL:=b.neL hl
 refine comp_rangeR (fun i acc H2=>BagAt H2 B L∧Fr1 B H H2∧H2 l=some (.lst acc)∧∃ cs:List Nat,acc=(cs.map fun c=>(⟨#[c]⟩:Str)).map V.str∧cs.length=i∧∀ c∈cs,lowC c=true) ⟨b.new hl,Fr1.new hl,upd_same,[],rfl,rfl,fun c hc=>by cases hc⟩ ?_ ?_
 ·rintro i acc H2 hi ⟨b2,f2,hl2,cs,rfl,hlen,hlow⟩
  simp only[gName_ap,tYes,if_true]
  k_extra "rx"
  refine⟨B,26,L,rfl,b2,by decide,by decide,fun d H3 d0 d1 b3 f3=>?_⟩
  obtain⟨k,rfl⟩:=Int.eq_ofNat_of_zero_le d0
  have hk:k < 26:=by omega
  rw[let_eq]
  refine i_ixS let_len (atI_let k hk) ?_
  refine⟨f3 _ _ nB hl2,small1000 (by rw[List.length_map,List.length_map];omega),b3.put nB nL,fr_put hl (f2.trans f3),upd_same,cs++[97+k],by rw[List.map_append,List.map_append];rfl,by rw[List.length_append,hlen];rfl,fun c hc=>?_⟩
  rcases List.mem_append.mp hc with h | h
  ·exact hlow c h
  ·cases List.mem_singleton.mp h
   unfold lowC
   rw[decide_eq_true (by omega),decide_eq_true (by omega)]
   rfl
 ·rintro acc H2 ⟨b2,f2,hl2,cs,rfl,hlen,hlow⟩
  rw[em_eq]
  have hl':cs.length≤10:=by omega
  refine⟨⟨#[]⟩,l,cs.map fun c=>(⟨#[c]⟩:Str),rfl,rfl,hl2,?_,?_⟩
  ·have e1:∀ cs:List Nat,((cs.map fun c=>(⟨#[c]⟩:Str)).map (·.length)).sum=cs.length:=by
    intro cs
    induction cs with
    | nil=>rfl
    | cons c r ih=>rw[List.map_cons,List.map_cons,List.sum_cons,ih,List.length_cons,Nat.add_comm];rfl
   rw[e1]
   show cs.length+_*0≤_
   omega
  ·have e2:=sg_join cs
   exact hQ _ _ (by rw[← sg_len,e2,hlen];omega) (by rw[e2];exact hlow) b2 f2
theorem ok__law_alike{n:Nat}(D:DefAt K mg "_law_alike" s__law_alike f fd)(T:Txt w.params K mg cx)(d__law_whole:DefOk P w K mg base CX0 1 "_law_whole" ["_law_found"] sp__law_whole)(d__law_alike:DefOk P w K mg base CX0 (2+n) "_law_alike" ["_law_found","_law_due"] (sp__law_alike n)):DefOk P w K mg base CX0 (2+n+1) "_law_alike" ["_law_found","_law_due"] (sp__law_alike (n+1)):=by
 refine D.ok (D.q sc__law_alike (fun vs H Q E h=>?_) (fun cdv A outer s H vs Q E hr h=>?_)) (D.fn.binds fun _ _ _ _ _ _ us hl=>match us,hl with | [_,_],_=>rfl)
 ·obtain⟨_,_,_,rfl,_⟩:=h
  rfl
 obtain⟨d,x,y,rfl,hx,hy,al,hQ⟩:=h
 refine⟨_,(qss_cons (qs_if (qt_isN ((qv 1))) (qss_one (qs_ret (qe_isN ((qv 0))))) qss_nil)
   (qss_cons (qs_if (qt_val (qe_callB call_isi (by rfl) T.n_isinstance bt_isinstance (qa_2 (qv 1) (qe_bltn (v:=.ty "bool") (by rfl) T.n_bool bt_bool rfl)))) (qss_one (qs_ret (qe_and (qe_callB call_isi (by rfl) T.n_isinstance bt_isinstance (qa_2 (qv 0) (qe_bltn (v:=.ty "bool") (by rfl) T.n_bool bt_bool rfl))) (qe_one (qe_cmpR op_eq (qv 0) (qv 1) (nomark _)))))) qss_nil)
   (qss_cons (qs_if (qt_val (qe_callB call_isi (by rfl) T.n_isinstance bt_isinstance (qa_2 (qv 1) (qe_bltn (v:=.ty "int") (by rfl) T.n_int bt_int rfl)))) (qss_one (qs_ret (qe_and (qe_f d__law_whole (hr.le (by omega)) pass0 (qa_1 (qv 0))) (qe_one (qe_cmpR op_eq (qv 0) (qv 1) (nomark _)))))) qss_nil)
   (qss_cons (qs_if (qt_val (qe_callB call_isi (by rfl) T.n_isinstance bt_isinstance (qa_2 (qv 1) (qe_bltn (v:=.ty "str") (by rfl) T.n_str bt_str rfl)))) (qss_one (qs_ret (qe_and (qe_callB call_isi (by rfl) T.n_isinstance bt_isinstance (qa_2 (qv 0) (qe_bltn (v:=.ty "str") (by rfl) T.n_str bt_str rfl))) (qe_one (qe_cmpR op_eq (qv 0) (qv 1) (nomark _)))))) qss_nil)
   (qss_cons (qs_if (qw_or (qt_cmpR op_ne (qe_callB call_isi (by rfl) T.n_isinstance bt_isinstance (qa_2 (qv 1) (qe_bltn (v:=.ty "list") (by rfl) T.n_list bt_list rfl))) (qe_callB call_isi (by rfl) T.n_isinstance bt_isinstance (qa_2 (qv 0) (qe_bltn (v:=.ty "list") (by rfl) T.n_list bt_list rfl))) (nomark _)) (qw_or1 (qt_cmpR op_ne (qe_callB call_isi (by rfl) T.n_isinstance bt_isinstance (qa_2 (qv 1) (qe_bltn (v:=.ty "tuple") (by rfl) T.n_tuple bt_tuple rfl))) (qe_callB call_isi (by rfl) T.n_isinstance bt_isinstance (qa_2 (qv 0) (qe_bltn (v:=.ty "tuple") (by rfl) T.n_tuple bt_tuple rfl))) (nomark _)))).pt (qss_one (qs_ret qe_bl)) qss_nil)
   (qss_cons (qs_if (qw_or (qt_not (qt_val (qe_callB call_isiT (by rfl) T.n_isinstance bt_isinstance (qa_2 (qv 0) (qe_tup (qa_2 (qe_bltn (v:=.ty "list") (by rfl) T.n_list bt_list rfl) (qe_bltn (v:=.ty "tuple") (by rfl) T.n_tuple bt_tuple rfl))))))) (qw_or1 (qt_cmpR op_ne (qe_callB call_lenF (by rfl) T.n_len bt_len (qa_1 (qv 0))) (qe_callB call_lenF (by rfl) T.n_len bt_len (qa_1 (qv 1))) (nomark _)))).pt (qss_one (qs_ret qe_bl)) qss_nil)
   (qss_one (qs_ret (qe_callB (call_allF rfl) (by rfl) T.n_all bt_all (qa_1 (qe_cp ["_law_at"] [("_law_found", 0),("_law_due", 1)] (qi_range1 (by rfl) T.n_range (qa_1 (qe_callB call_lenF (by rfl) T.n_len bt_len (qa_1 (qv 1))))) (gext_name (by decide)) (fun _ _ _ _ _=>⟨(qg_name (i:=0) (show (["_law_at","_law_found","_law_due"]:List Str).Nodup by decide +kernel) rfl (Or.inl rfl)),qf_nil,(qe_f d__law_alike hr pass0 (qa_2 (qe_iS (qv 1) (qv 0)) (qe_iS (qv 2) (qv 0))))⟩)))))))))))),?_⟩
 cases al with
 | int _ i =>
  have hx:x=.int i:=hx
  have hy:y=.int i:=hy
  subst hx hy
  k_extra "rx"
  rw[tIsN_ap]
  refine⟨_,rfl,?_⟩
  refine⟨_,rfl,brk (fun z=>nomatch z) (fun _=>?_)⟩
  k_extra "rx"
  refine⟨_,_,_,rfl,by decide,rfl,?_⟩
  refine⟨_,rfl,i_brkF ?_⟩
  k_extra "rx"
  refine⟨_,_,_,rfl,by decide,rfl,?_⟩
  refine⟨_,rfl,i_brkT ?_⟩
  k_extra "rx"
  refine i_tAndV ?_
  k_extra "rx"
  refine⟨i,rfl,?_⟩
  refine⟨_,rfl,i_brkT ?_⟩
  k_extra "rx"
  refine⟨rfl,?_⟩
  rw[decide_eq_true rfl]
  exact hQ _ (Same.refl _)
 | str _ z =>
  have hx:x=.str z:=hx
  have hy:y=.str z:=hy
  subst hx hy
  k_extra "rx"
  rw[tIsN_ap]
  refine⟨_,rfl,?_⟩
  refine⟨_,rfl,brk (fun z=>nomatch z) (fun _=>?_)⟩
  k_extra "rx"
  refine⟨_,_,_,rfl,by decide,rfl,?_⟩
  refine⟨_,rfl,i_brkF ?_⟩
  k_extra "rx"
  refine⟨_,_,_,rfl,by decide,rfl,?_⟩
  refine⟨_,rfl,i_brkF ?_⟩
  k_extra "rx"
  refine⟨_,_,_,rfl,by decide,rfl,?_⟩
  refine⟨_,rfl,i_brkT ?_⟩
  k_extra "rx"
  refine i_tAndV ?_
  k_extra "rx"
  refine⟨_,_,_,rfl,by decide,rfl,?_⟩
  refine⟨_,rfl,i_brkT ?_⟩
  k_extra "rx"
  refine⟨rfl,?_⟩
  rw[decide_eq_true rfl]
  exact hQ _ (Same.refl _)
 | tup _ l hl ih =>
  obtain⟨a,xs,rfl,ha,hX⟩:=hx
  obtain⟨b,ys,rfl,hb,hY⟩:=hy
  k_extra "rx"
  rw[tIsN_ap]
  refine⟨_,rfl,?_⟩
  refine⟨_,rfl,brk (fun z=>nomatch z) (fun _=>?_)⟩
  k_extra "rx"
  refine⟨_,_,_,rfl,by decide,ty_tup hb,?_⟩
  refine⟨_,rfl,i_brkF ?_⟩
  k_extra "rx"
  refine⟨_,_,_,rfl,by decide,ty_tup hb,?_⟩
  refine⟨_,rfl,i_brkF ?_⟩
  k_extra "rx"
  refine⟨_,_,_,rfl,by decide,ty_tup hb,?_⟩
  refine⟨_,rfl,i_brkF ?_⟩
  k_extra "rx"
  refine⟨_,_,_,rfl,by decide,ty_tup hb,?_⟩
  k_extra "rx"
  refine⟨_,_,_,rfl,by decide,ty_tup ha,?_⟩
  k_extra "rx"
  refine⟨rfl,?_⟩
  refine⟨_,rfl,i_brkF ?_⟩
  k_extra "rx"
  refine⟨_,_,_,rfl,by decide,ty_tup hb,?_⟩
  k_extra "rx"
  refine⟨_,_,_,rfl,by decide,ty_tup ha,?_⟩
  k_extra "rx"
  refine⟨rfl,?_⟩
  refine⟨_,rfl,i_brkF ?_⟩
  k_extra "rx"
  refine i_NewO (Nat.le_of_ble_eq_true rfl) fun q H1 nq s1 gq=>?_
  have ha1:=s1 _ _ ha
  have hb1:=s1 _ _ hb
  have xl:=hX.length
  have yl:=hY.length
  k_extra "rx"
  refine⟨a,q,rfl,gq,.inl ⟨_,ha1⟩,?_⟩
  refine⟨_,rfl,i_brkF ?_⟩
  k_extra "rx"
  refine⟨_,_,rfl,seqAt_tup ha1,?_⟩
  k_extra "rx"
  refine⟨_,_,rfl,seqAt_tup hb1,?_⟩
  refine⟨rfl,?_⟩
  rw[decide_eq_true (show V.int (xs.length:Nat)=V.int (ys.length:Nat) by rw[← xl,← yl])]
  refine⟨_,rfl,i_brkF ?_⟩
  k_extra "rx"
  refine⟨_,rfl,b,_,rfl,seqAt_tup hb1,_,rfl,by omega,by omega,fun F hF=>?_⟩
  refine comp_rangeR (fun i acc H2=>Same H1 H2∧H2 F=some (.lst acc)∧acc=(List.replicate i true).map V.bl) ⟨Same.new hF,upd_same,rfl⟩ ?_ ?_
  ·rintro i acc H2 hi ⟨s2,hF2,rfl⟩
   have hi:i < l.length:=by omega
   obtain⟨u,eu,hu⟩:=hX.get (List.getElem?_eq_getElem hi)
   obtain⟨v,ev,hv⟩:=hY.get (List.getElem?_eq_getElem hi)
   have e1:atI xs (0+(i:Int))=some u:=by rw[Int.zero_add];exact atI_nat eu
   have e2:atI ys (0+(i:Int))=some v:=by rw[Int.zero_add];exact atI_nat ev
   have ha2:=s2 _ _ ha1
   have hb2:=s2 _ _ hb1
   simp only[gName_ap,tYes,if_true]
   k_extra "rx"
   refine⟨a,xs,_,u,rfl,rfl,seqAt_tup ha2,e1,?_⟩
   k_extra "rx"
   refine⟨b,ys,_,v,rfl,rfl,seqAt_tup hb2,e2,?_⟩
   refine⟨l[i],u,v,rfl,Den.same (s1.trans s2) hu,Den.same (s1.trans s2) hv,ih _ (List.getElem_mem hi),fun H3 s3=>?_⟩
   refine⟨s3 _ _ hF2,small1000 (by rw[List.length_map,List.length_replicate];omega),same_put hF (s2.trans s3),upd_same,?_⟩
   rw[List.replicate_succ',List.map_append]
   rfl
  ·rintro acc H2 ⟨s2,hF2,rfl⟩
   refine⟨F,_,rfl,hF2,?_⟩
   have e:∀ n,(List.replicate n true).all id=true:=fun n=>by simp
   rw[e]
   exact hQ _ (s1.trans s2)
theorem ok__law_any_number(D:DefAt K mg "_law_any_number" s__law_any_number f fd)(T:Txt w.params K mg cx)(d__law_pull:DefOk P w K mg base CX0 1 "_law_pull" ["_law_bag_here","_law_many"] sp__law_pull):DefOk P w K mg base CX0 2 "_law_any_number" ["_law_bag_here"] sp__law_any_number:=by
 refine D.ok (D.q sc__law_any_number (fun vs H Q E h=>?_) (fun cdv A outer s H vs Q E hr h=>?_)) (D.fn.binds fun _ _ _ _ _ _ us hl=>match us,hl with | [_],_=>rfl)
 ·obtain⟨_,_,rfl,_⟩:=h
  rfl
 obtain⟨B,L,rfl,hB,hQ⟩:=h
 refine⟨_,(qss_cons (qs_sL 1 sc__law_any_number.nd (qe_iS (qe_lst (qa_cons qe_int (qa_cons qe_int (qa_cons (qe_op op_pow qe_int qe_int) (qa_cons (qe_op op_pow qe_int qe_int) (qa_cons (qe_op op_pow qe_int qe_int) qa_nil)))))) (qe_g d__law_pull (qa_2 (qv 0) qe_int))))
   (qss_one (qs_ret (qe_g d__law_pull (qa_2 (qv 0) (qv 1)))))),?_⟩
 k_extra "rd"
 intro p hp
 have npB:p≠B:=hB.ne hp
 refine⟨B,5,L,rfl,hB.new hp,by decide,by decide,fun d H1 d0 d1 b1 f1=>?_⟩
 have hp1:=f1 p _ npB upd_same
 obtain⟨x,ex,hx1,hx2⟩:=pick (P:=fun x=>0 < x∧x≤10000000000000) [10,1000,10 ^ 6,10 ^ 12,10 ^ 13] d0 d1 (by decide)
 have ex':atI [V.int 10,V.int 1000,V.int 1000000,V.int 1000000000000,V.int 10000000000000] d=some (.int x):=ex
 k_extra "rd"
 refine⟨B,x,L,rfl,b1,hx1,Sz.mono (j:=50) (Sz.of (by omega)) (by decide),fun d2 H2 e0 e1 b2 f2=>?_⟩
 obtain⟨m,rfl⟩:=Int.eq_ofNat_of_zero_le e0
 exact hQ m H2 (by omega) b2 ((Fr1.new hp).trans (f1.trans f2))
theorem ok__law_any_name(D:DefAt K mg "_law_any_name" s__law_any_name f fd)(T:Txt w.params K mg cx)(d__law_word:DefOk P w K mg base CX0 2 "_law_word" ["_law_bag_here","_law_size"] sp__law_word)(d__law_pull:DefOk P w K mg base CX0 1 "_law_pull" ["_law_bag_here","_law_many"] sp__law_pull):DefOk P w K mg base CX0 3 "_law_any_name" ["_law_bag_here"] sp__law_any_name:=by
 refine D.ok (D.q sc__law_any_name (fun vs H Q E h=>?_) (fun cdv A outer s H vs Q E hr h=>?_)) (D.fn.binds fun _ _ _ _ _ _ us hl=>match us,hl with | [_],_=>rfl)
 ·obtain⟨_,_,rfl,_⟩:=h
  rfl
 obtain⟨B,L,rfl,hB,hQ⟩:=h
 refine⟨_,(qss_one (qs_ret (qe_g d__law_word (qa_2 (qv 0) (qe_op op_add qe_int (qe_g d__law_pull (qa_2 (qv 0) qe_int))))))),?_⟩
 k_extra "rx"
 refine⟨B,8,L,rfl,hB,by decide,by decide,fun d H1 d0 d1 b1 f1=>?_⟩
 obtain⟨m,rfl⟩:=Int.eq_ofNat_of_zero_le d0
 k_extra "rx"
 refine⟨B,L,1+m,rfl,b1,by omega,fun z H2 hz hl b2 f2=>?_⟩
 refine hQ z H2 ?_ b2 (f1.trans f2)
 unfold nameB
 rw[decide_eq_true (by omega),decide_eq_true (by omega),Bool.true_and,Bool.true_and]
 exact List.all_eq_true.mpr hl
theorem ok__law_any_heap(D:DefAt K mg "_law_any_heap" s__law_any_heap f fd)(T:Txt w.params K mg cx)(d__law_heaps:DefOk P w K mg base CX0 1 "_law_heaps" ["_law_many"] sp__law_heaps)(d__law_pull:DefOk P w K mg base CX0 1 "_law_pull" ["_law_bag_here","_law_many"] sp__law_pull):DefOk P w K mg base CX0 2 "_law_any_heap" ["_law_bag_here"] sp__law_any_heap:=by
 refine D.ok (D.q sc__law_any_heap (fun vs H Q E h=>?_) (fun cdv A outer s H vs Q E hr h=>?_)) (D.fn.binds fun _ _ _ _ _ _ us hl=>match us,hl with | [_],_=>rfl)
 ·obtain⟨_,_,rfl,_⟩:=h
  rfl
 obtain⟨B,L,rfl,hB,hQ⟩:=h
 refine⟨_,(qss_cons (qs_sL 1 sc__law_any_heap.nd (qe_g d__law_heaps (qa_1 qe_int)))
   (qss_one (qs_ret (qe_iS (qv 1) (qe_op op_add qe_int (qe_g d__law_pull (qa_2 (qv 0) (qe_op op_sub (qe_callB call_lenF (by rfl) T.n_len bt_len (qa_1 (qv 1))) qe_int)))))))),?_⟩
 k_extra "rx"
 refine⟨6,rfl,by decide,fun F xs H1 s1 nF hF hS=>?_⟩
 have b1:=hB.keep s1
 have xl:xs.length=64:=hS.1
 have nB:F≠B:=hB.ne nF
 k_extra "rx"
 refine⟨B,_,L,rfl,b1,by rw[xl];decide,by rw[xl];decide,fun d H2 d0 d1 b2 f2=>?_⟩
 rw[xl] at d1
 obtain⟨m,rfl⟩:=Int.eq_ofNat_of_zero_le d0
 have hF2:=f2 _ _ nB hF
 have hm:1+m < 64:=by omega
 obtain⟨t,et,ht⟩:=hS.2 (1+m) hm
 have a1:atI xs (1+(m:Int))=some (.ref t):=by
  have:=atI_nat et
  rw[Int.natCast_add] at this
  exact this
 have nt:t≠B:=fun z=>by
  obtain⟨_,_,_,_,q,_⟩:=b1
  rw[← z,ht] at q
  cases q
 k_extra "rx"
 exact hQ t (1+m) H2 (by omega) hm (f2 _ _ nt ht) b2 ((Fr1.of s1).trans f2)
theorem ok__law_any_deed(D:DefAt K mg "_law_any_deed" s__law_any_deed f fd)(T:Txt w.params K mg cx)(d__law_pull:DefOk P w K mg base CX0 1 "_law_pull" ["_law_bag_here","_law_many"] sp__law_pull)(d__law_any_name:DefOk P w K mg base CX0 3 "_law_any_name" ["_law_bag_here"] sp__law_any_name)(d__law_any_heap:DefOk P w K mg base CX0 2 "_law_any_heap" ["_law_bag_here"] sp__law_any_heap)(d__law_any_number:DefOk P w K mg base CX0 2 "_law_any_number" ["_law_bag_here"] sp__law_any_number):DefOk P w K mg base CX0 4 "_law_any_deed" ["_law_bag_here"] sp__law_any_deed:=by
 refine D.ok (D.q sc__law_any_deed (fun vs H Q E h=>?_) (fun cdv A outer s H vs Q E hr h=>?_)) (D.fn.binds fun _ _ _ _ _ _ us hl=>match us,hl with | [_],_=>rfl)
 ·obtain⟨_,_,rfl,_⟩:=h
  rfl
 obtain⟨B,L,rfl,hB,hQ⟩:=h
 refine⟨_,(qss_cons (qs_sL 1 sc__law_any_deed.nd (qe_lst (qa_cons (qe_tup (qa_2 qe_str qe_str)) (qa_cons (qe_tup (qa_2 qe_str qe_str)) (qa_cons (qe_tup (qa_2 qe_str qe_str)) (qa_cons (qe_tup (qa_2 qe_str qe_str)) (qa_cons (qe_tup (qa_2 qe_str qe_str)) (qa_cons (qe_tup (qa_2 qe_str qe_str)) (qa_cons (qe_tup (qa_2 qe_str qe_str)) (qa_cons (qe_tup (qa_2 qe_str qe_str)) (qa_cons (qe_tup (qa_2 qe_str qe_str)) (qa_cons (qe_tup (qa_2 qe_str qe_str)) qa_nil))))))))))))
   (qss_cons (qs_asg (qe_iS (qv 1) (qe_g d__law_pull (qa_2 (qv 0) qe_int))) (qg_tupK (K:=K) (n:=2) rfl rfl (qgs_cons (qg_name (i:=2) sc__law_any_deed.nd rfl (Or.inl rfl)) (qgs_cons (qg_name (i:=3) sc__law_any_deed.nd rfl (Or.inl rfl)) qgs_nil))))
   (qss_cons (qs_sL 4 sc__law_any_deed.nd (qe_lst (qa_1 (qv 2))))
   (qss_cons (qs_for PassesOwn.never rfl (qi_str (qv 3)) (qg_name (i:=5) sc__law_any_deed.nd rfl (Or.inl rfl)) (qss_one (qs_if (qt_cmpR op_eq (qv 5) qe_str (nomark _)) (qss_one (qs_expr (qe_bmK (K:=K) rfl PySem.F.plainAttrs_list PySem.F.slot_list_append PySem.F.type_list_append mt_append (qv 4) (qa_1 (qe_g d__law_any_name (qa_1 (qv 0))))))) (qss_one (qs_if (qt_cmpR op_eq (qv 5) qe_str (nomark _)) (qss_one (qs_expr (qe_bmK (K:=K) rfl PySem.F.plainAttrs_list PySem.F.slot_list_append PySem.F.type_list_append mt_append (qv 4) (qa_1 (qe_g d__law_any_heap (qa_1 (qv 0))))))) (qss_one (qs_expr (qe_bmK (K:=K) rfl PySem.F.plainAttrs_list PySem.F.slot_list_append PySem.F.type_list_append mt_append (qv 4) (qa_1 (qe_g d__law_any_number (qa_1 (qv 0))))))))))))
   (qss_one (qs_ret (qe_callTy call_tupF (by rfl) T.n_tuple bt_tuple (qa_1 (qv 4))))))))),?_⟩
 k_extra "rx"
 refine i_NewO (Nat.le_of_ble_eq_true rfl) fun p0 H1 n0 s0 g0=>?_
 k_extra "rx"
 refine i_NewO (Nat.le_of_ble_eq_true rfl) fun p1 H2 n1 s1 g1=>?_
 k_extra "rx"
 refine i_NewO (Nat.le_of_ble_eq_true rfl) fun p2 H3 n2 s2 g2=>?_
 k_extra "rx"
 refine i_NewO (Nat.le_of_ble_eq_true rfl) fun p3 H4 n3 s3 g3=>?_
 k_extra "rx"
 refine i_NewO (Nat.le_of_ble_eq_true rfl) fun p4 H5 n4 s4 g4=>?_
 k_extra "rx"
 refine i_NewO (Nat.le_of_ble_eq_true rfl) fun p5 H6 n5 s5 g5=>?_
 k_extra "rx"
 refine i_NewO (Nat.le_of_ble_eq_true rfl) fun p6 H7 n6 s6 g6=>?_
 k_extra "rx"
 refine i_NewO (Nat.le_of_ble_eq_true rfl) fun p7 H8 n7 s7 g7=>?_
 k_extra "rx"
 refine i_NewO (Nat.le_of_ble_eq_true rfl) fun p8 H9 n8 s8 g8=>?_
 k_extra "rx"
 refine i_NewO (Nat.le_of_ble_eq_true rfl) fun p9 H10 n9 s9 g9=>?_
 k_extra "rx"
 refine i_NewO (Nat.le_of_ble_eq_true rfl) fun F H11 nF sF gF=>?_
 have ss:Same H H11:=((((((((((s0).trans s1).trans s2).trans s3).trans s4).trans s5).trans s6).trans s7).trans s8).trans s9).trans sF
 have g0:=((((((((((s1).trans s2).trans s3).trans s4).trans s5).trans s6).trans s7).trans s8).trans s9).trans sF) _ _ g0
 have g1:=(((((((((s2).trans s3).trans s4).trans s5).trans s6).trans s7).trans s8).trans s9).trans sF) _ _ g1
 have g2:=((((((((s3).trans s4).trans s5).trans s6).trans s7).trans s8).trans s9).trans sF) _ _ g2
 have g3:=(((((((s4).trans s5).trans s6).trans s7).trans s8).trans s9).trans sF) _ _ g3
 have g4:=((((((s5).trans s6).trans s7).trans s8).trans s9).trans sF) _ _ g4
 have g5:=(((((s6).trans s7).trans s8).trans s9).trans sF) _ _ g5
 have g6:=((((s7).trans s8).trans s9).trans sF) _ _ g6
 have g7:=(((s8).trans s9).trans sF) _ _ g7
 have g8:=((s9).trans sF) _ _ g8
 have g9:=(sF) _ _ g9
 clear s0 s1 s2 s3 s4 s5 s6 s7 s8 s9 sF nF n0 n1 n2 n3 n4 n5 n6 n7 n8 n9
 have b1:=hB.keep ss
 have tb:∀ j:Nat,j < 10→∃ p,atI [V.ref p0,.ref p1,.ref p2,.ref p3,.ref p4,.ref p5,.ref p6,.ref p7,.ref p8,.ref p9] (j:Int)=some (.ref p)∧H11 p=some (.tup [.str (kwS j),.str (fmS j)]):=fun j hj=>by
  have:j=0∨j=1∨j=2∨j=3∨j=4∨j=5∨j=6∨j=7∨j=8∨j=9:=by omega
  rcases this with rfl | rfl | rfl | rfl | rfl | rfl | rfl | rfl | rfl | rfl
  ·exact⟨p0,atI_nat (j:=0) rfl,g0⟩
  ·exact⟨p1,atI_nat (j:=1) rfl,g1⟩
  ·exact⟨p2,atI_nat (j:=2) rfl,g2⟩
  ·exact⟨p3,atI_nat (j:=3) rfl,g3⟩
  ·exact⟨p4,atI_nat (j:=4) rfl,g4⟩
  ·exact⟨p5,atI_nat (j:=5) rfl,g5⟩
  ·exact⟨p6,atI_nat (j:=6) rfl,g6⟩
  ·exact⟨p7,atI_nat (j:=7) rfl,g7⟩
  ·exact⟨p8,atI_nat (j:=8) rfl,g8⟩
  ·exact⟨p9,atI_nat (j:=9) rfl,g9⟩
 clear g0 g1 g2 g3 g4 g5 g6 g7 g8 g9
 k_extra "rx"
 refine⟨B,10,L,rfl,b1,by decide,by decide,fun d H12 d0 d1 b2 f2=>?_⟩
 obtain⟨j,rfl⟩:=Int.eq_ofNat_of_zero_le d0
 have hj:j < 10:=by omega
 obtain⟨p,ep,hp⟩:=tb j hj
 have nFB:F≠B:=fun z=>by
  obtain⟨_,_,_,_,q,_⟩:=b1
  rw[← z,gF] at q
  cases q
 have gF2:=f2 _ _ nFB gF
 have hp2:=TS.fr b1 f2 _ _ hp
 have f12:Fr1 B H H12:=(Fr1.of ss).trans f2
 clear tb f2 hp gF ss b1 hB
 k_extra "rx"
 refine⟨p,_,rfl,SqT.of hp2,rfl,_,_,rfl,_,_,rfl,rfl,?_⟩
 dsimp only
 k_extra "rx"
 refine i_NewO (Nat.le_of_ble_eq_true rfl) fun G H13 nG sG gG=>?_
 have b3:=b2.keep sG
 have f13:=f12.trans (Fr1.of sG)
 have gB:=b2.ne nG
 have gL:=b2.neL nG
 have G0:H G=none:=by
  cases e:H G with
  | none=>rfl
  | some o=>rw[f12 G o gB e] at nG;cases nG
 obtain⟨e1,e2,e3⟩:=fm_sg j hj
 have f4:=fm_len j hj
 clear f12 sG nG b2 hp2
 k_extra "rx"
 refine⟨_,rfl,_,rfl,asc_of e2,for_strN (fun i σ H'=>∃ v5 xs ds,σ=[some (.ref B),some (.ref F),some (.str (kwS j)),some (.str (fmS j)),some (.ref G),v5]∧BagAt H' B L∧Fr1 B H H'∧H' G=some (.lst (.str (kwS j)::xs))∧Dens H' ds xs∧Paired okW ((fmK j).take i) ds) ⟨_,[],[],rfl,b3,f13,gG,rfl,.nil⟩ ?_ ?_⟩
 ·rintro i c σ H1 NN BB hc ⟨v5,xs,ds,rfl,b1,f1,g1,hD,hP⟩ kN kB
  clear kB
  have hi:i < (fmK j).length:=by
   have:i < (sg (fmS j)).length:=by rw[← sg_size];exact (Array.getElem?_eq_some_iff.mp hc).1
   rw[e1,List.length_map] at this
   exact this
  have ec:c=chK (fmK j)[i]:=by
   have h1:(sg (fmS j))[i]?=some c:=by unfold sg;simpa using hc
   rw[e1,List.getElem?_map,List.getElem?_eq_getElem hi] at h1
   exact (Option.some.inj h1).symm
  have k3:=e3 _ (List.getElem_mem hi)
  have et:(fmK j).take (i+1)=(fmK j).take i++[(fmK j)[i]]:=List.take_succ_eq_append_getElem hi
  have xl:xs.length≤4:=by
   have h1:=hD.length
   have h2:=hP.length
   rw[List.length_take] at h2
   omega
  have okd:=rgt hP
  have put:∀(v:V)(d:Dt)(H2:Hp),okW (fmK j)[i] d→Den H2 d v→BagAt H2 B L→Fr1 B H1 H2→(H2 G=some (.lst (.str (kwS j)::xs))∧((.str (kwS j)::xs:List V)).length < sizeLine∧NN [some (.ref B),some (.ref F),some (.str (kwS j)),some (.str (fmS j)),some (.ref G),some (.str ⟨#[c]⟩)] (upd H2 G (.lst (.str (kwS j)::xs++[v])))):=fun v d H2 ok hv b2 f2=>by
   have g2:=f2 _ _ gB g1
   have ts:=TS.lst (o:=.lst (.str (kwS j)::(xs++[v]))) g2
   refine⟨g2,small1000 (by show xs.length+1≤1000;omega),kN _ _ ⟨_,xs++[v],ds++[d],rfl,b2.put gB gL,fr_put G0 (f1.trans f2),upd_same,?_,by rw[et];exact pair_snoc hP ok⟩⟩
   exact Dens.snoc (dens_ts ts okd (dens_ts (TS.fr b1 f2) okd hD)) (ok.ts hv ts)
  refine i_gName ?_
  generalize (fmK j)[i]=k at ec k3 put
  have:k=0∨k=1∨k=2:=by omega
  rcases this with rfl | rfl | rfl
  ·have q1:V.str ⟨#[c]⟩=V.str (Str.ofString "n"):=by rw[ec];exact congrArg V.str (by decide +kernel)
   k_extra "rx"
   refine⟨rfl,?_⟩
   refine⟨_,rfl,brkD (fun _=>?_) (fun h=>absurd q1 h)⟩
   k_extra "rx"
   refine i_tBM ?_
   k_extra "rx"
   refine⟨.inl ⟨rfl,_,SqL.of g1⟩,?_⟩
   k_extra "rx"
   refine⟨B,L,rfl,b1,fun z H2 hz b2 f2=>?_⟩
   obtain⟨p1,p2,p3⟩:=put (.str z) (.str z) H2 (.nm z hz) rfl b2 f2
   k_extra "rx"
   exact⟨G,_,_,rfl,rfl,p1,p2,p3⟩
  ·have q1:¬ V.str ⟨#[c]⟩=V.str (Str.ofString "n"):=by rw[ec];exact fun z=>absurd (V.str.inj z) (by decide +kernel)
   have q2:V.str ⟨#[c]⟩=V.str (Str.ofString "h"):=by rw[ec];exact congrArg V.str (by decide +kernel)
   k_extra "rx"
   refine⟨rfl,?_⟩
   refine⟨_,rfl,brkD (fun h=>absurd h q1) (fun _=>?_)⟩
   k_extra "rx"
   refine⟨rfl,?_⟩
   refine⟨_,rfl,brkD (fun _=>?_) (fun h=>absurd q2 h)⟩
   k_extra "rx"
   refine i_tBM ?_
   k_extra "rx"
   refine⟨.inl ⟨rfl,_,SqL.of g1⟩,?_⟩
   k_extra "rx"
   refine⟨B,L,rfl,b1,fun t n H2 n0 n1 ht b2 f2=>?_⟩
   obtain⟨p1,p2,p3⟩:=put (.ref t) _ H2 (.hp n n0 n1) ⟨t,_,rfl,ht,ints_dens _⟩ b2 f2
   k_extra "rx"
   exact⟨G,_,_,rfl,rfl,p1,p2,p3⟩
  ·have q1:¬ V.str ⟨#[c]⟩=V.str (Str.ofString "n"):=by rw[ec];exact fun z=>absurd (V.str.inj z) (by decide +kernel)
   have q2:¬ V.str ⟨#[c]⟩=V.str (Str.ofString "h"):=by rw[ec];exact fun z=>absurd (V.str.inj z) (by decide +kernel)
   k_extra "rx"
   refine⟨rfl,?_⟩
   refine⟨_,rfl,brkD (fun h=>absurd h q1) (fun _=>?_)⟩
   k_extra "rx"
   refine⟨rfl,?_⟩
   refine⟨_,rfl,brkD (fun h=>absurd h q2) (fun _=>?_)⟩
   k_extra "rx"
   refine i_tBM ?_
   k_extra "rx"
   refine⟨.inl ⟨rfl,_,SqL.of g1⟩,?_⟩
   k_extra "rx"
   refine⟨B,L,rfl,b1,fun n H2 hn b2 f2=>?_⟩
   obtain⟨p1,p2,p3⟩:=put (.int n) (.int n) H2 (.nu n hn) rfl b2 f2
   k_extra "rx"
   exact⟨G,_,_,rfl,rfl,p1,p2,p3⟩
 ·rintro σ H1 ⟨v5,xs,ds,rfl,b1,f1,g1,hD,hP⟩
  have:(fmS j).cps.size=(fmK j).length:=by rw[sg_size,e1,List.length_map]
  rw[this,List.take_length] at hP
  k_extra "rx"
  refine⟨G,_,rfl,g1,fun a ha=>?_⟩
  have s2:=Same.new (o:=.tup (.str (kwS j)::xs)) ha
  exact hQ a j ds _ hj hP ⟨a,_,rfl,upd_same,dens1 rfl (Dens.same s2 hD)⟩ (b1.keep s2) (f1.trans (Fr1.of s2))
theorem ok__law_thing_text(D:DefAt K mg "_law_thing_text" s__law_thing_text f fd)(T:Txt w.params K mg cx):DefOk P w K mg base CX0 1 "_law_thing_text" ["_law_thing"] sp__law_thing_text:=by
 refine D.ok (D.q sc__law_thing_text (fun vs H Q E h=>?_) (fun cdv A outer s H vs Q E hr h=>?_)) (D.fn.binds fun _ _ _ _ _ _ us hl=>match us,hl with | [_],_=>rfl)
 ·obtain⟨_,_,rfl,_⟩:=h
  rfl
 obtain⟨v,d,rfl,hd,hx,hQ⟩:=h
 refine⟨_,(qss_cons (qs_if (qt_val (qe_callB call_isi (by rfl) T.n_isinstance bt_isinstance (qa_2 (qv 0) (qe_bltn (v:=.ty "tuple") (by rfl) T.n_tuple bt_tuple rfl)))) (qss_one (qs_ret (qe_bmK (K:=K) rfl PySem.F.plainAttrs_str PySem.F.slot_str_join PySem.F.type_str_join mt_join qe_str (qa_1 (qe_cp ["_law_place"] [] (qi_tupK (K:=K) rfl (qv 0)) (gext_name (by decide)) (fun _ _ _ _ _=>⟨(qg_name (i:=0) (show (["_law_place"]:List Str).Nodup by decide +kernel) rfl (Or.inl rfl)),qf_nil,(qe_callTy call_str1 (by rfl) T.n_str bt_str (qa_1 (qv 0)))⟩)))))) qss_nil)
   (qss_one (qs_ret (qe_callTy call_str1 (by rfl) T.n_str bt_str (qa_1 (qv 0)))))),?_⟩
 cases hx with
 | str z hz =>
  have hd:v=.str z:=hd
  subst hd
  k_extra "rx"
  refine⟨_,_,_,rfl,by decide,rfl,?_⟩
  refine⟨_,rfl,i_brkF ?_⟩
  k_extra "rx"
  refine i_strS ?_
  exact hQ _ (Same.refl _)
 | int n hn =>
  have hd:v=.int n:=hd
  subst hd
  k_extra "rx"
  refine⟨_,_,_,rfl,by decide,rfl,?_⟩
  refine⟨_,rfl,i_brkF ?_⟩
  k_extra "rx"
  refine i_strN (Nat.lt_of_lt_of_le hn (by decide +kernel)) ?_
  exact hQ _ (Same.refl _)
 | hp js hj hb =>
  obtain⟨t,xs,rfl,ht,hD⟩:=hd
  have:=dens_ints hD
  subst this
  rw[txD_hp] at hQ
  k_extra "rx"
  refine⟨_,_,_,rfl,by decide,ty_tup ht,?_⟩
  refine⟨_,rfl,i_brkT ?_⟩
  k_extra "rx"
  refine⟨rfl,?_⟩
  k_extra "rx"
  refine⟨_,rfl,t,rfl,⟨_,SqT.of ht⟩,fun F hF=>?_⟩
  refine comp_tupR (K:=K) (a:=t) (xs:=js.map V.int) (fun i acc H2=>Same H H2∧H2 F=some (.lst acc)∧acc=((js.take i).map dec).map V.str) ⟨Same.new hF,upd_same,rfl⟩ (fun i acc H2 _ ⟨s2,_⟩=>SqT.of (s2 _ _ ht)) ?_ ?_
  ·rintro i y acc H2 hy ⟨s2,hF2,rfl⟩
   obtain⟨hi,rfl⟩:=int_at hy
   have b:=hb js[i] (List.getElem_mem hi)
   have len:(((js.take i).map dec).map V.str).length≤6:=by rw[List.length_map,List.length_map,List.length_take];omega
   have et:((js.take (i+1)).map dec).map V.str=((js.take i).map dec).map V.str++[V.str (dec js[i])]:=by rw[List.take_succ_eq_append_getElem hi,List.map_append,List.map_append];rfl
   rw[et]
   simp only[gName_ap,tYes,if_true]
   k_extra "rx"
   refine i_strN (Nat.lt_of_lt_of_le (by omega:(js[i]).natAbs < 10) (by decide +kernel)) ?_
   exact⟨hF2,small1000 (by omega),same_put hF s2,upd_same,rfl⟩
  ·rintro acc H2 ⟨s2,hF2,rfl⟩
   rw[List.length_map,List.take_length] at hF2
   refine⟨_,F,js.map dec,rfl,rfl,hF2,?_,?_⟩
   ·have:∀ l:List Int,(∀ x∈l,0≤x∧x < 10)→((l.map dec).map (·.length)).sum≤70*l.length:=by
     intro l
     induction l with
     | nil=>intro _;exact Nat.le_refl _
     | cons a l ih =>
      intro h
      have h1:=ih fun x hx=>h x (List.mem_cons_of_mem _ hx)
      have h2:=h a List.mem_cons_self
      have h3:=dec_len (n:=a) (Nat.lt_of_lt_of_le (by omega:a.natAbs < 10) (by decide +kernel))
      rw[List.map_cons,List.map_cons,List.sum_cons,List.length_cons]
      omega
    have h1:=this js hb
    have l0:(Str.ofString "").length=0:=rfl
    rw[l0]
    omega
   ·exact hQ _ s2
theorem ok__law_deed_text(D:DefAt K mg "_law_deed_text" s__law_deed_text f fd)(T:Txt w.params K mg cx)(d__law_thing_text:DefOk P w K mg base CX0 1 "_law_thing_text" ["_law_thing"] sp__law_thing_text):DefOk P w K mg base CX0 2 "_law_deed_text" ["_law_deed"] sp__law_deed_text:=by
 refine D.ok (D.q sc__law_deed_text (fun vs H Q E h=>?_) (fun cdv A outer s H vs Q E hr h=>?_)) (D.fn.binds fun _ _ _ _ _ _ us hl=>match us,hl with | [_],_=>rfl)
 ·obtain⟨_,_,rfl,_⟩:=h
  rfl
 obtain⟨a,ds,rfl,hd,hl,hx,hQ⟩:=h
 refine⟨_,(qss_one (qs_ret (qe_bmK (K:=K) rfl PySem.F.plainAttrs_str PySem.F.slot_str_join PySem.F.type_str_join mt_join qe_str (qa_1 (qe_cp ["_law_thing"] [] (qi_tupK (K:=K) rfl (qv 0)) (gext_name (by decide)) (fun _ _ _ _ _=>⟨(qg_name (i:=0) (show (["_law_thing"]:List Str).Nodup by decide +kernel) rfl (Or.inl rfl)),qf_nil,(qe_g d__law_thing_text (qa_1 (qv 0)))⟩)))))),?_⟩
 obtain⟨a',xs,e,ha,hD⟩:=hd
 cases e
 have xl:=hD.length
 k_extra "rx"
 refine⟨rfl,?_⟩
 k_extra "rx"
 refine⟨_,rfl,a,rfl,⟨_,SqT.of ha⟩,fun F hF=>?_⟩
 refine comp_tupR (K:=K) (a:=a) (xs:=xs) (fun i acc H2=>Same H H2∧H2 F=some (.lst acc)∧acc=((ds.take i).map txD).map V.str) ⟨Same.new hF,upd_same,rfl⟩ (fun i acc H2 _ ⟨s2,_⟩=>SqT.of (s2 _ _ ha)) ?_ ?_
 ·rintro i y acc H2 hy ⟨s2,hF2,rfl⟩
  have hi:i < ds.length:=by rw[xl];exact (List.getElem?_eq_some_iff.mp hy).1
  obtain⟨y',ey,hy'⟩:=hD.get (List.getElem?_eq_getElem hi)
  rw[ey] at hy
  cases hy
  have len:(((ds.take i).map txD).map V.str).length≤6:=by rw[List.length_map,List.length_map,List.length_take];omega
  have et:((ds.take (i+1)).map txD).map V.str=((ds.take i).map txD).map V.str++[V.str (txD ds[i])]:=by rw[List.take_succ_eq_append_getElem hi,List.map_append,List.map_append];rfl
  rw[et]
  simp only[gName_ap,tYes,if_true]
  k_extra "rx"
  refine⟨_,ds[i],rfl,Den.same s2 hy',hx _ (List.getElem_mem hi),fun H3 s3=>?_⟩
  exact⟨s3 _ _ hF2,small1000 (by omega),same_put hF (s2.trans s3),upd_same,rfl⟩
 ·rintro acc H2 ⟨s2,hF2,rfl⟩
  rw[← xl,List.take_length] at hF2
  refine⟨_,F,ds.map txD,rfl,rfl,hF2,?_,hQ _ s2⟩
  have h1:=tx_sum ds hx
  have l0:(Str.ofString " ").length=1:=rfl
  rw[l0,List.length_map]
  omega
theorem ok__law_figures(D:DefAt K mg "_law_figures" s__law_figures f fd)(T:Txt w.params K mg cx):DefOk P w K mg base CX0 1 "_law_figures" ["_law_word_here"] sp__law_figures:=by
 refine D.ok (D.q sc__law_figures (fun vs H Q E h=>?_) (fun cdv A outer s H vs Q E hr h=>?_)) (D.fn.binds fun _ _ _ _ _ _ us hl=>match us,hl with | [_],_=>rfl)
 ·obtain⟨_,rfl,_⟩:=h
  rfl
 obtain⟨z,rfl,hz,hg,hQ⟩:=h
 refine⟨_,(qss_one (qs_ret (qe_and (qe_cmpR op_ne (qv 0) qe_str (nomark _)) (qe_one (qe_callB (call_allF rfl) (by rfl) T.n_all bt_all (qa_1 (qe_cp ["_law_sign"] [] (qi_str (qv 0)) (gext_name (by decide)) (fun _ _ _ _ _=>⟨(qg_name (i:=0) (show (["_law_sign"]:List Str).Nodup by decide +kernel) rfl (Or.inl rfl)),qf_nil,(qe_cmpR op_in_str (qv 0) qe_str (by rfl))⟩)))))))),?_⟩
 k_extra "rx"
 refine i_tAndV ?_
 k_extra "rx"
 refine⟨rfl,?_⟩
 refine⟨_,rfl,brkN (fun h1=>?_) (fun h1=>?_)⟩
 ·have h0:0 < z.length:=by
   rcases Nat.eq_zero_or_pos z.length with e | e
   ·refine absurd ?_ h1
    congr 1
    apply str_ext
    rw[sg_of]
    exact List.eq_nil_of_length_eq_zero (by rw[sg_len];exact e)
   ·exact e
  k_extra "rx"
  refine⟨_,rfl,z,rfl,asc_of fun c hc=>hg c hc,fun l hl=>?_⟩
  rw[fig_eq]
  refine comp_strR (fun i acc H2=>Same H H2∧H2 l=some (.lst acc)∧acc=((sg z).take i).map fun c=>V.bl (decide (c∈sg FIG))) ⟨Same.new hl,upd_same,rfl⟩ ?_ ?_
  ·rintro i c acc H2 hc ⟨s2,hl2,rfl⟩
   rw[sg_take _ hc]
   have hlen:(((sg z).take i).map fun c=>V.bl (decide (c∈sg FIG))).length≤1000:=by
    rw[List.length_map,List.length_take,sg_len]
    omega
   simp only[gName_ap,tYes,if_true]
   refine⟨_,rfl,_,_,rfl,rfl,?_⟩
   rw[StrLaws.found_one]
   exact⟨hl2,small1000 hlen,same_put hl s2,upd_same,rfl⟩
  ·rintro acc H2 ⟨s2,hl2,rfl⟩
   rw[sg_size,List.take_length] at hl2
   refine⟨l,(sg z).map fun c=>decide (c∈sg FIG),rfl,by rw[List.map_map];exact hl2,?_⟩
   have e:((sg z).map fun c=>decide (c∈sg FIG)).all id=consB z FIG:=by
    unfold consB
    rw[List.all_map,decide_eq_true h0,Bool.true_and]
    rfl
   rw[e]
   exact hQ _ s2
 ·k_extra "rx"
  have e:consB z FIG=false:=by
   unfold consB
   rw[V.str.inj h1]
   decide +kernel
  rw[← e]
  exact hQ _ (Same.refl _)
theorem ok__law_thing_in(D:DefAt K mg "_law_thing_in" s__law_thing_in f fd)(T:Txt w.params K mg cx)(d__law_figures:DefOk P w K mg base CX0 1 "_law_figures" ["_law_word_here"] sp__law_figures)(d__law_heaps:DefOk P w K mg base CX0 1 "_law_heaps" ["_law_many"] sp__law_heaps):DefOk P w K mg base CX0 2 "_law_thing_in" ["_law_sign","_law_word_here"] sp__law_thing_in:=by
 refine D.ok (D.q sc__law_thing_in (fun vs H Q E h=>?_) (fun cdv A outer s H vs Q E hr h=>?_)) (D.fn.binds fun _ _ _ _ _ _ us hl=>match us,hl with | [_,_],_=>rfl)
 ·obtain⟨_,_,rfl,_⟩:=h
  rfl
 obtain⟨k,z,rfl,hk,hl,hc,hQ,hN⟩:=h
 refine⟨_,(qss_cons (qs_if (qt_cmpR op_eq (qv 0) qe_str (nomark _)) (qss_cons (qs_if (qw_and (qt_chain op_le op_le qe_int (qe_callB call_len_str (by rfl) T.n_len bt_len (qa_1 (qv 1))) qe_int) (qw_and1 (qt_val (qe_callB (call_allF rfl) (by rfl) T.n_all bt_all (qa_1 (qe_cp ["_law_one"] [] (qi_str (qv 1)) (gext_name (by decide)) (fun _ _ _ _ _=>⟨(qg_name (i:=0) (show (["_law_one"]:List Str).Nodup by decide +kernel) rfl (Or.inl rfl)),qf_nil,(qe_cmpR op_in_str (qv 0) qe_str (by rfl))⟩))))))).pt (qss_one (qs_ret (qv 1))) qss_nil)
   (qss_one (qs_ret qe_non))) qss_nil)
   (qss_cons (qs_if (qt_not (qt_val (qe_g d__law_figures (qa_1 (qv 1))))) (qss_one (qs_ret qe_non)) qss_nil)
   (qss_cons (qs_if (qt_cmpR op_eq (qv 0) qe_str (nomark _)) (qss_cons (qs_if (qw_or (qt_cmpR op_gt (qe_callB call_len_str (by rfl) T.n_len bt_len (qa_1 (qv 1))) qe_int (nomark _)) (qw_or1 (qw_and (qt_cmpR op_gt (qe_callB call_len_str (by rfl) T.n_len bt_len (qa_1 (qv 1))) qe_int (nomark _)) (qw_and1 (qt_cmpR op_eq (qe_ix ix_str (qv 1) qe_int (fun _ _=>rfl)) qe_str (nomark _)))).pt)).pt (qss_one (qs_ret qe_non)) qss_nil)
   (qss_one (qs_ret (qe_callTy call_intS (by rfl) T.n_int bt_int (qa_1 (qv 1)))))) qss_nil)
   (qss_cons (qs_sL 2 sc__law_thing_in.nd (qe_callTy call_tupF (by rfl) T.n_tuple bt_tuple (qa_1 (qe_cp ["_law_one"] [] (qi_str (qe_slice sl_str (qv 1) qo_none (qo_some qe_int))) (gext_name (by decide)) (fun _ _ _ _ _=>⟨(qg_name (i:=0) (show (["_law_one"]:List Str).Nodup by decide +kernel) rfl (Or.inl rfl)),qf_nil,(qe_callTy call_intS (by rfl) T.n_int bt_int (qa_1 (qv 0)))⟩)))))
   (qss_cons (qs_if (qw_or (qt_cmpR op_gt (qe_callB call_len_str (by rfl) T.n_len bt_len (qa_1 (qv 1))) qe_int (nomark _)) (qw_or1 (qt_cmpR (op_notInT hr.units) (qv 2) (qe_g d__law_heaps (qa_1 qe_int)) (by rfl)))).pt (qss_one (qs_ret qe_non)) qss_nil)
   (qss_one (qs_ret (qv 2)))))))),?_⟩
 by_cases k0:k=0
 ·subst k0
  k_extra "rx"
  refine⟨rfl,?_⟩
  refine⟨_,rfl,brkD (fun _=>?_) (fun h1=>absurd (by rw[ch0]) h1)⟩
  k_extra "rx"
  have none0:nameB z=false→∀ H',Same H H'→Q .non H':=fun hn=>hN (by show (if nameB z=true then _ else _)=none;rw[hn];rfl)
  refine i_tChain ?_
  k_extra "rx"
  refine⟨z,rfl,Nat.le_trans hl (by decide),?_⟩
  k_extra "rx"
  refine brkD (fun h1=>?_) (fun h1=>?_)
  ·k_extra "rx"
   refine brkD (fun h2=>?_) (fun h2=>?_)
   ·k_extra "rx"
    refine⟨_,rfl,z,rfl,asc_of fun c hc'=>hc c hc',fun l hl'=>?_⟩
    rw[let_eq]
    refine comp_strR (fun i acc H2=>Same H H2∧H2 l=some (.lst acc)∧acc=((sg z).take i).map fun c=>V.bl (lowC c)) ⟨Same.new hl',upd_same,rfl⟩ ?_ ?_
    ·rintro i c acc H2 hc' ⟨s2,hl2,rfl⟩
     rw[sg_take _ hc']
     have hlen:(((sg z).take i).map fun c=>V.bl (lowC c)).length≤1000:=by
      rw[List.length_map,List.length_take,sg_len]
      omega
     simp only[gName_ap,tYes,if_true]
     refine⟨_,rfl,_,_,rfl,rfl,?_⟩
     rw[let_in c (hc c (sg_mem hc'))]
     exact⟨hl2,small1000 hlen,same_put hl' s2,upd_same,rfl⟩
    ·rintro acc H2 ⟨s2,hl2,rfl⟩
     rw[sg_size,List.take_length] at hl2
     refine⟨l,(sg z).map fun c=>lowC c,rfl,by rw[List.map_map];exact hl2,?_⟩
     have e:((sg z).map fun c=>lowC c).all id=nameB z:=by
      unfold nameB
      rw[List.all_map,decide_eq_true (by omega:1≤z.length),decide_eq_true (by omega:z.length≤8),Bool.true_and,Bool.true_and]
      rfl
     rw[e]
     cases hn:nameB z with
     | true =>
      refine⟨_,rfl,i_brkT ?_⟩
      k_extra "rx"
      exact hQ (.str z) (if_pos hn) _ _ s2 rfl
     | false =>
      refine⟨_,rfl,i_brkF ?_⟩
      k_extra "rx"
      exact none0 hn _ s2
   ·k_extra "rx"
    exact none0 (by unfold nameB;rw[decide_eq_false (by omega:¬ z.length≤8)];simp) _ (Same.refl _)
  ·k_extra "rx"
   exact none0 (by unfold nameB;rw[decide_eq_false (by omega:¬ 1≤z.length)];rfl) _ (Same.refl _)
 ·have hk2:V.str (chS k)≠V.str (Str.ofString "n"):=fun e=>by
   have e:=V.str.inj e
   have:k=1∨k=2:=by omega
   rcases this with rfl | rfl<;>exact absurd e (by decide +kernel)
  k_extra "rx"
  refine⟨rfl,?_⟩
  refine⟨_,rfl,brkD (fun h1=>absurd h1 hk2) (fun _=>?_)⟩
  k_extra "rx"
  refine⟨z,rfl,hl,hc,fun H1 s1=>?_⟩
  cases hcb:consB z FIG with
  | false =>
   refine⟨_,rfl,i_brkT ?_⟩
   k_extra "rx"
   exact hN (rdK_nofig k0 hcb) _ s1
  | true =>
   refine⟨_,rfl,i_brkF ?_⟩
   k_extra "rx"
   obtain⟨c0,l0,el⟩:∃ c l,sg z=c::l:=by
    cases e:sg z with
    | nil=>exact absurd e (cons_all hcb).1
    | cons c l=>exact⟨c,l,rfl⟩
   by_cases k2:k=2
   ·subst k2
    refine⟨rfl,?_⟩
    refine⟨_,rfl,brkD (fun _=>?_) (fun h1=>absurd (by rw[ch2]) h1)⟩
    have nn:(¬ (z.length≤13∧((sg z).head?=some 48→z=Str.ofString "0")))→rdK 2 z=none:=fun h=>by
     show (numB z).map _=none
     rw[show numB z=none from if_neg fun q=>h q.2]
     rfl
    have yes:z.length≤13→((sg z).head?=some 48→z=Str.ofString "0")→∀ n,intText? z=some n→rdK 2 z=some (.int n):=fun h1 h2 n hn=>by
     show (numB z).map _=_
     rw[show numB z=some n from (if_pos ⟨hcb,h1,h2⟩).trans hn]
     rfl
    k_extra "rx"
    refine⟨_,rfl,Nat.le_trans hl (by decide),?_⟩
    k_extra "rx"
    refine brkD (fun h1=>?_) (fun h1=>?_)
    ·k_extra "rx"
     exact hN (nn fun q=>by have:=q.1;omega) _ s1
    obtain⟨n,hn⟩:=fig_int hcb (by omega)
    k_extra "rx"
    refine⟨_,rfl,Nat.le_trans hl (by decide),?_⟩
    k_extra "rx"
    refine brkD (fun h2=>?_) (fun h2=>?_)
    ·k_extra "rx"
     refine i_ixS (c:=c0) hl (by show atI (sg z) ((0:Nat):Int)=_;exact atI_nat (by rw[el];rfl)) ?_
     k_extra "rx"
     refine⟨rfl,?_⟩
     have z48:(⟨#[48]⟩:Str)=Str.ofString "0" := by decide +kernel
     refine⟨_,rfl,brkD (fun h3=>?_) (fun h3=>?_)⟩
     ·have e0:c0=48:=by
       have:=congrArg sg (V.str.inj h3)
       rw[sg_of] at this
       exact (List.cons.inj this).1
      k_extra "rx"
      refine hN (nn fun q=>?_) _ s1
      have e1:=congrArg Str.length (q.2 (by rw[el,e0];rfl))
      have e2:(Str.ofString "0").length=1:=by decide +kernel
      omega
     ·k_extra "rx"
      refine i_intS hn (by omega) ?_
      refine hQ (.int n) (yes (by omega) (fun h=>absurd ?_ h3) n hn) _ _ s1 rfl
      rw[el] at h
      rw[show c0=48 from Option.some.inj h,z48]
    ·k_extra "rx"
     refine i_intS hn (by omega) ?_
     refine hQ (.int n) (yes (by omega) (fun h=>?_) n hn) _ _ s1 rfl
     have z48:sg (Str.ofString "0")=[48]:=by decide +kernel
     apply str_ext
     have l1:(sg z).length≤1:=by rw[sg_len];omega
     rw[el] at h l1
     rw[List.length_cons] at l1
     rw[el,z48,show c0=48 from Option.some.inj h,List.eq_nil_of_length_eq_zero (by omega:l0.length=0)]
   ·obtain rfl:k=1:=by omega
    refine⟨rfl,?_⟩
    refine⟨_,rfl,brkD (fun h1=>absurd (V.str.inj h1) (by decide +kernel)) (fun _=>?_)⟩
    k_extra "rx"
    unfold tComp iStr
    refine i_tSl ?_
    k_extra "rx"
    refine⟨9,rfl,i_slS hl ?_⟩
    have c9:∀ c∈sg (Txt.slice z none (some 9)),c∈sg z:=fun c h=>sg_slice h
    have l9:(Txt.slice z none (some 9)).length≤1000:=Nat.le_trans (Txt.slice_le z none (some 9)) hl
    have e9:z.length≤6→Txt.slice z none (some 9)=z:=fun h=>slice9 (by omega)
    generalize Txt.slice z none (some 9)=y at c9 l9 e9 ⊢
    refine⟨_,rfl,asc_of fun c hc'=>hc c (c9 c hc'),fun l hl'=>?_⟩
    refine comp_strR (fun a acc H2=>Same H1 H2∧H2 l=some (.lst acc)∧acc=((sg y).take a).map fun (c:Nat)=>V.int ((c:Int) - 48)) ⟨Same.new hl',upd_same,rfl⟩ ?_ ?_
    ·rintro a c acc H2 hc' ⟨s2,hl2,rfl⟩
     rw[sg_take _ hc']
     have hlen:(((sg y).take a).map fun (c:Nat)=>V.int ((c:Int) - 48)).length≤1000:=by
      rw[List.length_map,List.length_take,sg_len]
      omega
     have b:=fig_mem c ((cons_all hcb).2 c (c9 c (sg_mem hc')))
     simp only[gName_ap,tYes,if_true]
     k_extra "rx"
     refine i_intS (fig_one b.1 b.2) (by show 1≤640;decide) ?_
     exact⟨hl2,small1000 hlen,same_put hl' s2,upd_same,rfl⟩
    ·rintro acc H2 ⟨s2,hl2,rfl⟩
     rw[sg_size,List.take_length] at hl2
     have ej:((sg y).map fun (c:Nat)=>V.int ((c:Int) - 48))=(jsS y).map V.int:=by unfold jsS;rw[List.map_map];rfl
     rw[ej] at hl2
     k_extra "rx"
     refine⟨l,_,rfl,hl2,fun t ht=>?_⟩
     have s3:=Same.new (o:=.tup ((jsS y).map V.int)) ht
     have ht3:upd H2 t (.tup ((jsS y).map V.int)) t=_:=upd_same
     generalize upd H2 t (.tup ((jsS y).map V.int))=H3 at s3 ht3 ⊢
     k_extra "rx"
     refine⟨_,rfl,Nat.le_trans hl (by decide),?_⟩
     k_extra "rx"
     have hB:=heapB_iff hcb
     have s13:=(s1.trans s2).trans s3
     refine brkD (fun h1=>?_) (fun h1=>?_)
     ·k_extra "rx"
      refine hN ?_ _ s13
      show (heapB z).map _=none
      rw[hB,if_neg fun q=>by have:=q.1;omega]
      rfl
     ·have ey:=e9 (by omega)
      subst ey
      k_extra "rx"
      refine⟨6,rfl,by decide,fun F xs H4 s4 nF hF hS=>?_⟩
      k_extra "rx"
      obtain⟨fn,ex,hfn⟩:=subs_fn (n:=64) hS
      rw[ex] at hF
      refine⟨t,F,jsS y,List.range 64,fn,Srt.sub,rfl,rfl,s4 _ _ ht3,hF,hfn,?_⟩
      cases hA:(List.range 64).any fun i=>decide (Srt.sub i=jsS y) with
      | true =>
       refine⟨_,rfl,i_brkF ?_⟩
       k_extra "rx"
       refine hQ (.tup ((jsS y).map Dt.int)) ?_ _ _ (s13.trans s4) ⟨t,_,rfl,s4 _ _ ht3,ints_dens _⟩
       show (heapB y).map _=_
       rw[hB,if_pos ⟨by omega,hA⟩]
       rfl
      | false =>
       refine⟨_,rfl,i_brkT ?_⟩
       k_extra "rx"
       refine hN ?_ _ (s13.trans s4)
       show (heapB y).map _=none
       rw[hB,if_neg fun q=>by rw[hA] at q;exact absurd q.2 (by decide)]
       rfl
theorem ok__law_read(D:DefAt K mg "_law_read" s__law_read f fd)(T:Txt w.params K mg cx)(d__law_thing_in:DefOk P w K mg base CX0 2 "_law_thing_in" ["_law_sign","_law_word_here"] sp__law_thing_in):DefOk P w K mg base CX0 3 "_law_read" ["_law_line"] sp__law_read:=by
 refine D.ok (D.q sc__law_read (fun vs H Q E h=>?_) (fun cdv A outer s H vs Q E hr h=>?_)) (D.fn.binds fun _ _ _ _ _ _ us hl=>match us,hl with | [_],_=>rfl)
 ·obtain⟨_,rfl,_⟩:=h
  rfl
 obtain⟨line,rfl,hl,hc,hQ,hN⟩:=h
 refine⟨_,(qss_cons (qs_sL 1 sc__law_read.nd (qe_disp (dq_cons qe_str qe_str (dq_cons qe_str qe_str (dq_cons qe_str qe_str (dq_cons qe_str qe_str (dq_cons qe_str qe_str (dq_cons qe_str qe_str (dq_cons qe_str qe_str (dq_cons qe_str qe_str (dq_cons qe_str qe_str (dq_cons qe_str qe_str dq_nil))))))))))))
   (qss_cons (qs_set (i:=2) sc__law_read.nd rfl (Or.inr rfl) (qe_bmK (K:=K) rfl PySem.F.plainAttrs_str PySem.F.slot_str_split PySem.F.type_str_split mt_split (qv 0) (qa_1 qe_str)))
   (qss_cons (qs_set (i:=3) sc__law_read.nd rfl (Or.inr rfl) (qe_dget2 (hu_of hr) (qv 1) (qe_iS (qv 2) qe_int) qe_str))
   (qss_cons (qs_if (qw_or (qt_cmpR op_eq (qv 3) qe_str (nomark _)) (qw_or1 (qt_cmpR op_ne (qe_callB call_lenF (by rfl) T.n_len bt_len (qa_1 (qv 2))) (qe_op op_add (qe_callB call_len_str (by rfl) T.n_len bt_len (qa_1 (qv 3))) qe_int) (nomark _)))).pt (qss_one (qs_ret qe_non)) qss_nil)
   (qss_cons (qs_sL 4 sc__law_read.nd (qe_op op_cat (qe_lst (qa_1 (qe_iS (qv 2) qe_int))) (qe_cp ["_law_at"] [("_law_form", 3),("_law_words", 2)] (qi_range1 (by rfl) T.n_range (qa_1 (qe_callB call_len_str (by rfl) T.n_len bt_len (qa_1 (qv 3))))) (gext_name (by decide)) (fun _ _ _ _ _=>⟨(qg_name (i:=0) (show (["_law_at","_law_form","_law_words"]:List Str).Nodup by decide +kernel) rfl (Or.inl rfl)),qf_nil,(qe_g d__law_thing_in (qa_2 (qe_ix ix_str (qv 1) (qv 0) (fun _ _=>rfl)) (qe_iS (qv 2) (qe_op op_add (qv 0) qe_int))))⟩))))
   (qss_cons (qs_if (qt_cmpR (op_inN hr.units) qe_non (qv 4) (by rfl)) (qss_one (qs_ret qe_non)) qss_nil)
   (qss_one (qs_ret (qe_callTy call_tupF (by rfl) T.n_tuple bt_tuple (qa_1 (qv 4))))))))))),?_⟩
 have part:∀ w∈Txt.split line (Str.ofString " "),w.length≤1000∧∀ c∈sg w,c < 128:=fun w hw=>⟨Nat.le_trans (split_part hw).1 hl,fun c hcw=>hc c ((split_part hw).2 c hcw)⟩
 have en:∀ w:Str,(∃ j,j < 10∧kwS j=w)∨∀ j,j < 10→kwS j≠w:=fun w=>by
  by_cases h:∃ j,j < 10∧kwS j=w
  ·exact .inl h
  ·exact .inr fun j hj e=>h ⟨j,hj,e⟩
 k_extra "rx"
 intro f0 hf0
 refine⟨upd_same,[(Sum.inr (Str.ofString "out"),V.str (Str.ofString "nk")),(Sum.inr (Str.ofString "load"),V.str (Str.ofString "nkkk")),(Sum.inr (Str.ofString "sail"),V.str (Str.ofString "nk")),(Sum.inr (Str.ofString "hire"),V.str (Str.ofString "nk")),(Sum.inr (Str.ofString "dismiss"),V.str (Str.ofString "nk")),(Sum.inr (Str.ofString "lend"),V.str (Str.ofString "nhkk")),(Sum.inr (Str.ofString "rescue"),V.str (Str.ofString "nhk")),(Sum.inr (Str.ofString "lose"),V.str (Str.ofString "nkk")),(Sum.inr (Str.ofString "land"),V.str (Str.ofString "n")),(Sum.inr (Str.ofString "settle"),V.str (Str.ofString "nkk"))],rfl,by decide,?_⟩
 have em:mergeK [] ([(Sum.inr (Str.ofString "out"),V.str (Str.ofString "nk")),(Sum.inr (Str.ofString "load"),V.str (Str.ofString "nkkk")),(Sum.inr (Str.ofString "sail"),V.str (Str.ofString "nk")),(Sum.inr (Str.ofString "hire"),V.str (Str.ofString "nk")),(Sum.inr (Str.ofString "dismiss"),V.str (Str.ofString "nk")),(Sum.inr (Str.ofString "lend"),V.str (Str.ofString "nhkk")),(Sum.inr (Str.ofString "rescue"),V.str (Str.ofString "nhk")),(Sum.inr (Str.ofString "lose"),V.str (Str.ofString "nkk")),(Sum.inr (Str.ofString "land"),V.str (Str.ofString "n")),(Sum.inr (Str.ofString "settle"),V.str (Str.ofString "nkk"))]:List (Key×V))=fmD.map kvS:=by rfl
 rw[em]
 have s0:Same H (upd (upd H f0 (.dK [])) f0 (.dK (fmD.map kvS))):=fun c u h=>by rw[upd_ne (ne_of_none h hf0),upd_ne (ne_of_none h hf0)];exact h
 have hf:upd (upd H f0 (.dK [])) f0 (.dK (fmD.map kvS)) f0=_:=upd_same
 generalize upd (upd H f0 (.dK [])) f0 (.dK (fmD.map kvS))=H0 at s0 hf ⊢
 k_extra "rx"
 refine⟨_,rfl,rfl,?_⟩
 k_extra "rx"
 refine⟨_,_,rfl,rfl,rfl,hl,fun w hw=>?_⟩
 obtain⟨w0,r,ew⟩:∃ w0 r,Txt.split line (Str.ofString " ")=w0::r:=by
  cases e:Txt.split line (Str.ofString " ") with
  | nil=>rw[blank_eq] at e;exact absurd e (split_ne _ _)
  | cons a b=>exact⟨a,b,rfl⟩
 rw[ew] at part hQ hN ⊢
 have s1:=Same.new (o:=.lst ((w0::r).map V.str)) hw
 have w1:upd H0 w (.lst ((w0::r).map V.str)) w=_:=upd_same
 generalize upd H0 w (.lst ((w0::r).map V.str))=H1 at s1 w1 ⊢
 have hf1:=s1 _ _ hf
 have at0:atI ((w0::r).map V.str) ((0:Nat):Int)=some (.str w0):=atI_nat rfl
 have at0:atI ((w0::r).map V.str) 0=some (.str w0):=at0
 k_extra "rx"
 unfold tDGet2
 k_extra "rx"
 refine⟨f0,rfl,.inl ⟨_,.inl hf1⟩,?_⟩
 k_extra "rx"
 refine⟨_,DGet.k (k:=Sum.inr w0) hf1,?_⟩
 have s01:=s0.trans s1
 rcases en w0 with ⟨j,hj,rfl⟩ | hw0
 ·obtain⟨e1,e2,e3⟩:=fmD_some j hj
  have f4:=fm_len j hj
  rw[valV_kvS (fmD_lk hj)]
  k_extra "rx"
  refine⟨rfl,?_⟩
  refine⟨_,rfl,brkD (fun h1=>absurd (V.str.inj h1) e3) (fun _=>?_)⟩
  k_extra "rx"
  refine⟨_,rfl,Nat.le_trans (by omega:(fmS j).length≤1000) (by decide),?_⟩
  k_extra "rx"
  refine⟨rfl,?_⟩
  by_cases fl:r.length=(fmK j).length
  ·have ne:V.int ((((kwS j::r).map V.str).length:Nat):Int)=V.int (((fmS j).length:Nat)+1):=by rw[List.length_map,List.length_cons,e2,fl];rfl
   rw[decide_eq_true ne]
   refine⟨_,rfl,i_brkF ?_⟩
   k_extra "rx"
   refine i_NewO (Nat.le_of_ble_eq_true rfl) fun p1 H2 hp1 s2 p1'=>?_
   k_extra "rx"
   have w2:=s2 _ _ w1
   obtain⟨g1,_,g3⟩:=fm_sg j hj
   refine⟨_,rfl,fmS j,rfl,Nat.le_trans (by omega:(fmS j).length≤1000) (by decide),_,rfl,by omega,by omega,fun F hF=>?_⟩
   refine comp_rangeR (fun i acc H3=>Same H2 H3∧H3 F=some (.lst acc)∧RVs H3 ((opts (fmK j) r).take i) acc) ⟨Same.new hF,upd_same,rfl⟩ ?_ ?_
   ·rintro i acc H3 hi ⟨s3,hF3,hA⟩
    have hi1:i < (fmK j).length:=by omega
    have hi2:i < r.length:=by omega
    have al:=hA.length
    rw[List.length_take] at al
    have ix:atI (fmS j).cps.toList (0+(i:Int))=some (chK (fmK j)[i]):=by
     rw[Int.zero_add]
     refine atI_nat ?_
     show (sg (fmS j))[i]?=_
     rw[g1,List.getElem?_map,List.getElem?_eq_getElem hi1];rfl
    have iw:atI ((kwS j::r).map V.str) (0+(i:Int)+1)=some (.str r[i]):=by
     rw[show (0+(i:Int)+1)=((i+1:Nat):Int) by omega]
     refine atI_nat ?_
     rw[List.getElem?_map,List.getElem?_cons_succ,List.getElem?_eq_getElem hi2];rfl
    have pw:=part r[i] (List.mem_cons_of_mem _ (List.getElem_mem hi2))
    have w3:=s3 _ _ w2
    simp only[gName_ap,tYes,if_true]
    k_extra "rx"
    refine i_ixS (by omega) ix ?_
    k_extra "rx"
    have put:∀ o v H4,o=rdK (fmK j)[i] r[i]→Same H3 H4→RV H4 o v→H4 F=some (.lst acc)∧acc.length < sizeLine∧Same H2 (upd H4 F (.lst (acc++[v])))∧upd H4 F (.lst (acc++[v])) F=some (.lst (acc++[v]))∧RVs (upd H4 F (.lst (acc++[v]))) ((opts (fmK j) r).take (i+1)) (acc++[v]):=fun o v H4 eo s4 hv=>by
     subst eo
     have F4:=s4 _ _ hF3
     have ts:=TS.lst (o:=.lst (acc++[v])) F4
     refine⟨F4,small1000 (by omega),same_put hF (s3.trans s4),upd_same,?_⟩
     rw[opts_take hi1 hi2]
     exact RVs.snoc (RVs.imp (fun _ _ h=>RV.ts ts (RV.same s4 h)) hA) (RV.ts ts hv)
    refine⟨(fmK j)[i],r[i],rfl,g3 _ (List.getElem_mem hi1),pw.1,pw.2,fun d hd v H4 s4 hv=>?_,fun hn H4 s4=>?_⟩
    ·exact put (some d) v H4 hd.symm s4 ⟨hv,rdK_F hd⟩
    ·exact put none .non H4 hn.symm s4 rfl
   ·rintro acc H3 ⟨s3,hF3,hA⟩
    have ol:=opts_len fl.symm
    rw[e2,← fl,← ol,Int.toNat_natCast,List.take_length] at hA
    have al:=hA.length
    refine⟨p1,F,_,_,rfl,rfl,s3 _ _ p1',hF3,Nat.le_trans (by show 1+acc.length≤100;omega) (by decide),fun G hG=>?_⟩
    have s4:=Same.new (o:=.lst ([.str (kwS j)]++acc)) hG
    have g4:upd H3 G (.lst ([.str (kwS j)]++acc)) G=_:=upd_same
    generalize upd H3 G (.lst ([.str (kwS j)]++acc))=H4 at s4 g4 ⊢
    have hA4:=RVs.imp (fun _ _ h=>RV.same s4 h) hA
    obtain⟨o1,o2⟩:=opts_all fl.symm hA4
    have s14:=((s01.trans s2).trans s3).trans s4
    k_extra "rx"
    refine⟨G,_,rfl,rfl,g4,fun v hv=>?_,?_⟩
    ·rcases List.mem_cons.mp hv with rfl | hv
     ·exact .inr (.inr (.inl ⟨_,rfl⟩))
     ·exact hA4.kinds v hv
    have ea:([V.str (kwS j)]++acc).any isN=(rdAll (fmK j) r).isNone:=by rw[List.any_append,o1];rfl
    rw[ea]
    have er:rdL (kwS j::r)=(rdAll (fmK j) r).map (.str (kwS j)::·):=by
     show (fmOf (kwS j)).bind _=_
     rw[e1];rfl
    cases hr:rdAll (fmK j) r with
    | none =>
     refine⟨_,rfl,i_brkT ?_⟩
     k_extra "rx"
     exact hN (by rw[er,hr];rfl) _ s14
    | some ds =>
     refine⟨_,rfl,i_brkF ?_⟩
     k_extra "rx"
     refine⟨G,_,rfl,g4,fun a ha=>?_⟩
     have s5:=Same.new (o:=.tup ([.str (kwS j)]++acc)) ha
     exact hQ (.str (kwS j)::ds) (by rw[er,hr];rfl) a _ (s14.trans s5) ⟨a,_,rfl,upd_same,dens1 rfl (Dens.same s5 (o2 ds hr))⟩
  ·have ne:¬ V.int ((((kwS j::r).map V.str).length:Nat):Int)=V.int (((fmS j).length:Nat)+1):=fun z=>by
    have z:=V.int.inj z
    rw[List.length_map,List.length_cons,e2] at z
    exact fl (by omega)
   rw[decide_eq_false ne]
   refine⟨_,rfl,i_brkT ?_⟩
   k_extra "rx"
   refine hN ?_ _ s01
   show (fmOf (kwS j)).bind _=none
   rw[e1]
   show (rdAll (fmK j) r).map _=none
   cases e:rdAll (fmK j) r with
   | none=>rfl
   | some ds=>exact absurd (rdAll_len e).1.symm fl
 ·rw[valV_kvN (fmD_no hw0)]
  k_extra "rx"
  refine⟨rfl,?_⟩
  refine⟨_,rfl,brkD (fun _=>i_brkT ?_) (fun h1=>absurd rfl h1)⟩
  k_extra "rx"
  refine hN ?_ _ s01
  show (fmOf w0).bind _=none
  rw[fmOf_none hw0];rfl
theorem ok__law_spoilt(D:DefAt K mg "_law_spoilt" s__law_spoilt f fd)(T:Txt w.params K mg cx)(d__law_pull:DefOk P w K mg base CX0 1 "_law_pull" ["_law_bag_here","_law_many"] sp__law_pull):DefOk P w K mg base CX0 2 "_law_spoilt" ["_law_bag_here","_law_line"] sp__law_spoilt:=by
 refine D.ok (D.q sc__law_spoilt (fun vs H Q E h=>?_) (fun cdv A outer s H vs Q E hr h=>?_)) (D.fn.binds fun _ _ _ _ _ _ us hl=>match us,hl with | [_,_],_=>rfl)
 ·obtain⟨_,_,_,rfl,_⟩:=h
  rfl
 obtain⟨B,L,line,rfl,b,hl,hc,hQ⟩:=h
 refine⟨_,(qss_cons (qs_sL 2 sc__law_spoilt.nd qe_str)
   (qss_cons (qs_sL 2 sc__law_spoilt.nd (qe_op op_add_str (qv 2) qe_str))
   (qss_cons (qs_sL 3 sc__law_spoilt.nd (qe_bmK (K:=K) rfl PySem.F.plainAttrs_str PySem.F.slot_str_split PySem.F.type_str_split mt_split (qv 1) (qa_1 qe_str)))
   (qss_cons (qs_sL 4 sc__law_spoilt.nd (qe_g d__law_pull (qa_2 (qv 0) (qe_callB call_lenF (by rfl) T.n_len bt_len (qa_1 (qv 3))))))
   (qss_cons (qs_sL 5 sc__law_spoilt.nd (qe_g d__law_pull (qa_2 (qv 0) qe_int)))
   (qss_cons (qs_if (qt_cmpR op_eq (qv 5) qe_int (nomark _)) (qss_one (qs_asg (qe_iS (qv 3) (qe_g d__law_pull (qa_2 (qv 0) (qe_callB call_lenF (by rfl) T.n_len bt_len (qa_1 (qv 3)))))) (qg_sub (qv 3) (qv 4) set_list))) qss_nil)
   (qss_cons (qs_if (qt_cmpR op_eq (qv 5) qe_int (nomark _)) (qss_one (qs_sL 3 sc__law_spoilt.nd (qe_op op_cat (qe_slice sl_list (qv 3) qo_none (qo_some (qv 4))) (qe_slice sl_list (qv 3) (qo_some (qe_op op_add (qv 4) qe_int)) qo_none)))) qss_nil)
   (qss_cons (qs_if (qt_cmpR op_eq (qv 5) qe_int (nomark _)) (qss_one (qs_expr (qe_bmK (K:=K) rfl PySem.F.plainAttrs_list PySem.F.slot_list_insert PySem.F.type_list_insert mt_insert (qv 3) (qa_2 (qv 4) (qe_iS (qv 3) (qv 4)))))) qss_nil)
   (qss_cons (qs_if (qt_cmpR op_eq (qv 5) qe_int (nomark _)) (qss_one (qs_asg (qe_op op_add_str qe_str (qe_iS (qv 3) (qv 4))) (qg_sub (qv 3) (qv 4) set_list))) qss_nil)
   (qss_cons (qs_if (qt_cmpR op_eq (qv 5) qe_int (nomark _)) (qss_one (qs_asg (qe_op op_add_str (qe_iS (qv 3) (qv 4)) (qe_op op_repS (qe_ix ix_str qe_str (qe_g d__law_pull (qa_2 (qv 0) qe_int)) (fun _ _=>rfl)) (qe_op op_add qe_int (qe_g d__law_pull (qa_2 (qv 0) qe_int))))) (qg_sub (qv 3) (qv 4) set_list))) qss_nil)
   (qss_cons (qs_if (qt_cmpR op_eq (qv 5) qe_int (nomark _)) (qss_one (qs_asg (qe_iS (qe_lst (qa_cons qe_str (qa_cons qe_str (qa_cons qe_str (qa_cons qe_str (qa_cons qe_str (qa_cons qe_str (qa_cons qe_str (qa_cons qe_str qa_nil))))))))) (qe_g d__law_pull (qa_2 (qv 0) qe_int))) (qg_sub (qv 3) (qv 4) set_list))) qss_nil)
   (qss_cons (qs_sL 1 sc__law_spoilt.nd (qe_bmK (K:=K) rfl PySem.F.plainAttrs_str PySem.F.slot_str_join PySem.F.type_str_join mt_join qe_str (qa_1 (qv 3))))
   (qss_cons (qs_if (qt_cmpR op_gt (qv 5) qe_int (nomark _)) (qss_cons (qs_sL 4 sc__law_spoilt.nd (qe_g d__law_pull (qa_2 (qv 0) (qe_op op_add (qe_callB call_len_str (by rfl) T.n_len bt_len (qa_1 (qv 1))) qe_int))))
   (qss_one (qs_sL 1 sc__law_spoilt.nd (qe_op op_add_str (qe_op op_add_str (qe_slice sl_str (qv 1) qo_none (qo_some (qv 4))) (qe_ix ix_str (qv 2) (qe_g d__law_pull (qa_2 (qv 0) (qe_callB call_len_str (by rfl) T.n_len bt_len (qa_1 (qv 2))))) (fun _ _=>rfl))) (qe_slice sl_str (qv 1) (qo_some (qe_op op_add (qv 4) (qe_g d__law_pull (qa_2 (qv 0) qe_int)))) qo_none))))) qss_nil)
   (qss_one (qs_ret (qv 1)))))))))))))))),?_⟩
 refine seq_cut5 (fun σ' H'=>∃ W ws,∃ a:Nat,∃ way:Int,σ'=[some (.ref B),some (.str line),some (.str SGN),some (.ref W),some (.int (a:Int)),some (.int way)]∧BagAt H' B L∧Fr1 B H H'∧H W=none∧W≠B∧W≠L∧H' W=some (.lst (ws.map V.str))∧GW (3*line.length+30) ws∧0≤way∧way < 9∧(0≤way→GW (line.length+1) ws∧a < ws.length)) ?_ fun tb key=>?_
 ·clear b
  rintro σ' H1 ⟨W,ws,a,way,rfl,b1,f1,w0,wB,wL,w1,g0,y0,y1,o1⟩
  refine seq_cut (fun σ' H'=>∃ W ws,σ'=[some (.ref B),some (.str line),some (.str SGN),some (.ref W),some (.int (a:Int)),some (.int way)]∧BagAt H' B L∧Fr1 B H H'∧H W=none∧W≠B∧W≠L∧H' W=some (.lst (ws.map V.str))∧GW (3*line.length+30) ws∧(1≤way→GW (line.length+1) ws∧a < ws.length)) ?_ fun tb0 key0=>?_
  ·clear b1 f1 w0 wB wL w1 g0 o1 ws W
   rintro σ' H1 ⟨W,ws,rfl,b1,f1,w0,wB,wL,w1,g0,o1⟩
   refine seq_cut (fun σ' H'=>∃ W ws,σ'=[some (.ref B),some (.str line),some (.str SGN),some (.ref W),some (.int (a:Int)),some (.int way)]∧BagAt H' B L∧Fr1 B H H'∧H W=none∧W≠B∧W≠L∧H' W=some (.lst (ws.map V.str))∧GW (3*line.length+30) ws∧(2≤way→GW (line.length+1) ws∧a < ws.length)) ?_ fun tb1 key1=>?_
   ·clear b1 f1 w0 wB wL w1 g0 o1 ws W
    rintro σ' H1 ⟨W,ws,rfl,b1,f1,w0,wB,wL,w1,g0,o1⟩
    refine seq_cut (fun σ' H'=>∃ W ws,σ'=[some (.ref B),some (.str line),some (.str SGN),some (.ref W),some (.int (a:Int)),some (.int way)]∧BagAt H' B L∧Fr1 B H H'∧H W=none∧W≠B∧W≠L∧H' W=some (.lst (ws.map V.str))∧GW (3*line.length+30) ws∧(3≤way→GW (line.length+1) ws∧a < ws.length)) ?_ fun tb2 key2=>?_
    ·clear b1 f1 w0 wB wL w1 g0 o1 ws W
     rintro σ' H1 ⟨W,ws,rfl,b1,f1,w0,wB,wL,w1,g0,o1⟩
     refine seq_cut (fun σ' H'=>∃ W ws,σ'=[some (.ref B),some (.str line),some (.str SGN),some (.ref W),some (.int (a:Int)),some (.int way)]∧BagAt H' B L∧Fr1 B H H'∧H W=none∧W≠B∧W≠L∧H' W=some (.lst (ws.map V.str))∧GW (3*line.length+30) ws∧(4≤way→GW (line.length+1) ws∧a < ws.length)) ?_ fun tb3 key3=>?_
     ·clear b1 f1 w0 wB wL w1 g0 o1 ws W
      rintro σ' H1 ⟨W,ws,rfl,b1,f1,w0,wB,wL,w1,g0,o1⟩
      refine seq_cut (fun σ' H'=>∃ W ws,σ'=[some (.ref B),some (.str line),some (.str SGN),some (.ref W),some (.int (a:Int)),some (.int way)]∧BagAt H' B L∧Fr1 B H H'∧H W=none∧W≠B∧W≠L∧H' W=some (.lst (ws.map V.str))∧GW (3*line.length+30) ws∧(5≤way→GW (line.length+1) ws∧a < ws.length)) ?_ fun tb4 key4=>?_
      ·clear b1 f1 w0 wB wL w1 g0 o1 ws W
       rintro σ' H1 ⟨W,ws,rfl,b1,f1,w0,wB,wL,w1,g0,o1⟩
       refine seq_cut (fun σ' H'=>∃ W ws,σ'=[some (.ref B),some (.str line),some (.str SGN),some (.ref W),some (.int (a:Int)),some (.int way)]∧BagAt H' B L∧Fr1 B H H'∧H W=none∧W≠B∧W≠L∧H' W=some (.lst (ws.map V.str))∧GW (3*line.length+30) ws∧(6≤way→GW (line.length+1) ws∧a < ws.length)) ?_ fun tb5 key5=>?_
       ·clear b1 f1 w0 wB wL w1 g0 o1 ws W
        rintro σ' H1 ⟨W,ws,rfl,b1,f1,w0,wB,wL,w1,g0,o1⟩
        have gl:=g0.len
        obtain⟨j1,j2⟩:=g0.join
        have j3:=fun z=>(o1 z).1.join.1
        k_extra "rx"
        refine i_tBM ?_
        k_extra "rx"
        refine⟨rfl,?_⟩
        k_extra "rx"
        refine⟨_,W,ws,rfl,rfl,w1,Nat.le_trans (by have:=sum_mW ws;have:=g0.1;show _+ws.length*1≤2000;omega) (by decide),?_⟩
        generalize Txt.join (Str.ofString " ") ws=y at j1 j2 j3 ⊢
        k_extra "rx"
        refine brkD (fun h1=>?_) (fun h1=>?_)
        ·k_extra "rx"
         refine⟨_,rfl,Nat.le_trans (by omega:y.length≤1000) (by decide),?_⟩
         k_extra "rx"
         refine⟨B,_,L,rfl,b1,by omega,Sz.mono (j:=12) (Sz.of (by omega)) (by decide),fun p' H2 p0 p1 b2 f2'=>?_⟩
         have f2:=f1.trans f2'
         have lS:=sgn_ok.2.1
         k_extra "rx"
         refine i_tSl ?_
         k_extra "rx"
         refine⟨_,rfl,_,rfl,i_slS (z:=y) (by omega) ?_⟩
         have l1:=Txt.slice_le y none (some p')
         have x1:∀ c∈sg (Txt.slice y none (some p')),c < 128:=fun c h=>j2 c (sg_slice h)
         generalize Txt.slice y none (some p')=y1 at l1 x1 ⊢
         k_extra "rx"
         refine⟨_,rfl,Nat.le_trans (by omega:SGN.length≤1000) (by decide),?_⟩
         k_extra "rx"
         refine⟨B,_,L,rfl,b2,by have:=sgn_ok.1;omega,Sz.mono (j:=12) (Sz.of (by omega)) (by decide),fun q' H3 q0 q1 b3 f3'=>?_⟩
         have f3:=f2.trans f3'
         obtain⟨c0,hc0⟩:∃ c,atI SGN.cps.toList q'=some c:=by
          obtain⟨q,rfl⟩:∃ q:Nat,q'=(q:Int):=⟨q'.toNat,by omega⟩
          have hq:q < SGN.cps.toList.length:=by
           have:SGN.cps.toList.length=SGN.length:=sg_len SGN
           omega
          exact⟨_,atI_nat (List.getElem?_eq_getElem hq)⟩
         have c128:c0 < 128:=sgn_ok.2.2 c0 (sg_at hc0)
         refine i_ixS (by omega) hc0 ?_
         refine⟨_,_,rfl,rfl,Nat.le_trans (by show y1.length+1≤1000;omega) (by decide),?_⟩
         have l2:(y1++(⟨#[c0]⟩:Str)).length=y1.length+1:=by rw[← sg_len,sg_add,List.length_append,sg_len,sg_len];rfl
         have x2:∀ c∈sg (y1++(⟨#[c0]⟩:Str)),c < 128:=fun c h=>by
          rw[sg_add] at h
          rcases List.mem_append.mp h with h | h
          ·exact x1 c h
          ·rw[List.mem_singleton.mp h];exact c128
         generalize y1++(⟨#[c0]⟩:Str)=y2 at l2 x2 ⊢
         k_extra "rx"
         refine i_tSl ?_
         k_extra "rx"
         refine⟨_,rfl,_,rfl,B,_,L,rfl,b3,by decide,by decide,fun r' H4 r0 r1 b4 f4'=>?_⟩
         have f4:=f3.trans f4'
         refine⟨_,_,rfl,rfl,_,rfl,?_⟩
         unfold tNoPart
         refine i_slS (z:=y) (by omega) ?_
         have l3:=Txt.slice_le y (some (p'+r')) none
         have x3:∀ c∈sg (Txt.slice y (some (p'+r')) none),c < 128:=fun c h=>j2 c (sg_slice h)
         generalize Txt.slice y (some (p'+r')) none=y3 at l3 x3 ⊢
         have l4:(y2++y3).length=y2.length+y3.length:=by rw[← sg_len,sg_add,List.length_append,sg_len,sg_len]
         have x4:∀ c∈sg (y2++y3),c < 128:=fun c h=>by
          rw[sg_add] at h
          rcases List.mem_append.mp h with h | h
          ·exact x2 c h
          ·exact x3 c h
         refine⟨_,_,rfl,rfl,Nat.le_trans (by omega:y2.length+y3.length≤4000) (by decide),?_⟩
         k_extra "rx"
         exact hQ _ _ (by have:=j3 (by omega);omega) x4 b4 f4
        ·refine i_tNext ?_
         k_extra "rx"
         exact hQ _ _ (by omega) j2 b1 f1
       ·k_extra "rx"
        refine⟨rfl,?_⟩
        refine⟨_,rfl,brkD (fun h1=>?_) (fun h1=>?_)⟩
        ·have h1:way=5:=V.int.inj h1
         obtain⟨g1,ha⟩:=o1 (by omega)
         have gl:=g1.len
         have aw:atI (ws.map V.str) (a:Int)=some (.str ws[a]):=atI_nat (by rw[List.getElem?_map,List.getElem?_eq_getElem ha];rfl)
         have ixn:ixN (ws.map V.str).length (a:Int)=some a:=ixN_nat (by rw[List.length_map];exact ha)
         have am:=List.getElem_mem ha
         have az:=g1.mem am
         have ax:=g1.2 _ am
         k_extra "rx"
         refine i_NewO (Nat.le_of_ble_eq_true rfl) fun T H2 nT sT hT=>?_
         have hT:H2 T=some (.lst (spS.map V.str)):=hT
         have b2:=b1.keep sT
         have f2:=f1.trans (Fr1.of sT)
         have w2:=sT _ _ w1
         have TB:=b1.ne nT
         k_extra "rx"
         refine⟨B,_,L,rfl,b2,by decide,by decide,fun p' H3 p0 p1 b3 f3'=>?_⟩
         have f3:=f2.trans f3'
         have w3:=f3' _ _ wB w2
         have hT3:=f3' _ _ TB hT
         obtain⟨p,rfl⟩:∃ p:Nat,p'=(p:Int):=⟨p'.toNat,by omega⟩
         have hp:p < spS.length:=by show p < 8;omega
         obtain⟨z1,z2⟩:=spS_ok _ (List.getElem_mem hp)
         refine⟨T,_,_,_,rfl,rfl,seqAt_lst hT3,atI_nat (by rw[List.getElem?_map,List.getElem?_eq_getElem hp];rfl),?_⟩
         generalize spS[p]=z at z1 z2 ⊢
         k_extra "rx"
         exact⟨W,_,_,a,rfl,rfl,w3,ixn,key5 _ _ ⟨W,ws.set a z,rfl,b3.put wB wL,fr_put w0 f3,w0,wB,wL,by rw[upd_same,List.map_set],(g1.set ha z2).mono (by omega),fun z=>absurd z (by omega)⟩⟩
        ·refine i_tNext ?_
         exact key5 _ _ ⟨_,_,rfl,b1,f1,w0,wB,wL,w1,g0,fun z=>o1 (by have:way≠5:=fun q=>h1 (congrArg V.int q);omega)⟩
      ·k_extra "rx"
       refine⟨rfl,?_⟩
       refine⟨_,rfl,brkD (fun h1=>?_) (fun h1=>?_)⟩
       ·have h1:way=4:=V.int.inj h1
        obtain⟨g1,ha⟩:=o1 (by omega)
        have gl:=g1.len
        have aw:atI (ws.map V.str) (a:Int)=some (.str ws[a]):=atI_nat (by rw[List.getElem?_map,List.getElem?_eq_getElem ha];rfl)
        have ixn:ixN (ws.map V.str).length (a:Int)=some a:=ixN_nat (by rw[List.length_map];exact ha)
        have am:=List.getElem_mem ha
        have az:=g1.mem am
        have ax:=g1.2 _ am
        k_extra "rx"
        refine⟨B,_,L,rfl,b1,by decide,by decide,fun p' H2 p0 p1 b2 f2'=>?_⟩
        have f2:=f1.trans f2'
        have w2:=f2' _ _ wB w1
        obtain⟨c0,hc0⟩:∃ c,atI (Str.ofString "0123456789").cps.toList p'=some c:=by
         obtain⟨p,rfl⟩:∃ p:Nat,p'=(p:Int):=⟨p'.toNat,by omega⟩
         have hp:p < (Str.ofString "0123456789").cps.toList.length:=by
          have:(Str.ofString "0123456789").cps.toList.length=10:=by decide +kernel
          omega
         exact⟨_,atI_nat (List.getElem?_eq_getElem hp)⟩
        have c128:c0 < 128:=fig_asc c0 (sg_at hc0)
        refine i_ixS (by decide +kernel) hc0 ?_
        k_extra "rx"
        refine⟨B,_,L,rfl,b2,by decide,by decide,fun k H3 k0 k1 b3 f3'=>?_⟩
        have f3:=f2.trans f3'
        have w3:=f3' _ _ wB w2
        k_extra "rx"
        refine⟨_,_,rfl,rfl,by omega,by omega,by show 1≤1000;decide,?_⟩
        have rl:(Txt.mul ⟨#[c0]⟩ (1+k)).length=(1+k).toNat:=by rw[← sg_len,sg_mul];exact rep_len _
        have rx:∀ c∈sg (Txt.mul ⟨#[c0]⟩ (1+k)),c < 128:=fun c h=>by rw[sg_mul] at h;rw[rep_mem h];exact c128
        generalize Txt.mul ⟨#[c0]⟩ (1+k)=rr at rl rx ⊢
        have l0:(ws[a]++rr).length=ws[a].length+rr.length:=by rw[← sg_len,sg_add,List.length_append,sg_len,sg_len]
        have x0:∀ c∈sg (ws[a]++rr),c < 128:=fun c h=>by
         rw[sg_add] at h
         rcases List.mem_append.mp h with h | h
         ·exact ax c h
         ·exact rx c h
        refine⟨_,_,rfl,rfl,Nat.le_trans (by omega:ws[a].length+rr.length≤1000) (by decide),?_⟩
        k_extra "rx"
        exact⟨W,_,_,a,rfl,rfl,w3,ixn,key4 _ _ ⟨W,ws.set a (ws[a]++rr),rfl,b3.put wB wL,fr_put w0 f3,w0,wB,wL,by rw[upd_same,List.map_set],(g1.set ha x0).mono (by omega),fun z=>absurd z (by omega)⟩⟩
       ·refine i_tNext ?_
        exact key4 _ _ ⟨_,_,rfl,b1,f1,w0,wB,wL,w1,g0,fun z=>o1 (by have:way≠4:=fun q=>h1 (congrArg V.int q);omega)⟩
     ·k_extra "rx"
      refine⟨rfl,?_⟩
      refine⟨_,rfl,brkD (fun h1=>?_) (fun h1=>?_)⟩
      ·have h1:way=3:=V.int.inj h1
       obtain⟨g1,ha⟩:=o1 (by omega)
       have gl:=g1.len
       have aw:atI (ws.map V.str) (a:Int)=some (.str ws[a]):=atI_nat (by rw[List.getElem?_map,List.getElem?_eq_getElem ha];rfl)
       have ixn:ixN (ws.map V.str).length (a:Int)=some a:=ixN_nat (by rw[List.length_map];exact ha)
       have am:=List.getElem_mem ha
       have az:=g1.mem am
       have ax:=g1.2 _ am
       k_extra "rx"
       have l0:(Str.ofString "0" ++ ws[a]).length=1+ws[a].length:=by rw[← sg_len,sg_add,List.length_append,sg_len,sg_len];rfl
       refine⟨_,_,rfl,rfl,Nat.le_trans (by show 1+ws[a].length≤1000;omega) (by decide),?_⟩
       have x0:∀ c∈sg (Str.ofString "0" ++ ws[a]),c < 128:=fun c h=>by
        rw[sg_add] at h
        rcases List.mem_append.mp h with h | h
        ·exact (show ∀ c∈sg (Str.ofString "0"),c < 128 by decide +kernel) c h
        ·exact ax c h
       k_extra "rx"
       exact⟨W,_,_,a,rfl,rfl,w1,ixn,key3 _ _ ⟨W,ws.set a (Str.ofString "0" ++ ws[a]),rfl,b1.put wB wL,fr_put w0 f1,w0,wB,wL,by rw[upd_same,List.map_set],(g1.set ha x0).mono (by omega),fun z=>absurd z (by omega)⟩⟩
      ·refine i_tNext ?_
       exact key3 _ _ ⟨_,_,rfl,b1,f1,w0,wB,wL,w1,g0,fun z=>o1 (by have:way≠3:=fun q=>h1 (congrArg V.int q);omega)⟩
    ·k_extra "rx"
     refine⟨rfl,?_⟩
     refine⟨_,rfl,brkD (fun h1=>?_) (fun h1=>?_)⟩
     ·have h1:way=2:=V.int.inj h1
      obtain⟨g1,ha⟩:=o1 (by omega)
      have gl:=g1.len
      have aw:atI (ws.map V.str) (a:Int)=some (.str ws[a]):=atI_nat (by rw[List.getElem?_map,List.getElem?_eq_getElem ha];rfl)
      have ixn:ixN (ws.map V.str).length (a:Int)=some a:=ixN_nat (by rw[List.length_map];exact ha)
      have am:=List.getElem_mem ha
      have az:=g1.mem am
      have ax:=g1.2 _ am
      k_extra "rx"
      refine i_tBM ?_
      k_extra "rx"
      refine⟨.inl ⟨rfl,_,SqL.of w1⟩,?_⟩
      k_extra "rx"
      refine⟨W,_,_,_,rfl,rfl,w1,by omega,by rw[List.length_map];omega,by rw[List.length_map];omega,?_⟩
      exact key2 _ _ ⟨W,ws.take a++ws[a]::ws.drop a,rfl,b1.put wB wL,fr_put w0 f1,w0,wB,wL,by rw[upd_same,Int.toNat_natCast,List.map_append,List.map_cons,List.map_take,List.map_drop],(g1.ins ax).mono (by omega),fun z=>absurd z (by omega)⟩
     ·refine i_tNext ?_
      exact key2 _ _ ⟨_,_,rfl,b1,f1,w0,wB,wL,w1,g0,fun z=>o1 (by have:way≠2:=fun q=>h1 (congrArg V.int q);omega)⟩
   ·k_extra "rx"
    refine⟨rfl,?_⟩
    refine⟨_,rfl,brkD (fun h1=>?_) (fun h1=>?_)⟩
    ·have h1:way=1:=V.int.inj h1
     obtain⟨g1,ha⟩:=o1 (by omega)
     have gl:=g1.len
     have aw:atI (ws.map V.str) (a:Int)=some (.str ws[a]):=atI_nat (by rw[List.getElem?_map,List.getElem?_eq_getElem ha];rfl)
     have ixn:ixN (ws.map V.str).length (a:Int)=some a:=ixN_nat (by rw[List.length_map];exact ha)
     have am:=List.getElem_mem ha
     have az:=g1.mem am
     have ax:=g1.2 _ am
     k_extra "rx"
     refine i_tSl ?_
     k_extra "rx"
     refine⟨_,rfl,_,rfl,W,_,rfl,SqL.of w1,fun p1 hp1=>?_⟩
     rw[cut_hd]
     have s2:=Same.new (o:=.lst ((ws.map V.str).take a)) hp1
     have p1':upd H1 p1 (.lst ((ws.map V.str).take a)) p1=_:=upd_same
     have b2:=b1.keep s2
     generalize upd H1 p1 (.lst ((ws.map V.str).take a))=H2 at s2 p1' b2 ⊢
     refine i_tSl ?_
     k_extra "rx"
     refine⟨_,rfl,_,_,rfl,rfl,_,rfl,W,_,rfl,SqL.of (s2 _ _ w1),fun p2 hp2=>?_⟩
     rw[show ((a:Int)+1)=((a+1:Nat):Int) by omega,cut_tl]
     have s3:=Same.new (o:=.lst ((ws.map V.str).drop (a+1))) hp2
     have p2':upd H2 p2 (.lst ((ws.map V.str).drop (a+1))) p2=_:=upd_same
     have b3:=b2.keep s3
     generalize upd H2 p2 (.lst ((ws.map V.str).drop (a+1)))=H3 at s3 p2' b3 ⊢
     have f3:=(f1.trans (Fr1.of s2)).trans (Fr1.of s3)
     refine⟨p1,p2,_,_,rfl,rfl,s3 _ _ p1',p2',Nat.le_trans (by rw[List.length_take,List.length_drop,List.length_map];omega:_≤1000) (by decide),fun G hG=>?_⟩
     have G0:H G=none:=by
      cases e:H G with
      | none=>rfl
      | some o=>rw[f3 G o (b3.ne hG) e] at hG;cases hG
     refine i_gName ?_
     exact key1 _ _ ⟨G,ws.take a++ws.drop (a+1),rfl,b3.keep (Same.new hG),f3.trans (Fr1.of (Same.new hG)),G0,b3.ne hG,b3.neL hG,by rw[upd_same,List.map_append,List.map_take,List.map_drop],(g1.del).mono (by omega),fun z=>absurd z (by omega)⟩
    ·refine i_tNext ?_
     exact key1 _ _ ⟨_,_,rfl,b1,f1,w0,wB,wL,w1,g0,fun z=>o1 (by have:way≠1:=fun q=>h1 (congrArg V.int q);omega)⟩
  ·k_extra "rx"
   refine⟨rfl,?_⟩
   refine⟨_,rfl,brkD (fun h1=>?_) (fun h1=>?_)⟩
   ·have h1:way=0:=V.int.inj h1
    obtain⟨g1,ha⟩:=o1 (by omega)
    have gl:=g1.len
    have aw:atI (ws.map V.str) (a:Int)=some (.str ws[a]):=atI_nat (by rw[List.getElem?_map,List.getElem?_eq_getElem ha];rfl)
    have ixn:ixN (ws.map V.str).length (a:Int)=some a:=ixN_nat (by rw[List.length_map];exact ha)
    have am:=List.getElem_mem ha
    have az:=g1.mem am
    have ax:=g1.2 _ am
    k_extra "rx"
    refine⟨B,_,L,rfl,b1,by rw[List.length_map];omega,Sz.mono (j:=10) (Sz.of (by rw[List.length_map];omega)) (by decide),fun p' H2 p0 p1 b2 f2'=>?_⟩
    obtain⟨p,rfl⟩:∃ p:Nat,p'=(p:Int):=⟨p'.toNat,by omega⟩
    rw[List.length_map] at p1
    have hp:p < ws.length:=by omega
    have f2:=f1.trans f2'
    have w2:=f2' _ _ wB w1
    have pw:atI (ws.map V.str) (p:Int)=some (.str ws[p]):=atI_nat (by rw[List.getElem?_map,List.getElem?_eq_getElem hp];rfl)
    have pm:=List.getElem_mem hp
    have pz:=g1.mem pm
    refine⟨W,_,_,_,rfl,rfl,seqAt_lst w2,pw,?_⟩
    k_extra "rx"
    exact⟨W,_,_,a,rfl,rfl,w2,ixn,key0 _ _ ⟨W,ws.set a ws[p],rfl,b2.put wB wL,fr_put w0 f2,w0,wB,wL,by rw[upd_same,List.map_set],(g1.set ha (g1.2 _ pm)).mono (by omega),fun z=>absurd z (by omega)⟩⟩
   ·refine i_tNext ?_
    exact key0 _ _ ⟨_,_,rfl,b1,f1,w0,wB,wL,w1,g0,fun z=>o1 (by have:way≠0:=fun q=>h1 (congrArg V.int q);omega)⟩
 ·k_extra "rx"
  refine⟨_,_,rfl,rfl,by decide +kernel,?_⟩
  dsimp only
  rw[show Str.ofString " !\"#$&'()*+,-./0123456789:;<=>?@ABCDEFGHIJKLMNOPQRSTUVWXYZ[\\]^_`{|}~\n" ++ Str.ofString "abcdefghijklmnopqrstuvwxyz" = SGN from rfl]
  k_extra "rx"
  refine⟨_,rfl,rfl,?_⟩
  k_extra "rx"
  refine⟨_,_,rfl,rfl,rfl,by omega,fun W w0=>?_⟩
  have g1:=GW.split hc
  have e0:Txt.split line (Str.ofString " ")≠[]:=by rw[blank_eq];exact split_ne _ _
  generalize Txt.split line (Str.ofString " ")=ws at g1 e0 ⊢
  have gl:=g1.len
  have pos:0 < ws.length:=List.length_pos_iff.mpr e0
  have s1:=Same.new (o:=.lst (ws.map V.str)) w0
  have w1:upd H W (.lst (ws.map V.str)) W=_:=upd_same
  have b1:=b.keep s1
  have wB:=b.ne w0
  have wL:=b.neL w0
  generalize upd H W (.lst (ws.map V.str))=H1 at s1 w1 b1 ⊢
  have f1:Fr1 B H H1:=Fr1.of s1
  clear s1 b
  k_extra "rx"
  refine⟨B,_,L,rfl,b1,by rw[List.length_map];omega,Sz.mono (j:=10) (Sz.of (by rw[List.length_map];omega)) (by decide),fun a' H2 a0 a1 b2 f2'=>?_⟩
  obtain⟨a,rfl⟩:∃ a:Nat,a'=(a:Int):=⟨a'.toNat,by omega⟩
  rw[List.length_map] at a1
  have ha:a < ws.length:=by omega
  have f2:=f1.trans f2'
  have w2:=f2' _ _ wB w1
  clear f2' w1 b1 f1 a0 a1
  k_extra "rx"
  refine⟨B,_,L,rfl,b2,by decide,by decide,fun way H3 y0 y1 b3 f3'=>?_⟩
  have f3:=f2.trans f3'
  have w3:=f3' _ _ wB w2
  exact key _ _ ⟨W,ws,a,way,rfl,b3,f3,w0,wB,wL,w3,g1.mono (by omega),y0,y1,fun _=>⟨g1,ha⟩⟩
theorem ok__law_told(D:DefAt K mg "_law_told" s__law_told f fd)(T:Txt w.params K mg cx)(d_read_deed:DefOk P w K mg base (CXD P w) 6 "read_deed" ["line"] (sp_read_deed K cx)):DefOk P w K mg base CX0 7 "_law_told" ["_law_line"] sp__law_told:=by
 have O_BadText:=ox_BadText (P:=P) (w:=w) (base:=base) T.x_BadText
 refine D.ok (D.q sc__law_told (fun vs H Q E h=>?_) (fun cdv A outer s H vs Q E hr h=>?_)) (D.fn.binds fun _ _ _ _ _ _ us hl=>match us,hl with | [_],_=>rfl)
 ·obtain⟨_,rfl,_⟩:=h
  rfl
 obtain⟨z,rfl,hl,hc,hQ,hN⟩:=h
 refine⟨_,(qss_cons (qs_sL 1 sc__law_told.nd qe_non)
   (qss_cons (qs_sL 2 sc__law_told.nd qe_non)
   (qss_cons (qs_tryX 3 O_BadText sc__law_told.nd (fun pn EX=>(qss_one (qs_sL 1 sc__law_told.nd (qe_dXD d_read_deed hr.le passXD (by rfl) (qa_1 (qv 0)))))) (fun fI OX ea dx pn hd=>(qss_one (qs_sL 2 sc__law_told.nd (qe_xat (i:=3) OX hd)))))
   (qss_one (qs_ret (qe_tup (qa_2 (qv 1) (qv 2)))))))),?_⟩
 k_extra "rx"
 refine i_tryX ?_
 k_extra "rx"
 unfold tCallXD
 k_extra "rx"
 refine⟨z,rfl,hl,hc,fun ds hd a H1 s1 hden=>?_,fun hn dx H1 s1 hdx=>⟨rfl,dx,rfl,fun ea=>?_⟩⟩
 ·k_extra "rx"
  refine i_NewO (Nat.le_of_ble_eq_true rfl) fun p H2 hp s2 hp'=>?_
  exact hQ ds hd p a H2 (s1.trans s2) (Den.same s2 hden) hp'
 ·refine⟨rfl,_,_,hdx,rfl,?_⟩
  show tRet (tTup (tCons (tVar 1) (tCons (tVar 2) tNil))) { nx:=fun _ H'=>Q .non H',rt:=Q } [some (.str z),some .non,some (.int 0),none] H1
  k_extra "rx"
  refine i_NewO (Nat.le_of_ble_eq_true rfl) fun p H2 hp s2 hp'=>?_
  exact hN hn p H2 (s1.trans s2) hp'
theorem ok_law(D:DefAt K mg "law" s_law f fd)(T:Txt w.params K mg cx)(d__law_bag:DefOk P w K mg base CX0 1 "_law_bag" ["_law_script"] (sp__law_bag K cx))(d__law_spoilt:DefOk P w K mg base CX0 2 "_law_spoilt" ["_law_bag_here","_law_line"] sp__law_spoilt)(d__law_read:DefOk P w K mg base CX0 3 "_law_read" ["_law_line"] sp__law_read)(d__law_told:DefOk P w K mg base CX0 7 "_law_told" ["_law_line"] sp__law_told)(d__law_deed_text:DefOk P w K mg base CX0 2 "_law_deed_text" ["_law_deed"] sp__law_deed_text)(d__law_pull:DefOk P w K mg base CX0 1 "_law_pull" ["_law_bag_here","_law_many"] sp__law_pull)(d__law_any_deed:DefOk P w K mg base CX0 4 "_law_any_deed" ["_law_bag_here"] sp__law_any_deed)(d__law_alike:DefOk P w K mg base CX0 5 "_law_alike" ["_law_found","_law_due"] (sp__law_alike 3)):FnOk P w K mg base CX0 8 f fd ["_law_script"] (sp_law K cx):=by
 refine D.q sc_law (fun vs H Q E h=>?_) (fun cdv A outer s H vs Q E hr h=>?_)
 ·obtain⟨_,_,rfl,_⟩:=h
  rfl
 obtain⟨a,ns,rfl,hS,hl,hQ⟩:=h
 have hQt:Q (.bl true)=fun _=>True:=by funext H';exact eq_true (hQ H')
 clear hQ
 refine⟨_,(qss_cons (qs_sL 1 sc_law.nd (qe_g d__law_bag (qa_1 (qv 0))))
   (qss_cons (qs_for PassesOwn.never rfl (qi_range1 (by rfl) T.n_range (qa_1 qe_int)) (qg_name (i:=2) sc_law.nd rfl (Or.inl rfl)) (qss_cons (qs_sL 3 sc_law.nd (qe_g d__law_spoilt (qa_2 (qv 1) (qe_g d__law_deed_text (qa_1 (qe_g d__law_any_deed (qa_1 (qv 1))))))))
   (qss_cons (qs_if (qt_cmpR op_eq (qe_g d__law_pull (qa_2 (qv 1) qe_int)) qe_int (nomark _)) (qss_one (qs_sL 3 sc_law.nd (qe_g d__law_spoilt (qa_2 (qv 1) (qv 3))))) qss_nil)
   (qss_cons (qs_sL 4 sc_law.nd (qe_g d__law_read (qa_1 (qv 3))))
   (qss_cons (qs_asg (qe_g d__law_told (qa_1 (qv 3))) (qg_tupK (K:=K) (n:=2) rfl rfl (qgs_cons (qg_name (i:=5) sc_law.nd rfl (Or.inl rfl)) (qgs_cons (qg_name (i:=6) sc_law.nd rfl (Or.inl rfl)) qgs_nil))))
   (qss_cons (qs_if (qw_and (qt_isN ((qv 4))) (qw_and1 (qw_or (qt_notN ((qv 5))) (qw_or1 (qt_not (qt_val (qe_g d__law_alike (qa_2 (qv 6) qe_int)))))).pt)).pt (qss_one (qs_ret qe_bl)) qss_nil)
   (qss_one (qs_if (qw_and (qt_notN ((qv 4))) (qw_and1 (qt_not (qt_val (qe_g d__law_alike (qa_2 (qv 5) (qv 4))))))).pt (qss_one (qs_ret qe_bl)) qss_nil))))))))
   (qss_one (qs_ret (qe_cmpR (op_eqD hr.units) (qe_g d__law_told (qa_1 qe_str)) (qe_tup (qa_2 qe_non qe_int)) (nomark _)))))),?_⟩
 k_extra "rx"
 refine⟨a,ns,rfl,hS,hl,fun B L H1 s1 nB b1=>?_⟩
 k_extra "rx"
 refine⟨6,rfl,by decide,by decide,for_rangeN (lo:=0) (n:=6) (fun i σ H2=>∃ v2 v3 v4 v5 v6,σ=[some (.ref a),some (.ref B),v2,v3,v4,v5,v6]∧BagAt H2 B L) ⟨_,_,_,_,_,rfl,b1⟩ ?_ ?_⟩
 ·rintro i σ H2 NN BB hi ⟨v2,v3,v4,v5,v6,rfl,b2⟩ kN kB
  clear kB hS hl s1 b1 nB
  refine i_gName ?_
  refine seq_cut2 (fun σ' H'=>∃ y:Str,σ'=[some (.ref a),some (.ref B),some (.int (0+(i:Int))),some (.str y),v4,v5,v6]∧y.length≤790∧(∀ c∈sg y,c < 128)∧BagAt H' B L) ?_ fun tb key=>?_
  ·rintro σ' H6 ⟨y,rfl,l3,x3,b6⟩
   clear b2
   have sl:=(GW.split x3).len
   cases hr:rdL (Txt.split y (Str.ofString " ")) with
   | none =>
    k_extra "rx"
    refine⟨y,rfl,by omega,x3,fun ds z=>(by rw[hr] at z;cases z),fun _ H7 s7=>?_⟩
    k_extra "rx"
    refine⟨y,rfl,by omega,x3,fun ds z=>(by rw[hr] at z;cases z),fun _ p H8 s8 hp=>?_⟩
    have b8:=(b6.keep s7).keep s8
    k_extra "rx"
    refine⟨p,_,rfl,SqT.of hp,rfl,_,_,rfl,_,_,rfl,rfl,?_⟩
    dsimp only
    k_extra "rx"
    rw[tIsN_ap]
    refine⟨_,rfl,?_⟩
    refine⟨_,rfl,brk (fun _=>?_) (fun z=>absurd rfl (of_decide_eq_false z))⟩
    k_extra "rx"
    rw[tNotN_ap]
    refine⟨_,rfl,?_⟩
    refine⟨_,rfl,brkN (fun z=>absurd rfl z) (fun _=>?_)⟩
    k_extra "rx"
    refine⟨.int 0,_,_,rfl,rfl,rfl,.int 2 _,fun H9 s9=>?_⟩
    refine⟨_,rfl,i_brkF ?_⟩
    refine i_tNext ?_
    k_extra "rx"
    rw[tNotN_ap]
    refine⟨_,rfl,?_⟩
    refine⟨_,rfl,brkN (fun z=>absurd rfl z) (fun _=>?_)⟩
    k_extra "rx"
    exact kN _ _ ⟨_,_,_,_,_,rfl,b8.keep s9⟩
   | some ds =>
    have al:=rdL_al hr (by omega)
    k_extra "rx"
    refine⟨y,rfl,by omega,x3,fun es z q H7 s7 hq=>?_,fun z=>(by rw[hr] at z;cases z)⟩
    rw[hr] at z
    cases z
    k_extra "rx"
    refine⟨y,rfl,by omega,x3,fun es z p q2 H8 s8 hq2 hp=>?_,fun z=>(by rw[hr] at z;cases z)⟩
    rw[hr] at z
    cases z
    have hq8:=Den.same s8 hq
    have b8:=(b6.keep s7).keep s8
    k_extra "rx"
    refine⟨p,_,rfl,SqT.of hp,rfl,_,_,rfl,_,_,rfl,rfl,?_⟩
    dsimp only
    k_extra "rx"
    rw[tIsN_ap]
    refine⟨_,rfl,?_⟩
    refine⟨_,rfl,brk (fun z=>nomatch z) (fun _=>?_)⟩
    k_extra "rx"
    rw[tNotN_ap]
    refine⟨_,rfl,?_⟩
    refine⟨_,rfl,brkN (fun z=>?_) (fun z=>nomatch z)⟩
    k_extra "rx"
    refine⟨_,_,_,rfl,hq2,hq8,al,fun H9 s9=>?_⟩
    refine⟨_,rfl,i_brkF ?_⟩
    k_extra "rx"
    exact kN _ _ ⟨_,_,_,_,_,rfl,b8.keep s9⟩
  ·k_extra "rx"
   refine⟨B,L,rfl,b2,fun d j ds H3 hj hp hd b3 f3=>?_⟩
   have okd:=rgt hp
   have dl:ds.length≤4:=by rw[← hp.length];exact fm_len j hj
   have okx:∀ e∈(.str (kwS j)::ds:List Dt),okX e:=fun e he=>by
    rcases List.mem_cons.mp he with rfl | he
    ·exact .str _ (Nat.le_trans (kw_ok j hj).1 (by decide))
    ·obtain⟨k,h⟩:=okd e he
     exact h.x
   k_extra "rx"
   refine⟨d,_,rfl,hd,by rw[List.length_cons];omega,okx,fun H4 s4=>?_⟩
   have b4:=b3.keep s4
   obtain⟨l1,x1⟩:=deed_line j hj ds dl okd
   generalize Txt.join (Str.ofString " ") ((.str (kwS j)::ds).map txD)=y0 at l1 x1 ⊢
   clear hd b3 f3 s4 b2 okx dl okd hp hj
   k_extra "rx"
   refine⟨B,L,y0,rfl,b4,by omega,x1,fun y1 H5 l2 x2 b5 f5=>?_⟩
   clear f5 b4
   k_extra "rx"
   refine⟨B,_,L,rfl,b5,by decide,by decide,fun k H6 k0 k1 b6 f6=>?_⟩
   k_extra "rx"
   refine⟨rfl,?_⟩
   refine⟨_,rfl,brkD (fun h1=>?_) (fun h1=>?_)⟩
   ·k_extra "rx"
    refine⟨B,L,y1,rfl,b6,by omega,x2,fun y2 H7 l3 x3 b7 f7=>?_⟩
    refine i_gName ?_
    exact key _ _ ⟨y2,rfl,by omega,x3,b7⟩
   ·refine i_tNext ?_
    exact key _ _ ⟨y1,rfl,by omega,x2,b6⟩
 ·rintro σ H2 ⟨v2,v3,v4,v5,v6,rfl,b2⟩
  k_extra "rx"
  refine⟨Str.ofString "", rfl,by decide +kernel,by decide +kernel,fun ds z=>(by rw[rdL_em] at z;cases z),fun _ p H3 s3 hp=>?_⟩
  k_extra "rx"
  refine i_NewO (Nat.le_of_ble_eq_true rfl) fun r H4 nr s4 hr=>?_
  have hp4:=s4 _ _ hp
  refine⟨.tup [.non,.int 0],.tup [.non,.int 0],⟨p,_,rfl,hp4,dens1 rfl (dens1 rfl dens0)⟩,⟨r,_,rfl,hr,dens1 rfl (dens1 rfl dens0)⟩,?_,?_⟩
  ·exact cmp_em
  ·rw[dec_rfl]
   show Q (.bl true) H4
   rw[hQt]
   trivial
def FnA(K:PySem.W.Frag)(x:Str)(s:Stmt):Prop:=∃ f fd,Fun K x x s f fd∧PySem.W.nsIn K mainGlobals x=some (some (.ref f))
end
theorem FnA.mk{K:PySem.W.Frag}{x:Str}{s:Stmt}{f:Addr}{oc:Value}{od:Option Addr}{kV dc pm:Value}{an:Option Addr}{cd ct:Value}{sl:Array (Option Value)}(a:PySem.W.nsIn K mainGlobals x=some (some (.ref f)))(l:K.lookup f=some ⟨oc,od,.func (PySem.W.fnOf x x (defArgs s) (defBody s) (defScope s) .none kV dc pm an cd ct),sl⟩)(c:PySem.W.codeIn K cd x=true)(k:PySem.W.keepIn K (.ref f)=true):FnA K x s:=⟨f,_,fun_mk (st:=s) l c k,a⟩
theorem FnA.def{K:PySem.W.Frag}{h:Heap}{mg:Str→Option Value}{x:Str}{s:Stmt}(a:FnA K x s)(X:K.In h)(G:h.Ns mainGlobals mg):∃ f fd,DefAt K mg x s f fd:=by
 obtain⟨f,fd,u,a⟩:=a
 exact⟨f,fd,u,PySem.W.mg_of X G a⟩
theorem all_mk{l:PySem.W.OpenLaw}{w:World}{K:PySem.W.Frag}{h:Heap}{mg:Str→Option Value}{fa k0:Addr}(X:K.In h)(G:h.Ns mainGlobals mg)(hfa:mg "law" = some (.ref fa))
  (a0:FnA K "is_name" s_is_name)
  (a1:FnA K "is_heap" s_is_heap)
  (a2:FnA K "consists_of" s_consists_of)
  (a3:FnA K "read_name" s_read_name)
  (a4:FnA K "read_number" s_read_number)
  (a5:FnA K "read_heap" s_read_heap)
  (a6:FnA K "read_word" s_read_word)
  (a7:FnA K "read_line" s_read_line)
  (a8:FnA K "read_deed" s_read_deed)
  (a9:FnA K "_law_bag" s__law_bag)
  (a10:FnA K "_law_pull" s__law_pull)
  (a11:FnA K "_law_whole" s__law_whole)
  (a12:FnA K "_law_heaps" s__law_heaps)
  (a13:FnA K "_law_word" s__law_word)
  (a14:FnA K "_law_alike" s__law_alike)
  (a15:FnA K "_law_any_number" s__law_any_number)
  (a16:FnA K "_law_any_name" s__law_any_name)
  (a17:FnA K "_law_any_heap" s__law_any_heap)
  (a18:FnA K "_law_any_deed" s__law_any_deed)
  (a19:FnA K "_law_thing_text" s__law_thing_text)
  (a20:FnA K "_law_deed_text" s__law_deed_text)
  (a21:FnA K "_law_figures" s__law_figures)
  (a22:FnA K "_law_thing_in" s__law_thing_in)
  (a23:FnA K "_law_read" s__law_read)
  (a24:FnA K "_law_spoilt" s__law_spoilt)
  (a25:FnA K "_law_told" s__law_told)
  (a26:FnA K "law" s_law)
  (xq0:XQ K "BadText" "KeelError" "at" "BadText.__init__" i_BadText k0)
  (z0:PySem.W.nsIn K mainGlobals "all" = some none)
  (z1:PySem.W.nsIn K mainGlobals "len" = some none)
  (z2:PySem.W.nsIn K mainGlobals "int" = some none)
  (z3:PySem.W.nsIn K mainGlobals "tuple" = some none)
  (z4:PySem.W.nsIn K mainGlobals "zip" = some none)
  (z5:PySem.W.nsIn K mainGlobals "dict" = some none)
  (z6:PySem.W.nsIn K mainGlobals "list" = some none)
  (z7:PySem.W.nsIn K mainGlobals "isinstance" = some none)
  (z8:PySem.W.nsIn K mainGlobals "bool" = some none)
  (z9:PySem.W.nsIn K mainGlobals "range" = some none)
  (z10:PySem.W.nsIn K mainGlobals "str" = some none)
  {gt0:Tok} (u0:PySem.W.nsIn K mainGlobals "LETTERS" = some (some (.str "abcdefghijklmnopqrstuvwxyz" gt0)))
  {gt1:Tok} (u1:PySem.W.nsIn K mainGlobals "FIGURES" = some (some (.str "0123456789" gt1)))
  {gt2:Tok} (u2:PySem.W.nsIn K mainGlobals "PLACES" = some (some (.str "012345" gt2)))
  {gi0:Tok} (v0:PySem.W.nsIn K mainGlobals "MOST_FIGURES" = some (some (.int 13 gi0)))
  {gd_DEEDS:Addr} {ge_DEEDS:Nat} {gk_DEEDS0 gk_DEEDS1 gk_DEEDS2 gk_DEEDS3 gk_DEEDS4 gk_DEEDS5 gk_DEEDS6 gk_DEEDS7 gk_DEEDS8 gk_DEEDS9:Tok} {ga_DEEDS0 ga_DEEDS1 ga_DEEDS2 ga_DEEDS3 ga_DEEDS4 ga_DEEDS5 ga_DEEDS6 ga_DEEDS7 ga_DEEDS8 ga_DEEDS9:Addr} {gb_DEEDS0_0 gb_DEEDS0_1 gb_DEEDS1_0 gb_DEEDS1_1 gb_DEEDS1_2 gb_DEEDS1_3 gb_DEEDS2_0 gb_DEEDS2_1 gb_DEEDS3_0 gb_DEEDS3_1 gb_DEEDS4_0 gb_DEEDS4_1 gb_DEEDS5_0 gb_DEEDS5_1 gb_DEEDS5_2 gb_DEEDS5_3 gb_DEEDS6_0 gb_DEEDS6_1 gb_DEEDS6_2 gb_DEEDS7_0 gb_DEEDS7_1 gb_DEEDS7_2 gb_DEEDS8_0 gb_DEEDS9_0 gb_DEEDS9_1 gb_DEEDS9_2:Tok} (gUDEEDS:PySem.W.nsIn K mainGlobals "DEEDS" = some (some (.ref gd_DEEDS))) (gVDEEDS:K.lookup gd_DEEDS=some { cls:=.type "dict", data:=.dict #[⟨PyData.keyHash w.params "out", .str "out" gk_DEEDS0,.ref ga_DEEDS0⟩,⟨PyData.keyHash w.params "load", .str "load" gk_DEEDS1,.ref ga_DEEDS1⟩,⟨PyData.keyHash w.params "sail", .str "sail" gk_DEEDS2,.ref ga_DEEDS2⟩,⟨PyData.keyHash w.params "hire", .str "hire" gk_DEEDS3,.ref ga_DEEDS3⟩,⟨PyData.keyHash w.params "dismiss", .str "dismiss" gk_DEEDS4,.ref ga_DEEDS4⟩,⟨PyData.keyHash w.params "lend", .str "lend" gk_DEEDS5,.ref ga_DEEDS5⟩,⟨PyData.keyHash w.params "rescue", .str "rescue" gk_DEEDS6,.ref ga_DEEDS6⟩,⟨PyData.keyHash w.params "lose", .str "lose" gk_DEEDS7,.ref ga_DEEDS7⟩,⟨PyData.keyHash w.params "land", .str "land" gk_DEEDS8,.ref ga_DEEDS8⟩,⟨PyData.keyHash w.params "settle", .str "settle" gk_DEEDS9,.ref ga_DEEDS9⟩] ge_DEEDS }) (gLDEEDS:(gd_DEEDS == sysModules)=false) (gWDEEDS0:K.lookup ga_DEEDS0=some { cls:=.type "tuple", data:=.seq #[.str "name" gb_DEEDS0_0,.str "number" gb_DEEDS0_1] }) (gWDEEDS1:K.lookup ga_DEEDS1=some { cls:=.type "tuple", data:=.seq #[.str "name" gb_DEEDS1_0,.str "number" gb_DEEDS1_1,.str "number" gb_DEEDS1_2,.str "number" gb_DEEDS1_3] }) (gWDEEDS2:K.lookup ga_DEEDS2=some { cls:=.type "tuple", data:=.seq #[.str "name" gb_DEEDS2_0,.str "number" gb_DEEDS2_1] }) (gWDEEDS3:K.lookup ga_DEEDS3=some { cls:=.type "tuple", data:=.seq #[.str "name" gb_DEEDS3_0,.str "number" gb_DEEDS3_1] }) (gWDEEDS4:K.lookup ga_DEEDS4=some { cls:=.type "tuple", data:=.seq #[.str "name" gb_DEEDS4_0,.str "number" gb_DEEDS4_1] }) (gWDEEDS5:K.lookup ga_DEEDS5=some { cls:=.type "tuple", data:=.seq #[.str "name" gb_DEEDS5_0,.str "heap" gb_DEEDS5_1,.str "number" gb_DEEDS5_2,.str "number" gb_DEEDS5_3] }) (gWDEEDS6:K.lookup ga_DEEDS6=some { cls:=.type "tuple", data:=.seq #[.str "name" gb_DEEDS6_0,.str "heap" gb_DEEDS6_1,.str "number" gb_DEEDS6_2] }) (gWDEEDS7:K.lookup ga_DEEDS7=some { cls:=.type "tuple", data:=.seq #[.str "name" gb_DEEDS7_0,.str "number" gb_DEEDS7_1,.str "number" gb_DEEDS7_2] }) (gWDEEDS8:K.lookup ga_DEEDS8=some { cls:=.type "tuple", data:=.seq #[.str "name" gb_DEEDS8_0] }) (gWDEEDS9:K.lookup ga_DEEDS9=some { cls:=.type "tuple", data:=.seq #[.str "name" gb_DEEDS9_0,.str "number" gb_DEEDS9_1,.str "number" gb_DEEDS9_2] })
  : ∃ fd:FuncData,(∀(s:Shared)(v:Value),BindsTo s fd ⟨[v],[]⟩ [("_law_script", v)])∧∀ base:Heap,K.In base→base.Ns mainGlobals mg→FnOk l.prog w K mg base CX0 8 fa fd ["_law_script"] (sp_law K (fun _=>0)):=by
 obtain⟨_,_,D26⟩:=a26.def X G
 have e:=hfa.symm.trans D26.mg
 cases e
 obtain⟨oc,od,kV,dc,pm,an,cd,ct,sl,rfl,_,_⟩:=id D26.fn.ex
 have T:Txt w.params K mg (fun x=>if x = "BadText" then k0 else 0):=⟨PySem.W.mg_none_of X G z0,PySem.W.mg_none_of X G z1,PySem.W.mg_none_of X G z2,PySem.W.mg_none_of X G z3,PySem.W.mg_none_of X G z4,PySem.W.mg_none_of X G z5,PySem.W.mg_none_of X G z6,PySem.W.mg_none_of X G z7,PySem.W.mg_none_of X G z8,PySem.W.mg_none_of X G z9,PySem.W.mg_none_of X G z10,by simpa using xq0.xt X G,⟨_,PySem.W.mg_of X G u0⟩,⟨_,PySem.W.mg_of X G u1⟩,⟨_,PySem.W.mg_of X G u2⟩,⟨_,PySem.W.mg_of X G v0⟩,⟨_,PySem.W.mg_of X G gUDEEDS,_,_,_,_,_,_,_,_,_,_,⟨gLDEEDS,show (["out", "load", "sail", "hire", "dismiss", "lend", "rescue", "lose", "land", "settle"]:List Str).Nodup by decide +kernel,show 10≤1000 by decide,_,_,_,gVDEEDS,⟨rfl,rfl,rfl⟩,rfl,(.cons ⟨rfl,⟨_,rfl⟩,rfl⟩ (.cons ⟨rfl,⟨_,rfl⟩,rfl⟩ (.cons ⟨rfl,⟨_,rfl⟩,rfl⟩ (.cons ⟨rfl,⟨_,rfl⟩,rfl⟩ (.cons ⟨rfl,⟨_,rfl⟩,rfl⟩ (.cons ⟨rfl,⟨_,rfl⟩,rfl⟩ (.cons ⟨rfl,⟨_,rfl⟩,rfl⟩ (.cons ⟨rfl,⟨_,rfl⟩,rfl⟩ (.cons ⟨rfl,⟨_,rfl⟩,rfl⟩ (.cons ⟨rfl,⟨_,rfl⟩,rfl⟩ .nil))))))))))⟩,⟨_,_,_,gWDEEDS0,rfl,rfl,by show 2≤sizeLine;decide,(.cons ⟨_,rfl⟩ (.cons ⟨_,rfl⟩ .nil))⟩,⟨_,_,_,gWDEEDS1,rfl,rfl,by show 4≤sizeLine;decide,(.cons ⟨_,rfl⟩ (.cons ⟨_,rfl⟩ (.cons ⟨_,rfl⟩ (.cons ⟨_,rfl⟩ .nil))))⟩,⟨_,_,_,gWDEEDS2,rfl,rfl,by show 2≤sizeLine;decide,(.cons ⟨_,rfl⟩ (.cons ⟨_,rfl⟩ .nil))⟩,⟨_,_,_,gWDEEDS3,rfl,rfl,by show 2≤sizeLine;decide,(.cons ⟨_,rfl⟩ (.cons ⟨_,rfl⟩ .nil))⟩,⟨_,_,_,gWDEEDS4,rfl,rfl,by show 2≤sizeLine;decide,(.cons ⟨_,rfl⟩ (.cons ⟨_,rfl⟩ .nil))⟩,⟨_,_,_,gWDEEDS5,rfl,rfl,by show 4≤sizeLine;decide,(.cons ⟨_,rfl⟩ (.cons ⟨_,rfl⟩ (.cons ⟨_,rfl⟩ (.cons ⟨_,rfl⟩ .nil))))⟩,⟨_,_,_,gWDEEDS6,rfl,rfl,by show 3≤sizeLine;decide,(.cons ⟨_,rfl⟩ (.cons ⟨_,rfl⟩ (.cons ⟨_,rfl⟩ .nil)))⟩,⟨_,_,_,gWDEEDS7,rfl,rfl,by show 3≤sizeLine;decide,(.cons ⟨_,rfl⟩ (.cons ⟨_,rfl⟩ (.cons ⟨_,rfl⟩ .nil)))⟩,⟨_,_,_,gWDEEDS8,rfl,rfl,by show 1≤sizeLine;decide,(.cons ⟨_,rfl⟩ .nil)⟩,⟨_,_,_,gWDEEDS9,rfl,rfl,by show 3≤sizeLine;decide,(.cons ⟨_,rfl⟩ (.cons ⟨_,rfl⟩ (.cons ⟨_,rfl⟩ .nil)))⟩⟩⟩
 obtain⟨_,_,D0⟩:=a0.def X G
 obtain⟨_,_,D1⟩:=a1.def X G
 obtain⟨_,_,D2⟩:=a2.def X G
 obtain⟨_,_,D3⟩:=a3.def X G
 obtain⟨_,_,D4⟩:=a4.def X G
 obtain⟨_,_,D5⟩:=a5.def X G
 obtain⟨_,_,D6⟩:=a6.def X G
 obtain⟨_,_,D7⟩:=a7.def X G
 obtain⟨_,_,D8⟩:=a8.def X G
 obtain⟨_,_,D9⟩:=a9.def X G
 obtain⟨_,_,D10⟩:=a10.def X G
 obtain⟨_,_,D11⟩:=a11.def X G
 obtain⟨_,_,D12⟩:=a12.def X G
 obtain⟨_,_,D13⟩:=a13.def X G
 obtain⟨_,_,D14⟩:=a14.def X G
 obtain⟨_,_,D15⟩:=a15.def X G
 obtain⟨_,_,D16⟩:=a16.def X G
 obtain⟨_,_,D17⟩:=a17.def X G
 obtain⟨_,_,D18⟩:=a18.def X G
 obtain⟨_,_,D19⟩:=a19.def X G
 obtain⟨_,_,D20⟩:=a20.def X G
 obtain⟨_,_,D21⟩:=a21.def X G
 obtain⟨_,_,D22⟩:=a22.def X G
 obtain⟨_,_,D23⟩:=a23.def X G
 obtain⟨_,_,D24⟩:=a24.def X G
 obtain⟨_,_,D25⟩:=a25.def X G
 refine⟨PySem.W.fnOf "law" "law" (defArgs s_law) (defBody s_law) (defScope s_law) .none kV dc pm an cd ct,fun s v=>.of_eq rfl,fun base _ _=>?_⟩
 have d__law_bag:=ok__law_bag (P:=l.prog) (w:=w) (base:=base) D9 T
 have d__law_pull:=ok__law_pull (P:=l.prog) (w:=w) (base:=base) D10 T
 have d__law_spoilt:=ok__law_spoilt D24 T d__law_pull
 have d__law_figures:=ok__law_figures (P:=l.prog) (w:=w) (base:=base) D21 T
 have d__law_heaps:=ok__law_heaps (P:=l.prog) (w:=w) (base:=base) D12 T
 have d__law_thing_in:=ok__law_thing_in D22 T d__law_figures d__law_heaps
 have d__law_read:=ok__law_read D23 T d__law_thing_in
 have d_consists_of:=ok_consists_of (P:=l.prog) (w:=w) (base:=base) D2 T
 have d_read_number:=ok_read_number D4 T d_consists_of
 have d_is_name:=ok_is_name (P:=l.prog) (w:=w) (base:=base) D0 T
 have d_read_name:=ok_read_name D3 T d_is_name
 have d_is_heap:=ok_is_heap (P:=l.prog) (w:=w) (base:=base) D1 T
 have d_read_heap:=ok_read_heap D5 T d_consists_of d_is_heap
 have d_read_word:=ok_read_word D6 T d_read_number d_read_name d_read_heap
 have d_read_line:=ok_read_line D7 T d_read_word
 have d_read_deed:=ok_read_deed D8 T d_read_line
 have d__law_told:=ok__law_told D25 T d_read_deed
 have d__law_thing_text:=ok__law_thing_text (P:=l.prog) (w:=w) (base:=base) D19 T
 have d__law_deed_text:=ok__law_deed_text D20 T d__law_thing_text
 have d__law_word:=ok__law_word D13 T d__law_pull
 have d__law_any_name:=ok__law_any_name D16 T d__law_word d__law_pull
 have d__law_any_heap:=ok__law_any_heap D17 T d__law_heaps d__law_pull
 have d__law_any_number:=ok__law_any_number D15 T d__law_pull
 have d__law_any_deed:=ok__law_any_deed D18 T d__law_pull d__law_any_name d__law_any_heap d__law_any_number
 have d__law_whole:=ok__law_whole (P:=l.prog) (w:=w) (base:=base) D11 T
 have d__law_alike0:DefOk l.prog w K mg base CX0 2 "_law_alike" ["_law_found", "_law_due"] (sp__law_alike 0):=rec0 D14 (D14.fn.binds fun _ _ _ _ _ _ us hl=>match us,hl with | [_,_],_=>rfl) no__law_alike
 have d__law_alike1:=ok__law_alike (n:=0) D14 T d__law_whole d__law_alike0
 have d__law_alike2:=ok__law_alike (n:=1) D14 T d__law_whole d__law_alike1
 have d__law_alike:=ok__law_alike (n:=2) D14 T d__law_whole d__law_alike2
 have d_law:=ok_law D26 T d__law_bag d__law_spoilt d__law_read d__law_told d__law_deed_text d__law_pull d__law_any_deed d__law_alike
 exact d_law
theorem walk{l:PySem.W.OpenLaw}{q:Program}{loose:List Str}{XP:(Str→Option Value)→Heap→Prop}{YP:World→Heap→Prop}{d:DefRec}{K:Params→PySem.W.Frag}(hn:l.most=some 63)(hdf:d.params.defaults=[])
  (hY:∀(w:World)(h:Heap),YP w h→(K w.params).In h)
  (F:∀(w:World)(mg:Str→Option Value)(fa:Addr)(h:Heap),(K w.params).In h→h.Ns mainGlobals mg→mg d.name=some (.ref fa) →
   ∃ fd:FuncData,(∀(s:Shared)(u:Value),BindsTo s fd ⟨[u],[]⟩ [("_law_script", u)])∧∀ base:Heap,(K w.params).In base→base.Ns mainGlobals mg→FnOk l.prog w (K w.params) mg base CX0 8 fa fd ["_law_script"] (sp_law (K w.params) (fun _=>0))) :
  PySem.W.WalkO q loose XP YP l.row.toRowW d [] (fun f vs=>PySem.call f vs) :=
 L2.walk_of (n:=63) (k:=8) (x := "_law_script") (CX:=fun _=>CX0) (sp:=fun w=>sp_law (K w.params) (fun _=>0)) hn (by decide) hdf ⟨rfl,by decide,by decide⟩ hY F (fun _ _ a ns hl _ hS=>⟨a,ns,rfl,hS,hl,fun _=>rfl⟩) fun _ _ _ _ _ z=>z
end Toy
def PySem.W.Fast.tw14809640557035254322:Unit:=()
def PySem.W.Fast.tw16427345137003230069:Unit:=()
def PySem.W.Fast.tw13225544799843333495:Unit:=()
def PySem.W.Fast.tw12216634830444125442:Unit:=()
def PySem.W.Fast.tw6550287767318441316:Unit:=()
def PySem.W.Fast.tw4732743848347160506:Unit:=()
def PySem.W.Fast.tw15551357607145736065:Unit:=()
def PySem.W.Fast.tw869064747114425271:Unit:=()
def PySem.W.Fast.tw489927921794131648:Unit:=()
def PySem.W.Fast.tw12274043582088765791:Unit:=()
def PySem.W.Fast.tw8792133077375017884:Unit:=()
def PySem.W.Fast.tw1280772546171814302:Unit:=()
def PySem.W.Fast.tw807239541320138512:Unit:=()
def PySem.W.Fast.tw14788333605121673838:Unit:=()
def PySem.W.Fast.tw1950825450563456277:Unit:=()
def PySem.W.Fast.tw14406658157010104453:Unit:=()
def PySem.W.Fast.tw2473160909618175333:Unit:=()
def PySem.W.Fast.tw15639154194206402949:Unit:=()
def PySem.W.Fast.tw13351383712189064720:Unit:=()
open PySem PySem.W PyProof.Rows
set_option maxRecDepth 100000 in
set_option maxHeartbeats 0 in
theorem PySem.Challenge.cw_keelbond_k56_lines_read_or_refused_holds : PySem.Challenge.rw_keelbond_k56_lines_read_or_refused.Holds := by
 w_on;o_law;k_head;(case hw=>w_witness2)
 k_fill
 refine Toy.walk (l:=PySem.Challenge.rw_keelbond_k56_lines_read_or_refused) rfl rfl (fun w h Y=>PySem.W.kIn_of Y) ?F
 case F =>
  intro w mg fa h KX G hmg
  refine' Toy.all_mk KX G hmg ?_ ?_ ?_ ?_ ?_ ?_ ?_ ?_ ?_ ?_ ?_ ?_ ?_ ?_ ?_ ?_ ?_ ?_ ?_ ?_ ?_ ?_ ?_ ?_ ?_ ?_ ?_ ?_ ?_ ?_ ?_ ?_ ?_ ?_ ?_ ?_ ?_ ?_ ?_ ?_ ?_ ?_ ?_ ?_ ?_ ?_ ?_ ?_ ?_ ?_ ?_ ?_ ?_ ?_ ?_ ?_
  any_goals first | (refine' Toy.FnA.mk ?aa ?bb ?cc ?dd;(case aa=>k_is);(case bb=>k_is);(case cc=>k_is);(case dd=>k_is)) | (refine' L2.XQ.mk ?a1 ?a2 ?a3 ?a4 ?a5 ?a6 ?a7 ?a8 ?a9 ?b1 ?b2 ?b3 ?b4 ?b5 ?b6 ?b7;(case a1=>k_is);(case a2=>k_is);(case a3=>k_is);(case a4=>k_is);(case a5=>k_is);(case a6=>k_is);(case a7=>kernel_rfl);(case a8=>k_is);(case a9=>k_is);(case b1=>k_is);(case b2=>k_is);(case b3=>kernel_rfl);(case b4=>k_is);(case b5=>k_is);(case b6=>k_is);(case b7=>k_is)) | k_exc | k_is | decide
