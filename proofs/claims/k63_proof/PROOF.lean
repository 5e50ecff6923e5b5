import PyProof.Rows.All
import Wide.All
import OpenK.AllK
import Wide.FinOn
import Lean
import PyProof.EqAt
import PyProof.EqKinds
import PyProof.TupleCall
import PyProof.Rows.SortRuns
import PyProof.Rows.SortShell
import PyProof.ZipIter
import PyProof.TupleIter
import KE.KIntText
import PyProof.Rows.StrNews
import PyProof.StrLawsTight
import KE.KDictOf
import PyProof.StationsW
import PyProof.InstStoreFacts
import PyProof.ExcInit
import PyProof.ExcClass3
import PyProof.Rows.Range3
import KE.KDictList
import PySem.Challenge.RW_keelbond_k63_whole_long_books
set_option Elab.async false
set_option linter.all false
set_option maxRecDepth 100000
namespace L2
open PySem PySem.Spec PyProof.Rows
abbrev Key:=Sum Int Str
def keyIs:Key→Value→Bool
 | .inl k,v=>Value.isInt k v
 | .inr x,v=>Value.isStrOf x v
def keyH(w:World):Key→Int
 | .inl k=>hashInt k
 | .inr x=>hashStr w x
theorem keyIs_shape:∀{k:Key}{v:Value},keyIs k v=true→(∃ i t,k=Sum.inl i∧v=Value.int i t)∨(∃ x t,k=Sum.inr x∧v=Value.str x t)
 | .inl i,v,h=>by
  obtain⟨t,e⟩:=Value.isInt_shape (k:=i) (v:=v) h
  exact .inl ⟨i,t,rfl,e⟩
 | .inr x,v,h=>by
  obtain⟨t,e⟩:=Value.isStrOf_shape (x:=x) (v:=v) h
  exact .inr ⟨x,t,rfl,e⟩
theorem keyIs_int(i:Int)(t:Tok):keyIs (.inl i) (.int i t)=true:=by simp[keyIs,Value.isInt]
theorem keyIs_str(x:Str)(t:Tok):keyIs (.inr x) (.str x t)=true:=by simp[keyIs,Value.isStrOf]
theorem key_ll(a b:Int):decide ((Sum.inl a:Key)=Sum.inl b)=(a == b):=by
 by_cases e:a=b
 ·subst e;simp
 ·have h:¬ (Sum.inl a:Key)=Sum.inl b:=fun q=>e (Sum.inl.inj q)
  rw[decide_eq_false h]
  exact (beq_eq_false_iff_ne.mpr e).symm
theorem key_rr(a b:Str):decide ((Sum.inr a:Key)=Sum.inr b)=decide (a=b):=by
 by_cases e:a=b
 ·subst e;simp
 ·have h:¬ (Sum.inr a:Key)=Sum.inr b:=fun q=>e (Sum.inr.inj q)
  rw[decide_eq_false h,decide_eq_false e]
theorem key_lr(a:Int)(b:Str):decide ((Sum.inl a:Key)=Sum.inr b)=false:=decide_eq_false (fun q=>nomatch q)
theorem key_rl(a:Str)(b:Int):decide ((Sum.inr a:Key)=Sum.inl b)=false:=decide_eq_false (fun q=>nomatch q)
def mixKind(prog:Program)(w:World):PySem.KeyKind prog w Key where
 is:=keyIs
 hash:=keyH w
 inj:=fun v a b ha hb=>by
  rcases keyIs_shape ha with ⟨i,t,rfl,rfl⟩ | ⟨x,t,rfl,rfl⟩
  ·rcases keyIs_shape hb with ⟨j,u,rfl,e⟩ | ⟨y,u,rfl,e⟩
   ·injection e with e1 _;rw[e1]
   ·exact nomatch e
  ·rcases keyIs_shape hb with ⟨j,u,rfl,e⟩ | ⟨y,u,rfl,e⟩
   ·exact nomatch e
   ·injection e with e1 _;rw[e1]
 byValue:=fun k v h=>by
  rcases keyIs_shape h with ⟨i,t,rfl,rfl⟩ | ⟨x,t,rfl,rfl⟩<;>rfl
 pyHash:=fun hv h=>by
  rcases keyIs_shape hv with ⟨i,t,rfl,rfl⟩ | ⟨x,t,rfl,rfl⟩
  ·exact wpAny_pyHash_int h
  ·exact wpAny_pyHash_str h
 eqBool:=fun hu hv h=>by
  rcases keyIs_shape hu with ⟨i,t,rfl,rfl⟩ | ⟨x,t,rfl,rfl⟩
  ·rcases keyIs_shape hv with ⟨j,u,rfl,rfl⟩ | ⟨y,u,rfl,rfl⟩
   ·rw[key_ll] at h;exact wpAny_eqBool_int h
   ·rw[key_lr] at h;exact SeqAt.EqAt.int_str i t y u _ _ _ _ h
  ·rcases keyIs_shape hv with ⟨j,u,rfl,rfl⟩ | ⟨y,u,rfl,rfl⟩
   ·rw[key_rl] at h;exact SeqAt.EqAt.str_int x t j u _ _ _ _ h
   ·rw[key_rr] at h;exact wpAny_eqBool_str h
 «strs»:=fun k x t v h=>by
  rcases keyIs_shape h with ⟨i,u,rfl,e⟩ | ⟨y,u,rfl,e⟩
  ·exact nomatch e
  ·injection e with e1 _
   subst e1
   cases v<;>rfl
theorem mixKind_int(prog:Program)(w:World)(i:Int)(t:Tok):(mixKind prog w).is (.inl i) (.int i t)=true:=keyIs_int i t
theorem mixKind_str(prog:Program)(w:World)(x:Str)(t:Tok):(mixKind prog w).is (.inr x) (.str x t)=true:=keyIs_str x t
end L2
namespace L2
open PySem PySem.Spec PyProof.Rows
inductive V where
 | non | bl (b:Bool) | int (i:Int) | str (x:Str) | byt (b:Array UInt8) | flt (b:UInt64) | ref (a:Addr) | ty (n:String)
 deriving DecidableEq
def RelV:V→Value→Prop
 | .non,u=>u=Value.none
 | .bl b,u=>u=Value.bool b
 | .int i,u=>∃ t,u=Value.int i t
 | .str x,u=>∃ t,u=Value.str x t
 | .byt b,u=>∃ t,u=Value.bytes b t
 | .flt b,u=>∃ t,u=Value.float b t
 | .ref a,u=>u=Value.ref a
 | .ty n,u=>u=Value.type n
abbrev Vals:List V→List Value→Prop:=Paired RelV
theorem Vals.length{xs:List V}{us:List Value}(r:Vals xs us):xs.length=us.length:=Paired.length r
theorem Vals.get:∀{xs:List V}{us:List Value}{i:Nat}{x:V},Vals xs us→xs[i]?=some x→∃ u,us[i]?=some u∧RelV x u
 | _,_,_,_,.nil,e=>by simp at e
 | _,_,0,_,.cons r _,e=>by simp at e;subst e;exact⟨_,rfl,r⟩
 | _,_,i+1,x,.cons _ t,e=>by
  obtain⟨u,h1,h2⟩:=Vals.get (i:=i) (x:=x) t (by simpa using e)
  exact⟨u,by simpa using h1,h2⟩
theorem Vals.set{x:V}{u:Value}(r:RelV x u):∀{xs:List V}{us:List Value}(i:Nat),Vals xs us→Vals (xs.set i x) (us.set i u)
 | _,_,_,.nil=>.nil
 | _,_,0,.cons _ t=>.cons r t
 | _,_,i+1,.cons q t=>.cons q (Vals.set r i t)
theorem Vals.append:∀{xs ys:List V}{us ws:List Value},Vals xs us→Vals ys ws→Vals (xs++ys) (us++ws)
 | _,_,_,_,.nil,s=>s
 | _,_,_,_,.cons r t,s=>.cons r (Vals.append t s)
theorem Vals.take:∀{xs:List V}{us:List Value}(n:Nat),Vals xs us→Vals (xs.take n) (us.take n)
 | _,_,0,_=>.nil
 | _,_,_+1,.nil=>.nil
 | _,_,n+1,.cons r t=>.cons r (Vals.take n t)
theorem Vals.drop:∀{xs:List V}{us:List Value}(n:Nat),Vals xs us→Vals (xs.drop n) (us.drop n)
 | _,_,0,r=>r
 | _,_,_+1,.nil=>.nil
 | _,_,n+1,.cons _ t=>Vals.drop n t
theorem Vals.none_of:∀{xs:List V}{us:List Value}{i:Nat},Vals xs us→xs[i]?=none→us[i]?=none:=fun {xs us i} r e=>by
 have h1:=r.length
 have h2:xs.length≤i:=List.getElem?_eq_none_iff.mp e
 exact List.getElem?_eq_none_iff.mpr (by omega)
def RelO:Option V→Option Value→Prop
 | some v,some u=>RelV v u
 | none,none=>True
 | _,_=>False
def KV{κ:Type}:List (κ×V)→List (κ×Value)→Prop:=Paired fun (p:κ×V) (q:κ×Value)=>p.1=q.1∧RelV p.2 q.2
def kV:Key→V
 | .inl i=>.int i
 | .inr x=>.str x
inductive HO where
 | lst (xs:List V)
 | tup (xs:List V)
 | dK (kvs:List (Key×V)) | dT (kvs:List (List Key×V))
 | set (S:Int→Bool) (n:Nat)
 | ins (C dx:Addr) (fs:List (Str×V))
 | own (x:Addr)
 | xd (fs:List (Str×V))
 | met (f x:Addr)
 | rng (lo hi:Int)
 | frz (o:Obj) (u:HO)
 | tbl (ps:Array Value)
 | ext (φ:Heap→Prop)
abbrev Hp:=Addr→Option HO
def upd(H:Hp)(a:Addr)(o:HO):Hp:=fun b=>if b=a then some o else H b
theorem upd_same{H:Hp}{a:Addr}{o:HO}:upd H a o a=some o:=by unfold upd;rw[if_pos rfl]
theorem upd_ne{H:Hp}{a b:Addr}{o:HO}(h:b≠a):upd H a o b=H b:=by unfold upd;rw[if_neg h]
theorem ne_of{H:Hp}{a b:Addr}{o u:HO}(h:H a=some o)(h':H b=some u)(d:o≠u):a≠b:=by
 intro e;subst e;rw[h] at h';exact d (Option.some.inj h')
theorem ne_of_none{H:Hp}{a b:Addr}{o:HO}(h:H a=some o)(h':H b=none):a≠b:=by
 intro e;subst e;rw[h] at h';cases h'
section
variable (P:Program)(w:World)
def ObjOk(H:Hp)(h:Heap)(a:Addr):HO→Prop
 | .lst xs=>xs.length≤sizeLine∧∃(its:List Value)(n:Nat),Vals xs its∧h.get? a=some { cls:=.type "list", data:=.seq its.toArray n }
 | .tup xs=>xs.length≤sizeLine∧∃ its:List Value,Vals xs its∧IsTup h a its.toArray
 | .dK kvs=>kvs.length≤sizeLine∧(a == sysModules)=false∧∃ vs,KV kvs vs∧h.DictOf (mixKind P w) a vs
 | .dT kvs=>kvs.length≤sizeLine∧(a == sysModules)=false∧∃ xs:List (List Key×Addr×Value),
   Paired (fun (p:List Key×V) (q:List Key×Addr×Value)=>p.1=q.1∧H q.2.1=some (.tup (p.1.map kV))∧RelV p.2 q.2.2) kvs xs ∧
   ∃ o es ep,h.get? a=some o∧o.ExactDict∧o.data=.dict es ep∧es.toList=xs.map (entryOfKey (tupleKind (mixKind P w)))∧(xs.map (·.1)).Nodup
 | .set S n=>h.SetOf (intKind P w) a S n
 | .ins C dx fs=>H dx=some (.own a)∧fs.length≤1000∧dx≠a∧h.get? a=some (PySem.W.instObj C dx) ∧
   ∃ mA,h.Ns1 dx mA∧(∀ f,RelO (fs.lookup f) (mA f))∧PySem.Within mA (fs.map (·.1))
 | .own _=>∃ o,h.get? a=some o
 | .xd fs=>∃ mA,h.Ns1 a mA∧∀ f,RelO (fs.lookup f) (mA f)
 | .rng lo hi=>∃ t u v,h.get? a=some { cls:=.type "range", data:=.fields #[.int lo t,.int hi u,.int 1 v] }
 | .frz o u=>h.get? a=some o∧ObjOk H h a u
 | .tbl ps=>h.get? a=some { cls:=.none,data:=.fields ps }
 | .met f x=>h.get? a=some (PySem.W.methodObj (.ref f) (.ref x))
 | .ext φ=>φ h∧(∃ o,h.get? a=some o)∧∀ h1 h2:Heap,φ h1→(∀ o,h1.get? a=some o→h2.get? a=some o)→φ h2
def HOk(H:Hp)(h:Heap):Prop:=∀ a o,H a=some o→ObjOk P w H h a o
end
section
variable {P:Program}{w:World}{H H':Hp}{h h':Heap}{a:Addr}{o:HO}
theorem ObjOk.lt(x:ObjOk P w H h a o):a < h.objs.size:=by
 cases o with
 | lst xs=>obtain⟨_,_,_,_,e⟩:=x;exact Heap.lt_size e
 | tup xs=>obtain⟨_,_,_,p⟩:=x;exact p.lt
 | dK kvs=>obtain⟨_,_,_,_,o,_,_,e,_⟩:=x;exact Heap.lt_size e
 | dT kvs=>obtain⟨_,_,_,_,o,_,_,e,_⟩:=x;exact Heap.lt_size e
 | set S n=>obtain⟨o,_,_,_,e,_⟩:=x;exact Heap.lt_size e
 | ins C dx fs=>obtain⟨_,_,_,e,_⟩:=x;exact Heap.lt_size e
 | own y=>obtain⟨_,e⟩:=x;exact Heap.lt_size e
 | xd fs=>obtain⟨_,⟨_,_,_,e,_⟩,_⟩:=x;exact Heap.lt_size e
 | rng lo hi=>obtain⟨_,_,_,e⟩:=x;exact Heap.lt_size e
 | frz ob u=>obtain⟨e,_⟩:=x;exact Heap.lt_size e
 | tbl ps=>exact Heap.lt_size (show h.get? a=some _ from x)
 | met f y=>exact Heap.lt_size (show h.get? a=some _ from x)
 | ext φ=>obtain⟨_,⟨_,e⟩,_⟩:=x;exact Heap.lt_size e
theorem Paired.mapP{α β:Type}{F G:α→β→Prop}:∀{l₁:List α}{l₂:List β},Paired F l₁ l₂→(∀ a b,F a b→G a b)→Paired G l₁ l₂
 | _,_,.nil,_=>.nil
 | _,_,.cons r t,f=>.cons (f _ _ r) (Paired.mapP t f)
theorem ObjOk.stay(x:ObjOk P w H h a o)(k:∀ b u,(b=a∨H b=some (.own a))→h.get? b=some u→h'.get? b=some u)
  (ho:∀ b,H b=some (.own a)→H' b=some (.own a)) (ht:∀ b xs,H b=some (.tup xs)→H' b=some (.tup xs)):ObjOk P w H' h' a o:=by
 induction o with
 | lst xs=>obtain⟨z,its,n,r,e⟩:=x;exact⟨z,its,n,r,k _ _ (.inl rfl) e⟩
 | tup xs=>obtain⟨z,its,r,ob,e,c⟩:=x;exact⟨z,its,r,ob,k _ _ (.inl rfl) e,c⟩
 | dK kvs=>obtain⟨z,y,vs,r,ob,es,ep,e,c⟩:=x;exact⟨z,y,vs,r,ob,es,ep,k _ _ (.inl rfl) e,c⟩
 | dT kvs =>
  obtain⟨z,y,xs,r,ob,es,ep,e,c⟩:=x
  exact⟨z,y,xs,Paired.mapP r fun p q z=>⟨z.1,ht _ _ z.2.1,z.2.2⟩,ob,es,ep,k _ _ (.inl rfl) e,c⟩
 | set S n=>obtain⟨ob,es,ep,t,e,c⟩:=x;exact⟨ob,es,ep,t,k _ _ (.inl rfl) e,c⟩
 | ins C dx fs =>
  obtain⟨d,z,ne,e,mA,⟨od,es,ep,e2,c⟩,r⟩:=x
  exact⟨ho _ d,z,ne,k _ _ (.inl rfl) e,mA,⟨od,es,ep,k _ _ (.inr d) e2,c⟩,r⟩
 | own y=>obtain⟨ob,e⟩:=x;exact⟨ob,k _ _ (.inl rfl) e⟩
 | xd fs=>obtain⟨mA,⟨od,es,ep,e,c⟩,r⟩:=x;exact⟨mA,⟨od,es,ep,k _ _ (.inl rfl) e,c⟩,r⟩
 | rng lo hi=>obtain⟨t,u,v,e⟩:=x;exact⟨t,u,v,k _ _ (.inl rfl) e⟩
 | frz ob u ih=>obtain⟨e,q⟩:=x;exact⟨k _ _ (.inl rfl) e,ih q⟩
 | tbl ps =>
  have e:h.get? a=some { cls:=.none,data:=.fields ps }:=x
  show h'.get? a=some { cls:=.none,data:=.fields ps }
  exact k a _ (.inl rfl) e
 | met f y =>
  have e:h.get? a=some (PySem.W.methodObj (.ref f) (.ref y)):=x
  show h'.get? a=some (PySem.W.methodObj (.ref f) (.ref y))
  exact k a _ (.inl rfl) e
 | ext φ=>obtain⟨p,⟨o,e⟩,st⟩:=x;exact⟨st _ _ p fun o q=>k _ _ (.inl rfl) q,⟨o,k _ _ (.inl rfl) e⟩,st⟩
theorem HOk.lt(x:HOk P w H h)(e:H a=some o):a < h.objs.size:=(x a o e).lt
theorem HOk.fresh(x:HOk P w H h)(e:h.objs.size≤a):H a=none:=by
 cases q:H a with
 | none=>rfl
 | some u=>exact absurd (Nat.lt_of_lt_of_le (x.lt q) e) (Nat.lt_irrefl _)
theorem HOk.kept(x:HOk P w H h)(k:∀ b u,h.get? b=some u→h'.get? b=some u):HOk P w H h':=fun a o e =>
 (x a o e).stay (fun b u _ q=>k b u q) (fun _ q=>q) fun _ _ q=>q
theorem HOk.laid(x:HOk P w H h)(k:∀ b u,h.get? b=some u→h'.get? b=some u)(hp:h.objs.size≤a)(new:ObjOk P w (upd H a o) h' a o):HOk P w (upd H a o) h':=fun b u e=>by
 have hn:=x.fresh hp
 by_cases hb:b=a
 ·subst hb;rw[upd_same] at e;cases e;exact new
 ·rw[upd_ne hb] at e
  exact (x b u e).stay (fun c v _ q=>k c v q) (fun c q=>by rw[upd_ne (ne_of_none q hn)];exact q) fun c xs q=>by rw[upd_ne (ne_of_none q hn)];exact q
end
def Rd(H:Hp)(a:Addr)(u:HO):Prop:=H a=some u∨∃ o,H a=some (.frz o u)
theorem Rd.of{H:Hp}{a:Addr}{u:HO}(h:H a=some u):Rd H a u:=.inl h
theorem Rd.ok{P:Program}{w:World}{H:Hp}{h:Heap}{a:Addr}{u:HO}(r:Rd H a u)(x:HOk P w H h):ObjOk P w H h a u:=by
 rcases r with r | ⟨o,r⟩
 ·exact x a u r
 ·obtain⟨_,q⟩:=x a _ r
  exact q
def Mut:Option HO→Prop
 | some (.lst _)=>True
 | some (.dK _)=>True
 | some (.dT _)=>True
 | some (.set _ _)=>True
 | some (.ins _ _ _)=>True
 | some (.ext _)=>True
 | _=>False
section
variable {P:Program}{w:World}{H:Hp}{h h':Heap}{x e:Addr}{o':HO}
theorem HOk.write(ok:HOk P w H h)(mu:Mut (H x))(he:e=x∨H e=some (.own x))(k:∀ b u,b≠e→h.get? b=some u→h'.get? b=some u)(heo:∃ u,h'.get? e=some u)
  (new:ObjOk P w (upd H x o') h' x o'):HOk P w (upd H x o') h':=fun b u q=>by
 have nown:∀ c y,H c=some (.own y)→c≠x:=fun c y r z=>by subst z;rw[r] at mu;exact mu
 have ntup:∀ c xs,H c=some (.tup xs)→c≠x:=fun c xs r z=>by subst z;rw[r] at mu;exact mu
 by_cases hb:b=x
 ·subst hb;rw[upd_same] at q;cases q;exact new
 ·rw[upd_ne hb] at q
  by_cases hbe:b=e
  ·have q':H b=some (.own x):=by
    rcases he with z | z
    ·exact absurd (hbe.trans z) hb
    ·rw[hbe];exact z
   rw[q] at q';cases q'
   obtain⟨v,hv⟩:=heo
   exact⟨v,by rw[hbe];exact hv⟩
  ·refine (ok b u q).stay (fun c v hc r=>k c v ?_ r) (fun c r=>by rw[upd_ne (nown c b r)];exact r) fun c xs r=>by rw[upd_ne (ntup c xs r)];exact r
   rcases hc with rfl | hc
   ·exact hbe
   ·rintro rfl
    rcases he with z | z
    ·exact nown c b hc z
    ·rw[hc] at z;cases z;exact hb rfl
end
structure Un(fs ex:List Addr)(H H':Hp)(h h':Heap):Prop where
 keep:∀ b o,h.get? b=some o→H b=none→b∉fs→b∉ex→h'.get? b=some o
 slot:∀ b o,h.get? b=some o→H b=none→b∈fs→b∉ex→∃ sl,h'.get? b=some { o with slots:=sl }
 free:∀ b o,h.get? b=some o→H b=none→b∉ex→H' b=none
 there:∀ b o,h.get? b=some o→b∉ex→∃ o',h'.get? b=some o'
 tups:∀ b xs,H b=some (.tup xs)→H' b=some (.tup xs)
 frzs:∀ b o u,H b=some (.frz o u)→H' b=some (.frz o u)
 tbls:∀ b ps,H b=some (.tbl ps)→∃ more,H' b=some (.tbl (ps++more))
section
variable {fs fs' ex ex':List Addr}{H H1 H2:Hp}{h h1 h2 h':Heap}{a x e:Addr}{o:HO}
theorem Un.any(u:Un fs ex H H1 h h1){b:Addr}{ob:Obj}(q:h.get? b=some ob)(n:H b=none)(hx:b∉ex):∃ sl,h1.get? b=some { ob with slots:=sl }:=by
 by_cases hb:b∈fs
 ·exact u.slot b ob q n hb hx
 ·exact⟨ob.slots,u.keep b ob q n hb hx⟩
theorem Un.trans(a:Un fs ex H H1 h h1)(b:Un fs ex H1 H2 h1 h2):Un fs ex H H2 h h2 where
 keep:=fun c ob q n hc hx=>b.keep c ob (a.keep c ob q n hc hx) (a.free c ob q n hx) hc hx
 slot:=fun c ob q n hc hx=>by
  obtain⟨sl,e1⟩:=a.slot c ob q n hc hx
  obtain⟨sl',e2⟩:=b.slot c _ e1 (a.free c ob q n hx) hc hx
  exact⟨sl',e2⟩
 free:=fun c ob q n hx=>by
  obtain⟨o',e1⟩:=a.there c ob q hx
  exact b.free c o' e1 (a.free c ob q n hx) hx
 there:=fun c ob q hx=>by
  obtain⟨o',e1⟩:=a.there c ob q hx
  exact b.there c o' e1 hx
 tups:=fun c xs q=>b.tups c xs (a.tups c xs q)
 frzs:=fun c ob xs q=>b.frzs c ob xs (a.frzs c ob xs q)
 tbls:=fun c ps q=>by
  obtain⟨m1,e1⟩:=a.tbls c ps q
  obtain⟨m2,e2⟩:=b.tbls c _ e1
  exact⟨m1++m2,by rw[e2,Array.append_assoc]⟩
theorem Un.kept(k:∀ b u,h.get? b=some u→h'.get? b=some u):Un fs ex H H h h' :=
 ⟨fun b ob q _ _ _=>k b ob q,fun b ob q _ _ _=>⟨ob.slots,k b ob q⟩,fun _ _ _ n _=>n,fun b ob q _=>⟨ob,k b ob q⟩,fun _ _ q=>q,fun _ _ _ q=>q,fun _ ps q=>⟨#[],by rw[q];simp⟩⟩
theorem Un.refl:Un fs ex H H h h:=Un.kept fun _ _ q=>q
theorem Un.laid(k:∀ b u,h.get? b=some u→h'.get? b=some u)(hp:h.objs.size≤a)(hn:H a=none):Un fs ex H (upd H a o) h h' where
 keep:=fun b u q _ _ _=>k b u q
 slot:=fun b u q _ _ _=>⟨u.slots,k b u q⟩
 free:=fun b u q n _=>by rw[upd_ne (Nat.ne_of_lt (Nat.lt_of_lt_of_le (Heap.lt_size q) hp))];exact n
 there:=fun b u q _=>⟨u,k b u q⟩
 tups:=fun b xs q=>by rw[upd_ne (ne_of_none q hn)];exact q
 frzs:=fun b u xs q=>by rw[upd_ne (ne_of_none q hn)];exact q
 tbls:=fun b ps q=>⟨#[],by rw[upd_ne (ne_of_none q hn),q];simp⟩
theorem Un.write(mu:Mut (H x))(he:e=x∨H e=some (.own x))(k:∀ b u,b≠e→h.get? b=some u→h'.get? b=some u)(heo:∃ u,h'.get? e=some u):Un fs ex H (upd H x o) h h':=by
 have hx:∀ b,H b=none→b≠x:=fun b n z=>by subst z;rw[n] at mu;exact mu
 have hb:∀ b,H b=none→b≠e:=fun b n z=>by
  subst z
  rcases he with r | r
  ·exact hx b n r
  ·rw[n] at r;cases r
 have hm:∀ b u,H b=some u→¬ Mut (some u)→b≠x:=fun b u q nm z=>by subst z;rw[q] at mu;exact nm mu
 refine⟨fun b u q n _ _=>k b u (hb b n) q,fun b u q n _ _=>⟨u.slots,k b u (hb b n) q⟩,fun b u q n _=>by rw[upd_ne (hx b n)];exact n,fun b u q _=>?_,
  fun b xs q=>by rw[upd_ne (hm b _ q fun z=>z)];exact q,fun b u xs q=>by rw[upd_ne (hm b _ q fun z=>z)];exact q,fun b ps q=>⟨#[],by rw[upd_ne (hm b _ q fun z=>z),q];simp⟩⟩
 by_cases hbe:b=e
 ·subst hbe;exact heo
 ·exact⟨u,k b u hbe q⟩
theorem Un.mono(u:Un fs ex H H1 h h1)(hs:∀ b∈fs,b∈fs')(hx:∀ b∈ex,b∈ex'):Un fs' ex' H H1 h h1 :=
 ⟨fun b ob q n hb he=>u.keep b ob q n (fun z=>hb (hs b z)) fun z=>he (hx b z),fun _ _ q n _ he=>u.any q n fun z=>he (hx _ z),fun b ob q n he=>u.free b ob q n fun z=>he (hx b z),fun b ob q he=>u.there b ob q fun z=>he (hx b z),u.tups,u.frzs,u.tbls⟩
end
def trk(h:Heap)(H:Hp):List Addr:=(List.range h.objs.size).filter fun a=>(H a).isSome
def hidT(h:Heap)(H:Hp):Heap:=PySem.W.hideAll h (trk h H)
theorem hidT_size(h:Heap)(H:Hp):(hidT h H).objs.size=h.objs.size:=PySem.W.hideAll_size _ _
theorem hidT_get{h:Heap}{H:Hp}{b:Addr}{o:Obj}(e:h.get? b=some o)(n:H b=none):(hidT h H).get? b=some o :=
 PySem.W.hideAll_get _ e fun hm=>by
  have q:(H b).isSome=true:=(List.mem_filter.mp hm).2
  rw[n] at q;simp at q
theorem of_hidT{h:Heap}{H:Hp}{b:Addr}{o:Obj}(e:(hidT h H).get? b=some o):h.get? b=some o∧H b=none:=by
 have e':h.get? b=some o:=PySem.W.of_hideAll (trk h H) e
 refine⟨e',?_⟩
 cases q:H b with
 | none=>rfl
 | some x =>
  have hm:b∈trk h H:=List.mem_filter.mpr ⟨List.mem_range.mpr (Heap.lt_size e'),by simp[q]⟩
  have z:(hidT h H).get? b=none:=PySem.W.hideAll_none (trk h H) hm
  rw[z] at e;cases e
def allNews(g h:Heap)(L:Addr):List (Addr×Obj):=(List.range h.objs.size).filterMap fun a=>if a=L∨(g.get? a).isSome=true then none else (h.get? a).map fun o=>(a,o)
def rest(g h:Heap)(L d:Addr):List (Addr×Obj):=(allNews g h L).filter fun p=>decide (p.1≠d)
end L2
namespace L2
open PySem PySem.Spec PyProof.Rows
structure Mod(K:PySem.W.Frag)(mg:Str→Option Value)(base:Heap):Prop where
 kin:K.In base
 glob:base.Ns mainGlobals mg
 blt:∃ mb,base.Ns builtinsNs mb∧∀ x:Str,x ≠ "__name__" → mb x=bootBuiltins x
 nolimit:base.NoLimit
structure Cx where
 prog:Program
 w:World
 K:PySem.W.Frag
 mg:Str→Option Value
 base:Heap
 A:Around
 N:List Str
 s₀:Shared
 H₀:Hp
 env:Env
 outer:List Env
 stack:List Env
 ex:List Addr
 fn:Str→Bool
 calm:Bool
 pn:List (Addr×Obj)
 xe:Value→Shared→Prop
def frs(l:List Env):List Addr:=l.filterMap (·.frame)
abbrev Cx.fs(X:Cx):List Addr:=frs X.outer
def Vis(sc:Scope)(x:Str):Prop:=sc.names.lookup x=some .local∨sc.names.lookup x=some .cell∨sc.names.lookup x=some .free
def Loc(sc:Scope)(x:Str):Prop:=sc.names.lookup x=some .local∨sc.names.lookup x=some .cell
def Look(env:Env)(h:Heap)(m:Str→Option Value)(x:Str)(u:Value):Prop :=
 (env.kindOf x=some .local∧m x=some u)∨((env.kindOf x=some .cell∨env.kindOf x=some .free)∧∃ c,env.cells.lookup x=some c∧h.IsCell c (some u))
structure Cx.Ok(X:Cx):Prop where
 mod:Mod X.K X.mg X.base
 kind:X.env.scope.kind=.function
 glob:X.env.globals=mainGlobals
 blt:X.env.builtins=builtinsNs
 above:X.s₀.heap.objs.size≤X.env.locals
 inj:∀ x y c,X.env.cells.lookup x=some c→X.env.cells.lookup y=some c→x=y
 has:∀ x,(X.env.kindOf x=some .cell∨X.env.kindOf x=some .free)→∃ c,X.env.cells.lookup x=some c
 cab:∀ x c,X.fn x=true→X.env.cells.lookup x=some c→X.s₀.heap.objs.size≤c
 hd:X.calm=true→X.A.handled=none
 frames:X.A.frames=some X.stack
 stk:X.stack=X.outer∨(X.stack=X.env::X.outer∧X.env.frame=some X.env.locals)
 exf:∀ b∈X.ex,b≠X.env.locals∧∀ x c,X.env.cells.lookup x=some c→c≠b
 bs:∀ b o,X.base.get? b=some o→X.s₀.heap.get? b=some o∧X.H₀ b=none
 bsz:X.base.objs.size≤X.s₀.heap.objs.size
 noex:∀ b o,X.base.get? b=some o→b∉X.ex
 exfs:∀ b∈X.ex,b∉X.fs
 funs:X.s₀.heap.FunFrames X.base X.outer
 frf:∀ b∈X.fs,X.H₀ b=none
structure Inv(X:Cx)(pins:List (Addr×Obj))(σ:List (Option V))(H:Hp)(s:Shared):Prop where
 ok:X.Ok
 os:s.os=X.s₀.os
 bare:AllBare s.gens
 base:Un X.fs X.ex X.H₀ H X.s₀.heap s.heap
 loc:∃ m,s.heap.Ns X.env.locals m∧∀(i:Nat)(x:Str)(v:V),X.N[i]?=some x→σ[i]?=some (some v)→Vis X.env.scope x→∃ u,RelV v u∧Look X.env s.heap m x u
 cell:∀ x c,X.env.cells.lookup x=some c→∃ v,s.heap.IsCell c v
 free:H X.env.locals=none
 freeC:∀ x c,X.env.cells.lookup x=some c→H c=none
 pin:∀ p∈X.pn++pins,s.heap.get? p.1=some p.2∧H p.1=none∧p.1≠X.env.locals∧p.1∉X.fs∧∀ v,p.2.data≠.cell v
 hok:HOk X.prog X.w H s.heap
 len:σ.length=X.N.length
section
variable {X:Cx}{pins:List (Addr×Obj)}{σ:List (Option V)}{H H':Hp}{s:Shared}{h':Heap}
theorem Cx.Ok.nofr(ok:X.Ok){b:Addr}{o:Obj}(e:X.base.get? b=some o):b∉X.fs:=fun hb=>by
 have:=(ok.funs.mem hb).1
 rw[e] at this;cases this
theorem Inv.bs(I:Inv X pins σ H s):∀ b o,X.base.get? b=some o→s.heap.get? b=some o∧H b=none:=fun b o e =>
 ⟨I.base.keep b o (I.ok.bs b o e).1 (I.ok.bs b o e).2 (I.ok.nofr e) (I.ok.noex b o e),I.base.free b o (I.ok.bs b o e).1 (I.ok.bs b o e).2 (I.ok.noex b o e)⟩
theorem Inv.bk(I:Inv X pins σ H s):∀ b o,X.base.get? b=some o→s.heap.get? b=some o:=fun b o e=>(I.bs b o e).1
theorem Inv.mod(I:Inv X pins σ H s):Mod X.K X.mg X.base:=I.ok.mod
theorem Inv.kIn(I:Inv X pins σ H s):X.K.In s.heap:=I.ok.mod.kin.keeps I.bk
theorem Inv.nolimit(I:Inv X pins σ H s):s.heap.NoLimit:=I.ok.mod.nolimit.keeps I.bk
theorem Inv.fr(I:Inv X pins σ H s):∃ m,Fr X.base X.env.locals s.heap m :=
 let ⟨m,hn,_⟩:=I.loc
 ⟨m,hn,I.bk,Nat.le_trans I.ok.bsz I.ok.above⟩
theorem Inv.lt(I:Inv X pins σ H s):X.env.locals < s.heap.objs.size:=let ⟨_,hn,_⟩:=I.loc;hn.lt
theorem Inv.sz(I:Inv X pins σ H s):X.s₀.heap.objs.size≤s.heap.objs.size:=Nat.le_trans I.ok.above (Nat.le_of_lt I.lt)
theorem Inv.nofs(I:Inv X pins σ H s){a:Addr}(h:s.heap.objs.size≤a):a∉X.fs:=fun hb=>by
 obtain⟨_,o,ho,_⟩:=I.ok.funs.mem hb
 exact absurd (Nat.lt_of_lt_of_le (Heap.lt_size ho) (Nat.le_trans I.sz h)) (Nat.lt_irrefl _)
theorem Inv.cne(I:Inv X pins σ H s):∀ x c,X.env.cells.lookup x=some c→c≠X.env.locals:=fun x c e z=>by
 obtain⟨v,o,ho,hd⟩:=I.cell x c e
 obtain⟨m,⟨o',es,ep,ho',hd',_⟩,_⟩:=I.loc
 rw[z,ho'] at ho;cases ho;rw[hd'] at hd;cases hd
theorem Inv.funs(I:Inv X pins σ H s):s.heap.FunFrames X.base X.outer:=by
 have all:∀(l:List Env),(∀ b∈frs l,b∈X.fs)→X.s₀.heap.FunFrames X.base l→s.heap.FunFrames X.base l:=by
  intro l
  induction l with
  | nil=>intro _ _;trivial
  | cons env r ih =>
   intro hs hl
   obtain⟨hk,⟨L,o,hf,hn,ho,hd⟩,hr⟩:=hl
   have hL:L∈X.fs:=hs L (by unfold frs;rw[List.filterMap_cons,hf];exact List.mem_cons_self)
   obtain⟨sl,e⟩:=I.base.slot L o ho (I.ok.frf L hL) hL fun z=>I.ok.exfs L z hL
   exact⟨hk,⟨L,_,hf,hn,e,hd⟩,ih (fun b hb=>hs b (by unfold frs;rw[List.filterMap_cons,hf];exact List.mem_cons_of_mem _ hb)) hr⟩
 exact all X.outer (fun _ hb=>hb) I.ok.funs
theorem Inv.stack(I:Inv X pins σ H s):s.heap.FunFrames X.base X.stack:=by
 rcases I.ok.stk with e | ⟨e,hf⟩
 ·rw[e];exact I.funs
 ·rw[e]
  obtain⟨m,hn,_⟩:=I.loc
  refine .cons (by rw[I.ok.kind];decide) hf hn ?_ I.funs
  exact Heap.get?_none_of_le (Nat.le_trans I.ok.bsz I.ok.above)
theorem Inv.stkSub(I:Inv X pins σ H s):∀ b∈frs X.stack,b∈X.env.locals::X.fs:=fun b hb=>by
 rcases I.ok.stk with e | ⟨e,hf⟩
 ·rw[e] at hb;exact List.mem_cons_of_mem _ hb
 ·rw[e] at hb
  unfold frs at hb
  rw[List.filterMap_cons,hf] at hb
  exact hb
theorem Inv.stkFree(I:Inv X pins σ H s):∀ b∈frs X.stack,H b=none:=fun b hb=>by
 rcases List.mem_cons.mp (I.stkSub b hb) with e | hb
 ·rw[e];exact I.free
 ·obtain⟨_,o,ho,_⟩:=I.ok.funs.mem hb
  exact I.base.free b o ho (I.ok.frf b hb) fun z=>I.ok.exfs b z hb
theorem Inv.step{g':Array GenState}{t':Nat}{d':Drawn}{ch:List Addr}(I:Inv X pins σ H s)
  (hch:∀ b∈ch,(b∈X.ex∨X.s₀.heap.objs.size≤b)∧b≠X.env.locals∧(∀ x c,X.env.cells.lookup x=some c→c≠b)∧∀ p∈X.pn++pins,p.1≠b)
  (keep:∀ b o,b≠X.env.locals→b∉X.fs→b∉ch→s.heap.get? b=some o→H b=none→h'.get? b=some o)
  (slot:∀ b o,b≠X.env.locals→b∈X.fs→b∉ch→s.heap.get? b=some o→H b=none→∃ sl,h'.get? b=some { o with slots:=sl }) (free:∀ b o,b∉ch→s.heap.get? b=some o→H b=none→H' b=none)
  (there:∀ b o,b∉ch→s.heap.get? b=some o→∃ o',h'.get? b=some o')
  (tups:∀ b xs,H b=some (.tup xs)→H' b=some (.tup xs)) (frzs:∀ b o u,H b=some (.frz o u)→H' b=some (.frz o u)) (tbls:∀ b ps,H b=some (.tbl ps)→∃ more,H' b=some (.tbl (ps++more)))
  (ns:∀ m,s.heap.Ns X.env.locals m→h'.Ns X.env.locals m) (hok:HOk X.prog X.w H' h') (hg:AllBare g') :
  Inv X pins σ H' { s with heap:=h',gens:=g',drawn:=d',toks:=t' }:=by
 have neL:∀ b o,X.s₀.heap.get? b=some o→b≠X.env.locals:=fun b o e=>Nat.ne_of_lt (Nat.lt_of_lt_of_le (Heap.lt_size e) I.ok.above)
 have neC:∀ b o,X.s₀.heap.get? b=some o→b∉X.ex→b∉ch:=fun b o e hx hb=>by
  rcases (hch b hb).1 with z | z
  ·exact hx z
  ·exact absurd (Nat.lt_of_lt_of_le (Heap.lt_size e) z) (Nat.lt_irrefl _)
 have cellK:∀ x c,X.env.cells.lookup x=some c→∀ v,s.heap.IsCell c v→h'.IsCell c v:=fun x c e v ⟨o,ho,hd⟩=>by
  have nch:c∉ch:=fun z=>(hch c z).2.2.1 x c e rfl
  by_cases hc:c∈X.fs
  ·obtain⟨sl,q⟩:=slot c o (I.cne x c e) hc nch ho (I.freeC x c e)
   exact⟨_,q,hd⟩
  ·exact⟨o,keep c o (I.cne x c e) hc nch ho (I.freeC x c e),hd⟩
 refine⟨I.ok,I.os,hg,⟨fun b o e n hb hx=>?_,fun b o e n hb hx=>?_,fun b o e n hx=>?_,fun b o e hx=>?_,fun b xs e=>tups b xs (I.base.tups b xs e),fun b o xs e=>frzs b o xs (I.base.frzs b o xs e),fun b ps e=>?_⟩,?_,fun x c e=>?_,?_,fun x c e=>?_,fun p hp=>?_,hok,I.len⟩
 ·exact keep b o (neL b o e) hb (neC b o e hx) (I.base.keep b o e n hb hx) (I.base.free b o e n hx)
 ·obtain⟨sl,e1⟩:=I.base.slot b o e n hb hx
  obtain⟨sl',e2⟩:=slot b _ (neL b o e) hb (neC b o e hx) e1 (I.base.free b o e n hx)
  exact⟨sl',e2⟩
 ·obtain⟨o',e1⟩:=I.base.there b o e hx
  exact free b o' (neC b o e hx) e1 (I.base.free b o e n hx)
 ·obtain⟨o',e1⟩:=I.base.there b o e hx
  exact there b o' (neC b o e hx) e1
 ·obtain⟨m1,e1⟩:=I.base.tbls b ps e
  obtain⟨m2,e2⟩:=tbls b _ e1
  exact⟨m1++m2,by rw[e2,Array.append_assoc]⟩
 ·obtain⟨m,hn,hl⟩:=I.loc
  refine⟨m,ns m hn,fun i x v e1 e2 e3=>?_⟩
  obtain⟨u,r,l⟩:=hl i x v e1 e2 e3
  refine⟨u,r,?_⟩
  rcases l with l | ⟨k,c,e,z⟩
  ·exact .inl l
  ·exact .inr ⟨k,c,e,cellK x c e _ z⟩
 ·obtain⟨v,z⟩:=I.cell x c e
  exact⟨v,cellK x c e v z⟩
 ·obtain⟨m,⟨o,_,_,ho,_⟩,_⟩:=I.loc
  exact free _ o (fun z=>(hch _ z).2.1 rfl) ho I.free
 ·obtain⟨v,o,ho,hd⟩:=I.cell x c e
  exact free c o (fun z=>(hch c z).2.2.1 x c e rfl) ho (I.freeC x c e)
 ·obtain⟨e,n,ne,nf,d⟩:=I.pin p hp
  have nch:p.1∉ch:=fun z=>(hch p.1 z).2.2.2 p hp rfl
  exact⟨keep p.1 p.2 ne nf nch e n,free p.1 p.2 nch e n,ne,nf,d⟩
theorem Inv.un{t':Nat}(I:Inv X pins σ H s)(u:Un X.fs [] H H' s.heap h')(hok:HOk X.prog X.w H' h'):Inv X pins σ H' { s with heap:=h',toks:=t' }:=by
 obtain⟨m,⟨o,es,ep,ho,r⟩,_⟩:=id I.loc
 obtain⟨sl,hL⟩:=u.any ho I.free (by simp)
 exact I.step (g':=s.gens) (d':=s.drawn) (ch:=[]) (fun _ z=>nomatch z) (fun b o _ hb _ e n=>u.keep b o e n hb (by simp)) (fun b o _ hb _ e n=>u.slot b o e n hb (by simp)) (fun b o _ e n=>u.free b o e n (by simp)) (fun b o _ e=>u.there b o e (by simp)) u.tups u.frzs u.tbls (fun m' hm=>by
  obtain⟨o',es',ep',ho',r'⟩:=hm
  rw[ho] at ho';cases ho'
  exact⟨_,es',ep',hL,r'⟩) hok I.bare
theorem Inv.call{g':Array GenState}{t':Nat}{d':Drawn}{ch:List Addr}(I:Inv X pins σ H s)(u:Un (frs X.stack) ch H H' s.heap h')(hok:HOk X.prog X.w H' h')(hg:AllBare g')
  (hch:∀ b∈ch,(b∈X.ex∨X.s₀.heap.objs.size≤b)∧b≠X.env.locals∧(∀ x c,X.env.cells.lookup x=some c→c≠b)∧∀ p∈X.pn++pins,p.1≠b) :
  Inv X pins σ H' { s with heap:=h',gens:=g',drawn:=d',toks:=t' }:=by
 obtain⟨m,⟨o,es,ep,ho,r⟩,_⟩:=id I.loc
 obtain⟨sl,hL⟩:=u.any ho I.free fun z=>(hch _ z).2.1 rfl
 exact I.step (ch:=ch) hch (fun b o hL hb hc e n=>u.keep b o e n (fun z=>(List.mem_cons.mp (I.stkSub b z)).elim hL hb) hc) (fun b o _ _ hc e n=>u.any e n hc) (fun b o hc e n=>u.free b o e n hc) (fun b o hc e=>u.there b o e hc) u.tups u.frzs u.tbls (fun m' hm=>by
  obtain⟨o',es',ep',ho',r'⟩:=hm
  rw[ho] at ho';cases ho'
  exact⟨_,es',ep',hL,r'⟩) hok hg
theorem Inv.turned{t':Nat}{it:Addr}(I:Inv X pins σ H s)(k:∀ b o,b≠it→s.heap.get? b=some o→h'.get? b=some o)(hn:H it=none)(hL:it≠X.env.locals)
  (h1:it∈X.ex∨X.s₀.heap.objs.size≤it) (h2:∀ x c,X.env.cells.lookup x=some c→c≠it) (h3:∀ p∈X.pn++pins,p.1≠it):Inv X pins σ H { s with heap:=h',toks:=t' }:=by
 have nit:∀ b u,H b=some u→b≠it:=fun b u e z=>by rw[z,hn] at e;cases e
 refine I.step (g':=s.gens) (d':=s.drawn) (ch:=[it]) (fun b hb=>?_) (fun b o _ _ hc e _=>k b o (fun z=>hc (by simp[z])) e) (fun b o _ _ hc e _=>⟨o.slots,k b o (fun z=>hc (by simp[z])) e⟩) (fun _ _ _ _ n=>n)
  (fun b o hc e=>⟨o,k b o (fun z=>hc (by simp[z])) e⟩) (fun _ _ e=>e) (fun _ _ _ e=>e) (fun b ps e=>⟨#[],by rw[e];simp⟩) (fun m hm=>?_) (fun b u e=>?_) I.bare
 ·have e:b=it:=by simpa using hb
  subst e
  exact⟨h1,hL,h2,h3⟩
 ·obtain⟨o,es,ep,ho,r⟩:=hm
  exact⟨o,es,ep,k _ o (Ne.symm hL) ho,r⟩
 ·refine (I.hok b u e).stay (fun c v hc q=>k c v ?_ q) (fun _ q=>q) fun _ _ q=>q
  rcases hc with z | z
  ·rw[z];exact nit b u e
  ·exact nit c _ z
theorem Inv.tok(I:Inv X pins σ H s)(t:Nat):Inv X pins σ H { s with toks:=t }:=I.un (h':=s.heap) (t':=t) Un.refl I.hok
theorem Inv.kept{t':Nat}(I:Inv X pins σ H s)(k:∀ b u,s.heap.get? b=some u→h'.get? b=some u):Inv X pins σ H { s with heap:=h',toks:=t' }:=I.un (Un.kept k) (I.hok.kept k)
theorem Inv.laid{a:Addr}{o:HO}{t':Nat}(I:Inv X pins σ H s)(k:∀ b u,s.heap.get? b=some u→h'.get? b=some u)(hp:s.heap.objs.size≤a)(new:ObjOk X.prog X.w (upd H a o) h' a o) :
  Inv X pins σ (upd H a o) { s with heap:=h',toks:=t' }:=I.un (Un.laid k hp (I.hok.fresh hp)) (I.hok.laid k hp new)
theorem Inv.write{x e:Addr}{o:HO}{t':Nat}(I:Inv X pins σ H s)(mu:Mut (H x))(he:e=x∨H e=some (.own x))(k:∀ b u,b≠e→s.heap.get? b=some u→h'.get? b=some u)(heo:∃ u,h'.get? e=some u)
  (new:ObjOk X.prog X.w (upd H x o) h' x o):Inv X pins σ (upd H x o) { s with heap:=h',toks:=t' }:=I.un (Un.write mu he k heo) (I.hok.write mu he k heo new)
theorem Inv.weak{σ':List (Option V)}(I:Inv X pins σ H s)(hl:σ'.length=σ.length)(w:∀(i:Nat) v,σ'[i]?=some (some v)→σ[i]?=some (some v)):Inv X pins σ' H s :=
 ⟨I.ok,I.os,I.bare,I.base,let ⟨m,hn,hl'⟩:=I.loc;⟨m,hn,fun i x v e1 e2 e3=>hl' i x v e1 (w i v e2) e3⟩,I.cell,I.free,I.freeC,I.pin,I.hok,hl.trans I.len⟩
theorem Inv.pins_of{pins':List (Addr×Obj)}(I:Inv X pins σ H s)(h:∀ p∈pins',s.heap.get? p.1=some p.2∧H p.1=none∧p.1≠X.env.locals∧p.1∉X.fs∧∀ v,p.2.data≠.cell v):Inv X pins' σ H s :=
 ⟨I.ok,I.os,I.bare,I.base,I.loc,I.cell,I.free,I.freeC,fun p hp=>(List.mem_append.mp hp).elim (fun z=>I.pin p (List.mem_append_left _ z)) (h p),I.hok,I.len⟩
theorem nodup_ix{N:List Str}(hN:N.Nodup){i j:Nat}{x:Str}(a:N[i]?=some x)(b:N[j]?=some x):i=j:=by
 obtain⟨h1,e1⟩:=List.getElem?_eq_some_iff.mp a
 obtain⟨h2,e2⟩:=List.getElem?_eq_some_iff.mp b
 exact (List.getElem_inj hN).mp (e1.trans e2.symm)
theorem store_ok2{M:Model}{A:Around}{E:Value→Shared→Prop}{i:Nat}{x:Str}{v:V}{u:Value}{Q:Unit→Shared→Prop}(I:Inv X pins σ H s)(hN:X.N.Nodup)(hi:X.N[i]?=some x)(hx:Loc X.env.scope x)(r:RelV v u)
  (h:∀ s',Inv X pins (σ.set i (some v)) H s'→(∃ a,Heap.SameBut a s.heap s'.heap∧(a=X.env.locals∨X.env.cells.lookup x=some a))→Q () s') (hf:X.fn x=true∨X.env.scope.names.lookup x=some .local:=by first | exact .inl rfl | exact .inr rfl | assumption):wpAny M A (storeName X.env x u) Q E s:=by
 obtain⟨m,hn,hl⟩:=id I.loc
 have hcls:(X.env.scope.kind == .class || (X.env.scope.kind == .module && X.env.locals != X.env.globals))=false:=by rw[I.ok.kind];rfl
 have hiσ:i < σ.length:=by rw[I.len];exact (List.getElem?_eq_some_iff.mp hi).1
 have cne:=I.cne
 have tracked:∀{a:Addr}{h':Heap},(∃ o,s.heap.get? a=some o∧H a=none)→Heap.SameBut a s.heap h'→HOk X.prog X.w H h':=fun {a h'} ha hs b ob e=>by
  obtain⟨_,_,hfree⟩:=ha
  refine (I.hok b ob e).stay (fun c w' hc q=>(hs.2 c ?_).trans q) (fun _ q=>q) fun _ _ q=>q
  rintro rfl
  rcases hc with rfl | hc
  ·rw[hfree] at e;cases e
  ·rw[hfree] at hc;cases hc
 rcases hx with hk | hk
 ·refine wpAny_storeName_local hk hn (fun h' hn' hs=>?_) hcls
  obtain⟨oL,_,_,hoL,_⟩:=id hn
  refine h _ ⟨I.ok,I.os,I.bare,⟨fun b o e n hb hx=>?_,fun b o e n hb hx=>?_,I.base.free,fun b o e hx=>?_,I.base.tups,I.base.frzs,I.base.tbls⟩,⟨_,hn',fun j y v' e1 e2 e3=>?_⟩,fun y c e=>?_,I.free,I.freeC,fun p hp=>?_,tracked ⟨oL,hoL,I.free⟩ hs,by simpa using I.len⟩ ⟨_,hs,.inl rfl⟩
  ·exact (hs.2 b (Nat.ne_of_lt (Nat.lt_of_lt_of_le (Heap.lt_size e) I.ok.above))).trans (I.base.keep b o e n hb hx)
  ·obtain⟨sl,e1⟩:=I.base.slot b o e n hb hx
   exact⟨sl,(hs.2 b (Nat.ne_of_lt (Nat.lt_of_lt_of_le (Heap.lt_size e) I.ok.above))).trans e1⟩
  ·obtain⟨o',e1⟩:=I.base.there b o e hx
   exact⟨o',(hs.2 b (Nat.ne_of_lt (Nat.lt_of_lt_of_le (Heap.lt_size e) I.ok.above))).trans e1⟩
  ·by_cases hj:j=i
   ·subst hj
    rw[hi] at e1;cases e1
    rw[List.getElem?_set_self hiσ] at e2
    cases e2
    exact⟨u,r,.inl ⟨hk,by simp⟩⟩
   ·rw[List.getElem?_set_ne (Ne.symm hj)] at e2
    obtain⟨u',r',q⟩:=hl j y v' e1 e2 e3
    refine⟨u',r',?_⟩
    rcases q with ⟨k,e⟩ | ⟨k,c,e,z⟩
    ·refine .inl ⟨k,?_⟩
     have:y≠x:=fun e=>hj (nodup_ix hN e1 (e▸hi))
     simp[this,e]
    ·exact .inr ⟨k,c,e,z.sameBut hs (cne y c e)⟩
  ·obtain⟨w',z⟩:=I.cell y c e
   exact⟨w',z.sameBut hs (cne y c e)⟩
  ·obtain⟨e,n,ne,nf,d⟩:=I.pin p hp
   exact⟨(hs.2 p.1 ne).trans e,n,ne,nf,d⟩
 ·have hfn:X.fn x=true:=by
   rcases hf with z | z
   ·exact z
   ·rw[z] at hk;cases hk
  obtain⟨c,hc⟩:=I.ok.has x (.inl hk)
  obtain⟨w',z⟩:=I.cell x c hc
  refine wpAny_storeName_cell I.ok.kind hk hc z (fun h' hc' hs=>?_)
  obtain⟨oc,hoc,hocd⟩:=id z
  refine h { s with heap:=h' } ⟨I.ok,I.os,I.bare,⟨fun b o e n hb hx=>?_,fun b o e n hb hx=>?_,I.base.free,fun b o e hx=>?_,I.base.tups,I.base.frzs,I.base.tbls⟩,⟨m,hn.sameBut hs (Ne.symm (cne x c hc)),fun j y v' e1 e2 e3=>?_⟩,fun y c' e=>?_,I.free,I.freeC,fun p hp=>?_,tracked ⟨oc,hoc,I.freeC x c hc⟩ hs,by simpa using I.len⟩ ⟨c,hs,.inr hc⟩
  ·exact (hs.2 b (Nat.ne_of_lt (Nat.lt_of_lt_of_le (Heap.lt_size e) (I.ok.cab x c hfn hc)))).trans (I.base.keep b o e n hb hx)
  ·obtain⟨sl,e1⟩:=I.base.slot b o e n hb hx
   exact⟨sl,(hs.2 b (Nat.ne_of_lt (Nat.lt_of_lt_of_le (Heap.lt_size e) (I.ok.cab x c hfn hc)))).trans e1⟩
  ·obtain⟨o',e1⟩:=I.base.there b o e hx
   exact⟨o',(hs.2 b (Nat.ne_of_lt (Nat.lt_of_lt_of_le (Heap.lt_size e) (I.ok.cab x c hfn hc)))).trans e1⟩
  ·by_cases hj:j=i
   ·subst hj
    rw[hi] at e1;cases e1
    rw[List.getElem?_set_self hiσ] at e2
    cases e2
    exact⟨u,r,.inr ⟨.inl hk,c,hc,hc'⟩⟩
   ·rw[List.getElem?_set_ne (Ne.symm hj)] at e2
    obtain⟨u',r',q⟩:=hl j y v' e1 e2 e3
    refine⟨u',r',?_⟩
    rcases q with q | ⟨k,c',e,z'⟩
    ·exact .inl q
    ·refine .inr ⟨k,c',e,z'.sameBut hs ?_⟩
     rintro rfl
     exact hj (nodup_ix hN e1 (I.ok.inj _ _ _ e hc▸hi))
  ·by_cases hcc:c'=c
   ·subst hcc;exact⟨_,hc'⟩
   ·obtain⟨w2,z2⟩:=I.cell y c' e
    exact⟨w2,z2.sameBut hs hcc⟩
  ·obtain⟨e,n,ne,nf,d⟩:=I.pin p hp
   refine⟨(hs.2 p.1 ?_).trans e,n,ne,nf,d⟩
   intro q
   rw[q,hoc] at e
   have q':oc=p.2:=Option.some.inj e
   exact d w' (by rw[← q'];exact hocd)
theorem store_ok{M:Model}{A:Around}{E:Value→Shared→Prop}{i:Nat}{x:Str}{v:V}{u:Value}{Q:Unit→Shared→Prop}(I:Inv X pins σ H s)(hN:X.N.Nodup)(hi:X.N[i]?=some x)(hx:Loc X.env.scope x)(r:RelV v u)
  (h:∀ s',Inv X pins (σ.set i (some v)) H s'→Q () s') (hf:X.fn x=true∨X.env.scope.names.lookup x=some .local:=by first | exact .inl rfl | exact .inr rfl | assumption):wpAny M A (storeName X.env x u) Q E s :=
 store_ok2 I hN hi hx r (fun s' I' _=>h s' I') hf
theorem Inv.call'{s':Shared}{ch:List Addr}(I:Inv X pins σ H s)(ho:s'.os=s.os)(u:Un (frs X.stack) ch H H' s.heap s'.heap)(hok:HOk X.prog X.w H' s'.heap)(hg:AllBare s'.gens)
  (hch:∀ b∈ch,(b∈X.ex∨X.s₀.heap.objs.size≤b)∧b≠X.env.locals∧(∀ x c,X.env.cells.lookup x=some c→c≠b)∧∀ p∈X.pn++pins,p.1≠b):Inv X pins σ H' s':=by
 obtain⟨h',g',d',t',o'⟩:=s'
 have e:o'=s.os:=ho
 subst e
 exact I.call (g':=g') (t':=t') (d':=d') u hok hg hch
end
abbrev XK:=Value→Option Addr→Hp→Prop
abbrev St:=List (Option V)
abbrev VK:=V→Hp→Prop
abbrev TE:=St→Hp→VK→Prop
abbrev TT:=St→Hp→(Bool→Hp→Prop)→Prop
abbrev TA:=St→Hp→(List V→Hp→Prop)→Prop
structure Ends where
 nx:St→Hp→Prop
 rt:VK
 bk:St→Hp→Prop:=fun _ _=>False
 ct:St→Hp→Prop:=fun _ _=>False
abbrev TS:=Ends→St→Hp→Prop
def EP(X:Cx)(pins:List (Addr×Obj))(σ:St)(Q:VK)(u:Value)(s':Shared):Prop:=∃ v H',Inv X pins σ H' s'∧RelV v u∧Q v H'
def TP(X:Cx)(pins:List (Addr×Obj))(σ:St)(Q:Bool→Hp→Prop)(b:Bool)(s':Shared):Prop:=∃ H',Inv X pins σ H' s'∧Q b H'
def AP(X:Cx)(pins:List (Addr×Obj))(σ:St)(Q:List V→Hp→Prop)(us:List Value)(s':Shared):Prop:=∃ vs H',Inv X pins σ H' s'∧Vals vs us∧Q vs H'
def SP(X:Cx)(pins:List (Addr×Obj))(D:Ends)(f:Flow)(s':Shared):Prop :=
 match f with
 | .next=>∃ σ' H',Inv X pins σ' H' s'∧D.nx σ' H'
 | .brk=>∃ σ' H',Inv X pins σ' H' s'∧D.bk σ' H'
 | .cont=>∃ σ' H',Inv X pins σ' H' s'∧D.ct σ' H'
 | .ret u=>∃ v σ' H',Inv X pins σ' H' s'∧RelV v u∧D.rt v H'
def PE(X:Cx)(e:Expr)(t:TE):Prop :=
 ∀ (pins:List (Addr×Obj)) (s:Shared) (σ:St) (H:Hp) (Q:VK),Inv X pins σ H s→t σ H Q→wpAny (model X.prog X.w) X.A (eval e X.env) (EP X pins σ Q) X.xe s
def PT(X:Cx)(e:Expr)(t:TT):Prop :=
 ∀ (pins:List (Addr×Obj)) (s:Shared) (σ:St) (H:Hp) (Q:Bool→Hp→Prop),Inv X pins σ H s→t σ H Q→wpAny (model X.prog X.w) X.A (isTrue e X.env (eval e X.env)) (TP X pins σ Q) X.xe s
def PW(X:Cx)(e:Expr)(t:TT):Prop :=
 ∀(whole:Sem Value) (pins:List (Addr×Obj)) (s:Shared) (σ:St) (H:Hp) (Q:Bool→Hp→Prop),Inv X pins σ H s→t σ H Q→wpAny (model X.prog X.w) X.A (isTrue e X.env whole) (TP X pins σ Q) X.xe s
theorem PW.pt{X:Cx}{e:Expr}{t:TT}(h:PW X e t):PT X e t:=h _
def PA(X:Cx)(es:List Expr)(t:TA):Prop :=
 ∀(pos:Pos) (pins:List (Addr×Obj)) (s:Shared) (σ:St) (H:Hp) (Q:List V→Hp→Prop),Inv X pins σ H s→t σ H Q→wpAny (model X.prog X.w) X.A (spliced (backTo pos (starEach es X.env))) (AP X pins σ Q) X.xe s
def PS(X:Cx)(st:Stmt)(t:TS):Prop :=
 ∀ (pins:List (Addr×Obj)) (s:Shared) (σ:St) (H:Hp) (D:Ends),Inv X pins σ H s→t D σ H→wpAny (model X.prog X.w) X.A (exec st X.env) (SP X pins D) X.xe s
def PSs(X:Cx)(st:List Stmt)(t:TS):Prop :=
 ∀ (pins:List (Addr×Obj)) (s:Shared) (σ:St) (H:Hp) (D:Ends),Inv X pins σ H s→t D σ H→wpAny (model X.prog X.w) X.A (execs st X.env) (SP X pins D) X.xe s
theorem thn{α:Type}{t:Sem α}{Q Q':α→Shared→Prop}{M:Model}{A:Around}{E:Value→Shared→Prop}{s:Shared}(h:wpAny M A t Q E s)(hQ:∀ a s,Q a s→Q' a s):wpAny M A t Q' E s:=wpAny_mono h hQ fun _ _ x=>x
end L2
namespace L2
open PySem PySem.Spec PyProof.Rows
section
variable {X:Cx}
def tVar(i:Nat):TE:=fun σ H Q=>∃ v,σ[i]?=some (some v)∧Q v H
def tC(v:V):TE:=fun _ H Q=>Q v H
theorem pe_var{i:Nat}{x:Str}{pos:Pos}(hN:X.N[i]?=some x)(hv:Vis X.env.scope x)(hd:(x == ("__debug__" : Str))=false:=by decide)(hcd:(x == ("__classdict__" : Str))=false:=by decide):PE X (.Name x pos) (tVar i):=by
 intro pins s σ H Q I h
 obtain⟨v,e,h⟩:=h
 obtain⟨m,hn,hl⟩:=I.loc
 obtain⟨u,r,l⟩:=hl i x v hN e hv
 have fin:EP X pins σ Q u s:=⟨v,H,I,r,h⟩
 rcases l with ⟨hk,hm⟩ | ⟨hk,c,hc,hcell⟩
 ·exact wpAny_Name (wpAny_loadName_local I.ok.kind hk hn hm fin) hd
 ·rcases hk with hk | hk
  ·exact wpAny_Name (wpAny_loadName_cell I.ok.kind hk hc hcell fin) hd
  ·exact wpAny_Name (wpAny_loadName_free I.ok.kind hk hc hcell fin hcd) hd
theorem pe_int{i j pos}:PE X (.Constant (.int i) j pos) (tC (.int i)):=fun _ _ _ H _ I h=>wpAny_Constant_int ⟨.int i,H,I.tok _,⟨_,rfl⟩,h⟩
theorem pe_bl{b j pos}:PE X (.Constant (.bool b) j pos) (tC (.bl b)):=fun _ _ _ H _ I h=>Constant_bool ⟨.bl b,H,I,rfl,h⟩
theorem pe_non{j pos}:PE X (.Constant .none j pos) (tC .non):=fun _ _ _ H _ I h=>Constant_none ⟨.non,H,I,rfl,h⟩
theorem pe_str{x j pos}:PE X (.Constant (.str x) j pos) (tC (.str x)):=fun _ _ _ H _ I h=>Calls.Constant_str ⟨.str x,H,I.tok _,⟨_,rfl⟩,h⟩
def Gl(X:Cx)(x:Str):Prop:=X.env.kindOf x=some .globalImplicit
theorem ld_glob{E:Value→Shared→Prop}{pins:List (Addr×Obj)}{s:Shared}{σ:St}{H:Hp}{x:Str}{u:Value}{pos:Pos}{Q:Value→Shared→Prop}(I:Inv X pins σ H s)(hg:Gl X x)(hm:X.mg x=some u)(h:Q u s)
  (hd:(x == ("__debug__" : Str))=false:=by decide):wpAny (model X.prog X.w) X.A (eval (.Name x pos) X.env) Q E s :=
 Calls.Name_function_global I.ok.kind hg (Calls.loadGlobal_global (by rw[I.ok.glob];exact I.mod.glob.keeps I.bk) hm h) hd
theorem ld_blt{E:Value→Shared→Prop}{pins:List (Addr×Obj)}{s:Shared}{σ:St}{H:Hp}{x:Str}{u:Value}{pos:Pos}{Q:Value→Shared→Prop}(I:Inv X pins σ H s)(hg:Gl X x)(hm:X.mg x=none)(hv:bootBuiltins x=some u)(h:Q u s)
  (hn:x ≠ "__name__" := by decide) (hd:(x == ("__debug__" : Str))=false:=by decide):wpAny (model X.prog X.w) X.A (eval (.Name x pos) X.env) Q E s:=by
 obtain⟨mb,h1,h2⟩:=I.mod.blt
 exact Calls.Name_function_global I.ok.kind hg (Calls.loadGlobal_builtin (by rw[I.ok.glob];exact I.mod.glob.keeps I.bk) hm (by rw[I.ok.blt];exact h1.keeps I.bk) ((h2 x hn).trans hv) h) hd
theorem pe_glob{x:Str}{v:V}{u:Value}{pos:Pos}(hg:Gl X x)(hm:X.mg x=some u)(r:RelV v u)(hd:(x == ("__debug__" : Str))=false:=by decide):PE X (.Name x pos) (tC v) :=
 fun _ _ _ H _ I h=>ld_glob I hg hm ⟨v,H,I,r,h⟩ hd
theorem pe_bltn{x:Str}{v:V}{u:Value}{pos:Pos}(hg:Gl X x)(hm:X.mg x=none)(hv:bootBuiltins x=some u)(r:RelV v u)(hn:x ≠ "__name__" := by decide)(hd:(x == ("__debug__" : Str))=false:=by decide):PE X (.Name x pos) (tC v) :=
 fun _ _ _ H _ I h=>ld_blt I hg hm hv ⟨v,H,I,r,h⟩ hn hd
variable {a b:Expr}{ta tb:TE}{pos:Pos}
def PC(X:Cx)(op:CmpOp)(a b:Expr)(t:TE):Prop :=
 ∀ (pins:List (Addr×Obj)) (s:Shared) (σ:St) (H:Hp) (Q:VK),Inv X pins σ H s→t σ H Q →
  wpAny (model X.prog X.w) X.A (eval a X.env) (fun v s₁=>wpAny (model X.prog X.w) X.A (eval b X.env) (fun u s₂=>wpAny (model X.prog X.w) X.A (compareOp op v u) (EP X pins σ Q) X.xe s₂) X.xe s₁) X.xe s
theorem nobehind(b:Expr){op:CmpOp}(h:op≠.In)(h2:op≠.NotIn):behindInMarks op b=false:=by
 have e1:(op == CmpOp.In)=false:=by cases op<;>first | rfl | exact absurd rfl h
 have e2:(op == CmpOp.NotIn)=false:=by cases op<;>first | rfl | exact absurd rfl h2
 cases b<;>simp[behindInMarks,e1,e2]
def tIsN(ta:TE):TE:=fun σ H Q=>ta σ H fun x H1=>Q (.bl (decide (x=.non))) H1
def tNotN(ta:TE):TE:=fun σ H Q=>ta σ H fun x H1=>Q (.bl (!decide (x=.non))) H1
theorem RelV.none_iff{x:V}{v:Value}(r:RelV x v):(v == Value.none)=decide (x=.non):=by
 cases x with
 | non=>cases r;rfl
 | bl _=>cases r;rfl
 | int _=>obtain⟨t,rfl⟩:=r;rfl
 | str _=>obtain⟨t,rfl⟩:=r;rfl
 | byt _=>obtain⟨t,rfl⟩:=r;rfl
 | flt _=>obtain⟨t,rfl⟩:=r;rfl
 | ref _=>cases r;rfl
 | ty _=>cases r;rfl
theorem pc_isN{j pos'}(ha:PE X a ta):PC X .Is a (.Constant .none j pos') (tIsN ta):=by
 intro pins s σ H Q I h
 refine thn (ha pins s σ H _ I h) fun v s1 ⟨x,H1,I1,r1,q1⟩=>?_
 exact Constant_none (is_none_gen ⟨.bl _,H1,I1,by rw[r1.none_iff];rfl,q1⟩)
def tB(t:TE):TT:=fun σ H Q=>t σ H fun x H1=>∃ c,x=.bl c∧Q c H1
theorem pt_cmp{op:CmpOp}{t:TE}(h:PC X op a b t)(h1:behindInMarks op b=false:=by first | exact nobehind _ (by decide) (by decide) | rfl):PT X (.Compare a [op] [b] pos) (tB t):=by
 intro pins s σ H Q I hw
 refine wpAny_isTrue_Compare1 (thn (h pins s σ H _ I hw) fun v s1 h1=>thn h1 fun u s2 h2=>thn h2 fun c s3 ⟨x,H1,I1,r1,q1⟩=>?_) h1
 obtain⟨d,rfl,q⟩:=q1
 cases r1
 exact wpAny_truthy_bool ⟨H1,I1,q⟩
theorem pt_val{e:Expr}{t:TE}(h:PE X e t)(he:∀ whole,isTrue e X.env whole=(do let v ← whole;standAt e.pos;holding [v] (truthy v)):=by intro _;rfl):PT X e (tB t):=by
 intro pins s σ H Q I hw
 refine isTrue_plain (thn (h pins s σ H _ I hw) fun v s1 ⟨x,H1,I1,r1,q1⟩=>?_) (he _)
 obtain⟨d,rfl,q⟩:=q1
 cases r1
 exact wpAny_truthy_bool ⟨H1,I1,q⟩
variable {tA tB':TT}{rest:List Expr}
def tAnd(t u:TT):TT:=fun σ H Q=>t σ H fun c H1=>if c=true then u σ H1 Q else Q false H1
def tOr(t u:TT):TT:=fun σ H Q=>t σ H fun c H1=>if c=true then Q true H1 else u σ H1 Q
def tNot(t:TT):TT:=fun σ H Q=>t σ H fun c H1=>Q (!c) H1
theorem pw_and1(ha:PT X a tA):PW X (.BoolOp .And [a] pos) tA:=by
 intro wh pins s σ H Q I h
 refine isTrue_and (thn (ha pins s σ H Q I h) fun c s1 e=>?_)
 cases c with
 | true=>exact isTrue_and_nil e
 | false=>exact e
theorem pw_or1(ha:PT X a tA):PW X (.BoolOp .Or [a] pos) tA:=by
 intro wh pins s σ H Q I h
 refine isTrue_or (thn (ha pins s σ H Q I h) fun c s1 e=>?_)
 cases c with
 | false=>exact isTrue_or_nil e
 | true=>exact e
theorem pw_and(ha:PT X a tA)(hb:PW X (.BoolOp .And (b::rest) pos) tB'):PW X (.BoolOp .And (a::b::rest) pos) (tAnd tA tB'):=by
 intro wh pins s σ H Q I h
 refine isTrue_and (thn (ha pins s σ H _ I h) fun c s1 ⟨H1,I1,q1⟩=>?_)
 cases c with
 | true=>exact hb wh pins s1 σ H1 Q I1 q1
 | false=>exact⟨H1,I1,q1⟩
theorem pw_or(ha:PT X a tA)(hb:PW X (.BoolOp .Or (b::rest) pos) tB'):PW X (.BoolOp .Or (a::b::rest) pos) (tOr tA tB'):=by
 intro wh pins s σ H Q I h
 refine isTrue_or (thn (ha pins s σ H _ I h) fun c s1 ⟨H1,I1,q1⟩=>?_)
 cases c with
 | true=>exact⟨H1,I1,q1⟩
 | false=>exact hb wh pins s1 σ H1 Q I1 q1
theorem pt_not(ha:PT X a tA):PT X (.UnaryOp .Not a pos) (tNot tA):=by
 intro pins s σ H Q I h
 exact isTrue_not (ha pins s σ H (fun c H1=>Q (!c) H1) I h)
def tAndV(ta tb:TE):TE:=fun σ H Q=>ta σ H fun x H1=>∃ c,x=.bl c∧if c=true then tb σ H1 Q else Q (.bl false) H1
def tOrV(ta tb:TE):TE:=fun σ H Q=>ta σ H fun x H1=>∃ c,x=.bl c∧if c=true then Q (.bl true) H1 else tb σ H1 Q
def tNotV(ta:TE):TE:=fun σ H Q=>ta σ H fun x H1=>∃ c,x=.bl c∧Q (.bl (!c)) H1
theorem pe_one{op}{t:TE}(h:PE X a t):PE X (.BoolOp op [a] pos) t:=fun pins s σ H Q I hw=>BoolOp_one (h pins s σ H Q I hw)
theorem pe_and(ha:PE X a ta)(hb:PE X (.BoolOp .And (b::rest) pos) tb):PE X (.BoolOp .And (a::b::rest) pos) (tAndV ta tb):=by
 intro pins s σ H Q I h
 refine BoolOp_and (thn (ha pins s σ H _ I h) fun v s1 ⟨x,H1,I1,r1,q1⟩=>?_)
 obtain⟨c,rfl,q1⟩:=q1
 cases r1
 refine wpAny_truthy_bool ?_
 cases c with
 | true=>exact hb pins s1 σ H1 Q I1 q1
 | false=>exact⟨.bl false,H1,I1,rfl,q1⟩
def tIf(t:TT)(ta tb:TE):TE:=fun σ H Q=>t σ H fun c H1=>if c=true then ta σ H1 Q else tb σ H1 Q
theorem pe_ifExp{c:Expr}(hc:PT X c tA)(ha:PE X a ta)(hb:PE X b tb):PE X (.IfExp c a b pos) (tIf tA ta tb):=by
 intro pins s σ H Q I h
 refine wpAny_IfExp (thn (hc pins s σ H _ I h) fun d s1 ⟨H1,I1,q1⟩=>?_)
 cases d with
 | true=>exact ha pins s1 σ H1 Q I1 q1
 | false=>exact hb pins s1 σ H1 Q I1 q1
end
end L2
namespace L2
open PySem PySem.Spec PyProof.Rows
def SqL(K:PySem.W.Frag)(H:Hp)(a:Addr)(xs:List V):Prop :=
 Rd H a (.lst xs) ∨
  ∃(o:Obj)(its:Array Value)(n:Nat),K.lookup a=some o∧o.cls=.type "list" ∧ o.dict=none∧o.data=.seq its n∧its.size≤sizeLine∧Vals xs its.toList
def SqT(K:PySem.W.Frag)(H:Hp)(a:Addr)(xs:List V):Prop :=
 Rd H a (.tup xs) ∨
  ∃(o:Obj)(its:Array Value)(n:Nat),K.lookup a=some o∧o.cls=.type "tuple" ∧ o.data=.seq its n∧its.size≤sizeLine∧Vals xs its.toList
def absV:Value→Option V
 | .none=>some .non
 | .bool b=>some (.bl b)
 | .int i _=>some (.int i)
 | .str x _=>some (.str x)
 | .bytes b _=>some (.byt b)
 | .float b _=>some (.flt b)
 | .ref a=>some (.ref a)
 | .type n=>some (.ty n)
 | _=>none
theorem RelV.abs{x:V}{u:Value}(r:RelV x u):absV u=some x:=by
 cases x with
 | non=>cases r;rfl
 | bl _=>cases r;rfl
 | int _=>obtain⟨t,rfl⟩:=r;rfl
 | str _=>obtain⟨t,rfl⟩:=r;rfl
 | byt _=>obtain⟨t,rfl⟩:=r;rfl
 | flt _=>obtain⟨t,rfl⟩:=r;rfl
 | ref _=>cases r;rfl
 | ty _=>cases r;rfl
theorem RelV.inj{x y:V}{u:Value}(r:RelV x u)(q:RelV y u):x=y:=Option.some.inj (r.abs.symm.trans q.abs)
theorem Vals.inj:∀{xs ys:List V}{us:List Value},Vals xs us→Vals ys us→xs=ys
 | _,_,_,.nil,.nil=>rfl
 | _,_,_,.cons r t,.cons r' t'=>by rw[r.inj r',Vals.inj t t']
section
variable {X:Cx}{pins:List (Addr×Obj)}{σ:St}{H:Hp}{s:Shared}{a:Addr}{xs ys:List V}
theorem SqL.of{K:PySem.W.Frag}(h:H a=some (.lst xs)):SqL K H a xs:=.inl (.inl h)
theorem SqT.of{K:PySem.W.Frag}(h:H a=some (.tup xs)):SqT K H a xs:=.inl (.inl h)
theorem Inv.list(I:Inv X pins σ H s)(h:SqL X.K H a xs):∃ its:List Value,Vals xs its∧PlainL s.heap a its.toArray∧xs.length≤sizeLine:=by
 rcases h with h | ⟨o,its,n,hk,hc,hd,hs,hz,r⟩
 ·obtain⟨z,its,n,r,e⟩:=h.ok I.hok
  exact⟨its,r,⟨_,n,e,rfl,rfl,rfl⟩,z⟩
 ·refine⟨its.toList,r,⟨o,n,I.kIn a o hk,hc,hd,by simpa using hs⟩,?_⟩
  have e:=r.length
  simp only[Array.length_toList] at e
  omega
theorem Inv.tuple(I:Inv X pins σ H s)(h:SqT X.K H a xs):∃ its:List Value,Vals xs its∧IsTup s.heap a its.toArray∧xs.length≤sizeLine:=by
 rcases h with h | ⟨o,its,n,hk,hc,hs,hz,r⟩
 ·obtain⟨z,its,r,p⟩:=h.ok I.hok
  exact⟨its,r,p,z⟩
 ·refine⟨its.toList,r,⟨o,I.kIn a o hk,hc,n,by simpa using hs⟩,?_⟩
  have e:=r.length
  simp only[Array.length_toList] at e
  omega
theorem Inv.list_inj(I:Inv X pins σ H s)(h:SqL X.K H a xs)(h':SqL X.K H a ys):xs=ys:=by
 obtain⟨its,r,⟨o,n,e,_,_,d⟩,_⟩:=I.list h
 obtain⟨its',r',⟨o',n',e',_,_,d'⟩,_⟩:=I.list h'
 rw[e] at e';cases e'
 rw[d] at d'
 injection d' with d1 _
 have:its=its':=by simpa using congrArg Array.toList d1
 subst this
 exact r.inj r'
theorem Inv.tuple_inj(I:Inv X pins σ H s)(h:SqT X.K H a xs)(h':SqT X.K H a ys):xs=ys:=by
 obtain⟨its,r,⟨o,e,_,n,d⟩,_⟩:=I.tuple h
 obtain⟨its',r',⟨o',e',_,n',d'⟩,_⟩:=I.tuple h'
 rw[e] at e';cases e'
 rw[d] at d'
 injection d' with d1 _
 have:its=its':=by simpa using congrArg Array.toList d1
 subst this
 exact r.inj r'
end
abbrev Cx.wish(X:Cx)(E:Value→Shared→Prop):Cx:={ X with xe:=E }
abbrev Cx.nox(X:Cx):Cx:=X.wish fun _ _=>False
theorem Cx.Ok.wish{X:Cx}(ok:X.Ok)(E:Value→Shared→Prop):(X.wish E).Ok :=
 ⟨ok.mod,ok.kind,ok.glob,ok.blt,ok.above,ok.inj,ok.has,ok.cab,ok.hd,ok.frames,ok.stk,ok.exf,ok.bs,ok.bsz,ok.noex,ok.exfs,ok.funs,ok.frf⟩
theorem Cx.Ok.unwish{X:Cx}{E:Value→Shared→Prop}(ok:(X.wish E).Ok):X.Ok :=
 ⟨ok.mod,ok.kind,ok.glob,ok.blt,ok.above,ok.inj,ok.has,ok.cab,ok.hd,ok.frames,ok.stk,ok.exf,ok.bs,ok.bsz,ok.noex,ok.exfs,ok.funs,ok.frf⟩
section
variable {X:Cx}{pins:List (Addr×Obj)}{σ:St}{H:Hp}{s:Shared}{E:Value→Shared→Prop}
theorem Inv.wish(I:Inv X pins σ H s)(E:Value→Shared→Prop):Inv (X.wish E) pins σ H s:=⟨I.ok.wish E,I.os,I.bare,I.base,I.loc,I.cell,I.free,I.freeC,I.pin,I.hok,I.len⟩
theorem Inv.unwish(I:Inv (X.wish E) pins σ H s):Inv X pins σ H s:=⟨I.ok.unwish,I.os,I.bare,I.base,I.loc,I.cell,I.free,I.freeC,I.pin,I.hok,I.len⟩
theorem SP.unwish{D:Ends}{f:Flow}{s':Shared}(h:SP (X.wish E) pins D f s'):SP X pins D f s':=by
 cases f with
 | next=>obtain⟨σ',H',I,q⟩:=h;exact⟨σ',H',I.unwish,q⟩
 | brk=>obtain⟨σ',H',I,q⟩:=h;exact⟨σ',H',I.unwish,q⟩
 | cont=>obtain⟨σ',H',I,q⟩:=h;exact⟨σ',H',I.unwish,q⟩
 | ret u=>obtain⟨v,σ',H',I,r,q⟩:=h;exact⟨v,σ',H',I.unwish,r,q⟩
theorem PE.nox{e:Expr}{t:TE}(h:PE X.nox e t):PE X e t:=fun pins s σ H Q I hw =>
 wpAny_mono (h pins s σ H Q (I.wish _) hw) (fun _ _ ⟨v,H',I',r,q⟩=>⟨v,H',I'.unwish,r,q⟩) fun _ _ z=>False.elim z
theorem PT.nox{e:Expr}{t:TT}(h:PT X.nox e t):PT X e t:=fun pins s σ H Q I hw =>
 wpAny_mono (h pins s σ H Q (I.wish _) hw) (fun _ _ ⟨H',I',q⟩=>⟨H',I'.unwish,q⟩) fun _ _ z=>False.elim z
theorem PSs.nox{st:List Stmt}{t:TS}(h:PSs X.nox st t):PSs X st t:=fun pins s σ H D I hw =>
 wpAny_mono (h pins s σ H D (I.wish _) hw) (fun _ _ q=>q.unwish) fun _ _ z=>False.elim z
end
section
variable {X:Cx}{st:Stmt}{rest:List Stmt}{t u:TS}{e:Expr}{te:TE}{pos:Pos}
def tNext:TS:=fun D σ H=>D.nx σ H
def tSeq(t u:TS):TS:=fun D σ H=>t { D with nx:=u D } σ H
theorem pss_nil:PSs X [] tNext:=fun _ _ σ H _ I h=>wpAny_execs_nil ⟨σ,H,I,h⟩
theorem pss_cons(h1:PS X st t)(h2:PSs X rest u):PSs X (st::rest) (tSeq t u):=by
 intro pins s σ H D I h
 refine wpAny_execs_cons (thn (h1 pins s σ H { D with nx:=u D } I h) fun f s1 q=>?_)
 cases f with
 | next =>
  obtain⟨σ',H',I',q⟩:=q
  exact h2 pins s1 σ' H' D I' q
 | ret v=>exact q
 | brk=>exact q
 | cont=>exact q
theorem pss_one(h1:PS X st t):PSs X [st] t:=by
 intro pins s σ H D I h
 refine wpAny_execs_cons (thn (h1 pins s σ H D I h) fun f s1 q=>?_)
 cases f with
 | next=>exact wpAny_execs_nil q
 | ret v=>exact q
 | brk=>exact q
 | cont=>exact q
theorem Inv.quiet{pins:List (Addr×Obj)}{σ:St}{H:Hp}{s:Shared}(I:Inv X pins σ H s):interactive X.env=false:=by simp[interactive,I.ok.kind]
def tDrop(te:TE):TS:=fun D σ H=>te σ H fun _ H1=>D.nx σ H1
theorem ps_expr(he:PE X e te)(hs:swapsWith e none pos.line X.env=pure false:=by rfl):PS X (.Expr e pos) (tDrop te):=by
 intro pins s σ H D I h
 exact wpAny_Expr_any (thn (he pins s σ H _ I h) fun v s1 ⟨x,H1,I1,r1,q1⟩=>⟨σ,H1,I1,q1⟩) I.quiet hs
def tRet(te:TE):TS:=fun D σ H=>te σ H D.rt
theorem ps_ret(he:PE X e te):PS X (.Return (some e) pos) (tRet te):=by
 intro pins s σ H D I h
 exact wpAny_Return_some (thn (he pins s σ H _ I h) fun v s1 ⟨x,H1,I1,r1,q1⟩=>⟨x,σ,H1,I1,r1,q1⟩)
def tRetN:TS:=fun D _ H=>D.rt .non H
def tIfS(c:TT)(t u:TS):TS:=fun D σ H=>c σ H fun b H1=>if b=true then t D σ H1 else u D σ H1
theorem ps_if{c:Expr}{a b:List Stmt}{tc:TT}(hc:PT X c tc)(ha:PSs X a t)(hb:PSs X b u):PS X (.If c a b pos) (tIfS tc t u):=by
 intro pins s σ H D I h
 refine wpAny_If (thn (hc pins s σ H _ I h) fun d s1 ⟨H1,I1,q1⟩=>?_)
 cases d with
 | true=>exact ha pins s1 σ H1 D I1 q1
 | false=>exact hb pins s1 σ H1 D I1 q1
end
abbrev TG:=V→St→Hp→(St→Hp→Prop)→Prop
abbrev TGs:=List V→St→Hp→(St→Hp→Prop)→Prop
def PG(X:Cx)(target:Expr)(t:TG):Prop :=
 ∀ (pins:List (Addr×Obj)) (s:Shared) (σ:St) (H:Hp) (v:V) (u:Value) (Q:St→Hp→Prop),Inv X pins σ H s→RelV v u→t v σ H Q →
  wpAny (model X.prog X.w) X.A (assign target X.env u) (fun _ s'=>∃ σ' H',Inv X pins σ' H' s'∧Q σ' H') X.xe s
def PGs(X:Cx)(ts:List Expr)(t:TGs):Prop :=
 ∀ (pins:List (Addr×Obj)) (s:Shared) (σ:St) (H:Hp) (vs:List V) (us:List Value) (Q:St→Hp→Prop),Inv X pins σ H s→Vals vs us→t vs σ H Q →
  wpAny (model X.prog X.w) X.A (assignInOrder ((assignEach ts X.env).map (·.2)) us) (fun _ s'=>∃ σ' H',Inv X pins σ' H' s'∧Q σ' H') X.xe s
abbrev TSet:=V→V→V→Hp→(Hp→Prop)→Prop
def PSet(X:Cx)(t:TSet):Prop :=
 ∀ (pins:List (Addr×Obj)) (s:Shared) (σ:St) (H:Hp) (o i v:V) (ov iv u:Value) (Q:Hp→Prop),Inv X pins σ H s→RelV o ov→RelV i iv→RelV v u→t o i v H Q →
  wpAny (model X.prog X.w) X.A (setItem ov iv u) (fun _ s'=>∃ H',Inv X pins σ H' s'∧Q H') X.xe s
abbrev TIp:=V→V→Hp→VK→Prop
def PIp(X:Cx)(op:Operator)(t:TIp):Prop :=
 ∀ (pins:List (Addr×Obj)) (s:Shared) (σ:St) (H:Hp) (x y:V) (v u:Value) (Q:VK),Inv X pins σ H s→RelV x v→RelV y u→t x y H Q →
  wpAny (model X.prog X.w) X.A (inplaceOp op v u) (EP X pins σ Q) X.xe s
section
variable {X:Cx}{pos:Pos}
def gName(i:Nat):TG:=fun v σ H Q=>Q (σ.set i (some v)) H
theorem pg_name{i:Nat}{x:Str}(hN:X.N.Nodup)(hi:X.N[i]?=some x)(hx:Loc X.env.scope x)(hf:X.fn x=true∨X.env.scope.names.lookup x=some .local:=by first | exact .inl rfl | exact .inr rfl | assumption):PG X (.Name x pos) (gName i):=by
 intro pins s σ H v u Q I r h
 exact wpAny_assign_Name (store_ok I hN hi hx r (fun s' I'=>⟨_,H,I',h⟩) hf)
def gNil:TGs:=fun vs σ H Q=>vs=[]∧Q σ H
def gCons(t:TG)(u:TGs):TGs:=fun vs σ H Q=>∃ v r,vs=v::r∧t v σ H fun σ' H'=>u r σ' H' Q
theorem pgs_nil:PGs X [] gNil:=by
 intro pins s σ H vs us Q I r h
 obtain⟨e,h⟩:=h
 subst e
 cases r
 exact assignInOrder_nil ⟨σ,H,I,h⟩
theorem pgs_cons{e:Expr}{es:List Expr}{t:TG}{u:TGs}(h1:PG X e t)(h2:PGs X es u)
  (hs:(assignEach (e::es) X.env).map (·.2)=assign e X.env::(assignEach es X.env).map (·.2):=by rfl):PGs X (e::es) (gCons t u):=by
 intro pins s σ H vs us Q I r h
 obtain⟨v,vr,e1,h⟩:=h
 subst e1
 cases r with
 | cons r rr =>
  rw[hs]
  refine assignInOrder_cons (thn (h1 pins s σ H _ _ _ I r h) fun _ s1 ⟨σ1,H1,I1,q1⟩=>?_)
  exact h2 pins s1 σ1 H1 _ _ Q I1 rr q1
def gTup(K:PySem.W.Frag)(n:Nat)(t:TGs):TG:=fun v σ H Q=>∃ a xs,v=.ref a∧SqT K H a xs∧xs.length=n∧t xs σ H Q
theorem pg_tup{es:List Expr}{k:Nat}{t:TGs}{n:Nat}(hc:X.calm=true)(h:PGs X es t)
  (hn:(assignEach es X.env).length=n:=by rfl) (hst:(assignEach es X.env).findIdx? (·.1)=none:=by rfl):PG X (.Tuple es k pos) (gTup X.K n t):=by
 intro pins s σ H v u Q I r hw
 obtain⟨a,xs,e1,hq,hl,hw⟩:=hw
 subst e1
 cases r
 obtain⟨its,rv,ht,hz⟩:=I.tuple hq
 refine assign_Tuple_tuple (I.ok.hd hc) ht (by simp[hn,← hl,rv.length]) hst fun h' hx=>?_
 have I1:Inv X pins σ H { s with heap:=h' }:=I.kept (t':=s.toks) fun b o e=>hx b o (Nat.ne_of_lt (Heap.lt_size e)) e
 exact h pins _ σ H xs _ Q I1 (by simpa using rv) hw
def gSub(to ti:TE)(t:TSet):TG:=fun v σ H Q=>to σ H fun o H1=>ti σ H1 fun i H2=>t o i v H2 fun H3=>Q σ H3
theorem pg_sub{o i:Expr}{to ti:TE}{t:TSet}(ho:PE X o to)(hi:PE X i ti)(hs:PSet X t)
  (ha:∀ v,assign (.Subscript o i pos) X.env v=(do
   let ov ← holding [v] (eval o X.env)
   let iv ← holding [v,ov] (eval i X.env)
   standAt pos
   holding [v,ov,iv] (setItem ov iv v)
   release [v,ov,iv] []):=by intro _;rfl):PG X (.Subscript o i pos) (gSub to ti t):=by
 intro pins s σ H v u Q I r h
 rw[ha]
 refine wpAny_bind (wpAny_holding (thn (ho pins s σ H _ I h) fun ov s1 ⟨x,H1,I1,r1,q1⟩=>?_))
 refine wpAny_bind (wpAny_holding (thn (hi pins s1 σ H1 _ I1 q1) fun iv s2 ⟨y,H2,I2,r2,q2⟩=>?_))
 refine wpAny_bind (wpAny_standAt (wpAny_bind (wpAny_holding (thn (hs pins s2 σ H2 x y v ov iv u _ I2 r1 r2 r q2) fun _ s3 ⟨H3,I3,q3⟩=>?_))))
 exact wpAny_release ⟨σ,H3,I3,q3⟩
def tAsg(te:TE)(g:TG):TS:=fun D σ H=>te σ H fun x H1=>g x σ H1 D.nx
theorem ps_asg{tg e:Expr}{te:TE}{g:TG}(he:PE X e te)(hg:PG X tg g)(hs:swapsWithSole [tg] e pos.line X.env=pure false:=by rfl)(hw:swappedStores [tg] e X.env=pure none:=by rfl)
  (h1:(assignEach [tg] X.env).map (·.2)=[assign tg X.env]:=by rfl):PS X (.Assign [tg] e pos) (tAsg te g):=by
 intro pins s σ H D I h
 refine wpAny_Assign_stores (thn (he pins s σ H _ I h) fun v s1 ⟨x,H1,I1,r1,q1⟩=>?_) hs hw
 rw[h1]
 exact thn (hg pins s1 σ H1 x v _ I1 r1 q1) fun _ s2 q=>q
theorem ps_set{i:Nat}{x:Str}{e:Expr}{te:TE}{pos':Pos}(hN:X.N.Nodup)(hi:X.N[i]?=some x)(hx:Loc X.env.scope x)(he:PE X e te)(hs:swapsWith e (some (.Name x pos')) pos.line X.env=pure false:=by rfl)(hf:X.fn x=true∨X.env.scope.names.lookup x=some .local:=by first | exact .inl rfl | exact .inr rfl | assumption) :
  PS X (.Assign [.Name x pos'] e pos) (tAsg te (gName i)):=by
 intro pins s σ H D I h
 refine wpAny_Assign_Name (thn (he pins s σ H _ I h) fun v s1 ⟨y,H1,I1,r1,q1⟩=>?_) hs
 exact store_ok I1 hN hi hx r1 (fun s2 I2=>⟨_,H1,I2,q1⟩) hf
def tPar(i j:Nat)(ta:TA):TS:=fun D σ H=>ta σ H fun vs H1=>∃ v w,vs=[v,w]∧D.nx ((σ.set i (some v)).set j (some w)) H1
def tAugS(to ti te:TE)(tget:V→V→Hp→VK→Prop)(tip:TIp)(tset:TSet):TS:=fun D σ H=>to σ H fun o H1=>ti σ H1 fun i H2=>tget o i H2 fun x H3=>te σ H3 fun y H4=>tip x y H4 fun z H5=>tset o i z H5 fun H6=>D.nx σ H6
def PGet(X:Cx)(t:V→V→Hp→VK→Prop):Prop :=
 ∀ (pins:List (Addr×Obj)) (s:Shared) (σ:St) (H:Hp) (o i:V) (ov iv:Value) (Q:VK),Inv X pins σ H s→RelV o ov→RelV i iv→t o i H Q →
  wpAny (model X.prog X.w) X.A (getItem ov iv) (EP X pins σ Q) X.xe s
theorem ps_augS{o i e:Expr}{to ti te:TE}{tget:V→V→Hp→VK→Prop}{tip:TIp}{tset:TSet}{op:Operator}{tpos:Pos}(ho:PE X o to)(hi:PE X i ti)(hg:PGet X tget)(he:PE X e te)(hp:PIp X op tip)(hs:PSet X tset)
  (ha:∀ ov iv new,augStore i ov iv new=(do holding [new,ov,iv] (setItem ov iv new);release [new,ov,iv] [];pure .next):=by intros;rfl):PS X (.AugAssign (.Subscript o i tpos) op e pos) (tAugS to ti te tget tip tset):=by
 intro pins s σ H D I h
 refine wpAny_AugAssign_SubscriptAny (thn (ho pins s σ H _ I h) fun ov s1 ⟨x1,H1,I1,r1,q1⟩=>?_) ha
 refine thn (hi pins s1 σ H1 _ I1 q1) fun iv s2 ⟨x2,H2,I2,r2,q2⟩=>?_
 refine thn (hg pins s2 σ H2 x1 x2 ov iv _ I2 r1 r2 q2) fun old s3 ⟨x3,H3,I3,r3,q3⟩=>?_
 refine thn (he pins s3 σ H3 _ I3 q3) fun v s4 ⟨x4,H4,I4,r4,q4⟩=>?_
 refine thn (hp pins s4 σ H4 x3 x4 old v _ I4 r3 r4 q4) fun new s5 ⟨x5,H5,I5,r5,q5⟩=>?_
 exact thn (hs pins s5 σ H5 x1 x2 x5 ov iv new _ I5 r1 r2 r5 q5) fun _ s6 ⟨H6,I6,q6⟩=>⟨σ,H6,I6,q6⟩
def ipI(f:Int→Int→Int):TIp:=fun x y H Q=>∃ i j,x=.int i∧y=.int j∧Q (.int (f i j)) H
theorem ip_add:PIp X .Add (ipI fun i j=>i+j):=by
 intro pins s σ H x y v u Q I r1 r2 h
 obtain⟨i,j,e1,e2,q⟩:=h
 subst e1;subst e2
 obtain⟨t,rfl⟩:=r1
 obtain⟨t',rfl⟩:=r2
 exact iadd_int ⟨.int _,H,I.tok _,⟨_,rfl⟩,q⟩
end
section
variable {X:Cx}{pos:Pos}
def tWhile(c:TT)(tb:TS):TS:=fun D σ H=>∃ W:Nat→St→Hp→Prop,(∃ m,W m σ H)∧∀ m σ H,W m σ H →
 c σ H fun b H1=>if b=true then ∃ N:St→Hp→Prop,(∀ σ' H',N σ' H'→∃ m',m' < m∧W m' σ' H')∧tb { D with nx:=N,ct:=N,bk:=D.nx } σ H1 else D.nx σ H1
theorem ps_while{c:Expr}{body:List Stmt}{tc:TT}{tb:TS}(hp:PassesOwn (model X.prog X.w) X.A X.env X.xe)(hc:PT X c tc)(hb:PSs X body tb):PS X (.While c body [] pos) (tWhile tc tb):=by
 intro pins s σ H D I h
 obtain⟨W,⟨m0,w0⟩,turn⟩:=h
 refine wpAny_While (codeAny_whileLoop (fun n s'=>∃ σ' H',Inv X pins σ' H' s'∧W n σ' H') ?_ m0 ⟨σ,H,I,w0⟩)
 rintro n s1 ⟨σ1,H1,I1,w1⟩
 refine wpAny_passesOwn hp (thn (hc pins s1 σ1 H1 _ I1 (turn n σ1 H1 w1)) fun b s2 ⟨H2,I2,q2⟩=>?_)
 cases b with
 | true =>
  obtain⟨N,hN,q2⟩:=q2
  rw[if_pos rfl]
  refine wpAny_passesOwn hp (thn (hb pins s2 σ1 H2 _ I2 q2) fun f s3 q3=>?_)
  cases f with
  | next =>
   obtain⟨σ3,H3,I3,n3⟩:=q3
   obtain⟨m',hm,w3⟩:=hN σ3 H3 n3
   exact⟨m',hm,σ3,H3,I3,w3⟩
  | cont =>
   obtain⟨σ3,H3,I3,n3⟩:=q3
   obtain⟨m',hm,w3⟩:=hN σ3 H3 n3
   exact⟨m',hm,σ3,H3,I3,w3⟩
  | brk=>exact q3
  | ret v=>exact q3
 | false =>
  rw[if_neg Bool.false_ne_true]
  exact wpAny_execs_nil ⟨σ1,H2,I2,q2⟩
end
structure It where
 go:Nat→Hp→Prop
 yld:Nat→Hp→V→Hp→Prop
 stop:Nat→Hp→Prop
def FpOk(X:Cx)(pins:List (Addr×Obj))(H:Hp)(b:Addr):Prop :=
 H b=none∧b≠X.env.locals∧b∉X.fs∧(b∈X.ex∨X.s₀.heap.objs.size≤b)∧(∀ x c,X.env.cells.lookup x=some c→c≠b)∧∀ p∈X.pn++pins,p.1≠b
theorem Inv.fpOk{X:Cx}{pins:List (Addr×Obj)}{σ:St}{H H':Hp}{s:Shared}{b:Addr}(I:Inv X pins σ H s)(hb:s.heap.objs.size≤b)(hn:H' b=none):FpOk X pins H' b:=by
 refine⟨hn,Nat.ne_of_gt (Nat.lt_of_lt_of_le I.lt hb),I.nofs hb,.inr (Nat.le_trans I.sz hb),fun x c e z=>?_,fun p hp z=>?_⟩
 ·obtain⟨v,q⟩:=I.cell x c e
  exact absurd (Nat.lt_of_lt_of_le q.lt (by rw[z];exact hb)) (Nat.lt_irrefl _)
 ·exact absurd (Nat.lt_of_lt_of_le (Heap.lt_size (I.pin p hp).1) (by rw[z];exact hb)) (Nat.lt_irrefl _)
structure Turn(P:Program)(w:World)(K:PySem.W.Frag)(tg:Expr)(J:It)(fp:List Addr)(it:Addr)(tn:Nat→Heap→Prop):Prop where
 mem:it∈fp
 obj:∀ i h,tn i h→∀ b∈fp,∃ o,h.get? b=some o∧∀ v,o.data≠.cell v
 keep:∀ i h h',tn i h→(∀ b∈fp,∀ o,h.get? b=some o→h'.get? b=some o)→tn i h'
 item:∀(X:Cx),X.prog=P→X.w=w→X.K=K→X.calm=true→∀(i:Nat) (pins:List (Addr×Obj)) (s:Shared) (σ:St) (H:Hp) (E:Value→Shared→Prop),Inv X pins σ H s→(∀ b∈fp,FpOk X pins H b)→tn i s.heap→J.go i H →
  wpAny (model P w) X.A (pyNext (.ref it)) (fun r s1=>∃ u,r=some u ∧
   wpAny (model P w) X.A (letOwnedTupleGo tg (.ref it) u) (fun _ s2=>∃ x H',Inv X pins σ H' s2∧RelV x u∧J.yld i H x H'∧tn (i+1) s2.heap∧∀ b∈fp,H' b=none) E s1) E s
 done:∀(X:Cx),X.prog=P→X.w=w→X.K=K→X.calm=true→∀(i:Nat) (pins:List (Addr×Obj)) (s:Shared) (σ:St) (H:Hp) (E:Value→Shared→Prop),Inv X pins σ H s→(∀ b∈fp,FpOk X pins H b)→tn i s.heap→J.stop i H →
  wpAny (model P w) X.A (pyNext (.ref it)) (fun r s1=>r=none∧Inv X pins σ H s1) E s
 self:∀(A:Around)(i:Nat)(s:Shared)(Q:Value→Shared→Prop)(E:Value→Shared→Prop),tn i s.heap→Q (.ref it) s→wpAny (model P w) A (pyIter (.ref it)) Q E s
abbrev TI:=St→Hp→(It→Hp→Prop)→Prop
def PIE(X:Cx)(pins:List (Addr×Obj))(σ:St)(tg:Expr)(R:It→Hp→Prop)(itv:Value)(s2:Shared):Prop :=
 ∃(it:Addr)(fp:List Addr)(tn:Nat→Heap→Prop)(J:It)(H':Hp),itv=.ref it∧Inv X pins σ H' s2∧Turn X.prog X.w X.K tg J fp it tn∧tn 0 s2.heap∧(∀ b∈fp,FpOk X pins H' b)∧R J H'
def PI(X:Cx)(tg iter:Expr)(wi:TI):Prop :=
 ∀ (pins:List (Addr×Obj)) (s:Shared) (σ:St) (H:Hp) (R:It→Hp→Prop),Inv X pins σ H s→wi σ H R →
  wpAny (model X.prog X.w) X.A (eval iter X.env) (fun v s1=>wpAny (model X.prog X.w) X.A (pyIter v) (PIE X pins σ tg R) X.xe s1) X.xe s
theorem go_of{M:Model}{A:Around}{E:Value→Shared→Prop}{s:Shared}{tg:Expr}{it:Addr}{u:Value}{o:Obj}{n:String}{vs:Array Value}{Q:Unit→Shared→Prop}(ho:s.heap.get? it=some o)(hc:o.cls=.type n)(hd:o.data=.fields vs)
  (hn:["enumerate", "zip", "dict_itemiterator", "dict_reverseitemiterator", "odict_iterator", "itertools.zip_longest", "itertools.pairwise"].contains n=false) (hQ:Q () s):wpAny M A (letOwnedTupleGo tg (.ref it) u) Q E s:=by
 unfold letOwnedTupleGo
 cases tg<;>first
  | exact wpAny_pure hQ
  | (cases u<;>first
    | exact wpAny_pure hQ
    | (refine wpAny_bind (wpAny_load ho ?_)
       rw[hc,hd]
       show wpAny M A (if (["enumerate", "zip", "dict_itemiterator", "dict_reverseitemiterator", "odict_iterator", "itertools.zip_longest", "itertools.pairwise"].contains n && vs[0]? == some (rawInt _))=true then _ else _) Q E s
       rw[if_neg (by intro h;rw[hn,Bool.false_and] at h;cases h)]
       exact wpAny_pure hQ))
def Itl(K:PySem.W.Frag)(a:Addr):It :=
 ⟨fun i H=>∃ xs x,SqL K H a xs∧xs[i]?=some x,fun i H x H'=>H'=H∧∀ xs,SqL K H a xs→xs[i]?=some x,fun i H=>∃ xs,SqL K H a xs∧xs.length≤i⟩
def Itt(K:PySem.W.Frag)(a:Addr):It :=
 ⟨fun i H=>∃ xs x,SqT K H a xs∧xs[i]?=some x,fun i H x H'=>H'=H∧∀ xs,SqT K H a xs→xs[i]?=some x,fun i H=>∃ xs,SqT K H a xs∧xs.length≤i⟩
def Itr(lo:Int)(n:Nat):It:=⟨fun i _=>i < n,fun i H x H'=>H'=H∧x=.int (lo+i),fun i _=>n≤i⟩
theorem turn_list{P:Program}{w:World}{K:PySem.W.Frag}{tg:Expr}(a it:Addr):Turn P w K tg (Itl K a) [it] it (fun i h=>h.IsListIter it a i) where
 mem:=by simp
 obj:=fun i h st b hb=>by
  have e:b=it:=by simpa using hb
  subst e
  obtain⟨o,e,c,d⟩:=st
  exact⟨o,e,fun v z=>by rw[d] at z;cases z⟩
 keep:=fun i h h' st k=>st.at fun o e=>k it (by simp) o e
 item:=by
  intro X hP hw hK hc i pins s σ H E I hf st hg
  subst hP hw hK
  obtain⟨xs,x,hq,hx⟩:=hg
  obtain⟨its,rv,p,hz⟩:=I.list hq
  obtain⟨u,hu,ru⟩:=rv.get hx
  obtain⟨f0,f1,f2,f3,f4,f5⟩:=hf it (by simp)
  refine wpAny_pyNext_list_item st p.isList (x:=u) (by simpa using hu) fun h' st' sb=>?_
  have I1:Inv X pins σ H { s with heap:=h' }:=I.turned (t':=s.toks) (fun b o hb e=>(sb.2 b hb).trans e) f0 f1 f3 f4 f5
  obtain⟨o,e,c,d⟩:=id st'
  exact⟨u,rfl,go_of (s:={ s with heap:=h' }) e c d (by decide) ⟨x,H,I1,ru,⟨rfl,fun ys hy=>by rw[I.list_inj hy hq];exact hx⟩,st',fun b hb=>(hf b hb).1⟩⟩
 done:=by
  intro X hP hw hK hc i pins s σ H E I hf st hg
  subst hP hw hK
  obtain⟨xs,hq,hx⟩:=hg
  obtain⟨its,rv,p,hz⟩:=I.list hq
  obtain⟨f0,f1,f2,f3,f4,f5⟩:=hf it (by simp)
  have hl:=rv.length
  exact wpAny_pyNext_list_end (I.ok.hd hc) st p.isList (by simp;omega) fun h' eb=>⟨rfl,I.turned (t':=s.toks) (fun b o hb e=>eb b o hb e) f0 f1 f3 f4 f5⟩
 self:=fun _ _ _ _ _ st h=>wpAny_pyIter_listiter st h
theorem turn_tuple{P:Program}{w:World}{K:PySem.W.Frag}{tg:Expr}(a it:Addr):Turn P w K tg (Itt K a) [it] it (fun i h=>h.IsTupleIter it a i) where
 mem:=by simp
 obj:=fun i h st b hb=>by
  have e:b=it:=by simpa using hb
  subst e
  obtain⟨o,e,c,d⟩:=st
  exact⟨o,e,fun v z=>by rw[d] at z;cases z⟩
 keep:=fun i h h' st k=>st.at fun o e=>k it (by simp) o e
 item:=by
  intro X hP hw hK hc i pins s σ H E I hf st hg
  subst hP hw hK
  obtain⟨xs,x,hq,hx⟩:=hg
  obtain⟨its,rv,p,hz⟩:=I.tuple hq
  obtain⟨u,hu,ru⟩:=rv.get hx
  obtain⟨f0,f1,f2,f3,f4,f5⟩:=hf it (by simp)
  refine wpAny_pyNext_tuple_item st (show s.heap.IsTuple a its.toArray from p) (x:=u) (by simpa using hu) fun h' st' sb=>?_
  have I1:Inv X pins σ H { s with heap:=h' }:=I.turned (t':=s.toks) (fun b o hb e=>(sb.2 b hb).trans e) f0 f1 f3 f4 f5
  obtain⟨o,e,c,d⟩:=id st'
  exact⟨u,rfl,go_of (s:={ s with heap:=h' }) e c d (by decide) ⟨x,H,I1,ru,⟨rfl,fun ys hy=>by rw[I.tuple_inj hy hq];exact hx⟩,st',fun b hb=>(hf b hb).1⟩⟩
 done:=by
  intro X hP hw hK hc i pins s σ H E I hf st hg
  subst hP hw hK
  obtain⟨xs,hq,hx⟩:=hg
  obtain⟨its,rv,p,hz⟩:=I.tuple hq
  obtain⟨f0,f1,f2,f3,f4,f5⟩:=hf it (by simp)
  have hl:=rv.length
  exact wpAny_pyNext_tuple_end (I.ok.hd hc) st (show s.heap.IsTuple a its.toArray from p) (by simp;omega) fun h' eb=>⟨rfl,I.turned (t':=s.toks) (fun b o hb e=>eb b o hb e) f0 f1 f3 f4 f5⟩
 self:=fun _ _ _ _ _ st h=>wpAny_pyIter_tupleiter st h
theorem turn_range{P:Program}{w:World}{K:PySem.W.Frag}{tg:Expr}(it:Addr)(lo:Int)(n:Nat):Turn P w K tg (Itr lo n) [it] it (fun i h=>IsRangeIter h it (lo+(i:Nat)*1) ((n:Int) - (i:Nat)) 1) where
 mem:=by simp
 obj:=fun i h st b hb=>by
  have e:b=it:=by simpa using hb
  subst e
  exact⟨_,st,fun v z=>by
   have z':Data.fields _=Data.cell v:=z
   cases z'⟩
 keep:=fun i h h' st k=>k it (by simp) _ st
 item:=by
  intro X hP hw hK hc i pins s σ H E I hf st hg
  subst hP hw hK
  obtain⟨f0,f1,f2,f3,f4,f5⟩:=hf it (by simp)
  have W:=Walks.range (prog:=X.prog) (w:=X.w) (I.ok.hd hc) it lo 1 n
  refine W.item i s _ _ hg st fun v h' tk hv st' kk=>?_
  obtain⟨t,rfl⟩:=hv
  have I1:Inv X pins σ H { s with heap:=h',toks:=tk }:=I.turned (fun b o hb e=>kk b o (by simpa using hb) e) f0 f1 f3 f4 f5
  refine⟨_,rfl,go_of (s:={ s with heap:=h',toks:=tk }) (n := "range_iterator") st' rfl rfl (by decide) ⟨.int (lo+i),H,I1,⟨t,?_⟩,⟨rfl,rfl⟩,st',fun b hb=>(hf b hb).1⟩⟩
  rw[Int.mul_one]
 done:=by
  intro X hP hw hK hc i pins s σ H E I hf st hg
  subst hP hw hK
  obtain⟨f0,f1,f2,f3,f4,f5⟩:=hf it (by simp)
  exact wpAny_pyNext_range_end (I.ok.hd hc) st (by have:n≤i:=hg;omega) fun h' eb=>⟨rfl,I.turned (t':=s.toks) (fun b o hb e=>eb b o hb e) f0 f1 f3 f4 f5⟩
 self:=fun _ _ _ _ _ st h=>wpAny_pyIter_rangeiter st h
end L2
namespace L2
open PySem PySem.Spec PyProof.Rows
section
variable {X:Cx}{tg:Expr}
def iList(K:PySem.W.Frag)(tl:TE):TI:=fun σ H R=>tl σ H fun x H1=>∃ a,x=.ref a∧(∃ xs,SqL K H1 a xs)∧R (Itl K a) H1
def iTup(K:PySem.W.Frag)(tl:TE):TI:=fun σ H R=>tl σ H fun x H1=>∃ a,x=.ref a∧(∃ xs,SqT K H1 a xs)∧R (Itt K a) H1
theorem pi_list{l:Expr}{tl:TE}(hl:PE X l tl):PI X tg l (iList X.K tl):=by
 intro pins s σ H R I h
 refine thn (hl pins s σ H _ I h) fun v s1 ⟨x,H1,I1,r1,q1⟩=>?_
 obtain⟨a,e,⟨xs,hq⟩,q⟩:=q1
 subst e
 cases r1
 obtain⟨its,rv,p,hz⟩:=I1.list hq
 refine wpAny_pyIter_list p.isList ?_
 refine⟨s1.heap.objs.size,[s1.heap.objs.size],_,_,H1,rfl,I1.kept (t':=s1.toks) fun b o e=>Heap.get?_push_of_some _ e,turn_list a _,⟨_,Heap.get?_push_size _ rfl,rfl,rfl⟩,fun b hb=>?_,q⟩
 have e:b=s1.heap.objs.size:=by simpa using hb
 subst e
 exact I1.fpOk (Nat.le_refl _) (I1.hok.fresh (Nat.le_refl _))
theorem pi_tup{l:Expr}{tl:TE}(hl:PE X l tl):PI X tg l (iTup X.K tl):=by
 intro pins s σ H R I h
 refine thn (hl pins s σ H _ I h) fun v s1 ⟨x,H1,I1,r1,q1⟩=>?_
 obtain⟨a,e,⟨xs,hq⟩,q⟩:=q1
 subst e
 cases r1
 obtain⟨its,rv,p,hz⟩:=I1.tuple hq
 refine wpAny_pyIter_tuple (show s1.heap.IsTuple a its.toArray from p) ?_
 refine⟨s1.heap.objs.size,[s1.heap.objs.size],_,_,H1,rfl,I1.kept (t':=s1.toks) fun b o e=>Heap.get?_push_of_some _ e,turn_tuple a _,⟨_,Heap.get?_push_size _ rfl,rfl,rfl⟩,fun b hb=>?_,q⟩
 have e:b=s1.heap.objs.size:=by simpa using hb
 subst e
 exact I1.fpOk (Nat.le_refl _) (I1.hok.fresh (Nat.le_refl _))
theorem range_it{pins:List (Addr×Obj)}{σ:St}{H:Hp}{s:Shared}{R:It→Hp→Prop}{E:Value→Shared→Prop}{lo hi:Int}{t u v:Tok}{tk:Nat}(I:Inv X pins σ H s)(h1:-(2 ^ 62)≤lo)(h2:lo < 2 ^ 62)(h3:-(2 ^ 62)≤hi)(h4:hi < 2 ^ 62)
  (q:R (Itr lo (hi - lo).toNat) H):wpAny (model X.prog X.w) X.A (pyIter (.ref s.heap.objs.size)) (PIE X pins σ tg R) E { s with heap:=s.heap.push { cls:=.type "range", data:=.fields #[.int lo t,.int hi u,.int 1 v] },toks:=tk }:=by
 refine wpAny_pyIter_range (IsRange.new ..) (small_one h1 h2 h3 h4) ?_
 have I1:Inv X pins σ H { s with heap:=s.heap.push { cls:=.type "range", data:=.fields #[.int lo t,.int hi u,.int 1 v] },toks:=tk }:=I.kept fun b o e=>Heap.get?_push_of_some _ e
 refine⟨(s.heap.push { cls:=.type "range", data:=.fields #[.int lo t,.int hi u,.int 1 v] }).objs.size,[(s.heap.push { cls:=.type "range", data:=.fields #[.int lo t,.int hi u,.int 1 v] }).objs.size],_,_,H,rfl,
  I1.kept (t':=tk) fun b o e=>Heap.get?_push_of_some _ e,turn_range _ lo (hi - lo).toNat,?_,fun b hb=>?_,q⟩
 ·have e1:lo+((0:Nat):Int)*1=lo:=by simp
  have e2:(((hi - lo).toNat:Nat):Int) - ((0:Nat):Int)=Builtin.Range.rangeSize lo hi 1:=by rw[rangeSize_one];split<;>omega
  show IsRangeIter _ _ (lo+((0:Nat):Int)*1) ((((hi - lo).toNat:Nat):Int) - ((0:Nat):Int)) 1
  rw[e1,e2]
  exact Heap.get?_push_size _ rfl
 ·have e:b=(s.heap.push { cls:=.type "range", data:=.fields #[.int lo t,.int hi u,.int 1 v] }).objs.size:=by simpa using hb
  subst e
  exact I1.fpOk (Nat.le_refl _) (I1.hok.fresh (Nat.le_refl _))
def iRng1(ta:TA):TI:=fun σ H R=>ta σ H fun vs H1=>∃ j:Int,vs=[.int j]∧-(2 ^ 62)≤j∧j < 2 ^ 62∧R (Itr 0 j.toNat) H1
theorem pi_range1{a:Expr}{ta:TA}{p pos:Pos}(hg:Gl X "range")(hm:X.mg "range" = none)(ha:PA X [a] ta)(hs:starEach [a] X.env=[(false,eval a X.env)]:=by rfl):PI X tg (.Call (.Name "range" p) [a] [] pos) (iRng1 ta):=by
 intro pins s σ H R I h
 refine Call_ (ld_blt I hg hm boot_range (PyProof.Rows.callWith_type1 (thn (ha pos pins s σ H _ I h) fun us s1 ⟨vs,H1,I1,r1,q1⟩=>?_) hs rfl))
 obtain⟨j,e,q1,q2,q⟩:=q1
 subst e
 cases r1 with
 | cons r rr =>
  cases rr
  obtain⟨t,rfl⟩:=r
  exact call_range_1 (range_it I1 (by omega) (by omega) q1 q2 (by simpa using q))
def tFor(wi:TI)(g:TG)(tb:TS):TS:=fun D σ H=>wi σ H fun J H1=>∃ W:Nat→Nat→St→Hp→Prop,(∃ m,W 0 m σ H1)∧∀ i m σ H,W i m σ H →
 (J.stop i H∧D.nx σ H)∨(J.go i H∧∃ N:St→Hp→Prop,(∀ σ' H',N σ' H'→∃ m',m' < m∧W (i+1) m' σ' H')∧∀ x H',J.yld i H x H'→g x σ H' fun σ2 H2=>tb { D with nx:=N,ct:=N,bk:=D.nx } σ2 H2)
def pinsAt(fp:List Addr)(h:Heap):List (Addr×Obj):=fp.filterMap fun b=>(h.get? b).map fun o=>(b,o)
theorem mem_pinsAt{fp:List Addr}{h:Heap}{b:Addr}{o:Obj}(hb:b∈fp)(e:h.get? b=some o):(b,o)∈pinsAt fp h:=List.mem_filterMap.mpr ⟨b,hb,by rw[e];rfl⟩
theorem of_pinsAt{fp:List Addr}{h:Heap}{p:Addr×Obj}(hp:p∈pinsAt fp h):p.1∈fp∧h.get? p.1=some p.2:=by
 obtain⟨b,hb,e⟩:=List.mem_filterMap.mp hp
 cases q:h.get? b with
 | none=>rw[q] at e;cases e
 | some o =>
  rw[q] at e
  have e':(b,o)=p:=Option.some.inj e
  subst e'
  exact⟨hb,q⟩
theorem Inv.pinned{pins:List (Addr×Obj)}{σ:St}{H:Hp}{s:Shared}{fp:List Addr}(I:Inv X pins σ H s)(hf:∀ b∈fp,FpOk X pins H b)(ho:∀ b∈fp,∃ o,s.heap.get? b=some o∧∀ v,o.data≠.cell v):Inv X (pins++pinsAt fp s.heap) σ H s :=
 I.pins_of fun p hp=>(List.mem_append.mp hp).elim (fun z=>I.pin p (List.mem_append_right _ z)) fun z=>by
  obtain⟨hb,e⟩:=of_pinsAt z
  obtain⟨f0,f1,f2,_⟩:=hf p.1 hb
  obtain⟨o,e',d⟩:=ho p.1 hb
  rw[e] at e';cases e'
  exact⟨e,f0,f1,f2,d⟩
theorem Inv.unpinned{pins pl:List (Addr×Obj)}{σ:St}{H:Hp}{s:Shared}(I:Inv X (pins++pl) σ H s):Inv X pins σ H s:=I.pins_of fun p hp=>I.pin p (List.mem_append_right _ (List.mem_append_left _ hp))
theorem ps_for{iter:Expr}{body:List Stmt}{wi:TI}{g:TG}{tb:TS}{pos:Pos}(hp:PassesOwn (model X.prog X.w) X.A X.env X.xe)(hc:X.calm=true)(hi:PI X tg iter wi)(hg:PG X tg g)(hb:PSs X body tb)
  (hs:∀ x,foldedSetIterable iter X.env x=pure x:=by intro _;rfl):PS X (.For tg iter body [] pos) (tFor wi g tb):=by
 intro pins s σ H D I h
 refine wpAny_For (thn (hi pins s σ H _ I h) fun v s1 h1=>thn h1 fun itv s2 h2=>?_) hs
 obtain⟨it,fp,tn,J,H2,e,I2,T,st2,f2,W,⟨m0,w0⟩,turn⟩:=h2
 subst e
 have stat:∀{H':Hp},(∀ b∈fp,H' b=none)→∀ b∈fp,FpOk X pins H' b:=fun hn b hb=>⟨hn b hb,(f2 b hb).2⟩
 refine codeAny_forLoop_any (fun n s'=>∃ i σ' H',Inv X pins σ' H' s'∧tn i s'.heap∧(∀ b∈fp,H' b=none)∧W i n σ' H') ?_ m0 ⟨0,σ,H2,I2,st2,fun b hb=>(f2 b hb).1,w0⟩
 rintro n s3 ⟨i,σ3,H3,I3,st3,fr3,w3⟩
 rcases turn i n σ3 H3 w3 with ⟨stop,qn⟩ | ⟨go,N,hN,step⟩
 ·refine wpAny_passesOwn hp (thn (T.done X rfl rfl rfl hc i pins s3 σ3 H3 X.xe I3 (stat fr3) st3 stop) fun r s4 ⟨hr,I4⟩=>?_)
  subst hr
  exact wpAny_execs_nil ⟨σ3,H3,I4,qn⟩
 ·refine wpAny_passesOwn hp (thn (T.item X rfl rfl rfl hc i pins s3 σ3 H3 X.xe I3 (stat fr3) st3 go) fun r s4 ⟨u,hr,h4⟩=>?_)
  subst hr
  refine wpAny_passesOwn hp (thn h4 fun _ s5 ⟨x,H5,I5,r5,y5,st5,fr5⟩=>?_)
  have I5':=I5.pinned (stat fr5) (T.obj _ _ st5)
  refine wpAny_passesOwn hp (thn (hg _ s5 σ3 H5 x u _ I5' r5 (step x H5 y5)) fun _ s6 ⟨σ6,H6,I6,q6⟩=>?_)
  refine wpAny_passesOwn hp (thn (hb _ s6 σ6 H6 _ I6 q6) fun f s7 q7=>?_)
  have again:∀{σ7:St}{H7:Hp},Inv X (pins++pinsAt fp s5.heap) σ7 H7 s7→N σ7 H7→∃ m,m < n∧∃ i σ' H',Inv X pins σ' H' s7∧tn i s7.heap∧(∀ b∈fp,H' b=none)∧W i m σ' H':=fun {σ7 H7} I7 n7=>by
   obtain⟨m',hm,w7⟩:=hN σ7 H7 n7
   refine⟨m',hm,i+1,σ7,H7,I7.unpinned,T.keep _ _ _ st5 fun b hb o e=>(I7.pin (b,o) (List.mem_append_right _ (List.mem_append_right _ (mem_pinsAt hb e)))).1,fun b hb=>?_,w7⟩
   obtain⟨o,e,d⟩:=T.obj _ _ st5 b hb
   exact (I7.pin (b,o) (List.mem_append_right _ (List.mem_append_right _ (mem_pinsAt hb e)))).2.1
  cases f with
  | next=>obtain⟨σ7,H7,I7,n7⟩:=q7;exact again I7 n7
  | cont=>obtain⟨σ7,H7,I7,n7⟩:=q7;exact again I7 n7
  | brk=>obtain⟨σ7,H7,I7,q7⟩:=q7;exact⟨σ7,H7,I7.unpinned,q7⟩
  | ret v=>obtain⟨x7,σ7,H7,I7,r7,q7⟩:=q7;exact⟨x7,σ7,H7,I7.unpinned,r7,q7⟩
end
theorem for_list{K:PySem.W.Frag}{a:Addr}{xs:List V}{g:TG}{tb:TS}{D:Ends}{σ:St}{H:Hp}(Pv:Nat→St→Hp→Prop)(h0:Pv 0 σ H)(hl:∀ i σ H,i≤xs.length→Pv i σ H→SqL K H a xs)
  (hs:∀ i x σ H,xs[i]?=some x→Pv i σ H→g x σ H fun σ2 H2=>tb { D with nx:=Pv (i+1),ct:=Pv (i+1),bk:=D.nx } σ2 H2) (hd:∀ σ H,Pv xs.length σ H→D.nx σ H) :
  ∃ W:Nat→Nat→St→Hp→Prop,(∃ m,W 0 m σ H)∧∀ i m σ H,W i m σ H →
   ((Itl K a).stop i H∧D.nx σ H)∨((Itl K a).go i H∧∃ N:St→Hp→Prop,(∀ σ' H',N σ' H'→∃ m',m' < m∧W (i+1) m' σ' H')∧∀ x H',(Itl K a).yld i H x H'→g x σ H' fun σ2 H2=>tb { D with nx:=N,ct:=N,bk:=D.nx } σ2 H2):=by
 refine⟨fun i m σ H=>m=xs.length - i∧i≤xs.length∧Pv i σ H,⟨xs.length,by simp,Nat.zero_le _,h0⟩,?_⟩
 rintro i m σ H ⟨rfl,hi,p⟩
 have q:=hl i σ H hi p
 by_cases hlt:i < xs.length
 ·refine .inr ⟨⟨xs,xs[i],q,by simp[hlt]⟩,Pv (i+1),fun σ' H' p'=>⟨xs.length - (i+1),by omega,rfl,hlt,p'⟩,fun x H' y=>?_⟩
  obtain⟨e,y⟩:=y
  subst e
  exact hs i x σ _ (y xs q) p
 ·have e:i=xs.length:=by omega
  subst e
  exact .inl ⟨⟨xs,q,Nat.le_refl _⟩,hd σ H p⟩
theorem for_range{lo:Int}{n:Nat}{g:TG}{tb:TS}{D:Ends}{σ:St}{H:Hp}(Pv:Nat→St→Hp→Prop)(h0:Pv 0 σ H)
  (hs:∀ i σ H,i < n→Pv i σ H→g (.int (lo+i)) σ H fun σ2 H2=>tb { D with nx:=Pv (i+1),ct:=Pv (i+1),bk:=D.nx } σ2 H2) (hd:∀ σ H,Pv n σ H→D.nx σ H) :
  ∃ W:Nat→Nat→St→Hp→Prop,(∃ m,W 0 m σ H)∧∀ i m σ H,W i m σ H →
   ((Itr lo n).stop i H∧D.nx σ H)∨((Itr lo n).go i H∧∃ N:St→Hp→Prop,(∀ σ' H',N σ' H'→∃ m',m' < m∧W (i+1) m' σ' H')∧∀ x H',(Itr lo n).yld i H x H'→g x σ H' fun σ2 H2=>tb { D with nx:=N,ct:=N,bk:=D.nx } σ2 H2):=by
 refine⟨fun i m σ H=>m=n - i∧i≤n∧Pv i σ H,⟨n,by simp,Nat.zero_le _,h0⟩,?_⟩
 rintro i m σ H ⟨rfl,hi,p⟩
 by_cases hlt:i < n
 ·refine .inr ⟨hlt,Pv (i+1),fun σ' H' p'=>⟨n - (i+1),by omega,rfl,hlt,p'⟩,fun x H' y=>?_⟩
  obtain⟨e,y⟩:=y
  subst e y
  exact hs i σ _ hlt p
 ·have e:i=n:=by omega
  subst e
  exact .inl ⟨Nat.le_refl _,hd σ H p⟩
end L2
namespace L2
open PySem PySem.Spec PyProof.Rows
abbrev R2:=V→V→Hp→VK→Prop
def OpR(X:Cx)(f:Value→Value→Sem Value)(r:R2):Prop :=
 ∀ (pins:List (Addr×Obj)) (s:Shared) (σ:St) (H:Hp) (x y:V) (v u:Value) (Q:VK),Inv X pins σ H s→RelV x v→RelV y u→r x y H Q →
  wpAny (model X.prog X.w) X.A (f v u) (EP X pins σ Q) X.xe s
def UnR(X:Cx)(f:Value→Sem Value)(r:V→Hp→VK→Prop):Prop :=
 ∀ (pins:List (Addr×Obj)) (s:Shared) (σ:St) (H:Hp) (x:V) (v:Value) (Q:VK),Inv X pins σ H s→RelV x v→r x H Q →
  wpAny (model X.prog X.w) X.A (f v) (EP X pins σ Q) X.xe s
def CallR(X:Cx)(f:Value)(r:List V→Hp→VK→Prop):Prop :=
 ∀ (pins:List (Addr×Obj)) (s:Shared) (σ:St) (H:Hp) (xs:List V) (us:List Value) (Q:VK),Inv X pins σ H s→Vals xs us→r xs H Q →
  wpAny (model X.prog X.w) X.A (call f us) (EP X pins σ Q) X.xe s
def tOp(r:R2)(ta tb:TE):TE:=fun σ H Q=>ta σ H fun x H1=>tb σ H1 fun y H2=>r x y H2 Q
def tUn(r:V→Hp→VK→Prop)(ta:TE):TE:=fun σ H Q=>ta σ H fun x H1=>r x H1 Q
def rI(C:Int→Int→Prop)(g:Int→Int→V):R2:=fun x y H Q=>∃ i j,x=.int i∧y=.int j∧C i j∧Q (g i j) H
def rI0(g:Int→Int→V):R2:=fun x y H Q=>∃ i j,x=.int i∧y=.int j∧Q (g i j) H
def rU(g:Int→V):V→Hp→VK→Prop:=fun x H Q=>∃ i,x=.int i∧Q (g i) H
section
variable {X:Cx}{a b c:Expr}{ta tb tc:TE}{pos:Pos}
theorem binT(ha:PE X a ta)(hb:PE X b tb){pins:List (Addr×Obj)}{s:Shared}{σ:St}{H:Hp}{R:V→V→Hp→Prop}(I:Inv X pins σ H s)
  (h:ta σ H fun x H1=>tb σ H1 fun y H2=>R x y H2) {Q:Value→Shared→Prop} {f:Value→Value→Sem Value}
  (hf:∀ v u s2 x y H2,Inv X pins σ H2 s2→RelV x v→RelV y u→R x y H2→wpAny (model X.prog X.w) X.A (f v u) Q X.xe s2) :
  wpAny (model X.prog X.w) X.A (eval a X.env) (fun v s₁=>wpAny (model X.prog X.w) X.A (eval b X.env) (fun u s₂=>wpAny (model X.prog X.w) X.A (f v u) Q X.xe s₂) X.xe s₁) X.xe s:=by
 refine thn (ha pins s σ H _ I h) fun v s1 ⟨x,H1,I1,r1,q1⟩=>?_
 refine thn (hb pins s1 σ H1 _ I1 q1) fun u s2 ⟨y,H2,I2,r2,q2⟩=>?_
 exact hf v u s2 x y H2 I2 r1 r2 q2
theorem pe_op{op:Operator}{r:R2}(ho:OpR X (binaryOp op) r)(ha:PE X a ta)(hb:PE X b tb):PE X (.BinOp a op b pos) (tOp r ta tb):=by
 intro pins s σ H Q I h
 exact wpAny_BinOp (binT ha hb I h fun v u s2 x y H2 I2 rx ry q=>ho pins s2 σ H2 x y v u Q I2 rx ry q)
theorem pe_un{op:UnaryOp}{r:V→Hp→VK→Prop}(ho:UnR X (unaryOp op) r)(ha:PE X a ta):PE X (.UnaryOp op a pos) (tUn r ta):=by
 intro pins s σ H Q I h
 exact UnaryOp_ (thn (ha pins s σ H _ I h) fun v s1 ⟨x,H1,I1,r1,q1⟩=>ho pins s1 σ H1 x v Q I1 r1 q1)
theorem opI{f:Value→Value→Sem Value}{C:Int→Int→Prop}{g:Int→Int→Int}
  (rule:∀(i j:Int)(t u:Tok)(s:Shared)(Q:Value→Shared→Prop)(E:Value→Shared→Prop),C i j→Q (.int (g i j) s.toks) { s with toks:=s.toks+1 }→wpAny (model X.prog X.w) X.A (f (.int i t) (.int j u)) Q E s) :
  OpR X f (rI C fun i j=>.int (g i j)):=by
 intro pins s σ H x y v u Q I rx ry h
 obtain⟨i,j,rfl,rfl,hc,q⟩:=h
 obtain⟨t,rfl⟩:=rx
 obtain⟨t',rfl⟩:=ry
 exact rule i j t t' s _ _ hc ⟨.int (g i j),H,I.tok _,⟨_,rfl⟩,q⟩
theorem opI0{f:Value→Value→Sem Value}{g:Int→Int→Int}
  (rule:∀(i j:Int)(t u:Tok)(s:Shared)(Q:Value→Shared→Prop)(E:Value→Shared→Prop),Q (.int (g i j) s.toks) { s with toks:=s.toks+1 }→wpAny (model X.prog X.w) X.A (f (.int i t) (.int j u)) Q E s) :
  OpR X f (rI0 fun i j=>.int (g i j)):=by
 intro pins s σ H x y v u Q I rx ry h
 obtain⟨i,j,rfl,rfl,q⟩:=h
 obtain⟨t,rfl⟩:=rx
 obtain⟨t',rfl⟩:=ry
 exact rule i j t t' s _ _ ⟨.int (g i j),H,I.tok _,⟨_,rfl⟩,q⟩
theorem opB0{f:Value→Value→Sem Value}{g:Int→Int→Bool}
  (rule:∀(i j:Int)(t u:Tok)(s:Shared)(Q:Value→Shared→Prop)(E:Value→Shared→Prop),Q (.bool (g i j)) s→wpAny (model X.prog X.w) X.A (f (.int i t) (.int j u)) Q E s) :
  OpR X f (rI0 fun i j=>.bl (g i j)):=by
 intro pins s σ H x y v u Q I rx ry h
 obtain⟨i,j,rfl,rfl,q⟩:=h
 obtain⟨t,rfl⟩:=rx
 obtain⟨t',rfl⟩:=ry
 exact rule i j t t' s _ _ ⟨.bl (g i j),H,I,rfl,q⟩
def CPow(i j:Int):Prop:=0≤j∧j≤1000000∧i.natAbs < 2 ^ 64
def CMul(i j:Int):Prop:=(-(2 ^ 64) < i∧i < 2 ^ 64)∨(-(2 ^ 64) < j∧j < 2 ^ 64)
theorem CMul.ok{i j:Int}(h:CMul i j):IntMulOk i j:=by
 rcases h with ⟨h1,h2⟩ | ⟨h1,h2⟩
 ·exact .of_left (intBits_le_64 h1 h2)
 ·exact .of_right (intBits_le_64 h1 h2)
theorem op_add:OpR X (binaryOp .Add) (rI0 fun i j=>.int (i+j)):=opI0 fun _ _ _ _ _ _ _ q=>add_int q
theorem op_sub:OpR X (binaryOp .Sub) (rI0 fun i j=>.int (i - j)):=opI0 fun _ _ _ _ _ _ _ q=>sub_int q
theorem op_mod:OpR X (binaryOp .Mod) (rI (fun _ j=>0 < j) fun i j=>.int (i % j)):=opI fun i j _ _ _ _ _ hc q=>by
 have h1:(0:Int) < j:=hc
 exact mod_int' (by omega) (by rw[Int.fmod_eq_emod_of_nonneg i (by omega)];exact q)
theorem op_pow:OpR X (binaryOp .Pow) (rI CPow fun i j=>.int (i ^ j.toNat)):=opI fun _ _ _ _ _ _ _ hc q=>pow_int_small hc.1 hc.2.1 hc.2.2 q
theorem unI{f:Value→Sem Value}{g:Int→Int}
  (rule:∀(i:Int)(t:Tok)(s:Shared)(Q:Value→Shared→Prop)(E:Value→Shared→Prop),Q (.int (g i) s.toks) { s with toks:=s.toks+1 }→wpAny (model X.prog X.w) X.A (f (.int i t)) Q E s) :
  UnR X f (rU fun i=>.int (g i)):=by
 intro pins s σ H x v Q I rx h
 obtain⟨i,rfl,q⟩:=h
 obtain⟨t,rfl⟩:=rx
 exact rule i t s _ _ ⟨.int (g i),H,I.tok _,⟨_,rfl⟩,q⟩
theorem un_neg:UnR X (unaryOp .USub) (rU fun i=>.int (-i)):=unI fun _ _ _ _ _ q=>neg_int q
end
def scal:V→V→Bool
 | .non,.non=>true | .non,.int _=>true | .int _,.non=>true | .non,.bl _=>true | .bl _,.non=>true | .non,.str _=>true | .str _,.non=>true
 | .int _,.int _=>true | .bl _,.bl _=>true | .str _,.str _=>true | .byt _,.byt _=>true
 | .int _,.str _=>true | .str _,.int _=>true | .bl _,.str _=>true | .str _,.bl _=>true
 | _,_=>false
def rEq:R2:=fun x y H Q=>scal x y=true∧Q (.bl (decide (x=y))) H
def rNe:R2:=fun x y H Q=>scal x y=true∧Q (.bl (!decide (x=y))) H
theorem dec_int{i j:Int}:decide (V.int i=V.int j)=(i == j):=by
 rw[Bool.eq_iff_iff]
 simp
theorem dec_bl{i j:Bool}:decide (V.bl i=V.bl j)=(i == j):=by
 rw[Bool.eq_iff_iff]
 simp
theorem dec_str{i j:Str}:decide (V.str i=V.str j)=(i == j):=by
 rw[Bool.eq_iff_iff]
 simp
theorem dec_byt{i j:Array UInt8}:decide (V.byt i=V.byt j)=(i.toList == j.toList):=by
 rw[Bool.eq_iff_iff]
 cases i
 cases j
 simp
section
variable {X:Cx}{a b c:Expr}{ta tb tc:TE}{pos:Pos}
theorem fin_bl{pins:List (Addr×Obj)}{σ:St}{H:Hp}{s:Shared}{Q:VK}{k k':Bool}(I:Inv X pins σ H s)(q:Q (.bl k) H)(e:k=k'):EP X pins σ Q (.bool k') s:=by
 subst e
 exact⟨.bl k,H,I,rfl,q⟩
theorem op_eq:OpR X (compareOp .Eq) rEq:=by
 intro pins s σ H x y v u Q I rx ry h
 obtain⟨hs,q⟩:=h
 cases x with
 | non =>
  cases rx
  cases y with
  | non=>cases ry;exact PySem.EqNone.eq_none_none (fin_bl I q (by simp))
  | bl j=>cases ry;exact PySem.EqNone.eq_none_bool (fin_bl I q (by simp))
  | int j=>obtain⟨t',rfl⟩:=ry;exact PySem.EqNone.eq_none_int (fin_bl I q (by simp))
  | str j=>obtain⟨t',rfl⟩:=ry;exact PySem.EqNone.eq_none_str (fin_bl I q (by simp))
  | _=>exact absurd (show false=true from hs) Bool.false_ne_true
 | bl i =>
  cases rx
  cases y with
  | non=>cases ry;exact PySem.EqNone.eq_bool_none (fin_bl I q (by simp))
  | bl j=>cases ry;exact eq_bool (fin_bl I q dec_bl)
  | str j=>obtain⟨t',rfl⟩:=ry;exact PySem.EqMixed.eq_bool_str (fin_bl I q (by simp))
  | _=>exact absurd (show false=true from hs) Bool.false_ne_true
 | int i =>
  obtain⟨t,rfl⟩:=rx
  cases y with
  | non=>cases ry;exact PySem.EqNone.eq_int_none (fin_bl I q (by simp))
  | int j=>obtain⟨t',rfl⟩:=ry;exact eq_int (fin_bl I q dec_int)
  | str j=>obtain⟨t',rfl⟩:=ry;exact PySem.EqMixed.eq_int_str (fin_bl I q (by simp))
  | _=>exact absurd (show false=true from hs) Bool.false_ne_true
 | str i =>
  obtain⟨t,rfl⟩:=rx
  cases y with
  | non=>cases ry;exact PySem.EqNone.eq_str_none (fin_bl I q (by simp))
  | bl j=>cases ry;exact PySem.EqMixed.eq_str_bool (fin_bl I q (by simp))
  | int j=>obtain⟨t',rfl⟩:=ry;exact PySem.EqMixed.eq_str_int (fin_bl I q (by simp))
  | str j=>obtain⟨t',rfl⟩:=ry;exact eq_str (fin_bl I q dec_str)
  | _=>exact absurd (show false=true from hs) Bool.false_ne_true
 | byt i =>
  obtain⟨t,rfl⟩:=rx
  cases y with
  | byt j=>obtain⟨t',rfl⟩:=ry;exact PySem.W.eq_bytes (fin_bl I q dec_byt)
  | _=>exact absurd (show false=true from hs) Bool.false_ne_true
 | _=>cases y<;>exact absurd (show false=true from hs) Bool.false_ne_true
theorem op_ne:OpR X (compareOp .NotEq) rNe:=by
 intro pins s σ H x y v u Q I rx ry h
 obtain⟨hs,q⟩:=h
 cases x with
 | non =>
  cases rx
  cases y with
  | non=>cases ry;exact PySem.EqNone.ne_none_none (fin_bl I q (by simp))
  | bl j=>cases ry;exact PySem.EqNone.ne_none_bool (fin_bl I q (by simp))
  | int j=>obtain⟨t',rfl⟩:=ry;exact PySem.EqNone.ne_none_int (fin_bl I q (by simp))
  | str j=>obtain⟨t',rfl⟩:=ry;exact PySem.EqNone.ne_none_str (fin_bl I q (by simp))
  | _=>exact absurd (show false=true from hs) Bool.false_ne_true
 | bl i =>
  cases rx
  cases y with
  | non=>cases ry;exact PySem.EqNone.ne_bool_none (fin_bl I q (by simp))
  | bl j=>cases ry;exact ne_bool (fin_bl I q (congrArg not dec_bl))
  | str j=>obtain⟨t',rfl⟩:=ry;exact PySem.EqMixed.ne_bool_str (fin_bl I q (by simp))
  | _=>exact absurd (show false=true from hs) Bool.false_ne_true
 | int i =>
  obtain⟨t,rfl⟩:=rx
  cases y with
  | non=>cases ry;exact PySem.EqNone.ne_int_none (fin_bl I q (by simp))
  | int j=>obtain⟨t',rfl⟩:=ry;exact ne_int (fin_bl I q (congrArg not dec_int))
  | str j=>obtain⟨t',rfl⟩:=ry;exact PySem.EqMixed.ne_int_str (fin_bl I q (by simp))
  | _=>exact absurd (show false=true from hs) Bool.false_ne_true
 | str i =>
  obtain⟨t,rfl⟩:=rx
  cases y with
  | non=>cases ry;exact PySem.EqNone.ne_str_none (fin_bl I q (by simp))
  | bl j=>cases ry;exact PySem.EqMixed.ne_str_bool (fin_bl I q (by simp))
  | int j=>obtain⟨t',rfl⟩:=ry;exact PySem.EqMixed.ne_str_int (fin_bl I q (by simp))
  | str j=>obtain⟨t',rfl⟩:=ry;exact ne_str (fin_bl I q (congrArg not dec_str))
  | _=>exact absurd (show false=true from hs) Bool.false_ne_true
 | byt i =>
  obtain⟨t,rfl⟩:=rx
  cases y with
  | byt j=>obtain⟨t',rfl⟩:=ry;exact PySem.W.ne_bytes (fin_bl I q (congrArg not dec_byt))
  | _=>exact absurd (show false=true from hs) Bool.false_ne_true
 | _=>cases y<;>exact absurd (show false=true from hs) Bool.false_ne_true
theorem op_lt:OpR X (compareOp .Lt) (rI0 fun i j=>.bl (decide (i < j))):=opB0 fun _ _ _ _ _ _ _ q=>lt_int q
theorem op_le:OpR X (compareOp .LtE) (rI0 fun i j=>.bl (decide (i≤j))):=opB0 fun _ _ _ _ _ _ _ q=>le_int q
theorem op_gt:OpR X (compareOp .Gt) (rI0 fun i j=>.bl (decide (j < i))):=opB0 fun _ _ _ _ _ _ _ q=>gt_int q
theorem op_ge:OpR X (compareOp .GtE) (rI0 fun i j=>.bl (decide (j≤i))):=opB0 fun _ _ _ _ _ _ _ q=>ge_int q
theorem op_in_str:OpR X (compareOp .In) (fun x y H Q=>∃ i j,x=.str i∧y=.str j∧Q (.bl (!(Builtin.Str.occurrences j i 0 j.length 1).isEmpty)) H):=by
 intro pins s σ H x y v u Q I rx ry h
 obtain⟨i,j,rfl,rfl,q⟩:=h
 obtain⟨t,rfl⟩:=rx
 obtain⟨t',rfl⟩:=ry
 exact in_str (fin_bl I q rfl)
theorem nomark(b:Expr){op:CmpOp}(h:op≠.In:=by decide)(h2:op≠.NotIn:=by decide):behindInMarks op b=false:=by
 have e1:(op == CmpOp.In)=false:=by cases op<;>first | rfl | exact absurd rfl h
 have e2:(op == CmpOp.NotIn)=false:=by cases op<;>first | rfl | exact absurd rfl h2
 cases b<;>simp[behindInMarks,e1,e2]
theorem pe_cmpR{op:CmpOp}{r:R2}(ho:OpR X (compareOp op) r)(ha:PE X a ta)(hb:PE X b tb)(hm:behindInMarks op b=false):PE X (.Compare a [op] [b] pos) (tOp r ta tb):=by
 intro pins s σ H Q I h
 exact wpAny_Compare1 (binT ha hb I h fun v u s2 x y H2 I2 rx ry q=>ho pins s2 σ H2 x y v u Q I2 rx ry q) hm
def tTest(t:TE):TT:=fun σ H Q=>t σ H fun x H'=>∃ k,x=.bl k∧Q k H'
theorem pt_cmpR{op:CmpOp}{r:R2}(ho:OpR X (compareOp op) r)(ha:PE X a ta)(hb:PE X b tb)(hm:behindInMarks op b=false):PT X (.Compare a [op] [b] pos) (tTest (tOp r ta tb)):=by
 intro pins s σ H Q I h
 refine wpAny_isTrue_Compare1 (thn (ha pins s σ H _ I h) fun v s1 ⟨x,H1,I1,r1,q1⟩=>thn (hb pins s1 σ H1 _ I1 q1) fun u s2 ⟨y,H2,I2,r2,q2⟩ =>
  thn (ho pins s2 σ H2 x y v u _ I2 r1 r2 q2) fun c s3 ⟨z,H3,I3,r3,k,e,q3⟩=>?_) hm
 subst e
 cases r3
 exact wpAny_truthy_bool ⟨H3,I3,q3⟩
def tChain(r r':R2)(ta tb tc:TE):TE:=fun σ H Q=>ta σ H fun x H1=>tb σ H1 fun y H2=>r x y H2 fun z H3=>∃ k,z=.bl k ∧
 (if k=true then tc σ H3 fun w' H4=>r' y w' H4 Q else Q (.bl false) H3)
theorem line63:(sizeLine:Nat) < 2 ^ 63:=by rw[sizeLine_eq];decide
theorem op_add_str:OpR X (binaryOp .Add) (fun x y H Q=>∃ i j,x=.str i∧y=.str j∧i.length+j.length≤sizeLine∧Q (.str (i++j)) H):=by
 intro pins s σ H x y v u Q I rx ry h
 obtain⟨i,j,rfl,rfl,hz,q⟩:=h
 obtain⟨t,rfl⟩:=rx
 obtain⟨t',rfl⟩:=ry
 exact add_str (fun t' tk=>⟨.str (i++j),H,I.tok _,⟨_,rfl⟩,q⟩) hz
theorem vals1{x:V}{us:List Value}(r:Vals [x] us):∃ u,us=[u]∧RelV x u:=by
 cases r with
 | cons r1 r2=>cases r2;exact⟨_,rfl,r1⟩
theorem call_abs:CallR X (.builtin "abs") (fun xs H Q=>∃ i,xs=[.int i]∧Q (.int (if i < 0 then -i else i)) H):=by
 intro pins s σ H xs us Q I r h
 obtain⟨i,rfl,q⟩:=h
 obtain⟨u,rfl,t,rfl⟩:=vals1 r
 exact call_abs_int fun u tk=>⟨.int (if i < 0 then -i else i),H,I.tok _,⟨_,rfl⟩,q⟩
theorem call_int1:CallR X (.type "int") (fun xs H Q=>(∃ i,xs=[.int i]∧Q (.int i) H)∨∃ k,xs=[.bl k]∧Q (.int (if k then 1 else 0)) H):=by
 intro pins s σ H xs us Q I r h
 rcases h with ⟨i,rfl,q⟩ | ⟨k,rfl,q⟩
 ·obtain⟨u,rfl,t,rfl⟩:=vals1 r
  exact call_int_int ⟨.int i,H,I,⟨_,rfl⟩,q⟩
 ·obtain⟨u,rfl,r1⟩:=vals1 r
  cases r1
  exact call_int_bool ⟨.int (if k then 1 else 0),H,I.tok _,⟨_,rfl⟩,q⟩
end
end L2
namespace L2
open PySem PySem.Spec PyProof.Rows
structure ObjM(h:Heap)(x dx C:Addr)(mA:Str→Option Value):Prop where
 obj:h.get? x=some (PySem.W.instObj C dx)
 ns:h.Ns1 dx mA
 ne:dx≠x
theorem lookIn_ns{h:Heap}{dx:Addr}{mA:Str→Option Value}(n:h.Ns1 dx mA):∃ od,h.get? dx=some od∧∀ name,PySem.W.lookIn name od=some (mA name):=by
 obtain⟨o,es,ep,ho,hd,hk,_,hm⟩:=n
 refine⟨o,ho,fun name=>?_⟩
 have e:=hm name
 unfold nsFind findBy at e
 rw[← Array.find?_toList] at e
 unfold PySem.W.lookIn
 rw[hd]
 dsimp only
 split
 ·rename_i y q
  rw[q] at e
  exact congrArg some e
 ·rename_i q
  rw[q] at e
  have a:es.toList.any (·.refKey)=false:=by
   rw[List.any_eq_false]
   intro y hy
   obtain⟨z,t,hkey⟩:=hk y (Array.mem_toList_iff.mp hy)
   simp[DictEntry.refKey,hkey]
  have a':¬ es.toList.any (·.refKey)=true:=by rw[a];exact Bool.false_ne_true
  rw[if_neg a']
  exact congrArg some e
theorem ObjM.look{h:Heap}{x dx C:Addr}{mA:Str→Option Value}(I:ObjM h x dx C mA):∃ od,PySem.W.InstAt h x (PySem.W.instObj C dx) C (some od)∧∀ name,PySem.W.lookIn name od=some (mA name) :=
 let ⟨od,ho,hl⟩:=lookIn_ns I.ns
 ⟨od,⟨I.obj,rfl,rfl,ho⟩,hl⟩
section
variable {prog:Program}{w:World}{A:Around}{E:Value→Shared→Prop}{s:Shared}{K:PySem.W.Frag}{x dx C f:Addr}{mA:Str→Option Value}{name:Str}{v:Value}
theorem get_map{expr:Bool}{Q:Value→Shared→Prop}(X:K.In s.heap)(I:ObjM s.heap x dx C mA)(hg:PySem.W.plainGet K C name=true)(hh:PySem.W.hasDictIn K C=true)
  (ha:PySem.W.findIn K (.ref C) name=some none) (hv:mA name=some v) (hv':PySem.W.handedIn v=true) (h:Q v { s with toks:=s.toks+1 }) :
  wpAny (model prog w) A (getAttr (.ref x) name expr) Q E s:=by
 obtain⟨od,J,hl⟩:=I.look
 exact PySem.W.get_value X J (PySem.W.plainGet_of hg).1 (PySem.W.findObj_own hh ha rfl (by rw[hl,hv])) hv' h
theorem get_meth{pl:Sem Bool}{Q:Value×List Value→Shared→Prop}(X:K.In s.heap)(I:ObjM s.heap x dx C mA)(hg:PySem.W.plainGet K C name=true)
  (hf:PySem.W.findIn K (.ref C) name=some (some (.ref f))) (ht:PySem.W.isFn K (.ref f)=true) (hv:mA name=none) (h:Q (.ref f,[.ref x]) s) :
  wpAny (model prog w) A (getMethod (.ref x) name pl) Q E s:=by
 obtain⟨od,J,hl⟩:=I.look
 exact PySem.W.method_fn X J (PySem.W.plainGet_of hg).1 (PySem.W.plainGet_of hg).2 hf (beq_iff_eq.mp ht) (by show (PySem.W.lookIn name od).map (·.isSome)=some false;rw[hl,hv];rfl) h
theorem set_map{ns:List Str}{Q:Unit→Shared→Prop}(X:K.In s.heap)(I:ObjM s.heap x dx C mA)
  (hs:PySem.W.findIn K (.ref C) "__setattr__" = some (some (.builtin "object.__setattr__"))) (hp:PySem.W.plainOver K C=true) (ht:PySem.W.takerIn K C name=some none) (hh:PySem.W.hasDictIn K C=true)
  (hw:PySem.Within mA ns) (hsz:ns.length≤sizeLine)
  (h:∀ h',ObjM h' x dx C (fun y=>if y=name then some v else mA y)→Heap.SameBut dx s.heap h'→Q () { s with heap:=h',toks:=s.toks+2 }) :
  wpAny (model prog w) A (setAttr (.ref x) name v) Q E s:=by
 obtain⟨od,J,hl⟩:=I.look
 refine PySem.W.set_plain X J hs (PySem.W.osa_open (s:={ s with toks:=s.toks+1 }) (r:=none) X J hp ht fun b=>?_)
 obtain⟨cd,hc,hd'⟩:=PySem.W.any_some hh
 have hx:s.heap.get? x=some ⟨.ref C,some dx,.plain,#[]⟩:=I.obj
 refine wpAny_bind (wpAny_pure (wpAny_bind (wpAny_bind (wpAny_loadPart hx (wpAny_bind (PySem.W.Looks.here (s:={ s with toks:=s.toks+1 }) (PySem.W.looks_clsIn X hc) ?_))))))
 rw[hd']
 refine wpAny_pure (a:=some dx) (wpAny_bind (wpAny_pure (wpAny_bind ?_)))
 refine wpAny_nsSet1 (s:={ s with toks:=s.toks+1 }) I.ns fun h' hn2 hs2=>?_
 obtain⟨oD,esD,epD,hoD,hdD,hcD⟩:=hn2.count (PySem.Within.cons name v hw)
 refine wpAny_bind (wpAny_lookBehind hoD (by rw[hdD];exact pastItsLine_dict (Nat.le_trans hcD (by rw[List.length_cons];omega))) ?_)
 exact wpAny_pure (h _ ⟨(hs2.2 _ (Ne.symm I.ne)).trans I.obj,hn2,I.ne⟩ hs2)
theorem make_map{R:Result→Shared→Prop}{vs:List Value}{kw:List (Str×Value)}(X:K.In s.heap)(hm:PySem.W.makesIn K C=true)
  (hi:PySem.W.findIn K (.ref C) "__init__" = some (some (.ref f))) (hf:PySem.W.typeIn K (.ref f)=some (.type "function"))
  (h:codeAny (model prog w) (A.under (.builtin "type.__call__" ⟨.ref C::vs,kw⟩)) (.call (.ref f) ⟨.ref (s.heap.objs.size+1)::vs,kw⟩) (PySem.W.InitBack (s.heap.objs.size+1) R)
   { s with heap:=(s.heap.push PySem.W.emptyDict).push (PySem.W.instObj C s.heap.objs.size) }) :
  codeAny (model prog w) A (.call (.ref C) ⟨vs,kw⟩) R s:=by
 obtain⟨hh,g,d,t,os⟩:=s
 exact PySem.W.make_core (PySem.W.makes_of X hm) (PySem.W.looks_findIn X hi) (fun self=>PySem.W.bind_fn X self hf) (.inl rfl) h
end
def putF(f:Str)(v:V):List (Str×V)→List (Str×V)
 | []=>[(f,v)]
 | (g,x)::r=>if g=f then (g,v)::r else (g,x)::putF f v r
theorem lookup_putF(f g:Str)(v:V):∀ fs:List (Str×V),(putF f v fs).lookup g=if g=f then some v else fs.lookup g
 | []=>by
  show List.lookup g [(f,v)]=_
  by_cases h:g=f
  ·have hb:(g == f)=true:=beq_iff_eq.mpr h
   simp only[List.lookup,hb,if_pos h]
  ·have hb:(g == f)=false:=beq_eq_false_iff_ne.mpr h
   simp only[List.lookup,hb,if_neg h]
 | (k,x)::r=>by
  have ih:=lookup_putF f g v r
  rw[show putF f v ((k,x)::r)=(if k=f then (k,v)::r else (k,x)::putF f v r) from rfl]
  by_cases hk:k=f
  ·rw[if_pos hk]
   by_cases h:g=k
   ·have hb:(g == k)=true:=beq_iff_eq.mpr h
    simp only[List.lookup,hb,if_pos (h.trans hk)]
   ·have hb:(g == k)=false:=beq_eq_false_iff_ne.mpr h
    simp only[List.lookup,hb,if_neg (fun e:g=f=>h (e.trans hk.symm))]
  ·rw[if_neg hk]
   by_cases h:g=k
   ·have hb:(g == k)=true:=beq_iff_eq.mpr h
    simp only[List.lookup,hb,if_neg (fun e:g=f=>hk (h.symm.trans e))]
   ·have hb:(g == k)=false:=beq_eq_false_iff_ne.mpr h
    simp only[List.lookup,hb]
    exact ih
theorem keys_putF(f:Str)(v:V):∀ fs:List (Str×V),f∈(putF f v fs).map (·.1)∧∀ g,g∈fs.map (·.1)→g∈(putF f v fs).map (·.1)
 | []=>⟨by simp[putF],fun g h=>by simp at h⟩
 | (k,x)::r=>by
  obtain⟨i1,i2⟩:=keys_putF f v r
  rw[show putF f v ((k,x)::r)=(if k=f then (k,v)::r else (k,x)::putF f v r) from rfl]
  by_cases hk:k=f
  ·rw[if_pos hk]
   subst hk
   exact⟨by simp,fun g h=>by simpa using h⟩
  ·rw[if_neg hk]
   refine⟨?_,fun g h=>?_⟩
   ·rw[List.map_cons]
    exact List.mem_cons_of_mem _ i1
   ·rw[List.map_cons] at h ⊢
    rcases List.mem_cons.mp h with e | e
    ·exact List.mem_cons.mpr (.inl e)
    ·exact List.mem_cons_of_mem _ (i2 g e)
theorem length_putF(f:Str)(v:V):∀ fs:List (Str×V),(putF f v fs).length≤fs.length+1
 | []=>by simp[putF]
 | (k,x)::r=>by
  have ih:=length_putF f v r
  rw[show putF f v ((k,x)::r)=(if k=f then (k,v)::r else (k,x)::putF f v r) from rfl]
  by_cases hk:k=f
  ·rw[if_pos hk,List.length_cons,List.length_cons];omega
  ·rw[if_neg hk,List.length_cons,List.length_cons];omega
theorem RelO.some_of{v:V}{o:Option Value}(r:RelO (some v) o):∃ u,o=some u∧RelV v u:=by
 cases o with
 | none=>exact (show False from r).elim
 | some u=>exact⟨u,rfl,r⟩
theorem RelO.none_of{o:Option Value}(r:RelO none o):o=none:=by
 cases o with
 | none=>rfl
 | some u=>exact (show False from r).elim
theorem handed_of{v:V}{u:Value}(r:RelV v u):PySem.W.handedIn u=true:=by
 cases v with
 | non=>cases (show u=Value.none from r);rfl
 | bl b=>cases (show u=Value.bool b from r);rfl
 | int i=>obtain⟨t,e⟩:=(show ∃ t,u=Value.int i t from r);cases e;rfl
 | str x=>obtain⟨t,e⟩:=(show ∃ t,u=Value.str x t from r);cases e;rfl
 | byt b=>obtain⟨t,e⟩:=(show ∃ t,u=Value.bytes b t from r);cases e;rfl
 | flt b=>obtain⟨t,e⟩:=(show ∃ t,u=Value.float b t from r);cases e;rfl
 | ref a=>cases (show u=Value.ref a from r);rfl
 | ty n=>cases (show u=Value.type n from r);rfl
section
variable {P:Program}{w:World}{H H':Hp}{h h':Heap}{a C dx:Addr}{fs fs':List (Str×V)}
theorem ins_get(hok:HOk P w H h)(e:H a=some (.ins C dx fs)):∃ mA,ObjM h a dx C mA∧(∀ f,RelO (fs.lookup f) (mA f))∧PySem.Within mA (fs.map (·.1))∧fs.length≤1000∧H dx=some (.own a):=by
 obtain⟨d,z,ne,ob,mA,n,r,q⟩:=(show ObjOk P w H h a (.ins C dx fs) from hok a _ e)
 exact⟨mA,⟨ob,n,ne⟩,r,q,z,d⟩
end
structure Cls(K:PySem.W.Frag)(C:Addr):Prop where
 pg:PySem.W.plainGet K C Str.empty=true
 hd:PySem.W.hasDictIn K C=true
 po:PySem.W.plainOver K C=true
 sa:PySem.W.findIn K (.ref C) "__setattr__" = some (some (.builtin "object.__setattr__"))
theorem Cls.get{K:PySem.W.Frag}{C:Addr}(c:Cls K C)(f:Str):PySem.W.plainGet K C f=true:=c.pg
def NoAttr(K:PySem.W.Frag)(C:Addr)(f:Str):Prop:=PySem.W.findIn K (.ref C) f=some none
theorem NoAttr.taker{K:PySem.W.Frag}{C:Addr}{f:Str}(n:NoAttr K C f):PySem.W.takerIn K C f=some none:=by
 unfold PySem.W.takerIn
 rw[show PySem.W.findIn K (.ref C) f=some none from n]
 rfl
structure Con(K:PySem.W.Frag)(C:Addr)(f:Str)(v:V)(u:Value):Prop where
 at_:PySem.W.findIn K (.ref C) f=some (some u)
 rel:RelV v u
 get:PySem.W.specialIn K u "__get__" = some none
 cp:PySem.W.copiedNames.contains f=false
structure Meth(K:PySem.W.Frag)(C:Addr)(m:Str)(f:Addr):Prop where
 at_:PySem.W.findIn K (.ref C) m=some (some (.ref f))
 fn:PySem.W.isFn K (.ref f)=true
 kp:PySem.W.keepIn K (.ref f)=true
section
variable {X:Cx}{pins:List (Addr×Obj)}{σ:St}{H:Hp}{s:Shared}{a C dx:Addr}{fs:List (Str×V)}{f:Str}{v:V}{A:Around}{E:Value→Shared→Prop}
theorem getattr_ok{b:Bool}{Q:Value→Shared→Prop}(I:Inv X pins σ H s)(e:H a=some (.ins C dx fs))(c:Cls X.K C)(n:NoAttr X.K C f)(l:fs.lookup f=some v)
  (h:∀ u s',Inv X pins σ H s'→RelV v u→Q u s'):wpAny (model X.prog X.w) A (getAttr (.ref a) f b) Q E s:=by
 obtain⟨mA,O,r,_,_,_⟩:=ins_get I.hok e
 obtain⟨u,hu,ru⟩:=RelO.some_of (v:=v) (o:=mA f) (by rw[← l];exact r f)
 exact get_map I.kIn O (c.get f) c.hd n hu (handed_of ru) (h u _ (I.tok _) ru)
theorem getmeth_ok{m:Str}{g:Addr}{pl:Sem Bool}{Q:Value×List Value→Shared→Prop}(I:Inv X pins σ H s)(e:H a=some (.ins C dx fs))(c:Cls X.K C)(k:Meth X.K C m g)(l:fs.lookup m=none)
  (h:Q (.ref g,[.ref a]) s):wpAny (model X.prog X.w) A (getMethod (.ref a) m pl) Q E s:=by
 obtain⟨mA,O,r,_,_,_⟩:=ins_get I.hok e
 have hn:mA m=none:=RelO.none_of (by rw[← l];exact r m)
 exact get_meth I.kIn O (c.get m) k.at_ k.fn hn h
theorem setattr_ok{y:V}{u:Value}{Q:Unit→Shared→Prop}(I:Inv X pins σ H s)(e:H a=some (.ins C dx fs))(c:Cls X.K C)(n:NoAttr X.K C f)(hl:fs.length < 1000)(ry:RelV y u)
  (h:∀ s',Inv X pins σ (upd H a (.ins C dx (putF f y fs))) s'→Q () s'):wpAny (model X.prog X.w) A (setAttr (.ref a) f u) Q E s:=by
 obtain⟨mA,O,r,wi,_,ho⟩:=ins_get I.hok e
 have hz:(fs.map (·.1)).length≤sizeLine:=by rw[List.length_map,sizeLine_eq];omega
 refine set_map I.kIn O c.sa c.po n.taker c.hd wi hz fun h' O' sb=>h _ ?_
 have hd:∃ o,h'.get? dx=some o:=let ⟨o,_,_,e',_⟩:=O'.ns;⟨o,e'⟩
 refine I.write (x:=a) (e:=dx) (by rw[e];exact True.intro) (.inr ho) (fun b q hb z=>(sb.2 b hb).trans z) hd ?_
 refine⟨by rw[upd_ne O.ne];exact ho,?_,O.ne,O'.obj,_,O'.ns,fun g=>?_,fun g hg=>?_⟩
 ·have:=length_putF f y fs;omega
 ·show RelO ((putF f y fs).lookup g) (if g=f then some u else mA g)
  rw[lookup_putF]
  by_cases q:g=f
  ·rw[if_pos q,if_pos q];exact ry
  ·rw[if_neg q,if_neg q];exact r g
 ·by_cases q:g=f
  ·rw[q];exact (keys_putF f y fs).1
  ·refine (keys_putF f y fs).2 g (wi g fun z=>hg ?_)
   show (if g=f then some u else mA g)=none
   rw[if_neg q];exact z
theorem Inv.made(I:Inv X pins σ H s):Inv X pins σ (upd (upd H s.heap.objs.size (.own (s.heap.objs.size+1))) (s.heap.objs.size+1) (.ins C s.heap.objs.size []))
  { s with heap:=(s.heap.push PySem.W.emptyDict).push (PySem.W.instObj C s.heap.objs.size) }:=by
 have e1:(s.heap.push PySem.W.emptyDict).get? s.heap.objs.size=some PySem.W.emptyDict:=Heap.get?_push_size s.heap rfl
 have e2:((s.heap.push PySem.W.emptyDict).push (PySem.W.instObj C s.heap.objs.size)).get? (s.heap.objs.size+1)=some (PySem.W.instObj C s.heap.objs.size):=by
  have:=Heap.get?_push_size (s.heap.push PySem.W.emptyDict) (o:=PySem.W.instObj C s.heap.objs.size) rfl
  rwa [Heap.size_push] at this
 have e3:(s.heap.push PySem.W.emptyDict).Ns s.heap.objs.size (fun _=>none):=⟨PySem.W.emptyDict,#[],_,e1,rfl,(fun e he=>absurd he (by simp)),fun _=>rfl⟩
 have I1:=I.laid (a:=s.heap.objs.size) (o:=.own (s.heap.objs.size+1)) (h':=s.heap.push PySem.W.emptyDict) (t':=s.toks) (fun b u q=>Heap.get?_push_of_some _ q) (Nat.le_refl _) ⟨_,e1⟩
 refine I1.laid (a:=s.heap.objs.size+1) (o:=.ins C s.heap.objs.size []) (t':=s.toks) (fun b u q=>Heap.get?_push_of_some _ q) (Nat.le_of_eq (Heap.size_push _ _)) ?_
 have ne:s.heap.objs.size≠s.heap.objs.size+1:=Nat.ne_of_lt (Nat.lt_succ_self _)
 refine⟨by rw[upd_ne ne,upd_same],Nat.zero_le _,ne,e2,fun _=>none,(Heap.Ns1.of_empty e3).at fun o q=>Heap.get?_push_of_some _ q,fun _=>True.intro,fun y hy=>absurd rfl hy⟩
theorem attr_of{prog:Program}{w:World}{env:Env}{e:Expr}{f:Str}{pos:Pos}{s:Shared}{Q:Value→Shared→Prop}(hb:attributeBase e f env (eval e env)=eval e env)
  (h:wpAny (model prog w) A (eval e env) (fun o s₁=>wpAny (model prog w) A (getAttr o f true) Q E s₁) E s):wpAny (model prog w) A (eval (.Attribute e f pos) env) Q E s :=
 Attribute_any_ h (by rw[arm_eval_Attribute,hb])
end
def tFld(K:PySem.W.Frag)(ta:TE)(f:Str):TE:=fun σ H Q=>ta σ H fun x H1=>∃ a C dx fs v,x=.ref a∧H1 a=some (.ins C dx fs)∧Cls K C∧NoAttr K C f∧fs.lookup f=some v∧Q v H1
def sFld(K:PySem.W.Frag)(ta tv:TE)(f:Str):TS:=fun D σ H=>tv σ H fun y H1=>ta σ H1 fun x H2=>∃ a C dx fs,x=.ref a∧H2 a=some (.ins C dx fs)∧Cls K C∧NoAttr K C f∧fs.length < 1000 ∧
 D.nx σ (upd H2 a (.ins C dx (putF f y fs)))
def InOp(X:Cx)(op:Operator)(rd:V→V→Hp→VK→Prop):Prop :=
 ∀ (pins:List (Addr×Obj)) (s:Shared) (σ:St) (H:Hp) (x y:V) (u v:Value) (Q:VK),Inv X pins σ H s→RelV x u→RelV y v→rd x y H Q→wpAny (model X.prog X.w) X.A (inplaceOp op u v) (EP X pins σ Q) X.xe s
def sFldAug(K:PySem.W.Frag)(ta tv:TE)(rd:V→V→Hp→VK→Prop)(f:Str):TS:=fun D σ H=>ta σ H fun x H1=>∃ a C dx fs v,x=.ref a∧H1 a=some (.ins C dx fs)∧Cls K C∧NoAttr K C f∧fs.lookup f=some v ∧
 tv σ H1 fun y H2=>rd v y H2 fun z H3=>∃ dx' fs',H3 a=some (.ins C dx' fs')∧fs'.length < 1000∧D.nx σ (upd H3 a (.ins C dx' (putF f z fs')))
section
variable {X:Cx}{o e value:Expr}{f:Str}{pos pos' tpos:Pos}{ta tv:TE}
theorem pe_fld(he:PE X e ta)(hb:attributeBase e f X.env (eval e X.env)=eval e X.env):PE X (.Attribute e f pos) (tFld X.K ta f):=by
 intro pins s σ H Q I h
 refine attr_of hb (thn (he pins s σ H _ I h) fun u s1 ⟨x,H1,I1,rx,a,C,dx,fs,v,ex,ea,c,n,l,q⟩=>?_)
 subst ex
 obtain rfl:u=Value.ref a:=rx
 exact getattr_ok I1 ea c n l fun u' s2 I2 ru=>⟨v,H1,I2,ru,q⟩
theorem ps_fld(ha:PE X o ta)(hv:PE X value tv)(hs:swapsWith value (some (.Attribute o f pos')) pos.line X.env=pure false):PS X (.Assign [.Attribute o f pos'] value pos) (sFld X.K ta tv f):=by
 intro pins s σ H D I h
 refine plainObj_wpAny_Assign_Attribute (thn (hv pins s σ H _ I h) fun u s1 ⟨y,H1,I1,ry,q⟩=>thn (ha pins s1 σ H1 _ I1 q) fun ov s2 ⟨x,H2,I2,rx,a,C,dx,fs,ex,ea,c,n,l,q2⟩=>?_) hs
 subst ex
 obtain rfl:ov=Value.ref a:=rx
 exact setattr_ok I2 ea c n l ry fun s3 I3=>⟨σ,_,I3,q2⟩
theorem ps_fldaug{op:Operator}{rd:V→V→Hp→VK→Prop}(ha:PE X o ta)(hv:PE X value tv)(hop:InOp X op rd):PS X (.AugAssign (.Attribute o f tpos) op value pos) (sFldAug X.K ta tv rd f):=by
 intro pins s σ H D I h
 refine wpAny_AugAssign_AttributeAny (thn (ha pins s σ H _ I h) fun ov s1 ⟨x,H1,I1,rx,a,C,dx,fs,v,ex,ea,c,n,l,q⟩=>?_)
 subst ex
 obtain rfl:ov=Value.ref a:=rx
 refine getattr_ok I1 ea c n l fun u s2 I2 ru=>thn (hv pins s2 σ H1 _ I2 q) fun w3 s3 ⟨y,H2,I3,ry,q3⟩=>thn (hop pins s3 σ H2 v y u w3 _ I3 ru ry q3) fun w4 s4 ⟨z,H3,I4,rz,dx',fs',ea',l',q4⟩=>?_
 exact setattr_ok I4 ea' c n l' rz fun s5 I5=>⟨σ,_,I5,q4⟩
def rAdd:V→V→Hp→VK→Prop:=fun x y H Q=>∃ i j,x=.int i∧y=.int j∧Q (.int (i+j)) H
theorem in_add:InOp X .Add rAdd:=by
 rintro pins s σ H x y u v Q I rx ry ⟨i,j,rfl,rfl,q⟩
 obtain⟨t,rfl⟩:=(show ∃ t,u=Value.int i t from rx)
 obtain⟨t',rfl⟩:=(show ∃ t',v=Value.int j t' from ry)
 exact PyProof.Rows.iadd_int ⟨.int (i+j),H,I.tok _,⟨_,rfl⟩,q⟩
end
section
variable {X:Cx}{pins:List (Addr×Obj)}{σ:St}{H:Hp}{s:Shared}{A:Around}{E:Value→Shared→Prop}{Q:Value→Shared→Prop}{c:Value}{b:Bool}
inductive TyOf (K:PySem.W.Frag) (H:Hp):V→Value→Prop where
 | non:TyOf K H .non (.type "NoneType")
 | bl (x:Bool):TyOf K H (.bl x) (.type "bool")
 | int (i:Int):TyOf K H (.int i) (.type "int")
 | str (x:Str):TyOf K H (.str x) (.type "str")
 | flt (x:UInt64):TyOf K H (.flt x) (.type "float")
 | lst {a:Addr} {xs:List V} (e:H a=some (.lst xs)):TyOf K H (.ref a) (.type "list")
 | frz {a:Addr} {o:Obj} {xs:List V} (e:H a=some (.frz o (.lst xs))):TyOf K H (.ref a) (.type "list")
 | tup {a:Addr} {xs:List V} (e:H a=some (.tup xs)):TyOf K H (.ref a) (.type "tuple")
 | dK {a:Addr} {kvs:List (Key×V)} (e:H a=some (.dK kvs)):TyOf K H (.ref a) (.type "dict")
 | dT {a:Addr} {kvs:List (List Key×V)} (e:H a=some (.dT kvs)):TyOf K H (.ref a) (.type "dict")
 | ins {a C dx:Addr} {fs:List (Str×V)} (e:H a=some (.ins C dx fs)) (cl:Cls K C) (ha:PySem.W.findIn K (.ref C) "__class__" = some (some (.builtin "object.__class__")))
   (hn:PySem.W.specialIn K (.builtin "object.__class__") "__get__" = some (some (.builtin "getset_descriptor.__get__"))) (htk:PySem.W.takesIn K (.builtin "object.__class__")=some true)
   (hm:PySem.W.mroIn K C (.type "object")=some true):TyOf K H (.ref a) (.ref C)
theorem isinst_ok{x:V}{u t:Value}(I:Inv X pins σ H s)(rx:RelV x u)(ty:TyOf X.K H x t)(e:PySem.W.kitOne X.K t c=some b)(h:∀ tk,Q (.bool b) { s with toks:=tk }) :
  wpAny (model X.prog X.w) A (call (.builtin "isinstance") [u,c]) Q E s:=by
 cases ty with
 | non=>cases (show u=Value.none from rx);exact PySem.W.kia_one PySem.W.kitx_none I.kIn True.intro e (fun z=>nomatch z) h
 | bl y=>cases (show u=Value.bool y from rx);exact PySem.W.kia_one PySem.W.kitx_bool I.kIn True.intro e (fun z=>nomatch z) h
 | int i=>obtain⟨t,q⟩:=(show ∃ t,u=Value.int i t from rx);cases q;exact PySem.W.kia_one PySem.W.kitx_int I.kIn True.intro e (fun z=>nomatch z) h
 | str y=>obtain⟨t,q⟩:=(show ∃ t,u=Value.str y t from rx);cases q;exact PySem.W.kia_one PySem.W.kitx_str I.kIn True.intro e (fun z=>nomatch z) h
 | flt y=>obtain⟨t,q⟩:=(show ∃ t,u=Value.float y t from rx);cases q;exact PySem.W.kia_one PySem.W.kitx_float I.kIn True.intro e (fun z=>nomatch z) h
 | @lst a xs ea =>
  cases (show u=Value.ref a from rx)
  obtain⟨_,_,n,_,h1⟩:=(show ObjOk X.prog X.w H s.heap a (.lst xs) from I.hok a _ ea)
  exact PySem.W.kia_one PySem.W.kitx_list I.kIn ⟨_,h1,rfl⟩ e (fun z=>nomatch z) h
 | @frz a ob xs ea =>
  cases (show u=Value.ref a from rx)
  obtain⟨_,_,_,n,_,h1⟩:=(show ObjOk X.prog X.w H s.heap a (.frz ob (.lst xs)) from I.hok a _ ea)
  exact PySem.W.kia_one PySem.W.kitx_list I.kIn ⟨_,h1,rfl⟩ e (fun z=>nomatch z) h
 | @tup a xs ea =>
  cases (show u=Value.ref a from rx)
  obtain⟨_,_,_,p⟩:=(show ObjOk X.prog X.w H s.heap a (.tup xs) from I.hok a _ ea)
  obtain⟨o,h1,h2,_⟩:=p
  exact PySem.W.kia_one PySem.W.kitx_tuple I.kIn ⟨o,h1,h2⟩ e (fun z=>nomatch z) h
 | @dK a kvs ea =>
  cases (show u=Value.ref a from rx)
  obtain⟨_,_,vs,_,p⟩:=(show ObjOk X.prog X.w H s.heap a (.dK kvs) from I.hok a _ ea)
  obtain⟨o,es,ep,h1,h2,_⟩:=p
  exact PySem.W.kia_one PySem.W.kitx_dict I.kIn ⟨o,h1,h2.1⟩ e (fun z=>nomatch z) h
 | @dT a kvs ea =>
  cases (show u=Value.ref a from rx)
  obtain⟨_,_,xs,_,o,es,ep,h1,h2,_⟩:=(show ObjOk X.prog X.w H s.heap a (.dT kvs) from I.hok a _ ea)
  exact PySem.W.kia_one PySem.W.kitx_dict I.kIn ⟨o,h1,h2.1⟩ e (fun z=>nomatch z) h
 | @ins a C dx fs ea cl ha hn htk hm =>
  cases (show u=Value.ref a from rx)
  obtain⟨mA,O,_⟩:=ins_get I.hok ea
  obtain⟨od,J,_⟩:=O.look
  exact PySem.W.kia_one (PySem.W.kitx_own (cl.get _) cl.hd ha hn htk hm) I.kIn J e (fun z=>nomatch z) h
end
end L2
namespace L2
open PySem PySem.Spec PyProof.Rows
structure Room(k:Nat)(A:Around):Prop where
 hd:A.handled=none
 dp:A.depth+3*k+5 < recursionLimit
 un:A.units+16*k+200 < cLine
theorem Room.mono{j k:Nat}{A:Around}(r:Room k A)(h:j≤k):Room j A:=⟨r.hd,by have:=r.dp;omega,by have:=r.un;omega⟩
theorem Room.deeper{k:Nat}{A:Around}(r:Room (k+1) A)(env:Env):Room k (A.deeper env) :=
 ⟨r.hd,by have:=r.dp;show A.depth+1+3*k+5 < _;omega,by have:=r.un;show A.units+3+16*k+200 < _;omega⟩
theorem Room.in1{k:Nat}{A:Around}(r:Room (k+1) A):Room k A.in1 :=
 ⟨r.hd,by have:=r.dp;show A.depth+3*k+5 < _;omega,by have:=r.un;show A.units+1+16*k+200 < _;omega⟩
theorem make_depth{A:Around}{C:Addr}{us:List Value}{kw:List (Str×Value)}:(A.under (.builtin "type.__call__" ⟨.ref C::us,kw⟩)).depth=A.depth+1:=by
 first | rfl | simp[Around.under,Code.weight,Code.isCreation,Code.isGuard,Code.isCaller,Code.frames,Code.isFrame,guardIds]
theorem make_units{A:Around}{C:Addr}{us:List Value}{kw:List (Str×Value)}:(A.under (.builtin "type.__call__" ⟨.ref C::us,kw⟩)).units=A.units+1:=by
 first | rfl | simp[Around.under,Code.cUnits,Code.frames,Code.isFrame]
theorem Room.make{k:Nat}{A:Around}(r:Room (k+1) A)(C:Addr)(us:List Value)(kw:List (Str×Value)):Room k (A.under (.builtin "type.__call__" ⟨.ref C::us,kw⟩)) :=
 ⟨r.hd,by have:=r.dp;rw[make_depth];omega,by have:=r.un;rw[make_units];omega⟩
theorem Room.depth{k:Nat}{A:Around}(r:Room k A):A.depth < recursionLimit:=by have:=r.dp;omega
theorem Room.units{k:Nat}{A:Around}(r:Room k A):A.units+64 < cLine:=by have:=r.un;omega
def tNil:TA:=fun _ H Q=>Q [] H
def tCons(ta:TE)(tr:TA):TA:=fun σ H Q=>ta σ H fun x H1=>tr σ H1 fun xs H2=>Q (x::xs) H2
section
variable {X:Cx}{e:Expr}{es:List Expr}{te:TE}{t:TA}{pos:Pos}
theorem pa_nil:PA X [] tNil:=fun _ _ _ _ H Q I h=>Calls.spliced_nil ⟨[],H,I,.nil,h⟩
theorem pa_cons(ha:PE X e te)(hr:PA X es t)(hs:starEach (e::es) X.env=(false,eval e X.env)::starEach es X.env:=by rfl):PA X (e::es) (tCons te t):=by
 intro pos pins s σ H Q I h
 rw[hs]
 show wpAny _ _ (spliced ((false,eval e X.env)::backTo pos (starEach es X.env))) _ _ s
 refine Calls.spliced_cons (thn (ha pins s σ H _ I h) fun u s1 ⟨x,H1,I1,r1,q1⟩=>?_)
 exact thn (hr pos pins s1 σ H1 _ I1 q1) fun us s2 ⟨xs,H2,I2,r2,q2⟩=>⟨x::xs,H2,I2,.cons r1 r2,q2⟩
def tTup(t:TA):TE:=fun σ H Q=>t σ H fun xs H1=>xs.length≤sizeLine∧∀ p,H1 p=none→Q (.ref p) (upd H1 p (.tup xs))
def tLst(t:TA):TE:=fun σ H Q=>t σ H fun xs H1=>xs.length≤sizeLine∧∀ p,H1 p=none→Q (.ref p) (upd H1 p (.lst xs))
theorem pe_tup{x1}(h:PA X es t):PE X (.Tuple es x1 pos) (tTup t):=by
 intro pins s σ H Q I hq
 refine wpAny_Tuple_spliced (thn (h pos pins s σ H _ I hq) fun us s1 ⟨xs,H1,I1,r,z,q⟩=>⟨by rw[← r.length];exact z,?_⟩)
 have hf:H1 s1.heap.objs.size=none:=I1.hok.fresh (Nat.le_refl _)
 refine⟨.ref s1.heap.objs.size,upd H1 s1.heap.objs.size (.tup xs),I1.laid (t':=s1.toks) (fun b u e=>Heap.get?_push_of_some _ e) (Nat.le_refl _) ?_,rfl,q _ hf⟩
 exact⟨z,us,r,⟨_,Heap.get?_push_size _ rfl,rfl,_,rfl⟩⟩
theorem pe_lst(h:PA X es t):PE X (.List es pos) (tLst t):=by
 intro pins s σ H Q I hq
 refine wpAny_List_spliced (thn (h pos pins s σ H _ I hq) fun us s1 ⟨xs,H1,I1,r,z,q⟩=>⟨by rw[← r.length];exact z,?_⟩)
 have hf:H1 s1.heap.objs.size=none:=I1.hok.fresh (Nat.le_refl _)
 refine⟨.ref s1.heap.objs.size,upd H1 s1.heap.objs.size (.lst xs),I1.laid (t':=s1.toks) (fun b u e=>Heap.get?_push_of_some _ e) (Nat.le_refl _) ?_,rfl,q _ hf⟩
 exact⟨z,us,0,r,Heap.get?_push_size _ rfl⟩
end
abbrev Sp:=List V→Hp→VK→XK→Prop
abbrev CXT:=List Env→Hp→Shared→XK→Value→Shared→Prop
structure Env0(P:Program)(w:World)(K:PySem.W.Frag)(mg:Str→Option Value)(base:Heap)(A:Around)(outer:List Env)(s:Shared)(H:Hp):Prop where
 frames:A.frames=some outer
 mod:Mod K mg base
 bs:∀ b o,base.get? b=some o→s.heap.get? b=some o∧H b=none
 bsz:base.objs.size≤s.heap.objs.size
 funs:s.heap.FunFrames base outer
 frf:∀ b∈frs outer,H b=none
 hok:HOk P w H s.heap
 bare:AllBare s.gens
def CE(outer:List Env)(P:Program)(w:World)(H:Hp)(s:Shared)(Q:VK)(u:Value)(s':Shared):Prop :=
 ∃ v H',s'.os=s.os∧AllBare s'.gens∧Un (frs outer) [] H H' s.heap s'.heap∧HOk P w H' s'.heap∧RelV v u∧Q v H'
def CR(CX:CXT)(outer:List Env)(P:Program)(w:World)(H:Hp)(s:Shared)(Q:VK)(E:XK)(r:Result)(s':Shared):Prop :=
 match r with
 | .ok (.ret u)=>CE outer P w H s Q u s'
 | .ok _=>False
 | .error e=>CX outer H s E e s'
structure FnOk(P:Program)(w:World)(K:PySem.W.Frag)(mg:Str→Option Value)(base:Heap)(CX:CXT)(k:Nat)(f:Addr)(fd:FuncData)(ps:List Str)(sp:Sp):Prop where
 len:∀ vs H Q E,sp vs H Q E→vs.length=ps.length
 run:∀(A:Around)(outer:List Env)(s:Shared)(H:Hp)(args:Args)(us:List Value)(vs:List V)(Q:VK)(E:XK),Room k A→Env0 P w K mg base A outer s H→BindsTo s fd args (ps.zip us)→Vals vs us→sp vs H Q E →
  codeAny (model P w) A (.call (.ref f) args) (CR CX outer P w H s Q E) s
theorem FnOk.mono{P:Program}{w:World}{K:PySem.W.Frag}{mg:Str→Option Value}{base:Heap}{CX:CXT}{j k:Nat}{f:Addr}{fd:FuncData}{ps:List Str}{sp:Sp}(F:FnOk P w K mg base CX j f fd ps sp)(h:j≤k) :
  FnOk P w K mg base CX k f fd ps sp:=⟨F.len,fun A outer s H args us vs Q E hr=>F.run A outer s H args us vs Q E (hr.mono h)⟩
theorem FnOk.imp{P:Program}{w:World}{K:PySem.W.Frag}{mg:Str→Option Value}{base:Heap}{CX:CXT}{k:Nat}{f:Addr}{fd:FuncData}{ps:List Str}{sp sp':Sp}(F:FnOk P w K mg base CX k f fd ps sp)
  (h:∀ vs H Q E,sp' vs H Q E→sp vs H Q E):FnOk P w K mg base CX k f fd ps sp' :=
 ⟨fun vs H Q E q=>F.len vs H Q E (h _ _ _ _ q),fun A outer s H args us vs Q E hr he hb hv hs=>F.run A outer s H args us vs Q E hr he hb hv (h _ _ _ _ hs)⟩
theorem Env0.make{P:Program}{w:World}{K:PySem.W.Frag}{mg:Str→Option Value}{base:Heap}{A:Around}{outer:List Env}{s:Shared}{H:Hp}(e:Env0 P w K mg base A outer s H)(C:Addr)(us:List Value)(kw:List (Str×Value)) :
  Env0 P w K mg base (A.under (.builtin "type.__call__" ⟨.ref C::us,kw⟩)) outer s H:=⟨by first | exact e.frames | (simpa [Around.under,Code.envs,Code.isFrame,pushEnvs] using e.frames),e.mod,e.bs,e.bsz,e.funs,e.frf,e.hok,e.bare⟩
theorem Env0.in1{P:Program}{w:World}{K:PySem.W.Frag}{mg:Str→Option Value}{base:Heap}{A:Around}{outer:List Env}{s:Shared}{H:Hp}(e:Env0 P w K mg base A outer s H) :
  Env0 P w K mg base A.in1 outer s H:=⟨e.frames,e.mod,e.bs,e.bsz,e.funs,e.frf,e.hok,e.bare⟩
section
variable {X:Cx}{pins:List (Addr×Obj)}{σ:St}{H:Hp}{s s':Shared}
theorem Inv.env0(I:Inv X pins σ H s):Env0 X.prog X.w X.K X.mg X.base X.A X.stack s H :=
 ⟨I.ok.frames,I.ok.mod,I.bs,Nat.le_trans I.ok.bsz I.sz,I.stack,I.stkFree,I.hok,I.bare⟩
theorem Inv.after{Q:VK}{u:Value}(I:Inv X pins σ H s)(h:CE X.stack X.prog X.w H s Q u s'):EP X pins σ Q u s':=by
 obtain⟨v,H',os,bare,un,hok,r,q⟩:=h
 obtain⟨hh,g,d,t,os'⟩:=s'
 obtain rfl:os'=s.os:=os
 exact⟨v,H',I.call (h':=hh) (g':=g) (d':=d) (t':=t) (ch:=[]) un hok bare (fun b z=>absurd z (by simp)),r,q⟩
end
def tCall(sp:Sp)(dvs:List V)(E:XK)(t:TA):TE:=fun σ H Q=>t σ H fun vs H1=>sp (vs++dvs) H1 Q E
def tMeth(C:Addr)(m:Str)(sp:Sp)(dvs:List V)(E:XK)(ta:TE)(t:TA):TE:=fun σ H Q=>ta σ H fun x H1=>∃ a dx fs,x=.ref a∧H1 a=some (.ins C dx fs)∧fs.lookup m=none ∧
 t σ H1 fun vs H2=>sp (x::(vs++dvs)) H2 Q E
def tMake(C:Addr)(sp:Sp)(dvs:List V)(E:XK)(t:TA):TE:=fun σ H Q=>t σ H fun vs H1=>∀ x dx,H1 x=none→H1 dx=none→dx≠x →
 sp (.ref x::(vs++dvs)) (upd (upd H1 dx (.own x)) x (.ins C dx [])) (fun v H2=>v=.non∧Q (.ref x) H2) E
def Binds(K:PySem.W.Frag)(fd:FuncData)(ps:List Str)(ds:List Value):Prop :=
 ∀(s:Shared)(us:List Value),K.In s.heap→(us++ds).length=ps.length→BindsTo s fd ⟨us,[]⟩ (ps.zip (us++ds))
theorem Binds.all{K:PySem.W.Frag}{fd:FuncData}{ps:List Str}(h:∀ us:List Value,us.length=ps.length→bindArgs fd ⟨us,[]⟩=pure (ps.zip us)):Binds K fd ps []:=fun s us _ hl=>by
 rw[List.append_nil] at hl ⊢
 exact .of_eq (h us hl)
def Passes(CX:CXT)(X:Cx)(E:XK):Prop:=∀ (pins:List (Addr×Obj)) (σ:St) (H:Hp) (s:Shared) (e:Value) (s':Shared),Inv X pins σ H s→CX X.stack H s E e s'→X.xe e s'
section
variable {X:Cx}{CX:CXT}{k:Nat}{f C:Addr}{fd:FuncData}{ps:List Str}{sp:Sp}{dvs:List V}{ds:List Value}{E:XK}{x m:Str}{p pos apos:Pos}{e o:Expr}{es:List Expr}{ta:TE}{t:TA}
theorem run_fn{pins:List (Addr×Obj)}{σ:St}{H:Hp}{s:Shared}{Q:VK}{us:List Value}{vs:List V}(F:FnOk X.prog X.w X.K X.mg X.base CX k f fd ps sp)(hr:Room k X.A)(hb:Binds X.K fd ps ds)(hd:Vals dvs ds)(hx:Passes CX X E)
  (I:Inv X pins σ H s) (r:Vals vs us) (h:sp (vs++dvs) H Q E):wpAny (model X.prog X.w) X.A (call (.ref f) us) (EP X pins σ Q) X.xe s:=by
 have r2:Vals (vs++dvs) (us++ds):=r.append hd
 have hl:(us++ds).length=ps.length:=by rw[← r2.length];exact F.len _ _ _ _ h
 refine wpAny_call (codeAny_mono (F.run X.A X.stack s H ⟨us,[]⟩ (us++ds) (vs++dvs) Q E hr I.env0 (hb s us I.kIn hl) r2 h) fun r s' hq=>?_)
 cases r with
 | error e=>exact hx pins σ H s e s' I hq
 | ok fl =>
  cases fl with
  | ret u=>exact I.after hq
  | next=>exact False.elim hq
  | brk=>exact False.elim hq
  | cont=>exact False.elim hq
theorem pe_call(F:FnOk X.prog X.w X.K X.mg X.base CX k f fd ps sp)(hr:Room k X.A)(hg:Gl X x)(hm:X.mg x=some (.ref f))(hk:PySem.W.keepIn X.K (.ref f)=true)(hb:Binds X.K fd ps ds)(hd:Vals dvs ds)(hx:Passes CX X E)
  (ha:PA X (e::es) t) (hdb:(x == ("__debug__" : Str))=false:=by decide) (he:starEach (e::es) X.env=(false,eval e X.env)::starEach es X.env:=by rfl) (hpl:(backTo pos (starEach es X.env)).any (·.1)=false:=by rfl) :
  PE X (.Call (.Name x p) (e::es) [] pos) (tCall sp dvs E t):=by
 intro pins s σ H Q I h
 refine wpAny_Call_Name_kw (ld_glob I hg hm ?_ hdb)
 refine PySem.W.callWith_K (h₀:=X.base) I.ok.mod.kin hk (thn (ha pos pins s σ H _ I h) fun us s1 ⟨vs,H1,I1,r,q⟩=>⟨I1.kIn,?_⟩) he hpl
 exact run_fn F hr hb hd hx I1 r q
theorem pe_meth{pl:Sem Bool}(he:PE X o ta)(c:Cls X.K C)(hm:Meth X.K C m f)(F:FnOk X.prog X.w X.K X.mg X.base CX k f fd ps sp)(hr:Room k X.A)(hb:Binds X.K fd ps ds)(hd:Vals dvs ds)(hx:Passes CX X E)(ha:PA X (e::es) t)
  (hst:starEach (e::es) X.env=(false,eval e X.env)::starEach es X.env:=by rfl) (hpl:(backTo pos (starEach es X.env)).any (·.1)=false:=by rfl)
  (ht:eval (.Call (.Attribute o m apos) (e::es) [] pos) X.env=(do
   let ov ← eval o X.env
   standAt apos.atName
   let (f,first) ← holding [ov] (getMethod ov m pl)
   callWith pos f first (backTo pos (starEach (e::es) X.env)) (backToKw pos (keywordEach [] X.env))):=by rfl) :
  PE X (.Call (.Attribute o m apos) (e::es) [] pos) (tMeth C m sp dvs E ta t):=by
 intro pins s σ H Q I h
 refine PySem.W.methodCall_KW (pl:=pl) (thn (he pins s σ H _ I h) fun u s1 ⟨x,H1,I1,rx,a,dx,fs,ex,ea,l,q⟩=>?_) ht
 subst ex
 obtain rfl:u=Value.ref a:=rx
 refine getmeth_ok I1 ea c hm l ?_
 refine PySem.W.callWith_K (first:=[.ref a]) (h₀:=X.base) I.ok.mod.kin hm.kp (thn (ha pos pins s1 σ H1 _ I1 q) fun us s2 ⟨vs,H2,I2,r,q2⟩=>⟨I2.kIn,?_⟩) hst hpl
 exact run_fn (us:=.ref a::us) (vs:=.ref a::vs) F hr hb hd hx I2 (.cons rfl r) q2
theorem pe_meth0{pl:Sem Bool}(he:PE X o ta)(c:Cls X.K C)(hm:Meth X.K C m f)(F:FnOk X.prog X.w X.K X.mg X.base CX k f fd ps sp)(hr:Room k X.A)(hb:Binds X.K fd ps ds)(hd:Vals dvs ds)(hx:Passes CX X E)
  (ht:eval (.Call (.Attribute o m apos) [] [] pos) X.env=(do
   let ov ← eval o X.env
   standAt apos.atName
   let (f,first) ← holding [ov] (getMethod ov m pl)
   callWith pos f first (backTo pos (starEach [] X.env)) (backToKw pos (keywordEach [] X.env))):=by rfl) :
  PE X (.Call (.Attribute o m apos) [] [] pos) (tMeth C m sp dvs E ta tNil):=by
 intro pins s σ H Q I h
 refine PySem.W.methodCall_KW (pl:=pl) (thn (he pins s σ H _ I h) fun u s1 ⟨x,H1,I1,rx,a,dx,fs,ex,ea,l,q⟩=>?_) ht
 subst ex
 obtain rfl:u=Value.ref a:=rx
 refine getmeth_ok I1 ea c hm l ?_
 exact PySem.W.callWith_K0 (first:=[.ref a]) I1.kIn hm.kp (run_fn (us:=[.ref a]) (vs:=[.ref a]) F hr hb hd hx I1 (.cons rfl .nil) q)
structure Mk(K:PySem.W.Frag)(C f:Addr):Prop where
 makes:PySem.W.makesIn K C=true
 init:PySem.W.findIn K (.ref C) "__init__" = some (some (.ref f))
 fn:PySem.W.isFn K (.ref f)=true
 kp:PySem.W.keepIn K (.ref C)=true
theorem run_make{pins:List (Addr×Obj)}{σ:St}{H:Hp}{s:Shared}{Q:VK}{us:List Value}{vs:List V}(M:Mk X.K C f)(F:FnOk X.prog X.w X.K X.mg X.base CX k f fd ps sp)(hr:Room (k+1) X.A)(hb:Binds X.K fd ps ds)(hd:Vals dvs ds)
  (hx:Passes CX X E) (I:Inv X pins σ H s) (r:Vals vs us)
  (h:∀ x dx,H x=none→H dx=none→dx≠x→sp (.ref x::(vs++dvs)) (upd (upd H dx (.own x)) x (.ins C dx [])) (fun v H2=>v=.non∧Q (.ref x) H2) E) :
  wpAny (model X.prog X.w) X.A (call (.ref C) us) (EP X pins σ Q) X.xe s:=by
 have hq:=h (s.heap.objs.size+1) s.heap.objs.size (I.hok.fresh (Nat.le_succ _)) (I.hok.fresh (Nat.le_refl _)) (Nat.ne_of_lt (Nat.lt_succ_self _))
 have I2:=Inv.made (C:=C) I
 have r2:Vals (V.ref (s.heap.objs.size+1)::(vs++dvs)) (Value.ref (s.heap.objs.size+1)::(us++ds)):=.cons rfl (r.append hd)
 have hl:(Value.ref (s.heap.objs.size+1)::us++ds).length=ps.length:=by
  have e:=r2.length
  rw[F.len _ _ _ _ hq] at e
  exact e.symm
 refine wpAny_call (make_map (f:=f) I.kIn M.makes M.init (beq_iff_eq.mp M.fn) (codeAny_mono (F.run _ X.stack _ _ ⟨Value.ref (s.heap.objs.size+1)::us,[]⟩ (Value.ref (s.heap.objs.size+1)::(us++ds)) _ _ E (hr.make C us [])
  (I2.env0.make C us []) (hb _ (Value.ref (s.heap.objs.size+1)::us) I2.kIn hl) r2 hq) fun r s' hq'=>?_))
 cases r with
 | error e=>exact hx pins σ _ _ e s' I2 hq'
 | ok fl =>
  cases fl with
  | ret u =>
   obtain⟨v,H',I3,rv,ev,q3⟩:=I2.after hq'
   subst ev
   exact⟨rv,⟨V.ref (s.heap.objs.size+1),H',I3,rfl,q3⟩⟩
  | next=>exact False.elim hq'
  | brk=>exact False.elim hq'
  | cont=>exact False.elim hq'
theorem pe_make(M:Mk X.K C f)(F:FnOk X.prog X.w X.K X.mg X.base CX k f fd ps sp)(hr:Room (k+1) X.A)(hg:Gl X x)(hm:X.mg x=some (.ref C))(hb:Binds X.K fd ps ds)(hd:Vals dvs ds)(hx:Passes CX X E)
  (ha:PA X (e::es) t) (hdb:(x == ("__debug__" : Str))=false:=by decide) (he:starEach (e::es) X.env=(false,eval e X.env)::starEach es X.env:=by rfl) (hpl:(backTo pos (starEach es X.env)).any (·.1)=false:=by rfl) :
  PE X (.Call (.Name x p) (e::es) [] pos) (tMake C sp dvs E t):=by
 intro pins s σ H Q I h
 refine wpAny_Call_Name_kw (ld_glob I hg hm ?_ hdb)
 refine PySem.W.callWith_K (h₀:=X.base) I.ok.mod.kin M.kp (thn (ha pos pins s σ H _ I h) fun us s1 ⟨vs,H1,I1,r,q⟩=>⟨I1.kIn,?_⟩) he hpl
 exact run_make M F hr hb hd hx I1 r q
theorem pe_make0(M:Mk X.K C f)(F:FnOk X.prog X.w X.K X.mg X.base CX k f fd ps sp)(hr:Room (k+1) X.A)(hg:Gl X x)(hm:X.mg x=some (.ref C))(hb:Binds X.K fd ps ds)(hd:Vals dvs ds)(hx:Passes CX X E)
  (hdb:(x == ("__debug__" : Str))=false:=by decide):PE X (.Call (.Name x p) [] [] pos) (tMake C sp dvs E tNil):=by
 intro pins s σ H Q I h
 refine wpAny_Call_Name_kw (ld_glob I hg hm ?_ hdb)
 exact PySem.W.callWith_K0 I.kIn M.kp (run_make (us:=[]) M F hr hb hd hx I .nil h)
end
section
variable {X:Cx}{CX:CXT}{k:Nat}{f C:Addr}{fd:FuncData}{ps ks:List Str}{sp:Sp}{E:XK}{x m:Str}{p pos apos kpos:Pos}{e o:Expr}{es:List Expr}{kws:List Keyword}{te ta:TE}{t tk:TA}{nm:Option Str}
structure KBinds(K:PySem.W.Frag)(fd:FuncData)(ps ks:List Str)(g:List Value→List Value→List Value)(gV:List V→List V→List V):Prop where
 to:∀(s:Shared)(us ws:List Value),K.In s.heap→(g us ws).length=ps.length→BindsTo s fd ⟨us,ks.zip ws⟩ (ps.zip (g us ws))
 rel:∀{vs:List V}{us:List Value}{zs:List V}{ws:List Value},Vals vs us→Vals zs ws→Vals (gV vs zs) (g us ws)
variable {g:List Value→List Value→List Value}{gV:List V→List V→List V}
end
structure FnScope(N P:List Str)(sc:Scope):Prop where
 kind:sc.kind=.function
 co:sc.isCoroutine=false
 gen:sc.isGenerator=false
 nd:N.Nodup
 pre:N.take P.length=P
 par:∀ x∈P,sc.names.lookup x=some .local∨sc.names.lookup x=some .cell
 nofree:∀ y∈sc.names,y.2≠.free
theorem bindL_out{kindOf:Str→Option NameKind}{x:Str}:∀ {binds:List (Str×Value)} {m:Str→Option Value},(∀ v,(x,v)∉binds)→bindL kindOf binds m x=m x
 | [],_,_=>rfl
 | (n,v)::r,m,h=>by
  unfold bindL
  rw[bindL_out fun w hw=>h w (List.mem_cons_of_mem _ hw)]
  split
  ·have:x≠n:=by rintro rfl;exact h v List.mem_cons_self
   simp[this]
  ·rfl
theorem bindC_out{kindOf:Str→Option NameKind}{x:Str}:∀ {binds:List (Str×Value)} {m:Str→Option Value},(∀ v,(x,v)∉binds)→bindC kindOf binds m x=m x
 | [],_,_=>rfl
 | (n,v)::r,m,h=>by
  unfold bindC
  rw[bindC_out fun w hw=>h w (List.mem_cons_of_mem _ hw)]
  split
  ·rfl
  ·have:x≠n:=by rintro rfl;exact h v List.mem_cons_self
   simp[this]
theorem bindL_get{kindOf:Str→Option NameKind}{x:Str}{v:Value}:∀{P:List Str}{vs:List Value}{i:Nat}{m:Str→Option Value},P.Nodup→P[i]?=some x→vs[i]?=some v→kindOf x=some .local →
  bindL kindOf (P.zip vs) m x=some v
 | [],_,_,_,_,h,_,_=>by simp at h
 | _::_,[],_,_,_,_,h,_=>by simp at h
 | p::P,w::vs,0,m,nd,h1,h2,hk=>by
  simp at h1 h2;subst h1;subst h2
  show bindL kindOf ((p,w)::P.zip vs) m p=_
  unfold bindL
  rw[bindL_out fun v hv=>(List.nodup_cons.mp nd).1 (List.of_mem_zip hv).1,if_pos hk]
  simp
 | p::P,w::vs,i+1,m,nd,h1,h2,hk=>by
  show bindL kindOf ((p,w)::P.zip vs) m x=_
  unfold bindL
  exact bindL_get (i:=i) (List.nodup_cons.mp nd).2 (by simpa using h1) (by simpa using h2) hk
theorem bindC_get{kindOf:Str→Option NameKind}{x:Str}{v:Value}:∀{P:List Str}{vs:List Value}{i:Nat}{m:Str→Option Value},P.Nodup→P[i]?=some x→vs[i]?=some v→kindOf x≠some .local →
  bindC kindOf (P.zip vs) m x=some v
 | [],_,_,_,_,h,_,_=>by simp at h
 | _::_,[],_,_,_,_,h,_=>by simp at h
 | p::P,w::vs,0,m,nd,h1,h2,hk=>by
  simp at h1 h2;subst h1;subst h2
  show bindC kindOf ((p,w)::P.zip vs) m p=_
  unfold bindC
  rw[bindC_out fun v hv=>(List.nodup_cons.mp nd).1 (List.of_mem_zip hv).1,if_neg hk]
  simp
 | p::P,w::vs,i+1,m,nd,h1,h2,hk=>by
  show bindC kindOf ((p,w)::P.zip vs) m x=_
  unfold bindC
  exact bindC_get (i:=i) (List.nodup_cons.mp nd).2 (by simpa using h1) (by simpa using h2) hk
def start(N:List Str)(vs:List V):St:=vs.map some++List.replicate (N.length - vs.length) none
def cxOf(CX:CXT)(P:Program)(w:World)(K:PySem.W.Frag)(mg:Str→Option Value)(base:Heap)(N:List Str)(qual:Str)(scope:Scope)(f:Addr)(cd:Value)(A:Around)(outer:List Env)(s:Shared)(H:Hp)(E:XK):Cx where
 prog:=P
 w:=w
 K:=K
 mg:=mg
 base:=base
 A:=A.deeper (envOfC qual scope s.heap.objs.size f cd)
 N:=N
 s₀:=s
 H₀:=H
 env:=envOfC qual scope s.heap.objs.size f cd
 outer:=outer
 stack:=envOfC qual scope s.heap.objs.size f cd::outer
 ex:=[]
 calm:=true
 fn:=fun _=>true
 pn:=[]
 xe:=fun e s'=>wpAny (model P w) (A.deeper (envOfC qual scope s.heap.objs.size f cd)) (leaving (envOfC qual scope s.heap.objs.size f cd) e) (fun _ s''=>CX outer H s E e s'') (fun e' s''=>CX outer H s E e' s'') s'
theorem cell_has{sc:Scope}{n:Nat}{x:Str}(h:sc.names.lookup x=some .cell):∃ c,(cellsFrom n sc.names []).lookup x=some c:=by
 have q:=PySem.W.cellsFrom_some sc.names n [] (.inl h)
 exact Option.isSome_iff_exists.mp q
theorem inv_start{CX:CXT}{P:Program}{w:World}{K:PySem.W.Frag}{mg:Str→Option Value}{base:Heap}{N ps:List Str}{qual:Str}{scope:Scope}{f:Addr}{cd:Value}{A:Around}{outer:List Env}{s s1:Shared}{H:Hp}{E:XK}{us:List Value}{vs:List V}
  (S:FnScope N ps scope) (hd:A.handled=none) (e0:Env0 P w K mg base A outer s H) (hl:vs.length=ps.length) (r:Vals vs us)
  (x:InCallC s s.heap.objs.size (bindL (envOfC qual scope s.heap.objs.size f cd).kindOf (ps.zip us) fun _=>none) (cellsFrom (s.heap.objs.size+1) scope.names []) (bindC (envOfC qual scope s.heap.objs.size f cd).kindOf (ps.zip us) fun _=>none) s1) :
  Inv (cxOf CX P w K mg base N qual scope f cd A outer s H E) [] (start N vs) H s1:=by
 have hpl:ps.length≤N.length:=by have:=congrArg List.length S.pre;rw[List.length_take] at this;omega
 obtain⟨h1,tk,rfl,hk⟩:=x.done
 have noA:∀ b:Addr,b∉(cxOf CX P w K mg base N qual scope f cd A outer s H E).ex:=fun b z=>absurd (show b∈([]:List Addr) from z) (by simp)
 refine⟨⟨e0.mod,S.kind,rfl,rfl,Nat.le_refl _,fun y z c h1 h2=>?_,fun y hy=>?_,fun y c _ h=>?_,fun _=>hd,Around.frames_deeper e0.frames,.inr ⟨rfl,rfl⟩,fun b z=>absurd z (noA b),e0.bs,e0.bsz,fun b _ _=>noA b,fun b z=>absurd z (noA b),e0.funs,e0.frf⟩,
  rfl,e0.bare,Un.kept hk,⟨_,x.toInCall.ns,fun i y v h1 h2 h3=>?_⟩,fun y c h=>⟨_,x.cell y c h⟩,e0.hok.fresh (Nat.le_refl _),fun y c h=>?_,fun p hp=>absurd (show p∈([]:List (Addr×Obj)) from hp) (by simp),e0.hok.kept hk,?_⟩
 ·exact name_of_addr x.apart (PySem.mem_of_lookup h1) (PySem.mem_of_lookup h2)
 ·have hy:scope.names.lookup y=some .cell∨scope.names.lookup y=some .free:=hy
  rcases hy with hy | hy
  ·exact cell_has hy
  ·exact absurd rfl (S.nofree _ (PySem.mem_of_lookup hy))
 ·exact Nat.le_of_lt (x.above y c (PySem.mem_of_lookup h))
 ·have hi:i < vs.length:=by
   unfold start at h2
   by_cases hi:i < vs.length
   ·exact hi
   ·rw[List.getElem?_append_right (by simpa using hi)] at h2
    rw[List.getElem?_replicate] at h2
    split at h2<;>cases h2
  have ha:vs[i]?=some v:=by
   unfold start at h2
   rw[List.getElem?_append_left (by simpa using hi),List.getElem?_map] at h2
   cases e:vs[i]? with
   | none=>rw[e] at h2;cases h2
   | some a=>rw[e] at h2;cases h2;rfl
  obtain⟨u,hu,rv⟩:=r.get ha
  have hp:ps[i]?=some y:=by
   rw[← S.pre,List.getElem?_take_of_lt (by omega)];exact h1
  have ndP:ps.Nodup:=by rw[← S.pre];exact S.nd.sublist (List.take_sublist _ _)
  refine⟨u,rv,?_⟩
  rcases S.par y (List.mem_of_getElem? hp) with k | k
  ·exact .inl ⟨k,bindL_get ndP hp hu k⟩
  ·obtain⟨c,e⟩:=cell_has (n:=s.heap.objs.size+1) k
   refine .inr ⟨.inl k,c,e,?_⟩
   have q:=x.cell y c e
   rw[bindC_get ndP hp hu (by show scope.names.lookup y≠_;rw[k];decide)] at q
   exact q
 ·exact e0.hok.fresh (Nat.le_of_lt (x.above y c (PySem.mem_of_lookup h)))
 ·unfold start
  show _=N.length
  rw[List.length_append,List.length_map,List.length_replicate]
  omega
theorem fn_of{CX:CXT}{P:Program}{w:World}{K:PySem.W.Frag}{mg:Str→Option Value}{base:Heap}{k:Nat}{f:Addr}{name qual:Str}{params:Arguments}{body:List Stmt}{scope:Scope}{dV kV doc pm cdv ct oc:Value}{an od:Option Addr}
  {osl:Array (Option Value)} {N ps:List Str} {sp:Sp} (lk:K.lookup f=some ⟨oc,od,.func (PySem.W.fnOf name qual params body scope dV kV doc pm an cdv ct),osl⟩) (hcd:PySem.W.codeIn K cdv qual=true) (S:FnScope N ps scope)
  (len:∀ vs H Q E,sp vs H Q E→vs.length=ps.length)
  (hbody:∀(A:Around)(outer:List Env)(s:Shared)(H:Hp)(vs:List V)(Q:VK)(E:XK),Room k (A.deeper (envOfC qual scope s.heap.objs.size f cdv))→sp vs H Q E →
   ∃ t,PSs (cxOf CX P w K mg base N qual scope f cdv A outer s H E) body t∧t { nx:=fun _ H'=>Q .non H',rt:=Q } (start N vs) H) :
  FnOk P w K mg base CX (k+1) f (PySem.W.fnOf name qual params body scope dV kV doc pm an cdv ct) ps sp:=by
 refine⟨len,fun A outer s H args us vs Q E hr e0 hb r hsp=>?_⟩
 have hl:=len _ _ _ _ hsp
 have KX:K.In s.heap:=e0.mod.kin.keeps fun b o e=>(e0.bs b o e).1
 have lim:s.heap.NoLimit:=e0.mod.nolimit.keeps fun b o e=>(e0.bs b o e).1
 have hkind:∀ y∈ps.zip us,scope.names.lookup y.1=some .local∨(scope.names.lookup y.1=some .cell∧((cellsFrom (s.heap.objs.size+1) scope.names []).lookup y.1).isSome=true):=fun ⟨n,v⟩ hy=>by
  rcases S.par n (List.of_mem_zip hy).1 with q | q
  ·exact .inl q
  ·exact .inr ⟨q,PySem.W.cellsFrom_some _ _ _ (.inl q)⟩
 refine codeAny_call_function hr.depth (KX _ _ lk) rfl S.co S.gen rfl (PySem.W.codeRec_of KX hcd) (hb _ _ _ _ ?_)
 refine wpAny_newFunctionEnv_cells S.kind hkind fun env he s1 x=>?_
 subst he
 refine⟨lim.keeps x.toInCall.keep,codeAny_func ?_⟩
 obtain⟨t,ht,hq⟩:=hbody A outer s H vs Q E (hr.deeper _) hsp
 have I:Inv (cxOf CX P w K mg base N qual scope f cdv A outer s H E) [] (start N vs) H s1:=inv_start S hr.hd e0 hl r x
 refine wpAny_mono (ht [] s1 (start N vs) H _ I hq) (fun fl s' hs=>?_) fun e s' hs=>hs
 have fin:∀{σ':St}{H':Hp}{v:V}{u:Value},Inv (cxOf CX P w K mg base N qual scope f cdv A outer s H E) [] σ' H' s'→RelV v u→Q v H'→CE outer P w H s Q u s' :=
  fun {σ' H' v u} J rv q=>⟨v,H',J.os,J.bare,J.base,J.hok,rv,q⟩
 cases fl with
 | ret u =>
  obtain⟨v,σ',H',J,rv,q⟩:=hs
  exact fin J rv q
 | next =>
  obtain⟨σ',H',J,q⟩:=hs
  exact fin (v:=V.non) (u:=Value.none) J rfl q
 | brk =>
  obtain⟨_,_,_,q⟩:=hs
  exact False.elim q
 | cont =>
  obtain⟨_,_,_,q⟩:=hs
  exact False.elim q
end L2
namespace L2
open PySem PySem.Spec PyProof.Rows
section
variable {X:Cx}{x:Str}{p pos:Pos}{e:Expr}{es:List Expr}{t:TA}{id T:String}{r:List V→Hp→VK→Prop}
def tCB(r:List V→Hp→VK→Prop)(t:TA):TE:=fun σ H Q=>t σ H fun vs H1=>r vs H1 Q
theorem pe_callB(hc:CallR X (.builtin id) r)(hg:Gl X x)(hm:X.mg x=none)(hv:bootBuiltins x=some (.builtin id))(ha:PA X (e::es) t)(hn:x ≠ "__name__" := by decide)(hdb:(x == ("__debug__" : Str))=false:=by decide)
  (he:starEach (e::es) X.env=(false,eval e X.env)::starEach es X.env:=by rfl) (hpl:(backTo pos (starEach es X.env)).any (·.1)=false:=by rfl):PE X (.Call (.Name x p) (e::es) [] pos) (tCB r t):=by
 intro pins s σ H Q I h
 refine wpAny_Call_Name_kw (ld_blt I hg hm hv ?_ hn hdb)
 exact PyProof.Rows.callWith_builtin1 (thn (ha pos pins s σ H _ I h) fun us s1 ⟨vs,H1,I1,r1,q1⟩=>hc pins s1 σ H1 vs us Q I1 r1 q1) he hpl
theorem pe_callTy(hc:CallR X (.type T) r)(hg:Gl X x)(hm:X.mg x=none)(hv:bootBuiltins x=some (.type T))(ha:PA X (e::es) t)(hn:x ≠ "__name__" := by decide)(hdb:(x == ("__debug__" : Str))=false:=by decide)
  (he:starEach (e::es) X.env=(false,eval e X.env)::starEach es X.env:=by rfl) (hpl:(backTo pos (starEach es X.env)).any (·.1)=false:=by rfl):PE X (.Call (.Name x p) (e::es) [] pos) (tCB r t):=by
 intro pins s σ H Q I h
 refine wpAny_Call_Name_kw (ld_blt I hg hm hv ?_ hn hdb)
 exact PyProof.Rows.callWith_type1 (thn (ha pos pins s σ H _ I h) fun us s1 ⟨vs,H1,I1,r1,q1⟩=>hc pins s1 σ H1 vs us Q I1 r1 q1) he hpl
end
end L2
namespace HT
open PySem PyProof.Rows
section
open PySem.SeqAt
open PySem.AutoSeq1 (wpAny_loadPart')
open PySem.MeetsSeq PySem.MeetsSeq2 PySem.MeetsSeq3
end
section
variable {prog:Program}{w:World}{A:Around}{E:Value→Shared→Prop}{s:Shared}
def sIx(n d:Nat):Option Int→Nat
 | none=>d
 | some v=>if v < 0 then (v+(n:Int)).toNat else min v.toNat n
theorem sIx_none(n d:Nat):sIx n d none=d:=rfl
theorem sIx_nat(n d k:Nat):sIx n d (some (k:Int))=min k n:=by
 show (if (k:Int) < 0 then ((k:Int)+(n:Int)).toNat else min (k:Int).toNat n)=min k n
 rw[if_neg (by omega),Int.toNat_natCast]
end
end HT
namespace L2
open PySem PySem.Spec PyProof.Rows
abbrev TO:=St→Hp→(Option Int→Hp→Prop)→Prop
def PO(X:Cx)(e:Option Expr)(t:TO):Prop :=
 ∀ (pins:List (Addr×Obj)) (s:Shared) (σ:St) (H:Hp) (Q:Option Int→Hp→Prop),Inv X pins σ H s→t σ H Q →
  wpAny (model X.prog X.w) X.A (evalPart e X.env) (fun u s'=>∃ o H',Inv X pins σ H' s'∧IsPart u o∧Q o H') X.xe s
def tNoPart:TO:=fun _ H Q=>Q none H
def tPart(t:TE):TO:=fun σ H Q=>t σ H fun x H1=>∃ i,x=.int i∧Q (some i) H1
section
variable {X:Cx}{e:Expr}{te:TE}{lo hi:Option Expr}{tl th:TO}{pos p2:Pos}
theorem po_none:PO X none tNoPart:=by
 intro pins s σ H Q I h
 rw[evalPart_none]
 exact wpAny_pure ⟨none,H,I,.none,h⟩
theorem po_some(h:PE X e te):PO X (some e) (tPart te):=by
 intro pins s σ H Q I hw
 rw[evalPart_some]
 refine thn (h pins s σ H _ I hw) fun u s1 ⟨x,H1,I1,r1,q1⟩=>?_
 obtain⟨i,rfl,q⟩:=q1
 obtain⟨t,rfl⟩:=r1
 exact⟨some i,H1,I1,.int i t,q⟩
def SlR(X:Cx)(r:V→Option Int→Option Int→Hp→VK→Prop):Prop :=
 ∀ (pins:List (Addr×Obj)) (s:Shared) (σ:St) (H:Hp) (x:V) (v vl vu:Value) (lo hi:Option Int) (sl:Addr) (Q:VK),Inv X pins σ H s→RelV x v→s.heap.IsSliceOf sl vl vu .none→IsPart vl lo→IsPart vu hi→r x lo hi H Q →
  ∃ T id,typeLookup (.type T) "__getitem__" = pure (some (.builtin id))∧s.TypeIs v T∧wpAny (model X.prog X.w) X.A (getItem v (.ref sl)) (EP X pins σ Q) X.xe s
def tSl(r:V→Option Int→Option Int→Hp→VK→Prop)(te:TE)(tl th:TO):TE:=fun σ H Q=>te σ H fun x H1=>tl σ H1 fun l H2=>th σ H2 fun u H3=>r x l u H3 Q
theorem pe_slice{r:V→Option Int→Option Int→Hp→VK→Prop}(hr:SlR X r)(he:PE X e te)(hl:PO X lo tl)(hu:PO X hi th):PE X (.Subscript e (.Slice lo hi none p2) pos) (tSl r te tl th):=by
 intro pins s σ H Q I h
 refine Subscript_ (thn (he pins s σ H _ I h) fun v s1 ⟨x,H1,I1,r1,q1⟩=>?_)
 refine wpAny_Slice (thn (hl pins s1 σ H1 _ I1 q1) fun vl s2 ⟨l,H2,I2,pl,q2⟩=>thn (hu pins s2 σ H2 _ I2 q2) fun vu s3 ⟨u,H3,I3,pu,q3⟩=>?_)
 rw[evalPart_none]
 refine wpAny_pure ?_
 have I4:Inv X pins σ H3 { s3 with heap:=s3.heap.push { cls:=.type "slice", data:=.fields #[vl,vu,.none] } }:=I3.kept (t':=s3.toks) fun b ob q=>Heap.get?_push_of_some _ q
 obtain⟨T,id,hT,ht,hg⟩:=hr pins { s3 with heap:=s3.heap.push { cls:=.type "slice", data:=.fields #[vl,vu,.none] } } σ H3 x v vl vu l u s3.heap.objs.size Q I4 r1 (Heap.IsSliceOf.new ..) pl pu q3
 show wpAny (model X.prog X.w) X.A (subscriptTail e (.Slice lo hi none p2) v (.ref s3.heap.objs.size)) (EP X pins σ Q) X.xe { s3 with heap:=s3.heap.push { cls:=.type "slice", data:=.fields #[vl,vu,.none] } }
 exact tail_any (ops:=[.ref s3.heap.objs.size,v]) ht hT hg (by with_unfolding_all rfl)
def cutV(xs:List V)(lo hi:Option Int):List V:=(xs.drop (HT.sIx xs.length 0 lo)).take (HT.sIx xs.length xs.length hi - HT.sIx xs.length 0 lo)
theorem cutV_length(xs:List V)(lo hi:Option Int):(cutV xs lo hi).length≤xs.length:=by
 unfold cutV
 rw[List.length_take,List.length_drop]
 omega
end
end L2
namespace L2
open PySem PySem.Spec PyProof.Rows
def ixN(n:Nat)(i:Int):Option Nat:=if 0≤i then (if i < n then some i.toNat else none) else if -(n:Int)≤i then some (i+n).toNat else none
def atI{α:Type}(xs:List α)(i:Int):Option α:=(ixN xs.length i).bind fun j=>xs[j]?
theorem ixN_seq{n:Nat}{i:Int}{j:Nat}(h:ixN n i=some j):seqIndex? i n=some j∧j < n∧-(n:Int)≤i∧i < n:=by
 unfold ixN at h
 by_cases h0:0≤i
 ·rw[if_pos h0] at h
  by_cases h1:i < n
  ·rw[if_pos h1] at h
   have e:i.toNat=j:=Option.some.inj h
   exact⟨by rw[seqIndex_of h0 h1,e],by omega,by omega,h1⟩
  ·rw[if_neg h1] at h;cases h
 ·rw[if_neg h0] at h
  by_cases h1:-(n:Int)≤i
  ·rw[if_pos h1] at h
   have e:(i+n).toNat=j:=Option.some.inj h
   exact⟨by rw[seqIndex_neg (by omega) h1,e],by omega,h1,by omega⟩
  ·rw[if_neg h1] at h;cases h
theorem atI_get{α:Type}{xs:List α}{i:Int}{v:α}(h:atI xs i=some v):∃ j,seqIndex? i xs.length=some j∧xs[j]?=some v∧j < xs.length∧-(xs.length:Int)≤i∧i < xs.length:=by
 unfold atI at h
 cases e:ixN xs.length i with
 | none=>rw[e] at h;cases h
 | some j =>
  rw[e] at h
  obtain⟨h1,h2,h3,h4⟩:=ixN_seq e
  exact⟨j,h1,h,h2,h3,h4⟩
theorem atI_nat{α:Type}{xs:List α}{j:Nat}{v:α}(h:xs[j]?=some v):atI xs (j:Int)=some v:=by
 have hj:j < xs.length:=(List.getElem?_eq_some_iff.mp h).1
 have e:ixN xs.length (j:Int)=some j:=by
  unfold ixN
  rw[if_pos (by omega),if_pos (by omega)];simp
 unfold atI;rw[e];exact h
def PlainIx(b:Expr):Prop:=∀ o i,subscripted b false o i=operate [o,i] (getItem o i)
def IxR(X:Cx)(r:R2):Prop :=
 ∀(value slice:Expr) (pins:List (Addr×Obj)) (s:Shared) (σ:St) (H:Hp) (x y:V) (v u:Value) (Q:VK),Inv X pins σ H s→RelV x v→RelV y u→r x y H Q →
  subscripted slice false v u=operate [v,u] (getItem v u)→wpAny (model X.prog X.w) X.A (subscriptTail value slice v u) (EP X pins σ Q) X.xe s
def MtR(X:Cx)(id:String)(r:V→List V→Hp→VK→Prop):Prop :=
 ∀ (pins:List (Addr×Obj)) (s:Shared) (σ:St) (H:Hp) (x:V) (xs:List V) (v:Value) (us:List Value) (Q:VK),Inv X pins σ H s→RelV x v→Vals xs us→r x xs H Q →
  wpAny (model X.prog X.w) X.A (call (.builtin id) (v::us)) (EP X pins σ Q) X.xe s
section
variable {X:Cx}{a b:Expr}{ta tb:TE}{pos:Pos}
theorem pe_ix{r:R2}(hr:IxR X r)(ha:PE X a ta)(hb:PE X b tb)(hs:PlainIx b):PE X (.Subscript a b pos) (tOp r ta tb):=by
 intro pins s σ H Q I h
 exact Subscript_ (binT ha hb I h fun v u s2 x y H2 I2 rx ry q=>hr a b pins s2 σ H2 x y v u Q I2 rx ry q (hs _ _))
def rIxL(K:PySem.W.Frag):R2:=fun x y H Q=>∃ p xs i v,x=.ref p∧y=.int i∧SqL K H p xs∧atI xs i=some v∧Q v H
def rIxT(K:PySem.W.Frag):R2:=fun x y H Q=>∃ p xs i v,x=.ref p∧y=.int i∧SqT K H p xs∧atI xs i=some v∧Q v H
def rIxS:R2:=fun x y H Q=>∃ z i c,x=.str z∧y=.int i∧z.length≤sizeLine∧atI z.cps.toList i=some c∧Q (.str ⟨#[c]⟩) H
theorem ix_list:IxR X (rIxL X.K):=by
 intro value slice pins s σ H x y v u Q I rx ry h hs
 obtain⟨p,xs,i,z,rfl,rfl,hq,he,q⟩:=h
 cases rx
 obtain⟨t,rfl⟩:=ry
 obtain⟨its,r,pl,hz⟩:=I.list hq
 obtain⟨j,h1,h2,h3,h4,h5⟩:=atI_get he
 obtain⟨w,ew,rw'⟩:=r.get h2
 have hl:=r.length
 have hn:=line63
 have fin:EP X pins σ Q w s:=⟨z,H,I,rw',q⟩
 by_cases h0:0≤i
 ·have hj:i.toNat=j:=by
   rw[seqIndex_of h0 h5] at h1
   exact Option.some.inj h1
  exact item_listR pl.isList h0 (by omega) (by rw[hj];simpa using ew) fin hs
 ·have hj:(i+(its.toArray.size:Int)).toNat=j:=by
   rw[seqIndex_neg (by omega) h4] at h1
   rw[List.size_toArray,← hl]
   exact Option.some.inj h1
  exact subscriptTail_builtinR (x:=w) pl.isList.typeIs slot_list_getitem.lookup
   (wpAny_getItem_list_neg (Q:=fun r s'=>r=w∧EP X pins σ Q r s') pl.isList (by omega) (by rw[List.size_toArray]<;>omega) (by omega) (by rw[hj];simpa using ew) ⟨rfl,fin⟩) hs
theorem ix_tup:IxR X (rIxT X.K):=by
 intro value slice pins s σ H x y v u Q I rx ry h hs
 obtain⟨p,xs,i,z,rfl,rfl,hq,he,q⟩:=h
 cases rx
 obtain⟨t,rfl⟩:=ry
 obtain⟨its,r,pl,hz⟩:=I.tuple hq
 obtain⟨j,h1,h2,h3,h4,h5⟩:=atI_get he
 obtain⟨w,ew,rw'⟩:=r.get h2
 have hl:=r.length
 have hn:=line63
 have fin:EP X pins σ Q w s:=⟨z,H,I,rw',q⟩
 exact subscriptTail_builtinR (x:=w) pl.typeIs slot_tuple_getitem.lookup
  (getItem_tuple (j:=j) (Q:=fun r s'=>r=w∧EP X pins σ Q r s') pl (by omega) (by omega) (by rw[List.size_toArray,← hl];exact h1) (by simpa using ew) ⟨rfl,fin⟩) hs
theorem ix_str:IxR X rIxS:=by
 intro value slice pins s σ H x y v u Q I rx ry h hs
 obtain⟨z,i,c,rfl,rfl,hz,he,q⟩:=h
 obtain⟨t,rfl⟩:=rx
 obtain⟨t',rfl⟩:=ry
 obtain⟨j,h1,h2,h3,h4,h5⟩:=atI_get he
 have hl:z.cps.toList.length=z.length:=by simp[Str.length]
 rw[hl] at h1 h4 h5
 have hn:=line63
 exact tail_any (typeIs_str s z t) slot_str_getitem.lookup (getItem_str (c:=c) (by
  have e1:decide (i < -(2 ^ 63:Int))=false:=decide_eq_false (by omega)
  have e2:decide (i ≥ 2 ^ 63)=false:=decide_eq_false (by omega)
  rw[e1,e2,Bool.or_false]) (by rw[h1];simpa using h2) ⟨.str ⟨#[c]⟩,H,I.tok _,⟨_,rfl⟩,q⟩) hs
theorem mapSeq_set(its:List Value)(n j:Nat)(u:Value):Obj.mapSeq (·.setIfInBounds j u) { cls:=.type "list", data:=.seq its.toArray n }={ cls:=.type "list", data:=.seq (its.set j u).toArray n }:=by
 simp[Obj.mapSeq]
theorem Inv.lst{pins:List (Addr×Obj)}{σ:St}{H:Hp}{s:Shared}{p:Addr}{xs:List V}(I:Inv X pins σ H s)(h:H p=some (.lst xs)) :
  ∃(its:List Value)(n:Nat),Vals xs its∧s.heap.get? p=some { cls:=.type "list", data:=.seq its.toArray n }∧xs.length≤sizeLine:=by
 obtain⟨z,its,n,r,e⟩:=I.hok p _ h
 exact⟨its,n,r,e,z⟩
theorem Inv.lstUpd{pins:List (Addr×Obj)}{σ:St}{H:Hp}{s:Shared}{p:Addr}{xs ys:List V}{its its':List Value}{n n':Nat}{f:Obj→Obj}(I:Inv X pins σ H s)(h:H p=some (.lst xs))
  (ho:s.heap.get? p=some { cls:=.type "list", data:=.seq its.toArray n }) (hf:f { cls:=.type "list", data:=.seq its.toArray n }={ cls:=.type "list", data:=.seq its'.toArray n' }) (r:Vals ys its') (hz:ys.length≤sizeLine) (t:Nat) :
  Inv X pins σ (upd H p (.lst ys)) { s with heap:=s.heap.update p f,toks:=t }:=by
 have e:(s.heap.update p f).get? p=some { cls:=.type "list", data:=.seq its'.toArray n' }:=by
  rw[Heap.get?_update_self f ho (by rw[hf]<;>rfl),hf]
 refine I.write (x:=p) (e:=p) (by rw[h];trivial) (.inl rfl) (fun b u hb q=>(Heap.get?_update_other _ _ (Ne.symm hb)).trans q) ⟨_,e⟩ ?_
 exact⟨hz,its',n',r,e⟩
def rSetL:V→V→V→Hp→(Hp→Prop)→Prop:=fun o i v H Q=>∃ p xs k j,o=.ref p∧i=.int k∧H p=some (.lst xs)∧ixN xs.length k=some j∧Q (upd H p (.lst (xs.set j v)))
theorem set_list:PSet X rSetL:=by
 intro pins s σ H o i v ov iv u Q I ro ri rv h
 obtain⟨p,xs,k,j,rfl,rfl,hp,hj,q⟩:=h
 cases ro
 obtain⟨t,rfl⟩:=ri
 obtain⟨its,n,r,ho,hz⟩:=I.lst hp
 obtain⟨h1,h2,h3,h4⟩:=ixN_seq hj
 have hl:=r.length
 have hn:=line63
 have I':Inv X pins σ (upd H p (.lst (xs.set j v))) { s with heap:=s.heap.update p (Obj.mapSeq (·.setIfInBounds j u)) } :=
  I.lstUpd hp ho (mapSeq_set its n j u) (r.set rv j) (by rw[List.length_set];exact hz) s.toks
 by_cases h0:0≤k
 ·have hk:k.toNat=j:=by
   rw[seqIndex_of h0 h4] at h1
   exact Option.some.inj h1
  exact PySem.W.ki_setAt ho h0 (by omega) (by rw[List.size_toArray,← hl];exact h4) (by rw[hk];exact⟨_,I',q⟩)
 ·have hk:(k+(its.toArray.size:Int)).toNat=j:=by
   rw[seqIndex_neg (by omega) h3] at h1
   rw[List.size_toArray,← hl]
   exact Option.some.inj h1
  exact PySem.W.ki_setBack ho (by omega) (by rw[List.size_toArray,← hl];exact h3) (by omega) (by rw[hk];exact⟨_,I',q⟩)
theorem slice_bounds(lo hi:Option Int)(n:Nat):(sliceBounds lo hi none n).1=((HT.sIx n 0 lo:Nat):Int)∧(sliceBounds lo hi none n).2.1=((HT.sIx n n hi:Nat):Int)∧(sliceBounds lo hi none n).2.2=1:=by
 refine⟨?_,?_,rfl⟩
 ·cases lo with
  | none=>simp[sliceBounds,HT.sIx]
  | some i =>
   simp only[sliceBounds,HT.sIx,Option.getD_none,show (1:Int) > 0 by decide,if_true]
   by_cases h:i < 0
   ·simp only[h,if_true]<;>omega
   ·simp only[h,if_false]<;>omega
 ·cases hi with
  | none=>simp[sliceBounds,HT.sIx]
  | some i =>
   simp only[sliceBounds,HT.sIx,Option.getD_none,show (1:Int) > 0 by decide,if_true]
   by_cases h:i < 0
   ·simp only[h,if_true]<;>omega
   ·simp only[h,if_false]<;>omega
theorem slicePick_cut(its:List Value)(lo hi:Option Int):slicePick its.toArray lo hi none=((its.drop (HT.sIx its.length 0 lo)).take (HT.sIx its.length its.length hi - HT.sIx its.length 0 lo)).toArray:=by
 obtain⟨h1,h2,h3⟩:=slice_bounds lo hi its.toArray.size
 unfold slicePick
 rw[h1,h2,h3]
 simp only[sliceRange_one,pick_run,List.size_toArray]<;>rfl
def rSlL(K:PySem.W.Frag):V→Option Int→Option Int→Hp→VK→Prop:=fun x lo hi H Q=>∃ a xs,x=.ref a∧SqL K H a xs∧∀ p,H p=none→Q (.ref p) (upd H p (.lst (cutV xs lo hi)))
theorem sl_list:SlR X (rSlL X.K):=by
 intro pins s σ H x v vl vu lo hi sl Q I rx hs pl pu h
 obtain⟨a,xs,rfl,hx,q⟩:=h
 cases rx
 obtain⟨its,r,ht,hz⟩:=I.list hx
 have hlen:=r.length
 refine⟨"list", _,slot_list_getitem.lookup,ht.isList.typeIs,?_⟩
 refine wpAny_getItem_list_slice ht.isList hs pl pu .none (by simp) ?_ (by rw[List.size_toArray]<;>omega)
 rw[slicePick_cut,← hlen]
 refine⟨.ref s.heap.objs.size,_,I.laid (t':=s.toks) (o:=.lst (cutV xs lo hi)) (fun b ob q=>Heap.get?_push_of_some _ q) (Nat.le_refl _) ?_,rfl,q _ (I.hok.fresh (Nat.le_refl _))⟩
 exact⟨Nat.le_trans (cutV_length xs lo hi) hz,_,0,(r.drop (HT.sIx xs.length 0 lo)).take (HT.sIx xs.length xs.length hi - HT.sIx xs.length 0 lo),Heap.get?_push_size _ rfl⟩
def flatV:V→Bool
 | .non=>true
 | .bl _=>true
 | .int _=>true
 | .str _=>true
 | _=>false
def eqV:V→V→Bool
 | .non,.non=>true
 | .bl a,.bl b=>a == b
 | .bl a,.int b=>(if a then 1 else 0) == b
 | .int a,.bl b=>a == (if b then 1 else 0)
 | .int a,.int b=>a == b
 | .str a,.str b=>a == b
 | _,_=>false
theorem eqAt_V{A:Around}{s:Shared}{y x:V}{u v:Value}(ry:RelV y u)(rx:RelV x v)(fy:flatV y=true)(fx:flatV x=true):SeqAt.EqAt A s u v (eqV y x):=by
 cases y with
 | non =>
  cases ry
  cases x with
  | non=>cases rx;exact SeqAt.EqAt.same _
  | bl b=>cases rx;exact SeqAt.EqAt.none_bool b
  | int b=>obtain⟨t,rfl⟩:=rx;exact SeqAt.EqAt.none_int b t
  | str b=>obtain⟨t,rfl⟩:=rx;exact SeqAt.EqAt.none_str b t
  | _=>exact absurd (show false=true from fx) Bool.false_ne_true
 | bl a =>
  cases ry
  cases x with
  | non=>cases rx;exact SeqAt.EqAt.bool_none a
  | bl b=>cases rx;exact SeqAt.EqAt.bool_bool a b
  | int b=>obtain⟨t,rfl⟩:=rx;exact SeqAt.EqAt.bool_int a b t
  | str b=>obtain⟨t,rfl⟩:=rx;exact SeqAt.EqAt.bool_str a b t
  | _=>exact absurd (show false=true from fx) Bool.false_ne_true
 | int a =>
  obtain⟨t',rfl⟩:=ry
  cases x with
  | non=>cases rx;exact SeqAt.EqAt.int_none a t'
  | bl b=>cases rx;exact SeqAt.EqAt.int_bool a t' b
  | int b=>obtain⟨t,rfl⟩:=rx;exact SeqAt.EqAt.int_int a t' b t
  | str b=>obtain⟨t,rfl⟩:=rx;exact SeqAt.EqAt.int_str a t' b t
  | _=>exact absurd (show false=true from fx) Bool.false_ne_true
 | str a =>
  obtain⟨t',rfl⟩:=ry
  cases x with
  | non=>cases rx;exact SeqAt.EqAt.str_none a t'
  | bl b=>cases rx;exact SeqAt.EqAt.str_bool a t' b
  | int b=>obtain⟨t,rfl⟩:=rx;exact SeqAt.EqAt.str_int a t' b t
  | str b=>obtain⟨t,rfl⟩:=rx;exact SeqAt.EqAt.str_str a t' b t
  | _=>exact absurd (show false=true from fx) Bool.false_ne_true
 | _=>exact absurd (show false=true from fy) Bool.false_ne_true
def eqU(x:V)(u:Value):Bool:=match u with
 | .none=>eqV .non x
 | .bool b=>eqV (.bl b) x
 | .int i _=>eqV (.int i) x
 | .str z _=>eqV (.str z) x
 | _=>false
theorem eqU_of{x y:V}{u:Value}(r:RelV y u)(f:flatV y=true):eqU x u=eqV y x:=by
 cases y with
 | non=>cases r;rfl
 | bl b=>cases r;rfl
 | int i=>obtain⟨t,rfl⟩:=r;rfl
 | str z=>obtain⟨t,rfl⟩:=r;rfl
 | _=>exact absurd (show false=true from f) Bool.false_ne_true
theorem mem_eqAt{A:Around}{s:Shared}{x:V}{v:Value}(rx:RelV x v)(fx:flatV x=true):∀{xs:List V}{us:List Value},Vals xs us→xs.all flatV=true→∀ u∈us,SeqAt.EqAt A s u v (eqU x u)
 | _,_,.nil,_=>fun u hu=>by cases hu
 | y::xs,u::us,.cons r t,f=>fun u' hu=>by
  rw[List.all_cons,Bool.and_eq_true] at f
  rcases List.mem_cons.mp hu with rfl | hu
  ·rw[eqU_of r f.1];exact eqAt_V r rx f.1 fx
  ·exact mem_eqAt rx fx t f.2 u' hu
theorem call_len_seq:CallR X (.builtin "len") (fun xs H Q=>∃ p ys,xs=[.ref p]∧(SqL X.K H p ys∨SqT X.K H p ys)∧Q (.int ys.length) H):=by
 intro pins s σ H xs us Q I r h
 obtain⟨p,ys,rfl,hq,q⟩:=h
 obtain⟨u,rfl,rx⟩:=vals1 r
 cases rx
 have hn:=line63
 rcases hq with hq | hq
 ·obtain⟨its,r',pl,hz⟩:=I.list hq
  have hlen:=r'.length
  exact Calls.call_len_list pl.isList (by simp only[List.size_toArray]<;>omega) ⟨.int ys.length,H,I.tok _,⟨s.toks+1,by rw[List.size_toArray,hlen]⟩,q⟩
 ·obtain⟨its,r',pl,hz⟩:=I.tuple hq
  have hlen:=r'.length
  exact len_tuple pl (by simp only[List.size_toArray]<;>omega) ⟨.int ys.length,H,I.tok _,⟨s.toks+1,by rw[List.size_toArray,hlen]⟩,q⟩
theorem call_len_str:CallR X (.builtin "len") (fun xs H Q=>∃ z,xs=[.str z]∧z.length≤sizeLine∧Q (.int z.length) H):=by
 intro pins s σ H xs us Q I r h
 obtain⟨z,rfl,hz,q⟩:=h
 obtain⟨u,rfl,t,rfl⟩:=vals1 r
 have hn:=line63
 exact len_str (by omega) ⟨.int z.length,H,I.tok _,⟨_,rfl⟩,q⟩
theorem call_list_of:CallR X (.type "list") (fun xs H Q=>∃ p ys,xs=[.ref p]∧(SqL X.K H p ys∨SqT X.K H p ys)∧∀ l,H l=none→Q (.ref l) (upd H l (.lst ys))):=by
 intro pins s σ H xs us Q I r h
 obtain⟨p,ys,rfl,hq,q⟩:=h
 obtain⟨u,rfl,rx⟩:=vals1 r
 cases rx
 have fin:∀(its:List Value),Vals ys its→ys.length≤sizeLine→∀(h':Heap)(c':Nat),(∀ b o',s.heap.get? b=some o'→h'.get? b=some o') →
   h'.get? s.heap.objs.size=some { cls:=.type "list", dict:=none,data:=.seq its.toArray c',slots:=#[] }→EP X pins σ Q (.ref s.heap.objs.size) { s with heap:=h' }:=fun its r' hz h' c' kp e =>
  ⟨.ref s.heap.objs.size,_,I.laid (t':=s.toks) kp (Nat.le_refl _) (show ObjOk X.prog X.w _ h' _ (.lst ys) from ⟨hz,its,c',r',e⟩),rfl,q _ (I.hok.fresh (Nat.le_refl _))⟩
 rcases hq with hq | hq
 ·obtain⟨its,r',pl,hz⟩:=I.list hq
  have hlen:=r'.length
  obtain⟨o,ho,hc,n,hd⟩:=pl.isList
  exact call_list_seq p (.inl rfl) ho hc hd (fun h' c' kp e=>fin its r' hz h' c' kp e) (by simp only[List.size_toArray]<;>omega)
 ·obtain⟨its,r',pl,hz⟩:=I.tuple hq
  have hlen:=r'.length
  obtain⟨o,ho,hc,n,hd⟩:=pl
  exact call_list_seq p (.inr rfl) ho hc hd (fun h' c' kp e=>fin its r' hz h' c' kp e) (by simp only[List.size_toArray]<;>omega)
def tyV(K:PySem.W.Frag)(T:String)(x:V)(H:Hp):Prop:=match x with
 | .str _=>T = "str"
 | .int _=>T = "int"
 | .ref p=>(T = "list" ∧ ∃ xs,SqL K H p xs)∨(T = "tuple" ∧ ∃ o,K.lookup p=some o∧o.cls=.type "tuple" ∧ o.dict=none) ∨
   (T = "dict" ∧ ((∃ kvs,H p=some (.dK kvs))∨∃ kvs,H p=some (.dT kvs)))∨(T = "set" ∧ ∃ S n,H p=some (.set S n))
 | _=>False
theorem tyV_is{pins:List (Addr×Obj)}{σ:St}{H:Hp}{s:Shared}{T:String}{x:V}{v:Value}(I:Inv X pins σ H s)(r:RelV x v)(ty:tyV X.K T x H) :
  s.TypeIs v T∧∀ a,v=.ref a→∃ ob,s.heap.get? a=some ob∧ob.dict=none:=by
 cases x with
 | str z =>
  obtain⟨t,rfl⟩:=r
  cases (show T = "str" from ty)
  exact⟨typeIs_str s z t,fun _ e=>nomatch e⟩
 | int i =>
  obtain⟨t,rfl⟩:=r
  cases (show T = "int" from ty)
  exact⟨typeIs_int s i t,fun _ e=>nomatch e⟩
 | ref p =>
  cases r
  rcases ty with ⟨rfl,xs,hq⟩ | ⟨rfl,o,hk,hc,hd⟩ | ⟨rfl,hk⟩ | ⟨rfl,S,n,hk⟩
  ·obtain⟨its,_,pl,_⟩:=I.list hq
   refine⟨pl.isList.typeIs,fun a e=>?_⟩
   cases e
   obtain⟨o,n,e,c,hd,_⟩:=pl
   exact⟨o,e,hd⟩
  ·refine⟨⟨o,I.kIn p o hk,hc⟩,fun a e=>?_⟩
   cases e
   exact⟨o,I.kIn _ o hk,hd⟩
  ·have z:∃ o,s.heap.get? p=some o∧o.ExactDict:=by
    rcases hk with ⟨kvs,hk⟩ | ⟨kvs,hk⟩
    ·obtain⟨_,_,_,_,o,_,_,e,ex,_⟩:=I.hok p _ hk
     exact⟨o,e,ex⟩
    ·obtain⟨_,_,_,_,o,_,_,e,ex,_⟩:=I.hok p _ hk
     exact⟨o,e,ex⟩
   obtain⟨o,e,ex⟩:=z
   refine⟨⟨o,e,ex.1⟩,fun a e2=>?_⟩
   cases e2
   exact⟨o,e,ex.2.1⟩
  ·obtain⟨o,_,_,_,e,ex,_⟩:=I.hok p _ hk
   refine⟨⟨o,e,ex.1⟩,fun a e2=>?_⟩
   cases e2
   exact⟨o,e,ex.2.1⟩
 | _=>exact False.elim ty
def tBM0(K:PySem.W.Frag)(T:String)(r:V→List V→Hp→VK→Prop)(to:TE):TE:=fun σ H Q=>to σ H fun x H1=>tyV K T x H1∧r x [] H1 Q
def tBM(K:PySem.W.Frag)(T:String)(r:V→List V→Hp→VK→Prop)(to:TE)(t:TA):TE:=fun σ H Q=>to σ H fun x H1=>tyV K T x H1∧t σ H1 fun xs H2=>r x xs H2 Q
variable {o e:Expr}{es:List Expr}{to:TE}{t:TA}{name:Str}{apos cpos:Pos}{T id:String}{r:V→List V→Hp→VK→Prop}
theorem pe_bm0(pa:PlainAttrs T)(slot:Slot T name id)(hty:typeOf (.builtin id)=pure (.type "method_descriptor"))(hm:MtR X id r)(ho:PE X o to)
  (hbase:attributeBase o name X.env (eval o X.env)=eval o X.env:=by rfl) (hline:(apos.endLine == cpos.line)=true:=by rfl):PE X (.Call (.Attribute o name apos) [] [] cpos) (tBM0 X.K T r to):=by
 intro pins s σ H Q I h
 refine wpAny_Call_method0_late hbase hline (thn (ho pins s σ H _ I h) fun v s1 ⟨x,H1,I1,r1,ty,q1⟩=>?_)
 obtain⟨h1,h2⟩:=tyV_is I1 r1 ty
 exact⟨T,id,pa,slot,hty,h1,h2,Calls.callWith_builtin rfl (PySem.evalArgs_none (hm pins s1 σ H1 x [] v [] Q I1 r1 .nil q1))⟩
theorem pe_bm(pa:PlainAttrs T)(slot:Slot T name id)(hty:typeOf (.builtin id)=pure (.type "method_descriptor"))(hm:MtR X id r)(ho:PE X o to)(ha:PA X (e::es) t)
  (hbase:attributeBase o name X.env (eval o X.env)=eval o X.env:=by rfl)
  (hfew:((backTo cpos (starEach (e::es) X.env)).all (fun x=>!x.1) && (backToKw cpos (keywordEach [] X.env)).all (fun x=>x.1.isSome)
   && decide ((e::es).length+([]:List Keyword).length+(if ([]:List Keyword).isEmpty then 0 else 1) < 30))=true:=by rfl)
  (hline:(apos.endLine == cpos.line)=true:=by rfl) (hs:starEach (e::es) X.env=(false,eval e X.env)::starEach es X.env:=by rfl) (hplain:(backTo cpos (starEach es X.env)).any (·.1)=false:=by rfl) :
  PE X (.Call (.Attribute o name apos) (e::es) [] cpos) (tBM X.K T r to t):=by
 intro pins s σ H Q I h
 refine wpAny_Call_method_late hbase hfew hline rfl (thn (ho pins s σ H _ I h) fun v s1 ⟨x,H1,I1,r1,ty,q1⟩=>?_)
 obtain⟨h1,h2⟩:=tyV_is I1 r1 ty
 refine⟨T,id,pa,slot,hty,h1,h2,?_⟩
 have hA:=ha cpos pins s1 σ H1 _ I1 q1
 rw[hs] at hA ⊢
 refine Calls.callWith_builtin (by show (false || (backTo cpos (starEach es X.env)).any (·.1))=false;rw[hplain]<;>rfl) (Calls.evalArgs_plain ?_)
 exact thn hA fun us s2 ⟨vs,H2,I2,r2,q2⟩=>hm pins s2 σ H2 x vs v us Q I2 r1 r2 q2
end
end L2
namespace L2
open PySem PySem.Spec PyProof.Rows
def MtM(X:Cx)(id:String)(r:V→List V→Hp→VK→Prop):Prop :=
 ∀ (pins:List (Addr×Obj)) (s:Shared) (σ:St) (H:Hp) (x:V) (xs:List V) (v:Value) (us:List Value) (Q:VK),Inv X pins σ H s→RelV x v→Vals xs us→r x xs H Q →
  wpAny (model X.prog X.w) X.A (call (.builtin id) (v::us)) (EP X pins σ Q) X.xe s
theorem Vals.one:∀{x:V}{us:List Value},Vals [x] us→∃ u,us=[u]∧RelV x u
 | _,_,.cons r .nil=>⟨_,rfl,r⟩
theorem Vals.two:∀{x y:V}{us:List Value},Vals [x,y] us→∃ u v,us=[u,v]∧RelV x u∧RelV y v
 | _,_,_,.cons r (.cons q .nil)=>⟨_,_,rfl,r,q⟩
theorem Vals.zero:∀{us:List Value},Vals [] us→us=[]
 | _,.nil=>rfl
theorem Vals.dropLast{xs:List V}{us:List Value}(h:Vals xs us):Vals xs.dropLast us.dropLast:=by
 induction h with
 | nil=>exact .nil
 | cons r t ih =>
  cases t with
  | nil=>exact .nil
  | cons q t'=>exact .cons r ih
theorem Vals.eraseIdx:∀{xs:List V}{us:List Value}(i:Nat),Vals xs us→Vals (xs.eraseIdx i) (us.eraseIdx i)
 | _,_,_,.nil=>.nil
 | _,_,0,.cons _ t=>t
 | _,_,i+1,.cons r t=>.cons r (Vals.eraseIdx i t)
theorem Vals.reverse{xs:List V}{us:List Value}(h:Vals xs us):Vals xs.reverse us.reverse:=by
 induction h with
 | nil=>exact .nil
 | cons r t ih=>rw[List.reverse_cons,List.reverse_cons];exact Vals.append ih (.cons r .nil)
theorem Vals.rep{xs:List V}{us:List Value}(h:Vals xs us):∀ k:Nat,Vals (List.replicate k xs).flatten (List.replicate k us).flatten
 | 0=>.nil
 | k+1=>by
  rw[List.replicate_succ,List.replicate_succ,List.flatten_cons,List.flatten_cons]
  exact Vals.append h (Vals.rep h k)
theorem erase_last{α:Type}(l:List α):l.eraseIdx (l.length - 1)=l.dropLast:=by
 induction l with
 | nil=>rfl
 | cons a r ih =>
  cases r with
  | nil=>rfl
  | cons b r =>
   have e:(a::b::r).length - 1=((b::r).length - 1)+1:=by
    have h1:(a::b::r).length=r.length+2:=rfl
    have h2:(b::r).length=r.length+1:=rfl
    omega
   rw[e,List.eraseIdx_cons_succ,ih]
   all_goals rfl
theorem foldl_rep(its:List Value):∀(k:Nat)(acc:List Value),
  List.foldl (fun x1 x2=>x1++x2) acc.toArray (List.replicate k its.toArray)=(acc++(List.replicate k its).flatten).toArray
 | 0,acc=>by simp
 | k+1,acc=>by
  have e:acc.toArray++its.toArray=(acc++its).toArray:=by simp
  have e2:(acc++its)++(List.replicate k its).flatten=acc++(List.replicate (k+1) its).flatten:=by
   rw[List.replicate_succ,List.flatten_cons,List.append_assoc]
  rw[← e2,← foldl_rep its k (acc++its),← e,List.replicate_succ,List.foldl_cons]
section
variable {X:Cx}{pins:List (Addr×Obj)}{σ:St}{H:Hp}{s:Shared}{l b:Addr}{xs ys zs:List V}
theorem Inv.lset{its its':List Value}{n:Nat}{f:Array Value→Array Value}{t':Nat}(I:Inv X pins σ H s)(hH:H l=some (.lst xs))
  (e:s.heap.get? l=some { cls:=.type "list", data:=.seq its.toArray n }) (hf:f its.toArray=its'.toArray) (hv:Vals ys its') (hz:ys.length≤sizeLine) :
  Inv X pins σ (upd H l (.lst ys)) { s with heap:=s.heap.update l (Obj.mapSeq f),toks:=t' }:=by
 have q:=PySem.IsL.update e f
 rw[hf] at q
 refine I.write (x:=l) (e:=l) (by rw[hH];exact trivial) (.inl rfl) (fun b' u hb hu=>(Heap.get?_update_other s.heap (Obj.mapSeq f) (Ne.symm hb)).trans hu) ⟨_,q⟩ ?_
 exact⟨hz,its',_,hv,q⟩
theorem Inv.lnew{its:List Value}{t':Nat}(I:Inv X pins σ H s)(hv:Vals ys its)(hz:ys.length≤sizeLine) :
  Inv X pins σ (upd H s.heap.objs.size (.lst ys)) { s with heap:=s.heap.push { cls:=.type "list", data:=.seq its.toArray },toks:=t' } :=
 I.laid (fun _ _ q=>Heap.get?_push_of_some _ q) (Nat.le_refl _) ⟨hz,its,0,hv,Heap.get?_push_size _ rfl⟩
theorem Inv.fresh(I:Inv X pins σ H s):H s.heap.objs.size=none:=I.hok.fresh (Nat.le_refl _)
theorem Inv.lstM(I:Inv X pins σ H s)(hH:H l=some (.lst xs)):xs.length≤sizeLine∧∃(its:List Value)(n:Nat),Vals xs its∧xs.length=its.length∧s.heap.get? l=some { cls:=.type "list", data:=.seq its.toArray n }:=by
 obtain⟨z,its,n,r,e⟩:=I.hok l _ hH
 exact⟨z,its,n,r,r.length,e⟩
theorem notLongL{n:Nat}(h:n≤sizeLine):Builtin.List.listTooLong n=false:=by
 unfold Builtin.List.listTooLong
 exact decide_eq_false (by omega)
end
section
variable {X:Cx}
def rAppend:V→List V→Hp→VK→Prop:=fun x vs H Q=>∃ l xs y,x=.ref l∧vs=[y]∧H l=some (.lst xs)∧xs.length < sizeLine∧Q .non (upd H l (.lst (xs++[y])))
theorem mt_append:MtM X "list.append" rAppend:=by
 intro pins s σ H x vs v us Q I rx rv h
 obtain⟨l,xs,y,rfl,rfl,hH,hz,q⟩:=h
 cases rx
 obtain⟨u,rfl,ru⟩:=rv.one
 obtain⟨z,its,n,r,hl,e⟩:=I.lstM hH
 refine call_meets F.slot_list_append ⟨_,e,rfl⟩ F.entry_list_append (F.args_list_append_2 _ _) (PySem.list_append l its.toArray n u (by rw[List.size_toArray];omega)) ⟨e,?_⟩
 refine⟨.non,_,I.lset (its':=its++[u]) hH e (by simp) (r.append (.cons ru .nil)) ?_,rfl,q⟩
 rw[List.length_append,List.length_singleton]
 omega
def rPop:V→List V→Hp→VK→Prop:=fun x vs H Q=>∃ l xs y,x=.ref l∧vs=[]∧H l=some (.lst xs)∧xs[xs.length - 1]?=some y∧Q y (upd H l (.lst xs.dropLast))
theorem mt_pop:MtM X "list.pop" rPop:=by
 intro pins s σ H x vs v us Q I rx rv h
 obtain⟨l,xs,y,rfl,rfl,hH,hy,q⟩:=h
 cases rx
 have hus:=rv.zero
 subst hus
 obtain⟨z,its,n,r,hl,e⟩:=I.lstM hH
 obtain⟨u,hu,ru⟩:=r.get hy
 have hy':its.toArray[its.toArray.size - 1]?=some u:=by
  show its.toArray[its.length - 1]?=some u
  rw[← Array.getElem?_toList,← hl]
  exact hu
 refine call_meets F.slot_list_pop ⟨_,e,rfl⟩ F.entry_list_pop (F.args_list_pop_1 _) (MeetsSeq.list_pop_last l its.toArray n u hy' (by rw[List.size_toArray];omega)) ⟨e,?_⟩
 refine⟨y,_,I.lset (its':=its.dropLast) hH e ?_ r.dropLast ?_,ru,q⟩
 ·show its.toArray.eraseIdxIfInBounds (its.toArray.size - 1)=its.dropLast.toArray
  rw[List.size_toArray,List.eraseIdxIfInBounds_toArray,erase_last]
 ·rw[List.length_dropLast]
  omega
def rCat:R2:=fun x y H Q=>∃ l b xs zs,x=.ref l∧y=.ref b∧H l=some (.lst xs)∧H b=some (.lst zs)∧xs.length+zs.length≤sizeLine∧∀ p,H p=none→Q (.ref p) (upd H p (.lst (xs++zs)))
theorem op_cat:OpR X (binaryOp .Add) rCat:=by
 intro pins s σ H x y v u Q I rx ry h
 obtain⟨l,b,xs,zs,rfl,rfl,hH,hB,hz,q⟩:=h
 cases rx
 cases ry
 obtain⟨z,its,n,r,hl,e⟩:=I.lstM hH
 obtain⟨z2,its2,n2,r2,hl2,e2⟩:=I.lstM hB
 refine PySem.P.add_list e e2 ?_ (by rw[List.size_toArray,List.size_toArray];omega)
 have ea:its.toArray++its2.toArray=(its++its2).toArray:=by simp
 rw[ea]
 exact⟨.ref _,_,I.lnew (t':=s.toks) (r.append r2) (by rw[List.length_append];omega),rfl,q _ I.fresh⟩
def rRep:R2:=fun x y H Q=>∃ l k xs,x=.ref l∧y=.int k∧H l=some (.lst xs)∧-(2 ^ 63)≤k∧k < 2 ^ 63∧xs.length*k.toNat≤sizeLine ∧
 ∀ p,H p=none→Q (.ref p) (upd H p (.lst (List.replicate k.toNat xs).flatten))
theorem len_rep{α:Type}(xs:List α)(k:Nat):(List.replicate k xs).flatten.length=k*xs.length:=by
 induction k with
 | zero=>simp
 | succ k ih=>rw[List.replicate_succ,List.flatten_cons,List.length_append,ih,Nat.succ_mul,Nat.add_comm]
theorem op_rep:OpR X (binaryOp .Mult) rRep:=by
 intro pins s σ H x y v u Q I rx ry h
 obtain⟨l,k,xs,rfl,rfl,hH,h1,h2,hz,q⟩:=h
 cases rx
 obtain⟨t,rfl⟩:=ry
 obtain⟨z,its,n,r,hl,e⟩:=I.lstM hH
 have hlen:its.toArray.size*k.toNat≤sizeLine:=by rw[List.size_toArray,← hl];exact hz
 have hcap:¬ its.toArray.size*k.toNat > (2 ^ 63 - 1) / 8:=by
  have:(sizeLine:Nat)≤(2 ^ 63 - 1) / 8:=by decide
  omega
 have hfit:¬ (!Builtin.List.listFitsIndex k)=true:=by
  rw[fitsIndex_both h1 h2]
  exact Bool.false_ne_true
 have hlong:¬ Builtin.List.listTooLong (its.toArray.size*k.toNat)=true:=by
  rw[notLongL hlen]
  exact Bool.false_ne_true
 have hnew:List.foldl (fun x1 x2=>x1++x2) #[] (List.replicate (if its.toArray.isEmpty=true then 0 else k.toNat) its.toArray)=(List.replicate k.toNat its).flatten.toArray:=by
  have f0:∀ m:Nat,List.foldl (fun x1 x2=>x1++x2) #[] (List.replicate m its.toArray)=(List.replicate m its).flatten.toArray:=fun m=>by
   have:=foldl_rep its m []
   rw[List.nil_append] at this
   exact this
  rw[f0]
  cases its with
  | nil=>simp
  | cons a r'=>rw[if_neg (by simp)]
 refine wpAny_binaryOp_repeat_ref (T := "list") (U := "int") (by decide) ⟨_,e,rfl⟩ (fun s'=>typeIs_int s' k t) noFill_list_mul F.fills_int_mul F.slot_int_rmul repeat_list F.slot_int_index.lookup
  (call_meets F.slot_int_rmul (typeIs_int s k t) F.entry_int_rmul (F.args_int_rmul_2 _ _) (int___rmul___int_list k t l its.toArray n)
   ⟨e,rfl,⟨_,e,rfl⟩,call_meets F.slot_list_mul ⟨_,e,rfl⟩ F.entry_list_mul (F.args_list_mul_2 _ _) (AutoListH.list___mul___list_int_3 l its.toArray n k t hfit hcap hlong) ⟨e,?_⟩⟩)
 rw[hnew]
 exact⟨.ref _,_,I.lnew (t':=s.toks) (r.rep k.toNat) (by rw[len_rep,Nat.mul_comm];exact hz),rfl,q _ I.fresh⟩
end
section
variable {prog:Program}{w:World}{A:Around}{E:Value→Shared→Prop}{s:Shared}
end
section
variable {X:Cx}
end
end L2
namespace Att
open PySem PySem.W PySem.Calls PyProof.Rows
theorem ints_of_wellAll{P:Params}{h:Heap}:∀(ns:List Int)(vs:List Value),WellAll P h vs (ns.map WData.int)→IntsAre vs ns:=by
 intro ns
 induction ns with
 | nil =>
  intro vs w
  rw[List.map_nil] at w
  cases w
  exact .nil
 | cons n ns ih =>
  intro vs w
  rw[List.map_cons] at w
  cases w with
  | cons a b =>
   cases a
   exact .cons _ _ (ih _ b)
theorem script_of{l:OpenLaw}{n:Nat}(hn:l.most=some n){P:Params}{h:Heap}{args:List WData}{vals:List Value}
  (hpre:l.row.toRowW.claim.pre args=true) (hwl:WellAll P h vals args) :
  ∃ a vs ns,vals=[Value.ref a]∧args=[WData.list (ns.map WData.int)]∧h.get? a=some { cls:=.type "list", data:=.seq vs.toArray }∧IntsAre vs ns∧ns.length≤n:=by
 have hsh:WShape.hasAll [] args [.list .int]=true:=(pre_splitW hpre).1
 have hc:l.pre.holds [] { args:=args }=true:=(pre_splitW hpre).2
 obtain⟨d,r,rfl,h1,h2⟩:=hasAllW_cons hsh
 obtain rfl:=hasAllW_nil h2
 obtain⟨xs,rfl,h3⟩:=hasW_list h1
 obtain⟨ns,rfl⟩:=items_int h3
 have hlen:ns.length≤n:=by
  unfold OpenLaw.pre at hc
  have h4:(WTm.not (.lt (.lit (.int (n:Int))) (.len (.arg 0)))).holds [] { args:=[.list (ns.map .int)] }=true:=by
   have h4:=(holds_andW hc).1
   rw[hn] at h4
   exact h4
  have h5:=condW_of h4 (w_not (w_lt w_lit (w_len_list (w_arg rfl))))
  rw[List.length_map] at h5
  refine Nat.le_of_not_lt fun q=>?_
  have q':(n:Int) < ((ns.length:Nat):Int):=by omega
  first
   | (rw[decide_eq_true q'] at h5;exact absurd h5 (by decide))
   | (simp at h5;omega)
 cases hwl with
 | cons w1 w2 =>
  cases w2
  cases w1 with
  | list ho hall=>exact⟨_,_,ns,rfl,rfl,ho,ints_of_wellAll ns _ hall,hlen⟩
theorem post_true(l:OpenLaw)(args:List WData):l.row.toRowW.claim.post args (.bool true) args=true :=
 postW_of (r:=l.row.toRowW) (X:=(true == true))
  (show WShape.has [] (.bool true) .bool=true by first | rfl | decide | simp[WShape.has,WShape.arms,WShape.armsAll])
  (show (WTm.eq .res (.lit (.bool true))).value [] { args:=args,res:=some (.bool true),after:=args }=some (.bool (true == true)) from w_eq_bool (w_res rfl) w_lit) rfl
theorem attach_call{l:OpenLaw}{n:Nat}{q:Program}{loose:List Str}{XP:(Str→Option Value)→Heap→Prop}{YP:World→Heap→Prop}{d:DefRec}
  (hn:l.most=some n) (hdf:d.params.defaults=[])
  (call:∀(w:World)(s₀ s₁:Shared)(mg mb:Str→Option Value)(fa:Addr)(o:Obj)(pm cd doc:Value)(a:Addr)(vs:List Value)(ns:List Int),
   Ground q loose [] XP w s₀ mg mb s₁.heap→YP w s₁.heap →
   s₁.heap.get? fa=some o→o.data=.func (docDef d.name d.params d.body d.scope pm cd doc)→s₁.heap.CodeRec cd d.name→mg d.name=some (.ref fa) →
   s₁.heap.get? a=some { cls:=.type "list", data:=.seq vs.toArray }→IntsAre vs ns→ns.length≤n→s₁.gens=#[] →
   codeAny (model l.prog w) callerA (.call (.ref fa) ⟨[.ref a],[]⟩) (fun r s'=>r=.ok (.ret (.bool true))∧OldK s₁.heap s'.heap∧s'.os=s₁.os∧AllBare s'.gens) s₁) :
  WalkO q loose XP YP l.row.toRowW d [] (fun f vs=>PySem.call f vs):=by
 intro w s₀ s₁ mg mb G Y fa o pm cd doc dV kV ho hd hcd hD hmg hg args vals as hpre hlay hrd hwl hlo
 obtain rfl:dV=.none:=Dflts.none hD hdf
 obtain rfl:kV=.none:=Dflts.noKw hD
 obtain⟨a,vs,ns,rfl,rfl,hobj,hints,hlen⟩:=script_of hn hpre hwl
 refine enter_call (codeAny_mono (call w s₀ s₁ mg mb fa o pm cd doc a vs ns G Y ho (fd_plain hd) hcd hmg hobj hints hlen hg) fun r s' hq=>?_)
 obtain⟨rfl,h2,h3,h4⟩:=hq
 exact⟨.inl ⟨.bool true,.bool true,[],rfl,fun _=>rfl,.bool true,post_true l _,fun _=>⟨List.Pairwise.nil,fun _ hm=>(nomatch hm)⟩⟩,h2,h3,h4⟩
section
variable {prog:Program}{w:World}{A:Around}{E:Value→Shared→Prop}{s:Shared}{K:Frag}
end
end Att
namespace L2
open PySem PySem.Spec PyProof.Rows
theorem vals_ints:∀{vs:List Value}{ns:List Int},IntsAre vs ns→Vals (ns.map V.int) vs
 | _,_,.nil=>.nil
 | _,_,.cons n t h=>.cons ⟨t,rfl⟩ (vals_ints h)
def Only(H:Hp):Prop:=∀ b,H b=none∨∃ o xs,H b=some (.frz o (.lst xs))
theorem law_call{P:Program}{w:World}{K:PySem.W.Frag}{mg mb:Str→Option Value}{CX:CXT}{k:Nat}{fa a:Addr}{fd:FuncData}{x:Str}{sp:Sp}{s₁:Shared}{vs:List Value}{ns:List Int}
  (KX:K.In s₁.heap) (hns:s₁.heap.Ns mainGlobals mg) (hb:s₁.heap.Ns builtinsNs mb) (hbb:∀ x:Str,x ≠ "__name__" → mb x=bootBuiltins x) (hlim:s₁.heap.NoLimit) (hg:s₁.gens=#[])
  (ha:s₁.heap.get? a=some { cls:=.type "list", data:=.seq vs.toArray }) (hi:IntsAre vs ns) (hl:ns.length≤sizeLine) (hr:Room k callerA)
  (F:∀ base:Heap,K.In base→base.Ns mainGlobals mg→FnOk P w K mg base CX k fa fd [x] sp) (hbind:∀(s:Shared)(u:Value),BindsTo s fd ⟨[u],[]⟩ [(x,u)])
  (hsp:∀ H:Hp,Only H→SqL K H a (ns.map V.int)→sp [.ref a] H (fun v _=>v=.bl true) fun _ _ _=>False)
  (hCX:∀ H e s',CX [] H s₁ (fun _ _ _=>False) e s'→False) :
  codeAny (model P w) callerA (.call (.ref fa) ⟨[.ref a],[]⟩) (fun r s'=>r=.ok (.ret (.bool true))∧OldK s₁.heap s'.heap∧s'.os=s₁.os∧AllBare s'.gens) s₁:=by
 have rv:=vals_ints hi
 have lenV:=hi.length
 have core:∀ H:Hp,Only H→SqL K H a (ns.map V.int)→HOk P w H s₁.heap→(∀ b,H b≠none→b=a)→(H a≠none→K.lookup a=none) →
   codeAny (model P w) callerA (.call (.ref fa) ⟨[.ref a],[]⟩) (fun r s'=>r=.ok (.ret (.bool true))∧OldK s₁.heap s'.heap∧s'.os=s₁.os∧AllBare s'.gens) s₁:=by
  intro H hO hS hok hA hK
  have base_of:∀{b:Addr}{o:Obj},s₁.heap.get? b=some o→H b=none→(hidT s₁.heap H).get? b=some o:=fun e n=>hidT_get e n
  have noA:∀{b:Addr}{o:Obj}{es:Array DictEntry}{ep:Nat},s₁.heap.get? b=some o→o.data=.dict es ep→H b=none:=fun {b o es ep} e d=>by
   cases q:H b with
   | none=>rfl
   | some u =>
    have e':b=a:=hA b (by rw[q];simp)
    subst e'
    rw[ha] at e;cases e
    have d':Data.seq vs.toArray _=Data.dict es ep:=d
    cases d'
  have nsK:∀{b:Addr}{m:Str→Option Value},s₁.heap.Ns b m→(hidT s₁.heap H).Ns b m:=fun {b m} ⟨o,es,ep,e,d,r⟩=>⟨o,es,ep,base_of e (noA e d),d,r⟩
  have hKb:K.In (hidT s₁.heap H):=fun b o e=>base_of (KX b o e) (by
   cases q:H b with
   | none=>rfl
   | some u =>
    have e':b=a:=hA b (by rw[q];simp)
    subst e'
    rw[hK (by rw[q];simp)] at e;cases e)
  have hM:Mod K mg (hidT s₁.heap H):=⟨hKb,nsK hns,⟨mb,nsK hb,hbb⟩,let ⟨mc,h1,h2⟩:=hlim;⟨mc,nsK h1,h2⟩⟩
  have e0:Env0 P w K mg (hidT s₁.heap H) callerA [] s₁ H:=⟨rfl,hM,fun b o e=>of_hidT e,Nat.le_of_eq (hidT_size _ _),trivial,fun b hb=>absurd (show b∈([]:List Addr) from hb) (by simp),hok,.of_eq hg⟩
  refine codeAny_mono ((F _ hKb (nsK hns)).run callerA [] s₁ H ⟨[.ref a],[]⟩ [.ref a] [.ref a] _ _ hr e0 (hbind s₁ (.ref a)) (.cons rfl .nil) (hsp H hO hS)) fun r s' h=>?_
  cases r with
  | error e=>exact (hCX H e s' h).elim
  | ok fl =>
   cases fl with
   | next=>exact False.elim h
   | brk=>exact False.elim h
   | cont=>exact False.elim h
   | ret u =>
    obtain⟨v,H',os,bare,un,hok',r',q⟩:=h
    have q':v=.bl true:=q
    subst q'
    obtain rfl:u=Value.bool true:=r'
    refine⟨rfl,OldK.of_keep fun b o e=>?_,os,bare⟩
    cases q:H b with
    | none=>exact un.keep b o e q (by intro z;exact absurd (show b∈([]:List Addr) from z) (by simp)) (by simp)
    | some u =>
     rcases hO b with z | ⟨ob,xs,z⟩
     ·rw[q] at z;cases z
     ·have z2:=un.frzs b ob _ z
      obtain⟨e1,_⟩:=hok b _ z
      obtain⟨e2,_⟩:=hok' b _ z2
      rw[e] at e1;cases e1
      exact e2
 cases hk:K.lookup a with
 | some o =>
  have e:=KX a o hk
  rw[ha] at e
  cases e
  refine core (fun _=>none) (fun _=>.inl rfl) (.inr ⟨_,vs.toArray,_,hk,rfl,rfl,rfl,by rw[List.size_toArray,lenV];exact hl,by simpa using rv⟩) (fun b u z=>by have z':(none:Option HO)=some u:=z;cases z') (fun b z=>absurd rfl z) fun z=>absurd rfl z
 | none =>
  refine core (fun b=>if b=a then some (.frz { cls:=.type "list", data:=.seq vs.toArray } (.lst (ns.map V.int))) else none) (fun b=>?_) (.inl (.inr ⟨{ cls:=.type "list", data:=.seq vs.toArray },if_pos rfl⟩)) (fun b u z=>?_) (fun b z=>?_) fun _=>hk
  ·by_cases hb:b=a
   ·exact .inr ⟨_,_,if_pos hb⟩
   ·exact .inl (if_neg hb)
  ·by_cases hb:b=a
   ·have z':=(if_pos hb).symm.trans z
    cases z'
    subst hb
    exact⟨ha,by rw[List.length_map];exact hl,vs,_,rv,ha⟩
   ·have z':=(if_neg hb).symm.trans z
    cases z'
  ·by_cases hb:b=a
   ·exact hb
   ·exact absurd (if_neg hb) z
end L2
namespace L2
open PySem PySem.Spec PyProof.Rows
theorem walk_of{l:PySem.W.OpenLaw}{n k:Nat}{q:Program}{loose:List Str}{XP:(Str→Option Value)→Heap→Prop}{YP:World→Heap→Prop}{d:DefRec}{K:Params→PySem.W.Frag}{CX:World→CXT}{sp:World→Sp}{x:Str}
  (hn:l.most=some n) (hn2:n≤sizeLine) (hdf:d.params.defaults=[]) (hr:Room k callerA)
  (hY:∀(w:World)(h:Heap),YP w h→(K w.params).In h)
  (F:∀(w:World)(mg:Str→Option Value)(fa:Addr)(h:Heap),(K w.params).In h→h.Ns mainGlobals mg→mg d.name=some (.ref fa) →
   ∃ fd:FuncData,(∀(s:Shared)(u:Value),BindsTo s fd ⟨[u],[]⟩ [(x,u)]) ∧
    ∀ base:Heap,(K w.params).In base→base.Ns mainGlobals mg→FnOk l.prog w (K w.params) mg base (CX w) k fa fd [x] (sp w))
  (hsp:∀(w:World)(H:Hp)(a:Addr)(ns:List Int),ns.length≤n→Only H→SqL (K w.params) H a (ns.map V.int)→sp w [.ref a] H (fun v _=>v=.bl true) fun _ _ _=>False)
  (hCX:∀(w:World)(H:Hp)(s:Shared)(e:Value)(s':Shared),CX w [] H s (fun _ _ _=>False) e s'→False) :
  PySem.W.WalkO q loose XP YP l.row.toRowW d [] (fun f vs=>PySem.call f vs):=by
 refine Att.attach_call hn hdf fun w s₀ s₁ mg mb fa o pm cd doc a vs ns G Y ho hd hcd hmg hobj hints hlen hg=>?_
 have KX:=hY w _ Y
 obtain⟨fd,hb,hF⟩:=F w mg fa _ KX G.T.g hmg
 exact law_call KX G.T.g G.T.b G.T.builtins G.T.nolimit hg hobj hints (Nat.le_trans hlen hn2) hr hF hb (fun H hO hS=>hsp w H a ns hlen hO hS) fun H e s'=>hCX w H s₁ e s'
end L2
namespace L2
open PySem PySem.Spec PyProof.Rows
def inClass(s:Stmt)(j:Nat):Stmt:=match s with
 | .ClassDef _ _ _ body _ _ _ _ _ _ _=>body.getD j (.Pass ⟨0,0,0,0⟩)
 | _=>.Pass ⟨0,0,0,0⟩
def defArgs(s:Stmt):Arguments:=match s with
 | .FunctionDef _ a _ _ _ _ _ _ _ _=>a
 | _=>{ posonlyargs:=[],args:=[],vararg:=none,kwonlyargs:=[],kw_defaults:=[],kwarg:=none,defaults:=[] }
def defBody(s:Stmt):List Stmt:=match s with
 | .FunctionDef _ _ b _ _ _ _ _ _ _=>b
 | _=>[]
def defScope(s:Stmt):Scope:=match s with
 | .FunctionDef _ _ _ _ _ _ sc _ _ _=>sc
 | _=>{ kind:=.function,names:=[],isGenerator:=false,isCoroutine:=false }
abbrev CX0:CXT:=fun _ _ _ _ _ _=>False
abbrev E0:XK:=fun _ _ _=>False
theorem pass0{X:Cx}:Passes CX0 X E0:=fun _ _ _ _ _ _ _ h=>h.elim
structure Fun(K:PySem.W.Frag)(x qual:Str)(st:Stmt)(f:Addr)(fd:FuncData):Prop where
 ex:∃(oc:Value)(od:Option Addr)(kV doc pm:Value)(an:Option Addr)(cdv ct:Value) (osl:Array (Option Value)),
  fd=PySem.W.fnOf x qual (defArgs st) (defBody st) (defScope st) .none kV doc pm an cdv ct∧K.lookup f=some ⟨oc,od,.func fd,osl⟩∧PySem.W.codeIn K cdv qual=true
 kp:PySem.W.keepIn K (.ref f)=true
section
variable {P:Program}{w:World}{K:PySem.W.Frag}{mg:Str→Option Value}{base:Heap}
theorem Fun.ok{x qual:Str}{st:Stmt}{f:Addr}{fd:FuncData}{N ps:List Str}{k:Nat}{sp:Sp}(F:Fun K x qual st f fd)(S:FnScope N ps (defScope st))(len:∀ vs H Q E,sp vs H Q E→vs.length=ps.length)
  (hbody:∀(cdv:Value)(A:Around)(outer:List Env)(s:Shared)(H:Hp)(vs:List V)(Q:VK)(E:XK),Room k (A.deeper (envOfC qual (defScope st) s.heap.objs.size f cdv))→sp vs H Q E →
   ∃ t,PSs (cxOf CX0 P w K mg base N qual (defScope st) f cdv A outer s H E).nox (defBody st) t∧t { nx:=fun _ H'=>Q .non H',rt:=Q } (start N vs) H):FnOk P w K mg base CX0 (k+1) f fd ps sp:=by
 obtain⟨oc,od,kV,doc,pm,an,cdv,ct,osl,rfl,lk,hcd⟩:=F.ex
 refine fn_of lk hcd S len fun A outer s H vs Q E hr hsp=>?_
 obtain⟨t,h,q⟩:=hbody cdv A outer s H vs Q E hr hsp
 exact⟨t,h.nox,q⟩
theorem Fun.binds{x qual:Str}{st:Stmt}{f:Addr}{fd:FuncData}{ps:List Str}(F:Fun K x qual st f fd)
  (h:∀(kV doc pm:Value)(an:Option Addr)(cdv ct:Value)(us:List Value),us.length=ps.length→bindArgs (PySem.W.fnOf x qual (defArgs st) (defBody st) (defScope st) .none kV doc pm an cdv ct) ⟨us,[]⟩=pure (ps.zip us)):Binds K fd ps []:=by
 obtain⟨oc,od,kV,doc,pm,an,cdv,ct,osl,rfl,lk,hcd⟩:=F.ex
 exact .all (h kV doc pm an cdv ct)
theorem fun_mk{x qual:Str}{st:Stmt}{f:Addr}{oc:Value}{od an:Option Addr}{osl:Array (Option Value)}{kV doc pm cdv ct:Value}(l:K.lookup f=some ⟨oc,od,.func (PySem.W.fnOf x qual (defArgs st) (defBody st) (defScope st) .none kV doc pm an cdv ct),osl⟩)
  (c:PySem.W.codeIn K cdv qual=true) (k:PySem.W.keepIn K (.ref f)=true):Fun K x qual st f (PySem.W.fnOf x qual (defArgs st) (defBody st) (defScope st) .none kV doc pm an cdv ct):=⟨⟨oc,od,kV,doc,pm,an,cdv,ct,osl,rfl,l,c⟩,k⟩
end
theorem hu_of{A:Around}{k:Nat}(hr:Room k A):A.units+1 < cLine:=Nat.lt_of_le_of_lt (Nat.add_le_add_left (by decide:1≤64) _) hr.units
theorem small1000{n:Nat}(h:n≤1000):n < sizeLine:=Nat.lt_of_le_of_lt h (by decide)
section
variable {X:Cx}
end
def Same(H H':Hp):Prop:=∀ b o,H b=some o→H' b=some o
theorem Same.refl(H:Hp):Same H H:=fun _ _ h=>h
theorem Same.trans{H H1 H2:Hp}(a:Same H H1)(b:Same H1 H2):Same H H2:=fun c o h=>b c o (a c o h)
theorem Same.free{H H':Hp}(e:Same H H'){l:Addr}(h:H' l=Option.none):H l=Option.none:=by
 cases q:H l with
 | none=>rfl
 | some o =>
  rw[e l o q] at h
  cases h
theorem Same.seq{K:PySem.W.Frag}{H H':Hp}{a:Addr}{xs:List V}(e:Same H H')(h:SqL K H a xs):SqL K H' a xs:=by
 rcases h with (h | ⟨o,h⟩) | h
 ·exact .inl (.inl (e _ _ h))
 ·exact .inl (.inr ⟨o,e _ _ h⟩)
 ·exact .inr h
end L2
namespace L2
open PySem PySem.Spec PyProof.Rows
section
variable {P:Program}{w:World}{H H':Hp}{h h':Heap}{a:Addr}{o:HO}
theorem ObjOk.there(x:ObjOk P w H h a o):∃ ob,h.get? a=some ob:=by
 induction o with
 | lst xs=>obtain⟨_,its,n,_,e⟩:=x;exact⟨_,e⟩
 | tup xs=>obtain⟨_,its,_,ob,e,_⟩:=x;exact⟨_,e⟩
 | dK kvs=>obtain⟨_,_,vs,_,ob,es,ep,e,_⟩:=x;exact⟨_,e⟩
 | dT kvs=>obtain⟨_,_,xs,_,ob,es,ep,e,_⟩:=x;exact⟨_,e⟩
 | set S n=>obtain⟨ob,es,ep,tb,e,_⟩:=(x:h.SetOf (intKind P w) a S n);exact⟨_,e⟩
 | ins C dx fs=>obtain⟨_,_,_,e,_⟩:=x;exact⟨_,e⟩
 | own x'=>exact x
 | xd fs=>obtain⟨mA,⟨ob,es,ep,e,_⟩,_⟩:=x;exact⟨_,e⟩
 | met f y=>exact⟨_,x⟩
 | rng lo hi=>obtain⟨t,u,v,e⟩:=x;exact⟨_,e⟩
 | frz ob u ih=>exact⟨_,x.1⟩
 | tbl ps=>exact⟨_,x⟩
 | ext φ=>exact x.2.1
theorem HOk.stays(x:HOk P w H h)(k:∀ b u,H b≠none→h.get? b=some u→h'.get? b=some u):HOk P w H h':=fun a o e =>
 (x a o e).stay (fun b u hb q=>k b u (by
  rcases hb with z | z
  ·rw[z,e];exact Option.some_ne_none _
  ·rw[z];exact Option.some_ne_none _) q) (fun _ q=>q) fun _ _ q=>q
end
def Fly(outer:List Env)(H':Hp)(h₀ h':Heap)(e:Addr)(cls:Value):Prop :=
 ∃ B a0,Heap.FlyingW B outer e cls a0 h'∧∀ b o,h'.get? b=some o→(H' b≠none∨∃ o₀,h₀.get? b=some o₀)→b∉frs outer→B.get? b=some o
def CXR(P:Program)(w:World):CXT:=fun outer H s E e s'=>∃ ea cls H',e=.ref ea∧s'.os=s.os∧AllBare s'.gens∧Un (frs outer) [] H H' s.heap s'.heap∧HOk P w H' s'.heap∧Fly outer H' s.heap s'.heap ea cls∧E cls none H'
theorem frs_cons{env:Env}{l:List Env}{L:Addr}(hf:env.frame=some L){b:Addr}:b∈frs (env::l)↔b=L∨b∈frs l:=by
 unfold frs
 rw[List.filterMap_cons,hf]
 exact List.mem_cons
theorem Un.onSlots{fs fs':List Addr}{H H1:Hp}{h h1 h2:Heap}(u:Un fs [] H H1 h h1)(hsub:∀ b o,h.get? b=some o→b∈fs'→b∈fs)
  (k:∀ b o,(∃ o₀,h.get? b=some o₀)→h1.get? b=some o→b∉fs'→h2.get? b=some o) (sl:∀ b o,h1.get? b=some o→b∈fs'→∃ sl,h2.get? b=some { o with slots:=sl }):Un fs [] H H1 h h2 where
 keep:=fun b o e n hb hx=>k b o ⟨o,e⟩ (u.keep b o e n hb hx) fun z=>hb (hsub b o e z)
 slot:=fun b o e n hb hx=>by
  obtain⟨s1,e1⟩:=u.slot b o e n hb hx
  by_cases z:b∈fs'
  ·obtain⟨s2,e2⟩:=sl b _ e1 z
   exact⟨s2,e2⟩
  ·exact⟨s1,k b _ ⟨o,e⟩ e1 z⟩
 free:=u.free
 there:=fun b o e hx=>by
  obtain⟨o1,e1⟩:=u.there b o e hx
  by_cases z:b∈fs'
  ·obtain⟨s2,e2⟩:=sl b _ e1 z
   exact⟨_,e2⟩
  ·exact⟨_,k b _ ⟨o,e⟩ e1 z⟩
 tups:=u.tups
 frzs:=u.frzs
 tbls:=u.tbls
section
variable {P:Program}{w:World}{K:PySem.W.Frag}{mg:Str→Option Value}{base:Heap}{N:List Str}{qual:Str}{scope:Scope}{f:Addr}{cd:Value}{A:Around}{outer:List Env}{s:Shared}{H:Hp}{E:XK}
abbrev cxR(P:Program)(w:World)(K:PySem.W.Frag)(mg:Str→Option Value)(base:Heap)(N:List Str)(qual:Str)(scope:Scope)(f:Addr)(cd:Value)(A:Around)(outer:List Env)(s:Shared)(H:Hp)(E:XK):Cx :=
 cxOf (CXR P w) P w K mg base N qual scope f cd A outer s H E
theorem frame_slots{l:List Env}{B h h':Heap}(hl:h.FunFrames B l)(k:h.UpToSlots h'){b:Addr}{o:Obj}(hb:b∈frs l)(e:h.get? b=some o):∃ sl,h'.get? b=some { o with slots:=sl }:=by
 obtain⟨_,o',e',nf⟩:=hl.mem hb
 rw[e] at e'
 cases e'
 exact k b o e nf
theorem raised_xe{pins:List (Addr×Obj)}{σ:St}{H1:Hp}{s1:Shared}{h2:Heap}{e:Addr}{cls:Value}{vs:List Value}
  (I:Inv (cxR P w K mg base N qual scope f cd A outer s H E) pins σ H1 s1) (hx:Heap.MadeExcOf s1.heap h2 e cls vs) (hE:E cls none H1) :
  (cxR P w K mg base N qual scope f cd A outer s H E).xe (.ref e) { s1 with heap:=h2 }:=by
 have hF:=I.stack
 have hin:∀ env∈(envOfC qual scope s.heap.objs.size f cd::outer),∀ b,env.frame=some b→b∈(envOfC qual scope s.heap.objs.size f cd::outer).filterMap (·.frame):=fun env he b hb=>List.mem_filterMap.mpr ⟨env,he,hb⟩
 have hfr:(envOfC qual scope s.heap.objs.size f cd).frame=some s.heap.objs.size:=rfl
 refine wpAny_leaves_madeW (s:={ s1 with heap:=h2 }) (base:=PySem.W.hideAll s1.heap ((envOfC qual scope s.heap.objs.size f cd::outer).filterMap (·.frame))) (h:=s1.heap) I.ok.frames hfr (fun b o q=>PySem.W.of_hideAll _ q) (PySem.W.funFrames_hide hF hin) hx fun h' t x1 x2 x3 x4=>?_
 have k1:∀ b o,s1.heap.get? b=some o→b∉frs (envOfC qual scope s.heap.objs.size f cd::outer)→h'.get? b=some o:=fun b o q n=>x1.1 b o (PySem.W.hideAll_get _ q n)
 have hF2:h2.FunFrames base (envOfC qual scope s.heap.objs.size f cd::outer):=hF.of_keeps fun b o q _=>⟨o,hx.keeps b o q,rfl⟩
 have k2:∀ b o,s1.heap.get? b=some o→b∈frs (envOfC qual scope s.heap.objs.size f cd::outer)→∃ sl,h'.get? b=some { o with slots:=sl }:=fun b o q n=>frame_slots hF2 x4 n (hx.keeps b o q)
 have old:∀ b o,s.heap.get? b=some o→b∈frs (envOfC qual scope s.heap.objs.size f cd::outer)→b∈frs outer:=fun b o q z=>by
  rcases (frs_cons hfr).mp z with z | z
  ·rw[z] at q
   exact absurd (Heap.lt_size q) (Nat.lt_irrefl _)
  ·exact z
 have un:Un (frs outer) [] H H1 s.heap h':=Un.onSlots (show Un (frs outer) [] H H1 s.heap s1.heap from I.base) old (fun b o _=>k1 b o) k2
 refine⟨e,cls,H1,rfl,I.os,I.bare,un,I.hok.stays fun b u n q=>k1 b u q fun z=>n (I.stkFree b z),⟨_,_,x1,fun b o q hb hn=>?_⟩,hE⟩
 have hs:b∉frs (envOfC qual scope s.heap.objs.size f cd::outer):=fun z=>by
  rcases hb with hb | ⟨o₀,hb⟩
  ·exact hb (I.stkFree b z)
  ·exact hn (old b o₀ hb z)
 have h1:∃ o1,s1.heap.get? b=some o1:=by
  rcases hb with hb | ⟨o₀,hb⟩
  ·cases q':H1 b with
   | none=>exact absurd q' hb
   | some u=>exact (I.hok b u q').there
  ·exact I.base.there b o₀ hb (by intro z;exact absurd (show b∈([]:List Addr) from z) (by simp))
 obtain⟨o1,h1⟩:=h1
 have:=k1 b o1 h1 hs
 rw[q] at this
 cases this
 exact PySem.W.hideAll_get _ h1 hs
theorem fly_on{X:Cx}{pins:List (Addr×Obj)}{σ:St}{H1 H2:Hp}{s1:Shared}{h2 h3 B:Heap}{e:Addr}{cls a0:Value}(I:Inv X pins σ H1 s1)(u:Un (frs X.stack) [] H1 H2 s1.heap h2)(hok:HOk X.prog X.w H2 h2)
  (fl:Heap.FlyingW B X.stack e cls a0 h2) (hB:∀ b o,h2.get? b=some o→(H2 b≠none∨∃ o₀,s1.heap.get? b=some o₀)→b∉frs X.stack→B.get? b=some o) (st:B.StaysIn h3) (sm:h2.UpToSlots h3) :
  Un (frs X.stack) [] H1 H2 s1.heap h3∧HOk X.prog X.w H2 h3:=by
 have fr2:∀ b∈frs X.stack,H2 b=none:=fun b hb=>by
  obtain⟨_,o,q,_⟩:=I.stack.mem hb
  exact u.free b o q (I.stkFree b hb) (by simp)
 refine⟨Un.onSlots u (fun _ _ _ z=>z) (fun b o h0 q n=>st b o (hB b o q (.inr h0) n)) fun b o q n=>frame_slots fl.2.2.1 sm n q,hok.stays fun b v n q=>st b v (hB b v q (.inl n) fun z=>n (fr2 b z))⟩
end
theorem PS.nox{X:Cx}{st:Stmt}{t:TS}(h:PS X.nox st t):PS X st t:=fun pins s σ H D I hw =>
 wpAny_mono (h pins s σ H D (I.wish _) hw) (fun _ _ z=>SP.unwish z) fun _ _ z=>z.elim
abbrev veTail:List Value:=[.type "ValueError", .type "Exception", .type "BaseException", .type "object"]
structure Exc(K:PySem.W.Frag)(mg:Str→Option Value)(x:Str)(C:Addr):Prop where
 bound:mg x=some (.ref C)
 isIn:PySem.W.excIn K C veTail "ValueError.__new__" = true
theorem Exc.obj{K:PySem.W.Frag}{mg:Str→Option Value}{x:Str}{C:Addr}{h:Heap}(O:Exc K mg x C)(X:K.In h) :
  ∃ bm N nm q bs hdct sn sub ab col dd k0 k1 k2 k3 k5 mN,h.get? C=some (excClassObj nm q C N bs bm hdct sn sub ab col dd k0 k1 k2 k3 k5 "ValueError.__new__")∧h.Ns N mN∧mN "__init__" = none∧OwnTail h veTail bm:=by
 have q:=O.isIn
 unfold PySem.W.excIn at q
 split at q
 case h_2=>cases q
 rename_i dd cd sl ho
 split at q
 case h_2=>cases q
 rename_i C' bm k0 k1 k2 k3 n k5 hm hs
 simp only[Bool.and_eq_true,beq_iff_eq,Bool.not_eq_true'] at q
 obtain⟨⟨⟨⟨⟨e1,e2⟩,hdel⟩,ht⟩,hok⟩,hni⟩:=q
 subst e1;subst e2
 cases cd with
 | mk nm bs mro ns qn hd sn sub ab col del =>
  dsimp only at hm hdel hok hni
  subst hm;subst hdel
  obtain rfl:sl=#[k0,k1,k2,k3,some (.builtin "ValueError.__new__"),k5]:=by
   cases sl with
   | mk l=>exact congrArg Array.mk hs
  exact⟨bm,ns,nm,qn,bs,hd,sn,sub,ab,col,dd,k0,k1,k2,k3,k5,_,X _ _ ho,.of_isNs (PySem.W.isNs_of_in X hok),PySem.W.nsMap_none_of_in X hok hni,PySem.W.tail_of_in X ht⟩
def Raises(X:Cx)(E:XK):Prop:=∀ (pins:List (Addr×Obj)) (σ:St) (H:Hp) (s:Shared) (h':Heap) (e:Addr) (cls:Value) (vs:List Value),Inv X pins σ H s→Heap.MadeExcOf s.heap h' e cls vs→E cls none H→X.xe (.ref e) { s with heap:=h' }
theorem raisesR{P:Program}{w:World}{K:PySem.W.Frag}{mg:Str→Option Value}{base:Heap}{N:List Str}{qual:Str}{scope:Scope}{f:Addr}{cd:Value}{A:Around}{outer:List Env}{s:Shared}{H:Hp}{E:XK} :
  Raises (cxR P w K mg base N qual scope f cd A outer s H E) E:=fun _ _ _ _ _ _ _ _ I hx hE=>raised_xe I hx hE
def tRaise(C:Addr)(E:XK)(t:TA):TS:=fun _ σ H=>t σ H fun vs H1=>vs.length≤sizeLine∧E (.ref C) none H1
theorem ps_raise{X:Cx}{E:XK}{x:Str}{C:Addr}{np cpos pos:Pos}{e:Expr}{es:List Expr}{t:TA}(hR:Raises X E)(O:Exc X.K X.mg x C)(hc:X.calm=true)(hg:Gl X x)(ha:PA X (e::es) t)
  (hdb:(x == ("__debug__" : Str))=false:=by decide) (he:starEach (e::es) X.env=(false,eval e X.env)::starEach es X.env:=by rfl) (hpl:(backTo cpos (starEach es X.env)).any (·.1)=false:=by rfl) :
  PS X (.Raise (some (.Call (.Name x np) (e::es) [] cpos)) none pos) (tRaise C E t):=by
 intro pins s σ H D I h
 obtain⟨tl,Nn,nm,q,bs,hdct,sn,sub,ab,col,dd,k0,k1,k2,k3,k5,mN,hC,hN,hni,T⟩:=O.obj I.ok.mod.kin
 refine wpAny_Raise_call_subT (C:=C) (nm:=nm) (q:=q) (N:=Nn) (bs:=bs) (bm:=tl) (hdct:=hdct) (sn:=sn) (sub:=sub) (ab:=ab) (col:=col) (dd:=dd) (k0:=k0) (k1:=k1) (k2:=k2) (k3:=k3) (k5:=k5)
  PySem.F.excBase_ValueError (mN:=mN) (T.hasType PySem.F.excBase_ValueError.hasBase) (I.ok.hd hc) (by rw[he];show (false || (backTo cpos (starEach es X.env)).any (·.1))=false;rw[hpl];rfl) hni (ld_glob I hg O.bound ⟨rfl,?_⟩ hdb)
 have hp:=ha cpos pins s σ H _ I h
 rw[he] at hp ⊢
 refine Calls.evalArgs_plain (thn hp fun us s2 ⟨vs,H1,I1,r,hl,hE⟩=>⟨rfl,?_,I1.bk _ _ hC,hN.keeps I1.bk,T.keeps I1.bk,fun h' e' hm=>hR pins σ H1 s2 h' e' _ us I1 hm hE⟩)
 show us.length≤sizeLine
 rw[← r.length]
 exact hl
abbrev XEx:=Value→St→Hp→Prop
def XE(X:Cx)(EX:XEx):Value→Shared→Prop:=fun e s'=>∃ pins σ H1 s1,Inv X pins σ H1 s1∧CXR X.prog X.w X.stack H1 s1 (fun cls _ H2=>EX cls σ H2) e s'
abbrev Cx.pinned(X:Cx)(pn:List (Addr×Obj)):Cx:={ X with pn:=pn }
abbrev Cx.tr(X:Cx)(pn:List (Addr×Obj))(EX:XEx):Cx:=(X.pinned pn).wish (XE (X.pinned pn) EX)
abbrev Cx.inH(X:Cx)(e:Addr):Cx:={ X with A:=X.A.mark (some (.ref e)),calm:=false,xe:=fun _ _=>False }
def tCallX(sp:Sp)(EX:XEx)(t:TA):TE:=fun σ H Q=>t σ H fun vs H1=>sp vs H1 Q fun cls _ H2=>EX cls σ H2
def PassX(X:Cx)(EX:XEx):Prop:=∀ (pins:List (Addr×Obj)) (σ:St) (H:Hp) (s:Shared) (e:Value) (s':Shared),Inv X pins σ H s→CXR X.prog X.w X.stack H s (fun cls _ H2=>EX cls σ H2) e s'→X.xe e s'
theorem passX{X:Cx}{pn:List (Addr×Obj)}{EX:XEx}:PassX (X.tr pn EX) EX:=fun pins σ H s _ _ I h=>⟨pins,σ,H,s,I.unwish,h⟩
theorem Inv.repin{X:Cx}{pins:List (Addr×Obj)}{σ:St}{H:Hp}{s:Shared}(I:Inv X pins σ H s):Inv (X.pinned (X.pn++pins)) [] σ H s :=
 ⟨⟨I.ok.mod,I.ok.kind,I.ok.glob,I.ok.blt,I.ok.above,I.ok.inj,I.ok.has,I.ok.cab,I.ok.hd,I.ok.frames,I.ok.stk,I.ok.exf,I.ok.bs,I.ok.bsz,I.ok.noex,I.ok.exfs,I.ok.funs,I.ok.frf⟩,I.os,I.bare,I.base,I.loc,I.cell,I.free,I.freeC,
  fun p hp=>I.pin p (by
   have hp':p∈(X.pn++pins)++[]:=hp
   rwa [List.append_nil] at hp'),I.hok,I.len⟩
theorem Inv.unrepin{X:Cx}{pins pins':List (Addr×Obj)}{σ:St}{H:Hp}{s:Shared}(I:Inv (X.pinned (X.pn++pins)) pins' σ H s):Inv X pins σ H s :=
 ⟨⟨I.ok.mod,I.ok.kind,I.ok.glob,I.ok.blt,I.ok.above,I.ok.inj,I.ok.has,I.ok.cab,I.ok.hd,I.ok.frames,I.ok.stk,I.ok.exf,I.ok.bs,I.ok.bsz,I.ok.noex,I.ok.exfs,I.ok.funs,I.ok.frf⟩,I.os,I.bare,I.base,I.loc,I.cell,I.free,I.freeC,
  fun p hp=>I.pin p (List.mem_append_left pins' (show p∈X.pn++pins from hp)),I.hok,I.len⟩
theorem Inv.toH{X:Cx}{pins:List (Addr×Obj)}{σ:St}{H:Hp}{s:Shared}(I:Inv X pins σ H s)(e:Addr):Inv (X.inH e) pins σ H s :=
 ⟨⟨I.ok.mod,I.ok.kind,I.ok.glob,I.ok.blt,I.ok.above,I.ok.inj,I.ok.has,I.ok.cab,(fun z=>absurd (show false=true from z) Bool.false_ne_true),I.ok.frames,I.ok.stk,I.ok.exf,I.ok.bs,I.ok.bsz,I.ok.noex,I.ok.exfs,I.ok.funs,I.ok.frf⟩,I.os,I.bare,I.base,I.loc,I.cell,I.free,I.freeC,I.pin,I.hok,I.len⟩
theorem Inv.ofH{X:Cx}{pins:List (Addr×Obj)}{σ:St}{H:Hp}{s:Shared}{e:Addr}(ok:X.Ok)(I:Inv (X.inH e) pins σ H s):Inv X pins σ H s :=
 ⟨ok,I.os,I.bare,I.base,I.loc,I.cell,I.free,I.freeC,I.pin,I.hok,I.len⟩
theorem SP.imp{X Y:Cx}{pins pins':List (Addr×Obj)}{D:Ends}{f:Flow}{s':Shared}(k:∀ σ H,Inv X pins σ H s'→Inv Y pins' σ H s')(h:SP X pins D f s'):SP Y pins' D f s':=by
 cases f with
 | next=>obtain⟨σ,H,I,q⟩:=h;exact⟨σ,H,k σ H I,q⟩
 | brk=>obtain⟨σ,H,I,q⟩:=h;exact⟨σ,H,k σ H I,q⟩
 | cont=>obtain⟨σ,H,I,q⟩:=h;exact⟨σ,H,k σ H I,q⟩
 | ret u=>obtain⟨v,σ,H,I,r,q⟩:=h;exact⟨v,σ,H,k σ H I,r,q⟩
def tTry(C:Addr)(tb:XEx→TS)(th:TS):TS:=fun D σ H=>tb (fun cls σ' H'=>cls=.ref C∧th D σ' H') D σ H
theorem ps_try{X:Cx}{x:Str}{C:Addr}{np hpos pos:Pos}{body suite:List Stmt}{b₀:Stmt}{tb:XEx→TS}{th:TS}(O:Exc X.K X.mg x C)(hg:Gl X x)(hs:X.stack=X.env::X.outer)(hf:X.env.frame=some X.env.locals)
  (hb:∀ pn EX,PSs (X.tr pn EX) body (tb EX)) (hh:∀ e,PSs (X.inH e) (b₀::suite) th) (hdb:(x == ("__debug__" : Str))=false:=by decide) :
  PS X (.Try body [.ExceptHandler (some (.Name x np)) none (b₀::suite) hpos] [] [] pos) (tTry C tb th):=by
 intro pins s σ H D I h
 refine wpAny_Try_except (wpAny_mono (hb (X.pn++pins) _ [] s σ H D (I.repin.wish _) h) (fun f s1 q=>?_) fun e s1 q=>?_)
 ·have q':SP X pins D f s1:=SP.imp (fun σ H J=>Inv.unrepin (Inv.unwish J)) q
  cases f with
  | next=>exact wpAny_execs_nil q'
  | brk=>exact q'
  | cont=>exact q'
  | ret u=>exact q'
 ·obtain⟨pins2,σ1,H1,s0,I1,ea,cls,H2,rfl,os,bare,u,hok,⟨B,a0,fl,hB⟩,rfl,hq⟩:=q
  have J:Inv X pins σ1 H1 s0:=I1.unrepin
  have fl':Heap.FlyingW B (X.env::X.outer) ea (.ref C) a0 s1.heap:=by rw[← hs];exact fl
  have hfrm:X.A.frames=some (X.env::X.outer):=by rw[← hs];exact I.ok.frames
  have inv:∀ h3,B.StaysIn h3→s1.heap.UpToSlots h3→Inv X pins σ1 H2 { s1 with heap:=h3 }:=fun h3 st sm=>by
   obtain⟨u3,hok3⟩:=fly_on J u hok fl hB st sm
   exact J.call' (s':={ s1 with heap:=h3 }) (ch:=[]) os u3 hok3 bare fun b z=>absurd z (by simp)
  refine wpAny_looks_onW hfrm hf fl' fun h4 held4 sm4=>?_
  refine wpAny_landsW held4 fun h5 fl5 sm5=>?_
  have I5:=inv h5 fl5.1 (sm4.trans sm5)
  refine wpAny_handleBy_cons (codeAny_handlers_test (ld_glob (X:=X.inH ea) (I5.toH ea) hg O.bound ?_ hdb)) (by intro z;cases z)
  obtain⟨ob,hob,hobc⟩:=fl5.there
  obtain⟨tl,Nn,nm,qn,bs,hdct,sn,sub,ab,col,dd,k0,k1,k2,k3,k5,mN,hC,hN,hni,T⟩:=O.obj I5.kIn
  refine wpAny_excMatches_sub_self hC hob hobc (T.hasType PySem.F.excBase_ValueError.hasBase) (codeAny_handlers_suite ?_)
  refine lands_againW fl5 fun h6 fl6 sm6=>?_
  have I6:=inv h6 fl6.1 ((sm4.trans sm5).trans sm6)
  refine wpAny_mono (hh ea pins _ σ1 H2 D (I6.toH ea) hq) (fun f s' z=>SP.imp (fun σ H J=>Inv.ofH I.ok J) z) fun _ _ z=>z.elim
theorem Fun.okR{P:Program}{w:World}{K:PySem.W.Frag}{mg:Str→Option Value}{base:Heap}{x qual:Str}{st:Stmt}{f:Addr}{fd:FuncData}{N ps:List Str}{k:Nat}{sp:Sp}(F:Fun K x qual st f fd)(S:FnScope N ps (defScope st))(len:∀ vs H Q E,sp vs H Q E→vs.length=ps.length)
  (hbody:∀(cdv:Value)(A:Around)(outer:List Env)(s:Shared)(H:Hp)(vs:List V)(Q:VK)(E:XK),Room k (A.deeper (envOfC qual (defScope st) s.heap.objs.size f cdv))→sp vs H Q E →
   ∃ t,PSs (cxR P w K mg base N qual (defScope st) f cdv A outer s H E) (defBody st) t∧t { nx:=fun _ H'=>Q .non H',rt:=Q } (start N vs) H):FnOk P w K mg base (CXR P w) (k+1) f fd ps sp:=by
 obtain⟨oc,od,kV,doc,pm,an,cdv,ct,osl,rfl,lk,hcd⟩:=F.ex
 exact fn_of lk hcd S len fun A outer s H vs Q E hr hsp=>hbody cdv A outer s H vs Q E hr hsp
end L2
namespace L2
open PySem PySem.Spec PyProof.Rows
theorem closure_ex{env:Env}:∀ (names:List (Str×NameKind)) (cs:List (Str×Addr)),(∀ y∈names,y.2=.free→∃ c,env.cells.lookup y.1=some c)→(∀ y c,cs.lookup y=some c→env.cells.lookup y=some c) →
  ∃ cl:List (Str×Addr),(forIn names cs fun (x:Str×NameKind) (r:List (Str×Addr))=>(if (x.2 == NameKind.free)=true then (cellOf env x.1 >>= fun a=>(pure (ForInStep.yield ((x.1,a)::r)):Sem _)) else pure (ForInStep.yield r)))=(pure cl:Sem (List (Str×Addr))) ∧
   (∀ y c,cl.lookup y=some c→env.cells.lookup y=some c)∧(∀ y c,cs.lookup y=some c→∃ c',cl.lookup y=some c')∧∀ y∈names,y.2=.free→∃ c,cl.lookup y.1=some c
 | [],cs,_,h2=>⟨cs,rfl,h2,fun y c e=>⟨c,e⟩,fun _ z=>nomatch z⟩
 | (n,k)::r,cs,h1,h2=>by
  have h1':∀ y∈r,y.2=.free→∃ c,env.cells.lookup y.1=some c:=fun y hy=>h1 y (List.mem_cons_of_mem _ hy)
  by_cases hk:k=.free
  ·subst hk
   obtain⟨c,hc⟩:=h1 (n,.free) List.mem_cons_self rfl
   obtain⟨cl,e,a1,a2,a3⟩:=closure_ex r ((n,c)::cs) h1' (fun y c' hy=>by
    rw[List.lookup_cons] at hy
    split at hy
    ·rename_i hyn
     have:y=n:=by simpa using hyn
     subst this
     cases hy
     exact hc
    ·exact h2 y c' hy)
   refine⟨cl,?_,a1,fun y c' hy=>?_,fun y hy hf=>?_⟩
   ·rw[List.forIn_cons]
    have e1:cellOf env n=(pure c:Sem Addr):=by unfold cellOf;rw[hc]
    simp only[beq_self_eq_true,if_true,e1,pure_bind]
    exact e
   ·by_cases hyn:(y == n)=true
    ·exact a2 y c (by rw[List.lookup_cons,hyn])
    ·exact a2 y c' (by rw[List.lookup_cons];simp only[hyn];exact hy)
   ·rcases List.mem_cons.mp hy with rfl | hy
    ·exact a2 n c (by rw[List.lookup_cons];simp)
    ·exact a3 y hy hf
  ·obtain⟨cl,e,a1,a2,a3⟩:=closure_ex r cs h1' h2
   refine⟨cl,?_,a1,a2,fun y hy hf=>?_⟩
   ·rw[List.forIn_cons]
    have hb:(k == NameKind.free)=false:=by simpa using hk
    simp only[hb,Bool.false_eq_true,if_false,pure_bind]
    exact e
   ·rcases List.mem_cons.mp hy with rfl | hy
    ·exact absurd hf hk
    ·exact a3 y hy hf
theorem closure_of{env:Env}{scope:Scope}(h:∀ y∈scope.names,y.2=.free→∃ c,env.cells.lookup y.1=some c) :
  ∃ cl,closureFor scope env=pure cl∧(∀ y c,cl.lookup y=some c→env.cells.lookup y=some c)∧∀ y∈scope.names,y.2=.free→∃ c,cl.lookup y.1=some c:=by
 obtain⟨cl,e,a1,_,a3⟩:=closure_ex (env:=env) scope.names [] h (fun y c z=>by simp at z)
 refine⟨cl,?_,a1,a3⟩
 unfold closureFor
 refine Eq.trans (congrArg (fun z=>z >>= fun (r:List (Str×Addr))=>(pure r:Sem (List (Str×Addr)))) ?_) (by rw[pure_bind])
 exact e
abbrev Cx.comp(X:Cx)(N':List Str)(scope:Scope)(cl:List (Str×Addr))(C:Addr)(fp:List Addr)(s2:Shared)(H2:Hp):Cx :=
 { X with N:=N',s₀:=s2,H₀:=H2,env:=compEnvC scope cl C X.env,outer:=X.stack,ex:=fp,fn:=fun _=>false,pn:=[],xe:=fun _ _=>False }
def PFs(X:Cx)(ifs:List Expr)(t:TT):Prop :=
 ∀ (pins:List (Addr×Obj)) (s:Shared) (σ:St) (H:Hp) (Q:Bool→Hp→Prop),Inv X pins σ H s→t σ H Q →
  wpAny (model X.prog X.w) X.A (forIn ifs true fun c r=>if r=true then do let ok ← isTrue c X.env (eval c X.env);pure (ForInStep.yield ok) else pure (ForInStep.yield r)) (TP X pins σ Q) X.xe s
def tYes:TT:=fun _ H Q=>Q true H
theorem pf_nil{X:Cx}:PFs X [] tYes:=fun _ _ _ H _ I h=>wpAny_tests_nil ⟨H,I,h⟩
def compSt(n:Nat)(js:List Nat)(σ:St):St:=List.replicate n none++js.map fun j=>(σ[j]?).join
def Ext(σ σ':St):Prop:=σ.length=σ'.length∧∀(i:Nat) v,σ[i]?=some (some v)→σ'[i]?=some (some v)
def GExt(g:TG)(n:Nat):Prop:=∀(r:St) x H Q,g x (List.replicate n none++r) H Q→g x (List.replicate n none++r) H fun σ2 H2=>Ext (List.replicate n none++r) σ2∧Q σ2 H2
theorem ext_set{n k:Nat}(hk:k < n)(r:St){σ:St}(e:Ext (List.replicate n none++r) σ)(v:V):Ext (List.replicate n none++r) (σ.set k (some v)):=by
 refine⟨by rw[List.length_set];exact e.1,fun i w h=>?_⟩
 by_cases hi:i=k
 ·subst hi
  rw[List.getElem?_append_left (by simpa using hk),List.getElem?_replicate] at h
  split at h<;>cases h
 ·rw[List.getElem?_set_ne (fun z=>hi z.symm)]
  exact e.2 i w h
theorem Ext.refl(σ:St):Ext σ σ:=⟨rfl,fun _ _ h=>h⟩
theorem gext_name{n k:Nat}(hk:k < n):GExt (gName k) n:=fun r x H Q h=>⟨ext_set hk r (Ext.refl _) x,h⟩
theorem gext_tup2{K:PySem.W.Frag}{m n k j:Nat}(hk:k < n)(hj:j < n):GExt (gTup K m (gCons (gName k) (gCons (gName j) gNil))) n:=fun r x H Q h=>by
 obtain⟨a,xs,e1,h1,h2,v,r1,e2,v2,r2,e3,e4,q⟩:=h
 exact⟨a,xs,e1,h1,h2,v,r1,e2,v2,r2,e3,e4,ext_set hj r (ext_set hk r (Ext.refl _) v) v2,q⟩
def tComp(n:Nat)(js:List Nat)(wi:TI)(g:TG)(tt:TT)(te:TE):TE:=fun σ H Q=>wi σ H fun J H1=>∀ l,H1 l=none→∃ W:Nat→Nat→List V→Hp→Prop,(∃ m,W 0 m [] (upd H1 l (.lst [])))∧∀ i m acc H,W i m acc H →
 (J.stop i H∧Q (.ref l) H)∨(J.go i H∧∃ N:List V→Hp→Prop,(∀ acc' H',N acc' H'→∃ m',m' < m∧W (i+1) m' acc' H') ∧
  ∀ x H',J.yld i H x H'→g x (compSt n js σ) H' fun σ2 H2=>tt σ2 H2 fun b H3=>if b=true then te σ2 H3 fun y H4=>H4 l=some (.lst acc)∧acc.length < sizeLine∧N (acc++[y]) (upd H4 l (.lst (acc++[y]))) else N acc H3)
section
variable {prog:Program}{w:World}{A:Around}{R:Result→Shared→Prop}{s:Shared}
theorem compLoop_any{elt tg iter:Expr}{ifs:List Expr}{scope:Scope}{pos:Pos}{it acc:Value}{env:Env}(I:Nat→Shared→Prop){E:Value→Shared→Prop}(hE:∀ e s',E e s'→False)
  (turn:∀ n s,I n s→wpAny (model prog w) A (pyNext it) (fun r s₁=>match r with
   | none=>R (.ok .next) s₁
   | some v=>wpAny (model prog w) A (letOwnedTupleGo tg it v) (fun _ s₁=>wpAny (model prog w) A (assign tg env v) (fun _ s₂ =>
     wpAny (model prog w) A (forIn ifs true fun c r=>if r=true then do let ok ← isTrue c env (eval c env);pure (ForInStep.yield ok) else pure (ForInStep.yield r)) (fun ok s₃ =>
      if ok=true then wpAny (model prog w) A (eval elt env) (fun x s₄=>wpAny (model prog w) A (call (.builtin "list.append") [acc,x]) (fun _ s₅=>∃ m,m < n∧I m s₅) E s₄) E s₃
      else ∃ m,m < n∧I m s₃) E s₂) E s₁) E s₁) E s)
  (n:Nat) (h:I n s):codeAny (model prog w) A (.compLoop (.ListComp elt [⟨tg,iter,ifs,0⟩] scope pos) 0 it acc env) R s:=by
 refine codeAny_loop rfl I (fun n s hI=>?_) n h
 show wpAny _ A ((compTurn (.ListComp elt [⟨tg,iter,ifs,0⟩] scope pos) 0 it acc env).onRaise (fun x=>do noteFrame x env;theTreesLotGoes x)) _ _ s
 refine wpAny_noted ?_
 rw[compTurn_list]
 have up:∀{α:Type}{t:Sem α}{Q:α→Shared→Prop}{E':Value→Shared→Prop}{s:Shared},wpAny (model prog w) A t Q E s→wpAny (model prog w) A t Q E' s:=fun h=>wpAny_mono h (fun _ _ z=>z) fun _ _ z=>(hE _ _ z).elim
 refine wpAny_bind (wpAny_standAt (wpAny_bind (up (wpAny_mono (turn n s hI) (fun r s₁ h₁=>?_) fun _ _ z=>z))))
 cases r with
 | none=>exact wpAny_pure h₁
 | some v =>
  refine wpAny_bind (up (thn h₁ fun _ s₂ h₂=>wpAny_bind (up (thn h₂ fun _ s₃ h₃=>wpAny_bind (up (thn h₃ fun ok s₄ h₄=>?_))))))
  cases ok with
  | false=>exact wpAny_pure ⟨rfl,h₄⟩
  | true=>exact wpAny_bind (wpAny_bind (up (thn h₄ fun x s₅ h₅=>wpAny_bind (up (thn h₅ fun _ s₆ h₆=>wpAny_pure (wpAny_pure ⟨rfl,h₆⟩))))))
end
section
variable {X:Cx}
theorem Inv.fpComp{pins:List (Addr×Obj)}{σ:St}{H H':Hp}{s:Shared}{fp:List Addr}{N':List Str}{scope:Scope}{cl:List (Str×Addr)}{C:Addr}(I:Inv X pins σ H s)(f:∀ b∈fp,FpOk X pins H b)
  (hb:∀ b∈fp,b < s.heap.objs.size) (hC:s.heap.objs.size≤C) (hcl:∀ y c,cl.lookup y=some c→X.env.cells.lookup y=some c) (hn:∀ b∈fp,H' b=none) :
  ∀ b∈fp,FpOk (X.comp N' scope cl C fp s H) [] H' b:=fun b z=>by
 obtain⟨_,f1,f2,f3,f4,f5⟩:=f b z
 exact⟨hn b z,Nat.ne_of_lt (Nat.lt_of_lt_of_le (hb b z) hC),fun q=>(List.mem_cons.mp (I.stkSub b q)).elim f1 f2,.inl z,fun x c e=>f4 x c (hcl x c e),fun p hp=>absurd (show p∈([]:List (Addr×Obj))++[] from hp) (by simp)⟩
theorem Inv.comp{pins:List (Addr×Obj)}{σ:St}{H:Hp}{s s4:Shared}{fp:List Addr}{own:List Str}{fr:List (Str×Nat)}{scope:Scope}{cl:List (Str×Addr)}{C D:Addr}(I:Inv X pins σ H s)(f:∀ b∈fp,FpOk X pins H b)
  (hb:∀ b∈fp,b < s.heap.objs.size) (hkind:scope.kind=.function) (hcell:∀ y∈scope.names,y.2≠.cell)
  (hcl:∀ y c,cl.lookup y=some c→X.env.cells.lookup y=some c) (hcl2:∀ y∈scope.names,y.2=.free→∃ c,cl.lookup y.1=some c)
  (hfr:∀ p∈fr,X.N[p.2]?=some p.1∧(X.env.kindOf p.1=some .cell∨X.env.kindOf p.1=some .free)∧(p.1,NameKind.free)∈scope.names∧((relabel scope X.env).names.lookup p.1=some .cell∨(relabel scope X.env).names.lookup p.1=some .free))
  (hD:s.heap.objs.size≤D) (hC:s.heap.objs.size≤C) (hCD:C≠D) (hns:s4.heap.Ns C (fun _=>none)) (k:∀ b o,s.heap.get? b=some o→s4.heap.get? b=some o) (hl:s4.heap.get? D=some { cls:=.type "list", data:=.seq ([]:List Value).toArray })
  (os:s4.os=s.os) (bare:AllBare s4.gens):Inv (X.comp (own++fr.map (·.1)) scope cl C fp s H) [] (compSt own.length (fr.map (·.2)) σ) (upd H D (.lst [])) s4:=by
 have fresh:∀ b,s.heap.objs.size≤b→H b=none:=fun b h=>I.hok.fresh h
 have cellLt:∀ y c,X.env.cells.lookup y=some c→c < s.heap.objs.size:=fun y c e=>by
  obtain⟨v,q⟩:=I.cell y c e
  exact q.lt
 have relK:∀ y,((relabel scope X.env).names.lookup y=some .cell∨(relabel scope X.env).names.lookup y=some .free)→∃ z∈scope.names,z.1=y∧z.2=.free:=fun y h=>by
  have mem:∃ kk,(y,kk)∈(relabel scope X.env).names∧(kk=.cell∨kk=.free):=by
   rcases h with h | h
   ·exact⟨_,PySem.mem_of_lookup h,.inl rfl⟩
   ·exact⟨_,PySem.mem_of_lookup h,.inr rfl⟩
  obtain⟨kk,hm,hk⟩:=mem
  obtain⟨⟨n,k0⟩,hz,e⟩:=List.mem_map.mp hm
  refine⟨(n,k0),hz,?_,?_⟩
  ·dsimp only at e
   split at e<;>cases e<;>rfl
  ·dsimp only at e ⊢
   split at e
   ·rename_i hc
    simp only[Bool.and_eq_true,beq_iff_eq] at hc
    exact hc.1.1
   ·cases e
    rcases hk with hk | hk
    ·exact absurd hk (hcell _ hz)
    ·exact hk
 have ok:(X.comp (own++fr.map (·.1)) scope cl C fp s H).Ok :=
  {mod:=I.ok.mod
   kind:=hkind
   glob:=I.ok.glob
   blt:=I.ok.blt
   above:=hC
   inj:=fun x y c e1 e2=>I.ok.inj x y c (hcl x c e1) (hcl y c e2)
   has:=fun y hy=>by
    obtain⟨z,hz,rfl,hf⟩:=relK y hy
    exact hcl2 z hz hf
   cab:=fun x c z=>by cases (show false=true from z)
   hd:=I.ok.hd
   frames:=I.ok.frames
   stk:=.inl rfl
   exf:=fun b z=>⟨Nat.ne_of_lt (Nat.lt_of_lt_of_le (hb b z) hC),fun x c e=>(f b z).2.2.2.2.1 x c (hcl x c e)⟩
   bs:=fun b o e=>I.bs b o e
   bsz:=Nat.le_trans I.ok.bsz I.sz
   noex:=fun b o e z=>by
    obtain⟨_,_,_,h4,_⟩:=f b z
    rcases h4 with h4 | h4
    ·exact I.ok.noex b o e h4
    ·exact absurd (Heap.lt_size (I.ok.bs b o e).1) (Nat.not_lt.mpr h4)
   exfs:=fun b z q=>(List.mem_cons.mp (I.stkSub b q)).elim (f b z).2.1 (f b z).2.2.1
   funs:=I.stack
   frf:=I.stkFree }
 refine⟨ok,os,bare,Un.laid k hD (fresh D hD),⟨fun _=>none,hns,fun i x v h1 h2 h3=>?_⟩,fun x c e=>?_,?_,fun x c e=>?_,fun p hp=>absurd (show p∈([]:List (Addr×Obj))++[] from hp) (by simp),I.hok.laid k hD ⟨Nat.zero_le _,[],0,.nil,hl⟩,?_⟩
 ·-- a closed-over name
  have h2':(compSt own.length (fr.map (·.2)) σ)[i]?=some (some v):=h2
  have h1':(own++fr.map (·.1))[i]?=some x:=h1
  unfold compSt at h2'
  by_cases hi:i < own.length
  ·rw[List.getElem?_append_left (by simpa using hi),List.getElem?_replicate] at h2'
   split at h2'<;>cases h2'
  ·rw[List.getElem?_append_right (by simpa using hi),List.length_replicate,List.getElem?_map,List.getElem?_map] at h2'
   rw[List.getElem?_append_right (by omega),List.getElem?_map] at h1'
   cases e:fr[i - own.length]? with
   | none=>rw[e] at h1';cases h1'
   | some p =>
    rw[e] at h1' h2'
    have hx:p.1=x:=Option.some.inj h1'
    have hv:(σ[p.2]?).join=some v:=Option.some.inj h2'
    have hv':σ[p.2]?=some (some v):=by
     cases q:σ[p.2]? with
     | none=>rw[q] at hv;cases hv
     | some o=>rw[q] at hv;rw[show o=some v from hv]
    obtain⟨hN,hkx,hmem,hrel⟩:=hfr p (List.mem_of_getElem? e)
    obtain⟨m,hn,hl2⟩:=I.loc
    obtain⟨u,r,lk⟩:=hl2 p.2 p.1 v hN hv' (hkx.elim (fun z=>.inr (.inl z)) fun z=>.inr (.inr z))
    rcases lk with ⟨lk,_⟩ | ⟨_,c,hc,hcell'⟩
    ·rcases hkx with z | z
     ·rw[lk] at z;cases z
     ·rw[lk] at z;cases z
    ·subst hx
     obtain⟨c',hc'⟩:=hcl2 _ hmem rfl
     have:=hcl _ _ hc'
     rw[hc] at this
     cases this
     refine⟨u,r,.inr ⟨hrel,c,hc',?_⟩⟩
     obtain⟨ob,e1,e2⟩:=hcell'
     exact⟨ob,k _ _ e1,e2⟩
 ·obtain⟨v,ob,e1,e2⟩:=I.cell x c (hcl x c e)
  exact⟨v,ob,k _ _ e1,e2⟩
 ·show upd H D (.lst []) C=none
  rw[upd_ne hCD]
  exact fresh C hC
 ·rw[upd_ne (Nat.ne_of_lt (Nat.lt_of_lt_of_le (cellLt x c (hcl x c e)) hD))]
  exact I.freeC x c (hcl x c e)
 ·show (compSt own.length (fr.map (·.2)) σ).length=(own++fr.map (·.1)).length
  unfold compSt
  simp
theorem pe_comp{elt iter tg:Expr}{ifs:List Expr}{scope:Scope}{pos:Pos}{wi:TI}{g:TG}{tt:TT}{te:TE}(own:List Str)(fr:List (Str×Nat))(hc:X.calm=true)(hi:PI X tg iter wi)
  (hgx:GExt g own.length) (hB:∀ cl C fp s2 H2,PG (X.comp (own++fr.map (·.1)) scope cl C fp s2 H2) tg g∧PFs (X.comp (own++fr.map (·.1)) scope cl C fp s2 H2) ifs tt∧PE (X.comp (own++fr.map (·.1)) scope cl C fp s2 H2) elt te)
  (hkind:scope.kind=.function) (hcell:∀ y∈scope.names,y.2≠.cell) (hnames:∀ y∈scope.names,y.2=.local→scope.names.lookup y.1=some .local)
  (hfree:∀ y∈scope.names,y.2=.free→X.env.kindOf y.1=some .cell∨X.env.kindOf y.1=some .free)
  (hfr:∀ p∈fr,X.N[p.2]?=some p.1∧(X.env.kindOf p.1=some .cell∨X.env.kindOf p.1=some .free)∧(p.1,NameKind.free)∈scope.names∧((relabel scope X.env).names.lookup p.1=some .cell∨(relabel scope X.env).names.lookup p.1=some .free))
  (hs:∀ x,foldedSetIterable iter X.env x=pure x:=by intro _;rfl):PE X (.ListComp elt [⟨tg,iter,ifs,0⟩] scope pos) (tComp own.length (fr.map (·.2)) wi g tt te):=by
 intro pins s σ H Q I h
 obtain⟨cl,hclos,hcl,hcl2⟩:=closure_of (env:=X.env) (scope:=scope) fun y hy hf=>I.ok.has y.1 (hfree y hy hf)
 rw[eval_ListComp]
 refine wpAny_comprehension_free (use:=none) rfl hs hclos hkind hnames (thn (hi pins s σ H _ I h) fun v s1 h1=>thn h1 fun itv s2 h2=>?_)
 obtain⟨it,fp,tn,J,H2,e,I2,T,st2,f2,h3⟩:=h2
 subst e
 obtain⟨W,⟨m0,w0⟩,turn⟩:=h3 s2.heap.objs.size I2.fresh
 have hb:∀ b∈fp,b < s2.heap.objs.size:=fun b z=>by
  obtain⟨o,e,_⟩:=T.obj _ _ st2 b z
  exact Heap.lt_size e
 refine wpAny_newObj_type (wpAny_newFunctionEnv hcell (by intro y hy;simp at hy) (fun h₁ hns₁ hsb₁=>?_) hkind)
 dsimp only at hns₁ hsb₁ ⊢
 generalize hH2:s2.heap.push { cls:=.type "list", dict:=none,data:=.seq ([]:List Value).toArray }=G at hns₁ hsb₁ ⊢
 have hCs:G.objs.size=s2.heap.objs.size+1:=by rw[← hH2,Heap.size_push]
 have old:∀ b o,s2.heap.get? b=some o→h₁.get? b=some o:=fun b o e=>hsb₁.extBut b o (Nat.ne_of_lt (by rw[hCs];exact Nat.lt_succ_of_lt (Heap.lt_size e))) (Heap.get?_push_of_some _ (hH2▸Heap.get?_push_of_some _ e))
 have hD:h₁.get? s2.heap.objs.size=some { cls:=.type "list", data:=.seq ([]:List Value).toArray }:=hsb₁.extBut _ _ (Nat.ne_of_lt (by rw[hCs];exact Nat.lt_succ_self _)) (Heap.get?_push_of_some _ (hH2▸Heap.get?_push_size _ rfl))
 generalize hC:G.objs.size=C at hns₁ hsb₁ hCs ⊢
 have hns':h₁.Ns C (fun _=>none):=by
  have e:(fun x=>(([]:List (Str×Value)).reverse.lookup x))=fun _=>(none:Option Value):=by funext x;rfl
  rw[← e]
  exact hns₁
 have hle:s2.heap.objs.size≤C:=by rw[hCs];exact Nat.le_succ _
 have hne:C≠s2.heap.objs.size:=Nat.ne_of_gt (by rw[hCs];exact Nat.lt_succ_self _)
 let Y:Cx:=X.comp (own++fr.map (·.1)) scope cl C fp s2 H2
 have stat:∀{H':Hp},(∀ b∈fp,H' b=none)→∀ b∈fp,FpOk Y [] H' b:=fun hn=>Inv.fpComp I2 f2 hb hle hcl hn
 obtain⟨gY,pY,eY⟩:=hB cl C fp s2 H2
 have IY:Inv Y [] (compSt own.length (fr.map (·.2)) σ) (upd H2 s2.heap.objs.size (.lst [])) { s2 with heap:=h₁,toks:=s2.toks+([]:List (Str×Value)).length } :=
  Inv.comp (D:=s2.heap.objs.size) I2 f2 hb hkind hcell hcl hcl2 hfr (Nat.le_refl _) hle hne hns' old hD rfl I2.bare
 have loop:codeAny (model X.prog X.w) X.A (.compLoop (.ListComp elt [⟨tg,iter,ifs,0⟩] scope pos) 0 (.ref it) (.ref s2.heap.objs.size) (compEnvC scope cl C X.env)) (compPost (model X.prog X.w) X.A X.xe none (EP X pins σ Q) (.ref s2.heap.objs.size) C)
   { s2 with heap:=h₁,toks:=s2.toks+([]:List (Str×Value)).length }:=by
  refine compLoop_any (E:=fun _ _=>False) (fun n s'=>∃ i acc H',Inv Y [] (compSt own.length (fr.map (·.2)) σ) H' s'∧tn i s'.heap∧(∀ b∈fp,H' b=none)∧W i n acc H') (fun _ _ z=>z) ?_ m0
   ⟨0,[],_,IY,T.keep _ _ _ st2 fun b _ o e=>old b o e,fun b z=>by rw[upd_ne (Nat.ne_of_lt (hb b z))];exact (f2 b z).1,w0⟩
  rintro n s3 ⟨i,acc,H3,I3,st3,fr3,w3⟩
  rcases turn i n acc H3 w3 with ⟨stop,q⟩ | ⟨go,Nn,hN,step⟩
  ·refine thn (T.done Y rfl rfl rfl hc i [] s3 _ H3 _ I3 (stat fr3) st3 stop) fun r s4 ⟨hr,I4⟩=>?_
   subst hr
   obtain⟨m4,hn4,_⟩:=I4.loc
   refine⟨m4,hn4,fun h' hs'=>?_⟩
   have kb:∀ b o,b≠C→s4.heap.get? b=some o→h'.get? b=some o:=fun b o hne e=>hs'.extBut b o hne e
   have hok':HOk X.prog X.w H3 h':=HOk.stays (show HOk X.prog X.w H3 s4.heap from I4.hok) fun b u hn e=>kb b u (fun z=>hn (by rw[z];exact I4.free)) e
   have bI:Un (frs X.stack) fp H2 H3 s2.heap s4.heap:=I4.base
   have lt:∀ b o,s2.heap.get? b=some o→b≠C:=fun b o e=>Nat.ne_of_lt (Nat.lt_of_lt_of_le (Heap.lt_size e) hle)
   have un:Un (frs X.stack) fp H2 H3 s2.heap h' :=
    {keep:=fun b o e n hb hx=>kb b o (lt b o e) (bI.keep b o e n hb hx)
     slot:=fun b o e n hb hx=>by
      obtain⟨sl,e1⟩:=bI.slot b o e n hb hx
      exact⟨sl,kb b _ (lt b o e) e1⟩
     free:=bI.free
     there:=fun b o e hx=>by
      obtain⟨o1,e1⟩:=bI.there b o e hx
      exact⟨o1,kb b _ (lt b o e) e1⟩
     tups:=bI.tups
     frzs:=bI.frzs
     tbls:=bI.tbls }
   exact⟨.ref s2.heap.objs.size,H3,I2.call' (s':={ s4 with heap:=h' }) (ch:=fp) I4.os un hok' I4.bare (fun b z=>⟨(f2 b z).2.2.2.1,(f2 b z).2.1,(f2 b z).2.2.2.2.1,(f2 b z).2.2.2.2.2⟩),rfl,q⟩
  ·refine thn (T.item Y rfl rfl rfl hc i [] s3 _ H3 _ I3 (stat fr3) st3 go) fun r s4 ⟨u,hr,h4⟩=>?_
   subst hr
   refine thn h4 fun _ s5 ⟨x,H5,I5,r5,y5,st5,fr5⟩=>?_
   have I5':=I5.pinned (stat fr5) (T.obj _ _ st5)
   refine thn (gY _ s5 _ H5 x u _ I5' r5 (hgx _ x H5 _ (step x H5 y5))) fun _ s6 ⟨σ6,H6,I6,ex6,q6⟩=>?_
   refine thn (pY _ s6 σ6 H6 _ I6 q6) fun ok s7 ⟨H7,I7,q7⟩=>?_
   have again:∀{acc':List V}{H8:Hp}{s8:Shared},Inv Y ([]++pinsAt fp s5.heap) σ6 H8 s8→Nn acc' H8→∃ m,m < n∧∃ i acc H',Inv Y [] (compSt own.length (fr.map (·.2)) σ) H' s8∧tn i s8.heap∧(∀ b∈fp,H' b=none)∧W i m acc H':=fun {acc' H8 s8} I8 n8=>by
    obtain⟨m',hm,w8⟩:=hN acc' H8 n8
    refine⟨m',hm,i+1,acc',H8,I8.unpinned.weak ex6.1 ex6.2,T.keep _ _ _ st5 fun b hb o e=>(I8.pin (b,o) (List.mem_append_right _ (List.mem_append_right _ (mem_pinsAt hb e)))).1,fun b hb=>?_,w8⟩
    obtain⟨o,e,d⟩:=T.obj _ _ st5 b hb
    exact (I8.pin (b,o) (List.mem_append_right _ (List.mem_append_right _ (mem_pinsAt hb e)))).2.1
   cases ok with
   | false=>exact again I7 (by simpa using q7)
   | true =>
    have q7':=(by simpa using q7:te σ6 H7 _)
    refine thn (eY _ s7 σ6 H7 _ I7 q7') fun xv s8 ⟨y,H8,I8,r8,hl8,hz8,n8⟩=>?_
    refine thn (mt_append (X:=Y) _ s8 σ6 H8 (.ref s2.heap.objs.size) [y] (.ref s2.heap.objs.size) [xv] (fun v H9=>v=.non∧H9=upd H8 s2.heap.objs.size (.lst (acc++[y]))) I8 rfl (.cons r8 .nil) ⟨_,acc,y,rfl,rfl,hl8,hz8,rfl,rfl⟩) fun _ s9 ⟨v9,H9,I9,_,_,e9⟩=>?_
    subst e9
    exact again I9 n8
 exact codeAny_compStart_list loop (T.self X.A 0 _ _ _ (T.keep _ _ _ st2 fun b _ o e=>old b o e) loop)
end
theorem comp_list{K:PySem.W.Frag}{a l:Addr}{xs:List V}{n:Nat}{js:List Nat}{g:TG}{tt:TT}{te:TE}{σ:St}{H1:Hp}{Q:VK}(Pv:Nat→List V→Hp→Prop)(h0:Pv 0 [] (upd H1 l (.lst [])))(hl:∀ i acc H,i≤xs.length→Pv i acc H→SqL K H a xs)
  (hs:∀ i x acc H,xs[i]?=some x→Pv i acc H→g x (compSt n js σ) H fun σ2 H2=>tt σ2 H2 fun b H3=>if b=true then te σ2 H3 fun y H4=>H4 l=some (.lst acc)∧acc.length < sizeLine∧Pv (i+1) (acc++[y]) (upd H4 l (.lst (acc++[y]))) else Pv (i+1) acc H3)
  (hd:∀ acc H,Pv xs.length acc H→Q (.ref l) H) :
  ∃ W:Nat→Nat→List V→Hp→Prop,(∃ m,W 0 m [] (upd H1 l (.lst [])))∧∀ i m acc H,W i m acc H →
   ((Itl K a).stop i H∧Q (.ref l) H)∨((Itl K a).go i H∧∃ N:List V→Hp→Prop,(∀ acc' H',N acc' H'→∃ m',m' < m∧W (i+1) m' acc' H') ∧
    ∀ x H',(Itl K a).yld i H x H'→g x (compSt n js σ) H' fun σ2 H2=>tt σ2 H2 fun b H3=>if b=true then te σ2 H3 fun y H4=>H4 l=some (.lst acc)∧acc.length < sizeLine∧N (acc++[y]) (upd H4 l (.lst (acc++[y]))) else N acc H3):=by
 refine⟨fun i m acc H=>m=xs.length - i∧i≤xs.length∧Pv i acc H,⟨xs.length,by simp,Nat.zero_le _,h0⟩,?_⟩
 rintro i m acc H ⟨rfl,hi,p⟩
 have q:=hl i acc H hi p
 by_cases hlt:i < xs.length
 ·refine .inr ⟨⟨xs,xs[i],q,by simp[hlt]⟩,Pv (i+1),fun acc' H' p'=>⟨xs.length - (i+1),by omega,rfl,hlt,p'⟩,fun x H' y=>?_⟩
  obtain⟨e,y⟩:=y
  subst e
  exact hs i x acc _ (y xs q) p
 ·have e:i=xs.length:=by omega
  subst e
  exact .inl ⟨⟨xs,q,Nat.le_refl _⟩,hd acc H p⟩
theorem comp_tup{K:PySem.W.Frag}{a l:Addr}{xs:List V}{n:Nat}{js:List Nat}{g:TG}{tt:TT}{te:TE}{σ:St}{H1:Hp}{Q:VK}(Pv:Nat→List V→Hp→Prop)(h0:Pv 0 [] (upd H1 l (.lst [])))(hl:∀ i acc H,i≤xs.length→Pv i acc H→SqT K H a xs)
  (hs:∀ i x acc H,xs[i]?=some x→Pv i acc H→g x (compSt n js σ) H fun σ2 H2=>tt σ2 H2 fun b H3=>if b=true then te σ2 H3 fun y H4=>H4 l=some (.lst acc)∧acc.length < sizeLine∧Pv (i+1) (acc++[y]) (upd H4 l (.lst (acc++[y]))) else Pv (i+1) acc H3)
  (hd:∀ acc H,Pv xs.length acc H→Q (.ref l) H) :
  ∃ W:Nat→Nat→List V→Hp→Prop,(∃ m,W 0 m [] (upd H1 l (.lst [])))∧∀ i m acc H,W i m acc H →
   ((Itt K a).stop i H∧Q (.ref l) H)∨((Itt K a).go i H∧∃ N:List V→Hp→Prop,(∀ acc' H',N acc' H'→∃ m',m' < m∧W (i+1) m' acc' H') ∧
    ∀ x H',(Itt K a).yld i H x H'→g x (compSt n js σ) H' fun σ2 H2=>tt σ2 H2 fun b H3=>if b=true then te σ2 H3 fun y H4=>H4 l=some (.lst acc)∧acc.length < sizeLine∧N (acc++[y]) (upd H4 l (.lst (acc++[y]))) else N acc H3):=by
 refine⟨fun i m acc H=>m=xs.length - i∧i≤xs.length∧Pv i acc H,⟨xs.length,by simp,Nat.zero_le _,h0⟩,?_⟩
 rintro i m acc H ⟨rfl,hi,p⟩
 have q:=hl i acc H hi p
 by_cases hlt:i < xs.length
 ·refine .inr ⟨⟨xs,xs[i],q,by simp[hlt]⟩,Pv (i+1),fun acc' H' p'=>⟨xs.length - (i+1),by omega,rfl,hlt,p'⟩,fun x H' y=>?_⟩
  obtain⟨e,y⟩:=y
  subst e
  exact hs i x acc _ (y xs q) p
 ·have e:i=xs.length:=by omega
  subst e
  exact .inl ⟨⟨xs,q,Nat.le_refl _⟩,hd acc H p⟩
theorem comp_range{lo:Int}{k:Nat}{l:Addr}{n:Nat}{js:List Nat}{g:TG}{tt:TT}{te:TE}{σ:St}{H1:Hp}{Q:VK}(Pv:Nat→List V→Hp→Prop)(h0:Pv 0 [] (upd H1 l (.lst [])))
  (hs:∀ i acc H,i < k→Pv i acc H→g (.int (lo+i)) (compSt n js σ) H fun σ2 H2=>tt σ2 H2 fun b H3=>if b=true then te σ2 H3 fun y H4=>H4 l=some (.lst acc)∧acc.length < sizeLine∧Pv (i+1) (acc++[y]) (upd H4 l (.lst (acc++[y]))) else Pv (i+1) acc H3)
  (hd:∀ acc H,Pv k acc H→Q (.ref l) H) :
  ∃ W:Nat→Nat→List V→Hp→Prop,(∃ m,W 0 m [] (upd H1 l (.lst [])))∧∀ i m acc H,W i m acc H →
   ((Itr lo k).stop i H∧Q (.ref l) H)∨((Itr lo k).go i H∧∃ N:List V→Hp→Prop,(∀ acc' H',N acc' H'→∃ m',m' < m∧W (i+1) m' acc' H') ∧
    ∀ x H',(Itr lo k).yld i H x H'→g x (compSt n js σ) H' fun σ2 H2=>tt σ2 H2 fun b H3=>if b=true then te σ2 H3 fun y H4=>H4 l=some (.lst acc)∧acc.length < sizeLine∧N (acc++[y]) (upd H4 l (.lst (acc++[y]))) else N acc H3):=by
 refine⟨fun i m acc H=>m=k - i∧i≤k∧Pv i acc H,⟨k,by simp,Nat.zero_le _,h0⟩,?_⟩
 rintro i m acc H ⟨rfl,hi,p⟩
 by_cases hlt:i < k
 ·refine .inr ⟨hlt,Pv (i+1),fun acc' H' p'=>⟨k - (i+1),by omega,rfl,hlt,p'⟩,fun x H' y=>?_⟩
  obtain⟨e,y⟩:=y
  subst e y
  exact hs i acc _ hlt p
 ·have e:i=k:=by omega
  subst e
  exact .inl ⟨Nat.le_refl _,hd acc H p⟩
theorem comp_listR{K:PySem.W.Frag}{a l:Addr}{xs:List V}{n:Nat}{js:List Nat}{g:TG}{tt:TT}{te:TE}{σ:St}{H1:Hp}{R:Hp→Prop}(Pv:Nat→List V→Hp→Prop)(h0:Pv 0 [] (upd H1 l (.lst [])))(hl:∀ i acc H,i≤xs.length→Pv i acc H→SqL K H a xs)
  (hs:∀ i x acc H,xs[i]?=some x→Pv i acc H→g x (compSt n js σ) H fun σ2 H2=>tt σ2 H2 fun b H3=>if b=true then te σ2 H3 fun y H4=>H4 l=some (.lst acc)∧acc.length < sizeLine∧Pv (i+1) (acc++[y]) (upd H4 l (.lst (acc++[y]))) else Pv (i+1) acc H3)
  (hd:∀ acc H,Pv xs.length acc H→R H) :
  ∃ W:Nat→Nat→List V→Hp→Prop,(∃ m,W 0 m [] (upd H1 l (.lst [])))∧∀ i m acc H,W i m acc H →
   ((Itl K a).stop i H∧R H)∨((Itl K a).go i H∧∃ N:List V→Hp→Prop,(∀ acc' H',N acc' H'→∃ m',m' < m∧W (i+1) m' acc' H') ∧
    ∀ x H',(Itl K a).yld i H x H'→g x (compSt n js σ) H' fun σ2 H2=>tt σ2 H2 fun b H3=>if b=true then te σ2 H3 fun y H4=>H4 l=some (.lst acc)∧acc.length < sizeLine∧N (acc++[y]) (upd H4 l (.lst (acc++[y]))) else N acc H3):=comp_list (Q:=fun _ H=>R H) Pv h0 hl hs hd
theorem comp_tupR{K:PySem.W.Frag}{a l:Addr}{xs:List V}{n:Nat}{js:List Nat}{g:TG}{tt:TT}{te:TE}{σ:St}{H1:Hp}{R:Hp→Prop}(Pv:Nat→List V→Hp→Prop)(h0:Pv 0 [] (upd H1 l (.lst [])))(hl:∀ i acc H,i≤xs.length→Pv i acc H→SqT K H a xs)
  (hs:∀ i x acc H,xs[i]?=some x→Pv i acc H→g x (compSt n js σ) H fun σ2 H2=>tt σ2 H2 fun b H3=>if b=true then te σ2 H3 fun y H4=>H4 l=some (.lst acc)∧acc.length < sizeLine∧Pv (i+1) (acc++[y]) (upd H4 l (.lst (acc++[y]))) else Pv (i+1) acc H3)
  (hd:∀ acc H,Pv xs.length acc H→R H) :
  ∃ W:Nat→Nat→List V→Hp→Prop,(∃ m,W 0 m [] (upd H1 l (.lst [])))∧∀ i m acc H,W i m acc H →
   ((Itt K a).stop i H∧R H)∨((Itt K a).go i H∧∃ N:List V→Hp→Prop,(∀ acc' H',N acc' H'→∃ m',m' < m∧W (i+1) m' acc' H') ∧
    ∀ x H',(Itt K a).yld i H x H'→g x (compSt n js σ) H' fun σ2 H2=>tt σ2 H2 fun b H3=>if b=true then te σ2 H3 fun y H4=>H4 l=some (.lst acc)∧acc.length < sizeLine∧N (acc++[y]) (upd H4 l (.lst (acc++[y]))) else N acc H3):=comp_tup (Q:=fun _ H=>R H) Pv h0 hl hs hd
theorem comp_rangeR{lo:Int}{k:Nat}{l:Addr}{n:Nat}{js:List Nat}{g:TG}{tt:TT}{te:TE}{σ:St}{H1:Hp}{R:Hp→Prop}(Pv:Nat→List V→Hp→Prop)(h0:Pv 0 [] (upd H1 l (.lst [])))
  (hs:∀ i acc H,i < k→Pv i acc H→g (.int (lo+i)) (compSt n js σ) H fun σ2 H2=>tt σ2 H2 fun b H3=>if b=true then te σ2 H3 fun y H4=>H4 l=some (.lst acc)∧acc.length < sizeLine∧Pv (i+1) (acc++[y]) (upd H4 l (.lst (acc++[y]))) else Pv (i+1) acc H3)
  (hd:∀ acc H,Pv k acc H→R H) :
  ∃ W:Nat→Nat→List V→Hp→Prop,(∃ m,W 0 m [] (upd H1 l (.lst [])))∧∀ i m acc H,W i m acc H →
   ((Itr lo k).stop i H∧R H)∨((Itr lo k).go i H∧∃ N:List V→Hp→Prop,(∀ acc' H',N acc' H'→∃ m',m' < m∧W (i+1) m' acc' H') ∧
    ∀ x H',(Itr lo k).yld i H x H'→g x (compSt n js σ) H' fun σ2 H2=>tt σ2 H2 fun b H3=>if b=true then te σ2 H3 fun y H4=>H4 l=some (.lst acc)∧acc.length < sizeLine∧N (acc++[y]) (upd H4 l (.lst (acc++[y]))) else N acc H3):=comp_range (Q:=fun _ H=>R H) Pv h0 hs hd
end L2
namespace L2
open PySem PySem.Spec PyProof.Rows
open PySem.Builtin.Int (intBits)
abbrev Sz(k:Nat)(x:Int):Prop:=intBits x≤k
theorem Sz.of{k:Nat}{x:Int}(h:x.natAbs < 2 ^ k):Sz k x:=PySem.intBits_le_iff.mpr h
theorem Sz.lt{k:Nat}{x:Int}(h:Sz k x):x.natAbs < 2 ^ k:=PySem.intBits_le_iff.mp h
theorem Sz.mono{j k:Nat}{x:Int}(h:Sz j x)(q:j≤k):Sz k x:=Nat.le_trans h q
theorem Sz.le{k:Nat}{x y:Int}(h:Sz k y)(q:x.natAbs≤y.natAbs):Sz k x:=PySem.intBits_le_of_natAbs q h
theorem Sz.sub{k:Nat}{x y:Int}(h:Sz k x)(q:Sz k y):Sz (k+1) (x - y):=Nat.le_trans (PySem.intBits_sub_le h q) (by omega)
theorem Sz.ok{j k:Nat}{x y:Int}(h:Sz j x)(q:Sz k y)(e:j+k≤134217728):IntMulOk x y:=PySem.IntMulOk.of_le h q e
theorem Sz.okR{k:Nat}{x y:Int}(q:Sz k y)(e:k≤64):IntMulOk x y:=IntMulOk.of_right (Nat.le_trans q e)
theorem Sz.noPy{k:Nat}{x y:Int}(q:Sz k y)(e:k≤9000):Builtin.divisionGoesByPylong x y=false:=by
 refine PyProof.noPylong_of_log2 ?_
 by_cases h0:y.natAbs=0
 ·rw[h0];decide +kernel
 ·exact (Nat.log2_lt h0).mpr (Sz.lt (q.mono e))
section
variable {X:Cx}
def CMulB(i j:Int):Prop:=IntMulOk i j
def CDivB(i j:Int):Prop:=0 < j∧Sz 9000 j
theorem op_mulB:OpR X (binaryOp .Mult) (rI CMulB fun i j=>.int (i*j)):=opI fun _ _ _ _ _ _ _ hc q=>mul_int q hc
theorem op_fdivB:OpR X (binaryOp .FloorDiv) (rI CDivB fun i j=>.int (i / j)):=opI fun i j _ _ _ _ _ hc q=>by
 have h1:(0:Int) < j:=hc.1
 exact floordiv_int (by omega) (by rw[Int.fdiv_eq_ediv_of_nonneg i (by omega)];exact q) (.inl (Sz.noPy hc.2 (Nat.le_refl _)))
def tyNm(x:V)(H:Hp):Option String:=match x with
 | .non=>some "NoneType"
 | .bl _=>some "bool"
 | .int _=>some "int"
 | .str _=>some "str"
 | .ref a=>(match H a with
  | some (.lst _)=>some "list"
  | some (.tup _)=>some "tuple"
  | some (.dK _)=>some "dict"
  | _=>none)
 | _=>none
theorem tyNm_of{K:PySem.W.Frag}{H:Hp}{x:V}{n:String}(h:tyNm x H=some n):TyOf K H x (.type n):=by
 unfold tyNm at h
 split at h
 ·cases h;exact .non
 ·cases h;exact .bl _
 ·cases h;exact .int _
 ·cases h;exact .str _
 ·split at h
  ·cases h;exact .lst (by assumption)
  ·cases h;exact .tup (by assumption)
  ·cases h;exact .dK (by assumption)
  ·cases h
 ·cases h
def isiB(t c:String):Bool:=t == c || (t == "bool" && c == "int")
def isiNames:List String:=["NoneType", "bool", "int", "str", "list", "tuple", "dict"]
theorem kit_of(K:PySem.W.Frag):∀ t∈isiNames,∀ c∈["bool", "int", "str", "list", "tuple", "dict"],PySem.W.kitOne K (.type t) (.type c)=some (isiB t c):=by
 intro t ht c hc
 simp only[isiNames,List.mem_cons,List.not_mem_nil,or_false] at ht hc
 rcases ht with rfl | rfl | rfl | rfl | rfl | rfl | rfl<;>rcases hc with rfl | rfl | rfl | rfl | rfl | rfl<;>kernel_rfl
theorem tyNm_mem{x:V}{H:Hp}{n:String}(h:tyNm x H=some n):n∈isiNames:=by
 unfold tyNm at h
 split at h
 ·cases h;decide
 ·cases h;decide
 ·cases h;decide
 ·cases h;decide
 ·split at h
  ·cases h;decide
  ·cases h;decide
  ·cases h;decide
  ·cases h
 ·cases h
def rIsi:List V→Hp→VK→Prop:=fun xs H Q=>∃ x n t,xs=[x,.ty n]∧n∈["bool", "int", "str", "list", "tuple", "dict"]∧tyNm x H=some t∧Q (.bl (isiB t n)) H
theorem call_isi:CallR X (.builtin "isinstance") rIsi:=by
 intro pins s σ H xs us Q I r h
 obtain⟨x,n,t,rfl,hn,ty,q⟩:=h
 obtain⟨u,v,rfl,ru,rv⟩:=r.two
 obtain rfl:v=Value.type n:=rv
 exact isinst_ok I ru (tyNm_of ty) (kit_of X.K t (tyNm_mem ty) n hn) fun tk=>⟨.bl _,H,I.tok tk,rfl,q⟩
theorem isiN_int:("int" ∈ ["bool", "int", "str", "list", "tuple", "dict"])=True:=eq_true (by decide)
theorem isiN_bool:("bool" ∈ ["bool", "int", "str", "list", "tuple", "dict"])=True:=eq_true (by decide)
theorem isiN_list:("list" ∈ ["bool", "int", "str", "list", "tuple", "dict"])=True:=eq_true (by decide)
theorem isiN_tuple:("tuple" ∈ ["bool", "int", "str", "list", "tuple", "dict"])=True:=eq_true (by decide)
theorem isiN_str:("str" ∈ ["bool", "int", "str", "list", "tuple", "dict"])=True:=eq_true (by decide)
theorem isi_ii:isiB "int" "int" = true:=rfl
theorem isi_ib:isiB "int" "bool" = false:=rfl
theorem isi_bb:isiB "bool" "bool" = true:=rfl
theorem isi_bi:isiB "bool" "int" = true:=rfl
theorem isi_tt:isiB "tuple" "tuple" = true:=rfl
theorem isi_ll:isiB "list" "list" = true:=rfl
theorem isi_nt:isiB "NoneType" "tuple" = false:=rfl
theorem isi_ni:isiB "NoneType" "int" = false:=rfl
def seqAt(H:Hp)(p:Addr):Option (List V):=match H p with
 | some (.lst xs)=>some xs
 | some (.tup xs)=>some xs
 | some (.frz _ (.lst xs))=>some xs
 | _=>none
theorem sq_of{K:PySem.W.Frag}{H:Hp}{p:Addr}{xs:List V}(h:seqAt H p=some xs):SqL K H p xs∨SqT K H p xs:=by
 unfold seqAt at h
 split at h
 ·rename_i e;cases h;exact .inl (SqL.of e)
 ·rename_i e;cases h;exact .inr (SqT.of e)
 ·rename_i e;cases h;exact .inl (.inl (.inr ⟨_,e⟩))
 ·cases h
def rIxF:R2:=fun x y H Q=>∃ p xs i v,x=.ref p∧y=.int i∧seqAt H p=some xs∧atI xs i=some v∧Q v H
theorem ix_seqA:IxR X rIxF:=by
 intro value slice pins s σ H x y v u Q I rx ry h hs
 obtain⟨p,xs,i,z,e1,e2,hq,he,q⟩:=h
 rcases sq_of (K:=X.K) hq with h' | h'
 ·exact ix_list value slice pins s σ H x y v u Q I rx ry ⟨p,xs,i,z,e1,e2,h',he,q⟩ hs
 ·exact ix_tup value slice pins s σ H x y v u Q I rx ry ⟨p,xs,i,z,e1,e2,h',he,q⟩ hs
def rLenF:List V→Hp→VK→Prop:=fun xs H Q=>∃ p ys,xs=[.ref p]∧seqAt H p=some ys∧Q (.int ys.length) H
theorem call_lenF:CallR X (.builtin "len") rLenF:=by
 intro pins s σ H xs us Q I r h
 obtain⟨p,ys,e1,hq,q⟩:=h
 exact call_len_seq pins s σ H xs us Q I r ⟨p,ys,e1,sq_of hq,q⟩
def rGetF:V→V→Hp→VK→Prop:=fun x y H Q=>∃ p xs i v,x=.ref p∧y=.int i∧H p=some (.lst xs)∧0≤i∧atI xs i=some v∧Q v H
theorem get_list:PGet X rGetF:=by
 intro pins s σ H o i ov iv Q I r1 r2 h
 obtain⟨p,xs,k,v,rfl,rfl,hl,h0,he,q⟩:=h
 obtain rfl:ov=Value.ref p:=r1
 obtain⟨t,rfl⟩:=r2
 obtain⟨its,rv,pl,hz⟩:=I.list (SqL.of hl)
 obtain⟨j,h1,h2,h3,h4,h5⟩:=atI_get he
 obtain⟨u,hu,ru⟩:=rv.get h2
 have hlen:=rv.length
 have hn:=line63
 have hj:k.toNat=j:=by
  rw[seqIndex_of h0 h5] at h1
  exact Option.some.inj h1
 exact wpAny_getItem_list pl.isList h0 (by omega) (by rw[hj];simpa using hu) ⟨v,H,I,ru,q⟩
theorem atI_0{α:Type}{a:α}{l:List α}:atI (a::l) 0=some a:=atI_nat (j:=0) rfl
theorem atI_1{α:Type}{a b:α}{l:List α}:atI (a::b::l) 1=some b:=atI_nat (j:=1) rfl
theorem atI_2{α:Type}{a b c:α}{l:List α}:atI (a::b::c::l) 2=some c:=atI_nat (j:=2) rfl
theorem atI_3{α:Type}{a b c d:α}{l:List α}:atI (a::b::c::d::l) 3=some d:=atI_nat (j:=3) rfl
theorem ixN_4_0:ixN 4 0=some 0:=rfl
theorem ixN_4_1:ixN 4 1=some 1:=rfl
theorem ixN_4_2:ixN 4 2=some 2:=rfl
theorem ixN_4_3:ixN 4 3=some 3:=rfl
theorem atI_lt{α:Type}{xs:List α}{i:Int}(h0:0≤i)(h1:i < xs.length):∃ v,atI xs i=some v∧v∈xs:=by
 have hl:i.toNat < xs.length:=by omega
 refine⟨xs[i.toNat],?_,List.getElem_mem hl⟩
 have:=atI_nat (xs:=xs) (j:=i.toNat) (v:=xs[i.toNat]) (by simp[hl])
 rwa [Int.toNat_of_nonneg h0] at this
end
theorem bt_len:bootBuiltins "len" = some (.builtin "len"):=by decide +kernel
theorem bt_abs:bootBuiltins "abs" = some (.builtin "abs"):=by decide +kernel
theorem bt_isinstance:bootBuiltins "isinstance" = some (.builtin "isinstance"):=by decide +kernel
theorem bt_all:bootBuiltins "all" = some (.builtin "all"):=by decide +kernel
theorem bt_int:bootBuiltins "int" = some (.type "int"):=by decide +kernel
theorem bt_str:bootBuiltins "str" = some (.type "str"):=by decide +kernel
theorem bt_list:bootBuiltins "list" = some (.type "list"):=by decide +kernel
theorem bt_tuple:bootBuiltins "tuple" = some (.type "tuple"):=by decide +kernel
theorem scal_ii{i j:Int}:scal (.int i) (.int j)=true:=rfl
theorem scal_bb{i j:Bool}:scal (.bl i) (.bl j)=true:=rfl
theorem scal_ss{i j:Str}:scal (.str i) (.str j)=true:=rfl
theorem scal_nn:scal .non .non=true:=rfl
theorem sizeLine_1:(1≤sizeLine)=True:=eq_true (by decide)
theorem sizeLine_2:(2≤sizeLine)=True:=eq_true (by decide)
theorem sizeLine_3:(3≤sizeLine)=True:=eq_true (by decide)
theorem sizeLine_4:(4≤sizeLine)=True:=eq_true (by decide)
theorem sizeLine_5:(5≤sizeLine)=True:=eq_true (by decide)
theorem sizeLine_6:(6≤sizeLine)=True:=eq_true (by decide)
theorem sizeLine_7:(7≤sizeLine)=True:=eq_true (by decide)
theorem int_c2:(((2:Nat):Int))=2:=rfl
theorem pow_ok:(Int.natAbs 10 < 2 ^ 64)=True:=eq_true (by decide)
theorem int_01:((0:Int)≤1)=True:=eq_true (by decide)
section
variable {X:Cx}
def rListF:List V→Hp→VK→Prop:=fun xs H Q=>∃ p ys,xs=[.ref p]∧seqAt H p=some ys∧∀ l,H l=none→Q (.ref l) (upd H l (.lst ys))
theorem call_listF:CallR X (.type "list") rListF:=by
 intro pins s σ H xs us Q I r h
 obtain⟨p,ys,e1,hq,q⟩:=h
 exact call_list_of pins s σ H xs us Q I r ⟨p,ys,e1,sq_of hq,q⟩
def rTupF:List V→Hp→VK→Prop:=fun xs H Q=>∃ p ys,xs=[.ref p]∧H p=some (.lst ys)∧∀ l,H l=none→Q (.ref l) (upd H l (.tup ys))
theorem cutV_all{ns:List V}{k:Nat}(h:ns.length≤k):cutV ns none (some (k:Int))=ns:=by
 unfold cutV
 rw[HT.sIx_none,HT.sIx_nat,List.drop_zero,Nat.sub_zero,Nat.min_eq_right h,List.take_length]
end
def DefOk(P:Program)(w:World)(K:PySem.W.Frag)(mg:Str→Option Value)(base:Heap)(CX:CXT)(k:Nat)(x:Str)(ps:List Str)(sp:Sp):Prop :=
 ∃ f fd,FnOk P w K mg base CX k f fd ps sp∧mg x=some (.ref f)∧PySem.W.keepIn K (.ref f)=true∧Binds K fd ps []
inductive Tg.{u} {α:Sort u} (a:α):Type
 | mk
def Hold(Q:VK)(_:Tg Q):VK:=Q
theorem Hold_ap{Q:VK}{k:Tg Q}{v:V}{H:Hp}:Hold Q k v H=Q v H:=propext Iff.rfl
def tD(sp:Sp)(E:XK)(t:TA):TE:=fun σ H Q=>t σ H fun vs H1=>sp vs H1 (Hold Q .mk) E
section
variable {X:Cx}{CX:CXT}{k:Nat}{ps:List Str}{sp:Sp}{E:XK}{x:Str}{p pos:Pos}{e:Expr}{es:List Expr}{t:TA}
theorem pe_d(d:DefOk X.prog X.w X.K X.mg X.base CX k x ps sp)(hr:Room k X.A)(hx:Passes CX X E)(hg:Gl X x)(ha:PA X (e::es) t)
  (hdb:(x == ("__debug__" : Str))=false:=by decide) (he:starEach (e::es) X.env=(false,eval e X.env)::starEach es X.env:=by rfl) (hpl:(backTo pos (starEach es X.env)).any (·.1)=false:=by rfl) :
  PE X (.Call (.Name x p) (e::es) [] pos) (tD sp E t):=by
 obtain⟨f,fd,F,hm,hk,hb⟩:=d
 intro pins s σ H Q I h
 refine pe_call (dvs:=[]) (ds:=[]) F hr hg hm hk hb .nil hx ha hdb he hpl pins s σ H Q I ?_
 have e0:tCall sp [] E t=tD sp E t:=by
  funext σ H Q
  unfold tCall tD Hold
  simp only[List.append_nil]
 rw[e0]
 exact h
end
structure DefAt(K:PySem.W.Frag)(mg:Str→Option Value)(x:Str)(st:Stmt)(f:Addr)(fd:FuncData):Prop where
 fn:Fun K x x st f fd
 mg:mg x=some (.ref f)
theorem DefAt.ok{P:Program}{w:World}{K:PySem.W.Frag}{mg:Str→Option Value}{base:Heap}{CX:CXT}{k:Nat}{x:Str}{st:Stmt}{f:Addr}{fd:FuncData}{ps:List Str}{sp:Sp}(D:DefAt K mg x st f fd)(F:FnOk P w K mg base CX k f fd ps sp)(b:Binds K fd ps []):DefOk P w K mg base CX k x ps sp :=
 ⟨f,fd,F,D.mg,D.fn.kp,b⟩
def Fr1(B:Addr)(H H':Hp):Prop:=∀ b o,b≠B→H b=some o→H' b=some o
theorem Fr1.refl{B:Addr}{H:Hp}:Fr1 B H H:=fun _ _ _ h=>h
theorem Fr1.trans{B:Addr}{H H1 H2:Hp}(a:Fr1 B H H1)(b:Fr1 B H1 H2):Fr1 B H H2:=fun c o n h=>b c o n (a c o n h)
theorem Fr1.upd{B:Addr}{H:Hp}{o:HO}:Fr1 B H (L2.upd H B o):=fun c u n h=>by rw[upd_ne n];exact h
theorem Fr1.new{B p:Addr}{H:Hp}{o:HO}(hp:H p=none):Fr1 B H (L2.upd H p o):=fun c u n h=>by rw[upd_ne (ne_of_none h hp)];exact h
theorem Same.new{p:Addr}{H:Hp}{o:HO}(hp:H p=none):Same H (L2.upd H p o):=fun c u h=>by rw[upd_ne (ne_of_none h hp)];exact h
theorem Room.le{j k:Nat}{A:Around}(r:Room k A)(h:j≤k:=by decide):Room j A:=r.mono h
def Brk(b:Bool)(A B:Prop)(_:Tg A)(_:Tg B):Prop:=if b=true then A else B
theorem Brk_t{A B:Prop}{k:Tg A}{l:Tg B}:Brk true A B k l=A:=by unfold Brk;rw[if_pos rfl]
theorem Brk_f{A B:Prop}{k:Tg A}{l:Tg B}:Brk false A B k l=B:=by unfold Brk;rw[if_neg Bool.false_ne_true]
theorem brk{b:Bool}{A B:Prop}{k:Tg A}{l:Tg B}(h1:b=true→A)(h2:b=false→B):Brk b A B k l:=by
 cases b with
 | true=>rw[Brk_t];exact h1 rfl
 | false=>rw[Brk_f];exact h2 rfl
theorem brkD{p:Prop}[Decidable p]{A B:Prop}{k:Tg A}{l:Tg B}(h1:p→A)(h2:¬ p→B):Brk (decide p) A B k l:=brk (fun h=>h1 (of_decide_eq_true h)) (fun h=>h2 (of_decide_eq_false h))
section
variable {σ:St}{H:Hp}{Q:VK}{D:Ends}{te ta tb:TE}{t u:TS}{c c':TT}{tr:TA}{QT:Bool→Hp→Prop}{QA:List V→Hp→Prop}{x y:V}{xs:List V}{v:V}
theorem tSeq_ap:tSeq t u D σ H=t { D with nx:=u D } σ H:=propext Iff.rfl
theorem tIfS_ap:tIfS c t u D σ H=c σ H fun b H1=>Brk b (t D σ H1) (u D σ H1) .mk .mk:=propext Iff.rfl
theorem tNext_ap:tNext D σ H=D.nx σ H:=propext Iff.rfl
theorem tDrop_ap:tDrop te D σ H=te σ H fun _ H1=>D.nx σ H1:=propext Iff.rfl
theorem tRet_ap:tRet te D σ H=te σ H D.rt:=propext Iff.rfl
theorem tRetN_ap:tRetN D σ H=D.rt .non H:=propext Iff.rfl
theorem tAsg_ap{g:TG}:tAsg te g D σ H=te σ H fun x H1=>g x σ H1 D.nx:=propext Iff.rfl
theorem gName_ap{i:Nat}{R:St→Hp→Prop}:gName i v σ H R=R (σ.set i (some v)) H:=propext Iff.rfl
theorem gSub_ap{to ti:TE}{ts:TSet}{R:St→Hp→Prop}:gSub to ti ts v σ H R=to σ H fun o H1=>ti σ H1 fun i H2=>ts o i v H2 fun H3=>R σ H3:=propext Iff.rfl
theorem tPar_ap{i j:Nat}:tPar i j tr D σ H=tr σ H fun vs H1=>∃ v w,vs=[v,w]∧D.nx ((σ.set i (some v)).set j (some w)) H1:=propext Iff.rfl
theorem tAugS_ap{to ti:TE}{tg:V→V→Hp→VK→Prop}{tp:TIp}{ts:TSet}:tAugS to ti te tg tp ts D σ H=to σ H fun o H1=>ti σ H1 fun i H2=>tg o i H2 fun x H3=>te σ H3 fun y H4=>tp x y H4 fun z H5=>ts o i z H5 fun H6=>D.nx σ H6:=propext Iff.rfl
theorem tVar_ap{i:Nat}:tVar i σ H Q=∃ v,σ[i]?=some (some v)∧Q v H:=propext Iff.rfl
theorem tC_ap:tC v σ H Q=Q v H:=propext Iff.rfl
theorem tB_ap:tB te σ H QT=te σ H fun x H1=>∃ c,x=.bl c∧QT c H1:=propext Iff.rfl
theorem tTest_ap:tTest te σ H QT=te σ H fun x H1=>∃ c,x=.bl c∧QT c H1:=propext Iff.rfl
theorem tOp_ap{r:R2}:tOp r ta tb σ H Q=ta σ H fun x H1=>tb σ H1 fun y H2=>r x y H2 Q:=propext Iff.rfl
theorem tUn_ap{r:V→Hp→VK→Prop}:tUn r ta σ H Q=ta σ H fun x H1=>r x H1 Q:=propext Iff.rfl
theorem tCB_ap{r:List V→Hp→VK→Prop}:tCB r tr σ H Q=tr σ H fun vs H1=>r vs H1 Q:=propext Iff.rfl
theorem tNil_ap:tNil σ H QA=QA [] H:=propext Iff.rfl
theorem tCons_ap:tCons ta tr σ H QA=ta σ H fun x H1=>tr σ H1 fun xs H2=>QA (x::xs) H2:=propext Iff.rfl
theorem tTup_ap:tTup tr σ H Q=tr σ H fun xs H1=>xs.length≤sizeLine∧∀ p,H1 p=none→Q (.ref p) (upd H1 p (.tup xs)):=propext Iff.rfl
theorem tLst_ap:tLst tr σ H Q=tr σ H fun xs H1=>xs.length≤sizeLine∧∀ p,H1 p=none→Q (.ref p) (upd H1 p (.lst xs)):=propext Iff.rfl
theorem tAnd_ap:tAnd c c' σ H QT=c σ H fun b H1=>Brk b (c' σ H1 QT) (QT false H1) .mk .mk:=propext Iff.rfl
theorem tOr_ap:tOr c c' σ H QT=c σ H fun b H1=>Brk b (QT true H1) (c' σ H1 QT) .mk .mk:=propext Iff.rfl
theorem tNot_ap:tNot c σ H QT=c σ H fun b H1=>QT (!b) H1:=propext Iff.rfl
theorem tAndV_ap:tAndV ta tb σ H Q=ta σ H fun x H1=>∃ c,x=.bl c∧Brk c (tb σ H1 Q) (Q (.bl false) H1) .mk .mk:=propext Iff.rfl
theorem tOrV_ap:tOrV ta tb σ H Q=ta σ H fun x H1=>∃ c,x=.bl c∧Brk c (Q (.bl true) H1) (tb σ H1 Q) .mk .mk:=propext Iff.rfl
theorem tNotV_ap:tNotV ta σ H Q=ta σ H fun x H1=>∃ c,x=.bl c∧Q (.bl (!c)) H1:=propext Iff.rfl
theorem tIf_ap:tIf c ta tb σ H Q=c σ H fun b H1=>Brk b (ta σ H1 Q) (tb σ H1 Q) .mk .mk:=propext Iff.rfl
theorem tD_ap{sp:Sp}{E:XK}:tD sp E tr σ H Q=tr σ H fun vs H1=>sp vs H1 (Hold Q .mk) E:=propext Iff.rfl
theorem tCallX_ap{sp:Sp}{EX:XEx}:tCallX sp EX tr σ H Q=tr σ H fun vs H1=>sp vs H1 (Hold Q .mk) fun cls _ H2=>EX cls σ H2:=propext Iff.rfl
theorem tTry_ap{C:Addr}{tb':XEx→TS}{th:TS}:tTry C tb' th D σ H=tb' (fun cls σ' H'=>cls=.ref C∧th D σ' H') D σ H:=propext Iff.rfl
theorem tRaise_ap{C:Addr}{E:XK}:tRaise C E tr D σ H=tr σ H fun vs H1=>vs.length≤sizeLine∧E (.ref C) none H1:=propext Iff.rfl
theorem tIsN_ap:tIsN ta σ H Q=ta σ H fun x H1=>Q (.bl (decide (x=.non))) H1:=propext Iff.rfl
theorem tNotN_ap:tNotN ta σ H Q=ta σ H fun x H1=>Q (.bl (!decide (x=.non))) H1:=propext Iff.rfl
theorem rI_ap{C:Int→Int→Prop}{g:Int→Int→V}:rI C g x y H Q=∃ i j,x=.int i∧y=.int j∧C i j∧Q (g i j) H:=propext Iff.rfl
theorem rI0_ap{g:Int→Int→V}:rI0 g x y H Q=∃ i j,x=.int i∧y=.int j∧Q (g i j) H:=propext Iff.rfl
theorem rU_ap{g:Int→V}:rU g x H Q=∃ i,x=.int i∧Q (g i) H:=propext Iff.rfl
theorem rEq_ap:rEq x y H Q=(scal x y=true∧Q (.bl (decide (x=y))) H):=propext Iff.rfl
theorem rNe_ap:rNe x y H Q=(scal x y=true∧Q (.bl (!decide (x=y))) H):=propext Iff.rfl
theorem ipI_ap{f:Int→Int→Int}:ipI f x y H Q=∃ i j,x=.int i∧y=.int j∧Q (.int (f i j)) H:=propext Iff.rfl
theorem rIxF_ap:rIxF x y H Q=∃ p xs i v,x=.ref p∧y=.int i∧seqAt H p=some xs∧atI xs i=some v∧Q v H:=propext Iff.rfl
theorem rLenF_ap:rLenF xs H Q=∃ p ys,xs=[.ref p]∧seqAt H p=some ys∧Q (.int ys.length) H:=propext Iff.rfl
theorem rGetF_ap:rGetF x y H Q=∃ p xs i v,x=.ref p∧y=.int i∧H p=some (.lst xs)∧0≤i∧atI xs i=some v∧Q v H:=propext Iff.rfl
theorem rSetL_ap{R:Hp→Prop}:rSetL x y v H R=∃ p xs k j,x=.ref p∧y=.int k∧H p=some (.lst xs)∧ixN xs.length k=some j∧R (upd H p (.lst (xs.set j v))):=propext Iff.rfl
theorem rIsi_ap:rIsi xs H Q=∃ x n t,xs=[x,.ty n]∧n∈["bool", "int", "str", "list", "tuple", "dict"]∧tyNm x H=some t∧Q (.bl (isiB t n)) H:=propext Iff.rfl
theorem rListF_ap:rListF xs H Q=∃ p ys,xs=[.ref p]∧seqAt H p=some ys∧∀ l,H l=none→Q (.ref l) (upd H l (.lst ys)):=propext Iff.rfl
theorem rTupF_ap:rTupF xs H Q=∃ p ys,xs=[.ref p]∧H p=some (.lst ys)∧∀ l,H l=none→Q (.ref l) (upd H l (.tup ys)):=propext Iff.rfl
end
theorem seqAt_lst{H:Hp}{p:Addr}{xs:List V}(h:H p=some (.lst xs)):seqAt H p=some xs:=by unfold seqAt;rw[h]
theorem seqAt_tup{H:Hp}{p:Addr}{xs:List V}(h:H p=some (.tup xs)):seqAt H p=some xs:=by unfold seqAt;rw[h]
end L2
namespace L2
open PySem PySem.Spec PyProof.Rows
structure QE(X:Cx)(e:Expr)(t:TE):Prop where
 p:PE X e t
structure QT(X:Cx)(e:Expr)(t:TT):Prop where
 p:PT X e t
structure QW(X:Cx)(e:Expr)(t:TT):Prop where
 p:PW X e t
structure QA(X:Cx)(e:List Expr)(t:TA):Prop where
 p:PA X e t
structure QS(X:Cx)(e:Stmt)(t:TS):Prop where
 p:PS X e t
structure QB(X:Cx)(e:List Stmt)(t:TS):Prop where
 p:PSs X e t
structure QI(X:Cx)(tg e:Expr)(t:TI):Prop where
 p:PI X tg e t
structure QG(X:Cx)(e:Expr)(t:TG):Prop where
 p:PG X e t
structure QGs(X:Cx)(e:List Expr)(t:TGs):Prop where
 p:PGs X e t
structure QF(X:Cx)(e:List Expr)(t:TT):Prop where
 p:PFs X e t
structure QO(X:Cx)(e:Option Expr)(t:TO):Prop where
 p:PO X e t
section
variable {X:Cx}{a b c e o:Expr}{es rest:List Expr}{ta tb tc te:TE}{t tr:TA}{tA tB':TT}{pos p:Pos}{x:Str}{st:Stmt}{sts:List Stmt}{ts us:TS}
theorem qv(i:Nat)(hN:X.N[i]?=some x:=by rfl)(hv:Vis X.env.scope x:=by first | exact Or.inl rfl | exact Or.inr (Or.inl rfl) | exact Or.inr (Or.inr rfl))(hd:(x == ("__debug__" : Str))=false:=by decide)
  (hcd:(x == ("__classdict__" : Str))=false:=by decide):QE X (.Name x pos) (tVar i):=⟨pe_var hN hv hd hcd⟩
theorem qe_int{i j}:QE X (.Constant (.int i) j pos) (tC (.int i)):=⟨pe_int⟩
theorem qe_bl{i j}:QE X (.Constant (.bool i) j pos) (tC (.bl i)):=⟨pe_bl⟩
theorem qe_non{j}:QE X (.Constant .none j pos) (tC .non):=⟨pe_non⟩
theorem qe_str{i j}:QE X (.Constant (.str i) j pos) (tC (.str i)):=⟨pe_str⟩
theorem qe_bltn{v:V}{u:Value}(hg:Gl X x)(hm:X.mg x=none)(hv:bootBuiltins x=some u)(r:RelV v u)(hn:x ≠ "__name__" := by decide)(hd:(x == ("__debug__" : Str))=false:=by decide):QE X (.Name x pos) (tC v):=⟨pe_bltn hg hm hv r hn hd⟩
theorem qe_op{op:Operator}{r:R2}(ho:OpR X (binaryOp op) r)(ha:QE X a ta)(hb:QE X b tb):QE X (.BinOp a op b pos) (tOp r ta tb):=⟨pe_op ho ha.p hb.p⟩
theorem qe_un{op:UnaryOp}{r:V→Hp→VK→Prop}(ho:UnR X (unaryOp op) r)(ha:QE X a ta):QE X (.UnaryOp op a pos) (tUn r ta):=⟨pe_un ho ha.p⟩
theorem qe_one{op}(h:QE X a ta):QE X (.BoolOp op [a] pos) ta:=⟨pe_one h.p⟩
theorem qe_and(ha:QE X a ta)(hb:QE X (.BoolOp .And (b::rest) pos) tb):QE X (.BoolOp .And (a::b::rest) pos) (tAndV ta tb):=⟨pe_and ha.p hb.p⟩
theorem qt_isN{j pos'}(ha:QE X a ta):QT X (.Compare a [.Is] [.Constant .none j pos'] pos) (tB (tIsN ta)):=⟨pt_cmp (pc_isN ha.p)⟩
theorem qe_cmpR{op:CmpOp}{r:R2}(ho:OpR X (compareOp op) r)(ha:QE X a ta)(hb:QE X b tb)(hm:behindInMarks op b=false):QE X (.Compare a [op] [b] pos) (tOp r ta tb):=⟨pe_cmpR ho ha.p hb.p hm⟩
theorem qe_ifExp(hc:QT X c tA)(ha:QE X a ta)(hb:QE X b tb):QE X (.IfExp c a b pos) (tIf tA ta tb):=⟨pe_ifExp hc.p ha.p hb.p⟩
theorem qe_tup{x1}(h:QA X es t):QE X (.Tuple es x1 pos) (tTup t):=⟨pe_tup h.p⟩
theorem qe_lst(h:QA X es t):QE X (.List es pos) (tLst t):=⟨pe_lst h.p⟩
theorem qe_slice{r:V→Option Int→Option Int→Hp→VK→Prop}{lo hi:Option Expr}{tl th:TO}{p2:Pos}(hr:SlR X r)(he:QE X e te)(hl:QO X lo tl)(hu:QO X hi th):QE X (.Subscript e (.Slice lo hi none p2) pos) (tSl r te tl th):=⟨pe_slice hr he.p hl.p hu.p⟩
theorem qe_ix{r:R2}(hr:IxR X r)(ha:QE X a ta)(hb:QE X b tb)(hs:PlainIx b):QE X (.Subscript a b pos) (tOp r ta tb):=⟨pe_ix hr ha.p hb.p hs⟩
theorem qe_callB{id:String}{r:List V→Hp→VK→Prop}(hc:CallR X (.builtin id) r)(hg:Gl X x)(hm:X.mg x=none)(hv:bootBuiltins x=some (.builtin id))(ha:QA X (e::es) t)(hn:x ≠ "__name__" := by decide)(hdb:(x == ("__debug__" : Str))=false:=by decide)
  (he:starEach (e::es) X.env=(false,eval e X.env)::starEach es X.env:=by rfl) (hpl:(backTo pos (starEach es X.env)).any (·.1)=false:=by rfl):QE X (.Call (.Name x p) (e::es) [] pos) (tCB r t):=⟨pe_callB hc hg hm hv ha.p hn hdb he hpl⟩
theorem qe_callTy{T:String}{r:List V→Hp→VK→Prop}(hc:CallR X (.type T) r)(hg:Gl X x)(hm:X.mg x=none)(hv:bootBuiltins x=some (.type T))(ha:QA X (e::es) t)(hn:x ≠ "__name__" := by decide)(hdb:(x == ("__debug__" : Str))=false:=by decide)
  (he:starEach (e::es) X.env=(false,eval e X.env)::starEach es X.env:=by rfl) (hpl:(backTo pos (starEach es X.env)).any (·.1)=false:=by rfl):QE X (.Call (.Name x p) (e::es) [] pos) (tCB r t):=⟨pe_callTy hc hg hm hv ha.p hn hdb he hpl⟩
theorem qe_d{CX:CXT}{k:Nat}{ps:List Str}{sp:Sp}{E:XK}(d:DefOk X.prog X.w X.K X.mg X.base CX k x ps sp)(hr:Room k X.A)(hx:Passes CX X E)(hg:Gl X x)(ha:QA X (e::es) t)
  (hdb:(x == ("__debug__" : Str))=false:=by decide) (he:starEach (e::es) X.env=(false,eval e X.env)::starEach es X.env:=by rfl) (hpl:(backTo pos (starEach es X.env)).any (·.1)=false:=by rfl) :
  QE X (.Call (.Name x p) (e::es) [] pos) (tD sp E t):=⟨pe_d d hr hx hg ha.p hdb he hpl⟩
theorem qt_cmpR{op:CmpOp}{r:R2}(ho:OpR X (compareOp op) r)(ha:QE X a ta)(hb:QE X b tb)(hm:behindInMarks op b=false):QT X (.Compare a [op] [b] pos) (tTest (tOp r ta tb)):=⟨pt_cmpR ho ha.p hb.p hm⟩
theorem qt_not(ha:QT X a tA):QT X (.UnaryOp .Not a pos) (tNot tA):=⟨pt_not ha.p⟩
theorem qw_and(ha:QT X a tA)(hb:QW X (.BoolOp .And (b::rest) pos) tB'):QW X (.BoolOp .And (a::b::rest) pos) (tAnd tA tB'):=⟨pw_and ha.p hb.p⟩
theorem qw_and1(ha:QT X a tA):QW X (.BoolOp .And [a] pos) tA:=⟨pw_and1 ha.p⟩
theorem qw_or(ha:QT X a tA)(hb:QW X (.BoolOp .Or (b::rest) pos) tB'):QW X (.BoolOp .Or (a::b::rest) pos) (tOr tA tB'):=⟨pw_or ha.p hb.p⟩
theorem qw_or1(ha:QT X a tA):QW X (.BoolOp .Or [a] pos) tA:=⟨pw_or1 ha.p⟩
theorem QW.pt(h:QW X e tA):QT X e tA:=⟨h.p.pt⟩
theorem qt_val(h:QE X e te)(he:∀ whole,isTrue e X.env whole=(do let v ← whole;standAt e.pos;holding [v] (truthy v)):=by intro _;rfl):QT X e (tB te):=⟨pt_val h.p he⟩
theorem qa_nil:QA X [] tNil:=⟨pa_nil⟩
theorem qa_cons(ha:QE X e te)(hr:QA X es t)(hs:starEach (e::es) X.env=(false,eval e X.env)::starEach es X.env:=by rfl):QA X (e::es) (tCons te t):=⟨pa_cons ha.p hr.p hs⟩
theorem qi_list{tg:Expr}(hl:QE X e te):QI X tg e (iList X.K te):=⟨pi_list hl.p⟩
theorem qi_tup{tg:Expr}(hl:QE X e te):QI X tg e (iTup X.K te):=⟨pi_tup hl.p⟩
theorem qi_range1{tg:Expr}(hg:Gl X "range")(hm:X.mg "range" = none)(ha:QA X [a] t)(hs:starEach [a] X.env=[(false,eval a X.env)]:=by rfl):QI X tg (.Call (.Name "range" p) [a] [] pos) (iRng1 t):=⟨pi_range1 hg hm ha.p hs⟩
theorem qg_name{i:Nat}(hN:X.N.Nodup)(hi:X.N[i]?=some x)(hx:Loc X.env.scope x)(hf:X.fn x=true∨X.env.scope.names.lookup x=some .local:=by first | exact .inl rfl | exact .inr rfl | assumption):QG X (.Name x pos) (gName i):=⟨pg_name hN hi hx hf⟩
theorem qg_tup{k:Nat}{tg:TGs}{n:Nat}(hc:X.calm=true)(h:QGs X es tg)(hn:(assignEach es X.env).length=n:=by rfl)(hst:(assignEach es X.env).findIdx? (·.1)=none:=by rfl):QG X (.Tuple es k pos) (gTup X.K n tg):=⟨pg_tup hc h.p hn hst⟩
theorem qg_sub{i:Expr}{ti:TE}{tset:TSet}(ho:QE X o ta)(hi:QE X i ti)(hs:PSet X tset)
  (ha:∀ v,assign (.Subscript o i pos) X.env v=(do
   let ov ← holding [v] (eval o X.env)
   let iv ← holding [v,ov] (eval i X.env)
   standAt pos
   holding [v,ov,iv] (setItem ov iv v)
   release [v,ov,iv] []):=by intro _;rfl):QG X (.Subscript o i pos) (gSub ta ti tset):=⟨pg_sub ho.p hi.p hs ha⟩
theorem qgs_nil:QGs X [] gNil:=⟨pgs_nil⟩
theorem qgs_cons{tg:TG}{tgs:TGs}(h1:QG X e tg)(h2:QGs X es tgs)(hs:(assignEach (e::es) X.env).map (·.2)=assign e X.env::(assignEach es X.env).map (·.2):=by rfl):QGs X (e::es) (gCons tg tgs):=⟨pgs_cons h1.p h2.p hs⟩
theorem qss_nil:QB X [] tNext:=⟨pss_nil⟩
theorem qss_cons(h1:QS X st ts)(h2:QB X sts us):QB X (st::sts) (tSeq ts us):=⟨pss_cons h1.p h2.p⟩
theorem qss_one(h1:QS X st ts):QB X [st] ts:=⟨pss_one h1.p⟩
theorem qs_set{i:Nat}{pos':Pos}(hN:X.N.Nodup)(hi:X.N[i]?=some x)(hx:Loc X.env.scope x)(he:QE X e te)(hs:swapsWith e (some (.Name x pos')) pos.line X.env=pure false:=by rfl)(hf:X.fn x=true∨X.env.scope.names.lookup x=some .local:=by first | exact .inl rfl | exact .inr rfl | assumption) :
  QS X (.Assign [.Name x pos'] e pos) (tAsg te (gName i)):=⟨ps_set hN hi hx he.p hs hf⟩
theorem qs_asg{tg:Expr}{g:TG}(he:QE X e te)(hg:QG X tg g)(hs:swapsWithSole [tg] e pos.line X.env=pure false:=by rfl)(hw:swappedStores [tg] e X.env=pure none:=by rfl)(h1:List.map (fun x=>x.snd) (assignEach [tg] X.env)=[assign tg X.env]:=by rfl):QS X (.Assign [tg] e pos) (tAsg te g):=⟨ps_asg he.p hg.p hs hw h1⟩
theorem qs_augS{i:Expr}{ti:TE}{tget:V→V→Hp→VK→Prop}{tip:TIp}{tset:TSet}{op:Operator}{tpos:Pos}(ho:QE X o ta)(hi:QE X i ti)(hg:PGet X tget)(he:QE X e te)(hp:PIp X op tip)(hs:PSet X tset)
  (ha:∀ ov iv new,augStore i ov iv new=(do holding [new,ov,iv] (setItem ov iv new);release [new,ov,iv] [];pure .next):=by intros;rfl):QS X (.AugAssign (.Subscript o i tpos) op e pos) (tAugS ta ti te tget tip tset):=⟨ps_augS ho.p hi.p hg he.p hp hs ha⟩
theorem qs_ret(he:QE X e te):QS X (.Return (some e) pos) (tRet te):=⟨ps_ret he.p⟩
theorem qs_if{ss:List Stmt}(hc:QT X c tA)(ha:QB X sts ts)(hb:QB X ss us):QS X (.If c sts ss pos) (tIfS tA ts us):=⟨ps_if hc.p ha.p hb.p⟩
theorem qs_while(hp:PassesOwn (model X.prog X.w) X.A X.env X.xe)(hc:QT X c tA)(hb:QB X sts ts):QS X (.While c sts [] pos) (tWhile tA ts):=⟨ps_while hp hc.p hb.p⟩
theorem qs_for{tg iter:Expr}{wi:TI}{g:TG}(hp:PassesOwn (model X.prog X.w) X.A X.env X.xe)(hc:X.calm=true)(hi:QI X tg iter wi)(hg:QG X tg g)(hb:QB X sts ts)
  (hs:∀ x,foldedSetIterable iter X.env x=pure x:=by intro _;rfl):QS X (.For tg iter sts [] pos) (tFor wi g ts):=⟨ps_for hp hc hi.p hg.p hb.p hs⟩
theorem qs_expr(he:QE X e te)(hs:swapsWith e none pos.line X.env=pure false:=by rfl):QS X (.Expr e pos) (tDrop te):=⟨ps_expr he.p hs⟩
theorem qo_none:QO X none tNoPart:=⟨po_none⟩
theorem qo_some(h:QE X e te):QO X (some e) (tPart te):=⟨po_some h.p⟩
theorem qs_raise{E:XK}{C:Addr}{np cpos:Pos}(hR:Raises X E)(O:Exc X.K X.mg x C)(hc:X.calm=true)(hg:Gl X x)(ha:QA X (e::es) t)
  (hdb:(x == ("__debug__" : Str))=false:=by decide) (he:starEach (e::es) X.env=(false,eval e X.env)::starEach es X.env:=by rfl) (hpl:(backTo cpos (starEach es X.env)).any (·.1)=false:=by rfl) :
  QS X (.Raise (some (.Call (.Name x np) (e::es) [] cpos)) none pos) (tRaise C E t):=⟨ps_raise hR O hc hg ha.p hdb he hpl⟩
theorem qs_try{C:Addr}{np hpos:Pos}{suite:List Stmt}{b₀:Stmt}{tb':XEx→TS}{th:TS}(O:Exc X.K X.mg x C)(hg:Gl X x)(hs:X.stack=X.env::X.outer)(hf:X.env.frame=some X.env.locals)
  (hb:∀ pn EX,QB (X.tr pn EX) sts (tb' EX)) (hh:∀ e,QB (X.inH e) (b₀::suite) th) (hdb:(x == ("__debug__" : Str))=false:=by decide) :
  QS X (.Try sts [.ExceptHandler (some (.Name x np)) none (b₀::suite) hpos] [] [] pos) (tTry C tb' th):=⟨ps_try O hg hs hf (fun pn EX=>(hb pn EX).p) (fun e=>(hh e).p) hdb⟩
end
section
variable {X:Cx}{elt iter tg c:Expr}{ifs:List Expr}{scope:Scope}{pos spos py:Pos}{wi:TI}{g:TG}{tt:TT}{te:TE}
theorem qf_nil:QF X [] tYes:=⟨pf_nil⟩
theorem qe_comp(own:List Str)(fr:List (Str×Nat))(hc:X.calm=true)(hi:QI X tg iter wi)
  (hgx:GExt g own.length) (hB:∀ cl C fp s2 H2,QG (X.comp (own++fr.map (·.1)) scope cl C fp s2 H2) tg g∧QF (X.comp (own++fr.map (·.1)) scope cl C fp s2 H2) ifs tt∧QE (X.comp (own++fr.map (·.1)) scope cl C fp s2 H2) elt te)
  (hkind:scope.kind=.function) (hcell:∀ y∈scope.names,y.2≠.cell) (hnames:∀ y∈scope.names,y.2=.local→scope.names.lookup y.1=some .local)
  (hfree:∀ y∈scope.names,y.2=.free→X.env.kindOf y.1=some .cell∨X.env.kindOf y.1=some .free)
  (hfr:∀ p∈fr,X.N[p.2]?=some p.1∧(X.env.kindOf p.1=some .cell∨X.env.kindOf p.1=some .free)∧(p.1,NameKind.free)∈scope.names∧((relabel scope X.env).names.lookup p.1=some .cell∨(relabel scope X.env).names.lookup p.1=some .free))
  (hs:∀ x,foldedSetIterable iter X.env x=pure x:=by intro _;rfl):QE X (.ListComp elt [⟨tg,iter,ifs,0⟩] scope pos) (tComp own.length (fr.map (·.2)) wi g tt te) :=
 ⟨pe_comp own fr hc hi.p hgx (fun cl C fp s2 H2=>⟨(hB cl C fp s2 H2).1.p,(hB cl C fp s2 H2).2.1.p,(hB cl C fp s2 H2).2.2.p⟩) hkind hcell hnames hfree hfr hs⟩
theorem tChain_ap{r r':R2}{ta tb tc:TE}{σ:St}{H:Hp}{Q:VK}:tChain r r' ta tb tc σ H Q=ta σ H fun x H1=>tb σ H1 fun y H2=>r x y H2 fun z H3=>∃ k,z=.bl k∧Brk k (tc σ H3 fun w' H4=>r' y w' H4 Q) (Q (.bl false) H3) .mk .mk:=propext Iff.rfl
end
theorem free_of{names:List (Str×NameKind)}{k:Str→Option NameKind}(h:names.all (fun y=>!decide (y.2=.free) || (decide (k y.1=some .cell) || decide (k y.1=some .free)))=true):∀ y∈names,y.2=.free→k y.1=some .cell∨k y.1=some .free:=fun y hy hf=>by
 have:=List.all_eq_true.mp h y hy
 simpa [hf] using this
theorem fr_of{N:List Str}{names rel:List (Str×NameKind)}{k:Str→Option NameKind}{fr:List (Str×Nat)}
  (h:fr.all (fun p=>decide (N[p.2]?=some p.1) && (decide (k p.1=some .cell) || decide (k p.1=some .free)) && decide ((p.1,NameKind.free)∈names) && (decide (rel.lookup p.1=some .cell) || decide (rel.lookup p.1=some .free)))=true) :
  ∀ p∈fr,N[p.2]?=some p.1∧(k p.1=some .cell∨k p.1=some .free)∧(p.1,NameKind.free)∈names∧(rel.lookup p.1=some .cell∨rel.lookup p.1=some .free):=fun p hp=>by
 have:=List.all_eq_true.mp h p hp
 simp only[Bool.and_eq_true,Bool.or_eq_true,decide_eq_true_eq] at this
 exact⟨this.1.1.1,this.1.1.2,this.1.2,this.2⟩
theorem DefAt.q{P:Program}{w:World}{K:PySem.W.Frag}{mg:Str→Option Value}{base:Heap}{x:Str}{st:Stmt}{f:Addr}{fd:FuncData}{N ps:List Str}{k:Nat}{sp:Sp}(D:DefAt K mg x st f fd)(S:FnScope N ps (defScope st))(len:∀ vs H Q E,sp vs H Q E→vs.length=ps.length)
  (hbody:∀(cdv:Value)(A:Around)(outer:List Env)(s:Shared)(H:Hp)(vs:List V)(Q:VK)(E:XK),Room k (A.deeper (envOfC x (defScope st) s.heap.objs.size f cdv))→sp vs H Q E →
   ∃ t,QB (cxOf CX0 P w K mg base N x (defScope st) f cdv A outer s H E).nox (defBody st) t∧t { nx:=fun _ H'=>Q .non H',rt:=Q } (start N vs) H):FnOk P w K mg base CX0 (k+1) f fd ps sp :=
 D.fn.ok S len fun cdv A outer s H vs Q E hr h=>by
  obtain⟨t,h1,h2⟩:=hbody cdv A outer s H vs Q E hr h
  exact⟨t,h1.p,h2⟩
theorem DefAt.qR{P:Program}{w:World}{K:PySem.W.Frag}{mg:Str→Option Value}{base:Heap}{x:Str}{st:Stmt}{f:Addr}{fd:FuncData}{N ps:List Str}{k:Nat}{sp:Sp}(D:DefAt K mg x st f fd)(S:FnScope N ps (defScope st))(len:∀ vs H Q E,sp vs H Q E→vs.length=ps.length)
  (hbody:∀(cdv:Value)(A:Around)(outer:List Env)(s:Shared)(H:Hp)(vs:List V)(Q:VK)(E:XK),Room k (A.deeper (envOfC x (defScope st) s.heap.objs.size f cdv))→sp vs H Q E →
   ∃ t,QB (cxR P w K mg base N x (defScope st) f cdv A outer s H E) (defBody st) t∧t { nx:=fun _ H'=>Q .non H',rt:=Q } (start N vs) H):FnOk P w K mg base (CXR P w) (k+1) f fd ps sp :=
 D.fn.okR S len fun cdv A outer s H vs Q E hr h=>by
  obtain⟨t,h1,h2⟩:=hbody cdv A outer s H vs Q E hr h
  exact⟨t,h1.p,h2⟩
end L2
namespace L2
open PySem PySem.Spec PyProof.Rows
inductive Dt where
 | non | bl (b:Bool) | int (i:Int) | str (x:Str) | tup (l:List Dt) | lst (l:List Dt)
mutual
def Den(H:Hp):Dt→V→Prop
 | .non,x=>x=.non
 | .bl b,x=>x=.bl b
 | .int i,x=>x=.int i
 | .str z,x=>x=.str z
 | .tup ds,x=>∃ a xs,x=.ref a∧H a=some (.tup xs)∧Dens H ds xs
 | .lst ds,x=>∃ a xs,x=.ref a∧H a=some (.lst xs)∧Dens H ds xs
def Dens(H:Hp):List Dt→List V→Prop
 | [],xs=>xs=[]
 | d::ds,xs=>∃ y ys,xs=y::ys∧Den H d y∧Dens H ds ys
end
theorem Dens.length{H:Hp}:∀{ds:List Dt}{xs:List V},Dens H ds xs→ds.length=xs.length
 | [],xs,h=>by
  unfold Dens at h
  rw[h]
  rfl
 | d::ds,xs,h=>by
  unfold Dens at h
  obtain⟨y,ys,rfl,_,h2⟩:=h
  rw[List.length_cons,List.length_cons,Dens.length h2]
theorem Dens.get{H:Hp}:∀{ds:List Dt}{xs:List V}{j:Nat}{d:Dt},Dens H ds xs→ds[j]?=some d→∃ y,xs[j]?=some y∧Den H d y
 | [],xs,j,d,h,e=>by simp at e
 | c::ds,xs,0,d,h,e=>by
  unfold Dens at h
  obtain⟨y,ys,rfl,h1,h2⟩:=h
  cases e
  exact⟨y,rfl,h1⟩
 | c::ds,xs,j+1,d,h,e=>by
  unfold Dens at h
  obtain⟨y,ys,rfl,h1,h2⟩:=h
  obtain⟨y',g,n⟩:=Dens.get (j:=j) h2 (by simpa using e)
  exact⟨y',by simpa using g,n⟩
mutual
theorem Den.same{H H':Hp}(s:∀ b o,H b=some o→H' b=some o):∀{d:Dt}{x:V},Den H d x→Den H' d x
 | .non,x,h=>by unfold Den at h ⊢;exact h
 | .bl b,x,h=>by unfold Den at h ⊢;exact h
 | .int i,x,h=>by unfold Den at h ⊢;exact h
 | .str z,x,h=>by unfold Den at h ⊢;exact h
 | .tup ds,x,h=>by
  unfold Den at h ⊢
  obtain⟨a,xs,e,h1,h2⟩:=h
  exact⟨a,xs,e,s _ _ h1,Dens.same s h2⟩
 | .lst ds,x,h=>by
  unfold Den at h ⊢
  obtain⟨a,xs,e,h1,h2⟩:=h
  exact⟨a,xs,e,s _ _ h1,Dens.same s h2⟩
theorem Dens.same{H H':Hp}(s:∀ b o,H b=some o→H' b=some o):∀{ds:List Dt}{xs:List V},Dens H ds xs→Dens H' ds xs
 | [],xs,h=>by unfold Dens at h ⊢;exact h
 | d::ds,xs,h=>by
  unfold Dens at h ⊢
  obtain⟨y,ys,e,h1,h2⟩:=h
  exact⟨y,ys,e,Den.same s h1,Dens.same s h2⟩
end
mutual
theorem Den.inj{H:Hp}:∀{d e:Dt}{x:V},Den H d x→Den H e x→d=e
 | d,e,x,h1,h2=>by
  cases d with
  | tup ds =>
   unfold Den at h1
   obtain⟨a,xs,rfl,g1,g2⟩:=h1
   cases e<;>unfold Den at h2
   case tup es =>
    obtain⟨b,ys,eb,k1,k2⟩:=h2
    cases eb
    rw[g1] at k1
    cases k1
    rw[Dens.inj g2 k2]
   case lst es =>
    obtain⟨b,ys,eb,k1,k2⟩:=h2
    cases eb
    rw[g1] at k1
    cases k1
   all_goals cases h2
  | lst ds =>
   unfold Den at h1
   obtain⟨a,xs,rfl,g1,g2⟩:=h1
   cases e<;>unfold Den at h2
   case lst es =>
    obtain⟨b,ys,eb,k1,k2⟩:=h2
    cases eb
    rw[g1] at k1
    cases k1
    rw[Dens.inj g2 k2]
   case tup es =>
    obtain⟨b,ys,eb,k1,k2⟩:=h2
    cases eb
    rw[g1] at k1
    cases k1
   all_goals cases h2
  | non=>unfold Den at h1;subst h1;cases e<;>unfold Den at h2<;>first | (obtain⟨_,_,z,_⟩:=h2;cases z;done) | (cases h2;rfl) | (cases h2;done) | rfl
  | bl b=>unfold Den at h1;subst h1;cases e<;>unfold Den at h2<;>first | (obtain⟨_,_,z,_⟩:=h2;cases z;done) | (cases h2;rfl) | (cases h2;done) | rfl
  | int b=>unfold Den at h1;subst h1;cases e<;>unfold Den at h2<;>first | (obtain⟨_,_,z,_⟩:=h2;cases z;done) | (cases h2;rfl) | (cases h2;done) | rfl
  | str b=>unfold Den at h1;subst h1;cases e<;>unfold Den at h2<;>first | (obtain⟨_,_,z,_⟩:=h2;cases z;done) | (cases h2;rfl) | (cases h2;done) | rfl
theorem Dens.inj{H:Hp}:∀{ds es:List Dt}{xs:List V},Dens H ds xs→Dens H es xs→ds=es
 | [],[],_,_,_=>rfl
 | [],e::es,xs,h1,h2=>by
  unfold Dens at h1 h2
  obtain⟨_,_,z,_⟩:=h2
  rw[h1] at z
  cases z
 | d::ds,[],xs,h1,h2=>by
  unfold Dens at h1 h2
  obtain⟨_,_,z,_⟩:=h1
  rw[h2] at z
  cases z
 | d::ds,e::es,xs,h1,h2=>by
  unfold Dens at h1 h2
  obtain⟨y,ys,rfl,a1,a2⟩:=h1
  obtain⟨y',ys',ez,b1,b2⟩:=h2
  cases ez
  rw[Den.inj a1 b1,Dens.inj a2 b2]
end
def Cmp:Nat→Dt→Dt→Prop
 | _,.int _,.int _=>True
 | _,.bl _,.bl _=>True
 | _,.str _,.str _=>True
 | _,.non,.non=>True
 | _,.non,.tup _=>True
 | _,.tup _,.non=>True
 | k+1,.tup ds,.tup es=>∀(j:Nat) d e,ds[j]?=some d→es[j]?=some e→Cmp k d e
 | k+1,.lst ds,.lst es=>ds.length=es.length→∀(j:Nat) d e,ds[j]?=some d→es[j]?=some e→Cmp k d e
 | _,_,_=>False
section
open Classical
theorem all_range{ds es:List Dt}(n:Nat)(hn:n=min ds.length es.length):((List.range n).all (fun j=>decide (ds[j]?=es[j]?)) && decide (ds.length=es.length))=decide (ds=es):=by
 rw[Bool.eq_iff_iff]
 simp only[Bool.and_eq_true,List.all_eq_true,List.mem_range,decide_eq_true_eq]
 constructor
 ·rintro ⟨h1,h2⟩
  refine List.ext_getElem? fun i=>?_
  by_cases hi:i < n
  ·exact h1 i hi
  ·rw[List.getElem?_eq_none_iff.mpr (by omega),List.getElem?_eq_none_iff.mpr (by omega)]
 ·rintro rfl
  exact⟨fun _ _=>rfl,rfl⟩
theorem all_range2{ds es:List Dt}(hl:ds.length=es.length):((List.range ds.length).all (fun j=>decide (ds[j]?=es[j]?)))=decide (ds=es):=by
 have h:=all_range (ds:=ds) (es:=es) ds.length (by omega)
 rw[decide_eq_true hl,Bool.and_true] at h
 exact h
theorem dec_tup(ds es:List Dt):decide (Dt.tup ds=Dt.tup es)=decide (ds=es):=by
 rw[decide_eq_decide]
 exact⟨fun h=>Dt.tup.inj h,fun h=>by rw[h]⟩
theorem dec_lst(ds es:List Dt):decide (Dt.lst ds=Dt.lst es)=decide (ds=es):=by
 rw[decide_eq_decide]
 exact⟨fun h=>Dt.lst.inj h,fun h=>by rw[h]⟩
variable {X:Cx}{pins:List (Addr×Obj)}{σ:St}{H:Hp}{s:Shared}
theorem rc_seq(I:Inv X pins σ H s){k:Nat}(ih:∀ d e x y u v (A:Around),Den H d x→Den H e y→Cmp k d e→A.units+k+2 < cLine→RelV x u→RelV y v→SeqAt.EqAt A s u v (decide (d=e)))
  {ds es:List Dt} {a b:Addr} {A:Around} (hu:A.units+(k+1)+2 < cLine) :
  (∀ xs ys,H a=some (.tup xs)→H b=some (.tup ys)→Dens H ds xs→Dens H es ys→(∀(j:Nat) d e,ds[j]?=some d→es[j]?=some e→Cmp k d e)→SeqAt.RcAt A s (.ref a) (.ref b) (decide (Dt.tup ds=Dt.tup es))∧SeqAt.RcNeAt A s (.ref a) (.ref b) (!decide (Dt.tup ds=Dt.tup es))) ∧
  (∀ xs ys,H a=some (.lst xs)→H b=some (.lst ys)→Dens H ds xs→Dens H es ys→(ds.length=es.length→∀(j:Nat) d e,ds[j]?=some d→es[j]?=some e→Cmp k d e)→SeqAt.RcAt A s (.ref a) (.ref b) (decide (Dt.lst ds=Dt.lst es))∧SeqAt.RcNeAt A s (.ref a) (.ref b) (!decide (Dt.lst ds=Dt.lst es))):=by
 have hu':A.units < cLine:=by omega
 have el:∀(xs ys:List V)(i1 i2:List Value),Dens H ds xs→Dens H es ys→Vals xs i1→Vals ys i2→(∀(j:Nat) d e,ds[j]?=some d→es[j]?=some e→Cmp k d e) →
   ∀ j (h1:j < i1.toArray.size) (h2:j < i2.toArray.size),SeqAt.EqAt A.in1 s i1.toArray[j] i2.toArray[j] (decide (ds[j]?=es[j]?)):=fun xs ys i1 i2 d1 d2 v1 v2 hc j h1 h2=>by
  have l1:=v1.length
  have l2:=v2.length
  have l3:=d1.length
  have l4:=d2.length
  have k1:j < i1.length:=by simpa using h1
  have k2:j < i2.length:=by simpa using h2
  have m1:j < ds.length:=by omega
  have m2:j < es.length:=by omega
  have e1:ds[j]?=some ds[j]:=List.getElem?_eq_getElem m1
  have e2:es[j]?=some es[j]:=List.getElem?_eq_getElem m2
  obtain⟨y1,g1,n1⟩:=d1.get e1
  obtain⟨y2,g2,n2⟩:=d2.get e2
  obtain⟨u1,w1,r1⟩:=v1.get g1
  obtain⟨u2,w2,r2⟩:=v2.get g2
  have z1:i1.toArray[j]=u1:=by
   rw[List.getElem?_eq_getElem k1] at w1
   simpa using w1
  have z2:i2.toArray[j]=u2:=by
   rw[List.getElem?_eq_getElem k2] at w2
   simpa using w2
  have key:=ih _ _ _ _ _ _ A.in1 n1 n2 (hc j _ _ e1 e2) (by show A.units+1+k+2 < cLine;omega) r1 r2
  have ed:decide (ds[j]?=es[j]?)=decide (ds[j]=es[j]):=by
   rw[decide_eq_decide,e1,e2]
   exact⟨fun h=>Option.some.inj h,fun h=>by rw[h]⟩
  rw[z1,z2,ed]
  exact key
 refine⟨fun xs ys ha hb d1 d2 hc=>?_,fun xs ys ha hb d1 d2 hc=>?_⟩
 ·obtain⟨i1,v1,t1,_⟩:=I.tuple (SqT.of ha)
  obtain⟨i2,v2,t2,_⟩:=I.tuple (SqT.of hb)
  have l1:=v1.length
  have l2:=v2.length
  have l3:=d1.length
  have l4:=d2.length
  have e:=el xs ys i1 i2 d1 d2 v1 v2 hc
  have s1:i1.toArray.size=ds.length:=by rw[List.size_toArray];omega
  have s2:i2.toArray.size=es.length:=by rw[List.size_toArray];omega
  have b1:((List.range (min i1.toArray.size i2.toArray.size)).all (fun j=>decide (ds[j]?=es[j]?)) && i1.toArray.size == i2.toArray.size)=decide (Dt.tup ds=Dt.tup es):=by
   rw[s1,s2,dec_tup,← all_range (ds:=ds) (es:=es) _ rfl]
   congr 1
   all_goals (rw[Bool.eq_iff_iff];simp)
  rw[← b1]
  exact⟨SeqAt.RcAt.tuples t1 t2 hu' e,SeqAt.RcNeAt.tuples t1 t2 hu' e⟩
 ·obtain⟨i1,v1,t1,_⟩:=I.list (SqL.of ha)
  obtain⟨i2,v2,t2,_⟩:=I.list (SqL.of hb)
  have l1:=v1.length
  have l2:=v2.length
  have l3:=d1.length
  have l4:=d2.length
  have s1:i1.toArray.size=ds.length:=by rw[List.size_toArray];omega
  have s2:i2.toArray.size=es.length:=by rw[List.size_toArray];omega
  by_cases hl:ds.length=es.length
  ·have e:=el xs ys i1 i2 d1 d2 v1 v2 (hc hl)
   have b1:(List.range i1.toArray.size).all (fun j=>decide (ds[j]?=es[j]?))=decide (Dt.lst ds=Dt.lst es):=by
    rw[s1,dec_lst,← all_range2 hl]
   rw[← b1]
   exact⟨SeqAt.RcAt.lists t1.isList t2.isList (by omega) hu' e,SeqAt.RcNeAt.lists t1.isList t2.isList (by omega) hu' e⟩
  ·have b1:decide (Dt.lst ds=Dt.lst es)=false:=decide_eq_false fun h=>hl (by rw[Dt.lst.inj h])
   have nz:(i1.toArray.size != i2.toArray.size)=true:=by
    rw[s1,s2]
    simpa using hl
   rw[b1]
   exact⟨SeqAt.RcAt.lists_lengths t1.isList t2.isList nz hu',SeqAt.RcNeAt.lists_lengths t1.isList t2.isList nz hu'⟩
theorem dec_int'(a b:Int):decide (Dt.int a=Dt.int b)=(a == b):=by
 rw[Bool.eq_iff_iff]
 simp
theorem dec_bl'(a b:Bool):decide (Dt.bl a=Dt.bl b)=(a == b):=by
 rw[Bool.eq_iff_iff]
 simp
theorem dec_str'(a b:Str):decide (Dt.str a=Dt.str b)=(a == b):=by
 rw[Bool.eq_iff_iff]
 simp
theorem eq_den(I:Inv X pins σ H s):∀(k:Nat)(d e:Dt)(x y:V)(u v:Value)(A:Around),Den H d x→Den H e y→Cmp k d e→A.units+k+2 < cLine→RelV x u→RelV y v→SeqAt.EqAt A s u v (decide (d=e)):=by
 intro k
 induction k with
 | zero =>
  intro d e x y u v A h1 h2 hc hu r1 r2
  cases d<;>cases e<;>first | exact hc.elim | skip
  ·unfold Den at h1 h2;subst h1;subst h2;cases r1;cases r2
   rw[decide_eq_true rfl];exact SeqAt.EqAt.same _
  ·unfold Den at h1 h2;subst h1;cases r1
   obtain⟨a,xs,rfl,ha,_⟩:=h2;cases r2
   obtain⟨i1,_,t1,_⟩:=I.tuple (SqT.of ha)
   rw[decide_eq_false (by intro z;cases z)];exact SeqAt.EqAt.none_tuple t1 (by omega)
  ·unfold Den at h1 h2;subst h1;subst h2;cases r1;cases r2
   rw[dec_bl'];exact SeqAt.EqAt.bool_bool _ _
  ·unfold Den at h1 h2;subst h1;subst h2;obtain⟨t1,rfl⟩:=r1;obtain⟨t2,rfl⟩:=r2
   rw[dec_int'];exact SeqAt.EqAt.int_int _ _ _ _
  ·unfold Den at h1 h2;subst h1;subst h2;obtain⟨t1,rfl⟩:=r1;obtain⟨t2,rfl⟩:=r2
   rw[dec_str'];exact SeqAt.EqAt.str_str _ _ _ _
  ·unfold Den at h1 h2;subst h2;cases r2
   obtain⟨a,xs,rfl,ha,_⟩:=h1;cases r1
   obtain⟨i1,_,t1,_⟩:=I.tuple (SqT.of ha)
   rw[decide_eq_false (by intro z;cases z)];exact SeqAt.EqAt.tuple_none t1 (by omega)
 | succ k ih =>
  intro d e x y u v A h1 h2 hc hu r1 r2
  cases d<;>cases e<;>first | exact hc.elim | skip
  ·unfold Den at h1 h2;subst h1;subst h2;cases r1;cases r2
   rw[decide_eq_true rfl];exact SeqAt.EqAt.same _
  ·unfold Den at h1 h2;subst h1;cases r1
   obtain⟨a,xs,rfl,ha,_⟩:=h2;cases r2
   obtain⟨i1,_,t1,_⟩:=I.tuple (SqT.of ha)
   rw[decide_eq_false (by intro z;cases z)];exact SeqAt.EqAt.none_tuple t1 (by omega)
  ·unfold Den at h1 h2;subst h1;subst h2;cases r1;cases r2
   rw[dec_bl'];exact SeqAt.EqAt.bool_bool _ _
  ·unfold Den at h1 h2;subst h1;subst h2;obtain⟨t1,rfl⟩:=r1;obtain⟨t2,rfl⟩:=r2
   rw[dec_int'];exact SeqAt.EqAt.int_int _ _ _ _
  ·unfold Den at h1 h2;subst h1;subst h2;obtain⟨t1,rfl⟩:=r1;obtain⟨t2,rfl⟩:=r2
   rw[dec_str'];exact SeqAt.EqAt.str_str _ _ _ _
  ·unfold Den at h1 h2;subst h2;cases r2
   obtain⟨a,xs,rfl,ha,_⟩:=h1;cases r1
   obtain⟨i1,_,t1,_⟩:=I.tuple (SqT.of ha)
   rw[decide_eq_false (by intro z;cases z)];exact SeqAt.EqAt.tuple_none t1 (by omega)
  ·have g1:=h1
   have g2:=h2
   unfold Den at h1 h2
   obtain⟨a,xs,rfl,ha,da⟩:=h1
   obtain⟨b,ys,rfl,hb,db⟩:=h2
   cases r1;cases r2
   by_cases hab:a=b
   ·subst hab
    rw[decide_eq_true (g1.inj g2)]
    exact SeqAt.EqAt.same _
   ·exact SeqAt.EqAt.of_refs hab ((rc_seq I ih hu).1 xs ys ha hb da db hc).1
  ·have g1:=h1
   have g2:=h2
   unfold Den at h1 h2
   obtain⟨a,xs,rfl,ha,da⟩:=h1
   obtain⟨b,ys,rfl,hb,db⟩:=h2
   cases r1;cases r2
   by_cases hab:a=b
   ·subst hab
    rw[decide_eq_true (g1.inj g2)]
    exact SeqAt.EqAt.same _
   ·exact SeqAt.EqAt.of_refs hab ((rc_seq I ih hu).2 xs ys ha hb da db hc).1
def rEqD:R2:=fun x y H Q=>∃ d e,Den H d x∧Den H e y∧Cmp 8 d e∧Q (.bl (decide (d=e))) H
def rNeD:R2:=fun x y H Q=>∃ d e,Den H d x∧Den H e y∧Cmp 8 d e∧Q (.bl (!decide (d=e))) H
theorem rcs(I:Inv X pins σ H s){d e:Dt}{x y:V}{u v:Value}{A:Around}(h1:Den H d x)(h2:Den H e y)(hc:Cmp 8 d e)(hu:A.units+64 < cLine)(r1:RelV x u)(r2:RelV y v) :
  SeqAt.RcAt A s u v (decide (d=e))∧SeqAt.RcNeAt A s u v (!decide (d=e)):=by
 cases d<;>cases e<;>first | exact hc.elim | skip
 ·unfold Den at h1 h2;subst h1;subst h2;cases r1;cases r2
  rw[decide_eq_true rfl];exact⟨SeqAt.RcAt.none_none,SeqAt.RcNeAt.none_none⟩
 ·unfold Den at h1 h2;subst h1;cases r1
  obtain⟨a,xs,rfl,ha,_⟩:=h2;cases r2
  obtain⟨i1,_,t1,_⟩:=I.tuple (SqT.of ha)
  rw[decide_eq_false (by intro z;cases z)];exact⟨SeqAt.RcAt.none_tuple t1 (by omega),SeqAt.RcNeAt.none_tuple t1 (by omega)⟩
 ·unfold Den at h1 h2;subst h1;subst h2;cases r1;cases r2
  rw[dec_bl'];exact⟨SeqAt.RcAt.bool_bool _ _,SeqAt.RcNeAt.bool_bool _ _⟩
 ·unfold Den at h1 h2;subst h1;subst h2;obtain⟨t1,rfl⟩:=r1;obtain⟨t2,rfl⟩:=r2
  rw[dec_int'];exact⟨SeqAt.RcAt.int_int _ _ _ _,SeqAt.RcNeAt.int_int _ _ _ _⟩
 ·unfold Den at h1 h2;subst h1;subst h2;obtain⟨t1,rfl⟩:=r1;obtain⟨t2,rfl⟩:=r2
  rw[dec_str'];exact⟨SeqAt.RcAt.str_str _ _ _ _,SeqAt.RcNeAt.str_str _ _ _ _⟩
 ·unfold Den at h1 h2;subst h2;cases r2
  obtain⟨a,xs,rfl,ha,_⟩:=h1;cases r1
  obtain⟨i1,_,t1,_⟩:=I.tuple (SqT.of ha)
  rw[decide_eq_false (by intro z;cases z)];exact⟨SeqAt.RcAt.tuple_none t1 (by omega),SeqAt.RcNeAt.tuple_none t1 (by omega)⟩
 ·unfold Den at h1 h2
  obtain⟨a,xs,rfl,ha,da⟩:=h1
  obtain⟨b,ys,rfl,hb,db⟩:=h2
  cases r1;cases r2
  exact (rc_seq I (eq_den I 7) (by omega)).1 xs ys ha hb da db hc
 ·unfold Den at h1 h2
  obtain⟨a,xs,rfl,ha,da⟩:=h1
  obtain⟨b,ys,rfl,hb,db⟩:=h2
  cases r1;cases r2
  exact (rc_seq I (eq_den I 7) (by omega)).2 xs ys ha hb da db hc
theorem op_eqD(hu:X.A.units+64 < cLine):OpR X (compareOp .Eq) rEqD:=by
 intro pins s σ H x y v u Q I rx ry h
 obtain⟨d,e,h1,h2,hc,q⟩:=h
 exact (rcs I h1 h2 hc hu rx ry).1 _ _ _ _ ⟨.bl _,H,I,rfl,q⟩
theorem op_neD(hu:X.A.units+64 < cLine):OpR X (compareOp .NotEq) rNeD:=by
 intro pins s σ H x y v u Q I rx ry h
 obtain⟨d,e,h1,h2,hc,q⟩:=h
 exact (rcs I h1 h2 hc hu rx ry).2 _ _ _ _ ⟨.bl _,H,I,rfl,q⟩
end
theorem den2{H:Hp}{p:Addr}{a b:Int}(h:H p=some (.tup [.int a,.int b])):Den H (.tup [.int a,.int b]) (.ref p):=by
 unfold Den
 refine⟨p,_,rfl,h,?_⟩
 unfold Dens
 refine⟨_,_,rfl,by unfold Den;rfl,?_⟩
 unfold Dens
 refine⟨_,_,rfl,by unfold Den;rfl,?_⟩
 unfold Dens
 rfl
theorem cmp2{k:Nat}(a b c d:Int):Cmp (k+1) (.tup [.int a,.int b]) (.tup [.int c,.int d]):=by
 intro j x y h1 h2
 match j,h1,h2 with
 | 0,h1,h2=>cases h1;cases h2;cases k<;>exact trivial
 | 1,h1,h2=>cases h1;cases h2;cases k<;>exact trivial
 | j+2,h1,h2=>simp at h1
theorem dt2(a b c d:Int):(Dt.tup [.int a,.int b]=Dt.tup [.int c,.int d])↔(a=c∧b=d):=by
 constructor
 ·intro h
  injection h with h
  injection h with h1 h2
  injection h1 with h1
  injection h2 with h2 _
  injection h2 with h2
  exact⟨h1,h2⟩
 ·rintro ⟨rfl,rfl⟩
  rfl
section
variable {X:Cx}
def rEqP:R2:=fun x y H Q=>∃ p q a b c d,x=.ref p∧y=.ref q∧H p=some (.tup [.int a,.int b])∧H q=some (.tup [.int c,.int d])∧Q (.bl (decide (a=c∧b=d))) H
def rNeP:R2:=fun x y H Q=>∃ p q a b c d,x=.ref p∧y=.ref q∧H p=some (.tup [.int a,.int b])∧H q=some (.tup [.int c,.int d])∧Q (.bl (!decide (a=c∧b=d))) H
open Classical in
theorem op_eqP(hu:X.A.units+64 < cLine):OpR X (compareOp .Eq) rEqP:=by
 intro pins s σ H x y v u Q I rx ry h
 obtain⟨p,q,a,b,c,d,rfl,rfl,h1,h2,h3⟩:=h
 refine op_eqD hu pins s σ H _ _ v u Q I rx ry ⟨_,_,den2 h1,den2 h2,cmp2 a b c d,?_⟩
 have e:decide (Dt.tup [.int a,.int b]=Dt.tup [.int c,.int d])=decide (a=c∧b=d):=by rw[decide_eq_decide];exact dt2 a b c d
 rw[e]
 exact h3
open Classical in
theorem op_neP(hu:X.A.units+64 < cLine):OpR X (compareOp .NotEq) rNeP:=by
 intro pins s σ H x y v u Q I rx ry h
 obtain⟨p,q,a,b,c,d,rfl,rfl,h1,h2,h3⟩:=h
 refine op_neD hu pins s σ H _ _ v u Q I rx ry ⟨_,_,den2 h1,den2 h2,cmp2 a b c d,?_⟩
 have e:decide (Dt.tup [.int a,.int b]=Dt.tup [.int c,.int d])=decide (a=c∧b=d):=by rw[decide_eq_decide];exact dt2 a b c d
 rw[e]
 exact h3
end
end L2
namespace L2
open PySem PySem.Spec PyProof.Rows
section
variable {X:Cx}
end
theorem qi_listK{X:Cx}{K:PySem.W.Frag}{e tg:Expr}{te:TE}(hK:X.K=K)(hl:QE X e te):QI X tg e (iList K te):=hK▸qi_list hl
theorem qi_tupK{X:Cx}{K:PySem.W.Frag}{e tg:Expr}{te:TE}(hK:X.K=K)(hl:QE X e te):QI X tg e (iTup K te):=hK▸qi_tup hl
section
variable {H:Hp}{Q:VK}{v:V}{l:St}
end
end L2
namespace L2
open PySem PySem.Spec PyProof.Rows
section
variable {X:Cx}
def rSumF:List V→Hp→VK→Prop:=fun xs H Q=>∃(p:Addr)(ns:List Int),xs=[.ref p]∧H p=some (.lst (ns.map V.int))∧Q (.int ns.sum) H
def rAllF:List V→Hp→VK→Prop:=fun xs H Q=>∃(p:Addr)(bs:List Bool),xs=[.ref p]∧H p=some (.lst (bs.map V.bl))∧Q (.bl (bs.all id)) H
def rAnyF:List V→Hp→VK→Prop:=fun xs H Q=>∃(p:Addr)(bs:List Bool),xs=[.ref p]∧H p=some (.lst (bs.map V.bl))∧Q (.bl (bs.any id)) H
theorem bools_of_vals{bs:List Bool}{vs:List Value}(h:Vals (bs.map V.bl) vs):vs=bs.map Value.bool:=by
 induction bs generalizing vs with
 | nil=>cases h;rfl
 | cons b bs ih =>
  cases vs with
  | nil=>cases h
  | cons v vs =>
   cases h with
   | cons r rr =>
    cases r
    rw[ih rr];rfl
theorem range_all(bs:List Bool):((List.range bs.length).all fun i=>bs.getD i false)=bs.all id:=by
 rw[Bool.eq_iff_iff,List.all_eq_true,List.all_eq_true]
 constructor
 ·intro h b hb
  obtain⟨i,hi,rfl⟩:=List.getElem_of_mem hb
  have:=h i (List.mem_range.mpr hi)
  simpa [List.getD_eq_getElem?_getD,hi] using this
 ·intro h i hi
  have hi':=List.mem_range.mp hi
  have:=h bs[i] (List.getElem_mem hi')
  simpa [List.getD_eq_getElem?_getD,hi'] using this
theorem iter_list_of{M:Program}{w:World}{A:Around}{E:Value→Shared→Prop}{s:Shared}{l:Addr}{items:Array Value}{Q:Value→Shared→Prop}(hl:s.heap.IsList l items)
  (h:∀ s₂:Shared,s₂={ s with heap:=s.heap.push { cls:=.type "list_iterator", data:=.fields #[.ref l,.int 0 0] } } →
   (s₂.heap.IsListIter s.heap.objs.size l 0∧s₂.heap.IsList l items)→l≠s.heap.objs.size→Q (.ref s.heap.objs.size) s₂) :
  wpAny (model M w) A (pyIter (.ref l)) Q E s:=by
 have hlt:l < s.heap.objs.size:=by obtain⟨_,e,_⟩:=hl;exact Heap.lt_size e
 exact wpAny_pyIter_list hl (h _ rfl ⟨⟨_,Heap.get?_push_size _ rfl,rfl,rfl⟩,hl.push _⟩ (Nat.ne_of_lt hlt))
theorem truth_bools{P:Program}{w:World}{A:Around}{bs:List Bool}:TruthOf P w A (fun i v=>(List.toArray (bs.map Value.bool))[i]?=some v) (fun i=>bs.getD i false):=by
 intro i v s Q E hv hq
 have hv':(bs.map Value.bool)[i]?=some v:=by simpa using hv
 rw[List.getElem?_map] at hv'
 cases e:bs[i]? with
 | none=>rw[e] at hv';cases hv'
 | some b =>
  rw[e] at hv'
  cases hv'
  have:bs.getD i false=b:=by simp[List.getD_eq_getElem?_getD,e]
  have hq':Q (bs.getD i false) s:=hq
  rw[this] at hq'
  exact wpAny_truthy_bool hq'
theorem call_allF(hc:X.calm=true):CallR X (.builtin "all") rAllF:=by
 intro pins s σ H xs us Q I r h
 obtain⟨p,bs,rfl,hp,q⟩:=h
 obtain⟨u,rfl,rx⟩:=vals1 r
 cases rx
 obtain⟨its,r',pl,hz⟩:=I.list (SqL.of hp)
 rw[bools_of_vals r'] at pl
 refine call_all_walk (iter_list_of pl.isList fun s₂ e st hne=>?_)
 subst e
 refine⟨_,_,_,_,_,_,_,rfl,Walks.list (A:=X.A.in1) (I.ok.hd hc) _ p hne _,st,truth_bools,fun h' tk hk=>⟨.bl (bs.all id),H,I.kept (old_kept hk),?_,q⟩⟩
 show Value.bool _=Value.bool _
 rw[List.size_toArray,List.length_map,range_all]
end
section
variable {X:Cx}{a b:Expr}{t:TA}{p pos tp:Pos}{elts:List Expr}{k:Nat}
end
theorem rSumF_ap{xs:List V}{H:Hp}{Q:VK}:rSumF xs H Q=∃(p:Addr)(ns:List Int),xs=[.ref p]∧H p=some (.lst (ns.map V.int))∧Q (.int ns.sum) H:=propext Iff.rfl
theorem rAllF_ap{xs:List V}{H:Hp}{Q:VK}:rAllF xs H Q=∃(p:Addr)(bs:List Bool),xs=[.ref p]∧H p=some (.lst (bs.map V.bl))∧Q (.bl (bs.all id)) H:=propext Iff.rfl
theorem rAnyF_ap{xs:List V}{H:Hp}{Q:VK}:rAnyF xs H Q=∃(p:Addr)(bs:List Bool),xs=[.ref p]∧H p=some (.lst (bs.map V.bl))∧Q (.bl (bs.any id)) H:=propext Iff.rfl
end L2
namespace L2
open PySem PySem.Spec PyProof.Rows
section
variable {X:Cx}
end
theorem tBM_ap{K:PySem.W.Frag}{T:String}{r:V→List V→Hp→VK→Prop}{to:TE}{t:TA}{σ:St}{H:Hp}{Q:VK}:tBM K T r to t σ H Q=to σ H fun x H1=>tyV K T x H1∧t σ H1 fun vs H2=>r x vs H2 Q:=propext Iff.rfl
theorem rAppend_ap{x:V}{vs:List V}{H:Hp}{Q:VK}:rAppend x vs H Q=∃ l xs y,x=.ref l∧vs=[y]∧H l=some (.lst xs)∧xs.length < sizeLine∧Q .non (upd H l (.lst (xs++[y]))):=propext Iff.rfl
theorem sizeLine_8:(8≤sizeLine)=True:=eq_true (by decide)
theorem sizeLine_10:(10≤sizeLine)=True:=eq_true (by decide)
end L2
namespace L2
open PySem PySem.Spec PyProof.Rows
section
variable {X:Cx}{o e:Expr}{es:List Expr}{to:TE}{t:TA}{name:Str}{apos cpos:Pos}{T id:String}{r:V→List V→Hp→VK→Prop}
theorem qe_bm(pa:PlainAttrs T)(slot:Slot T name id)(hty:typeOf (.builtin id)=pure (.type "method_descriptor"))(hm:MtR X id r)(ho:QE X o to)(ha:QA X (e::es) t)
  (hbase:attributeBase o name X.env (eval o X.env)=eval o X.env:=by rfl)
  (hfew:((backTo cpos (starEach (e::es) X.env)).all (fun x=>!x.1) && (backToKw cpos (keywordEach [] X.env)).all (fun x=>x.1.isSome)
   && decide ((e::es).length+([]:List Keyword).length+(if ([]:List Keyword).isEmpty then 0 else 1) < 30))=true:=by rfl)
  (hline:(apos.endLine == cpos.line)=true:=by rfl) (hs:starEach (e::es) X.env=(false,eval e X.env)::starEach es X.env:=by rfl) (hplain:(backTo cpos (starEach es X.env)).any (·.1)=false:=by rfl) :
  QE X (.Call (.Attribute o name apos) (e::es) [] cpos) (tBM X.K T r to t):=⟨pe_bm pa slot hty hm ho.p ha.p hbase hfew hline hs hplain⟩
end
end L2
namespace L2
theorem compSt_ap{n:Nat}{js:List Nat}{σ:St}:compSt n js σ=List.replicate n none++js.map fun j=>(σ[j]?).join:=by unfold compSt;exact rfl
theorem join_somz{α:Type}{x:Option α}:(some x).join=x:=rfl
end L2
namespace L2
open PySem
end L2
namespace L2
open PySem
theorem qg_tupK{X:Cx}{K:PySem.W.Frag}{es:List Expr}{pos:Pos}{k:Nat}{tg:TGs}{n:Nat}(hK:X.K=K)(hc:X.calm=true)(h:QGs X es tg)(hn:(assignEach es X.env).length=n:=by rfl)(hst:(assignEach es X.env).findIdx? (·.1)=none:=by rfl):QG X (.Tuple es k pos) (gTup K n tg):=hK▸qg_tup hc h hn hst
end L2
namespace L2
theorem sizeLine_0:(0≤PySem.sizeLine)=True:=eq_true (Nat.zero_le _)
end L2
namespace L2
end L2
set_option maxHeartbeats 4000000
namespace Srt
open PySem PyProof.Rows
abbrev PS:=Array Nat×Array (Nat×Nat×Nat)×Nat
abbrev TW(β:Type):=PS→Option (β×PS)
abbrev enc(k:Nat→Keyed)(t:PS):SortSt:=SortSt.mk' oneType' (t.1.map k) t.2.1 t.2.2 none
structure Asked(P:Program)(w:World)(A:Around)(s:Shared)(k:Nat→Keyed)(c:Nat→Nat→Bool)(N:Nat):Prop where
 lt:∀ i j,i < N→j < N→∀(E:Value→Shared→Prop)(Q:Bool→Shared→Prop),Q (c i j) s→wpAny (model P w) A (oneLt' true (k i).1 (k j).1) Q E s
structure Sim(c:Nat→Nat→Bool)(N:Nat){α β:Type}(φ:(Nat→Keyed)→β→α)(m:(Nat→Keyed)→StateT SortSt Sem α)(n:TW β):Prop where
 run:∀(P:Program)(w:World)(A:Around)(E:Value→Shared→Prop)(s:Shared)(k:Nat→Keyed),Asked P w A s k c N→∀ t b t',n t=some (b,t')→wpS (model P w) A E s (m k) (fun a st=>a=φ k b∧st=enc k t') (enc k t)
section
variable {c:Nat→Nat→Bool}{N:Nat}{α β γ δ:Type}
def tpure(b:β):TW β:=fun t=>some (b,t)
def tbind(n:TW β)(g:β→TW δ):TW δ:=fun t=>match n t with
 | none=>none
 | some (b,t')=>g b t'
def tfor(f:Nat→β→TW (ForInStep β)):List Nat→β→TW β
 | [],b=>tpure b
 | x::l,b=>fun t=>match f x b t with
  | none=>none
  | some (.done b',t')=>some (b',t')
  | some (.yield b',t')=>tfor f l b' t'
def tite(p:Prop)[Decidable p](x y:TW β):TW β:=fun t=>if p then x t else y t
def tget:TW PS:=fun t=>some (t,t)
def tmod(f:PS→PS):TW Unit:=fun t=>some ((),f t)
def tlt(c:Nat→Nat→Bool)(N i j:Nat):TW Bool:=fun t=>if i < N∧j < N then some (c i j,t) else none
def tel(p:Array Nat)(i:Nat):TW Nat:=fun t=>match p[i]? with
 | none=>none
 | some j=>some (j,t)
abbrev ident:(Nat→Keyed)→β→β:=fun _ b=>b
theorem sim_pure(b:β):Sim c N ident (fun _=>pure b) (tpure b):=by
 refine⟨?_⟩
 intro P w A E s k h t b' t' e
 cases e
 exact wpS_pure ⟨rfl,rfl⟩
theorem sim_pureV{φ:(Nat→Keyed)→β→α}{v:(Nat→Keyed)→α}(b:β)(hv:∀ k,v k=φ k b):Sim c N φ (fun k=>pure (v k)) (tpure b):=by
 refine⟨?_⟩
 intro P w A E s k h t b' t' e
 cases e
 exact wpS_pure ⟨hv k,rfl⟩
theorem sim_bind{φ:(Nat→Keyed)→β→α}{ψ:(Nat→Keyed)→δ→γ}{m:(Nat→Keyed)→StateT SortSt Sem α}{f:(Nat→Keyed)→α→StateT SortSt Sem γ}{n:TW β}{g:β→TW δ}
  (h1:Sim c N φ m n) (h2:∀ b,Sim c N ψ (fun k=>f k (φ k b)) (g b)):Sim c N ψ (fun k=>m k >>= f k) (tbind n g):=by
 refine⟨?_⟩
 intro P w A E s k h t b t' e
 unfold tbind at e
 cases e1:n t with
 | none=>rw[e1] at e;cases e
 | some r =>
  obtain⟨b1,t1⟩:=r
  rw[e1] at e
  refine wpS_bind (wpS_mono (h1.run P w A E s k h t b1 t1 e1) fun a st ⟨ea,es⟩=>?_)
  rw[ea,es]
  exact (h2 b1).run P w A E s k h t1 b t' e
theorem sim_ite{φ:(Nat→Keyed)→β→α}{p:Prop}{d:(Nat→Keyed)→Decidable p}[Decidable p]{m1 m2:(Nat→Keyed)→StateT SortSt Sem α}{n1 n2:TW β}(h1:Sim c N φ m1 n1)(h2:Sim c N φ m2 n2):Sim c N φ (fun k=>@ite _ p (d k) (m1 k) (m2 k)) (tite p n1 n2):=by
 refine⟨?_⟩
 intro P w A E s k h t b t' e
 unfold tite at e
 by_cases hp:p
 ·rw[if_pos hp] at e
  simp only[if_pos hp]
  exact h1.run P w A E s k h t b t' e
 ·rw[if_neg hp] at e
  simp only[if_neg hp]
  exact h2.run P w A E s k h t b t' e
theorem sim_mod{f:SortSt→SortSt}(f':PS→PS)(hf:∀ k t,f (enc k t)=enc k (f' t)):Sim c N ident (fun _=>modify f) (tmod f'):=by
 refine⟨?_⟩
 intro P w A E s k h t b' t' e
 cases e
 exact wpS_modify ⟨rfl,hf k t⟩
theorem sim_rule{x:String}:Sim c N ident (fun _=>(liftM (rule x):StateT SortSt Sem Unit)) (tpure ()):=by
 refine⟨?_⟩
 intro P w A E s k h t b' t' e
 cases e
 exact wpS_lift (wpAny_rule ⟨rfl,rfl,rfl⟩)
theorem sim_lt{i j:Nat}:Sim c N (fun _ b=>some b) (fun k=>lt' (k i) (k j)) (tlt c N i j):=by
 refine⟨?_⟩
 intro P w A E s k h t b' t' e
 unfold tlt at e
 split at e
 case isFalse=>cases e
 rename_i hij
 cases e
 try dsimp only
 rw[lt'_eq]
 refine wpS_bind (wpS_get ?_)
 show wpS _ _ _ _ (do let r ← (keyLt' oneType' (k i).1 (k j).1).attempt;_) _ _
 rw[keyLt'_oneType]
 refine wpS_bind (wpS_lift (wpAny_attempt (h.lt i j hij.1 hij.2 _ _ ⟨rfl,?_⟩)))
 exact wpS_pure ⟨rfl,rfl⟩
theorem sim_el{p:Array Nat}{i:Nat}:Sim c N (fun k j=>k j) (fun k=>elem' (p.map k) i) (tel p i):=by
 refine⟨?_⟩
 intro P w A E s k h t b' t' e
 unfold tel at e
 try dsimp only
 rw[elem'_eq]
 cases e1:p[i]? with
 | none=>rw[e1] at e;cases e
 | some j =>
  rw[e1] at e
  cases e
  rw[Array.getElem?_map,e1]
  exact wpS_pure ⟨rfl,rfl⟩
def stepM(φ:(Nat→Keyed)→β→α)(k:Nat→Keyed):ForInStep β→ForInStep α
 | .done b=>.done (φ k b)
 | .yield b=>.yield (φ k b)
theorem sim_forL{φ:(Nat→Keyed)→β→α}{F:(Nat→Keyed)→Nat→α→StateT SortSt Sem (ForInStep α)}{f:Nat→β→TW (ForInStep β)}(h:∀ x b,Sim c N (stepM φ) (fun k=>F k x (φ k b)) (f x b)) :
  ∀(l:List Nat)(b:β),Sim c N φ (fun k=>forIn l (φ k b) (F k)) (tfor f l b)
 | [],b=>by
  refine⟨?_⟩
  intro P w A E s k ha t b' t' e
  cases e
  simp only[List.forIn_nil]
  exact wpS_pure ⟨rfl,rfl⟩
 | x::l,b=>by
  refine⟨?_⟩
  intro P w A E s k ha t b' t' e
  simp only[List.forIn_cons]
  unfold tfor at e
  cases e1:f x b t with
  | none=>rw[e1] at e;cases e
  | some r =>
   obtain⟨r,t1⟩:=r
   rw[e1] at e
   refine wpS_bind (wpS_mono ((h x b).run P w A E s k ha t r t1 e1) fun a st ⟨ea,es⟩=>?_)
   rw[ea,es]
   cases r with
   | done b1 =>
    cases e
    exact wpS_pure ⟨rfl,rfl⟩
   | yield b1=>exact (sim_forL h l b1).run P w A E s k ha t1 b' t' e
theorem sim_for{φ:(Nat→Keyed)→β→α}{F:(Nat→Keyed)→Nat→α→StateT SortSt Sem (ForInStep α)}{f:Nat→β→TW (ForInStep β)}{a b:Nat}{v:(Nat→Keyed)→α}(b0:β)(hv:∀ k,v k=φ k b0)(h:∀ x b,Sim c N (stepM φ) (fun k=>F k x (φ k b)) (f x b)) :
  Sim c N φ (fun k=>forIn [a:b] (v k) (F k)) (tfor f (List.range' a (b - a)) b0):=by
 refine⟨?_⟩
 intro P w A E s k ha t b' t' e
 have:=(sim_forL h _ b0).run P w A E s k ha t b' t' e
 try dsimp only
 rw[hv k,Std.Legacy.Range.forIn_eq_forIn_range']
 have hsz:([a:b]:Std.Legacy.Range).size=b - a:=by simp[Std.Legacy.Range.size]
 show wpS _ _ _ _ (forIn (List.range' a ([a:b]:Std.Legacy.Range).size 1) _ _) _ _
 rw[hsz]
 exact this
theorem sim_forI{F:(Nat→Keyed)→Nat→β→StateT SortSt Sem (ForInStep β)}{f:Nat→β→TW (ForInStep β)}{a b:Nat}{b0:β}(h:∀ x b,Sim c N (stepM ident) (fun k=>F k x b) (f x b)) :
  Sim c N ident (fun k=>forIn [a:b] b0 (F k)) (tfor f (List.range' a (b - a)) b0):=sim_for b0 (fun _=>rfl) h
theorem sim_done(b:β):Sim c N (stepM ident) (fun _=>pure (ForInStep.done b)) (tpure (.done b)):=sim_pureV _ fun _=>rfl
theorem sim_yield(b:β):Sim c N (stepM ident) (fun _=>pure (ForInStep.yield b)) (tpure (.yield b)):=sim_pureV _ fun _=>rfl
def tcase{ρ τ:Type}(g1:ρ→τ→TW δ)(g2:τ→TW δ):Option ρ×τ→TW δ
 | (some r,y)=>g1 r y
 | (none,y)=>g2 y
theorem sim_case{ρ τ:Type}{ψ:(Nat→Keyed)→δ→γ}{f:(Nat→Keyed)→Option ρ×τ→StateT SortSt Sem γ}{g1:ρ→τ→TW δ}{g2:τ→TW δ}(h1:∀ r y,Sim c N ψ (fun k=>f k (some r,y)) (g1 r y))(h2:∀ y,Sim c N ψ (fun k=>f k (none,y)) (g2 y)) :
  ∀ b,Sim c N ψ (fun k=>f k b) (tcase g1 g2 b)
 | (some r,y)=>h1 r y
 | (none,y)=>h2 y
theorem sim_ltAt{i j:Nat}:Sim c N (fun _ b=>some b) (fun _=>ltAt' i j) (fun t=>tbind (tel t.1 i) (fun x=>tbind (tel t.1 j) (tlt c N x)) t):=by
 refine⟨?_⟩
 intro P w A E s k h t b' t' e
 try dsimp only
 rw[ltAt'_eq]
 refine wpS_bind (wpS_get ?_)
 have g:Sim c N (fun _ b=>some b) (fun k=>do let x ← elem' (t.1.map k) i;let y ← elem' (t.1.map k) j;lt' x y) (tbind (tel t.1 i) (fun x=>tbind (tel t.1 j) (tlt c N x))):=sim_bind sim_el fun x=>sim_bind sim_el fun y=>sim_lt
 exact g.run P w A E s k h t b' t' e
theorem swap_map(k:Nat→Keyed)(xs:Array Nat)(i j:Nat):(xs.map k).swapIfInBounds i j=(xs.swapIfInBounds i j).map k:=by
 by_cases hi:i < xs.size
 ·by_cases hj:j < xs.size
  ·apply Array.ext_getElem?
   intro q
   rw[getElem?_swapIB (by rw[Array.size_map];exact hi) (by rw[Array.size_map];exact hj)]
   simp only[Array.getElem?_map]
   rw[getElem?_swapIB hi hj]
   by_cases h1:j=q<;>by_cases h2:i=q<;>simp[h1,h2]
  ·simp[Array.swapIfInBounds_def,hi,hj]
 ·simp[Array.swapIfInBounds_def,hi]
theorem mirror_map(k:Nat→Keyed)(xs:Array Nat)(i j d:Nat):mirror (xs.map k) i j d=(mirror xs i j d).map k:=by
 have go:∀(l:List Nat)(xs:Array Nat),l.foldl (fun a q=>a.swapIfInBounds (i+q) (j - 1 - q)) (xs.map k)=(l.foldl (fun a q=>a.swapIfInBounds (i+q) (j - 1 - q)) xs).map k:=by
  intro l
  induction l with
  | nil=>intro xs;rfl
  | cons x l ih=>intro xs;simp only[List.foldl_cons];rw[swap_map,ih]
 exact go _ _
theorem bubble_map(k:Nat→Keyed)(xs:Array Nat)(src d:Nat):bubble (xs.map k) src d=(bubble xs src d).map k:=by
 have go:∀(l:List Nat)(xs:Array Nat),l.foldl (fun a q=>a.swapIfInBounds (src - q) (src - q - 1)) (xs.map k)=(l.foldl (fun a q=>a.swapIfInBounds (src - q) (src - q - 1)) xs).map k:=by
  intro l
  induction l with
  | nil=>intro xs;rfl
  | cons x l ih=>intro xs;simp only[List.foldl_cons];rw[swap_map,ih]
 exact go _ _
end
end Srt
set_option maxHeartbeats 4000000
namespace Srt
open PySem PyProof.Rows
variable {c:Nat→Nat→Bool}{N:Nat}
theorem sim_moveDown{src dst:Nat}:Sim c N ident (fun _=>moveDown' src dst) (tmod fun t=>(bubble t.1 src (src - dst),t.2)):=by
 simp only[moveDown'_eq]
 exact sim_mod _ fun k t=>by
  show SortSt.mk' oneType' (bubble (t.1.map k) src (src - dst)) t.2.1 t.2.2 none=_
  rw[bubble_map]
theorem sim_reverse{i j:Nat}:Sim c N ident (fun _=>reverseSlice' i j) (tmod fun t=>(mirror t.1 i j ((j - i) / 2),t.2)):=by
 simp only[reverseSlice'_eq]
 exact sim_mod _ fun k t=>by
  show SortSt.mk' oneType' (mirror (t.1.map k) i j ((j - i) / 2)) t.2.1 t.2.2 none=_
  rw[mirror_map]
def mkS{α β:Type}{φ:(Nat→Keyed)→β→α}{m:(Nat→Keyed)→StateT SortSt Sem α}{n:TW β}(h:Sim c N φ m n):{ n:TW β // Sim c N φ m n }:=⟨n,h⟩
def binS(c:Nat→Nat→Bool)(N lo n ok:Nat):{ m:TW Bool // Sim c N ident (fun _=>binarySort' lo n ok) m }:=by
 apply mkS
 ·simp only[binarySort'_eq]
  repeat' (first
   | with_reducible exact sim_done _ | with_reducible exact sim_yield _ | with_reducible exact sim_pure _ | with_reducible exact sim_ltAt | with_reducible exact sim_moveDown | with_reducible exact sim_reverse | with_reducible exact sim_rule | with_reducible exact sim_el | with_reducible exact sim_lt
   | apply sim_ite | with_reducible apply sim_forI | with_reducible apply sim_case | with_reducible apply sim_bind | (intro _;try dsimp only[ident]))
def countS(c:Nat→Nat→Bool)(N lo nrem:Nat):{ m:TW (Option Nat) // Sim c N ident (fun _=>countRun' lo nrem) m }:=by
 apply mkS
 ·simp only[countRun'_eq]
  repeat' (first
   | with_reducible exact sim_done _ | with_reducible exact sim_yield _ | with_reducible exact sim_pure _ | with_reducible exact sim_ltAt | with_reducible exact sim_moveDown | with_reducible exact sim_reverse | with_reducible exact sim_rule | with_reducible exact sim_el | with_reducible exact sim_lt
   | apply sim_ite | with_reducible apply sim_forI | with_reducible apply sim_case | with_reducible apply sim_bind | (intro _;try dsimp only[ident]))
end Srt
set_option maxHeartbeats 4000000
namespace Srt
open PySem PyProof.Rows
variable {c:Nat→Nat→Bool}{N:Nat}
def gallop':Bool→Keyed→Array Keyed→Nat→Nat→Nat→StateT SortSt Sem (Option Nat):=sortPriv% PySem.Builtin.gallop
def tbey(c:Nat→Nat→Bool)(N:Nat)(left:Bool)(p:Array Nat)(i j:Nat):TW Bool:=tbind (tel p i) fun x=>tite (left=true) (tlt c N x j) (tbind (tlt c N j x) fun r=>tpure (!r))
theorem sim_beyond{left:Bool}{p:Array Nat}{i j:Nat}:Sim c N (fun _ b=>some b) (fun k=>elem' (p.map k) i >>= fun x=>if left=true then lt' x (k j) else lt' (k j) x >>= fun r=>pure (Option.map (fun x=>!x) r)) (tbey c N left p i j):=by
 unfold tbey
 apply sim_bind
 ·exact sim_el
 ·intro x
  apply sim_ite
  ·exact sim_lt
  ·apply sim_bind
   ·exact sim_lt
   ·intro r
    exact sim_pureV (φ:=fun _ b=>some b) (!r) fun _=>rfl
def gallopS(c:Nat→Nat→Bool)(N:Nat)(left:Bool)(j:Nat)(p:Array Nat)(base n hint:Nat):{ m:TW (Option Nat) // Sim c N ident (fun k=>gallop' left (k j) (p.map k) base n hint) m }:=by
 apply mkS
 ·apply sim_bind
  ·exact sim_beyond
  ·intro b
   dsimp only
   repeat' (first
    | with_reducible exact sim_done _ | with_reducible exact sim_yield _ | with_reducible exact sim_pure _ | exact sim_beyond
    | apply sim_ite | with_reducible apply sim_forI | with_reducible apply sim_case | with_reducible apply sim_bind | (intro _;try dsimp only[ident]))
section
variable {τ δ γ:Type}
end
end Srt
set_option maxHeartbeats 4000000
namespace Srt
open PySem PyProof.Rows
def sub(i:Nat):List Int:=((List.range 6).filter fun b=>i.testBit b).map Int.ofNat
def llt:List Int→List Int→Bool
 | [],[]=>false
 | [],_::_=>true
 | _::_,[]=>false
 | x::xs,y::ys=>if x=y then llt xs ys else decide (x < y)
def cmp(i j:Nat):Bool:=llt (sub i) (sub j)
theorem set_map(k:Nat→Keyed)(sa:Nat):∀ (l:List (Nat×Nat)) (p:Array Nat),(l.map fun x=>(k x.1,x.2)).foldl (fun a (x:Keyed×Nat)=>match x with | (q,j)=>a.setIfInBounds (sa+j) q) (p.map k)=(l.foldl (fun a x=>a.setIfInBounds (sa+x.2) x.1) p).map k
 | [],p=>rfl
 | x::l,p=>by
  simp only[List.map_cons,List.foldl_cons]
  have e:(p.map k).setIfInBounds (sa+x.2) (k x.1)=(p.setIfInBounds (sa+x.2) x.1).map k:=by simp
  rw[e,set_map k sa l]
def a1:Array Nat:=#[0,1,3,7,15,31,23,11,27,19,5,13,29,21,9,25,17,2,6,14,30,22,10,26,18,4,12,28,20,8,24,16,32,33,34,35,36,37,38,39,40,41,42,43,44,45,46,47,48,49,50,51,52,53,54,55,56,57,58,59,60,61,62,63]
def a3:Array Nat:=#[0,1,3,7,15,31,23,11,27,19,5,13,29,21,9,25,17,2,6,14,30,22,10,26,18,4,12,28,20,8,24,16,33,32,34,35,36,37,38,39,40,41,42,43,44,45,46,47,48,49,50,51,52,53,54,55,56,57,58,59,60,61,62,63]
def a4:Array Nat:=#[0,1,3,7,15,31,23,11,27,19,5,13,29,21,9,25,17,2,6,14,30,22,10,26,18,4,12,28,20,8,24,16,63,47,55,39,59,43,51,35,61,45,53,37,57,41,49,33,62,46,54,38,58,42,50,34,60,44,52,36,56,40,48,32]
def order:Array Nat:=#[0,1,3,7,15,31,63,47,23,55,39,11,27,59,43,19,51,35,5,13,29,61,45,21,53,37,9,25,57,41,17,49,33,2,6,14,30,62,46,22,54,38,10,26,58,42,18,50,34,4,12,28,60,44,20,52,36,8,24,56,40,16,48,32]
def t0:PS:=((List.range 64).toArray,#[],7)
def t2:PS:=(a1,#[(0,32,0)],7)
def t4:PS:=(a4,#[(0,32,0)],7)
def t6:PS:=(a4,#[(0,64,1)],7)
theorem e0:(countS cmp 64 0 64).1 t0=some (some 3,t0):=by kernel_rfl
theorem e1:(binS cmp 64 0 32 3).1 t0=some (true,(a1,#[],7)):=by kernel_rfl
theorem e2:(countS cmp 64 32 32).1 t2=some (some 2,(a3,#[(0,32,0)],7)):=by kernel_rfl
theorem e3:(binS cmp 64 32 32 2).1 (a3,#[(0,32,0)],7)=some (true,t4):=by kernel_rfl
theorem e4:(gallopS cmp 64 false (a4.getD 32 0) a4 0 32 0).1 t6=some (some 6,t6):=by kernel_rfl
def mg:Array Nat:=order.extract 6 62
theorem e7:(mg.toList.zipIdx).foldl (fun a x=>a.setIfInBounds (6+x.2) x.1) a4=order:=by kernel_rfl
section
variable {P:Program}{w:World}{A:Around}{E:Value→Shared→Prop}{s:Shared}{k:Nat→Keyed}
end
end Srt
set_option maxHeartbeats 4000000
namespace Srt
open PySem PyProof.Rows
section
variable {P:Program}{w:World}{A:Around}{E:Value→Shared→Prop}{s:Shared}{k:Nat→Keyed}
def o2:Array Nat:=#[0,1]
theorem c2:(countS cmp 2 0 2).1 ((List.range 2).toArray,#[],7)=some (some 2,((List.range 2).toArray,#[],7)):=by kernel_rfl
def o4:Array Nat:=#[0,1,3,2]
theorem c4:(countS cmp 4 0 4).1 ((List.range 4).toArray,#[],7)=some (some 3,((List.range 4).toArray,#[],7)):=by kernel_rfl
theorem b4:(binS cmp 4 0 4 3).1 ((List.range 4).toArray,#[],7)=some (true,(o4,#[],7)):=by kernel_rfl
def o8:Array Nat:=#[0,1,3,7,5,2,6,4]
theorem b8:(binS cmp 8 0 8 3).1 ((List.range 8).toArray,#[],7)=some (true,(o8,#[],7)):=by kernel_rfl
end
end Srt
namespace L2
open PySem PySem.Spec PyProof.Rows Srt
section
variable {prog:Program}{w:World}{A:Around}{E:Value→Shared→Prop}{s:Shared}
end
end L2
namespace L2
open PySem PySem.Spec PyProof.Rows Srt
def ordL(n:Nat):List Nat:=order.toList.filter fun i=>decide (i < n)
theorem ord_lt{n i:Nat}(h:i∈ordL n):i < n:=by
 unfold ordL at h
 exact of_decide_eq_true (List.mem_filter.mp h).2
section
variable {X:Cx}
end
end L2
namespace L2
open PySem PySem.Spec PyProof.Rows
section
variable {X:Cx}
def tRev(te:TE)(ts:TO):TE:=fun σ H Q=>te σ H fun x H1=>ts σ H1 fun l H2=>l=some (-1)∧∃ a xs,x=.ref a∧H2 a=some (.lst xs)∧∀ p,H2 p=none→Q (.ref p) (upd H2 p (.lst xs.reverse))
def rInsert:V→List V→Hp→VK→Prop:=fun x vs H Q=>∃ l xs i y,x=.ref l∧vs=[.int i,y]∧H l=some (.lst xs)∧0≤i∧i≤xs.length∧xs.length < 1000∧Q .non (upd H l (.lst (xs.take i.toNat++y::xs.drop i.toNat)))
end
theorem tRev_ap{te:TE}{ts:TO}{σ:St}{H:Hp}{Q:VK}:tRev te ts σ H Q=te σ H fun x H1=>ts σ H1 fun l H2=>l=some (-1)∧∃ a xs,x=.ref a∧H2 a=some (.lst xs)∧∀ p,H2 p=none→Q (.ref p) (upd H2 p (.lst xs.reverse)):=propext Iff.rfl
theorem rInsert_ap{x:V}{vs:List V}{H:Hp}{Q:VK}:rInsert x vs H Q=∃ l xs i y,x=.ref l∧vs=[.int i,y]∧H l=some (.lst xs)∧0≤i∧i≤xs.length∧xs.length < 1000∧Q .non (upd H l (.lst (xs.take i.toNat++y::xs.drop i.toNat))):=propext Iff.rfl
end L2
namespace L2
open PySem
theorem tPart_ap{te:TE}{σ:St}{H:Hp}{K:Option Int→Hp→Prop}:tPart te σ H K=te σ H fun x H1=>∃ i,x=.int i∧K (some i) H1:=propext Iff.rfl
theorem tNoPart_ap{σ:St}{H:Hp}{K:Option Int→Hp→Prop}:tNoPart σ H K=K none H:=propext Iff.rfl
end L2
namespace Toy
open PySem L2
open PySem.Builtin.Int (intBits)
structure BagAt(H:Hp)(B L:Addr):Prop where
 ex:∃ ns i r salt,H B=some (.lst [.ref L,.int i,.int r,.int salt])∧H L=some (.lst (List.map V.int ns))∧(0:Int)≤i
theorem BagAt.new{H:Hp}{B L p:Addr}{o:HO}(b:BagAt H B L)(hp:H p=none):BagAt (upd H p o) B L:=by
 obtain⟨ns,i,r,salt,h1,h2,h3⟩:=b
 exact⟨ns,i,r,salt,by rw[upd_ne (ne_of_none h1 hp)];exact h1,by rw[upd_ne (ne_of_none h2 hp)];exact h2,h3⟩
theorem BagAt.ne{H:Hp}{B L p:Addr}(b:BagAt H B L)(hp:H p=none):p≠B:=fun e=>by
 obtain⟨_,_,_,_,z,_⟩:=b
 rw[← e,hp] at z
 cases z
abbrev lowN(n u:Int):Int:=n / (Int.gcd n u:Int)
abbrev lowU(n u:Int):Int:=u / (Int.gcd n u:Int)
def RowAt(H:Hp)(xs:List V)(ps:List (Int×Int)):Prop:=xs.length=ps.length∧∀(i:Nat) p,ps[i]?=some p→∃ r,xs[i]?=some (.ref r)∧H r=some (.tup [.int p.1,.int p.2])∧0 < p.2∧Sz 100 p.1∧Sz 31 p.2
theorem RowAt.same{H H':Hp}{xs:List V}{ps:List (Int×Int)}(h:RowAt H xs ps)(s:Same H H'):RowAt H' xs ps:=⟨h.1,fun i p hp=>by
 obtain⟨r,e,h1,h2⟩:=h.2 i p hp
 exact⟨r,e,s _ _ h1,h2⟩⟩
def pD(p:Int×Int):Dt:=.tup [.int p.1,.int p.2]
def TS(H H':Hp):Prop:=∀ b xs,H b=some (.tup xs)→H' b=some (.tup xs)
theorem TS.of{H H':Hp}(s:Same H H'):TS H H':=fun b xs h=>s b _ h
theorem TS.refl(H:Hp):TS H H:=fun _ _ h=>h
theorem TS.trans{H H1 H2:Hp}(a:TS H H1)(b:TS H1 H2):TS H H2:=fun c xs h=>b c xs (a c xs h)
theorem TS.fr{H H':Hp}{B L:Addr}(b:BagAt H B L)(f:Fr1 B H H'):TS H H':=fun c xs h=>f c _ (fun e=>by
 obtain⟨_,_,_,_,z,_⟩:=b
 rw[← e,h] at z
 cases z) h
theorem TS.lst{H:Hp}{l:Addr}{xs:List V}{o:HO}(h:H l=some (.lst xs)):TS H (L2.upd H l o):=fun c ys hc=>by
 rw[upd_ne (fun e=>by rw[e,h] at hc;cases hc)]
 exact hc
theorem BagAt.put{H:Hp}{B L F:Addr}{o:HO}(b:BagAt H B L)(nB:F≠B)(nL:F≠L):BagAt (L2.upd H F o) B L:=by
 obtain⟨ns,i,r,salt,h1,h2,h3⟩:=b
 exact⟨ns,i,r,salt,by rw[upd_ne nB.symm];exact h1,by rw[upd_ne nL.symm];exact h2,h3⟩
theorem BagAt.neL{H:Hp}{B L p:Addr}(b:BagAt H B L)(hp:H p=none):p≠L:=fun e=>by
 obtain⟨_,_,_,_,_,z,_⟩:=b
 rw[← e,hp] at z
 cases z
theorem BagAt.keep{H H':Hp}{B L:Addr}(b:BagAt H B L)(s:Same H H'):BagAt H' B L:=by
 obtain⟨ns,i,r,salt,h1,h2,h3⟩:=b
 exact⟨ns,i,r,salt,s _ _ h1,s _ _ h2,h3⟩
theorem Fr1.of{H H':Hp}{B:Addr}(s:Same H H'):Fr1 B H H':=fun b o _ h=>s b o h
theorem RowAt.ts{H H':Hp}{xs:List V}{ps:List (Int×Int)}(h:RowAt H xs ps)(s:TS H H'):RowAt H' xs ps:=⟨h.1,fun i p hp=>by
 obtain⟨r,e,h1,h2⟩:=h.2 i p hp
 exact⟨r,e,s _ _ h1,h2⟩⟩
theorem RowAt.nil{H:Hp}:RowAt H [] []:=⟨rfl,fun i p h=>by simp at h⟩
theorem RowAt.snoc{H:Hp}{xs:List V}{ps:List (Int×Int)}{r:Addr}{n u:Int}(h:RowAt H xs ps)(hr:H r=some (.tup [.int n,.int u]))(hu:0 < u)(zn:Sz 100 n)(zu:Sz 31 u):RowAt H (xs++[.ref r]) (ps++[(n,u)]):=by
 refine⟨by rw[List.length_append,List.length_append,h.1];rfl,fun i p hp=>?_⟩
 by_cases hi:i < ps.length
 ·rw[List.getElem?_append_left hi] at hp
  rw[List.getElem?_append_left (by rw[h.1];exact hi)]
  exact h.2 i p hp
 ·have hl:=(List.getElem?_eq_some_iff.mp hp).1
  rw[List.length_append] at hl
  have e:i=ps.length:=by
   have:([(n,u)]:List (Int×Int)).length=1:=rfl
   omega
  subst e
  rw[List.getElem?_append_right (Nat.le_refl _),Nat.sub_self] at hp
  cases hp
  exact⟨r,by rw[List.getElem?_append_right (by rw[h.1];exact Nat.le_refl _),h.1,Nat.sub_self];rfl,hr,hu,zn,zu⟩
structure Cl where
 n:Int
 u:Int
 hp:List Int
 rk:Int
def ClAt(H:Hp)(v:V)(c:Cl):Prop:=∃ r p h,v=.ref r∧H r=some (.tup [.ref p,.ref h,.int c.rk])∧H p=some (.tup [.int c.n,.int c.u])∧H h=some (.tup (c.hp.map V.int))
theorem ClAt.ts{H H':Hp}{v:V}{c:Cl}(h:ClAt H v c)(s:TS H H'):ClAt H' v c:=by
 obtain⟨r,p,k,e,h1,h2,h3⟩:=h
 exact⟨r,p,k,e,s _ _ h1,s _ _ h2,s _ _ h3⟩
def ClsAt(H:Hp)(xs:List V)(cs:List Cl):Prop:=xs.length=cs.length∧∀(i:Nat) c,cs[i]?=some c→∃ v,xs[i]?=some v∧ClAt H v c
theorem ClsAt.ts{H H':Hp}{xs:List V}{cs:List Cl}(h:ClsAt H xs cs)(s:TS H H'):ClsAt H' xs cs:=⟨h.1,fun i c hc=>by
 obtain⟨v,e,h1⟩:=h.2 i c hc
 exact⟨v,e,h1.ts s⟩⟩
theorem ClsAt.nil{H:Hp}:ClsAt H [] []:=⟨rfl,fun i p h=>by simp at h⟩
theorem ClsAt.snoc{H:Hp}{xs:List V}{cs:List Cl}{v:V}{c:Cl}(h:ClsAt H xs cs)(hv:ClAt H v c):ClsAt H (xs++[v]) (cs++[c]):=by
 refine⟨by rw[List.length_append,List.length_append,h.1];rfl,fun i p hp=>?_⟩
 by_cases hi:i < cs.length
 ·rw[List.getElem?_append_left hi] at hp
  rw[List.getElem?_append_left (by rw[h.1];exact hi)]
  exact h.2 i p hp
 ·have hl:=(List.getElem?_eq_some_iff.mp hp).1
  rw[List.length_append] at hl
  have e:i=cs.length:=by
   have:([c]:List Cl).length=1:=rfl
   omega
  subst e
  rw[List.getElem?_append_right (Nat.le_refl _),Nat.sub_self] at hp
  cases hp
  exact⟨v,by rw[List.getElem?_append_right (by rw[h.1];exact Nat.le_refl _),h.1,Nat.sub_self];rfl,hv⟩
theorem ints_dens{H:Hp}:∀ hs:List Int,Dens H (hs.map Dt.int) (hs.map V.int)
 | []=>by unfold List.map Dens;rfl
 | x::hs=>by
  show Dens H (Dt.int x::hs.map Dt.int) (V.int x::hs.map V.int)
  unfold Dens
  exact⟨_,_,rfl,by unfold Den;rfl,ints_dens hs⟩
theorem dens1{H:Hp}{d:Dt}{ds:List Dt}{x:V}{xs:List V}(h:Den H d x)(h2:Dens H ds xs):Dens H (d::ds) (x::xs):=by
 unfold Dens
 exact⟨_,_,rfl,h,h2⟩
theorem dens0{H:Hp}:Dens H [] []:=by unfold Dens;rfl
theorem den_tup{H:Hp}{a:Addr}{xs:List V}{ds:List Dt}(h:H a=some (.tup xs))(h2:Dens H ds xs):Den H (.tup ds) (.ref a):=by unfold Den;exact⟨a,xs,rfl,h,h2⟩
theorem den_lst{H:Hp}{a:Addr}{xs:List V}{ds:List Dt}(h:H a=some (.lst xs))(h2:Dens H ds xs):Den H (.lst ds) (.ref a):=by unfold Den;exact⟨a,xs,rfl,h,h2⟩
theorem cmp_tup{k:Nat}{ds:List Dt}(h:∀ d∈ds,Cmp k d d):Cmp (k+1) (.tup ds) (.tup ds):=by
 unfold Cmp
 intro j d e h1 h2
 rw[h1] at h2
 cases h2
 exact h d (List.mem_of_getElem? h1)
theorem cmp_lst{k:Nat}{ds:List Dt}(h:∀ d∈ds,Cmp k d d):Cmp (k+1) (.lst ds) (.lst ds):=by
 unfold Cmp
 intro _ j d e h1 h2
 rw[h1] at h2
 cases h2
 exact h d (List.mem_of_getElem? h1)
theorem int_at{ns:List Int}{i:Nat}{y:V}(h:(ns.map V.int)[i]?=some y):∃ hi:i < ns.length,y=.int ns[i]:=by
 rw[List.getElem?_map] at h
 cases e:ns[i]? with
 | none=>rw[e] at h;cases h
 | some k =>
  rw[e] at h
  obtain⟨hi,e2⟩:=List.getElem?_eq_some_iff.mp e
  exact⟨hi,by rw[e2];exact (Option.some.inj h).symm⟩
def HeapsAt(H:Hp)(xs:List V)(m:Int):Prop:=∀ v∈xs,∃(t:Addr)(hs:List Int),v=.ref t∧H t=some (.tup (hs.map V.int))∧(hs.length:Int)≤m∧∀ x∈hs,0≤x∧x < m
theorem HeapsAt.ts{H H':Hp}{xs:List V}{m:Int}(h:HeapsAt H xs m)(s:TS H H'):HeapsAt H' xs m:=fun v hv=>by
 obtain⟨t,hs,e,h1,h2⟩:=h v hv
 exact⟨t,hs,e,s _ _ h1,h2⟩
theorem HeapsAt.mono{H:Hp}{xs:List V}{m k:Int}(h:HeapsAt H xs m)(q:m≤k):HeapsAt H xs k:=fun v hv=>by
 obtain⟨t,hs,e,h1,h2,h3⟩:=h v hv
 exact⟨t,hs,e,h1,by omega,fun x hx=>⟨(h3 x hx).1,Int.lt_of_lt_of_le (h3 x hx).2 q⟩⟩
theorem gcd_pos{n u:Int}(hu:0 < u):0 < (Int.gcd n u:Int):=by
 have:0 < Int.gcd n u:=Int.gcd_pos_of_ne_zero_right n (by omega)
 omega
theorem low_red(n:Int){u:Int}(hu:0 < u):1≤u / (Int.gcd n u:Int)∧Int.gcd (n / (Int.gcd n u:Int)) (u / (Int.gcd n u:Int))=1∧n / (Int.gcd n u:Int)*u=n*(u / (Int.gcd n u:Int))∧0 < u / (Int.gcd n u:Int):=by
 have hg:=gcd_pos (n:=n) hu
 have d1:(Int.gcd n u:Int)∣n:=Int.gcd_dvd_left n u
 have d2:(Int.gcd n u:Int)∣u:=Int.gcd_dvd_right n u
 have e1:=Int.ediv_mul_cancel d1
 have e2:=Int.ediv_mul_cancel d2
 have p:0 < u / (Int.gcd n u:Int):=by
  by_cases h:0 < u / (Int.gcd n u:Int)
  ·exact h
  ·have:u / (Int.gcd n u:Int)*(Int.gcd n u:Int)≤0:=Int.mul_nonpos_of_nonpos_of_nonneg (by omega) (by omega)
   omega
 refine⟨p,Int.gcd_ediv_gcd_ediv_gcd (by omega),?_,p⟩
 generalize n / (Int.gcd n u:Int)=a at e1
 generalize u / (Int.gcd n u:Int)=b at e2
 generalize (Int.gcd n u:Int)=g at e1 e2
 rw[← e1,← e2]
 rw[Int.mul_comm b g,Int.mul_assoc]
def hp(m:Int):Int→List Int→Bool
 | _,[]=>true
 | l,x::r=>if x≤l∨m≤x then false else hp m x r
def OrdAt(H:Hp)(xs:List V)(n:Nat):Prop:=∃ ts:Nat→Addr,xs=(ordL n).map (fun i=>V.ref (ts i))∧∀ i,i < n→H (ts i)=some (.tup ((Srt.sub i).map V.int))
theorem OrdAt.ts{H H':Hp}{xs:List V}{n:Nat}(h:OrdAt H xs n)(s:TS H H'):OrdAt H' xs n:=by
 obtain⟨f,e,h1⟩:=h
 exact⟨f,e,fun i hi=>s _ _ (h1 i hi)⟩
def oD(n:Nat):List Dt:=(ordL n).map fun i=>.tup ((Srt.sub i).map Dt.int)
theorem OrdAt.mem{H:Hp}{xs:List V}{n:Nat}(h:OrdAt H xs n){v:V}(hv:v∈xs):∃ t i,v=.ref t∧i < n∧H t=some (.tup ((Srt.sub i).map V.int)):=by
 obtain⟨f,rfl,h1⟩:=h
 obtain⟨i,hi,rfl⟩:=List.mem_map.mp hv
 exact⟨f i,i,rfl,ord_lt hi,h1 i (ord_lt hi)⟩
theorem seq_cut{ta tb:L2.TS}{D:Ends}{σ:St}{H:Hp}(W:St→Hp→Prop)(h2:∀ σ' H',W σ' H'→tb D σ' H')(h1:∀ tb':L2.TS,(∀ σ' H',W σ' H'→tb' D σ' H')→tSeq ta tb' D σ H):tSeq ta tb D σ H:=h1 tb h2
theorem RowAt.mem{H:Hp}{xs:List V}{ps:List (Int×Int)}(h:RowAt H xs ps){p:Int×Int}(hp:p∈ps):0 < p.2∧Sz 100 p.1∧Sz 31 p.2:=by
 obtain⟨i,hi⟩:=List.mem_iff_getElem?.mp hp
 obtain⟨r,_,_,h1⟩:=h.2 i p hi
 exact h1
def OptH(H:Hp)(v:V):Option Nat→Prop
 | none=>v=.non
 | some i=>∃ t,v=.ref t∧H t=some (.tup ((Srt.sub i).map V.int))
theorem OptH.ts{H H':Hp}{v:V}{o:Option Nat}(h:OptH H v o)(s:TS H H'):OptH H' v o:=by
 cases o with
 | none=>exact h
 | some i =>
  obtain⟨t,e,h1⟩:=h
  exact⟨t,e,s _ _ h1⟩
theorem for_listN{K:PySem.W.Frag}{a:Addr}{xs:List V}{g:TG}{tb:L2.TS}{D:Ends}{σ:St}{H:Hp}(Pv:Nat→St→Hp→Prop)(h0:Pv 0 σ H)(hl:∀ i σ H,i≤xs.length→Pv i σ H→SqL K H a xs)
  (hs:∀ i x σ H (N B:St→Hp→Prop),xs[i]?=some x→Pv i σ H→(∀ σ' H',Pv (i+1) σ' H'→N σ' H')→(∀ σ' H',D.nx σ' H'→B σ' H')→g x σ H fun σ2 H2=>tb { nx:=N,rt:=D.rt,bk:=B,ct:=N } σ2 H2) (hd:∀ σ H,Pv xs.length σ H→D.nx σ H) :
  ∃ W:Nat→Nat→St→Hp→Prop,(∃ m,W 0 m σ H)∧∀ i m σ H,W i m σ H →
   ((Itl K a).stop i H∧D.nx σ H)∨((Itl K a).go i H∧∃ N:St→Hp→Prop,(∀ σ' H',N σ' H'→∃ m',m' < m∧W (i+1) m' σ' H')∧∀ x H',(Itl K a).yld i H x H'→g x σ H' fun σ2 H2=>tb { D with nx:=N,ct:=N,bk:=D.nx } σ2 H2) :=
 for_list Pv h0 hl (fun i x σ H hx hp=>hs i x σ H (Pv (i+1)) D.nx hx hp (fun _ _ h=>h) fun _ _ h=>h) hd
theorem for_rangeN{lo:Int}{n:Nat}{g:TG}{tb:L2.TS}{D:Ends}{σ:St}{H:Hp}(Pv:Nat→St→Hp→Prop)(h0:Pv 0 σ H)
  (hs:∀ i σ H (N B:St→Hp→Prop),i < n→Pv i σ H→(∀ σ' H',Pv (i+1) σ' H'→N σ' H')→(∀ σ' H',D.nx σ' H'→B σ' H')→g (.int (lo+i)) σ H fun σ2 H2=>tb { nx:=N,rt:=D.rt,bk:=B,ct:=N } σ2 H2) (hd:∀ σ H,Pv n σ H→D.nx σ H) :
  ∃ W:Nat→Nat→St→Hp→Prop,(∃ m,W 0 m σ H)∧∀ i m σ H,W i m σ H →
   ((Itr lo n).stop i H∧D.nx σ H)∨((Itr lo n).go i H∧∃ N:St→Hp→Prop,(∀ σ' H',N σ' H'→∃ m',m' < m∧W (i+1) m' σ' H')∧∀ x H',(Itr lo n).yld i H x H'→g x σ H' fun σ2 H2=>tb { D with nx:=N,ct:=N,bk:=D.nx } σ2 H2) :=
 for_range Pv h0 (fun i σ H hi hp=>hs i σ H (Pv (i+1)) D.nx hi hp (fun _ _ h=>h) fun _ _ h=>h) hd
theorem qe_bmK{X:Cx}{K:PySem.W.Frag}(hK:X.K=K){o e:Expr}{es:List Expr}{to:TE}{t:TA}{name:Str}{apos cpos:Pos}{T id:String}{r:V→List V→Hp→VK→Prop}(pa:PlainAttrs T)(slot:PySem.Slot T name id)(hty:typeOf (.builtin id)=pure (.type "method_descriptor"))(hm:MtR X id r)(ho:QE X o to)(ha:QA X (e::es) t)
  (hbase:attributeBase o name X.env (eval o X.env)=eval o X.env:=by rfl)
  (hfew:((backTo cpos (starEach (e::es) X.env)).all (fun x=>!x.1) && (backToKw cpos (keywordEach [] X.env)).all (fun x=>x.1.isSome)
   && decide ((e::es).length+([]:List Keyword).length+(if ([]:List Keyword).isEmpty then 0 else 1) < 30))=true:=by rfl)
  (hline:(apos.endLine == cpos.line)=true:=by rfl) (hs:starEach (e::es) X.env=(false,eval e X.env)::starEach es X.env:=by rfl) (hplain:(backTo cpos (starEach es X.env)).any (·.1)=false:=by rfl) :
  QE X (.Call (.Attribute o name apos) (e::es) [] cpos) (tBM K T r to t):=hK▸qe_bm pa slot hty hm ho ha hbase hfew hline hs hplain
end Toy
namespace L2
open PySem
section
variable {σ:St}{H:Hp}{Q:VK}{D:Ends}{te ta tb:TE}{t u:TS}{c c':TT}{tr:TA}{QT:Bool→Hp→Prop}{QA:List V→Hp→Prop}{x y:V}{xs:List V}{v:V}{i j:Int}{p:Addr}
theorem i_tSeq(h:t { D with nx:=u D } σ H):tSeq t u D σ H:=h
theorem i_tIfS(h:c σ H fun b H1=>Brk b (t D σ H1) (u D σ H1) .mk .mk):tIfS c t u D σ H:=h
theorem i_tNext(h:D.nx σ H):tNext D σ H:=h
theorem i_tDrop(h:te σ H fun _ H1=>D.nx σ H1):tDrop te D σ H:=h
theorem i_tRet(h:te σ H D.rt):tRet te D σ H:=h
theorem i_tAsg{g:TG}(h:te σ H fun x H1=>g x σ H1 D.nx):tAsg te g D σ H:=h
theorem i_gName{k:Nat}{R:St→Hp→Prop}(h:R (σ.set k (some v)) H):gName k v σ H R:=h
theorem i_gSub{to ti:TE}{ts:TSet}{R:St→Hp→Prop}(h:to σ H fun o H1=>ti σ H1 fun i H2=>ts o i v H2 fun H3=>R σ H3):gSub to ti ts v σ H R:=h
theorem i_tAugS{to ti:TE}{tg:V→V→Hp→VK→Prop}{tp:TIp}{ts:TSet}(h:to σ H fun o H1=>ti σ H1 fun i H2=>tg o i H2 fun x H3=>te σ H3 fun y H4=>tp x y H4 fun z H5=>ts o i z H5 fun H6=>D.nx σ H6):tAugS to ti te tg tp ts D σ H:=h
theorem i_tVar{k:Nat}(e:σ[k]?=some (some v))(h:Q v H):tVar k σ H Q:=⟨v,e,h⟩
theorem i_tC(h:Q v H):tC v σ H Q:=h
theorem i_tB(h:te σ H fun x H1=>∃ c,x=.bl c∧QT c H1):tB te σ H QT:=h
theorem i_tTest(h:te σ H fun x H1=>∃ c,x=.bl c∧QT c H1):tTest te σ H QT:=h
theorem i_exB{b:Bool}{P:Bool→Prop}(h:P b):∃ c,V.bl b=V.bl c∧P c:=⟨b,rfl,h⟩
theorem i_tOp{r:R2}(h:ta σ H fun x H1=>tb σ H1 fun y H2=>r x y H2 Q):tOp r ta tb σ H Q:=h
theorem i_tUn{r:V→Hp→VK→Prop}(h:ta σ H fun x H1=>r x H1 Q):tUn r ta σ H Q:=h
theorem i_tCB{r:List V→Hp→VK→Prop}(h:tr σ H fun vs H1=>r vs H1 Q):tCB r tr σ H Q:=h
theorem i_tNil(h:QA [] H):tNil σ H QA:=h
theorem i_tCons(h:ta σ H fun x H1=>tr σ H1 fun xs H2=>QA (x::xs) H2):tCons ta tr σ H QA:=h
theorem i_tNot(h:c σ H fun b H1=>QT (!b) H1):tNot c σ H QT:=h
theorem i_tAnd(h:c σ H fun b H1=>Brk b (c' σ H1 QT) (QT false H1) .mk .mk):tAnd c c' σ H QT:=h
theorem i_tOr(h:c σ H fun b H1=>Brk b (QT true H1) (c' σ H1 QT) .mk .mk):tOr c c' σ H QT:=h
theorem i_tD{sp:Sp}{E:XK}(h:tr σ H fun vs H1=>sp vs H1 Q E):tD sp E tr σ H Q:=h
theorem i_rI0{g:Int→Int→V}(h:Q (g i j) H):rI0 g (.int i) (.int j) H Q:=⟨i,j,rfl,rfl,h⟩
theorem i_rI{C:Int→Int→Prop}{g:Int→Int→V}(hc:C i j)(h:Q (g i j) H):rI C g (.int i) (.int j) H Q:=⟨i,j,rfl,rfl,hc,h⟩
theorem i_rU{g:Int→V}(h:Q (g i) H):rU g (.int i) H Q:=⟨i,rfl,h⟩
theorem i_ixL(hp:H p=some (.lst xs))(e:atI xs i=some v)(h:Q v H):rIxF (.ref p) (.int i) H Q:=⟨p,xs,i,v,rfl,rfl,seqAt_lst hp,e,h⟩
theorem i_ixT(hp:H p=some (.tup xs))(e:atI xs i=some v)(h:Q v H):rIxF (.ref p) (.int i) H Q:=⟨p,xs,i,v,rfl,rfl,seqAt_tup hp,e,h⟩
theorem i_lenL(hp:H p=some (.lst xs))(h:Q (.int xs.length) H):rLenF [.ref p] H Q:=⟨p,xs,rfl,seqAt_lst hp,h⟩
theorem i_getL(hp:H p=some (.lst xs))(h0:0≤i)(e:atI xs i=some v)(h:Q v H):rGetF (.ref p) (.int i) H Q:=⟨p,xs,i,v,rfl,rfl,hp,h0,e,h⟩
theorem i_ipI{f:Int→Int→Int}(h:Q (.int (f i j)) H):ipI f (.int i) (.int j) H Q:=⟨i,j,rfl,rfl,h⟩
end
section
variable {σ:St}{H:Hp}{Q:VK}{D:Ends}{tr:TA}{xs:List V}{A B:Prop}{k:Tg A}{l:Tg B}{q:Prop}[Decidable q]
theorem i_brkT(h:A):Brk true A B k l:=brk (fun _=>h) (fun z=>by cases z)
theorem i_brkF(h:B):Brk false A B k l:=brk (fun z=>by cases z) (fun _=>h)
theorem i_brkP(hq:q)(h:A):Brk (decide q) A B k l:=brkD (fun _=>h) (fun z=>absurd hq z)
theorem i_brkN(hq:¬ q)(h:B):Brk (decide q) A B k l:=brkD (fun z=>absurd z hq) (fun _=>h)
end
end L2
namespace Toy
open PySem L2
open PySem.Builtin.Int (intBits)
def num(U:Int)(p:Int×Int):Int:=p.1*(U / p.2)
structure Ok(U:Int)(p:Int×Int):Prop where
 pos:0 < p.2
 dvd:p.2∣U
 cop:Int.gcd p.1 p.2=1
def low(n u:Int):Int×Int:=(lowN n u,lowU n u)
theorem low_pos{n u:Int}(hu:0 < u):0 < (low n u).2:=(low_red n hu).1
theorem low_cop{n u:Int}(hu:0 < u):Int.gcd (low n u).1 (low n u).2=1:=(low_red n hu).2.1
theorem low_x{n u:Int}(hu:0 < u):(low n u).1*u=n*(low n u).2:=(low_red n hu).2.2.1
theorem low_u{n u:Int}:(low n u).2∣u:=⟨(Int.gcd n u:Int),(Int.ediv_mul_cancel (Int.gcd_dvd_right n u)).symm⟩
theorem Ok.low{n u U:Int}(hu:0 < u)(h:u∣U):Ok U (Toy.low n u):=⟨low_pos hu,Int.dvd_trans low_u h,low_cop hu⟩
theorem Ok.up{U V:Int}{p:Int×Int}(h:Ok U p)(d:U∣V):Ok V p:=⟨h.pos,Int.dvd_trans h.dvd d,h.cop⟩
structure UOk(U:Int):Prop where
 pos:0 < U
 sz:Sz 4000 U
structure PtOk(U:Int)(k:Nat)(p:Int×Int):Prop extends Ok U p where
 sz:Sz k (num U p)
theorem PtOk.mono{U:Int}{k j:Nat}{p:Int×Int}(h:PtOk U k p)(q:k≤j):PtOk U j p:=⟨h.toOk,h.sz.mono q⟩
def RowU(U:Int)(k:Nat)(H:Hp)(xs:List V)(ps:List (Int×Int)):Prop:=xs.length=ps.length∧∀(i:Nat) p,ps[i]?=some p→∃ r,xs[i]?=some (.ref r)∧H r=some (.tup [.int p.1,.int p.2])∧PtOk U k p
theorem RowU.ts{U:Int}{k:Nat}{H H':Hp}{xs:List V}{ps:List (Int×Int)}(h:RowU U k H xs ps)(s:TS H H'):RowU U k H' xs ps:=⟨h.1,fun i p hp=>by
 obtain⟨r,e,h1,h2⟩:=h.2 i p hp
 exact⟨r,e,s _ _ h1,h2⟩⟩
theorem RowU.mono{U:Int}{k j:Nat}{H:Hp}{xs:List V}{ps:List (Int×Int)}(h:RowU U k H xs ps)(q:k≤j):RowU U j H xs ps:=⟨h.1,fun i p hp=>by
 obtain⟨r,e,h1,h2⟩:=h.2 i p hp
 exact⟨r,e,h1,h2.mono q⟩⟩
theorem RowU.nil{U:Int}{k:Nat}{H:Hp}:RowU U k H [] []:=⟨rfl,fun i p h=>by simp at h⟩
theorem RowU.mem{U:Int}{k:Nat}{H:Hp}{xs:List V}{ps:List (Int×Int)}(h:RowU U k H xs ps):∀ p∈ps,PtOk U k p:=fun p hp=>by
 obtain⟨i,hi⟩:=List.mem_iff_getElem?.mp hp
 obtain⟨r,_,_,h1⟩:=h.2 i p hi
 exact h1
theorem RowU.snoc{U:Int}{k:Nat}{H:Hp}{xs:List V}{ps:List (Int×Int)}{r:Addr}{p:Int×Int}(h:RowU U k H xs ps)(hr:H r=some (.tup [.int p.1,.int p.2]))(hp:PtOk U k p):RowU U k H (xs++[.ref r]) (ps++[p]):=by
 refine⟨by rw[List.length_append,List.length_append,h.1];rfl,fun i q hq=>?_⟩
 by_cases hi:i < ps.length
 ·rw[List.getElem?_append_left hi] at hq
  rw[List.getElem?_append_left (by rw[h.1];exact hi)]
  exact h.2 i q hq
 ·have hl:=(List.getElem?_eq_some_iff.mp hq).1
  rw[List.length_append] at hl
  have e:i=ps.length:=by
   have:([p]:List (Int×Int)).length=1:=rfl
   omega
  subst e
  rw[List.getElem?_append_right (Nat.le_refl _),Nat.sub_self] at hq
  cases hq
  exact⟨r,by rw[List.getElem?_append_right (by rw[h.1];exact Nat.le_refl _),h.1,Nat.sub_self];rfl,hr,hp⟩
theorem RowU.set{U:Int}{k:Nat}{H:Hp}{xs:List V}{ps:List (Int×Int)}{r:Addr}{p:Int×Int}{j:Nat}(h:RowU U k H xs ps)(hr:H r=some (.tup [.int p.1,.int p.2]))(hp:PtOk U k p):RowU U k H (xs.set j (.ref r)) (ps.set j p):=by
 refine⟨by rw[List.length_set,List.length_set,h.1],fun i q hq=>?_⟩
 by_cases e:j=i
 ·subst e
  rw[List.getElem?_set] at hq
  rw[if_pos rfl] at hq
  split at hq
  ·cases hq
   refine⟨r,?_,hr,hp⟩
   rw[List.getElem?_set,if_pos rfl,if_pos (by rw[h.1];assumption)]
  ·cases hq
 ·rw[List.getElem?_set_ne e] at hq
  rw[List.getElem?_set_ne e]
  exact h.2 i q hq
structure Lvl(R D:Nat→Int)(n:Nat)(r:Int×Int):Prop where
 pos:0 < r.2
 cop:Int.gcd r.1 r.2=1
 one:r.1≤r.2
 le:∀ i,i < n→0 < D i→r.1*D i≤R i*r.2
 at':r=(1,1)∨∃ i,i < n∧0 < D i∧r.1*D i=R i*r.2
theorem Lvl.below{R D:Nat→Int}{n:Nat}{r s:Int×Int}(a:Lvl R D n r)(b:Lvl R D n s):r.1*s.2≤s.1*r.2:=by
 have p1:=a.pos
 have p2:=b.pos
 rcases b.at' with rfl | ⟨i,hi,hD,e⟩
 ·have:=a.one
  show r.1*1≤1*r.2
  omega
 ·have h1:=a.le i hi hD
  have h2:=Int.mul_le_mul_of_nonneg_right h1 (by omega:0≤s.2)
  have h3:R i*r.2*s.2=s.1*r.2*D i:=by grind
  have h4:r.1*D i*s.2=r.1*s.2*D i:=by grind
  rw[h3,h4] at h2
  exact Int.le_of_mul_le_mul_right h2 hD
structure Du(U:Int)(k:Nat)(n u:Int):Prop where
 pt:PtOk U k (n,u)
 nn:0≤n
def RowsAt(X:List Addr)(U:Int)(k:Nat)(H:Hp)(zs:List V)(rss:List (List (Int×Int))):Prop:=zs.length=rss.length∧zs.Nodup∧∀(i:Nat) r,rss[i]?=some r→∃ l xs,zs[i]?=some (.ref l)∧H l=some (.lst xs)∧RowU U k H xs r∧l∉X
theorem RowsAt.step{X:List Addr}{U:Int}{k:Nat}{H H':Hp}{zs:List V}{rss:List (List (Int×Int))}(h:RowsAt X U k H zs rss)(f:∀ l xs,V.ref l∈zs→l∉X→H l=some (.lst xs)→H' l=some (.lst xs))(s:TS H H'):RowsAt X U k H' zs rss:=⟨h.1,h.2.1,fun i r hr=>by
 obtain⟨l,xs,e,h1,h2,h3⟩:=h.2.2 i r hr
 exact⟨l,xs,e,f l xs (List.mem_of_getElem? e) h3 h1,h2.ts s,h3⟩⟩
theorem RowsAt.nil{X:List Addr}{U:Int}{k:Nat}{H:Hp}:RowsAt X U k H [] []:=⟨rfl,.nil,fun i p h=>by simp at h⟩
theorem RowsAt.fresh{X:List Addr}{U:Int}{k:Nat}{H:Hp}{zs:List V}{rss:List (List (Int×Int))}(h:RowsAt X U k H zs rss){l:Addr}(hl:H l=none):V.ref l∉zs:=fun z=>by
 obtain⟨i,hi,e⟩:=List.getElem_of_mem z
 have hi2:i < rss.length:=by rw[← h.1];exact hi
 obtain⟨l',xs,e',h1,_⟩:=h.2.2 i rss[i] (List.getElem?_eq_getElem hi2)
 rw[List.getElem?_eq_getElem hi,e] at e'
 cases e'
 rw[hl] at h1
 cases h1
theorem RowsAt.snoc{X:List Addr}{U:Int}{k:Nat}{H:Hp}{zs:List V}{rss:List (List (Int×Int))}{l:Addr}{xs:List V}{r:List (Int×Int)}(h:RowsAt X U k H zs rss)(hn:V.ref l∉zs)(h1:H l=some (.lst xs))(h2:RowU U k H xs r)(h3:l∉X):RowsAt X U k H (zs++[.ref l]) (rss++[r]):=by
 refine⟨by rw[List.length_append,List.length_append,h.1];rfl,?_,fun i q hq=>?_⟩
 ·rw[List.nodup_append]
  exact⟨h.2.1,List.nodup_cons.mpr ⟨by simp,.nil⟩,fun a ha b hb e=>by rw[List.mem_singleton.mp hb] at e;rw[e] at ha;exact hn ha⟩
 by_cases hi:i < rss.length
 ·rw[List.getElem?_append_left hi] at hq
  rw[List.getElem?_append_left (by rw[h.1];exact hi)]
  exact h.2.2 i q hq
 ·have hl:=(List.getElem?_eq_some_iff.mp hq).1
  rw[List.length_append] at hl
  have e:i=rss.length:=by
   have:([r]:List (List (Int×Int))).length=1:=rfl
   omega
  subst e
  rw[List.getElem?_append_right (Nat.le_refl _),Nat.sub_self] at hq
  cases hq
  exact⟨l,xs,by rw[List.getElem?_append_right (by rw[h.1];exact Nat.le_refl _),h.1,Nat.sub_self];rfl,h1,h2,h3⟩
end Toy
namespace Toy
open PySem L2
open PySem.Builtin.Int (intBits)
theorem Lvl.zero{R D:Nat→Int}:Lvl R D 0 (1,1):=⟨by decide,by decide,by decide,fun i hi=>by omega,.inl rfl⟩
theorem Lvl.stay{R D:Nat→Int}{j:Nat}{r:Int×Int}(a:Lvl R D j r)(h:0 < D j)(n:¬ (low (R j) (D j)).1*r.2 < r.1*(low (R j) (D j)).2):Lvl R D (j+1) r:=by
 refine⟨a.pos,a.cop,a.one,fun i hi hD=>?_,a.at'.imp id fun ⟨i,hi,z⟩=>⟨i,by omega,z⟩⟩
 by_cases e:i=j
 ·subst e
  have x:=low_x (n:=R i) hD
  have p:=low_pos (n:=R i) hD
  generalize low (R i) (D i)=q at x p n
  have h1:=Int.mul_le_mul_of_nonneg_right (Int.not_lt.mp n) (by omega:0≤D i)
  have k2:q.1*r.2*D i=R i*r.2*q.2:=by grind
  have k1:r.1*q.2*D i=r.1*D i*q.2:=by grind
  rw[k1,k2] at h1
  exact Int.le_of_mul_le_mul_right h1 p
 ·exact a.le i (by omega) hD
end Toy
namespace L2
open PySem
section
variable {σ:St}{H:Hp}{Q:VK}{D:Ends}{te ta tb:TE}{t u:TS}{c c':TT}{tr:TA}{x y:V}{xs ys:List V}{v:V}{i j:Int}{p:Addr}
theorem i_setN{R:Hp→Prop}{k:Nat}(hp:H p=some (.lst xs))(e:ixN xs.length i=some k)(ey:xs.set k v=ys)(h:∀ H',H' p=some (.lst ys)→Fr1 p H H'→R H'):rSetL (.ref p) (.int i) v H R :=
 ⟨p,xs,i,k,rfl,rfl,hp,e,ey▸h _ (ey▸upd_same) Fr1.upd⟩
theorem mul_mod_ok{a b:Int}:IntMulOk (a % 2147483647) (b % 2147483647):=Sz.okR (k:=31) (Sz.of (by
 have h1:=Int.emod_nonneg b (by decide:(2147483647:Int)≠0)
 have h2:=Int.emod_lt_of_pos b (by decide:(0:Int) < 2147483647)
 omega)) (by decide)
def NewO(f:List V→HO)(xs:List V)(H:Hp)(Q:VK):Prop:=xs.length≤sizeLine∧∀ p,H p=none→Q (.ref p) (upd H p (f xs))
theorem i_tTup(h:tr σ H fun xs H1=>NewO HO.tup xs H1 Q):tTup tr σ H Q:=h
theorem i_tLst(h:tr σ H fun xs H1=>NewO HO.lst xs H1 Q):tLst tr σ H Q:=h
theorem i_NewO{f:List V→HO}(hl:xs.length≤64)(h:∀ p H',H p=none→Same H H'→H' p=some (f xs)→Q (.ref p) H'):NewO f xs H Q :=
 ⟨Nat.le_trans hl (by decide),fun p hp=>h p _ hp (Same.new hp) upd_same⟩
theorem i_tBM{K:PySem.W.Frag}{T:String}{r:V→List V→Hp→VK→Prop}{to:TE}(h:to σ H fun x H1=>tyV K T x H1∧tr σ H1 fun xs H2=>r x xs H2 Q):tBM K T r to tr σ H Q:=h
theorem i_app{l:Addr}(hl:H l=some (.lst xs))(hz:xs.length≤1000)(h:∀ H',H' l=some (.lst (xs++[y]))→Fr1 l H H'→Q .non H'):rAppend (.ref l) [y] H Q :=
 ⟨l,xs,y,rfl,rfl,hl,Nat.lt_of_le_of_lt hz (by decide),h _ upd_same Fr1.upd⟩
theorem i_ite{b:Bool}{A B:Prop}(h1:b=true→A)(h2:b=false→B):if b=true then A else B:=by
 cases b with
 | true=>rw[if_pos rfl];exact h1 rfl
 | false=>rw[if_neg Bool.false_ne_true];exact h2 rfl
end
theorem fr_none{H H':Hp}{B l:Addr}(f:Fr1 B H H')(n:l≠B)(hl:H' l=none):H l=none:=by
 cases e:H l with
 | none=>rfl
 | some o=>rw[f l o n e] at hl;cases hl
end L2
namespace Toy
open PySem L2
theorem BagAt.frm{H H':Hp}{B L F:Addr}(b:BagAt H B L)(f:Fr1 F H H')(nB:F≠B)(nL:F≠L):BagAt H' B L:=by
 obtain⟨ns,i,r,salt,h1,h2,h3⟩:=b
 exact⟨ns,i,r,salt,f _ _ nB.symm h1,f _ _ nL.symm h2,h3⟩
end Toy
namespace L2
open PySem PySem.Spec PyProof.Rows
def Its(x:Str):It:=⟨fun i _=>i < x.cps.size,fun i H v H'=>H'=H∧∃ c,x.cps[i]?=some c∧v=.str ⟨#[c]⟩,fun i _=>x.cps.size≤i⟩
theorem turn_str{P:Program}{w:World}{K:PySem.W.Frag}{tg:Expr}(x:Str)(t:Tok)(it:Addr):Turn P w K tg (Its x) [it] it (fun i h=>h.IsStrIter it "str_ascii_iterator" x t i) where
 mem:=by simp
 obj:=fun i h st b hb=>by
  have e:b=it:=by simpa using hb
  subst e
  obtain⟨o,e,c,d⟩:=st
  exact⟨o,e,fun v z=>by rw[d] at z;cases z⟩
 keep:=fun i h h' st k=>let ⟨o,ho,r⟩:=st;⟨o,k it (by simp) o ho,r⟩
 item:=by
  intro X hP hw hK hc i pins s σ H E I hf st hg
  subst hP hw hK
  have hg':i < x.cps.size:=hg
  obtain⟨f0,f1,f2,f3,f4,f5⟩:=hf it (by simp)
  refine wpAny_pyNext_ascii_item st (c:=x.cps[i]) (by simp[hg']) fun h' st' sb=>?_
  have I1:Inv X pins σ H { s with heap:=h',toks:=s.toks+1 }:=I.turned (t':=s.toks+1) (fun b o hb e=>(sb.2 b hb).trans e) f0 f1 f3 f4 f5
  obtain⟨o,e,c,d⟩:=id st'
  exact⟨_,rfl,go_of (s:={ s with heap:=h',toks:=s.toks+1 }) e c d (by decide) ⟨.str ⟨#[x.cps[i]]⟩,H,I1,⟨_,rfl⟩,⟨rfl,_,by simp[hg'],rfl⟩,st',fun b hb=>(hf b hb).1⟩⟩
 done:=by
  intro X hP hw hK hc i pins s σ H E I hf st hg
  subst hP hw hK
  have hg':x.cps.size≤i:=hg
  obtain⟨f0,f1,f2,f3,f4,f5⟩:=hf it (by simp)
  exact wpAny_pyNext_ascii_end (I.ok.hd hc) st (by simp[hg']) fun h' eb=>⟨rfl,I.turned (t':=s.toks) (fun b o hb e=>eb b o hb e) f0 f1 f3 f4 f5⟩
 self:=fun _ _ _ _ _ st h=>wpAny_pyIter_striter_ascii st h
section
variable {X:Cx}{tg:Expr}
def iStr(tl:TE):TI:=fun σ H R=>tl σ H fun x H1=>∃ z,x=.str z∧z.cps.all (· < 128)=true∧R (Its z) H1
theorem pi_str{l:Expr}{tl:TE}(hl:PE X l tl):PI X tg l (iStr tl):=by
 intro pins s σ H R I h
 refine thn (hl pins s σ H _ I h) fun v s1 ⟨x,H1,I1,r1,q1⟩=>?_
 obtain⟨z,e,ha,q⟩:=q1
 subst e
 obtain⟨t,rfl⟩:=r1
 refine wpAny_pyIter_ascii ha ?_
 refine⟨s1.heap.objs.size,[s1.heap.objs.size],_,_,H1,rfl,I1.kept (t':=s1.toks) fun b o e=>Heap.get?_push_of_some _ e,turn_str z t _,⟨_,Heap.get?_push_size _ rfl,rfl,rfl⟩,fun b hb=>?_,q⟩
 have e:b=s1.heap.objs.size:=by simpa using hb
 subst e
 exact I1.fpOk (Nat.le_refl _) (I1.hok.fresh (Nat.le_refl _))
theorem qi_str{l:Expr}{tl:TE}(hl:QE X l tl):QI X tg l (iStr tl):=⟨pi_str hl.p⟩
def rJoin:V→List V→Hp→VK→Prop:=fun x vs H Q=>∃ z l ys,x=.str z∧vs=[.ref l]∧H l=some (.lst (ys.map V.str))∧(ys.map (·.length)).sum+ys.length*z.length≤16777216∧Q (.str (Txt.join z ys)) H
theorem strs_of:∀{ys:List Str}{us:List Value},Vals (ys.map V.str) us→StrsAre us ys
 | [],_,.nil=>.nil
 | y::ys,_,.cons r t=>by
  obtain⟨k,rfl⟩:=r
  exact .cons y k (strs_of t)
theorem mt_join:MtM X "str.join" rJoin:=by
 intro pins s σ H x vs v us Q I rx rv h
 obtain⟨z,l,ys,rfl,rfl,hH,hz,q⟩:=h
 obtain⟨t,rfl⟩:=rx
 obtain⟨u,rfl,ru⟩:=rv.one
 cases ru
 obtain⟨its,r,p,_⟩:=I.list (SqL.of hH)
 exact join_list p.isList (by simpa using strs_of r) hz fun t' k=>⟨.str (Txt.join z ys),H,I.tok _,⟨_,rfl⟩,q⟩
end
theorem comp_strR{z:Str}{l:Addr}{n:Nat}{js:List Nat}{g:TG}{tt:TT}{te:TE}{σ:St}{H1:Hp}{R:Hp→Prop}(Pv:Nat→List V→Hp→Prop)(h0:Pv 0 [] (upd H1 l (.lst [])))
  (hs:∀ i c acc H,z.cps[i]?=some c→Pv i acc H→g (.str ⟨#[c]⟩) (compSt n js σ) H fun σ2 H2=>tt σ2 H2 fun b H3=>if b=true then te σ2 H3 fun y H4=>H4 l=some (.lst acc)∧acc.length < sizeLine∧Pv (i+1) (acc++[y]) (upd H4 l (.lst (acc++[y]))) else Pv (i+1) acc H3)
  (hd:∀ acc H,Pv z.cps.size acc H→R H) :
  ∃ W:Nat→Nat→List V→Hp→Prop,(∃ m,W 0 m [] (upd H1 l (.lst [])))∧∀ i m acc H,W i m acc H →
   ((Its z).stop i H∧R H)∨((Its z).go i H∧∃ N:List V→Hp→Prop,(∀ acc' H',N acc' H'→∃ m',m' < m∧W (i+1) m' acc' H') ∧
    ∀ x H',(Its z).yld i H x H'→g x (compSt n js σ) H' fun σ2 H2=>tt σ2 H2 fun b H3=>if b=true then te σ2 H3 fun y H4=>H4 l=some (.lst acc)∧acc.length < sizeLine∧N (acc++[y]) (upd H4 l (.lst (acc++[y]))) else N acc H3):=by
 refine⟨fun i m acc H=>m=z.cps.size - i∧i≤z.cps.size∧Pv i acc H,⟨z.cps.size,by simp,Nat.zero_le _,h0⟩,?_⟩
 rintro i m acc H ⟨rfl,hi,p⟩
 by_cases hlt:i < z.cps.size
 ·refine .inr ⟨hlt,Pv (i+1),fun acc' H' p'=>⟨z.cps.size - (i+1),by omega,rfl,hlt,p'⟩,fun x H' y=>?_⟩
  obtain⟨e,c,hc,y⟩:=y
  subst e y
  exact hs i c acc _ hc p
 ·have e:i=z.cps.size:=by omega
  subst e
  exact .inl ⟨Nat.le_refl _,hd acc H p⟩
def LET:Str:=⟨#[97,98,99,100,101,102,103,104,105,106,107,108,109,110,111,112,113,114,115,116,117,118,119,120,121,122]⟩
def lowC(c:Nat):Bool:=decide (97≤c) && decide (c≤122)
theorem let_in:∀ c,c < 128→(!(Builtin.Str.occurrences LET ⟨#[c]⟩ 0 LET.length 1).isEmpty)=lowC c:=by decide +kernel
theorem let_eq:Str.ofString "abcdefghijklmnopqrstuvwxyz" = LET:=by decide +kernel
theorem qe_globS{X:Cx}{x z y:Str}{pos:Pos}(hg:Gl X x)(hm:∃ t,X.mg x=some (.str y t))(e:y=z)(hd:(x == ("__debug__" : Str))=false:=by decide):QE X (.Name x pos) (tC (.str z)):=by
 obtain⟨t,hm⟩:=hm
 subst e
 exact⟨pe_glob hg hm ⟨t,rfl⟩ hd⟩
section
variable {H:Hp}{Q:VK}{z y:Str}{i:Int}
theorem i_ixS{c:Nat}(hz:z.length≤1000)(e:atI z.cps.toList i=some c)(h:Q (.str ⟨#[c]⟩) H):rIxS (.str z) (.int i) H Q:=⟨z,i,c,rfl,rfl,Nat.le_trans hz (by decide),e,h⟩
theorem i_tAndV{ta tb:TE}{σ:St}(h:ta σ H fun x H1=>∃ c,x=.bl c∧Brk c (tb σ H1 Q) (Q (.bl false) H1) .mk .mk):tAndV ta tb σ H Q:=h
end
def sg(z:Str):List Nat:=z.cps.toList
theorem sg_len(z:Str):(sg z).length=z.length:=by unfold sg Str.length;simp
theorem sg_add(a b:Str):sg (a++b)=sg a++sg b:=by
 show (a.cps++b.cps).toList=_
 rw[Array.toList_append]
 rfl
theorem sg_join:∀ cs:List Nat,sg (Txt.join ⟨#[]⟩ (cs.map fun c=>(⟨#[c]⟩:Str)))=cs:=by
 have go:∀(cs:List Nat)(acc:Array Nat),((cs.map fun c=>(⟨#[c]⟩:Str)).foldl (fun acc p=>acc++(#[]:Array Nat)++p.cps) acc).toList=acc.toList++cs:=by
  intro cs
  induction cs with
  | nil=>intro acc;simp
  | cons c r ih =>
   intro acc
   rw[List.map_cons,List.foldl_cons,ih]
   simp
 intro cs
 cases cs with
 | nil=>rfl
 | cons c r=>exact (go r #[c]).trans (by simp)
theorem asc_of{z:Str}(h:∀ c∈sg z,c < 128):z.cps.all (· < 128)=true:=by
 rw[Array.all_eq_true']
 intro c hc
 simpa using h c (Array.mem_toList_iff.mpr hc)
theorem sg_take{α:Type}(f:Nat→α){z:Str}{i c:Nat}(h:z.cps[i]?=some c):((sg z).take (i+1)).map f=((sg z).take i).map f++[f c]:=by
 have h':(sg z)[i]?=some c:=by unfold sg;simpa using h
 obtain⟨hi,e⟩:=List.getElem?_eq_some_iff.mp h'
 rw[List.take_succ_eq_append_getElem hi,List.map_append,e]
 rfl
theorem sg_mem{z:Str}{i c:Nat}(h:z.cps[i]?=some c):c∈sg z:=Array.mem_toList_iff.mpr (Array.mem_of_getElem? h)
theorem sg_size(z:Str):z.cps.size=(sg z).length:=by unfold sg;simp
theorem same_put{H H2:Hp}{l:Addr}{o:HO}(hl:H l=none)(s:Same H H2):Same H (upd H2 l o):=fun b u hb=>by
 rw[upd_ne (fun z=>by rw[z,hl] at hb;cases hb)]
 exact s b u hb
def nameB(z:Str):Bool:=decide (1≤z.length) && (decide (z.length≤8) && (sg z).all lowC)
end L2
namespace Toy
open PySem L2
section
variable {I:List Nat}{q hq:Nat→Bool}{a x x':Nat→Int}{n d:Int}
end
end Toy
namespace L2
open PySem
def Ris(xs:Array Nat):Prop:=xs.toList.Pairwise (· < ·)
theorem Ris.lt{xs:Array Nat}(h:Ris xs){i k:Nat}(hk:k < xs.size)(hik:i < k):xs.getD i 0 < xs.getD k 0:=by
 have hi:i < xs.size:=Nat.lt_trans hik hk
 have:=List.pairwise_iff_getElem.mp h i k (by simpa using hi) (by simpa using hk) hik
 simpa [Array.getD,hi,hk] using this
theorem below_go{xs:Array Nat}(h:Ris xs)(j:Nat):∀(f lo hi:Nat),hi - lo≤f→lo≤hi→hi≤xs.size→(∀ i,i < lo→xs.getD i 0 < j)→(∀ i,hi≤i→i < xs.size→j≤xs.getD i 0) →
  (SetTable.below.go xs j f lo hi≤xs.size∧(∀ i,i < SetTable.below.go xs j f lo hi→xs.getD i 0 < j)∧∀ i,SetTable.below.go xs j f lo hi≤i→i < xs.size→j≤xs.getD i 0)
 | 0,lo,hi,hf,h1,h2,a,b=>by
  have:lo=hi:=by omega
  subst this
  show lo≤xs.size∧_
  exact⟨h2,a,b⟩
 | f+1,lo,hi,hf,h1,h2,a,b=>by
  unfold SetTable.below.go
  by_cases c:lo < hi
  ·rw[if_pos c]
   have hm:(lo+hi) / 2 < xs.size:=by omega
   have e:xs.getD ((lo+hi) / 2) j=xs.getD ((lo+hi) / 2) 0:=by simp[Array.getD,hm]
   show (if xs.getD ((lo+hi) / 2) j < j then _ else _)≤xs.size∧_
   by_cases d:xs.getD ((lo+hi) / 2) j < j
   ·simp only[if_pos d]
    refine below_go h j f _ hi (by omega) (by omega) h2 (fun i hi'=>?_) b
    rw[e] at d
    by_cases z:i=(lo+hi) / 2
    ·rw[z];exact d
    ·exact Nat.lt_trans (h.lt hm (by omega)) d
   ·simp only[if_neg d]
    refine below_go h j f lo _ (by omega) (by omega) (by omega) a fun i hi' hs=>?_
    rw[e] at d
    by_cases z:i=(lo+hi) / 2
    ·rw[z];omega
    ·have:=h.lt hs (by omega:(lo+hi) / 2 < i)
     omega
  ·rw[if_neg c]
   have:lo=hi:=by omega
   subst this
   exact⟨h2,a,b⟩
theorem below_ok{xs:Array Nat}(h:Ris xs)(j:Nat):SetTable.below xs j≤xs.size∧(∀ i,i < SetTable.below xs j→xs.getD i 0 < j)∧∀ i,SetTable.below xs j≤i→i < xs.size→j≤xs.getD i 0 :=
 below_go h j xs.size 0 xs.size (by omega) (by omega) (by omega) (fun i hi=>by omega) fun i h1 h2=>by omega
def stand(xs:Array Nat):Nat→Nat
 | 0=>0
 | i+1=>xs.getD i 0+1
theorem ins_list{α:Type}(xs:Array α)(p:Nat)(x:α):(SetTable.insertAt xs p x).toList=xs.toList.take p++x::xs.toList.drop p:=by
 unfold SetTable.insertAt
 simp
 exact List.take_of_length_le (by rw[List.length_drop,Array.length_toList];exact Nat.le_refl _)
theorem Ris.put{xs:Array Nat}(h:Ris xs){j:Nat}(hj:xs[SetTable.below xs j]?≠some j):Ris (SetTable.insertAt xs (SetTable.below xs j) j):=by
 obtain⟨h1,h2,h3⟩:=below_ok h j
 generalize SetTable.below xs j=p at h1 h2 h3 hj
 have gd:∀ i (hi:i < xs.size),xs.toList[i]'(by simpa using hi)=xs.getD i 0:=fun i hi=>by simp[Array.getD,hi]
 have up:∀ i,p≤i→i < xs.size→j < xs.getD i 0:=fun i a b=>by
  have c:=h3 i a b
  by_cases z:i=p
  ·subst z
   have:xs[i]?=some (xs.getD i 0):=by simp[Array.getD,b]
   rw[this] at hj
   by_cases y:xs.getD i 0=j
   ·exact absurd (by rw[y]) hj
   ·omega
  ·have:=h.lt b (by omega:p < i)
   have:=h3 p (Nat.le_refl _) (by omega)
   omega
 unfold Ris
 rw[ins_list,List.pairwise_append]
 have hd:∀ b∈xs.toList.drop p,j < b:=fun b hb=>by
  obtain⟨i,hi,rfl⟩:=List.getElem_of_mem hb
  rw[List.length_drop,Array.length_toList] at hi
  rw[List.getElem_drop,gd _ (by omega)]
  exact up _ (by omega) (by omega)
 have ht:∀ a∈xs.toList.take p,a < j:=fun a ha=>by
  obtain⟨i,hi,rfl⟩:=List.getElem_of_mem ha
  rw[List.length_take,Array.length_toList] at hi
  rw[List.getElem_take,gd _ (by omega)]
  exact h2 _ (by omega)
 refine⟨h.sublist (List.take_sublist _ _),List.pairwise_cons.mpr ⟨hd,h.sublist (List.drop_sublist _ _)⟩,fun a ha b hb=>?_⟩
 rcases List.mem_cons.mp hb with rfl | hb
 ·exact ht a ha
 ·exact Nat.lt_trans (ht a ha) (hd b hb)
structure TabOk(L:Bool)(t:SetTable):Prop where
 ris:Ris t.place
 dum:t.dummies=#[]
 led:t.led=L
theorem TabOk.fresh{L:Bool}{f m:Nat}:TabOk L (SetTable.fresh f m L):=⟨List.Pairwise.nil,rfl,rfl⟩
theorem TabOk.plain{L:Bool}{t:SetTable}(h:TabOk L t):TabOk L { t with plain:=false }:=⟨h.ris,h.dum,h.led⟩
theorem TabOk.stand{L:Bool}{t:SetTable}(h:TabOk L t)(n:Nat):TabOk L (t.standIn n):=by
 refine⟨?_,rfl,h.led⟩
 show (Array.range n).toList.Pairwise (· < ·)
 rw[Array.toList_range]
 exact List.pairwise_lt_range
theorem has_nil(j:Nat):SetTable.has #[] j=false:=by
 unfold SetTable.has
 simp
theorem probe_free{t:SetTable}(hd:t.dummies=#[])(hash:Nat→Int)(h:Int):∀(f:Nat)(p:SetTable.Probe)(j:Nat)(d:Option Nat),p.dummy=none→SetTable.probe.go t hash h f p=some (.empty j d)→d=none∧t.slot j=.empty
 | 0,p,j,d,_,e=>by cases e
 | f+1,p,j,d,hp,e=>by
  unfold SetTable.probe.go at e
  have nd:t.slot p.j≠.dummy:=fun z=>by
   unfold SetTable.slot at z
   rw[hd,has_nil] at z
   dsimp only at z
   split at z<;>cases z
  cases hs:t.slot p.j with
  | empty =>
   rw[hs] at e
   cases e
   exact⟨hp,hs⟩
  | dummy=>exact absurd hs nd
  | live i =>
   rw[hs] at e
   dsimp only at e
   have ha:(t.advance p).dummy=none:=by
    unfold SetTable.advance
    split<;>exact hp
   split at e
   ·cases e
   ·exact probe_free hd hash h f _ j d ha e
theorem TabOk.new{L:Bool}{t:SetTable}(h:TabOk L t)(es:Array (Int×Value))(hh:Int)(x:Value):TabOk L (layNew t es hh x).2.1:=by
 unfold layNew
 cases e:t.freeSlot hh with
 | none=>exact h.stand _
 | some q =>
  obtain⟨slot,wd⟩:=q
  dsimp only
  have hs:t.slot slot=.empty:=by
   unfold SetTable.freeSlot at e
   split at e
   ·rename_i j d hm
    obtain⟨hd,h1⟩:=probe_free h.dum _ hh _ _ j d rfl hm
    subst hd
    cases e
    exact h1
   ·cases e
  have hp:TabOk L (t.put slot).1:=by
   refine⟨h.ris.put fun z=>?_,?_,h.led⟩
   ·unfold SetTable.slot at hs
    simp[z] at hs
   ·show (if SetTable.has t.dummies slot=true then _ else t.dummies)=#[]
    rw[h.dum,has_nil]
    rfl
  unfold SetTable.orStandIn
  split
  ·exact hp
  ·exact hp.stand _
def keyOf:Int×Value→Int
 | (_,.int k _)=>k
 | _=>0
abbrev setO(es:Array (Int×Value))(ep:Nat)(t:SetTable):Obj:={ cls:=.type "set", dict:=none,data:=.set es ep t }
structure SetAt(h:Heap)(S:Addr)(L:Bool)(es:Array (Int×Value))(ep:Nat)(t:SetTable):Prop where
 at':h.get? S=some (setO es ep t)
 sh:∀ e∈es.toList,∃ k tk,e=(hashInt k,Value.int k tk)
 nd:(es.toList.map keyOf).Nodup
 sz:es.size < 100
 fit:t.fits es.size=true
 tab:TabOk L t
section
variable {prog:Program}{w:World}{A:Around}{E:Value→Shared→Prop}{s:Shared}{S:Addr}{L:Bool}{es:Array (Int×Value)}{ep:Nat}{t:SetTable}
end
end L2
namespace L2
open PySem
section
variable {prog:Program}{w:World}{A:Around}{E:Value→Shared→Prop}{s:Shared}
abbrev byT(w:World):Bool:=w.params.followText "set-order"
end
end L2
namespace L2
open PySem
section
variable {prog:Program}{w:World}{A:Around}{E:Value→Shared→Prop}{s:Shared}
variable {S:Addr}{es:Array (Int×Value)}{ep:Nat}{t:SetTable}
theorem SetAt.drawn{Q:Bool→Shared→Prop}(x:SetAt s.heap S (!byT w) es ep t)(h:Q (!byT w && (!t.plain && decide (es.size > 1))) s):wpAny (model prog w) A (setDrawn S) Q E s:=by
 unfold setDrawn
 refine wpAny_bind (wpAny_setState_of x.at' rfl x.fit (wpAny_bind ?_))
 exact wpAny_bind (wpAny_askSetting (wpAny_pure (wpAny_pure h)))
end
end L2
namespace L2
open PySem
section
variable {prog:Program}{w:World}{A:Around}{E:Value→Shared→Prop}{s:Shared}{S:Addr}{es:Array (Int×Value)}{ep:Nat}{t:SetTable}
end
end L2
namespace L2
open PySem
section
variable {prog:Program}{w:World}{A:Around}{E:Value→Shared→Prop}{s:Shared}{S:Addr}{es:Array (Int×Value)}{ep:Nat}{t:SetTable}
end
end L2
namespace L2
open PySem
section
variable {X:Cx}{e:Expr}{te:TE}{p1 p2 p3 p4:Pos}
end
end L2
namespace L2
open PySem PySem.Spec PyProof.Rows
section
variable {X:Cx}{e:Expr}{te:TE}{p1 p2 p3 p4:Pos}
end
end L2
namespace L2
open PySem PyProof.Rows PySem.SeqAt
section
variable {X:Cx}
end
end L2
namespace L2
open PySem PyProof.Rows PySem.SeqAt
section
variable {X:Cx}
def rInT:R2:=fun x y H Q=>∃(a p:Addr)(ts:List Int)(js:List Nat)(f:Nat→Addr)(g:Nat→List Int),x=.ref a∧y=.ref p∧H a=some (.tup (ts.map V.int))∧H p=some (.lst (js.map fun i=>V.ref (f i)))∧(∀ i∈js,H (f i)=some (.tup ((g i).map V.int)))∧Q (.bl (js.any fun i=>decide (g i=ts))) H
theorem cmp_tI{k:Nat}(a b:List Int):Cmp (k+1) (.tup (a.map Dt.int)) (.tup (b.map Dt.int)):=by
 unfold Cmp
 intro j d e h1 h2
 rw[List.getElem?_map] at h1 h2
 obtain⟨x,_,rfl⟩:=Option.map_eq_some_iff.mp h1
 obtain⟨y,_,rfl⟩:=Option.map_eq_some_iff.mp h2
 unfold Cmp
 trivial
theorem vals_refs:∀{l:List Addr}{us:List Value},Vals (l.map V.ref) us→us=l.map Value.ref
 | [],_,.nil=>rfl
 | a::l,_,.cons r t=>by
  cases r
  rw[List.map_cons,vals_refs t]
open Classical in
theorem op_inT(hu:X.A.units+64 < cLine):OpR X (compareOp .In) rInT:=by
 intro pins s σ H x y v u Q I rx ry h
 obtain⟨a,p,ts,js,f,g,rfl,rfl,ha,hp,hf,q⟩:=h
 cases rx
 cases ry
 obtain⟨its,r,pl,hz⟩:=I.list (SqL.of hp)
 have e:js.map (fun i=>V.ref (f i))=(js.map f).map V.ref:=by rw[List.map_map];rfl
 rw[e] at r
 have eu:=vals_refs r
 subst eu
 have eb:∀ i∈js,decide (Dt.tup ((g i).map Dt.int)=Dt.tup (ts.map Dt.int))=decide (g i=ts):=fun i _=>by
  rw[decide_eq_decide]
  exact⟨fun z=>(List.map_inj_right fun x y e=>Dt.int.inj e).mp (Dt.tup.inj z),fun z=>by rw[z]⟩
 let G:Value→Bool:=fun u=>match u with
  | .ref b=>decide (H b=some (.tup (ts.map V.int)))
  | _=>false
 have eG:∀ i∈js,G (.ref (f i))=decide (g i=ts):=fun i hi=>by
  show decide (H (f i)=some (.tup (ts.map V.int)))=_
  rw[hf i hi,decide_eq_decide]
  refine⟨fun z=>?_,fun z=>by rw[z]⟩
  exact (List.map_inj_right fun x y e=>V.int.inj e).mp (HO.tup.inj (Option.some.inj z))
 refine SeqAt.in_listAt G pl.isList (fun w hw=>?_) ⟨.bl _,H,I,rfl,?_⟩
 ·have hw:w∈(js.map f).map Value.ref:=by simpa using hw
  rw[List.map_map] at hw
  obtain⟨i,hi,rfl⟩:=List.mem_map.mp hw
  show SeqAt.EqAt _ _ (Value.ref (f i)) _ (G (.ref (f i)))
  rw[eG i hi,← eb i hi]
  have hin:X.A.in1.units=X.A.units+1:=rfl
  exact eq_den I 7 _ _ _ _ _ _ _ (Toy.den_tup (hf i hi) (Toy.ints_dens _)) (Toy.den_tup ha (Toy.ints_dens _)) (cmp_tI _ _) (by omega) rfl rfl
 ·have e2:((js.map f).map Value.ref).toArray.any G=js.any fun i=>decide (g i=ts):=by
   rw[List.any_toArray,List.any_map,List.any_map]
   rw[Bool.eq_iff_iff,List.any_eq_true,List.any_eq_true]
   constructor
   ·rintro ⟨i,hi,h⟩
    exact⟨i,hi,by rw[← eG i hi];exact h⟩
   ·rintro ⟨i,hi,h⟩
    exact⟨i,hi,by show G (.ref (f i))=true;rw[eG i hi];exact h⟩
  rw[e2]
  exact q
end
end L2
namespace HT
open PySem PySem.Spec PyProof.Rows
section
variable {prog:Program}{w:World}{A:Around}{E:Value→Shared→Prop}{s:Shared}
end
end HT
namespace L2
open PySem PySem.Spec PyProof.Rows
section
variable {X:Cx}
end
end L2
namespace Z3
open PySem PySem.Spec PyProof.Rows
theorem tc(a b c:Value):checkTypeCall "zip" ⟨[a,b,c],[]⟩=pure ():=by kernel_rfl
theorem ac(a b c d:Value):argsOk "object.__init__" ⟨[a,b,c,d],[]⟩:=by
 unfold argsOk
 rw[signature?_of (id := "object.__init__")
  (n:=['_','_','t','i','n','i','_','_'])
  (o:=['t','c','e','j','b','o'])
  (by kernel_rfl) PySem.F.owner_object]
 kernel_rfl
structure Ap(n l1 l2 l3:Nat):Prop where
 a1:l1 < n
 a2:l2 < n
 a3:l3 < n
section
variable {prog:Program}{w:World}{A:Around}{E:Value→Shared→Prop}{s:Shared}
abbrev hp1(h:Heap)(l1:Addr):Heap:=h.push { cls:=.type "list_iterator", data:=.fields #[.ref l1,.int 0 0] }
abbrev hp2(h:Heap)(l1 l2:Addr):Heap:=hp1 (hp1 h l1) l2
abbrev hp3(h:Heap)(l1 l2 l3:Addr):Heap:=hp1 (hp2 h l1 l2) l3
abbrev hp4(h:Heap)(l1 l2 l3:Addr):Heap:=(hp3 h l1 l2 l3).push { cls:=.type "tuple", data:=.seq #[.ref h.objs.size,.ref (hp1 h l1).objs.size,.ref (hp2 h l1 l2).objs.size] }
end
end Z3
namespace L2
open PySem PySem.Spec PyProof.Rows Z3
section
variable {X:Cx}
end
end L2
namespace L2
open PySem PySem.Spec PyProof.Rows
end L2
namespace ZT
open PySem PySem.Spec PyProof.Rows
theorem tc(a b:Value):checkTypeCall "zip" ⟨[a,b],[]⟩=pure ():=by kernel_rfl
theorem ac(a b d:Value):argsOk "object.__init__" ⟨[a,b,d],[]⟩:=by
 unfold argsOk
 rw[signature?_of (id := "object.__init__")
  (n:=['_','_','t','i','n','i','_','_'])
  (o:=['t','c','e','j','b','o'])
  (by kernel_rfl) PySem.F.owner_object]
 kernel_rfl
structure Ap(n l1 l2:Nat):Prop where
 a1:l1 < n
 a2:l2 < n
section
variable {prog:Program}{w:World}{A:Around}{E:Value→Shared→Prop}{s:Shared}
abbrev hp1(h:Heap)(l1:Addr):Heap:=h.push { cls:=.type "tuple_iterator", data:=.fields #[.ref l1,.int 0 0] }
abbrev hp2(h:Heap)(l1 l2:Addr):Heap:=hp1 (hp1 h l1) l2
abbrev hp4(h:Heap)(l1 l2:Addr):Heap:=(hp2 h l1 l2).push { cls:=.type "tuple", data:=.seq #[.ref h.objs.size,.ref (hp1 h l1).objs.size] }
end
end ZT
namespace L2
open PySem PySem.Spec PyProof.Rows ZT
section
variable {X:Cx}
end
end L2
namespace L2
open PySem PySem.Spec PyProof.Rows
end L2
namespace L2
open PySem PySem.Spec PyProof.Rows
def tNo:L2.TS:=fun _ _ _=>False
theorem ps_no{X:Cx}{st:Stmt}:PS X st tNo:=fun _ _ _ _ _ _ h=>h.elim
theorem qs_no{X:Cx}{st:Stmt}:QS X st tNo:=⟨ps_no⟩
end L2
namespace L2
open PySem PySem.Spec PyProof.Rows
theorem qe_iS{X:Cx}{a b:Expr}{ta tb:TE}{pos:Pos}(ha:QE X a ta)(hb:QE X b tb)(hs:PlainIx b:=by exact fun _ _=>rfl):QE X (.Subscript a b pos) (tOp rIxF ta tb):=qe_ix ix_seqA ha hb hs
section
variable {X:Cx}{elt iter tg:Expr}{ifs:List Expr}{scope:Scope}{pos spos py:Pos}{wi:TI}{g:TG}{tt:TT}{te:TE}
theorem qe_cp(own:List Str)(fr:List (Str×Nat))(hi:QI X tg iter wi)
  (hgx:GExt g own.length) (hB:∀ cl C fp s2 H2,QG (X.comp (own++fr.map (·.1)) scope cl C fp s2 H2) tg g∧QF (X.comp (own++fr.map (·.1)) scope cl C fp s2 H2) ifs tt∧QE (X.comp (own++fr.map (·.1)) scope cl C fp s2 H2) elt te) (hc:X.calm=true:=by rfl)
  (hkind:scope.kind=.function:=by rfl) (hcell:∀ y∈scope.names,y.2≠.cell:=by decide +kernel) (hnames:∀ y∈scope.names,y.2=.local→scope.names.lookup y.1=some .local:=by decide +kernel)
  (hfree:∀ y∈scope.names,y.2=.free→X.env.kindOf y.1=some .cell∨X.env.kindOf y.1=some .free:=by exact free_of (by rfl))
  (hfr:∀ p∈fr,X.N[p.2]?=some p.1∧(X.env.kindOf p.1=some .cell∨X.env.kindOf p.1=some .free)∧(p.1,NameKind.free)∈scope.names∧((relabel scope X.env).names.lookup p.1=some .cell∨(relabel scope X.env).names.lookup p.1=some .free):=by exact fr_of (by rfl))
  (hs:∀ x,foldedSetIterable iter X.env x=pure x:=by intro _;rfl):QE X (.ListComp elt [⟨tg,iter,ifs,0⟩] scope pos) (tComp own.length (fr.map (·.2)) wi g tt te):=qe_comp own fr hc hi hgx hB hkind hcell hnames hfree hfr hs
end
section
variable {X:Cx}{e:Expr}{es:List Expr}{te:TE}{t:TA}{pos p:Pos}{x:Str}
theorem qs_sL(i:Nat){pos':Pos}(hN:X.N.Nodup)(he:QE X e te)(hi:X.N[i]?=some x:=by rfl)(hx:Loc X.env.scope x:=by exact Or.inl rfl)(hs:swapsWith e (some (.Name x pos')) pos.line X.env=pure false:=by rfl)(hf:X.fn x=true∨X.env.scope.names.lookup x=some .local:=by first | exact .inl rfl | exact .inr rfl | assumption) :
  QS X (.Assign [.Name x pos'] e pos) (tAsg te (gName i)):=qs_set hN hi hx he hs hf
theorem qe_g{k:Nat}{ps:List Str}{sp:Sp}(d:DefOk X.prog X.w X.K X.mg X.base CX0 k x ps sp)(ha:QA X (e::es) t)(hr:Room k X.A:=by exact Room.le (by assumption))(hg:Gl X x:=by rfl)
  (hdb:(x == ("__debug__" : Str))=false:=by decide) (he:starEach (e::es) X.env=(false,eval e X.env)::starEach es X.env:=by rfl) (hpl:(backTo pos (starEach es X.env)).any (·.1)=false:=by rfl) :
  QE X (.Call (.Name x p) (e::es) [] pos) (tD sp E0 t):=qe_d d hr pass0 hg ha hdb he hpl
end
section
variable {X:Cx}{a b c:Expr}{ta tb tc:TE}
theorem qa_1(ha:QE X a ta)(h1:starEach [a] X.env=(false,eval a X.env)::starEach [] X.env:=by rfl):QA X [a] (tCons ta tNil):=qa_cons ha qa_nil h1
theorem qa_2(ha:QE X a ta)(hb:QE X b tb)(h1:starEach [a,b] X.env=(false,eval a X.env)::starEach [b] X.env:=by rfl)(h2:starEach [b] X.env=(false,eval b X.env)::starEach [] X.env:=by rfl):QA X [a,b] (tCons ta (tCons tb tNil)):=qa_cons ha (qa_1 hb h2) h1
theorem qa_3(ha:QE X a ta)(hb:QE X b tb)(hc:QE X c tc)(h1:starEach [a,b,c] X.env=(false,eval a X.env)::starEach [b,c] X.env:=by rfl)(h2:starEach [b,c] X.env=(false,eval b X.env)::starEach [c] X.env:=by rfl)(h3:starEach [c] X.env=(false,eval c X.env)::starEach [] X.env:=by rfl):QA X [a,b,c] (tCons ta (tCons tb (tCons tc tNil))):=qa_cons ha (qa_2 hb hc h2 h3) h1
end
end L2
namespace L2
open PySem PySem.Spec PyProof.Rows
section
variable {κ:Type}[DecidableEq κ]
def valV(kvs:List (κ×V))(k:κ):Option V:=(kvs.find? fun kv=>decide (kv.1=k)).map (·.2)
def putK(kvs:List (κ×V))(k:κ)(v:V):List (κ×V) :=
 if (kvs.any fun kv=>decide (kv.1=k))=true then kvs.map (fun kv=>if kv.1=k then (kv.1,v) else kv) else kvs++[(k,v)]
def dropK(kvs:List (κ×V))(k:κ):List (κ×V):=kvs.filter fun kv=>decide (kv.1≠k)
theorem valV_pos{p:κ×V}{r:List (κ×V)}{k:κ}(e:p.1=k):valV (p::r) k=some p.2:=by simp[valV,List.find?_cons,e]
theorem valV_neg{p:κ×V}{r:List (κ×V)}{k:κ}(e:¬ p.1=k):valV (p::r) k=valV r k:=by simp[valV,List.find?_cons,e]
theorem valV_any(k:κ):∀ kvs:List (κ×V),(kvs.any fun kv=>decide (kv.1=k))=(valV kvs k).isSome
 | []=>rfl
 | p::r=>by
  rw[List.any_cons]
  by_cases e:p.1=k
  ·simp only[valV_pos e,decide_eq_true e,Bool.true_or,Option.isSome_some]
  ·rw[valV_neg e,decide_eq_false e,Bool.false_or];exact valV_any k r
theorem valV_map(k j:κ)(y:V):∀ kvs:List (κ×V),valV (kvs.map fun kv=>if kv.1=k then (kv.1,y) else kv) j=(valV kvs j).map fun x=>if j=k then y else x
 | []=>rfl
 | p::r=>by
  have ih:=valV_map k j y r
  rw[List.map_cons]
  by_cases h:p.1=k
  ·rw[if_pos h]
   by_cases e:p.1=j
   ·rw[valV_pos (p:=(p.1,y)) e,valV_pos e,Option.map_some,if_pos (e.symm.trans h)]
   ·rw[valV_neg (p:=(p.1,y)) e,valV_neg e,ih]
  ·rw[if_neg h]
   by_cases e:p.1=j
   ·rw[valV_pos (p:=p) e,valV_pos e,Option.map_some,if_neg (fun z=>h (e.trans z))]
   ·rw[valV_neg (p:=p) e,valV_neg e,ih]
theorem valV_snoc(k j:κ)(y:V):∀ kvs:List (κ×V),valV kvs k=none→valV (kvs++[(k,y)]) j=if j=k then some y else valV kvs j
 | [],_=>by
  by_cases e:k=j
  ·rw[if_pos e.symm];exact valV_pos (p:=(k,y)) e
  ·rw[if_neg (fun z=>e z.symm)];exact valV_neg (p:=(k,y)) e
 | p::r,hn=>by
  rw[List.cons_append]
  have hk:¬ p.1=k:=fun z=>by rw[valV_pos z] at hn;cases hn
  rw[valV_neg hk] at hn
  have ih:=valV_snoc k j y r hn
  by_cases e:p.1=j
  ·rw[valV_pos e,valV_pos e,if_neg (fun z=>hk (e.trans z))]
  ·rw[valV_neg e,valV_neg e,ih]
theorem valV_put(kvs:List (κ×V))(k j:κ)(y:V):valV (putK kvs k y) j=if j=k then some y else valV kvs j:=by
 unfold putK
 by_cases a:(kvs.any fun kv=>decide (kv.1=k))=true
 ·rw[if_pos a,valV_map]
  rw[valV_any] at a
  by_cases e:j=k
  ·obtain⟨x,hx⟩:=Option.isSome_iff_exists.mp a
   rw[if_pos e,e,hx,Option.map_some,if_pos rfl]
  ·rw[if_neg e]
   cases valV kvs j with
   | none=>rfl
   | some x=>rw[Option.map_some,if_neg e]
 ·rw[if_neg a]
  refine valV_snoc k j y kvs ?_
  rw[valV_any] at a
  cases q:valV kvs k with
  | none=>rfl
  | some x=>rw[q] at a;exact (a rfl).elim
theorem length_putK(kvs:List (κ×V))(k:κ)(v:V):(putK kvs k v).length≤kvs.length+1:=by
 unfold putK
 split
 ·rw[List.length_map];omega
 ·rw[List.length_append,List.length_cons,List.length_nil];omega
theorem putK_new{kvs:List (κ×V)}{k:κ}(v:V)(h:valV kvs k=none):putK kvs k v=kvs++[(k,v)]:=by
 unfold putK
 rw[valV_any,h]
 exact if_neg (by decide)
theorem RelO.isSome_eq{o:Option V}{u:Option Value}(r:RelO o u):o.isSome=u.isSome:=by
 cases o with
 | none=>cases u with
  | none=>rfl
  | some _=>exact (show False from r).elim
 | some _=>cases u with
  | none=>exact (show False from r).elim
  | some _=>rfl
theorem RelO.getD{o:Option V}{u:Option Value}{d:V}{d':Value}(r:RelO o u)(rd:RelV d d'):RelV (o.getD d) (u.getD d'):=by
 cases o with
 | none=>cases u with
  | none=>exact rd
  | some _=>exact (show False from r).elim
 | some _=>cases u with
  | none=>exact (show False from r).elim
  | some _=>exact r
theorem KV.val{kvs:List (κ×V)}{vs:List (κ×Value)}(r:KV kvs vs)(k:κ):RelO (valV kvs k) (valueAt vs k):=by
 unfold KV at r
 induction r with
 | nil=>exact True.intro
 | @cons p q ps qs h t ih =>
  obtain⟨h1,h2⟩:=h
  by_cases e:p.1=k
  ·have e':q.1=k:=h1.symm.trans e
   have b:valueAt (q::qs) k=some q.2:=by simp[valueAt,List.find?_cons,e']
   rw[valV_pos e,b];exact h2
  ·have e':¬ q.1=k:=fun z=>e (h1.trans z)
   have b:valueAt (q::qs) k=valueAt qs k:=by simp[valueAt,List.find?_cons,e']
   rw[valV_neg e,b];exact ih
theorem KV.any{kvs:List (κ×V)}{vs:List (κ×Value)}(r:KV kvs vs)(k:κ):(kvs.any fun kv=>decide (kv.1=k))=vs.any fun kv=>decide (kv.1=k):=by
 unfold KV at r
 induction r with
 | nil=>rfl
 | cons h t ih=>rw[List.any_cons,List.any_cons,ih,h.1]
theorem KV.repl{kvs:List (κ×V)}{vs:List (κ×Value)}(r:KV kvs vs)(k:κ){y:V}{u:Value}(ry:RelV y u) :
  KV (kvs.map fun kv=>if kv.1=k then (kv.1,y) else kv) (vs.map fun kv=>if kv.1=k then (kv.1,u) else kv):=by
 unfold KV at r ⊢
 induction r with
 | nil=>exact .nil
 | @cons p q ps qs h t ih =>
  rw[List.map_cons,List.map_cons]
  refine .cons ?_ ih
  obtain⟨h1,h2⟩:=h
  by_cases e:p.1=k
  ·rw[if_pos e,if_pos (h1.symm.trans e)];exact⟨h1,ry⟩
  ·rw[if_neg e,if_neg (fun z=>e (h1.trans z))];exact⟨h1,h2⟩
theorem KV.put{kvs:List (κ×V)}{vs:List (κ×Value)}(r:KV kvs vs)(k:κ){y:V}{u:Value}(ry:RelV y u):KV (putK kvs k y) (stored vs k u):=by
 unfold putK stored
 rw[r.any k]
 by_cases e:(vs.any fun kv=>decide (kv.1=k))=true
 ·rw[if_pos e,if_pos e];exact r.repl k ry
 ·rw[if_neg e,if_neg e];exact Paired.snoc r ⟨rfl,ry⟩
theorem KV.drop{kvs:List (κ×V)}{vs:List (κ×Value)}(r:KV kvs vs)(k:κ):KV (dropK kvs k) (without vs k):=by
 unfold KV at r ⊢
 unfold dropK without
 induction r with
 | nil=>exact .nil
 | @cons p q ps qs h t ih =>
  obtain⟨h1,h2⟩:=h
  rw[List.filter_cons,List.filter_cons]
  by_cases e:p.1=k
  ·have a:¬ decide (p.1≠k)=true:=by simp[e]
   have b:¬ decide (q.1≠k)=true:=by simp[h1.symm.trans e]
   rw[if_neg a,if_neg b];exact ih
  ·have e':¬ q.1=k:=fun z=>e (h1.trans z)
   have a:decide (p.1≠k)=true:=by simp[e]
   have b:decide (q.1≠k)=true:=by simp[e']
   rw[if_pos a,if_pos b];exact .cons ⟨h1,h2⟩ ih
theorem KV.length{kvs:List (κ×V)}{vs:List (κ×Value)}(r:KV kvs vs):kvs.length=vs.length:=Paired.length r
end
theorem kV_is{P:Program}{w:World}{k:Key}{u:Value}(r:RelV (kV k) u):(mixKind P w).is k u=true:=by
 cases k with
 | inl i=>obtain⟨t,e⟩:=(show ∃ t,u=Value.int i t from r);subst e;exact mixKind_int P w i t
 | inr x=>obtain⟨t,e⟩:=(show ∃ t,u=Value.str x t from r);subst e;exact mixKind_str P w x t
theorem items_are{P:Program}{w:World}:∀{ks:List Key}{us:List Value},Vals (ks.map kV) us→ItemsAre (mixKind P w) ks us
 | [],_,r=>by rw[List.map_nil] at r;cases r;exact .nil
 | k::ks,_,r=>by
  rw[List.map_cons] at r
  cases r with
  | cons h t=>exact .cons (kV_is h) (items_are t)
abbrev KT(H:Hp):List (List Key×V)→List (List Key×Addr×Value)→Prop:=Paired fun p q=>p.1=q.1∧H q.2.1=some (.tup (p.1.map kV))∧RelV p.2 q.2.2
theorem KT.val{H:Hp}{kvs:List (List Key×V)}{xs:List (List Key×Addr×Value)}(r:KT H kvs xs)(k:List Key):RelO (valV kvs k) ((atKey xs k).map (·.2)):=by
 induction r with
 | nil=>exact True.intro
 | @cons p q ps qs h t ih =>
  obtain⟨h1,_,h2⟩:=h
  by_cases e:p.1=k
  ·have e':q.1=k:=h1.symm.trans e
   have b:atKey (q::qs) k=some q.2:=by simp[atKey,List.find?_cons,e']
   rw[valV_pos e,b];exact h2
  ·have e':¬ q.1=k:=fun z=>e (h1.trans z)
   have b:atKey (q::qs) k=atKey qs k:=by simp[atKey,List.find?_cons,e']
   rw[valV_neg e,b];exact ih
theorem KT.repl{H:Hp}{kvs:List (List Key×V)}{xs:List (List Key×Addr×Value)}(r:KT H kvs xs)(k:List Key){y:V}{u:Value}(ry:RelV y u) :
  KT H (kvs.map fun kv=>if kv.1=k then (kv.1,y) else kv) (xs.map (putAt k u)):=by
 induction r with
 | nil=>exact .nil
 | @cons p q ps qs h t ih =>
  rw[List.map_cons,List.map_cons]
  refine .cons ?_ ih
  obtain⟨h1,h2,h3⟩:=h
  unfold putAt
  by_cases e:p.1=k
  ·rw[if_pos e,if_pos (h1.symm.trans e)];exact⟨h1,h2,ry⟩
  ·rw[if_neg e,if_neg (fun z=>e (h1.trans z))];exact⟨h1,h2,h3⟩
theorem KT.put{H:Hp}{kvs:List (List Key×V)}{xs:List (List Key×Addr×Value)}(r:KT H kvs xs)(k:List Key){b:Addr}{y:V}{u:Value}(hb:H b=some (.tup (k.map kV)))(ry:RelV y u) :
  KT H (putK kvs k y) (storedH xs k b u):=by
 have e:(kvs.any fun kv=>decide (kv.1=k))=(atKey xs k).isSome:=by
  rw[valV_any,(r.val k).isSome_eq,Option.isSome_map]
 unfold putK storedH
 rw[e]
 by_cases q:(atKey xs k).isSome=true
 ·rw[if_pos q,if_pos q];exact r.repl k ry
 ·rw[if_neg q,if_neg q];exact Paired.snoc r ⟨rfl,hb,ry⟩
theorem KT.keeps{H H':Hp}{kvs:List (List Key×V)}{xs:List (List Key×Addr×Value)}(r:KT H kvs xs)(ht:∀ b ys,H b=some (.tup ys)→H' b=some (.tup ys)):KT H' kvs xs :=
 Paired.mapP r fun _ _ z=>⟨z.1,ht _ _ z.2.1,z.2.2⟩
section
variable {P:Program}{w:World}{H:Hp}{h:Heap}{a:Addr}
theorem rd_of{u:HO}(ok:HOk P w H h)(e:Rd H a u):ObjOk P w H h a u:=e.ok ok
theorem dk_rd{kvs:List (Key×V)}(ok:HOk P w H h)(e:Rd H a (.dK kvs)):kvs.length≤sizeLine∧(a == sysModules)=false∧∃ vs,KV kvs vs∧h.DictOf (mixKind P w) a vs :=
 show ObjOk P w H h a (.dK kvs) from rd_of ok e
theorem dk_of{kvs:List (Key×V)}(ok:HOk P w H h)(e:H a=some (.dK kvs)):kvs.length≤sizeLine∧(a == sysModules)=false∧∃ vs,KV kvs vs∧h.DictOf (mixKind P w) a vs:=dk_rd ok (.inl e)
theorem key_of{ks:List Key}(ok:HOk P w H h)(e:H a=some (.tup (ks.map kV))):(tupleKind (mixKind P w)).is h ks a:=by
 obtain⟨_,its,r,o,h1,h2,n,h3⟩:=(show ObjOk P w H h a (.tup (ks.map kV)) from ok a _ e)
 exact⟨o,its.toArray,n,h1,h2,h3,by simpa using items_are r⟩
theorem dt_rd{kvs:List (List Key×V)}(ok:HOk P w H h)(e:Rd H a (.dT kvs)):kvs.length≤sizeLine∧(a == sysModules)=false ∧
  ∃ xs,KT H kvs xs∧h.DictOfH (tupleKind (mixKind P w)) a xs:=by
 obtain⟨z,y,xs,r,o,es,ep,h1,h2,h3,h4,h5⟩:=(show ObjOk P w H h a (.dT kvs) from rd_of ok e)
 refine⟨z,y,xs,r,o,es,ep,h1,h2,h3,h4,fun x hx=>?_,h5⟩
 have all:∀ {l:List (List Key×V)} {m:List (List Key×Addr×Value)},KT H l m→∀ x∈m,(tupleKind (mixKind P w)).is h x.1 x.2.1:=by
  intro l m q
  induction q with
  | nil=>intro x hx;exact nomatch hx
  | @cons p q ps qs hq t ih =>
   intro x hx
   rcases List.mem_cons.mp hx with e | hx
   ·subst e
    exact key_of ok (by rw[← hq.1];exact hq.2.1)
   ·exact ih x hx
 exact all r x hx
theorem dt_of{kvs:List (List Key×V)}(ok:HOk P w H h)(e:H a=some (.dT kvs)):kvs.length≤sizeLine∧(a == sysModules)=false ∧
  ∃ xs,KT H kvs xs∧h.DictOfH (tupleKind (mixKind P w)) a xs:=dt_rd ok (.inl e)
end
def DGet(H:Hp)(a:Addr)(y:V)(r:Option V):Prop :=
 (∃ kvs k,Rd H a (.dK kvs)∧y=kV k∧r=valV kvs k)∨∃ kvs k b,Rd H a (.dT kvs)∧y=.ref b∧H b=some (.tup (k.map kV))∧r=valV kvs k
def DPut(H:Hp)(a:Addr)(y v:V)(H':Hp):Prop :=
 (∃ kvs k,H a=some (.dK kvs)∧y=kV k∧kvs.length < sizeLine∧H'=upd H a (.dK (putK kvs k v))) ∨
 ∃ kvs k b,H a=some (.dT kvs)∧y=.ref b∧H b=some (.tup (k.map kV))∧kvs.length < sizeLine∧H'=upd H a (.dT (putK kvs k v))
theorem DGet.k{H:Hp}{a:Addr}{kvs:List (Key×V)}{k:Key}(e:H a=some (.dK kvs)):DGet H a (kV k) (valV kvs k):=.inl ⟨kvs,k,.inl e,rfl,rfl⟩
theorem DGet.t{H:Hp}{a b:Addr}{kvs:List (List Key×V)}{k:List Key}(e:H a=some (.dT kvs))(eb:H b=some (.tup (k.map kV))):DGet H a (.ref b) (valV kvs k):=.inr ⟨kvs,k,b,.inl e,rfl,eb,rfl⟩
theorem DPut.k{H:Hp}{a:Addr}{kvs:List (Key×V)}{k:Key}{v:V}(e:H a=some (.dK kvs))(hl:kvs.length < sizeLine):DPut H a (kV k) v (upd H a (.dK (putK kvs k v))):=.inl ⟨kvs,k,e,rfl,hl,rfl⟩
theorem DPut.t{H:Hp}{a b:Addr}{kvs:List (List Key×V)}{k:List Key}{v:V}(e:H a=some (.dT kvs))(eb:H b=some (.tup (k.map kV)))(hl:kvs.length < sizeLine) :
  DPut H a (.ref b) v (upd H a (.dT (putK kvs k v))):=.inr ⟨kvs,k,b,e,rfl,eb,hl,rfl⟩
section
variable {X:Cx}{pins:List (Addr×Obj)}{σ:St}{H:Hp}{s:Shared}{a:Addr}{y v:V}{u r:Value}{o:Option V}{A:Around}{E:Value→Shared→Prop}
theorem Inv.big(I:Inv X pins σ H s):sysModules < s.heap.objs.size:=by
 have h:mainGlobals < s.heap.objs.size:=(I.mod.glob.keeps I.bk).lt
 exact Nat.lt_trans (by decide) h
theorem d_getItem{Q:Value→Shared→Prop}(hu:A.units+1 < cLine)(I:Inv X pins σ H s)(g:DGet H a y (some v))(ry:RelV y u)(h:∀ w' s',Inv X pins σ H s'→RelV v w'→Q w' s') :
  wpAny (model X.prog X.w) A (getItem (.ref a) u) Q E s:=by
 rcases g with ⟨kvs,k,e,ey,l⟩ | ⟨kvs,k,b,e,ey,eb,l⟩
 ·subst ey
  obtain⟨z,hd,vs,rel,dd⟩:=dk_rd I.hok e
  obtain⟨w',hw,rw'⟩:=RelO.some_of (v:=v) (o:=valueAt vs k) (by rw[l];exact rel.val k)
  exact wpAny_getItem_of (kV_is ry) dd.mapOf hw (h w' _ (I.tok _) rw')
 ·subst ey
  cases (show u=Value.ref b from ry)
  obtain⟨z,hd,xs,rel,dd⟩:=dt_rd I.hok e
  obtain⟨w',hw,rw'⟩:=RelO.some_of (v:=v) (o:=(atKey xs k).map (·.2)) (by rw[l];exact rel.val k)
  obtain⟨p,hp,hp2⟩:=Option.map_eq_some_iff.mp hw
  refine wpAny_getItem_heap (tupleKind_room_in1 hu) (key_of I.hok eb) dd hp ?_
  rw[hp2]
  exact h w' _ (I.tok _) rw'
theorem d_in{Q:Value→Shared→Prop}(hu:A.units+1 < cLine)(I:Inv X pins σ H s)(g:DGet H a y o)(ry:RelV y u)(h:∀ s',Inv X pins σ H s'→Q (.bool o.isSome) s') :
  wpAny (model X.prog X.w) A (compareOp .In u (.ref a)) Q E s:=by
 rcases g with ⟨kvs,k,e,ey,l⟩ | ⟨kvs,k,b,e,ey,eb,l⟩
 ·subst ey
  obtain⟨z,hd,vs,rel,dd⟩:=dk_rd I.hok e
  refine wpAny_in_of (kV_is ry) hd dd.mapOf ?_
  rw[← (rel.val k).isSome_eq,← l]
  exact h _ (I.tok _)
 ·subst ey
  cases (show u=Value.ref b from ry)
  obtain⟨z,hd,xs,rel,dd⟩:=dt_rd I.hok e
  refine wpAny_in_heap (tupleKind_room_in1 hu) (key_of I.hok eb) hd dd ?_
  have q:=(rel.val k).isSome_eq
  rw[Option.isSome_map] at q
  rw[← q,← l]
  exact h _ (I.tok _)
theorem d_notIn{Q:Value→Shared→Prop}(hu:A.units+1 < cLine)(I:Inv X pins σ H s)(g:DGet H a y o)(ry:RelV y u)(h:∀ s',Inv X pins σ H s'→Q (.bool (!o.isSome)) s') :
  wpAny (model X.prog X.w) A (compareOp .NotIn u (.ref a)) Q E s:=by
 rcases g with ⟨kvs,k,e,ey,l⟩ | ⟨kvs,k,b,e,ey,eb,l⟩
 ·subst ey
  obtain⟨z,hd,vs,rel,dd⟩:=dk_rd I.hok e
  refine wpAny_notIn_of (kV_is ry) hd dd.mapOf ?_
  rw[← (rel.val k).isSome_eq,← l]
  exact h _ (I.tok _)
 ·subst ey
  cases (show u=Value.ref b from ry)
  obtain⟨z,hd,xs,rel,dd⟩:=dt_rd I.hok e
  refine wpAny_notIn_heap (tupleKind_room_in1 hu) (key_of I.hok eb) hd dd ?_
  have q:=(rel.val k).isSome_eq
  rw[Option.isSome_map] at q
  rw[← q,← l]
  exact h _ (I.tok _)
theorem d_write{h':Heap}{t':Nat}{ob:HO}(I:Inv X pins σ H s)(mu:Mut (H a))(hs:Heap.SameBut a s.heap h')(he:∃ q,h'.get? a=some q)(new:ObjOk X.prog X.w (upd H a ob) h' a ob) :
  Inv X pins σ (upd H a ob) { s with heap:=h',toks:=t' } :=
 I.write (x:=a) (e:=a) mu (.inl rfl) (fun b q hb z=>(hs.2 b hb).trans z) he new
theorem dk_new{P:Program}{w:World}{H':Hp}{h':Heap}{kvs:List (Key×V)}{vs:List (Key×Value)}(z:kvs.length≤sizeLine)(hd:(a == sysModules)=false)(rel:KV kvs vs)(dd:h'.DictOf (mixKind P w) a vs) :
  ObjOk P w H' h' a (.dK kvs):=⟨z,hd,vs,rel,dd⟩
theorem d_setItem{H':Hp}{Q:Unit→Shared→Prop}(hu:A.units+1 < cLine)(I:Inv X pins σ H s)(g:DPut H a y v H')(ry:RelV y u)(rv:RelV v r)(h:∀ s',Inv X pins σ H' s'→Q () s') :
  wpAny (model X.prog X.w) A (setItem (.ref a) u r) Q E s:=by
 rcases g with ⟨kvs,k,e,ey,l,eH⟩ | ⟨kvs,k,b,e,ey,eb,l,eH⟩
 ·subst ey eH
  obtain⟨z,hd,vs,rel,dd⟩:=dk_of I.hok e
  have hz:vs.length≤sizeLine:=by rw[← rel.length];exact z
  have hl:(putK kvs k v).length≤sizeLine:=by have:=length_putK kvs k v;omega
  refine wpAny_setItem_pairs (hsz:=hz) (kV_is ry) dd fun h' dd' hs=>h _ ?_
  have he:∃ q,h'.get? a=some q:=let ⟨q,_,_,hq,_⟩:=dd';⟨q,hq⟩
  exact d_write I (by rw[e];exact True.intro) hs he (dk_new hl hd (rel.put k rv) dd')
 ·subst ey eH
  cases (show u=Value.ref b from ry)
  obtain⟨z,hd,xs,rel,dd⟩:=dt_of I.hok e
  have hz:xs.length≤sizeLine:=by rw[← Paired.length rel];exact z
  have hl:(putK kvs k v).length≤sizeLine:=by have:=length_putK kvs k v;omega
  refine wpAny_setItem_heap (hsz:=hz) (tupleKind_room_in1 hu) (key_of I.hok eb) dd fun h' dd' hs=>h _ ?_
  obtain⟨q,es,ep,hq,h2,h3,h4,_,h5⟩:=dd'
  refine d_write I (by rw[e];exact True.intro) hs ⟨q,hq⟩ ⟨hl,hd,_,(rel.put k eb rv).keeps fun c ys ec=>?_,q,es,ep,hq,h2,h3,h4,h5⟩
  rw[upd_ne (ne_of ec e (fun z=>nomatch z))]
  exact ec
end
section
variable {X:Cx}{pins:List (Addr×Obj)}{σ:St}{H:Hp}{s:Shared}{a:Addr}{kvs:List (Key×V)}{k:Key}{u:Value}{A:Around}{E:Value→Shared→Prop}
theorem d_len{Q:Value→Shared→Prop}(I:Inv X pins σ H s)(e:Rd H a (.dK kvs))(h:∀ t s',Inv X pins σ H s'→Q (.int kvs.length t) s'):wpAny (model X.prog X.w) A (call (.builtin "len") [.ref a]) Q E s:=by
 obtain⟨z,hd,vs,rel,dd⟩:=dk_rd I.hok e
 refine call_len_dict hd dd (by rw[← rel.length];rw[sizeLine_eq] at z;omega) ?_
 rw[← rel.length]
 exact h _ _ (I.tok _)
end
def NoSl(i:Expr):Prop:=∀ ov iv,subscripted i false ov iv=operate [ov,iv] (getItem ov iv)
theorem subD_of{prog:Program}{w:World}{A:Around}{E:Value→Shared→Prop}{s:Shared}{env:Env}{value slice:Expr}{pos:Pos}{T id:String}{Q:Value→Shared→Prop}
  (hl:typeLookup (.type T) "__getitem__" = pure (some (.builtin id))) (hs:NoSl slice)
  (h:wpAny (model prog w) A (eval value env) (fun o s₁=>wpAny (model prog w) A (eval slice env) (fun i s₂=>s₂.TypeIs o T∧wpAny (model prog w) A (getItem o i) Q E s₂) E s₁) E s) :
  wpAny (model prog w) A (eval (.Subscript value slice pos) env) Q E s:=by
 refine Subscript_ (wpAny_mono h (fun o s₁ h₁=>wpAny_mono h₁ (fun i s₂ h₂=>?_) fun _ _ x=>x) fun _ _ x=>x)
 obtain⟨hT,h₂⟩:=h₂
 unfold subscriptTail
 refine wpAny_bind ?_
 rw[getitemInPython_of_ne hT.not_modules]
 refine wpAny_bind (wpAny_specialOf hT hl ?_)
 have fin:wpAny (model prog w) A (subscripted slice false o i) (fun r s₃=>wpAny (model prog w) A (letTemporaryGo value o r >>= fun _=>pure r) Q E s₃) E s₂:=by
  rw[hs o i]
  exact wpAny_operating (wpAny_mono h₂ (fun r s₃ h₃=>wpAny_bind (wpAny_letTemporaryGo (wpAny_pure h₃))) fun _ _ x=>x)
 first
  | exact wpAny_pure (wpAny_bind fin)
  | exact wpAny_bind (wpAny_pure (wpAny_bind fin))
  | exact wpAny_bind fin
theorem dict_typeIs{X:Cx}{pins:List (Addr×Obj)}{σ:St}{H:Hp}{s:Shared}{a:Addr}{y:V}{o:Option V}(I:Inv X pins σ H s)(g:DGet H a y o):s.TypeIs (.ref a) "dict" := by
 rcases g with ⟨kvs,k,e,_,_⟩ | ⟨kvs,k,b,e,_,_,_⟩
 ·obtain⟨_,_,vs,_,dd⟩:=dk_rd I.hok e
  exact dd.typeIs
 ·obtain⟨_,_,xs,_,dd⟩:=dt_rd I.hok e
  exact dd.typeIs
def tDGet(td ty:TE):TE:=fun σ H Q=>td σ H fun x H1=>ty σ H1 fun y H2=>∃ a v,x=.ref a∧DGet H2 a y (some v)∧Q v H2
def tDIn(ty td:TE):TE:=fun σ H Q=>ty σ H fun y H1=>td σ H1 fun x H2=>∃ a o,x=.ref a∧DGet H2 a y o∧Q (.bl o.isSome) H2
def tDNotIn(ty td:TE):TE:=fun σ H Q=>ty σ H fun y H1=>td σ H1 fun x H2=>∃ a o,x=.ref a∧DGet H2 a y o∧Q (.bl (!o.isSome)) H2
def sDPut(td ty tv:TE):TS:=fun D σ H=>tv σ H fun v H1=>td σ H1 fun x H2=>ty σ H2 fun y H3=>∃ a H4,x=.ref a∧DPut H3 a y v H4∧D.nx σ H4
section
variable {X:Cx}{o i e value:Expr}{pos pos' tpos:Pos}{td ty tv:TE}
theorem pe_dget(hu:X.A.units+1 < cLine)(ho:PE X o td)(hi:PE X i ty)(hs:NoSl i):PE X (.Subscript o i pos) (tDGet td ty):=by
 intro pins s σ H Q I h
 refine subD_of PySem.F.slot_dict_getitem.lookup hs (thn (ho pins s σ H _ I h) fun u s1 ⟨x,H1,I1,rx,q1⟩=>thn (hi pins s1 σ H1 _ I1 q1) fun iv s2 ⟨y,H2,I2,ry,a,v,ex,g,q2⟩=>?_)
 subst ex
 obtain rfl:u=Value.ref a:=rx
 exact⟨dict_typeIs I2 g,d_getItem hu I2 g ry fun w' s3 I3 rw'=>⟨v,H2,I3,rw',q2⟩⟩
theorem pc_din(hu:X.A.units+1 < cLine)(hi:PE X i ty)(ho:PE X o td):PC X .In i o (tDIn ty td):=by
 intro pins s σ H Q I h
 refine thn (hi pins s σ H _ I h) fun iv s1 ⟨y,H1,I1,ry,q1⟩=>thn (ho pins s1 σ H1 _ I1 q1) fun u s2 ⟨x,H2,I2,rx,a,ov,ex,g,q2⟩=>?_
 subst ex
 obtain rfl:u=Value.ref a:=rx
 exact d_in hu I2 g ry fun s3 I3=>⟨.bl ov.isSome,H2,I3,rfl,q2⟩
theorem pc_dnotin(hu:X.A.units+1 < cLine)(hi:PE X i ty)(ho:PE X o td):PC X .NotIn i o (tDNotIn ty td):=by
 intro pins s σ H Q I h
 refine thn (hi pins s σ H _ I h) fun iv s1 ⟨y,H1,I1,ry,q1⟩=>thn (ho pins s1 σ H1 _ I1 q1) fun u s2 ⟨x,H2,I2,rx,a,ov,ex,g,q2⟩=>?_
 subst ex
 obtain rfl:u=Value.ref a:=rx
 exact d_notIn hu I2 g ry fun s3 I3=>⟨.bl (!ov.isSome),H2,I3,rfl,q2⟩
theorem ps_dput(hu:X.A.units+1 < cLine)(ho:PE X o td)(hi:PE X i ty)(hv:PE X value tv)(hs:swapsWith value (some (.Subscript o i pos')) pos.line X.env=pure false) :
  PS X (.Assign [.Subscript o i pos'] value pos) (sDPut td ty tv):=by
 intro pins s σ H D I h
 refine wpAny_Assign_Subscript (thn (hv pins s σ H _ I h) fun r s1 ⟨v,H1,I1,rv,q1⟩=>thn (ho pins s1 σ H1 _ I1 q1) fun u s2 ⟨x,H2,I2,rx,q2⟩=>thn (hi pins s2 σ H2 _ I2 q2) fun iv s3 ⟨y,H3,I3,ry,a,H4,ex,g,q3⟩=>?_) hs
 subst ex
 obtain rfl:u=Value.ref a:=rx
 exact d_setItem hu I3 g ry rv fun s4 I4=>⟨σ,H4,I4,q3⟩
end
theorem dk_empty{P:Program}{w:World}{H:Hp}(h:Heap)(hb:sysModules < h.objs.size):ObjOk P w H (h.push { cls:=.type "dict", data:=.dict #[] }) h.objs.size (.dK []) :=
 ⟨Nat.zero_le _,beq_eq_false_iff_ne.mpr (Ne.symm (Nat.ne_of_lt hb)),[],.nil,Heap.DictOf.new h⟩
def tDNewK:TE:=fun _ H Q=>∀ p,H p=none→Q (.ref p) (upd H p (.dK []))
section
variable {X:Cx}{pos:Pos}
theorem pe_dnewK:PE X (.Dict [] [] pos) tDNewK:=fun pins s σ H Q I h =>
 wpAny_Dict_empty ⟨.ref s.heap.objs.size,_,I.laid (a:=s.heap.objs.size) (o:=.dK []) (t':=s.toks) (fun _ _ q=>Heap.get?_push_of_some _ q) (Nat.le_refl _) (dk_empty s.heap I.big),rfl,h _ (I.hok.fresh (Nat.le_refl _))⟩
end
structure M1(X:Cx)(o:Expr)(m:Str)(apos:Pos)(e:Expr)(cpos:Pos):Prop where
 base:attributeBase o m X.env (eval o X.env)=eval o X.env
 few:((backTo cpos (starEach [e] X.env)).all (fun x=>!x.1) && (backToKw cpos (keywordEach [] X.env)).all (fun x=>x.1.isSome)
  && decide (([e]:List Expr).length+([]:List Keyword).length+(if ([]:List Keyword).isEmpty then 0 else 1) < 30))=true
 line:(apos.endLine == cpos.line)=true
 trees:backTo cpos (starEach [e] X.env)=[(false,eval e X.env)]
structure M2(X:Cx)(o:Expr)(m:Str)(apos:Pos)(e f:Expr)(cpos:Pos):Prop where
 base:attributeBase o m X.env (eval o X.env)=eval o X.env
 few:((backTo cpos (starEach [e,f] X.env)).all (fun x=>!x.1) && (backToKw cpos (keywordEach [] X.env)).all (fun x=>x.1.isSome)
  && decide (([e,f]:List Expr).length+([]:List Keyword).length+(if ([]:List Keyword).isEmpty then 0 else 1) < 30))=true
 line:(apos.endLine == cpos.line)=true
 trees:backTo cpos (starEach [e,f] X.env)=[(false,eval e X.env),(false,eval f X.env)]
section
variable {X:Cx}{pins:List (Addr×Obj)}{σ:St}{H:Hp}{s:Shared}{a:Addr}{y d:V}{u r:Value}{o:Option V}{A:Around}{E:Value→Shared→Prop}
end
section
variable {X:Cx}{o e f:Expr}{apos cpos:Pos}{td ty tx:TE}
end
section
variable {X:Cx}{pins:List (Addr×Obj)}{σ:St}{H:Hp}{s:Shared}{a:Addr}{kvs:List (Key×V)}{A:Around}{E:Value→Shared→Prop}
theorem d_copyOf{Q:Value→Shared→Prop}(I:Inv X pins σ H s)(e:Rd H a (.dK kvs))(h:∀ p s',H p=none→Inv X pins σ (upd H p (.dK kvs)) s'→Q (.ref p) s'):wpAny (model X.prog X.w) A (call (.type "dict") [.ref a]) Q E s:=by
 obtain⟨z,hd,vs,rel,dd⟩:=dk_rd I.hok e
 refine kt_call_dict hd dd (by rw[← rel.length];exact z) fun h' dd' hs=>?_
 refine h _ _ (I.hok.fresh (Nat.le_refl _)) (I.laid (a:=s.heap.objs.size) (o:=.dK kvs) (t':=s.toks) (fun b q hq=>?_) (Nat.le_refl _) (dk_new z (beq_eq_false_iff_ne.mpr (Ne.symm (Nat.ne_of_lt I.big))) rel dd'))
 exact (hs.2 b (Nat.ne_of_lt (Heap.lt_size hq))).trans (Heap.get?_push_of_some _ hq)
end
section
variable {X:Cx}{pins:List (Addr×Obj)}{σ:St}{H:Hp}{s:Shared}{a:Addr}{y:V}{u:Value}{A:Around}{E:Value→Shared→Prop}
end
end L2
namespace L2
open PySem PySem.Spec PyProof.Rows
section
variable {X:Cx}
theorem call_lenD:CallR X (.builtin "len") (fun xs H Q=>∃ a kvs,xs=[V.ref a]∧H a=some (.dK kvs)∧Q (.int kvs.length) H):=by
 intro pins s σ H xs us Q I r h
 obtain⟨a,kvs,rfl,ha,q⟩:=h
 obtain⟨u,rfl,ru⟩:=vals1 r
 cases ru
 exact d_len I (.inl ha) fun t s' I'=>⟨.int kvs.length,H,I',⟨t,rfl⟩,q⟩
end
end L2
namespace L2
open PySem PySem.Spec PyProof.Rows
def dec(n:Int):Str:=Str.ofString (toString n)
section
variable {X:Cx}
def rStr:List V→Hp→VK→Prop:=fun xs H Q=>(∃ z,xs=[.str z]∧Q (.str z) H)∨∃ n:Int,xs=[.int n]∧n.natAbs < 2 ^ 1000∧Q (.str (dec n)) H
theorem call_str1:CallR X (.type "str") rStr:=by
 intro pins s σ H xs us Q I r h
 rcases h with ⟨z,rfl,q⟩ | ⟨n,rfl,hn,q⟩
 ·obtain⟨u,rfl,ru⟩:=r.one
  obtain⟨t,rfl⟩:=ru
  exact P.str_of_str ⟨.str z,H,I,⟨_,rfl⟩,q⟩
 ·obtain⟨u,rfl,ru⟩:=r.one
  obtain⟨t,rfl⟩:=ru
  refine P.str_of_int ?_ ⟨.str (dec n),H,I.tok _,⟨_,rfl⟩,q⟩
  by_cases h0:n.natAbs=0
  ·rw[h0];decide +kernel
  ·exact Nat.lt_of_lt_of_le ((Nat.log2_lt h0).mpr hn) (by decide)
theorem vals_strs:∀ (l:List (Str×Tok)),Vals ((l.map (·.1)).map V.str) (strValues l)
 | []=>.nil
 | (x,t)::l=>.cons ⟨t,rfl⟩ (vals_strs l)
end
end L2
namespace ZL
open PySem PySem.Spec PyProof.Rows ZT
section
variable {prog:Program}{w:World}{A:Around}{E:Value→Shared→Prop}{s:Shared}
abbrev hp1(h:Heap)(l1:Addr):Heap:=h.push { cls:=.type "tuple_iterator", data:=.fields #[.ref l1,.int 0 0] }
abbrev hp2(h:Heap)(l1 l2:Addr):Heap:=(hp1 h l1).push { cls:=.type "list_iterator", data:=.fields #[.ref l2,.int 0 0] }
abbrev hp4(h:Heap)(l1 l2:Addr):Heap:=(hp2 h l1 l2).push { cls:=.type "tuple", data:=.seq #[.ref h.objs.size,.ref (hp1 h l1).objs.size] }
end
end ZL
namespace L2
open PySem PySem.Spec PyProof.Rows ZT ZL
section
variable {X:Cx}
end
end L2
namespace L2
open PySem PySem.Spec PyProof.Rows
end L2
namespace L2
open PySem PySem.Spec PyProof.Rows
abbrev kvS(p:Str×V):Key×V:=(Sum.inr p.1,p.2)
structure KDict(P:Params)(K:PySem.W.Frag)(d:Addr)(D:List (Str×V)):Prop where
 lo:(d == sysModules)=false
 nd:(D.map (·.1)).Nodup
 few:D.length≤1000
 at':∃(o:Obj)(es:Array DictEntry)(ep:Nat),K.lookup d=some o∧o.ExactDict∧o.data=.dict es ep∧Paired (fun (p:Str×V) (e:DictEntry)=>e.hash=PyData.keyHash P p.1∧(∃ t,e.key=.str p.1 t)∧RelV p.2 e.val) D es.toList
theorem kd_pairs{prog:Program}{w:World}:∀ {D:List (Str×V)} {es:List DictEntry},Paired (fun (p:Str×V) (e:DictEntry)=>e.hash=PyData.keyHash w.params p.1∧(∃ t,e.key=.str p.1 t)∧RelV p.2 e.val) D es →
  ∃ vs:List (Key×Value),KV (D.map kvS) vs∧Pairs (mixKind prog w) es vs∧vs.map (·.1)=D.map (fun p=>(Sum.inr p.1:Key))∧∀ e∈es,∃ k,(mixKind prog w).is k e.key=true∧e.hash=(mixKind prog w).hash k
 | [],_,.nil=>⟨[],.nil,.nil,rfl,fun e h=>by cases h⟩
 | p::D,e::es,.cons ⟨h1,⟨t,h2⟩,h3⟩ r=>by
  obtain⟨vs,a1,a2,a3,a4⟩:=kd_pairs (prog:=prog) r
  have k1:(mixKind prog w).is (.inr p.1) e.key=true:=by rw[h2];exact mixKind_str prog w p.1 t
  refine⟨(.inr p.1,e.val)::vs,.cons ⟨rfl,h3⟩ a1,.cons k1 rfl a2,by rw[List.map_cons,List.map_cons,a3],fun x hx=>?_⟩
  rcases List.mem_cons.mp hx with rfl | hx
  ·exact⟨.inr p.1,k1,h1⟩
  ·exact a4 x hx
theorem KDict.of{prog:Program}{w:World}{K:PySem.W.Frag}{d:Addr}{D:List (Str×V)}{h:Heap}(x:KDict w.params K d D)(X:K.In h):∃ vs,KV (D.map kvS) vs∧h.DictOf (mixKind prog w) d vs:=by
 obtain⟨o,es,ep,a1,a2,a3,a4⟩:=x.at'
 obtain⟨vs,b1,b2,b3,b4⟩:=kd_pairs (prog:=prog) a4
 refine⟨vs,b1,o,es,ep,X _ _ a1,a2,a3,fun e he=>b4 e (Array.mem_toList_iff.mpr he),b2,?_⟩
 rw[b3]
 have:=x.nd
 rw[List.nodup_iff_pairwise_ne,List.pairwise_map] at this ⊢
 exact this.imp fun h z=>h (Sum.inr.inj z)
section
variable {X:Cx}
theorem qe_dget{o i:Expr}{td ty:TE}{pos:Pos}(hu:X.A.units+1 < cLine)(ho:QE X o td)(hi:QE X i ty)(hs:NoSl i:=by exact fun _ _=>rfl):QE X (.Subscript o i pos) (tDGet td ty):=⟨pe_dget hu ho.p hi.p hs⟩
end
theorem qe_globI{X:Cx}{x:Str}{n:Int}{pos:Pos}(hg:Gl X x)(hm:∃ t,X.mg x=some (.int n t))(hd:(x == ("__debug__" : Str))=false:=by decide):QE X (.Name x pos) (tC (.int n)):=by
 obtain⟨t,hm⟩:=hm
 exact⟨pe_glob hg hm ⟨t,rfl⟩ hd⟩
def KTup(K:PySem.W.Frag)(a:Addr)(xs:List V):Prop:=∃(o:Obj)(its:Array Value)(n:Nat),K.lookup a=some o∧o.cls=.type "tuple" ∧ o.data=.seq its n∧its.size≤sizeLine∧Vals xs its.toList
section
variable {H:Hp}{Q:VK}{σ:St}
theorem i_tIf{t:TT}{ta tb:TE}(h:t σ H fun c H1=>if c=true then ta σ H1 Q else tb σ H1 Q):tIf t ta tb σ H Q:=h
theorem i_strN{n:Int}(hn:n.natAbs < 2 ^ 1000)(h:Q (.str (dec n)) H):rStr [.int n] H Q:=.inr ⟨n,rfl,hn,h⟩
end
theorem qe_globR{X:Cx}{x:Str}{d:Addr}{pos:Pos}(hg:Gl X x)(hm:X.mg x=some (.ref d))(hd:(x == ("__debug__" : Str))=false:=by decide):QE X (.Name x pos) (tC (.ref d)):=⟨pe_glob hg hm rfl hd⟩
theorem bt_dict:bootBuiltins "dict" = some (.type "dict"):=by decide +kernel
end L2
namespace PySem
open Sem (wp)
def Fld(o:Obj)(i:Nat)(x:Value):Prop:=∃ vs,o.data=.fields vs∧vs[i]?=some x
def putF(i:Nat)(x:Value):Obj→Obj:=Obj.mapFields (·.setIfInBounds i x)
theorem Fld.put{o:Obj}{i:Nat}{y:Value}(f:Fld o i y)(x:Value):Fld (putF i x o) i x:=by
 obtain⟨vs,e,g⟩:=f
 have lt:=(Array.getElem?_eq_some_iff.mp g).1
 exact⟨_,Obj.data_mapFields e _,by rw[Array.getElem?_setIfInBounds_self,if_pos lt]⟩
structure Soft(base h h':Heap):Prop where
 low:base.StaysIn h→base.StaysIn h'
 up:h.UpToSlots h'
theorem Soft.trans{base h g k:Heap}(x:Soft base h g)(y:Soft base g k):Soft base h k:=⟨fun z=>y.low (x.low z),x.up.trans y.up⟩
theorem Soft.frames{base h h':Heap}(x:Soft base h h'){l:List Env}(f:h.FunFrames base l):h'.FunFrames base l :=
 f.of_keeps fun b o e n=>by
  obtain⟨k,q⟩:=x.up b o e n
  exact⟨_,q,rfl⟩
section
variable {M:Model}{A:Around}{E:Value→Shared→Prop}{s:Shared}{base:Heap}{env:Env}{outer l:List Env}{L e:Addr}{cls m:Value}{od:Option Addr}
def XOn(base:Heap)(e:Addr)(cls:Value)(od:Option Addr)(m:Value)(h:Heap):Prop :=
 ∃ r T q,(h.get? e=some r∧r.cls=cls∧r.dict=od)∧Fld r 1 (.ref T)∧(T≠e∧base.get? T=none)∧h.get? T=some q∧Fld q 3 m
def Heap.AtD(base:Heap)(l:List Env)(e:Addr)(cls:Value)(od:Option Addr)(m:Value)(h:Heap):Prop :=
 base.StaysIn h∧base.get? e=none∧h.FunFrames base l∧XOn base e cls od m h
theorem Heap.AtD.there{h:Heap}(x:Heap.AtD base l e cls od m h):∃ ob,h.get? e=some ob∧ob.cls=cls :=
 let ⟨_,_,_,r,_,_,g,_⟩:=x
 ⟨r,g.1,g.2.1⟩
end
end PySem
namespace L2
open PySem PySem.Spec PyProof.Rows
section
variable {prog:Program}{w:World}{A:Around}{E:Value→Shared→Prop}{K:PySem.W.Frag}{C x:Addr}{s:Shared}{name:Str}{v:Value}
def xOver:List Value→Bool
 | []=>false
 | a::r=>match a with
  | .ref _=>xOver r
  | _=>(a::r) == veTail
end
section
variable {prog:Program}{w:World}{A:Around}{E:Value→Shared→Prop}{h:Heap}{g:Array GenState}{d:Drawn}{t:Nat}{os:OsState}
variable {nm q:Str}{C N:Addr}{bs bm bmB:List Value}{hdct:Bool}{sn:List Str}{sub:List Value}{ab:Bool}{col:Option Bool}{dd:Option Addr}{k0 k1 k2 k3 k5:Option Value}{B newId initId:String}
end
section
variable {prog:Program}{w:World}{A:Around}{E:Value→Shared→Prop}{s:Shared}{env:Env}
variable {nm q:Str}{C N:Addr}{bs bm bmB:List Value}{hdct:Bool}{sn:List Str}{sub:List Value}{ab:Bool}{col:Option Bool}{dd:Option Addr}{k0 k1 k2 k3 k5:Option Value}{B newId initId:String}
end
section
variable {K:PySem.W.Frag}{C fI:Addr}{f:Str}{h:Heap}
def xIn(K:PySem.W.Frag)(C fI:Addr):Bool:=match K.lookup C with
 | some ⟨.type "type", _,.cls cd,sl⟩=>(match cd.mro,sl.toList with
  | .ref C'::bm,[_,_,_,_,some (.builtin n),_]=>C' == C && n == "ValueError.__new__" && !cd.hasDel && PySem.W.tailIn K veTail bm && PySem.W.nsOkIn K cd.ns && PySem.W.nsIn K cd.ns "__init__" == some (some (.ref fI))
  | _,_=>false)
 | _=>false
structure XCls(K:PySem.W.Frag)(C fI:Addr)(f:Str):Prop where
 isIn:xIn K C fI=true
 sa:PySem.W.findIn K (.ref C) "__setattr__" = some (some (.builtin "object.__setattr__"))
 at_:PySem.W.findIn K (.ref C) f=some none
 ga:PySem.W.findIn K (.ref C) "__getattribute__" = some (some (.builtin "BaseException.__getattribute__"))
 gr:PySem.W.findIn K (.ref C) "__getattr__" = some none
 mro:(PySem.W.clsIn K C).any (fun cd=>xOver cd.mro && cd.hasDict)=true
 fn:PySem.W.isFn K (.ref fI)=true
structure XBase(K:PySem.W.Frag)(B:Addr):Prop where
 ga:PySem.W.specialIn K (.ref B) "__getattribute__" = some (some (.builtin "type.__getattribute__"))
 rd:PySem.W.readsIn K B (.type "type")=true
 fc:PySem.W.findCls K (.ref B) (.type "type") "__init__" = some (.val (.builtin "ValueError.__init__"))
theorem ns_some{N:Addr}{mg:Str→Option Value}{n:Str}{v:Value}(X:K.In h)(G:h.Ns N mg)(e:PySem.W.nsIn K N n=some (some v)):mg n=some v:=by
 obtain⟨o,es,ep,ho,hd,_,hf⟩:=G
 unfold PySem.W.nsIn at e
 split at e
 ·rename_i c d es' n' sl q
  have:=X _ _ q
  rw[ho] at this
  cases this
  cases hd
  split at e
  ·rename_i en he
   cases e
   rw[← hf]
   unfold nsFind findBy
   rw[← Array.find?_toList,he]
   rfl
  ·split at e<;>cases e
 ·cases e
theorem XCls.obj(O:XCls K C fI f)(X:K.In h) :
  ∃ bm N nm q bs hdct sn sub ab col dd k0 k1 k2 k3 k5 mN,h.get? C=some (excClassObj nm q C N bs bm hdct sn sub ab col dd k0 k1 k2 k3 k5 "ValueError.__new__")∧h.Ns N mN∧mN "__init__" = some (.ref fI)∧OwnTail h veTail bm:=by
 have q:=O.isIn
 unfold xIn at q
 split at q
 case h_2=>cases q
 rename_i dd cd sl ho
 split at q
 case h_2=>cases q
 rename_i C' bm k0 k1 k2 k3 n k5 hm hs
 simp only[Bool.and_eq_true,beq_iff_eq,Bool.not_eq_true'] at q
 obtain⟨⟨⟨⟨⟨e1,e2⟩,hdel⟩,ht⟩,hok⟩,hni⟩:=q
 subst e1;subst e2
 cases cd with
 | mk nm bs mro ns qn hd sn sub ab col del =>
  dsimp only at hm hdel hok hni
  subst hm;subst hdel
  obtain rfl:sl=#[k0,k1,k2,k3,some (.builtin "ValueError.__new__"),k5]:=by
   cases sl with
   | mk l=>exact congrArg Array.mk hs
  have G:h.Ns ns _:=.of_isNs (PySem.W.isNs_of_in X hok)
  exact⟨bm,ns,nm,qn,bs,hd,sn,sub,ab,col,dd,k0,k1,k2,k3,k5,_,X _ _ ho,G,ns_some X G hni,PySem.W.tail_of_in X ht⟩
theorem XCls.cls(O:XCls K C fI f):∃ cd,PySem.W.clsIn K C=some cd∧xOver cd.mro=true∧cd.hasDict=true:=by
 obtain⟨cd,hc,q⟩:=PySem.W.any_some O.mro
 simp only[Bool.and_eq_true] at q
 exact⟨cd,hc,q.1,q.2⟩
end
section
variable {X:Cx}{pins:List (Addr×Obj)}{σ:St}{H:Hp}{s:Shared}{a C fI:Addr}{f:Str}{A:Around}{E:Value→Shared→Prop}
end
section
variable {X:Cx}{o value e:Expr}{es:List Expr}{ta tv:TE}{t:TA}{f x:Str}{pos pos' apos p:Pos}
end
def del(H:Hp)(a:Addr):Hp:=fun b=>if b=a then none else H b
section
variable {M:Model}{A:Around}{E:Value→Shared→Prop}{s:Shared}
end
section
variable {P:Program}{w:World}{K:PySem.W.Frag}{mg:Str→Option Value}{base:Heap}{N:List Str}{qual:Str}{scope:Scope}{f:Addr}{cd:Value}{A:Around}{outer:List Env}{s:Shared}{H:Hp}{E:XK}
end
section
variable {X:Cx}{pins:List (Addr×Obj)}{σ:St}{H:Hp}{s:Shared}
end
end L2
namespace L2
open PySem PySem.Spec PyProof.Rows
section
variable {P:Program}{w:World}{K:PySem.W.Frag}{mg:Str→Option Value}{base:Heap}{N:List Str}{qual:Str}{scope:Scope}{f:Addr}{cd:Value}{A:Around}{outer:List Env}{s:Shared}{H:Hp}{E:XK}
end
structure Held(X:Cx)(ea C dx:Addr):Prop where
 ex:∃ oe vs,(ea,oe)∈X.pn∧oe.cls=.ref C∧oe.dict=some dx∧oe.data=.fields vs
def Ends.un(D:Ends)(i:Nat):Ends:={ nx:=fun σ H=>D.nx (σ.set i none) H,rt:=D.rt,bk:=fun σ H=>D.bk (σ.set i none) H,ct:=fun σ H=>D.ct (σ.set i none) H }
structure XT(K:PySem.W.Frag)(mg:Str→Option Value)(x bn f q:Str)(st:Stmt)(C:Addr):Prop where
 ex:∃ fI fd B,Fun K "__init__" q st fI fd∧XBase K B∧mg bn=some (.ref B)∧XCls K C fI f∧mg x=some (.ref C)
end L2
namespace L2
open PySem PySem.Spec PyProof.Rows
section
variable {M:Model}{A:Around}{E:Value→Shared→Prop}{s:Shared}{base:Heap}{env:Env}{outer l:List Env}{L e:Addr}{cls fl:Value}{od:Option Addr}
end
section
variable {P:Program}{w:World}{K:PySem.W.Frag}{mg:Str→Option Value}{base:Heap}{N:List Str}{qual:Str}{scope:Scope}{f:Addr}{cd:Value}{A:Around}{outer:List Env}{s:Shared}{H:Hp}{E:XK}
end
section
variable {prog:Program}{w:World}{A:Around}{R:Result→Shared→Prop}{s:Shared}
end
section
variable {X:Cx}
end
end L2
namespace L2
open PySem PySem.Spec PyProof.Rows
section
variable {X:Cx}{x:Str}{p pos:Pos}{e:Expr}{es:List Expr}{t:TA}{sts:List Stmt}
end
section
variable {X:Cx}{elt iter tg:Expr}{ifs:List Expr}{scope:Scope}{pos:Pos}{wi:TI}{g:TG}{tt:TT}{te:TE}
end
section
variable {σ:St}{H:Hp}{D:Ends}{C:Addr}{f:Str}{E:XK}{t:TA}
end
def XQ(K:PySem.W.Frag)(x bn f q:Str)(st:Stmt)(C:Addr):Prop :=
 ∃ fI fd B,Fun K "__init__" q st fI fd∧XBase K B∧PySem.W.nsIn K mainGlobals bn=some (some (.ref B))∧XCls K C fI f∧PySem.W.nsIn K mainGlobals x=some (some (.ref C))
theorem XQ.mk{K:PySem.W.Frag}{x bn f q:Str}{st:Stmt}{C fI B:Addr}{oc:Value}{od:Option Addr}{kV dc pm:Value}{an:Option Addr}{cd ct:Value}{sl:Array (Option Value)}
  (a1:PySem.W.nsIn K mainGlobals x=some (some (.ref C))) (a2:PySem.W.nsIn K mainGlobals bn=some (some (.ref B))) (a3:PySem.W.findIn K (.ref C) "__init__" = some (some (.ref fI)))
  (a4:K.lookup fI=some ⟨oc,od,.func (PySem.W.fnOf "__init__" q (defArgs st) (defBody st) (defScope st) .none kV dc pm an cd ct),sl⟩) (a5:PySem.W.codeIn K cd q=true) (a6:PySem.W.keepIn K (.ref fI)=true)
  (a7:xIn K C fI=true) (a8:PySem.W.findIn K (.ref C) "__setattr__" = some (some (.builtin "object.__setattr__"))) (a9:PySem.W.findIn K (.ref C) f=some none)
  (b1:PySem.W.findIn K (.ref C) "__getattribute__" = some (some (.builtin "BaseException.__getattribute__"))) (b2:PySem.W.findIn K (.ref C) "__getattr__" = some none)
  (b3:(PySem.W.clsIn K C).any (fun cd=>xOver cd.mro && cd.hasDict)=true) (b4:PySem.W.isFn K (.ref fI)=true)
  (b5:PySem.W.specialIn K (.ref B) "__getattribute__" = some (some (.builtin "type.__getattribute__"))) (b6:PySem.W.readsIn K B (.type "type")=true)
  (b7:PySem.W.findCls K (.ref B) (.type "type") "__init__" = some (.val (.builtin "ValueError.__init__"))):XQ K x bn f q st C :=
 ⟨fI,_,B,fun_mk (st:=st) a4 a5 a6,⟨b5,b6,b7⟩,a2,⟨a7,a8,a9,b1,b2,b3,b4⟩,a1⟩
def rNotInT:R2:=fun x y H Q=>∃(a p:Addr)(ts:List Int)(js:List Nat)(f:Nat→Addr)(g:Nat→List Int),x=.ref a∧y=.ref p∧H a=some (.tup (ts.map V.int))∧H p=some (.lst (js.map fun i=>V.ref (f i)))∧(∀ i∈js,H (f i)=some (.tup ((g i).map V.int)))∧Q (.bl (!js.any fun i=>decide (g i=ts))) H
section
variable {X:Cx}
open Classical in
theorem op_notInT(hu:X.A.units+64 < cLine):OpR X (compareOp .NotIn) rNotInT:=by
 intro pins s σ H x y v u Q I rx ry h
 obtain⟨a,p,ts,js,f,g,rfl,rfl,ha,hp,hf,q⟩:=h
 cases rx
 cases ry
 obtain⟨its,r,pl,hz⟩:=I.list (SqL.of hp)
 have e:js.map (fun i=>V.ref (f i))=(js.map f).map V.ref:=by rw[List.map_map];rfl
 rw[e] at r
 have eu:=vals_refs r
 subst eu
 have eb:∀ i∈js,decide (Dt.tup ((g i).map Dt.int)=Dt.tup (ts.map Dt.int))=decide (g i=ts):=fun i _=>by
  rw[decide_eq_decide]
  exact⟨fun z=>(List.map_inj_right fun x y e=>Dt.int.inj e).mp (Dt.tup.inj z),fun z=>by rw[z]⟩
 let G:Value→Bool:=fun u=>match u with
  | .ref b=>decide (H b=some (.tup (ts.map V.int)))
  | _=>false
 have eG:∀ i∈js,G (.ref (f i))=decide (g i=ts):=fun i hi=>by
  show decide (H (f i)=some (.tup (ts.map V.int)))=_
  rw[hf i hi,decide_eq_decide]
  refine⟨fun z=>?_,fun z=>by rw[z]⟩
  exact (List.map_inj_right fun x y e=>V.int.inj e).mp (HO.tup.inj (Option.some.inj z))
 refine SeqAt.notIn_listAt G pl.isList (fun w hw=>?_) ⟨.bl _,H,I,rfl,?_⟩
 ·have hw:w∈(js.map f).map Value.ref:=by simpa using hw
  rw[List.map_map] at hw
  obtain⟨i,hi,rfl⟩:=List.mem_map.mp hw
  show SeqAt.EqAt _ _ (Value.ref (f i)) _ (G (.ref (f i)))
  rw[eG i hi,← eb i hi]
  have hin:X.A.in1.units=X.A.units+1:=rfl
  exact eq_den I 7 _ _ _ _ _ _ _ (Toy.den_tup (hf i hi) (Toy.ints_dens _)) (Toy.den_tup ha (Toy.ints_dens _)) (cmp_tI _ _) (by omega) rfl rfl
 ·have e2:((js.map f).map Value.ref).toArray.any G=js.any fun i=>decide (g i=ts):=by
   rw[List.any_toArray,List.any_map,List.any_map]
   rw[Bool.eq_iff_iff,List.any_eq_true,List.any_eq_true]
   constructor
   ·rintro ⟨i,hi,h⟩
    exact⟨i,hi,by rw[← eG i hi];exact h⟩
   ·rintro ⟨i,hi,h⟩
    exact⟨i,hi,by show G (.ref (f i))=true;rw[eG i hi];exact h⟩
  rw[e2]
  exact q
end
section
variable {X:Cx}
end
end L2
namespace L2
open PySem PySem.Spec PyProof.Rows
def isN:V→Bool
 | .non=>true
 | _=>false
def rInN:R2:=fun x y H Q=>∃ p xs,x=.non∧y=.ref p∧H p=some (.lst xs)∧(∀ v∈xs,v=.non∨(∃ i,v=.int i)∨(∃ z,v=.str z)∨∃(t:Addr)(js:List Int),v=.ref t∧H t=some (.tup (js.map V.int)))∧Q (.bl (xs.any isN)) H
theorem rel_mem:∀{xs:List V}{us:List Value},Vals xs us→∀ w∈us,∃ v∈xs,RelV v w
 | _,_,.nil,w,h=>by cases h
 | _,_,.cons r t,w,h=>by
  rcases List.mem_cons.mp h with rfl | h
  ·exact⟨_,List.mem_cons_self,r⟩
  ·obtain⟨v,hv,q⟩:=rel_mem t w h
   exact⟨v,List.mem_cons_of_mem _ hv,q⟩
theorem any_isN:∀{xs:List V}{us:List Value},Vals xs us→(∀ v∈xs,∀ w,RelV v w→(w == Value.none)=isN v)→us.any (fun u=>u == Value.none)=xs.any isN
 | _,_,.nil,_=>rfl
 | _,_,.cons r t,h=>by
  rw[List.any_cons,List.any_cons,h _ List.mem_cons_self _ r,any_isN t fun v hv=>h v (List.mem_cons_of_mem _ hv)]
section
variable {X:Cx}
open Classical in
theorem op_inN(hu:X.A.units+64 < cLine):OpR X (compareOp .In) rInN:=by
 intro pins s σ H x y v u Q I rx ry h
 obtain⟨p,xs,rfl,rfl,hp,hf,q⟩:=h
 cases ry
 obtain rfl:v=Value.none:=rx
 obtain⟨its,r,pl,hz⟩:=I.list (SqL.of hp)
 have key:∀ v∈xs,∀ w,RelV v w→(w == Value.none)=isN v:=fun v hv w rw'=>by
  rcases hf v hv with rfl | ⟨i,rfl⟩ | ⟨z,rfl⟩ | ⟨t,js,rfl,ht⟩
  ·obtain rfl:w=Value.none:=rw'
   rfl
  ·obtain⟨k,rfl⟩:=(show ∃ k,w=Value.int i k from rw')
   rfl
  ·obtain⟨k,rfl⟩:=(show ∃ k,w=Value.str z k from rw')
   rfl
  ·obtain rfl:w=Value.ref t:=rw'
   rfl
 refine SeqAt.in_listAt (fun u=>u == Value.none) pl.isList (fun w hw=>?_) ⟨.bl _,H,I,rfl,?_⟩
 ·obtain⟨v,hv,rv⟩:=rel_mem r w (by simpa using hw)
  rw[key v hv w rv]
  have hin:X.A.in1.units=X.A.units+1:=rfl
  have flat:flatV v=true→eqV v .non=isN v→SeqAt.EqAt X.A.in1 s w Value.none (isN v):=fun f e=>by
   have h:=mem_eqAt (A:=X.A.in1) (s:=s) (x:=V.non) (v:=Value.none) rfl rfl (xs:=[v]) (us:=[w]) (.cons rv .nil) (by rw[List.all_cons,f];rfl) w (List.mem_singleton.mpr rfl)
   rw[eqU_of rv f,e] at h
   exact h
  rcases hf v hv with rfl | ⟨i,rfl⟩ | ⟨z,rfl⟩ | ⟨t,js,rfl,ht⟩
  ·exact flat rfl rfl
  ·exact flat rfl rfl
  ·exact flat rfl rfl
  ·have h:=eq_den I 7 _ _ _ _ _ _ X.A.in1 (Toy.den_tup ht (Toy.ints_dens js)) (show Den H .non .non from rfl) trivial (by omega) rv rfl
   rw[decide_eq_false (fun z=>by cases z)] at h
   exact h
 ·rw[show its.toArray.any (fun u=>u == Value.none)=its.any (fun u=>u == Value.none) by simp,any_isN r key]
  exact q
end
end L2
namespace L2
open PySem PySem.Spec PyProof.Rows
section
variable {X:Cx}
end
end L2
namespace L2
open PySem PyProof.Rows PySem.SeqAt
section
variable {X:Cx}
end
end L2
namespace L2
open PySem PySem.Spec PyProof.Rows
structure MethAt(K:PySem.W.Frag)(C:Addr)(m q:Str)(st:Stmt)(f:Addr)(fd:FuncData):Prop where
 fn:Fun K m q st f fd
 at_:Meth K C m f
def MethOk(P:Program)(w:World)(K:PySem.W.Frag)(mg:Str→Option Value)(base:Heap)(CX:CXT)(k:Nat)(C:Addr)(m:Str)(ps:List Str)(sp:Sp):Prop :=
 ∃ f fd,FnOk P w K mg base CX k f fd ps sp∧Meth K C m f∧Binds K fd ps []
structure InitAt(K:PySem.W.Frag)(mg:Str→Option Value)(C:Addr)(x q:Str)(st:Stmt)(f:Addr)(fd:FuncData):Prop where
 fn:Fun K "__init__" q st f fd
 mkr:Mk K C f
 mg:mg x=some (.ref C)
def InitOk(P:Program)(w:World)(K:PySem.W.Frag)(mg:Str→Option Value)(base:Heap)(CX:CXT)(k:Nat)(C:Addr)(x:Str)(ps:List Str)(sp:Sp):Prop :=
 ∃ f fd,FnOk P w K mg base CX k f fd ps sp∧Mk K C f∧mg x=some (.ref C)∧Binds K fd ps []
section
variable {P:Program}{w:World}{K:PySem.W.Frag}{mg:Str→Option Value}{base:Heap}{CX:CXT}{k:Nat}{C:Addr}{x m qn:Str}{st:Stmt}{f:Addr}{fd:FuncData}{N ps:List Str}{sp:Sp}
theorem MethAt.ok(D:MethAt K C m qn st f fd)(F:FnOk P w K mg base CX k f fd ps sp)(b:Binds K fd ps []):MethOk P w K mg base CX k C m ps sp:=⟨f,fd,F,D.at_,b⟩
theorem InitAt.ok(D:InitAt K mg C x qn st f fd)(F:FnOk P w K mg base CX k f fd ps sp)(b:Binds K fd ps []):InitOk P w K mg base CX k C x ps sp:=⟨f,fd,F,D.mkr,D.mg,b⟩
theorem fun_q(F:Fun K m qn st f fd)(S:FnScope N ps (defScope st))(len:∀ vs H Q E,sp vs H Q E→vs.length=ps.length)
  (hbody:∀(cdv:Value)(A:Around)(outer:List Env)(s:Shared)(H:Hp)(vs:List V)(Q:VK)(E:XK),Room k (A.deeper (envOfC qn (defScope st) s.heap.objs.size f cdv))→sp vs H Q E →
   ∃ t,QB (cxOf CX0 P w K mg base N qn (defScope st) f cdv A outer s H E).nox (defBody st) t∧t { nx:=fun _ H'=>Q .non H',rt:=Q } (start N vs) H):FnOk P w K mg base CX0 (k+1) f fd ps sp :=
 F.ok S len fun cdv A outer s H vs Q E hr h=>by
  obtain⟨t,h1,h2⟩:=hbody cdv A outer s H vs Q E hr h
  exact⟨t,h1.p,h2⟩
theorem fun_qR(F:Fun K m qn st f fd)(S:FnScope N ps (defScope st))(len:∀ vs H Q E,sp vs H Q E→vs.length=ps.length)
  (hbody:∀(cdv:Value)(A:Around)(outer:List Env)(s:Shared)(H:Hp)(vs:List V)(Q:VK)(E:XK),Room k (A.deeper (envOfC qn (defScope st) s.heap.objs.size f cdv))→sp vs H Q E →
   ∃ t,QB (cxR P w K mg base N qn (defScope st) f cdv A outer s H E) (defBody st) t∧t { nx:=fun _ H'=>Q .non H',rt:=Q } (start N vs) H):FnOk P w K mg base (CXR P w) (k+1) f fd ps sp :=
 F.okR S len fun cdv A outer s H vs Q E hr h=>by
  obtain⟨t,h1,h2⟩:=hbody cdv A outer s H vs Q E hr h
  exact⟨t,h1.p,h2⟩
theorem MethAt.q(D:MethAt K C m qn st f fd)(S:FnScope N ps (defScope st))(len:∀ vs H Q E,sp vs H Q E→vs.length=ps.length)
  (hbody:∀(cdv:Value)(A:Around)(outer:List Env)(s:Shared)(H:Hp)(vs:List V)(Q:VK)(E:XK),Room k (A.deeper (envOfC qn (defScope st) s.heap.objs.size f cdv))→sp vs H Q E →
   ∃ t,QB (cxOf CX0 P w K mg base N qn (defScope st) f cdv A outer s H E).nox (defBody st) t∧t { nx:=fun _ H'=>Q .non H',rt:=Q } (start N vs) H):FnOk P w K mg base CX0 (k+1) f fd ps sp:=fun_q D.fn S len hbody
theorem MethAt.qR(D:MethAt K C m qn st f fd)(S:FnScope N ps (defScope st))(len:∀ vs H Q E,sp vs H Q E→vs.length=ps.length)
  (hbody:∀(cdv:Value)(A:Around)(outer:List Env)(s:Shared)(H:Hp)(vs:List V)(Q:VK)(E:XK),Room k (A.deeper (envOfC qn (defScope st) s.heap.objs.size f cdv))→sp vs H Q E →
   ∃ t,QB (cxR P w K mg base N qn (defScope st) f cdv A outer s H E) (defBody st) t∧t { nx:=fun _ H'=>Q .non H',rt:=Q } (start N vs) H):FnOk P w K mg base (CXR P w) (k+1) f fd ps sp:=fun_qR D.fn S len hbody
theorem InitAt.q(D:InitAt K mg C x qn st f fd)(S:FnScope N ps (defScope st))(len:∀ vs H Q E,sp vs H Q E→vs.length=ps.length)
  (hbody:∀(cdv:Value)(A:Around)(outer:List Env)(s:Shared)(H:Hp)(vs:List V)(Q:VK)(E:XK),Room k (A.deeper (envOfC qn (defScope st) s.heap.objs.size f cdv))→sp vs H Q E →
   ∃ t,QB (cxOf CX0 P w K mg base N qn (defScope st) f cdv A outer s H E).nox (defBody st) t∧t { nx:=fun _ H'=>Q .non H',rt:=Q } (start N vs) H):FnOk P w K mg base CX0 (k+1) f fd ps sp:=fun_q D.fn S len hbody
end
def tM(C:Addr)(m:Str)(sp:Sp)(E:XK)(ta:TE)(t:TA):TE:=fun σ H Q=>ta σ H fun x H1=>∃ a dx fs,x=.ref a∧H1 a=some (.ins C dx fs)∧fs.lookup m=none∧t σ H1 fun vs H2=>sp (.ref a::vs) H2 (Hold Q .mk) E
def tMX(C:Addr)(m:Str)(sp:Sp)(EX:XEx)(ta:TE)(t:TA):TE:=fun σ H Q=>ta σ H fun x H1=>∃ a dx fs,x=.ref a∧H1 a=some (.ins C dx fs)∧fs.lookup m=none∧t σ H1 fun vs H2=>sp (.ref a::vs) H2 Q fun cls _ H3=>EX cls σ H3
def tMk(C:Addr)(sp:Sp)(E:XK)(t:TA):TE:=fun σ H Q=>t σ H fun vs H1=>∀ x dx,H1 x=none→H1 dx=none→dx≠x→sp (.ref x::vs) (upd (upd H1 dx (.own x)) x (.ins C dx [])) (fun v H2=>v=.non∧Q (.ref x) H2) E
section
variable {X:Cx}{CX:CXT}{k:Nat}{C:Addr}{ps:List Str}{sp:Sp}{E:XK}{x m f:Str}{p pos pos' apos tpos:Pos}{e o value:Expr}{es:List Expr}{ta tv:TE}{t:TA}
theorem pe_m{pl:Sem Bool}(d:MethOk X.prog X.w X.K X.mg X.base CX k C m ps sp)(he:PE X o ta)(c:Cls X.K C)(hr:Room k X.A)(hx:Passes CX X E)(ha:PA X (e::es) t)
  (hst:starEach (e::es) X.env=(false,eval e X.env)::starEach es X.env:=by rfl) (hpl:(backTo pos (starEach es X.env)).any (·.1)=false:=by rfl)
  (ht:eval (.Call (.Attribute o m apos) (e::es) [] pos) X.env=(do
   let ov ← eval o X.env
   standAt apos.atName
   let (f,first) ← holding [ov] (getMethod ov m pl)
   callWith pos f first (backTo pos (starEach (e::es) X.env)) (backToKw pos (keywordEach [] X.env))):=by rfl) :
  PE X (.Call (.Attribute o m apos) (e::es) [] pos) (tM C m sp E ta t):=by
 obtain⟨f,fd,F,hm,hb⟩:=d
 intro pins s σ H Q I h
 refine pe_meth (dvs:=[]) (ds:=[]) (pl:=pl) he c hm F hr hb .nil hx ha hst hpl ht pins s σ H Q I ?_
 have e0:tMeth C m sp [] E ta t σ H Q=tM C m sp E ta t σ H Q:=by
  unfold tMeth tM Hold
  simp only[List.append_nil]
  apply propext
  have:∀{A B:V→Hp→Prop},(∀ x H,A x H↔B x H)→(ta σ H A↔ta σ H B):=fun {A B} h=>by rw[show A=B from funext fun x=>funext fun H=>propext (h x H)]
  refine this fun x H1=>⟨?_,?_⟩
  ·rintro ⟨a,dx,fs,rfl,h⟩
   exact⟨a,dx,fs,rfl,h⟩
  ·rintro ⟨a,dx,fs,rfl,h⟩
   exact⟨a,dx,fs,rfl,h⟩
 rw[e0]
 exact h
theorem pe_m0{pl:Sem Bool}(d:MethOk X.prog X.w X.K X.mg X.base CX k C m ps sp)(he:PE X o ta)(c:Cls X.K C)(hr:Room k X.A)(hx:Passes CX X E)
  (ht:eval (.Call (.Attribute o m apos) [] [] pos) X.env=(do
   let ov ← eval o X.env
   standAt apos.atName
   let (f,first) ← holding [ov] (getMethod ov m pl)
   callWith pos f first (backTo pos (starEach [] X.env)) (backToKw pos (keywordEach [] X.env))):=by rfl) :
  PE X (.Call (.Attribute o m apos) [] [] pos) (tM C m sp E ta tNil):=by
 obtain⟨f,fd,F,hm,hb⟩:=d
 intro pins s σ H Q I h
 refine pe_meth0 (dvs:=[]) (ds:=[]) (pl:=pl) he c hm F hr hb .nil hx ht pins s σ H Q I ?_
 have e0:tMeth C m sp [] E ta tNil σ H Q=tM C m sp E ta tNil σ H Q:=by
  unfold tMeth tM Hold
  simp only[List.append_nil]
  apply propext
  have:∀{A B:V→Hp→Prop},(∀ x H,A x H↔B x H)→(ta σ H A↔ta σ H B):=fun {A B} h=>by rw[show A=B from funext fun x=>funext fun H=>propext (h x H)]
  refine this fun x H1=>⟨?_,?_⟩
  ·rintro ⟨a,dx,fs,rfl,h⟩
   exact⟨a,dx,fs,rfl,h⟩
  ·rintro ⟨a,dx,fs,rfl,h⟩
   exact⟨a,dx,fs,rfl,h⟩
 rw[e0]
 exact h
theorem pe_mX0{pl:Sem Bool}{EX:XEx}(d:MethOk X.prog X.w X.K X.mg X.base (CXR X.prog X.w) k C m ps sp)(he:PE X o ta)(c:Cls X.K C)(hr:Room k X.A)(hx:PassX X EX)
  (ht:eval (.Call (.Attribute o m apos) [] [] pos) X.env=(do
   let ov ← eval o X.env
   standAt apos.atName
   let (f,first) ← holding [ov] (getMethod ov m pl)
   callWith pos f first (backTo pos (starEach [] X.env)) (backToKw pos (keywordEach [] X.env))):=by rfl) :
  PE X (.Call (.Attribute o m apos) [] [] pos) (tMX C m sp EX ta tNil):=by
 obtain⟨f,fd,F,hm,hb⟩:=d
 intro pins s σ H Q I h
 refine PySem.W.methodCall_KW (pl:=pl) (thn (he pins s σ H _ I h) fun u s1 ⟨x,H1,I1,rx,a,dx,fs,ex,ea,l,q⟩=>?_) ht
 subst ex
 obtain rfl:u=Value.ref a:=rx
 refine getmeth_ok I1 ea c hm l ?_
 refine PySem.W.callWith_K0 (first:=[.ref a]) I1.kIn hm.kp ?_
 have q:sp [.ref a] H1 Q fun cls _ H3=>EX cls σ H3:=q
 have r:Vals [V.ref a] [Value.ref a]:=.cons rfl .nil
 have hl:([Value.ref a]++([]:List Value)).length=ps.length:=F.len _ _ _ _ q
 have bd:=hb s1 [Value.ref a] I1.kIn hl
 rw[List.append_nil] at bd
 refine wpAny_call (codeAny_mono (F.run X.A X.stack s1 H1 ⟨[Value.ref a],[]⟩ [Value.ref a] [.ref a] Q _ hr I1.env0 bd r q) fun rr s' hq=>?_)
 cases rr with
 | error e=>exact hx pins σ H1 s1 e s' I1 hq
 | ok fl =>
  cases fl with
  | ret u=>exact I1.after hq
  | next=>exact False.elim hq
  | brk=>exact False.elim hq
  | cont=>exact False.elim hq
theorem pe_mk(d:InitOk X.prog X.w X.K X.mg X.base CX k C x ps sp)(hr:Room (k+1) X.A)(hx:Passes CX X E)(hg:Gl X x)(ha:PA X (e::es) t)
  (hdb:(x == ("__debug__" : Str))=false:=by decide) (he:starEach (e::es) X.env=(false,eval e X.env)::starEach es X.env:=by rfl) (hpl:(backTo pos (starEach es X.env)).any (·.1)=false:=by rfl) :
  PE X (.Call (.Name x p) (e::es) [] pos) (tMk C sp E t):=by
 obtain⟨f,fd,F,M,hm,hb⟩:=d
 intro pins s σ H Q I h
 refine pe_make (dvs:=[]) (ds:=[]) M F hr hg hm hb .nil hx ha hdb he hpl pins s σ H Q I ?_
 have e0:tMake C sp [] E t σ H Q=tMk C sp E t σ H Q:=by unfold tMake tMk;simp only[List.append_nil]
 rw[e0]
 exact h
theorem pe_mk0(d:InitOk X.prog X.w X.K X.mg X.base CX k C x ps sp)(hr:Room (k+1) X.A)(hx:Passes CX X E)(hg:Gl X x)(hdb:(x == ("__debug__" : Str))=false:=by decide) :
  PE X (.Call (.Name x p) [] [] pos) (tMk C sp E tNil):=by
 obtain⟨f,fd,F,M,hm,hb⟩:=d
 intro pins s σ H Q I h
 exact pe_make0 (dvs:=[]) (ds:=[]) M F hr hg hm hb .nil hx hdb pins s σ H Q I h
theorem qe_m{pl:Sem Bool}(d:MethOk X.prog X.w X.K X.mg X.base CX k C m ps sp)(he:QE X o ta)(c:Cls X.K C)(hr:Room k X.A)(hx:Passes CX X E)(ha:QA X (e::es) t)
  (hst:starEach (e::es) X.env=(false,eval e X.env)::starEach es X.env:=by rfl) (hpl:(backTo pos (starEach es X.env)).any (·.1)=false:=by rfl)
  (ht:eval (.Call (.Attribute o m apos) (e::es) [] pos) X.env=(do
   let ov ← eval o X.env
   standAt apos.atName
   let (f,first) ← holding [ov] (getMethod ov m pl)
   callWith pos f first (backTo pos (starEach (e::es) X.env)) (backToKw pos (keywordEach [] X.env))):=by rfl) :
  QE X (.Call (.Attribute o m apos) (e::es) [] pos) (tM C m sp E ta t):=⟨pe_m (pl:=pl) d he.p c hr hx ha.p hst hpl ht⟩
theorem qe_m0{pl:Sem Bool}(d:MethOk X.prog X.w X.K X.mg X.base CX k C m ps sp)(he:QE X o ta)(c:Cls X.K C)(hr:Room k X.A)(hx:Passes CX X E)
  (ht:eval (.Call (.Attribute o m apos) [] [] pos) X.env=(do
   let ov ← eval o X.env
   standAt apos.atName
   let (f,first) ← holding [ov] (getMethod ov m pl)
   callWith pos f first (backTo pos (starEach [] X.env)) (backToKw pos (keywordEach [] X.env))):=by rfl) :
  QE X (.Call (.Attribute o m apos) [] [] pos) (tM C m sp E ta tNil):=⟨pe_m0 (pl:=pl) d he.p c hr hx ht⟩
theorem qe_mX0{pl:Sem Bool}{EX:XEx}(d:MethOk X.prog X.w X.K X.mg X.base (CXR X.prog X.w) k C m ps sp)(he:QE X o ta)(c:Cls X.K C)(hr:Room k X.A)(hx:PassX X EX)
  (ht:eval (.Call (.Attribute o m apos) [] [] pos) X.env=(do
   let ov ← eval o X.env
   standAt apos.atName
   let (f,first) ← holding [ov] (getMethod ov m pl)
   callWith pos f first (backTo pos (starEach [] X.env)) (backToKw pos (keywordEach [] X.env))):=by rfl) :
  QE X (.Call (.Attribute o m apos) [] [] pos) (tMX C m sp EX ta tNil):=⟨pe_mX0 (pl:=pl) d he.p c hr hx ht⟩
theorem qe_mk(d:InitOk X.prog X.w X.K X.mg X.base CX k C x ps sp)(hr:Room (k+1) X.A)(hx:Passes CX X E)(hg:Gl X x)(ha:QA X (e::es) t)
  (hdb:(x == ("__debug__" : Str))=false:=by decide) (he:starEach (e::es) X.env=(false,eval e X.env)::starEach es X.env:=by rfl) (hpl:(backTo pos (starEach es X.env)).any (·.1)=false:=by rfl) :
  QE X (.Call (.Name x p) (e::es) [] pos) (tMk C sp E t):=⟨pe_mk d hr hx hg ha.p hdb he hpl⟩
theorem qe_mk0(d:InitOk X.prog X.w X.K X.mg X.base CX k C x ps sp)(hr:Room (k+1) X.A)(hx:Passes CX X E)(hg:Gl X x)(hdb:(x == ("__debug__" : Str))=false:=by decide) :
  QE X (.Call (.Name x p) [] [] pos) (tMk C sp E tNil):=⟨pe_mk0 d hr hx hg hdb⟩
theorem qe_fld(he:QE X e ta)(hb:attributeBase e f X.env (eval e X.env)=eval e X.env:=by rfl):QE X (.Attribute e f pos) (tFld X.K ta f):=⟨pe_fld he.p hb⟩
theorem qs_fld(ha:QE X o ta)(hv:QE X value tv)(hs:swapsWith value (some (.Attribute o f pos')) pos.line X.env=pure false:=by rfl):QS X (.Assign [.Attribute o f pos'] value pos) (sFld X.K ta tv f):=⟨ps_fld ha.p hv.p hs⟩
theorem qe_fldK{K:PySem.W.Frag}(hK:X.K=K)(he:QE X e ta)(hb:attributeBase e f X.env (eval e X.env)=eval e X.env:=by rfl):QE X (.Attribute e f pos) (tFld K ta f):=by
 subst hK
 exact qe_fld he hb
theorem qs_fldK{K:PySem.W.Frag}(hK:X.K=K)(ha:QE X o ta)(hv:QE X value tv)(hs:swapsWith value (some (.Attribute o f pos')) pos.line X.env=pure false:=by rfl):QS X (.Assign [.Attribute o f pos'] value pos) (sFld K ta tv f):=by
 subst hK
 exact qs_fld ha hv hs
theorem qs_fldaug{op:Operator}{rd:V→V→Hp→VK→Prop}(ha:QE X o ta)(hv:QE X value tv)(hop:InOp X op rd):QS X (.AugAssign (.Attribute o f tpos) op value pos) (sFldAug X.K ta tv rd f):=⟨ps_fldaug ha.p hv.p hop⟩
theorem qs_fldaugK{K:PySem.W.Frag}(hK:X.K=K){op:Operator}{rd:V→V→Hp→VK→Prop}(ha:QE X o ta)(hv:QE X value tv)(hop:InOp X op rd):QS X (.AugAssign (.Attribute o f tpos) op value pos) (sFldAug K ta tv rd f):=by
 subst hK
 exact qs_fldaug ha hv hop
end
def rFld(K:PySem.W.Frag)(f:Str)(Q:VK):VK:=fun x H1=>∃ a C dx fs v,x=.ref a∧H1 a=some (.ins C dx fs)∧Cls K C∧NoAttr K C f∧fs.lookup f=some v∧Q v H1
def rPut(K:PySem.W.Frag)(f:Str)(y:V)(R:Hp→Prop):VK:=fun x H2=>∃ a C dx fs,x=.ref a∧H2 a=some (.ins C dx fs)∧Cls K C∧NoAttr K C f∧fs.length < 1000∧R (upd H2 a (.ins C dx (putF f y fs)))
def rAug(K:PySem.W.Frag)(f:Str)(R:Addr→Addr→V→Hp→Prop):VK:=fun x H1=>∃ a C dx fs v,x=.ref a∧H1 a=some (.ins C dx fs)∧Cls K C∧NoAttr K C f∧fs.lookup f=some v∧R a C v H1
def rAput(C:Addr)(f:Str)(z:V)(a:Addr)(R:Hp→Prop):Hp→Prop:=fun H3=>∃ dx' fs',H3 a=some (.ins C dx' fs')∧fs'.length < 1000∧R (upd H3 a (.ins C dx' (putF f z fs')))
def rM(C:Addr)(m:Str)(R:Addr→Hp→Prop):VK:=fun x H1=>∃ a dx fs,x=.ref a∧H1 a=some (.ins C dx fs)∧fs.lookup m=none∧R a H1
section
variable {K:PySem.W.Frag}{σ:St}{H:Hp}{Q:VK}{D:Ends}{C:Addr}{m f:Str}{sp:Sp}{E:XK}{ta tv:TE}{t:TA}{rd:V→V→Hp→VK→Prop}
theorem i_tFld(h:ta σ H (rFld K f Q)):tFld K ta f σ H Q:=h
theorem i_sFld(h:tv σ H fun y H1=>ta σ H1 (rPut K f y (D.nx σ))):sFld K ta tv f D σ H:=h
theorem i_tM(h:ta σ H (rM C m fun a H1=>t σ H1 fun vs H2=>sp (.ref a::vs) H2 Q E)):tM C m sp E ta t σ H Q:=h
theorem i_tMX{EX:XEx}(h:ta σ H (rM C m fun a H1=>t σ H1 fun vs H2=>sp (.ref a::vs) H2 Q fun cls _ H3=>EX cls σ H3)):tMX C m sp EX ta t σ H Q:=h
theorem i_tMk(h:t σ H fun vs H1=>∀ x dx,H1 x=none→H1 dx=none→dx≠x→sp (.ref x::vs) (upd (upd H1 dx (.own x)) x (.ins C dx [])) (fun v H2=>v=.non∧Q (.ref x) H2) E):tMk C sp E t σ H Q:=h
theorem i_sFldAug(h:ta σ H (rAug K f fun a C v H1=>tv σ H1 fun y H2=>rd v y H2 fun z H3=>rAput C f z a (D.nx σ) H3)):sFldAug K ta tv rd f D σ H:=h
theorem i_rAdd{i j:Int}(h:Q (.int (i+j)) H):rAdd (.int i) (.int j) H Q:=⟨i,j,rfl,rfl,h⟩
end
end L2
namespace L2
open PySem PySem.Spec PyProof.Rows
section
variable {X:Cx}{o i value:Expr}{td ty tv:TE}{pos pos':Pos}
def rDictH:List V→Hp→VK→Prop:=fun xs H Q=>∃ a kvs,xs=[.ref a]∧H a=some (.dK kvs)∧∀ p,H p=none→Q (.ref p) (upd H p (.dK kvs))
theorem call_dictH:CallR X (.type "dict") rDictH:=by
 intro pins s σ H xs us Q I r h
 obtain⟨a,kvs,rfl,ha,q⟩:=h
 obtain⟨u,rfl,ru⟩:=vals1 r
 cases ru
 exact d_copyOf I (.inl ha) fun p s' hp I'=>⟨.ref p,_,I',rfl,q p hp⟩
theorem qt_din(hu:X.A.units+1 < cLine)(hi:QE X i ty)(ho:QE X o td)(hm:behindInMarks .In o=false:=by rfl):QT X (.Compare i [.In] [o] pos) (tB (tDIn ty td)):=⟨pt_cmp (pc_din hu hi.p ho.p) (h1:=hm)⟩
theorem qt_dnotin(hu:X.A.units+1 < cLine)(hi:QE X i ty)(ho:QE X o td)(hm:behindInMarks .NotIn o=false:=by rfl):QT X (.Compare i [.NotIn] [o] pos) (tB (tDNotIn ty td)):=⟨pt_cmp (pc_dnotin hu hi.p ho.p) (h1:=hm)⟩
theorem qe_dnewK:QE X (.Dict [] [] pos) tDNewK:=⟨pe_dnewK⟩
theorem qs_dput(hu:X.A.units+1 < cLine)(ho:QE X o td)(hi:QE X i ty)(hv:QE X value tv)(hs:swapsWith value (some (.Subscript o i pos')) pos.line X.env=pure false:=by rfl):QS X (.Assign [.Subscript o i pos'] value pos) (sDPut td ty tv):=⟨ps_dput hu ho.p hi.p hv.p hs⟩
theorem qe_bm0K{K:PySem.W.Frag}(hK:X.K=K){to:TE}{name:Str}{apos cpos:Pos}{T id:String}{r:V→List V→Hp→VK→Prop}(pa:PlainAttrs T)(slot:PySem.Slot T name id)(hty:typeOf (.builtin id)=pure (.type "method_descriptor"))(hm:MtR X id r)(ho:QE X o to)
  (hbase:attributeBase o name X.env (eval o X.env)=eval o X.env:=by rfl) (hline:(apos.endLine == cpos.line)=true:=by rfl):QE X (.Call (.Attribute o name apos) [] [] cpos) (tBM0 K T r to):=by
 subst hK
 exact⟨pe_bm0 pa slot hty hm ho.p hbase hline⟩
end
section
variable {σ:St}{H:Hp}{Q:VK}{td ty tv:TE}{D:Ends}{a:Addr}{kvs:List (Key×V)}{k:Key}{v:V}
theorem i_tBM0{K:PySem.W.Frag}{T:String}{r:V→List V→Hp→VK→Prop}{to:TE}(h:to σ H fun x H1=>tyV K T x H1∧r x [] H1 Q):tBM0 K T r to σ H Q:=h
def rDIn(y:V)(Q:VK):VK:=fun x H2=>∃ a o,x=.ref a∧DGet H2 a y o∧Q (.bl o.isSome) H2
def rDNotIn(y:V)(Q:VK):VK:=fun x H2=>∃ a o,x=.ref a∧DGet H2 a y o∧Q (.bl (!o.isSome)) H2
def rDGet(x:V)(Q:VK):VK:=fun y H2=>∃ a v,x=.ref a∧DGet H2 a y (some v)∧Q v H2
theorem i_tDIn(h:ty σ H fun y H1=>td σ H1 (rDIn y Q)):tDIn ty td σ H Q:=h
theorem i_tDNotIn(h:ty σ H fun y H1=>td σ H1 (rDNotIn y Q)):tDNotIn ty td σ H Q:=h
theorem i_tDGet(h:td σ H fun x H1=>ty σ H1 (rDGet x Q)):tDGet td ty σ H Q:=h
def rDPut(x v:V)(R:Hp→Prop):VK:=fun y H3=>∃ a H4,x=.ref a∧DPut H3 a y v H4∧R H4
theorem i_sDPut(h:tv σ H fun v H1=>td σ H1 fun x H2=>ty σ H2 (rDPut x v (D.nx σ))):sDPut td ty tv D σ H:=h
theorem i_dPut{R:Hp→Prop}(e:H a=some (.dK kvs))(l:kvs.length < sizeLine)(h:R (upd H a (.dK (putK kvs k v)))):rDPut (.ref a) v R (kV k) H:=⟨a,_,rfl,DPut.k e l,h⟩
theorem i_dIn(e:H a=some (.dK kvs))(h:Q (.bl (valV kvs k).isSome) H):rDIn (kV k) Q (.ref a) H:=⟨a,_,rfl,DGet.k e,h⟩
theorem i_dNotIn(e:H a=some (.dK kvs))(h:Q (.bl (!(valV kvs k).isSome)) H):rDNotIn (kV k) Q (.ref a) H:=⟨a,_,rfl,DGet.k e,h⟩
theorem i_dGet(e:H a=some (.dK kvs))(l:valV kvs k=some v)(h:Q v H):rDGet (.ref a) Q (kV k) H:=⟨a,v,rfl,by rw[← l];exact DGet.k e,h⟩
end
end L2
namespace L2
open PySem PySem.Spec PyProof.Rows
def Itd(hi:Int)(n:Nat):It:=⟨fun i _=>i < n,fun i H x H'=>H'=H∧x=.int (hi - i),fun i _=>n≤i⟩
theorem turn_rangeD{P:Program}{w:World}{K:PySem.W.Frag}{tg:Expr}(it:Addr)(hi:Int)(n:Nat):Turn P w K tg (Itd hi n) [it] it (fun i h=>IsRangeIter h it (hi+(i:Nat)*(-1)) ((n:Int) - (i:Nat)) (-1)) where
 mem:=by simp
 obj:=fun i h st b hb=>by
  have e:b=it:=by simpa using hb
  subst e
  exact⟨_,st,fun v z=>by
   have z':Data.fields _=Data.cell v:=z
   cases z'⟩
 keep:=fun i h h' st k=>k it (by simp) _ st
 item:=by
  intro X hP hw hK hc i pins s σ H E I hf st hg
  subst hP hw hK
  obtain⟨f0,f1,f2,f3,f4,f5⟩:=hf it (by simp)
  have W:=Walks.range (prog:=X.prog) (w:=X.w) (I.ok.hd hc) it hi (-1) n
  refine W.item i s _ _ hg st fun v h' tk hv st' kk=>?_
  obtain⟨t,rfl⟩:=hv
  have I1:Inv X pins σ H { s with heap:=h',toks:=tk }:=I.turned (fun b o hb e=>kk b o (by simpa using hb) e) f0 f1 f3 f4 f5
  refine⟨_,rfl,go_of (s:={ s with heap:=h',toks:=tk }) (n := "range_iterator") st' rfl rfl (by decide) ⟨.int (hi - i),H,I1,⟨t,?_⟩,⟨rfl,rfl⟩,st',fun b hb=>(hf b hb).1⟩⟩
  rw[show hi+(i:Int)*(-1)=hi - i by omega]
 done:=by
  intro X hP hw hK hc i pins s σ H E I hf st hg
  subst hP hw hK
  obtain⟨f0,f1,f2,f3,f4,f5⟩:=hf it (by simp)
  exact wpAny_pyNext_range_end (I.ok.hd hc) st (by have:n≤i:=hg;omega) fun h' eb=>⟨rfl,I.turned (t':=s.toks) (fun b o hb e=>eb b o hb e) f0 f1 f3 f4 f5⟩
 self:=fun _ _ _ _ _ st h=>wpAny_pyIter_rangeiter st h
theorem sizeD(a b:Int):Builtin.Range.rangeSize a b (-1)=((a - b).toNat:Int):=by
 unfold Builtin.Range.rangeSize
 simp only[show ¬ ((-1:Int) > 0) by decide,if_false,show (-(-1:Int))=1 by decide,Int.ediv_one]
 split<;>omega
theorem smallD{a b:Int}(h1:-(2 ^ 40)≤a)(h2:a < 2 ^ 40)(h3:-(2 ^ 40)≤b)(h4:b < 2 ^ 40):Builtin.Range.small a b (-1)=true:=by
 unfold Builtin.Range.small
 rw[sizeD]
 simp only[Builtin.Range.rangeFitsLong,Bool.and_eq_true,Bool.or_eq_true,decide_eq_true_eq,beq_iff_eq,show ¬ ((-1:Int) > 0) by decide,if_false]
 omega
section
variable {X:Cx}{tg:Expr}
def iRng3(ta:TA):TI:=fun σ H R=>ta σ H fun vs H1=>∃ i j:Int,vs=[.int i,.int j,.int (-1)]∧(-(2 ^ 40)≤i∧i < 2 ^ 40∧-(2 ^ 40)≤j∧j < 2 ^ 40)∧R (Itd i (i - j).toNat) H1
theorem rangeD_it{pins:List (Addr×Obj)}{σ:St}{H:Hp}{s:Shared}{R:It→Hp→Prop}{E:Value→Shared→Prop}{lo hi:Int}{t u v:Tok}{tk:Nat}(I:Inv X pins σ H s)(h1:-(2 ^ 40)≤lo)(h2:lo < 2 ^ 40)(h3:-(2 ^ 40)≤hi)(h4:hi < 2 ^ 40)
  (q:R (Itd lo (lo - hi).toNat) H):wpAny (model X.prog X.w) X.A (pyIter (.ref s.heap.objs.size)) (PIE X pins σ tg R) E { s with heap:=s.heap.push { cls:=.type "range", data:=.fields #[.int lo t,.int hi u,.int (-1) v] },toks:=tk }:=by
 refine wpAny_pyIter_range (IsRange.new ..) (smallD h1 h2 h3 h4) ?_
 have I1:Inv X pins σ H { s with heap:=s.heap.push { cls:=.type "range", data:=.fields #[.int lo t,.int hi u,.int (-1) v] },toks:=tk }:=I.kept fun b o e=>Heap.get?_push_of_some _ e
 refine⟨(s.heap.push { cls:=.type "range", data:=.fields #[.int lo t,.int hi u,.int (-1) v] }).objs.size,[(s.heap.push { cls:=.type "range", data:=.fields #[.int lo t,.int hi u,.int (-1) v] }).objs.size],_,_,H,rfl,
  I1.kept (t':=tk) fun b o e=>Heap.get?_push_of_some _ e,turn_rangeD _ lo (lo - hi).toNat,?_,fun b hb=>?_,q⟩
 ·have e1:lo+((0:Nat):Int)*(-1)=lo:=by simp
  have e2:(((lo - hi).toNat:Nat):Int) - ((0:Nat):Int)=Builtin.Range.rangeSize lo hi (-1):=by rw[sizeD];omega
  show IsRangeIter _ _ (lo+((0:Nat):Int)*(-1)) ((((lo - hi).toNat:Nat):Int) - ((0:Nat):Int)) (-1)
  rw[e1,e2]
  exact Heap.get?_push_size _ rfl
 ·have e:b=(s.heap.push { cls:=.type "range", data:=.fields #[.int lo t,.int hi u,.int (-1) v] }).objs.size:=by simpa using hb
  subst e
  exact I1.fpOk (Nat.le_refl _) (I1.hok.fresh (Nat.le_refl _))
theorem pi_range3{a b c:Expr}{ta:TA}{p pos:Pos}(hg:Gl X "range")(hm:X.mg "range" = none)(ha:PA X [a,b,c] ta)(hs:starEach [a,b,c] X.env=(false,eval a X.env)::starEach [b,c] X.env:=by rfl)(hs2:(backTo pos (starEach [b,c] X.env)).any (·.1)=false:=by rfl) :
  PI X tg (.Call (.Name "range" p) [a,b,c] [] pos) (iRng3 ta):=by
 intro pins s σ H R I h
 refine Call_ (ld_blt I hg hm boot_range (PyProof.Rows.callWith_type1 (thn (ha pos pins s σ H _ I h) fun us s1 ⟨vs,H1,I1,r1,q1⟩=>?_) hs hs2))
 obtain⟨i,j,e,⟨q1,q2,q3,q4⟩,q⟩:=q1
 subst e
 cases r1 with
 | cons r rr =>
  cases rr with
  | cons r' rr =>
   cases rr with
   | cons r2 rr =>
    cases rr
    obtain⟨t,rfl⟩:=r
    obtain⟨t',rfl⟩:=r'
    obtain⟨t2,rfl⟩:=r2
    exact call_range_3 (by decide) (rangeD_it I1 q1 q2 q3 q4 q) (Or.inl (PyProof.noPylong_small (by omega)))
theorem qi_range3{a b c:Expr}{ta:TA}{p pos:Pos}(hg:Gl X "range")(hm:X.mg "range" = none)(ha:QA X [a,b,c] ta)(hs:starEach [a,b,c] X.env=(false,eval a X.env)::starEach [b,c] X.env:=by rfl)(hs2:(backTo pos (starEach [b,c] X.env)).any (·.1)=false:=by rfl) :
  QI X tg (.Call (.Name "range" p) [a,b,c] [] pos) (iRng3 ta):=⟨pi_range3 hg hm ha.p hs hs2⟩
end
theorem for_rangeD{hi:Int}{n:Nat}{g:TG}{tb:L2.TS}{D:Ends}{σ:St}{H:Hp}(Pv:Nat→St→Hp→Prop)(h0:Pv 0 σ H)
  (hs:∀ i σ H (N B:St→Hp→Prop),i < n→Pv i σ H→(∀ σ' H',Pv (i+1) σ' H'→N σ' H')→(∀ σ' H',D.nx σ' H'→B σ' H')→g (.int (hi - i)) σ H fun σ2 H2=>tb { nx:=N,rt:=D.rt,bk:=B,ct:=N } σ2 H2) (hd:∀ σ H,Pv n σ H→D.nx σ H) :
  ∃ W:Nat→Nat→St→Hp→Prop,(∃ m,W 0 m σ H)∧∀ i m σ H,W i m σ H →
   ((Itd hi n).stop i H∧D.nx σ H)∨((Itd hi n).go i H∧∃ N:St→Hp→Prop,(∀ σ' H',N σ' H'→∃ m',m' < m∧W (i+1) m' σ' H')∧∀ x H',(Itd hi n).yld i H x H'→g x σ H' fun σ2 H2=>tb { D with nx:=N,ct:=N,bk:=D.nx } σ2 H2):=by
 refine⟨fun i m σ H=>i≤n∧m=n - i∧Pv i σ H,⟨n,Nat.zero_le _,rfl,h0⟩,?_⟩
 rintro i m σ H ⟨h1,rfl,h2⟩
 rcases Nat.lt_or_ge i n with l | l
 ·refine .inr ⟨l,Pv (i+1),fun σ' H' p=>⟨n - (i+1),by omega,by omega,rfl,p⟩,fun x H' hx=>?_⟩
  obtain⟨rfl,rfl⟩:=hx
  exact hs i σ _ (Pv (i+1)) D.nx l h2 (fun _ _ h=>h) fun _ _ h=>h
 ·obtain rfl:i=n:=by omega
  exact .inl ⟨l,hd σ H h2⟩
section
variable {X:Cx}
def rSplitL:V→List V→Hp→VK→Prop:=fun x vs H Q=>∃ z y,x=.str z∧vs=[.str y]∧(y.length == 0)=false∧z.length≤20000∧∀ l,H l=none→Q (.ref l) (upd H l (.lst ((Txt.split z y).map V.str)))
theorem mt_splitL:MtM X "str.split" rSplitL:=by
 intro pins s σ H x vs v us Q I rx rv h
 obtain⟨z,y,rfl,rfl,hy,hz,q⟩:=h
 obtain⟨t,rfl⟩:=rx
 obtain⟨u',rfl,ru⟩:=rv.one
 obtain⟨u,rfl⟩:=ru
 have hZ:z.length+2≤sizeLine:=by rw[sizeLine_eq];omega
 have hn:(Builtin.Str.partsBetween z (Builtin.Str.occurrences z y 0 z.length (z.length+1)) y.length).length≤20002:=by
  have e1:=StrLaws.occ_length_le z y 0 z.length (z.length+1)
  rw[length_partsBetween]
  omega
 have hn':(Builtin.Str.partsBetween z (Builtin.Str.occurrences z y 0 z.length (z.length+1)) y.length).length≤sizeLine:=by rw[sizeLine_eq];omega
 have fin:∀ (l:List (Str×Tok)) (k:Nat),l.map (·.1)=Txt.split z y→l.length≤20002→EP X pins σ Q (.ref s.heap.objs.size) { s with heap:=s.heap.push { cls:=.type "list", data:=.seq (strValues l).toArray },toks:=k }:=fun l k e hl=>by
  refine⟨.ref s.heap.objs.size,_,I.laid (t':=k) (fun b o e=>Heap.get?_push_of_some _ e) (Nat.le_refl _) (show ObjOk X.prog X.w _ _ _ (.lst ((Txt.split z y).map V.str)) from ⟨?_,strValues l,0,?_,Heap.get?_push_size _ rfl⟩),rfl,q _ (I.hok.fresh (Nat.le_refl _))⟩
  ·rw[List.length_map,← e,List.length_map,sizeLine_eq];omega
  ·rw[← e];exact vals_strs l
 cases h1:(decide (z.length < y.length) || decide (Builtin.Str.strKind z < Builtin.Str.strKind y))
 ·cases hf:(Builtin.Str.occurrences z y 0 z.length (z.length+1)).isEmpty
  ·refine call_meets F.slot_str_split (typeIs_str _ _ _) F.entry_str_split (F.args_str_split_2 _ _) (meets_str_split_sep z y t u h1 hy hf (by omega) hn') ?_
   show wants _ _ _ { s with toks:=_,heap:=s.heap.push { cls:=.type "list", data:=.seq (strsFrom s.toks (Builtin.Str.partsBetween z (Builtin.Str.occurrences z y 0 z.length (z.length+1)) y.length)).toArray } }
   rw[strsFrom_eq]
   refine fin (numbered s.toks _) _ ((numbered_texts _ _).trans ((if_neg (ne_true_of_eq_false h1)).trans (if_neg (ne_true_of_eq_false hf))).symm) ?_
   have e:=congrArg List.length (numbered_texts s.toks (Builtin.Str.partsBetween z (Builtin.Str.occurrences z y 0 z.length (z.length+1)) y.length))
   rw[List.length_map] at e
   omega
  ·exact call_meets F.slot_str_split (typeIs_str _ _ _) F.entry_str_split (F.args_str_split_2 _ _) (meets_str_split_not_found z y t u h1 hy hf) (fin [(z,t)] _ ((if_neg (ne_true_of_eq_false h1)).trans (if_pos hf)).symm (by show 1≤20002;decide))
 ·exact call_meets F.slot_str_split (typeIs_str _ _ _) F.entry_str_split (F.args_str_split_2 _ _) (meets_str_split_cannot_occur z y t u h1) (fin [(z,t)] _ (if_pos h1).symm (by show 1≤20002;decide))
end
end L2
namespace L2
open PySem PySem.Spec PyProof.Rows
section
variable {X:Cx}
def rListD0:List V→Hp→VK→Prop:=fun xs H Q=>∃ a,xs=[.ref a]∧H a=some (.dK [])∧∀ p,H p=none→Q (.ref p) (upd H p (.lst []))
theorem call_listD0(hc:X.calm=true):CallR X (.type "list") rListD0:=by
 intro pins s σ H xs us Q I r h
 obtain⟨a,rfl,ha,q⟩:=h
 obtain⟨u,rfl,ru⟩:=vals1 r
 cases ru
 obtain⟨z,hd,vs,rel,dd⟩:=dk_rd I.hok (.inl ha)
 have hl:vs.length=0:=by rw[← rel.length];rfl
 obtain⟨ep,hat⟩:=dd.dictAt
 refine PySem.W.kdl_call (PySem.W.kdl_dict hd) (I.ok.hd hc) hat (by rw[hl];decide) fun h' tk acc' c' hk hD hacc=>?_
 have ha0:acc'=#[]:=Array.eq_empty_of_size_eq_zero (by rw[hacc.1,hl])
 subst ha0
 exact⟨.ref s.heap.objs.size,_,I.laid (t':=tk) hk (Nat.le_refl _) (show ObjOk X.prog X.w _ h' _ (.lst []) from ⟨by decide,[],c',.nil,hD⟩),rfl,q _ (I.hok.fresh (Nat.le_refl _))⟩
end
end L2
set_option maxHeartbeats 4000000
namespace Toy
open PySem L2
open PySem.Builtin.Int (intBits)
def top(i:Nat):Stmt:=PySem.Challenge.pw_keelbond_k63_whole_long_books.main.body.getD i (.Pass ⟨0,0,0,0⟩)
abbrev s_is_name:Stmt:=top 34
theorem sc_is_name:FnScope ["text"] ["text"] (defScope s_is_name):=⟨rfl,rfl,rfl,by decide +kernel,rfl,by decide +kernel,by decide +kernel⟩
abbrev s_Debt_init:Stmt:=inClass (top 53) 0
theorem sc_Debt_init:FnScope ["self", "number", "word", "moment", "touched", "terms"] ["self", "number", "word", "moment", "touched", "terms"] (defScope s_Debt_init):=⟨rfl,rfl,rfl,by decide +kernel,rfl,by decide +kernel,by decide +kernel⟩
abbrev s_Debt_due:Stmt:=inClass (top 53) 1
theorem sc_Debt_due:FnScope ["self", "today", "terms", "until"] ["self", "today"] (defScope s_Debt_due):=⟨rfl,rfl,rfl,by decide +kernel,rfl,by decide +kernel,by decide +kernel⟩
abbrev s_Ship_init:Stmt:=inClass (top 54) 0
theorem sc_Ship_init:FnScope ["self"] ["self"] (defScope s_Ship_init):=⟨rfl,rfl,rfl,by decide +kernel,rfl,by decide +kernel,by decide +kernel⟩
abbrev s_Ship_copy:Stmt:=inClass (top 54) 1
theorem sc_Ship_copy:FnScope ["self", "other"] ["self"] (defScope s_Ship_copy):=⟨rfl,rfl,rfl,by decide +kernel,rfl,by decide +kernel,by decide +kernel⟩
abbrev s_Ship_claims:Stmt:=inClass (top 54) 2
theorem sc_Ship_claims:FnScope ["self"] ["self"] (defScope s_Ship_claims):=⟨rfl,rfl,rfl,by decide +kernel,rfl,by decide +kernel,by decide +kernel⟩
abbrev s_Ship_go_out:Stmt:=inClass (top 54) 6
theorem sc_Ship_go_out:FnScope ["self", "worth"] ["self", "worth"] (defScope s_Ship_go_out):=⟨rfl,rfl,rfl,by decide +kernel,rfl,by decide +kernel,by decide +kernel⟩
abbrev s_Ship_sail:Stmt:=inClass (top 54) 9
theorem sc_Ship_sail:FnScope ["self", "days"] ["self", "days"] (defScope s_Ship_sail):=⟨rfl,rfl,rfl,by decide +kernel,rfl,by decide +kernel,by decide +kernel⟩
abbrev s_Ship_owe:Stmt:=inClass (top 54) 10
theorem sc_Ship_owe:FnScope ["self", "word", "touched", "terms"] ["self", "word", "touched", "terms"] (defScope s_Ship_owe):=⟨rfl,rfl,rfl,by decide +kernel,rfl,by decide +kernel,by decide +kernel⟩
abbrev s_Ship_hire:Stmt:=inClass (top 54) 11
theorem sc_Ship_hire:FnScope ["self", "wage"] ["self", "wage"] (defScope s_Ship_hire):=⟨rfl,rfl,rfl,by decide +kernel,rfl,by decide +kernel,by decide +kernel⟩
abbrev s_is_from:Stmt:=top 64
theorem sc_is_from:FnScope ["number", "least", "most"] ["number", "least", "most"] (defScope s_is_from):=⟨rfl,rfl,rfl,by decide +kernel,rfl,by decide +kernel,by decide +kernel⟩
abbrev s_find:Stmt:=top 65
theorem sc_find:FnScope ["ships", "name"] ["ships", "name"] (defScope s_find):=⟨rfl,rfl,rfl,by decide +kernel,rfl,by decide +kernel,by decide +kernel⟩
abbrev s_find_at_sea:Stmt:=top 66
theorem sc_find_at_sea:FnScope ["ships", "name", "ship"] ["ships", "name"] (defScope s_find_at_sea):=⟨rfl,rfl,rfl,by decide +kernel,rfl,by decide +kernel,by decide +kernel⟩
abbrev s_out:Stmt:=top 68
theorem sc_out:FnScope ["ships", "name", "worth", "ship"] ["ships", "name", "worth"] (defScope s_out):=⟨rfl,rfl,rfl,by decide +kernel,rfl,by decide +kernel,by decide +kernel⟩
abbrev s_sail:Stmt:=top 70
theorem sc_sail:FnScope ["ship", "days"] ["ship", "days"] (defScope s_sail):=⟨rfl,rfl,rfl,by decide +kernel,rfl,by decide +kernel,by decide +kernel⟩
abbrev s_check_room:Stmt:=top 71
theorem sc_check_room:FnScope ["ship"] ["ship"] (defScope s_check_room):=⟨rfl,rfl,rfl,by decide +kernel,rfl,by decide +kernel,by decide +kernel⟩
abbrev s_hire:Stmt:=top 72
theorem sc_hire:FnScope ["ship", "wage"] ["ship", "wage"] (defScope s_hire):=⟨rfl,rfl,rfl,by decide +kernel,rfl,by decide +kernel,by decide +kernel⟩
abbrev s_do_at_sea:Stmt:=top 79
theorem sc_do_at_sea:FnScope ["ship", "deed", "word"] ["ship", "deed"] (defScope s_do_at_sea):=⟨rfl,rfl,rfl,by decide +kernel,rfl,by decide +kernel,by decide +kernel⟩
abbrev s_ship_behind:Stmt:=top 80
theorem sc_ship_behind:FnScope ["ships", "deed", "name", "ship"] ["ships", "deed"] (defScope s_ship_behind):=⟨rfl,rfl,rfl,by decide +kernel,rfl,by decide +kernel,by decide +kernel⟩
abbrev s_ships_behind:Stmt:=top 81
theorem sc_ships_behind:FnScope ["ships", "deed", "told"] ["ships", "deed"] (defScope s_ships_behind):=⟨rfl,rfl,rfl,by decide +kernel,rfl,by decide +kernel,by decide +kernel⟩
abbrev s_Book_init:Stmt:=inClass (top 83) 0
theorem sc_Book_init:FnScope ["self"] ["self"] (defScope s_Book_init):=⟨rfl,rfl,rfl,by decide +kernel,rfl,by decide +kernel,by decide +kernel⟩
abbrev s_Book_fleet:Stmt:=inClass (top 83) 1
theorem sc_Book_fleet:FnScope ["self"] ["self"] (defScope s_Book_fleet):=⟨rfl,rfl,rfl,by decide +kernel,rfl,by decide +kernel,by decide +kernel⟩
abbrev s_Book_do:Stmt:=inClass (top 83) 2
theorem sc_Book_do:FnScope ["self", "deed"] ["self", "deed"] (defScope s_Book_do):=⟨rfl,rfl,rfl,by decide +kernel,rfl,by decide +kernel,by decide +kernel⟩
abbrev s_Book_back:Stmt:=inClass (top 83) 3
theorem sc_Book_back:FnScope ["self"] ["self"] (defScope s_Book_back):=⟨rfl,rfl,rfl,by decide +kernel,rfl,by decide +kernel,by decide +kernel⟩
abbrev s_Book_again:Stmt:=inClass (top 83) 4
theorem sc_Book_again:FnScope ["self"] ["self"] (defScope s_Book_again):=⟨rfl,rfl,rfl,by decide +kernel,rfl,by decide +kernel,by decide +kernel⟩
abbrev s_Book_deeds:Stmt:=inClass (top 83) 5
theorem sc_Book_deeds:FnScope ["self"] ["self"] (defScope s_Book_deeds):=⟨rfl,rfl,rfl,by decide +kernel,rfl,by decide +kernel,by decide +kernel⟩
abbrev s_Book_ships:Stmt:=inClass (top 83) 6
theorem sc_Book_ships:FnScope ["self"] ["self"] (defScope s_Book_ships):=⟨rfl,rfl,rfl,by decide +kernel,rfl,by decide +kernel,by decide +kernel⟩
abbrev s_Book_day:Stmt:=inClass (top 83) 8
theorem sc_Book_day:FnScope ["self", "ship"] ["self", "ship"] (defScope s_Book_day):=⟨rfl,rfl,rfl,by decide +kernel,rfl,by decide +kernel,by decide +kernel⟩
abbrev s_Book_claims:Stmt:=inClass (top 83) 9
theorem sc_Book_claims:FnScope ["self", "ship"] ["self", "ship"] (defScope s_Book_claims):=⟨rfl,rfl,rfl,by decide +kernel,rfl,by decide +kernel,by decide +kernel⟩
abbrev s_number_text:Stmt:=top 85
theorem sc_number_text:FnScope ["number", "left", "written", "sign"] ["number"] (defScope s_number_text):=⟨rfl,rfl,rfl,by decide +kernel,rfl,by decide +kernel,by decide +kernel⟩
abbrev s_heap_text:Stmt:=top 86
theorem sc_heap_text:FnScope ["heap"] ["heap"] (defScope s_heap_text):=⟨rfl,rfl,rfl,by decide +kernel,rfl,by decide +kernel,by decide +kernel⟩
abbrev s_word_text:Stmt:=top 87
theorem sc_word_text:FnScope ["word"] ["word"] (defScope s_word_text):=⟨rfl,rfl,rfl,by decide +kernel,rfl,by decide +kernel,by decide +kernel⟩
abbrev s_deed_text:Stmt:=top 88
theorem sc_deed_text:FnScope ["deed"] ["deed"] (defScope s_deed_text):=⟨rfl,rfl,rfl,by decide +kernel,rfl,by decide +kernel,by decide +kernel⟩
abbrev s_page_text:Stmt:=top 89
theorem sc_page_text:FnScope ["book"] ["book"] (defScope s_page_text):=⟨rfl,rfl,rfl,by decide +kernel,rfl,by decide +kernel,by decide +kernel⟩
abbrev s__law_bag:Stmt:=top 91
theorem sc__law_bag:FnScope ["_law_script", "_law_salt", "_law_one"] ["_law_script"] (defScope s__law_bag):=⟨rfl,rfl,rfl,by decide +kernel,rfl,by decide +kernel,by decide +kernel⟩
abbrev s__law_pull:Stmt:=top 92
theorem sc__law_pull:FnScope ["_law_bag_here", "_law_many", "_law_seed", "_law_mixed", "_law_drawn"] ["_law_bag_here", "_law_many"] (defScope s__law_pull):=⟨rfl,rfl,rfl,by decide +kernel,rfl,by decide +kernel,by decide +kernel⟩
abbrev s__law_word:Stmt:=top 93
theorem sc__law_word:FnScope ["_law_bag_here", "_law_size"] ["_law_bag_here", "_law_size"] (defScope s__law_word):=⟨rfl,rfl,rfl,by decide +kernel,rfl,by decide +kernel,by decide +kernel⟩
abbrev s__law_names:Stmt:=top 94
theorem sc__law_names:FnScope ["_law_bag_here", "_law_start", "_law_way"] ["_law_bag_here"] (defScope s__law_names):=⟨rfl,rfl,rfl,by decide +kernel,rfl,by decide +kernel,by decide +kernel⟩
abbrev s__law_back:Stmt:=top 95
theorem sc__law_back:FnScope ["_law_book", "_law_word_here", "_law_found"] ["_law_book"] (defScope s__law_back):=⟨rfl,rfl,rfl,by decide +kernel,rfl,by decide +kernel,by decide +kernel⟩
abbrev s__law_again:Stmt:=top 96
theorem sc__law_again:FnScope ["_law_book", "_law_word_here", "_law_found"] ["_law_book"] (defScope s__law_again):=⟨rfl,rfl,rfl,by decide +kernel,rfl,by decide +kernel,by decide +kernel⟩
abbrev s__law_stands:Stmt:=top 97
theorem sc__law_stands:FnScope ["_law_book", "_law_name", "_law_day", "_law_rows"] ["_law_book", "_law_name", "_law_day"] (defScope s__law_stands):=⟨rfl,rfl,rfl,by decide +kernel,rfl,by decide +kernel,by decide +kernel⟩
abbrev s_law:Stmt:=top 98
theorem sc_law:FnScope ["_law_script", "_law_bag_here", "_law_names_here", "_law_many", "_law_book", "_law_name", "_law_days", "_law_k", "_law_at", "_law_many_days"] ["_law_script"] (defScope s_law):=⟨rfl,rfl,rfl,by decide +kernel,rfl,by decide +kernel,by decide +kernel⟩
structure Txt(K:PySem.W.Frag)(mg:Str→Option Value)(cx:Str→Addr):Prop where
 n_all:mg "all" = none
 n_len:mg "len" = none
 n_dict:mg "dict" = none
 n_list:mg "list" = none
 n_str:mg "str" = none
 n_abs:mg "abs" = none
 n_isinstance:mg "isinstance" = none
 n_tuple:mg "tuple" = none
 n_range:mg "range" = none
 n_int:mg "int" = none
 x_NoBack:Exc K mg "NoBack" (cx "NoBack")
 cl_Debt:Cls K (cx "Debt")
 cl_Ship:Cls K (cx "Ship")
 cl_Book:Cls K (cx "Book")
 na_Debt_number:NoAttr K (cx "Debt") "number"
 na_Debt_word:NoAttr K (cx "Debt") "word"
 na_Debt_moment:NoAttr K (cx "Debt") "moment"
 na_Debt_touched:NoAttr K (cx "Debt") "touched"
 na_Debt_terms:NoAttr K (cx "Debt") "terms"
 na_Ship_away:NoAttr K (cx "Ship") "away"
 na_Ship_today:NoAttr K (cx "Ship") "today"
 na_Ship_voyage:NoAttr K (cx "Ship") "voyage"
 na_Ship_funds:NoAttr K (cx "Ship") "funds"
 na_Ship_lots:NoAttr K (cx "Ship") "lots"
 na_Ship_debts:NoAttr K (cx "Ship") "debts"
 na_Ship_made:NoAttr K (cx "Ship") "made"
 na_Ship_landed:NoAttr K (cx "Ship") "landed"
 na_Book_steps:NoAttr K (cx "Book") "steps"
 na_Book_undone:NoAttr K (cx "Book") "undone"
 g_HULL_AND_FREIGHTS:∃ t,mg "HULL_AND_FREIGHTS" = some (.ref t)∧KTup K t [.int 0,.int 1]
 g_LETTERS:∃ t,mg "LETTERS" = some (.str "abcdefghijklmnopqrstuvwxyz" t)
 g_MOST_WORTH:∃ t,mg "MOST_WORTH" = some (.int 1000000000 t)
 g_MOST_SHIPS:∃ t,mg "MOST_SHIPS" = some (.int 4 t)
 g_MOST_CLAIMS:∃ t,mg "MOST_CLAIMS" = some (.int 10 t)
 g_MOST_WAGE:∃ t,mg "MOST_WAGE" = some (.int 1000000 t)
 g_MOST_DAYS:∃ t,mg "MOST_DAYS" = some (.int 1000 t)
structure Pt(H:Hp)(p:Addr)(n u:Int)(k l:Nat):Prop where
 at_:H p=some (.tup [.int n,.int u])
 pos:0 < u
 cop:Int.gcd n u=1
 zn:Sz k n
 zu:Sz l u
theorem str_ext{a b:Str}(h:sg a=sg b):a=b:=PyProof.Rows.ext_toList h
theorem sg_of(s:String):sg (Str.ofString s)=s.toList.map Char.toNat:=by
 unfold sg
 exact PyProof.Rows.signs_ofString s
theorem sg_num(m:Nat):sg (dec (m:Int))=(Nat.toDigits 10 m).map Char.toNat:=PySem.W.KIN.signs_num m
theorem dec_neg(m:Nat):dec (-((m+1:Nat):Int))=Str.ofString "-" ++ dec ((m+1:Nat):Int):=by
 apply str_ext
 rw[sg_add,sg_num]
 have e:toString (-((m+1:Nat):Int)) = "-" ++ toString (m+1):=rfl
 unfold dec
 rw[e,sg_of,String.toList_append,List.map_append,sg_of]
 congr 1
 show (Nat.repr (m+1)).toList.map Char.toNat=_
 rw[Nat.toList_repr]
theorem em_app(a:Str):Str.ofString "" ++ a=a:=by
 apply str_ext
 rw[sg_add,sg_of]
 rfl
theorem app_em(a:Str):a++Str.ofString "" = a:=by
 apply str_ext
 rw[sg_add,sg_of]
 exact List.append_nil _
theorem sg_dec{m k:Nat}(hk:0 < k)(h:m < 10 ^ k):(sg (dec (m:Int))).length≤k:=by
 rw[sg_len]
 refine PyProof.Rows.toString_length_le (v:=(m:Int)) (by omega) hk ?_
 have:((m:Nat):Int) < ((10 ^ k:Nat):Int):=Int.ofNat_lt.mpr h
 rwa [Int.natCast_pow] at this
theorem dec_len{n:Int}(h:n.natAbs < 2 ^ 200):(dec n).length≤70:=by
 have hb:(2:Nat) ^ 200≤10 ^ 61:=by decide +kernel
 rcases Int.eq_nat_or_neg n with ⟨m,rfl | rfl⟩
 ·rw[← sg_len]
  have:m < 10 ^ 61:=by rw[Int.natAbs_natCast] at h;omega
  exact Nat.le_trans (sg_dec (by decide) this) (by decide)
 ·rw[Int.natAbs_neg,Int.natAbs_natCast] at h
  cases m with
  | zero=>rw[← sg_len];exact Nat.le_trans (sg_dec (m:=0) (k:=1) (by decide) (by decide)) (by decide)
  | succ m =>
   rw[dec_neg,← sg_len,sg_add,List.length_append,sg_of]
   have:=sg_dec (m:=m+1) (k:=61) (by decide) (by omega)
   show 1+_≤70
   omega
def jn(c:Nat):List (List Nat)→List Nat
 | []=>[]
 | [x]=>x
 | x::y::r=>x++c::jn c (y::r)
theorem sg_sj(c:Nat):∀ ps:List Str,sg (Str.join ⟨#[c]⟩ ps)=jn c (ps.map sg)
 | []=>rfl
 | [x]=>rfl
 | x::y::r=>by
  have e:Str.join ⟨#[c]⟩ (x::y::r)=x++⟨#[c]⟩++Str.join ⟨#[c]⟩ (y::r):=rfl
  rw[e,sg_add,sg_add,sg_sj c (y::r),List.append_assoc]
  rfl
theorem cut_eq{c:Nat}:∀{x y r s:List Nat},c∉x→c∉y→x++c::r=y++c::s→x=y∧r=s
 | [],[],r,s,_,_,h=>⟨rfl,(List.cons.inj h).2⟩
 | [],b::y,r,s,_,hy,h=>absurd ((List.cons.inj h).1) fun z=>hy (by rw[z];exact List.mem_cons_self)
 | a::x,[],r,s,hx,_,h=>absurd ((List.cons.inj h).1) fun z=>hx (by rw[← z];exact List.mem_cons_self)
 | a::x,b::y,r,s,hx,hy,h=>by
  obtain⟨h1,h2⟩:=List.cons.inj h
  obtain⟨e1,e2⟩:=cut_eq (fun z=>hx (List.mem_cons_of_mem _ z)) (fun z=>hy (List.mem_cons_of_mem _ z)) h2
  exact⟨by rw[h1,e1],e2⟩
theorem jn_inj{c:Nat}:∀ {ps qs:List (List Nat)},ps≠[]→qs≠[]→(∀ p∈ps,c∉p)→(∀ q∈qs,c∉q)→jn c ps=jn c qs→ps=qs
 | [],_,h,_,_,_,_=>absurd rfl h
 | _::_,[],_,h,_,_,_=>absurd rfl h
 | [x],[y],_,_,_,_,h=>by rw[show x=y from h]
 | [x],y::z::r,_,_,hx,_,h=>absurd (by rw[show x=y++c::jn c (z::r) from h];simp) (hx x List.mem_cons_self)
 | x::w::r,[y],_,_,_,hy,h=>absurd (by rw[← show x++c::jn c (w::r)=y from h];simp) (hy y List.mem_cons_self)
 | x::w::r,y::z::s,_,_,hx,hy,h=>by
  obtain⟨e1,e2⟩:=cut_eq (hx x List.mem_cons_self) (hy y List.mem_cons_self) h
  rw[e1,jn_inj (by simp) (by simp) (fun p hp=>hx p (List.mem_cons_of_mem _ hp)) (fun p hp=>hy p (List.mem_cons_of_mem _ hp)) e2]
theorem split_ne(x:Str)(c:Nat):Txt.split x ⟨#[c]⟩≠[]:=by
 unfold Txt.split
 split
 ·simp
 ·split
  ·simp
  ·intro z
   have:=congrArg List.length z
   rw[PySem.length_partsBetween] at this
   cases this
theorem split_join{c:Nat}{ws:List Str}(h0:ws≠[])(h:∀ w∈ws,c∉sg w):Txt.split (Str.join ⟨#[c]⟩ ws) ⟨#[c]⟩=ws:=by
 have e:=StrLaws.join_split (Str.join ⟨#[c]⟩ ws) ⟨#[c]⟩
 have e2:=congrArg sg e
 rw[sg_sj,sg_sj] at e2
 have f:=StrLaws.split_free (Str.join ⟨#[c]⟩ ws) c
 have k:=jn_inj (by simpa using split_ne _ c) (by simpa using h0) (fun p hp=>by
  obtain⟨q,hq,rfl⟩:=List.mem_map.mp hp
  exact f q hq) (fun p hp=>by
  obtain⟨q,hq,rfl⟩:=List.mem_map.mp hp
  exact h q hq) e2
 exact (List.map_inj_right fun a b h=>str_ext h).mp k
theorem txt_join(s:Str)(ws:List Str):Txt.join s ws=Str.join s ws:=StrLaws.glued_eq_join s ws
def hpT(js:List Int):Str:=Txt.join (Str.ofString "") (js.map dec)
def txD:Dt→Str
 | .int n=>dec n
 | .str z=>z
 | .tup ds=>Txt.join (Str.ofString "") (ds.map fun d=>match d with | .int j=>dec j | _=>Str.ofString "")
 | _=>Str.ofString ""
theorem txD_hp(js:List Int):txD (.tup (js.map Dt.int))=hpT js:=by
 show Txt.join _ (List.map _ (List.map Dt.int js))=Txt.join _ _
 rw[List.map_map]
 rfl
inductive okW:Nat→Dt→Prop
 | nm (z:Str):nameB z=true→okW 0 (.str z)
 | hp (i:Nat):0 < i→i < 64→okW 1 (.tup ((Srt.sub i).map Dt.int))
 | nu (n:Nat):n < 10 ^ 13→okW 2 (.int n)
inductive okX:Dt→Prop
 | str (z:Str):z.length≤70→okX (.str z)
 | hp (js:List Int):js.length≤6→(∀ x∈js,0≤x∧x < 10)→okX (.tup (js.map Dt.int))
 | int (n:Int):n.natAbs < 2 ^ 200→okX (.int n)
theorem sub_ok:∀ i,i < 64→(Srt.sub i).length≤6∧∀ x∈Srt.sub i,0≤x∧x < 6:=by decide +kernel
theorem name_len{z:Str}(h:nameB z=true):1≤z.length∧z.length≤8∧∀ c∈sg z,lowC c=true:=by
 unfold nameB at h
 simp only[Bool.and_eq_true,decide_eq_true_eq] at h
 exact⟨h.1,h.2.1,fun c hc=>List.all_eq_true.mp h.2.2 c hc⟩
theorem dg_all(m:Nat):∀ c∈sg (dec (m:Int)),48≤c∧c≤57:=by
 intro c hc
 rw[sg_num] at hc
 obtain⟨ch,hch,rfl⟩:=List.mem_map.mp hc
 exact PyProof.Rows.digit_range (Nat.isDigit_of_mem_toDigits (by decide) (by decide) hch)
theorem hp_sg:∀ i,i < 64→sg (hpT (Srt.sub i))=(Srt.sub i).map fun x=>48+x.toNat:=by decide +kernel
theorem blank_eq:Str.ofString " " = (⟨#[32]⟩:Str):=by decide +kernel
theorem okW.free{k:Nat}{d:Dt}(h:okW k d):32∉sg (txD d):=by
 intro hc
 cases h with
 | nm z hz =>
  have:=(name_len hz).2.2 _ hc
  cases this
 | hp i h0 h1 =>
  rw[txD_hp,hp_sg i h1] at hc
  obtain⟨x,hx,e⟩:=List.mem_map.mp hc
  omega
 | nu n hn =>
  have:=dg_all n _ hc
  omega
theorem dens_ints{H:Hp}:∀{js:List Int}{xs:List V},Dens H (js.map Dt.int) xs→xs=js.map V.int
 | [],xs,h=>h
 | j::js,xs,h=>by
  obtain⟨y,ys,rfl,h1,h2⟩:=h
  rw[show y=.int j from h1,dens_ints h2]
  rfl
theorem ty_tup{H:Hp}{t:Addr}{xs:List V}(h:H t=some (.tup xs)):tyNm (.ref t) H=some "tuple" := by
 unfold tyNm
 simp only[h]
theorem okX.len{d:Dt}(h:okX d):(txD d).length≤420:=by
 cases h with
 | str z hz=>exact Nat.le_trans hz (by decide)
 | int n hn=>exact Nat.le_trans (dec_len hn) (by decide)
 | hp js hj hb =>
  rw[txD_hp]
  unfold hpT
  rw[txt_join,← sg_len]
  have:∀ l:List Int,(∀ x∈l,0≤x∧x < 10)→(sg (Str.join (Str.ofString "") (l.map dec))).length≤70*l.length:=by
   intro l
   induction l with
   | nil=>intro _;exact Nat.le_refl _
   | cons a l ih =>
    intro h
    have h1:=ih fun x hx=>h x (List.mem_cons_of_mem _ hx)
    have h2:=h a List.mem_cons_self
    have h3:=dec_len (n:=a) (Nat.lt_of_lt_of_le (by omega:a.natAbs < 10) (by decide +kernel))
    cases l with
    | nil =>
     show (sg (dec a)).length≤70
     rw[sg_len]
     exact h3
    | cons b l =>
     have e:Str.join (Str.ofString "") ((a::b::l).map dec)=dec a++Str.ofString "" ++ Str.join (Str.ofString "") ((b::l).map dec):=rfl
     rw[e,app_em,sg_add,List.length_append,sg_len (dec a)]
     rw[List.length_cons]
     omega
  have:=this js hb
  omega
theorem tx_sum:∀ ds:List Dt,(∀ d∈ds,okX d)→((ds.map txD).map (·.length)).sum≤420*ds.length
 | [],_=>Nat.le_refl _
 | d::ds,h=>by
  have h1:=tx_sum ds fun x hx=>h x (List.mem_cons_of_mem _ hx)
  have h2:=(h d List.mem_cons_self).len
  rw[List.map_cons,List.map_cons,List.sum_cons,List.length_cons]
  omega
theorem okW.len{k:Nat}{d:Dt}(h:okW k d):(txD d).length≤13:=by
 cases h with
 | nm z hz =>
  have:=(name_len hz).2.1
  exact Nat.le_trans this (by decide)
 | hp i h0 h1 =>
  rw[txD_hp,← sg_len,hp_sg i h1,List.length_map]
  exact Nat.le_trans (sub_ok i h1).1 (by decide)
 | nu n hn =>
  show (dec (n:Int)).length≤13
  rw[← sg_len]
  exact sg_dec (by decide) hn
theorem i_tSl{r:V→Option Int→Option Int→Hp→VK→Prop}{te:TE}{tl th:TO}{σ:St}{H:Hp}{Q:VK}(h:te σ H fun x H1=>tl σ H1 fun l H2=>th σ H2 fun u H3=>r x l u H3 Q):tSl r te tl th σ H Q:=h
theorem Dens.snoc{H:Hp}:∀{ds:List Dt}{xs:List V}{d:Dt}{v:V},Dens H ds xs→Den H d v→Dens H (ds++[d]) (xs++[v])
 | [],xs,d,v,h,hv=>by
  have h:xs=[]:=h
  subst h
  exact dens1 hv dens0
 | e::ds,xs,d,v,h,hv=>by
  obtain⟨y,ys,rfl,h1,h2⟩:=h
  exact dens1 h1 (Dens.snoc h2 hv)
theorem okW.ts{H H':Hp}{k:Nat}{d:Dt}{v:V}(h:okW k d)(hv:Den H d v)(s:TS H H'):Den H' d v:=by
 cases h with
 | nm z hz=>exact hv
 | nu n hn=>exact hv
 | hp i h0 h1 =>
  obtain⟨t,xs,rfl,ht,hD⟩:=hv
  rw[dens_ints hD] at ht
  exact⟨t,_,rfl,s _ _ ht,ints_dens _⟩
theorem fr_put{B l:Addr}{H H2:Hp}{o:HO}(hl:H l=none)(f:Fr1 B H H2):Fr1 B H (upd H2 l o):=fun b u nb hb=>by
 rw[upd_ne (fun z=>by rw[z,hl] at hb;cases hb)]
 exact f b u nb hb
theorem atI_let:∀ d:Nat,d < 26→atI LET.cps.toList (d:Int)=some (97+d):=by decide +kernel
theorem let_len:LET.length≤1000:=by decide +kernel
theorem em_eq:Str.ofString "" = (⟨#[]⟩:Str):=by decide +kernel
inductive AlD:Nat→Dt→Prop
 | int (n:Nat) (i:Int):AlD (n+1) (.int i)
 | str (n:Nat) (z:Str):AlD (n+1) (.str z)
 | tup (n:Nat) (l:List Dt):l.length≤1000→(∀ d∈l,AlD n d)→AlD (n+1) (.tup l)
def mkF(ns:List Str)(vs:List V):List (Str×V):=ns.zip vs
theorem lk_mkF{f:Str}{v:V}:∀{ns:List Str}{vs:List V}{i:Nat},ns.Nodup→ns[i]?=some f→vs[i]?=some v→(mkF ns vs).lookup f=some v
 | n::ns,u::vs,0,_,h1,h2=>by
  cases h1;cases h2
  show List.lookup f ((f,v)::ns.zip vs)=_
  rw[List.lookup_cons,beq_self_eq_true]
 | n::ns,u::vs,i+1,nd,h1,h2=>by
  have nd':=List.nodup_cons.mp nd
  have ne:f≠n:=fun z=>nd'.1 (z▸List.mem_of_getElem? h1)
  show List.lookup f ((n,u)::ns.zip vs)=_
  rw[List.lookup_cons,beq_eq_false_iff_ne.mpr ne]
  exact lk_mkF nd'.2 h1 h2
 | [],_,i,_,h1,_=>by simp at h1
 | _::_,[],i,_,_,h2=>by simp at h2
theorem no_mkF{m:Str}:∀{ns:List Str}{vs:List V},m∉ns→(mkF ns vs).lookup m=none
 | [],_,_=>rfl
 | _::_,[],_=>rfl
 | n::ns,u::vs,h=>by
  show List.lookup m ((n,u)::ns.zip vs)=_
  have ne:m≠n:=fun z=>h (z▸List.mem_cons_self)
  rw[List.lookup_cons,beq_eq_false_iff_ne.mpr ne]
  exact no_mkF fun z=>h (List.mem_cons_of_mem _ z)
theorem pt_mkF{f:Str}{y:V}:∀{ns:List Str}{vs:List V}{i:Nat},ns.Nodup→ns[i]?=some f→i < vs.length→putF f y (mkF ns vs)=mkF ns (vs.set i y)
 | n::ns,u::vs,0,_,h1,_=>by
  cases h1
  show (if f=f then _ else _)=_
  rw[if_pos rfl];rfl
 | n::ns,u::vs,i+1,nd,h1,h2=>by
  have nd':=List.nodup_cons.mp nd
  have ne:¬ n=f:=fun z=>nd'.1 (z▸List.mem_of_getElem? h1)
  show (if n=f then _ else (n,u)::putF f y (mkF ns vs))=_
  rw[if_neg ne,pt_mkF nd'.2 h1 (Nat.lt_of_succ_lt_succ h2)];rfl
 | [],_,i,_,h1,_=>by simp at h1
 | _::_,[],i,_,_,h2=>by simp at h2
theorem nw_mkF{f:Str}{y:V}:∀{ns:List Str}{vs:List V},f∉ns→ns.length=vs.length→putF f y (mkF ns vs)=mkF (ns++[f]) (vs++[y])
 | [],[],_,_=>rfl
 | n::ns,u::vs,h,l=>by
  show (if n=f then _ else (n,u)::putF f y (mkF ns vs))=_
  have ne:¬ n=f:=fun z=>h (z▸List.mem_cons_self)
  rw[if_neg ne,nw_mkF (fun z=>h (List.mem_cons_of_mem _ z)) (by simpa using l)];rfl
 | [],_::_,_,l=>by simp at l
 | _::_,[],_,l=>by simp at l
def shN:List Str:=["away", "today", "voyage", "funds", "lots", "debts", "made", "landed"]
def dbN:List Str:=["number", "word", "moment", "touched", "terms"]
def bkN:List Str:=["steps", "undone"]
theorem sh_nd:shN.Nodup:=by decide +kernel
theorem db_nd:dbN.Nodup:=by decide +kernel
theorem bk_nd:bkN.Nodup:=by decide +kernel
def Ob(C:Addr)(ns:List Str)(H:Hp)(p:Addr)(vs:List V):Prop:=∃ dx,H p=some (.ins C dx (mkF ns vs))∧vs.length=ns.length
theorem Ob.same{C:Addr}{ns:List Str}{H H':Hp}{p:Addr}{vs:List V}(o:Ob C ns H p vs)(s:Same H H'):Ob C ns H' p vs:=by
 obtain⟨dx,h,l⟩:=o
 exact⟨dx,s _ _ h,l⟩
theorem Ob.put{C:Addr}{ns:List Str}{H:Hp}{p dx:Addr}{vs:List V}{f:Str}{y:V}{i:Nat}(nd:ns.Nodup)(hi:ns[i]?=some f)(hl:vs.length=ns.length):Ob C ns (upd H p (.ins C dx (putF f y (mkF ns vs)))) p (vs.set i y):=by
 have h:i < vs.length:=by rw[hl];exact (List.getElem?_eq_some_iff.mp hi).1
 exact⟨dx,by rw[upd_same,pt_mkF nd hi h],by rw[List.length_set];exact hl⟩
theorem mkF_len{ns:List Str}{vs:List V}(h:vs.length=ns.length):(mkF ns vs).length=ns.length:=by
 unfold mkF
 rw[List.length_zip,h,Nat.min_self]
section
variable {K:PySem.W.Frag}{σ:St}{H:Hp}{Q:VK}{D:Ends}{C p:Addr}{m f:Str}{ns:List Str}{vs:List V}{v:V}{i:Nat}
theorem i_get(o:Ob C ns H p vs)(c:Cls K C)(n:NoAttr K C f)(nd:ns.Nodup)(hi:ns[i]?=some f)(hv:vs[i]?=some v)(h:Q v H):rFld K f Q (V.ref p) H:=by
 obtain⟨dx,ho,_⟩:=o
 exact⟨p,C,dx,_,v,rfl,ho,c,n,lk_mkF nd hi hv,h⟩
theorem i_put{R:Hp→Prop}{y:V}(o:Ob C ns H p vs)(c:Cls K C)(n:NoAttr K C f)(nd:ns.Nodup)(hi:ns[i]?=some f)(h1:ns.length < 1000)(h:∀ H',Ob C ns H' p (vs.set i y)→Fr1 p H H'→R H'):rPut K f y R (V.ref p) H:=by
 obtain⟨dx,ho,hl⟩:=o
 exact⟨p,C,dx,_,rfl,ho,c,n,by rw[mkF_len hl];exact h1,h _ (Ob.put nd hi hl) Fr1.upd⟩
theorem i_new{R:Hp→Prop}{y:V}{ns':List Str}(o:Ob C ns H p vs)(c:Cls K C)(n:NoAttr K C f)(nf:f∉ns)(e:ns'=ns++[f])(h1:ns.length < 1000)(h:∀ H',Ob C ns' H' p (vs++[y])→Fr1 p H H'→R H'):rPut K f y R (V.ref p) H:=by
 obtain⟨dx,ho,hl⟩:=o
 subst e
 exact⟨p,C,dx,_,rfl,ho,c,n,by rw[mkF_len hl];exact h1,h _ ⟨dx,by rw[upd_same,nw_mkF nf hl.symm],by rw[List.length_append,List.length_append,hl];rfl⟩ Fr1.upd⟩
theorem i_aug{R:Addr→Addr→V→Hp→Prop}(o:Ob C ns H p vs)(c:Cls K C)(n:NoAttr K C f)(nd:ns.Nodup)(hi:ns[i]?=some f)(hv:vs[i]?=some v)(h:R p C v H):rAug K f R (V.ref p) H:=by
 obtain⟨dx,ho,_⟩:=o
 exact⟨p,C,dx,_,v,rfl,ho,c,n,lk_mkF nd hi hv,h⟩
theorem i_aput{R:Hp→Prop}{y:V}(o:Ob C ns H p vs)(nd:ns.Nodup)(hi:ns[i]?=some f)(h1:ns.length < 1000)(h:∀ H',Ob C ns H' p (vs.set i y)→Fr1 p H H'→R H'):rAput C f y p R H:=by
 obtain⟨dx,ho,hl⟩:=o
 exact⟨dx,_,ho,by rw[mkF_len hl];exact h1,h _ (Ob.put nd hi hl) Fr1.upd⟩
theorem i_meth{R:Addr→Hp→Prop}(o:Ob C ns H p vs)(nm:m∉ns)(h:R p H):rM C m R (V.ref p) H:=by
 obtain⟨dx,ho,_⟩:=o
 exact⟨p,dx,_,rfl,ho,no_mkF nm,h⟩
end
def TupAt(K:PySem.W.Frag)(H:Hp)(t:Addr)(xs:List V):Prop:=H t=some (.tup xs)∨KTup K t xs
theorem TupAt.ts{K:PySem.W.Frag}{H H':Hp}{t:Addr}{xs:List V}(h:TupAt K H t xs)(s:Toy.TS H H'):TupAt K H' t xs:=h.imp (fun z=>s _ _ z) id
structure Dbt where
 no:Int
 word:Str
 mom:Int
 tch:List Int
 tm:List (Option Int)
def ov:Option Int→V
 | none=>.non
 | some i=>.int i
def DebtAt(K:PySem.W.Frag)(C:Addr)(H:Hp)(q:Addr)(d:Dbt):Prop:=∃ t e,Ob C dbN H q [.int d.no,.str d.word,.int d.mom,.ref t,.ref e]∧TupAt K H t (d.tch.map V.int)∧H e=some (.tup (d.tm.map ov))
def DebtsAt(K:PySem.W.Frag)(C:Addr)(H:Hp)(xs:List V)(ds:List Dbt):Prop:=xs.length=ds.length∧∀(i:Nat) d,ds[i]?=some d→∃ q,xs[i]?=some (.ref q)∧DebtAt K C H q d
structure Shp where
 away:Bool
 today:Int
 voyage:Int
 funds:List Int
 lots:List Int
 debts:List Dbt
 made:Int
 landed:List V
def ShipAt(X:Addr→Prop)(K:PySem.W.Frag)(CS CD:Addr)(H:Hp)(p:Addr)(s:Shp):Prop:=∃ fu lo de la xs,Ob CS shN H p [.bl s.away,.int s.today,.int s.voyage,.ref fu,.ref lo,.ref de,.int s.made,.ref la]∧H fu=some (.lst (s.funds.map V.int))∧H lo=some (.lst (s.lots.map V.int))∧H de=some (.lst xs)∧DebtsAt K CD H xs s.debts∧H la=some (.lst s.landed)∧¬ X fu∧¬ X lo∧¬ X de∧¬ X la
theorem Ob.ne{C:Addr}{ns:List Str}{H:Hp}{p a:Addr}{vs:List V}{o:HO}(h:Ob C ns H p vs)(ha:H a=some o)(hn:∀ C dx fs,o≠.ins C dx fs):a≠p:=fun z=>by
 obtain⟨dx,e,_⟩:=h
 rw[z,e] at ha
 exact hn _ _ _ (Option.some.inj ha).symm
theorem Ob.neO{C D:Addr}{ns ms:List Str}{H:Hp}{p q:Addr}{vs us:List V}(h:Ob C ns H p vs)(g:Ob D ms H q us)(l:ns.length≠ms.length):q≠p:=fun z=>by
 obtain⟨dx,e,l1⟩:=h
 obtain⟨dy,e',l2⟩:=g
 rw[z,e] at e'
 have e2:mkF ns vs=mkF ms us:=by injection e' with e';injection e'
 have:=congrArg List.length e2
 rw[mkF_len l1,mkF_len l2] at this
 exact l this
theorem Ob.ts{C:Addr}{ns:List Str}{H H':Hp}{p:Addr}{vs:List V}(h:Ob C ns H p vs)(f:Fr1 p H H'):Toy.TS H H':=fun a xs e=>f _ _ (h.ne e fun _ _ _ z=>by cases z) e
theorem Ob.frm{D:Addr}{ms:List Str}{H H':Hp}{p q:Addr}{us:List V}(g:Ob D ms H q us)(f:Fr1 p H H')(n:q≠p):Ob D ms H' q us:=by
 obtain⟨dx,e,l⟩:=g
 exact⟨dx,f _ _ n e,l⟩
theorem DebtAt.same{K:PySem.W.Frag}{C:Addr}{H H':Hp}{q:Addr}{d:Dbt}(h:DebtAt K C H q d)(s:Same H H'):DebtAt K C H' q d:=by
 obtain⟨t,e,o,h1,h2⟩:=h
 exact⟨t,e,o.same s,h1.ts (TS.of s),s _ _ h2⟩
theorem DebtsAt.same{K:PySem.W.Frag}{C:Addr}{H H':Hp}{xs:List V}{ds:List Dbt}(h:DebtsAt K C H xs ds)(s:Same H H'):DebtsAt K C H' xs ds:=⟨h.1,fun i d hd=>by
 obtain⟨q,e,a⟩:=h.2 i d hd
 exact⟨q,e,a.same s⟩⟩
theorem ShipAt.same{X:Addr→Prop}{K:PySem.W.Frag}{CS CD:Addr}{H H':Hp}{p:Addr}{s:Shp}(h:ShipAt X K CS CD H p s)(m:Same H H'):ShipAt X K CS CD H' p s:=by
 obtain⟨fu,lo,de,la,xs,o,h1,h2,h3,h4,h5,hx⟩:=h
 exact⟨fu,lo,de,la,xs,o.same m,m _ _ h1,m _ _ h2,m _ _ h3,h4.same m,m _ _ h5,hx⟩
theorem DebtsAt.fr{K:PySem.W.Frag}{CS CD:Addr}{H H':Hp}{p:Addr}{vs xs:List V}{ds:List Dbt}(h:DebtsAt K CD H xs ds)(o:Ob CS shN H p vs)(f:Fr1 p H H'):DebtsAt K CD H' xs ds:=⟨h.1,fun i d hd=>by
 obtain⟨q,e,t,u,g,h1,h2⟩:=h.2 i d hd
 exact⟨q,e,t,u,g.frm f (o.neO g (by decide)),h1.ts (o.ts f),o.ts f _ _ h2⟩⟩
theorem Ob.lst{C:Addr}{ns:List Str}{H H':Hp}{p a:Addr}{vs xs:List V}(h:Ob C ns H p vs)(f:Fr1 p H H')(e:H a=some (.lst xs)):H' a=some (.lst xs):=f _ _ (h.ne e fun _ _ _ z=>by cases z) e
theorem DebtsAt.snoc{K:PySem.W.Frag}{C q:Addr}{H:Hp}{xs:List V}{ds:List Dbt}{d:Dbt}(h:DebtsAt K C H xs ds)(g:DebtAt K C H q d):DebtsAt K C H (xs++[.ref q]) (ds++[d]):=by
 refine⟨by rw[List.length_append,List.length_append,h.1];rfl,fun i e hi=>?_⟩
 rcases Nat.lt_trichotomy i ds.length with l | l | l
 ·rw[List.getElem?_append_left l] at hi
  obtain⟨q',e1,e2⟩:=h.2 i e hi
  exact⟨q',by rw[List.getElem?_append_left (by rw[h.1];exact l)];exact e1,e2⟩
 ·subst l
  rw[List.getElem?_append_right (Nat.le_refl _),Nat.sub_self] at hi
  cases hi
  exact⟨q,by rw[List.getElem?_append_right (by rw[h.1];exact Nat.le_refl _),h.1,Nat.sub_self];rfl,g⟩
 ·rw[List.getElem?_eq_none (by rw[List.length_append];show ds.length+1≤i;omega)] at hi
  cases hi
theorem comp_it{K:PySem.W.Frag}{n:Nat}{fr:List Nat}{te:TE}{g:TG}{tt:TT}{tx:TE}{σ:St}{H:Hp}{Q:VK}(x:V)(h:∀ R:VK,R x H→te σ H R)(z:tComp n fr (iList K (tC x)) g tt tx σ H Q):tComp n fr (iList K te) g tt tx σ H Q:=h _ z
theorem fld_it{K:PySem.W.Frag}{C p:Addr}{ns:List Str}{vs:List V}{f:Str}{v:V}{i j:Nat}{σ:St}{H:Hp}(hσ:σ[j]?=some (some (.ref p)))(o:Ob C ns H p vs)(c:Cls K C)(n:NoAttr K C f)(nd:ns.Nodup)(hi:ns[i]?=some f)(hv:vs[i]?=some v):∀ R:VK,R v H→tFld K (tVar j) f σ H R:=fun R h=>i_tFld (i_tVar hσ (i_get o c n nd hi hv h))
def FleetAt(X:Addr→Prop)(K:PySem.W.Frag)(CS CD:Addr)(H:Hp)(f:Addr)(L:Str→Option Shp)(n:Nat):Prop:=∃ kvs:List (Key×V),H f=some (.dK kvs)∧kvs.length=n∧(∀ z,L z=none→valV kvs (Sum.inr z)=none)∧∀ z s,L z=some s→∃ p,valV kvs (Sum.inr z)=some (.ref p)∧ShipAt X K CS CD H p s
theorem FleetAt.same{X:Addr→Prop}{K:PySem.W.Frag}{CS CD:Addr}{H H':Hp}{f:Addr}{L:Str→Option Shp}{n:Nat}(h:FleetAt X K CS CD H f L n)(m:Same H H'):FleetAt X K CS CD H' f L n:=by
 obtain⟨kvs,h1,h2,h3,h4⟩:=h
 refine⟨kvs,m _ _ h1,h2,h3,fun z s hz=>?_⟩
 obtain⟨p,e,a⟩:=h4 z s hz
 exact⟨p,e,a.same m⟩
def upL(L:Str→Option Shp)(z:Str)(s:Shp):Str→Option Shp:=fun y=>if y=z then some s else L y
theorem name_ok{z:Str}(h:nameB z=true):z.length≤1000∧∀ c∈sg z,c < 128:=by
 obtain⟨_,l,c⟩:=name_len h
 refine⟨by omega,fun x hx=>?_⟩
 have:=c x hx
 unfold lowC at this
 simp only[Bool.and_eq_true,decide_eq_true_eq] at this
 omega
theorem putK_len{kvs:List (Key×V)}{k:Key}{v x:V}(h:valV kvs k=some x):(putK kvs k v).length=kvs.length:=by
 unfold putK
 rw[valV_any,h]
 rw[if_pos (by rfl),List.length_map]
theorem FleetAt.put{X:Addr→Prop}{K:PySem.W.Frag}{CS CD:Addr}{H H':Hp}{f f' p:Addr}{L:Str→Option Shp}{n:Nat}{kvs:List (Key×V)}{z:Str}{s:Shp}(h2:kvs.length=n)(h3:∀ z,L z=none→valV kvs (Sum.inr z)=none)(h4:∀ z s,L z=some s→∃ p,valV kvs (Sum.inr z)=some (.ref p)∧ShipAt X K CS CD H' p s)
  (hp:ShipAt X K CS CD H' p s) (hf:H' f'=some (.dK (putK kvs (Sum.inr z) (.ref p)))):FleetAt X K CS CD H' f' (upL L z s) (if L z=none then n+1 else n):=by
 refine⟨_,hf,?_,fun y hy=>?_,fun y u hy=>?_⟩
 ·by_cases e:L z=none
  ·rw[if_pos e,putK_new _ (h3 z e),List.length_append,h2];rfl
  ·rw[if_neg e]
   cases e2:L z with
   | none=>exact absurd e2 e
   | some u =>
    obtain⟨q,hq,_⟩:=h4 z u e2
    rw[putK_len hq,h2]
 ·unfold upL at hy
  split at hy
  ·cases hy
  ·rename_i ne
   rw[valV_put,if_neg fun q=>ne (Sum.inr.inj q)]
   exact h3 y hy
 ·unfold upL at hy
  split at hy
  ·rename_i e
   cases hy
   exact⟨p,by rw[valV_put,if_pos (by rw[e])],hp⟩
  ·rename_i ne
   rw[valV_put,if_neg fun q=>ne (Sum.inr.inj q)]
   exact h4 y u hy
def FrX(X:Addr→Prop)(H H':Hp):Prop:=∀ a o,¬ X a→H a=some o→H' a=some o
def TyX(X:Addr→Prop)(H:Hp):Prop:=∀ a,X a→(∃ xs,H a=some (.lst xs))∨∃ C vs,Ob C bkN H a vs
section
variable {X:Addr→Prop}{K:PySem.W.Frag}{CS CD:Addr}{H H':Hp}{f p:Addr}
theorem TyX.out(t:TyX X H){a:Addr}{o:HO}(h:H a=some o)(h1:∀ xs,o≠.lst xs)(h2:∀ C dx fs,o=.ins C dx fs→fs.length≠2):¬ X a:=fun z=>by
 rcases t a z with ⟨xs,e⟩ | ⟨C,vs,dx,e,l⟩
 ·rw[h] at e
  exact h1 xs (Option.some.inj e)
 ·rw[h] at e
  refine h2 C dx _ (Option.some.inj e) ?_
  rw[mkF_len l];rfl
theorem TyX.ob(t:TyX X H){C:Addr}{ns:List Str}{vs:List V}(o:Ob C ns H p vs)(h:ns.length≠2):¬ X p:=by
 obtain⟨dx,e,l⟩:=o
 exact t.out e (fun _ z=>by cases z) fun C' dx' fs z=>by
  injection z with _ _ z
  rw[← z,mkF_len l]
  exact h
theorem Ob.frx{C:Addr}{ns:List Str}{vs:List V}(o:Ob C ns H p vs)(fr:FrX X H H')(n:¬ X p):Ob C ns H' p vs:=by
 obtain⟨dx,e,l⟩:=o
 exact⟨dx,fr _ _ n e,l⟩
theorem TyX.tup(t:TyX X H)(fr:FrX X H H'):Toy.TS H H':=fun a xs e=>fr _ _ (t.out e (fun _ z=>by cases z) fun _ _ _ z=>by cases z) e
theorem ShipAt.frx{s:Shp}(h:ShipAt X K CS CD H p s)(t:TyX X H)(fr:FrX X H H'):ShipAt X K CS CD H' p s:=by
 obtain⟨fu,lo,de,la,xs,o,h1,h2,h3,h4,h5,x1,x2,x3,x4⟩:=h
 refine⟨fu,lo,de,la,xs,o.frx fr (t.ob o (by decide)),fr _ _ x1 h1,fr _ _ x2 h2,fr _ _ x3 h3,⟨h4.1,fun i d hd=>?_⟩,fr _ _ x4 h5,x1,x2,x3,x4⟩
 obtain⟨q,e,tt,u,g,g1,g2⟩:=h4.2 i d hd
 exact⟨q,e,tt,u,g.frx fr (t.ob g (by decide)),g1.ts (t.tup fr),t.tup fr _ _ g2⟩
theorem FleetAt.frx{L:Str→Option Shp}{n:Nat}(h:FleetAt X K CS CD H f L n)(t:TyX X H)(fr:FrX X H H'):FleetAt X K CS CD H' f L n:=by
 obtain⟨kvs,h1,h2,h3,h4⟩:=h
 refine⟨kvs,fr _ _ (t.out h1 (fun _ z=>by cases z) fun _ _ _ z=>by cases z) h1,h2,h3,fun z s hz=>?_⟩
 obtain⟨p,e,a⟩:=h4 z s hz
 exact⟨p,e,a.frx t fr⟩
end
theorem Ob.nw{C:Addr}{ns:List Str}{H:Hp}{p a:Addr}{vs:List V}(h:Ob C ns H p vs)(ha:H a=none):a≠p:=fun z=>by
 obtain⟨dx,e,_⟩:=h
 rw[z,e] at ha
 cases ha
theorem ShipAt.frd{X:Addr→Prop}{K:PySem.W.Frag}{CS CD:Addr}{H H':Hp}{g p:Addr}{kvs:List (Key×V)}{s:Shp}(h:ShipAt X K CS CD H p s)(hg:H g=some (.dK kvs))(fr:Fr1 g H H'):ShipAt X K CS CD H' p s:=by
 have ne:∀ {a o},H a=some o→o≠.dK kvs→a≠g:=fun {a o} e n z=>by rw[z,hg] at e;exact n (Option.some.inj e).symm
 have ob:∀ {C ns q vs},Ob C ns H q vs→Ob C ns H' q vs:=fun {C ns q vs} ⟨dx,e,l⟩=>⟨dx,fr _ _ (ne e (fun z=>by cases z)) e,l⟩
 have tp:Toy.TS H H':=fun a xs e=>fr _ _ (ne e (fun z=>by cases z)) e
 have ls:∀ {a xs},H a=some (.lst xs)→H' a=some (.lst xs):=fun {a xs} e=>fr _ _ (ne e (fun z=>by cases z)) e
 obtain⟨fu,lo,de,la,xs,o,h1,h2,h3,h4,h5,x⟩:=h
 refine⟨fu,lo,de,la,xs,ob o,ls h1,ls h2,ls h3,⟨h4.1,fun i d hd=>?_⟩,ls h5,x⟩
 obtain⟨q,e,tt,u,g,g1,g2⟩:=h4.2 i d hd
 exact⟨q,e,tt,u,ob g,g1.ts tp,tp _ _ g2⟩
structure Stp where
 word:Str
 name:Str
 n:Int
 L:Str→Option Shp
 m:Nat
def StepAt(X:Addr→Prop)(K:PySem.W.Frag)(CS CD:Addr)(H:Hp)(v:V)(s:Stp):Prop:=∃ t d f,v=.ref t∧H t=some (.tup [.ref d,.ref f])∧H d=some (.tup [.str s.word,.str s.name,.int s.n])∧FleetAt X K CS CD H f s.L s.m
def StepsAt(X:Addr→Prop)(K:PySem.W.Frag)(CS CD:Addr)(H:Hp)(xs:List V)(ss:List Stp):Prop:=xs.length=ss.length∧∀(i:Nat) s,ss[i]?=some s→∃ v,xs[i]?=some v∧StepAt X K CS CD H v s
section
variable {X:Addr→Prop}{K:PySem.W.Frag}{CS CD:Addr}{H H':Hp}{xs:List V}{ss:List Stp}
theorem StepAt.same{v:V}{s:Stp}(h:StepAt X K CS CD H v s)(m:Same H H'):StepAt X K CS CD H' v s:=by
 obtain⟨t,d,f,e,h1,h2,h3⟩:=h
 exact⟨t,d,f,e,m _ _ h1,m _ _ h2,h3.same m⟩
theorem StepAt.frx{v:V}{s:Stp}(h:StepAt X K CS CD H v s)(t:TyX X H)(fr:FrX X H H'):StepAt X K CS CD H' v s:=by
 obtain⟨a,d,f,e,h1,h2,h3⟩:=h
 exact⟨a,d,f,e,t.tup fr _ _ h1,t.tup fr _ _ h2,h3.frx t fr⟩
theorem StepsAt.same(h:StepsAt X K CS CD H xs ss)(m:Same H H'):StepsAt X K CS CD H' xs ss:=⟨h.1,fun i s hs=>by
 obtain⟨v,e,a⟩:=h.2 i s hs
 exact⟨v,e,a.same m⟩⟩
theorem StepsAt.frx(h:StepsAt X K CS CD H xs ss)(t:TyX X H)(fr:FrX X H H'):StepsAt X K CS CD H' xs ss:=⟨h.1,fun i s hs=>by
 obtain⟨v,e,a⟩:=h.2 i s hs
 exact⟨v,e,a.frx t fr⟩⟩
theorem StepsAt.snoc{v:V}{s:Stp}(h:StepsAt X K CS CD H xs ss)(g:StepAt X K CS CD H v s):StepsAt X K CS CD H (xs++[v]) (ss++[s]):=by
 refine⟨by rw[List.length_append,List.length_append,h.1];rfl,fun i e hi=>?_⟩
 rcases Nat.lt_trichotomy i ss.length with l | l | l
 ·rw[List.getElem?_append_left l] at hi
  obtain⟨q',e1,e2⟩:=h.2 i e hi
  exact⟨q',by rw[List.getElem?_append_left (by rw[h.1];exact l)];exact e1,e2⟩
 ·subst l
  rw[List.getElem?_append_right (Nat.le_refl _),Nat.sub_self] at hi
  cases hi
  exact⟨v,by rw[List.getElem?_append_right (by rw[h.1];exact Nat.le_refl _),h.1,Nat.sub_self];rfl,g⟩
 ·rw[List.getElem?_eq_none (by rw[List.length_append];show ss.length+1≤i;omega)] at hi
  cases hi
end
def BX(b st un:Addr):Addr→Prop:=fun a=>a=b∨a=st∨a=un
structure BookAt(K:PySem.W.Frag)(CB CS CD:Addr)(H:Hp)(b st un:Addr)(ss us:List Stp):Prop where
 o:Ob CB bkN H b [.ref st,.ref un]
 ne:st≠un
 s:∃ xs,H st=some (.lst xs)∧StepsAt (BX b st un) K CS CD H xs ss
 u:∃ ys,H un=some (.lst ys)∧StepsAt (BX b st un) K CS CD H ys us
section
variable {K:PySem.W.Frag}{CB CS CD:Addr}{H H':Hp}{b st un:Addr}{ss us:List Stp}
theorem BookAt.same(h:BookAt K CB CS CD H b st un ss us)(m:Same H H'):BookAt K CB CS CD H' b st un ss us:=by
 obtain⟨xs,h1,h2⟩:=h.s
 obtain⟨ys,h3,h4⟩:=h.u
 exact⟨h.o.same m,h.ne,⟨xs,m _ _ h1,h2.same m⟩,⟨ys,m _ _ h3,h4.same m⟩⟩
theorem BookAt.ty(h:BookAt K CB CS CD H b st un ss us):TyX (BX b st un) H:=fun a ha=>by
 obtain⟨xs,h1,_⟩:=h.s
 obtain⟨ys,h3,_⟩:=h.u
 rcases ha with rfl | rfl | rfl
 ·exact .inr ⟨_,_,h.o⟩
 ·exact .inl ⟨_,h1⟩
 ·exact .inl ⟨_,h3⟩
theorem BookAt.nx(h:BookAt K CB CS CD H b st un ss us):∀ a,BX b st un a→H a≠none:=fun a ha z=>by
 rcases h.ty a ha with ⟨xs,e⟩ | ⟨C,vs,dx,e,_⟩<;>(rw[z] at e;cases e)
end
theorem at_end{xs:List V}{v:V}(h:0 < xs.length)(e:xs[xs.length - 1]?=some v):atI xs (-1)=some v:=by
 unfold atI ixN
 rw[if_neg (by decide),if_pos (by omega)]
 show xs[((xs.length:Int)+-1).toNat]?=_
 rw[show ((xs.length:Int)+-1).toNat=xs.length - 1 by omega]
 exact e
section
variable {X Y:Addr→Prop}{K:PySem.W.Frag}{CS CD:Addr}{H:Hp}
theorem ShipAt.mono{p:Addr}{s:Shp}(h:ShipAt X K CS CD H p s)(m:∀ a,Y a→X a∨H a=none):ShipAt Y K CS CD H p s:=by
 obtain⟨fu,lo,de,la,xs,o,h1,h2,h3,h4,h5,x1,x2,x3,x4⟩:=h
 have k:∀ {a o},H a=some o→¬ X a→¬ Y a:=fun {a o} e n y=>by
  rcases m a y with z | z
  ·exact n z
  ·rw[z] at e;cases e
 exact⟨fu,lo,de,la,xs,o,h1,h2,h3,h4,h5,k h1 x1,k h2 x2,k h3 x3,k h5 x4⟩
theorem FleetAt.mono{f:Addr}{L:Str→Option Shp}{n:Nat}(h:FleetAt X K CS CD H f L n)(m:∀ a,Y a→X a∨H a=none):FleetAt Y K CS CD H f L n:=by
 obtain⟨kvs,h1,h2,h3,h4⟩:=h
 refine⟨kvs,h1,h2,h3,fun z s hz=>?_⟩
 obtain⟨p,e,a⟩:=h4 z s hz
 exact⟨p,e,a.mono m⟩
theorem StepsAt.mono{xs:List V}{ss:List Stp}(h:StepsAt X K CS CD H xs ss)(m:∀ a,Y a→X a∨H a=none):StepsAt Y K CS CD H xs ss:=⟨h.1,fun i s hs=>by
 obtain⟨v,e,t,d,f,a,h1,h2,h3⟩:=h.2 i s hs
 exact⟨v,e,t,d,f,a,h1,h2,h3.mono m⟩⟩
end
open Classical in
theorem dec_rfl(d:Dt):decide (d=d)=true:=decide_eq_true rfl
theorem nm_of{z:Str}(h1:1≤z.length)(h2:z.length≤8)(h3:∀ c∈sg z,lowC c=true):nameB z=true:=by
 unfold nameB
 simp only[Bool.and_eq_true,decide_eq_true_eq]
 exact⟨h1,h2,List.all_eq_true.mpr h3⟩
theorem len_add(a b:Str):(a++b).length=a.length+b.length:=by rw[← sg_len,sg_add,List.length_append,sg_len,sg_len]
theorem low_add{a b:Str}(ha:∀ c∈sg a,lowC c=true)(hb:∀ c∈sg b,lowC c=true):∀ c∈sg (a++b),lowC c=true:=fun c h=>by
 rw[sg_add] at h
 rcases List.mem_append.mp h with h | h
 ·exact ha c h
 ·exact hb c h
theorem ap_ne{z a b:Str}(h:sg a≠sg b):z++a≠z++b:=fun e=>by
 have e:=congrArg sg e
 rw[sg_add,sg_add] at e
 exact h (List.append_cancel_left e)
theorem pa_ne{z a b:Str}(h:sg a≠sg b):a++z≠b++z:=fun e=>by
 have e:=congrArg sg e
 rw[sg_add,sg_add] at e
 exact h (List.append_cancel_right e)
theorem i_compIt{K:PySem.W.Frag}{n:Nat}{fr:List Nat}{te:TE}{g:TG}{tt:TT}{tx:TE}{σ:St}{H:Hp}{Q:VK}(h:te σ H fun x H1=>tComp n fr (iList K (tC x)) g tt tx σ H1 Q):tComp n fr (iList K te) g tt tx σ H Q:=h
theorem sg_join0:∀ ws:List Str,sg (Txt.join (Str.ofString "") ws)=(ws.map sg).flatten:=fun ws=>by
 rw[txt_join]
 induction ws with
 | nil=>rfl
 | cons x r ih =>
  cases r with
  | nil=>show sg x=sg x++[];rw[List.append_nil]
  | cons y r =>
   have e:Str.join (Str.ofString "") (x::y::r)=x++Str.ofString "" ++ Str.join (Str.ofString "") (y::r):=rfl
   rw[e,sg_add,app_em,ih]
   rfl
theorem jn_lines:∀ ps:List (List Nat),jn 10 (ps++[[]])=(ps.map (·++[10])).flatten
 | []=>rfl
 | [x]=>by show x++10::[]=(x++[10])++[];simp
 | x::y::r=>by
  have ih:=jn_lines (y::r)
  show x++10::jn 10 ((y::r)++[[]])=(x++[10])++((y::r).map (·++[10])).flatten
  rw[ih]
  simp
theorem nl_eq:Str.ofString "\n" = (⟨#[10]⟩:Str):=by decide +kernel
theorem page_split{ws:List Str}(h:∀ w∈ws,10∉sg w):(Txt.split (Txt.join (Str.ofString "") (ws.map (·++Str.ofString "\n"))) (Str.ofString "\n")).length=ws.length+1:=by
 have e:Txt.join (Str.ofString "") (ws.map (·++Str.ofString "\n"))=Str.join ⟨#[10]⟩ (ws++[Str.ofString ""]):=by
  apply str_ext
  rw[sg_join0,sg_sj,List.map_append,List.map_map]
  have:=jn_lines (ws.map sg)
  rw[List.map_map] at this
  show _=jn 10 (ws.map sg++[sg (Str.ofString "")])
  rw[show sg (Str.ofString "")=[] by decide +kernel,this]
  congr 1
  refine List.map_congr_left fun w _=>?_
  show sg (w++Str.ofString "\n")=sg w++[10]
  rw[sg_add,nl_eq];rfl
 rw[e,nl_eq,split_join (by simp) fun w hw=>?_]
 ·rw[List.length_append];rfl
 ·rcases List.mem_append.mp hw with hw | hw
  ·exact h w hw
  ·rw[List.mem_singleton.mp hw];decide +kernel
def lnS(s:Stp):Str:=Txt.join (Str.ofString " ") ([Dt.str s.word,Dt.str s.name,Dt.int s.n].map txD)
def okS(s:Stp):Prop:=s.word.length≤7∧(∀ c∈sg s.word,c≠10∧c < 128)∧nameB s.name=true∧0≤s.n∧s.n≤1000000000
theorem lnS_ok{s:Stp}(h:okS s):(lnS s).length≤40∧10∉sg (lnS s):=by
 obtain⟨h1,h2,h3,h4,h5⟩:=h
 obtain⟨_,n2,n3⟩:=name_len h3
 obtain⟨k,hk⟩:=Int.eq_ofNat_of_zero_le h4
 have e:sg (lnS s)=sg s.word++32::(sg s.name++32::sg (dec s.n)):=by
  unfold lnS
  rw[txt_join,blank_eq,sg_sj]
  rfl
 have dl:(sg (dec s.n)).length≤10:=by rw[hk];exact sg_dec (by decide) (by omega)
 refine⟨?_,fun z=>?_⟩
 ·rw[← sg_len,e,List.length_append,List.length_cons,List.length_append,List.length_cons,sg_len,sg_len]
  omega
 ·rw[e] at z
  rcases List.mem_append.mp z with z | z
  ·exact (h2 _ z).1 rfl
  ·rcases List.mem_cons.mp z with z | z
   ·cases z
   ·rcases List.mem_append.mp z with z | z
    ·have:=n3 _ z
     revert this
     decide
    ·rcases List.mem_cons.mp z with z | z
     ·cases z
     ·rw[hk] at z
      have:=dg_all k _ z
      omega
def DoesTo(L:Str→Option Shp)(m:Nat)(word name:Str)(n:Int)(sh':Shp):Prop:=(word = "out" ∧ L name=none∧m < 4∧nameB name=true∧1≤n∧n≤1000000000∧sh'=⟨true,0,1,[n,0,0,0,0,0],[],[],0,[]⟩)∨(∃ sh,word = "hire" ∧ L name=some sh∧sh.away=true∧1≤n∧n≤1000000∧sh.debts.length < 10∧sh'={ sh with made:=sh.made+1,debts:=sh.debts++[⟨sh.made+1, "wage", sh.today,[0,1],[some n,none]⟩] })∨(∃ sh,word = "sail" ∧ L name=some sh∧sh.away=true∧1≤n∧n≤1000∧sh'={ sh with today:=sh.today+n })
def topL(ss:List Stp):Str→Option Shp:=(ss.getLast?.map (·.L)).getD fun _=>none
def topM(ss:List Stp):Nat:=(ss.getLast?.map (·.m)).getD 0
def Alien(H:Hp)(l:List V):Prop:=(∃ v∈l,∀ i,v≠.int i)∧∃ v∈l,∀ q,v=.ref q→(∀ C vs,¬ Ob C dbN H q vs)∧∀ d f,H q≠some (.tup [.ref d,.ref f])
def noLand(ss:List Stp):Prop:=∀ s∈ss,∀ z sh,s.L z=some sh→sh.landed=[]
section
variable {K:PySem.W.Frag}{CB CS CD:Addr}{H H':Hp}{b st un A:Addr}{ss us:List Stp}{X:Addr→Prop}{l:List V}
theorem Alien.ne_ints{xs:List Int}{a:Addr}(h:Alien H l)(hA:H A=some (.lst l))(ha:H a=some (.lst (xs.map V.int))):a≠A:=fun z=>by
 rw[z,hA] at ha
 obtain⟨v,hv,n⟩:=h.1
 have e:l=xs.map V.int:=by injection ha with ha;injection ha
 rw[e] at hv
 obtain⟨i,_,rfl⟩:=List.mem_map.mp hv
 exact n i rfl
theorem Alien.ne_nil{a:Addr}(h:Alien H l)(hA:H A=some (.lst l))(ha:H a=some (.lst [])):a≠A:=h.ne_ints hA (xs:=[]) ha
theorem Alien.ne_debts{xs:List V}{ds:List Dbt}{a:Addr}(h:Alien H l)(hA:H A=some (.lst l))(ha:H a=some (.lst xs))(hd:DebtsAt K CD H xs ds):a≠A:=fun z=>by
 rw[z,hA] at ha
 have e:l=xs:=by injection ha with ha;injection ha
 obtain⟨v,hv,n⟩:=h.2
 rw[e] at hv
 obtain⟨i,hi⟩:=List.getElem?_of_mem hv
 have li:i < ds.length:=by rw[← hd.1];exact (List.getElem?_eq_some_iff.mp hi).1
 obtain⟨q,e1,t,u,o,_⟩:=hd.2 i _ (List.getElem?_eq_getElem li)
 rw[e1] at hi
 exact (n q (Option.some.inj hi).symm).1 _ _ o
theorem Alien.ne_steps{xs:List V}{a:Addr}(h:Alien H l)(hA:H A=some (.lst l))(ha:H a=some (.lst xs))(hd:StepsAt X K CS CD H xs ss):a≠A:=fun z=>by
 rw[z,hA] at ha
 have e:l=xs:=by injection ha with ha;injection ha
 obtain⟨v,hv,n⟩:=h.2
 rw[e] at hv
 obtain⟨i,hi⟩:=List.getElem?_of_mem hv
 have li:i < ss.length:=by rw[← hd.1];exact (List.getElem?_eq_some_iff.mp hi).1
 obtain⟨w,e1,t,d,f,rfl,g,_⟩:=hd.2 i _ (List.getElem?_eq_getElem li)
 rw[e1] at hi
 exact (n t (Option.some.inj hi).symm).2 _ _ g
theorem StepsAt.alien{xs:List V}(h:StepsAt X K CS CD H xs ss)(al:Alien H l)(hA:H A=some (.lst l))(nl:noLand ss)(f:Fr1 A H H'):StepsAt X K CS CD H' xs ss:=by
 have ob:∀ {C ns q vs},Ob C ns H q vs→Ob C ns H' q vs:=fun {C ns q vs} ⟨dx,e,l'⟩=>⟨dx,f _ _ (fun z=>by rw[z,hA] at e;cases e) e,l'⟩
 have tp:Toy.TS H H':=fun a xs e=>f _ _ (fun z=>by rw[z,hA] at e;cases e) e
 refine⟨h.1,fun i s hs=>?_⟩
 obtain⟨v,e1,t,d,g,rfl,h1,h2,kvs,h3,h4,h5,h6⟩:=h.2 i s hs
 refine⟨_,e1,t,d,g,rfl,tp _ _ h1,tp _ _ h2,kvs,f _ _ (fun z=>by rw[z,hA] at h3;cases h3) h3,h4,h5,fun z sh hz=>?_⟩
 obtain⟨p,ep,fu,lo,de,la,ys,o,g1,g2,g3,g4,g5,hx⟩:=h6 z sh hz
 have l0:=nl s (List.mem_of_getElem? hs) z sh hz
 refine⟨p,ep,fu,lo,de,la,ys,ob o,f _ _ (al.ne_ints hA g1) g1,f _ _ (al.ne_ints hA g2) g2,f _ _ (al.ne_debts hA g3 g4) g3,⟨g4.1,fun j e hj=>?_⟩,f _ _ (al.ne_nil hA (by rw[g5,l0])) g5,hx⟩
 obtain⟨q,e2,tt,u,o2,k1,k2⟩:=g4.2 j e hj
 exact⟨q,e2,tt,u,ob o2,k1.ts tp,tp _ _ k2⟩
theorem BookAt.alien(h:BookAt K CB CS CD H b st un ss us)(al:Alien H l)(hA:H A=some (.lst l))(n1:noLand ss)(n2:noLand us)(f:Fr1 A H H'):BookAt K CB CS CD H' b st un ss us:=by
 obtain⟨xs,h1,h2⟩:=h.s
 obtain⟨ys,h3,h4⟩:=h.u
 obtain⟨dx,e,l'⟩:=h.o
 exact⟨⟨dx,f _ _ (fun z=>by rw[z,hA] at e;cases e) e,l'⟩,h.ne,⟨xs,f _ _ (al.ne_steps hA h1 h2) h1,h2.alien al hA n1 f⟩,⟨ys,f _ _ (al.ne_steps hA h3 h4) h3,h4.alien al hA n2 f⟩⟩
theorem BookAt.out(h:BookAt K CB CS CD H b st un ss us)(al:Alien H l)(hA:H A=some (.lst l)):¬ BX b st un A:=fun z=>by
 obtain⟨xs,h1,h2⟩:=h.s
 obtain⟨ys,h3,h4⟩:=h.u
 rcases z with z | z | z
 ·obtain⟨dx,e,_⟩:=h.o
  rw[← z,hA] at e
  cases e
 ·exact al.ne_steps hA h1 h2 z.symm
 ·exact al.ne_steps hA h3 h4 z.symm
end
def shW(t:Int):Shp:=⟨true,t,1,[100,0,0,0,0,0],[],[⟨1,Str.ofString "wage", 0,[0,1],[some 7,none]⟩],1,[]⟩
def shO:Shp:=⟨true,0,1,[100,0,0,0,0,0],[],[],0,[]⟩
def LL(z0 z1:Str)(a c:Int):Str→Option Shp:=fun y=>if y=z0 then some (shW a) else if y=z1 then some (shW c) else none
def L1(z0 z1:Str)(o1 o2:Option Shp):Str→Option Shp:=fun y=>if y=z0 then o1 else if y=z1 then o2 else none
theorem LL_eq(z0 z1:Str)(a c:Int):LL z0 z1 a c=L1 z0 z1 (some (shW a)) (some (shW c)):=rfl
theorem L1_0{z0 z1:Str}{o1 o2:Option Shp}:L1 z0 z1 o1 o2 z0=o1:=if_pos rfl
theorem L1_1{z0 z1:Str}{o1 o2:Option Shp}(h:z0≠z1):L1 z0 z1 o1 o2 z1=o2:=by unfold L1;rw[if_neg (Ne.symm h),if_pos rfl]
theorem L1_n{z0 z1:Str}:(fun _=>none)=L1 z0 z1 none none:=by funext y;unfold L1;split<;>(try split)<;>rfl
theorem L1_u0{z0 z1:Str}{o1 o2:Option Shp}{s:Shp}:upL (L1 z0 z1 o1 o2) z0 s=L1 z0 z1 (some s) o2:=by
 funext y;unfold upL L1
 split<;>rfl
theorem L1_u1{z0 z1:Str}{o1 o2:Option Shp}{s:Shp}(h:z0≠z1):upL (L1 z0 z1 o1 o2) z1 s=L1 z0 z1 o1 (some s):=by
 funext y;unfold upL L1
 by_cases e:y=z1
 ·subst e;rw[if_pos rfl,if_neg (Ne.symm h),if_pos rfl]
 ·rw[if_neg e]
  split
  ·rfl
  ·rfl
theorem L1_land{z0 z1 z:Str}{o1 o2:Option Shp}{sh:Shp}(h:L1 z0 z1 o1 o2 z=some sh)(h1:∀ s,o1=some s→s.landed=[])(h2:∀ s,o2=some s→s.landed=[]):sh.landed=[]:=by
 unfold L1 at h
 split at h
 ·exact h1 _ h
 ·split at h
  ·exact h2 _ h
  ·cases h
theorem top_snoc(ss:List Stp)(s:Stp):topL (ss++[s])=s.L∧topM (ss++[s])=s.m:=by
 unfold topL topM
 rw[List.getLast?_append]
 exact⟨rfl,rfl⟩
structure Sl(z0 z1:Str)(ss:List Stp)(dv:List (Int×Int)):Prop where
 l:ss.length=dv.length+3
 top:∀(k:Nat) p,dv[k]?=some p→∃ s,ss[k+3]?=some s∧s.L=LL z0 z1 p.1 p.2∧s.m=2
 b:∀(k:Nat) p,dv[k]?=some p→0≤p.1∧p.1≤1000*(k:Int)∧0≤p.2∧p.2≤1000*(k:Int)
 ok:∀ s∈ss,okS s
 la:noLand ss
theorem Sl.topL{z0 z1:Str}{ss:List Stp}{dv:List (Int×Int)}(h:Sl z0 z1 ss dv){k:Nat}{p:Int×Int}(hk:dv[k]?=some p):Toy.topL (ss.take (k+4))=LL z0 z1 p.1 p.2∧topM (ss.take (k+4))=2:=by
 obtain⟨s,hs,e1,e2⟩:=h.top k p hk
 have e:(ss.take (k+4)).getLast?=some s:=by
  have hl:=(List.getElem?_eq_some_iff.mp hs).1
  rw[List.getLast?_eq_getElem?,List.length_take,Nat.min_eq_left (by omega),List.getElem?_take_of_lt (by omega)]
  exact hs
 unfold Toy.topL topM
 rw[e]
 exact⟨e1,e2⟩
theorem Sl.snoc{z0 z1:Str}{ss:List Stp}{dv:List (Int×Int)}(h:Sl z0 z1 ss dv){s:Stp}{p:Int×Int}(e:s.L=LL z0 z1 p.1 p.2)(em:s.m=2)(ok:okS s)(b:0≤p.1∧p.1≤1000*(dv.length:Int)∧0≤p.2∧p.2≤1000*(dv.length:Int)):Sl z0 z1 (ss++[s]) (dv++[p]):=by
 have g:∀{k:Nat} {q},(dv++[p])[k]?=some q→dv[k]?=some q∨k=dv.length∧q=p:=fun {k q} hk=>by
  rcases Nat.lt_trichotomy k dv.length with l | l | l
  ·rw[List.getElem?_append_left l] at hk;exact .inl hk
  ·subst l
   rw[List.getElem?_append_right (Nat.le_refl _),Nat.sub_self] at hk
   cases hk
   exact .inr ⟨rfl,rfl⟩
  ·rw[List.getElem?_eq_none (by rw[List.length_append];show dv.length+1≤k;omega)] at hk
   cases hk
 refine⟨by rw[List.length_append,List.length_append,h.l];show dv.length+3+1=dv.length+1+3;omega,fun k q hk=>?_,fun k q hk=>?_,fun t ht=>?_,fun t ht z sh hz=>?_⟩
 ·rcases g hk with hk | ⟨rfl,rfl⟩
  ·obtain⟨t,ht,r⟩:=h.top k q hk
   exact⟨t,by rw[List.getElem?_append_left (List.getElem?_eq_some_iff.mp ht).1];exact ht,r⟩
  ·exact⟨s,by rw[List.getElem?_append_right (by rw[h.l];exact Nat.le_refl _),h.l,Nat.sub_self];rfl,e,em⟩
 ·rcases g hk with hk | ⟨rfl,rfl⟩
  ·exact h.b k q hk
  ·exact b
 ·rcases List.mem_append.mp ht with ht | ht
  ·exact h.ok t ht
  ·rw[List.mem_singleton.mp ht];exact ok
 ·rcases List.mem_append.mp ht with ht | ht
  ·exact h.la t ht z sh hz
  ·rw[List.mem_singleton.mp ht,e,LL_eq] at hz
   exact L1_land hz (fun s h=>by cases h;rfl) fun s h=>by cases h;rfl
theorem noLand.take{ss:List Stp}(h:noLand ss)(n:Nat):noLand (ss.take n):=fun s hs=>h s (List.mem_of_mem_take hs)
theorem noLand.drop{ss:List Stp}(h:noLand ss)(n:Nat):noLand (ss.drop n).reverse:=fun s hs=>h s (List.mem_of_mem_drop (List.mem_reverse.mp hs))
theorem tk_back{ss rs:List Stp}{s:Stp}{n:Nat}(hn:n < ss.length)(h:ss.take (n+1)=rs++[s]):rs=ss.take n∧(ss.drop (n+1)).reverse++[s]=(ss.drop n).reverse:=by
 rw[List.take_succ_eq_append_getElem hn] at h
 obtain⟨e1,e2⟩:=List.append_inj' h rfl
 refine⟨e1.symm,?_⟩
 rw[List.drop_eq_getElem_cons hn,List.reverse_cons,e2]
theorem tk_again{ss rs:List Stp}{s:Stp}{n:Nat}(hn:n < ss.length)(h:(ss.drop n).reverse=rs++[s]):rs=(ss.drop (n+1)).reverse∧ss.take n++[s]=ss.take (n+1):=by
 rw[List.drop_eq_getElem_cons hn,List.reverse_cons] at h
 obtain⟨e1,e2⟩:=List.append_inj' h rfl
 refine⟨e1.symm,?_⟩
 rw[List.take_succ_eq_append_getElem hn,e2]
structure Lw(K:PySem.W.Frag)(CB CS CD B L F:Addr)(nm:List Str)(b st un:Addr)(ss us:List Stp)(H:Hp):Prop where
 bag:BagAt H B L
 f:H F=some (.lst (nm.map V.str))
 bk:BookAt K CB CS CD H b st un ss us
 l1:L≠st
 l2:L≠un
 n1:noLand ss
 n2:noLand us
theorem bag_alien{H:Hp}{B L:Addr}(b:BagAt H B L):∃ l,H B=some (.lst l)∧Alien H l:=by
 obtain⟨ns,i,r,salt,e,_⟩:=b.ex
 exact⟨_,e,⟨_,List.mem_cons_self,fun i h=>by cases h⟩,⟨.int i,by simp,fun q h=>by cases h⟩⟩
theorem str_alien{H:Hp}{z:Str}{nm:List Str}:Alien H ((z::nm).map V.str):=⟨⟨.str z,by simp,fun i h=>by cases h⟩,⟨.str z,by simp,fun q h=>by cases h⟩⟩
section
variable {K:PySem.W.Frag}{CB CS CD B L F:Addr}{z:Str}{nm:List Str}{b st un un':Addr}{ss us ss' us':List Stp}{H H':Hp}
theorem Lw.same(h:Lw K CB CS CD B L F nm b st un ss us H)(s:Same H H'):Lw K CB CS CD B L F nm b st un ss us H':=⟨h.bag.keep s,s _ _ h.f,h.bk.same s,h.l1,h.l2,h.n1,h.n2⟩
theorem Lw.fB(h:Lw K CB CS CD B L F (z::nm) b st un ss us H):F≠B:=fun e=>by
 obtain⟨_,_,_,_,g,_⟩:=h.bag.ex
 rw[← e,h.f] at g
 cases g
theorem Lw.pull(h:Lw K CB CS CD B L F (z::nm) b st un ss us H)(f:Fr1 B H H')(bg:BagAt H' B L):Lw K CB CS CD B L F (z::nm) b st un ss us H':=by
 obtain⟨l,e,al⟩:=bag_alien h.bag
 exact⟨bg,f _ _ h.fB h.f,h.bk.alien al e h.n1 h.n2 f,h.l1,h.l2,h.n1,h.n2⟩
theorem Lw.nB(h:Lw K CB CS CD B L F nm b st un ss us H):¬ BX b st un B:=by
 obtain⟨l,e,al⟩:=bag_alien h.bag
 exact h.bk.out al e
theorem Lw.nL(h:Lw K CB CS CD B L F nm b st un ss us H):¬ BX b st un L:=fun e=>by
 rcases e with e | e | e
 ·obtain⟨_,_,_,_,_,g,_⟩:=h.bag.ex
  obtain⟨dx,k,_⟩:=h.bk.o
  rw[e,k] at g
  cases g
 ·exact h.l1 e
 ·exact h.l2 e
theorem Lw.book(h:Lw K CB CS CD B L F (z::nm) b st un ss us H)(x:FrX (BX b st un) H H')(bk:BookAt K CB CS CD H' b st un' ss' us')(l2:L≠un')(n1:noLand ss')(n2:noLand us'):Lw K CB CS CD B L F (z::nm) b st un' ss' us' H':=by
 obtain⟨ns,i,r,salt,e1,e2,e3⟩:=h.bag.ex
 exact⟨⟨ns,i,r,salt,x _ _ h.nB e1,x _ _ h.nL e2,e3⟩,x _ _ (h.bk.out str_alien h.f) h.f,bk,h.l1,l2,n1,n2⟩
theorem Lw.new(h:Lw K CB CS CD B L F nm b st un ss us H){a:Addr}(ha:H a=none):L≠a:=fun e=>by
 obtain⟨_,_,_,_,_,g,_⟩:=h.bag.ex
 rw[e,ha] at g
 cases g
end
def Dy(H:Hp)(D:Addr)(dv:List (Int×Int)):Prop:=0 < dv.length∧∃ xs,H D=some (.lst xs)∧xs.length=dv.length∧∀(i:Nat) p,dv[i]?=some p→∃ t,xs[i]?=some (.ref t)∧H t=some (.tup [.int p.1,.int p.2])
section
variable {K:PySem.W.Frag}{CB CS CD B L F D:Addr}{z:Str}{nm:List Str}{b st un un':Addr}{ss us ss' us':List Stp}{H H':Hp}{dv:List (Int×Int)}
theorem Dy.same(h:Dy H D dv)(s:Same H H'):Dy H' D dv:=by
 obtain⟨h0,xs,h1,h2,h3⟩:=h
 refine⟨h0,xs,s _ _ h1,h2,fun i p hp=>?_⟩
 obtain⟨t,e,g⟩:=h3 i p hp
 exact⟨t,e,s _ _ g⟩
theorem Dy.al(h:Dy H D dv):∃ xs,H D=some (.lst xs)∧Alien H xs:=by
 obtain⟨h0,xs,h1,h2,h3⟩:=h
 obtain⟨t,e,g⟩:=h3 0 _ (List.getElem?_eq_getElem h0)
 refine⟨xs,h1,⟨_,List.mem_of_getElem? e,fun i h=>by cases h⟩,⟨_,List.mem_of_getElem? e,fun q h=>?_⟩⟩
 cases h
 refine⟨fun C vs ⟨dx,k,_⟩=>?_,fun d f k=>?_⟩
 ·rw[g] at k;cases k
 ·rw[g] at k;cases k
theorem Dy.fr{A:Addr}{l:List V}(h:Dy H D dv)(hA:H A=some (.lst l))(n:D≠A)(f:Fr1 A H H'):Dy H' D dv:=by
 obtain⟨h0,xs,h1,h2,h3⟩:=h
 refine⟨h0,xs,f _ _ n h1,h2,fun i p hp=>?_⟩
 obtain⟨t,e,g⟩:=h3 i p hp
 exact⟨t,e,f _ _ (fun z=>by rw[z,hA] at g;cases g) g⟩
theorem Dy.nB(h:Dy H D dv)(bg:BagAt H B L):D≠B:=fun z=>by
 obtain⟨ns,i,r,salt,e,_⟩:=bg.ex
 obtain⟨h0,xs,h1,h2,h3⟩:=h
 rw[z,e] at h1
 have e1:[V.ref L,.int i,.int r,.int salt]=xs:=by injection h1 with h1;injection h1
 subst e1
 obtain⟨t,k,_⟩:=h3 1 _ (List.getElem?_eq_getElem (by rw[← h2];show 1 < 4;decide))
 cases k
theorem Dy.nL(h:Dy H D dv)(bg:BagAt H B L):D≠L:=fun z=>by
 obtain⟨ns,i,r,salt,_,e,_⟩:=bg.ex
 obtain⟨xs,h1,al⟩:=h.al
 exact al.ne_ints h1 e z.symm
theorem Dy.pull(h:Dy H D dv)(bg:BagAt H B L)(f:Fr1 B H H'):Dy H' D dv:=by
 obtain⟨ns,i,r,salt,e,_⟩:=bg.ex
 exact h.fr e (h.nB bg) f
theorem Dy.book(h:Dy H D dv)(w:Lw K CB CS CD B L F nm b st un ss us H)(x:FrX (BX b st un) H H'):Dy H' D dv:=by
 obtain⟨xs',h1',al⟩:=h.al
 obtain⟨h0,xs,h1,h2,h3⟩:=h
 refine⟨h0,xs,x _ _ (w.bk.out al h1') h1,h2,fun i p hp=>?_⟩
 obtain⟨t,e,g⟩:=h3 i p hp
 exact⟨t,e,w.bk.ty.tup x _ _ g⟩
theorem Dy.put(h:Dy H D dv)(w:Lw K CB CS CD B L F (z::nm) b st un ss us H){xs:List V}{t:Addr}{p:Int×Int}(h1:H D=some (.lst xs))(ht:H t=some (.tup [.int p.1,.int p.2])):Dy (upd H D (.lst (xs++[.ref t]))) D (dv++[p])∧Lw K CB CS CD B L F (z::nm) b st un ss us (upd H D (.lst (xs++[.ref t]))):=by
 obtain⟨xs',e1',al⟩:=id h.al
 have fr:Fr1 D H (upd H D (.lst (xs++[.ref t]))):=Fr1.upd
 have nB:=h.nB w.bag
 have nL:=h.nL w.bag
 obtain⟨h0,ys,e2,l,h3⟩:=h
 have e:ys=xs:=by rw[h1] at e2;injection e2 with e2;injection e2 with e2;exact e2.symm
 subst e
 have tp:∀{q:Addr}{us:List V},H q=some (.tup us)→upd H D (.lst (ys++[.ref t])) q=some (.tup us):=fun {q us} g=>fr _ _ (fun z=>by rw[z,h1] at g;cases g) g
 refine⟨⟨by rw[List.length_append];show 0 < dv.length+1;omega,_,upd_same,by rw[List.length_append,List.length_append,l];rfl,fun i q hq=>?_⟩,w.bag.frm fr nB nL,fr _ _ (fun ez=>?_) w.f,w.bk.alien al e1' w.n1 w.n2 fr,w.l1,w.l2,w.n1,w.n2⟩
 ·rcases Nat.lt_trichotomy i dv.length with g | g | g
  ·rw[List.getElem?_append_left g] at hq
   obtain⟨t',k1,k2⟩:=h3 i q hq
   exact⟨t',by rw[List.getElem?_append_left (by omega)];exact k1,tp k2⟩
  ·subst g
   rw[List.getElem?_append_right (Nat.le_refl _),Nat.sub_self] at hq
   cases hq
   exact⟨t,by rw[List.getElem?_append_right (by omega),l,Nat.sub_self];rfl,tp ht⟩
  ·rw[List.getElem?_eq_none (by rw[List.length_append];show dv.length+1≤i;omega)] at hq
   cases hq
 ·have k:=w.f
  rw[ez,h1] at k
  obtain⟨t',k1,_⟩:=h3 0 _ (List.getElem?_eq_getElem h0)
  have e3:ys=(z::nm).map V.str:=by injection k with k;injection k
  rw[e3] at k1
  cases k1
end
theorem i_forIt{K:PySem.W.Frag}{te:TE}{g:TG}{tb:L2.TS}{D:Ends}{σ:St}{H:Hp}(h:te σ H fun x H1=>tFor (iList K (tC x)) g tb D σ H1):tFor (iList K te) g tb D σ H:=h
theorem noLand.top{ss:List Stp}(h:noLand ss){z:Str}{sh:Shp}(e:topL ss z=some sh):sh.landed=[]:=by
 unfold topL at e
 cases k:ss.getLast? with
 | none=>rw[k] at e;cases e
 | some s=>rw[k] at e;exact h s (List.mem_of_getLast? k) z sh e
theorem noLand.snoc{ss:List Stp}(h:noLand ss){w name:Str}{n:Int}{m:Nat}{s:Shp}(hs:s.landed=[]):noLand (ss++[⟨w,name,n,upL (topL ss) name s,m⟩]):=fun t ht z sh e=>by
 rcases List.mem_append.mp ht with ht | ht
 ·exact h t ht z sh e
 ·rw[List.mem_singleton.mp ht] at e
  have e:(if z=name then some s else topL ss z)=some sh:=e
  split at e
  ·cases e;exact hs
  ·exact h.top e
theorem upL_up{L:Str→Option Shp}{z:Str}{s t:Shp}:upL (upL L z s) z t=upL L z t:=by
 funext y;unfold upL
 by_cases e:y=z
 ·rw[if_pos e,if_pos e]
 ·rw[if_neg e,if_neg e,if_neg e]
theorem upL_at{L:Str→Option Shp}{z:Str}{s:Shp}:upL L z s z=some s:=if_pos rfl
structure Pr4(z0 z1:Str)(i:Nat)(ss:List Stp):Prop where
 l:ss.length=2*i
 t:topL ss=L1 z0 z1 (if 0 < i then some (shW 0) else none) (if 1 < i then some (shW 0) else none)
 m:topM ss=i
 ok:∀ s∈ss,okS s
theorem Pr4.sl{z0 z1:Str}{ss:List Stp}(h:Pr4 z0 z1 2 ss)(n:noLand ss):Sl z0 z1 ss [(0,0)]:=by
 have hl:3 < ss.length:=by rw[h.l];decide
 have e1:ss.getLast?=some ss[3]:=by rw[List.getLast?_eq_getElem?,h.l];exact List.getElem?_eq_getElem hl
 have t:=h.t
 have m:=h.m
 unfold topL at t
 unfold topM at m
 rw[e1] at t m
 refine⟨by rw[h.l];rfl,fun k p hk=>?_,fun k p hk=>?_,h.ok,n⟩
 ·cases k with
  | zero=>cases hk;exact⟨ss[3],List.getElem?_eq_getElem hl,t,m⟩
  | succ k=>simp at hk
 ·cases k with
  | zero=>cases hk;decide
  | succ k=>simp at hk
theorem Pr4.go{z0 z1 z:Str}{i:Nat}{ss:List Stp}(ne:z0≠z1)(h:Pr4 z0 z1 i ss)(e:([z0,z1]:List Str)[i]?=some z):i < 2∧topL ss z=none∧upL (topL ss) z (shW 0)=L1 z0 z1 (if 0 < i+1 then some (shW 0) else none) (if 1 < i+1 then some (shW 0) else none):=by
 have t:=h.t
 match i,e with
 | 0,e =>
  cases e
  refine⟨by decide,by rw[t];exact L1_0,by rw[t];exact L1_u0⟩
 | 1,e =>
  cases e
  exact⟨by decide,by rw[t];exact L1_1 ne,by rw[t];exact L1_u1 ne⟩
 | n+2,e=>simp at e
theorem Sl.end{z0 z1:Str}{ss:List Stp}{dv:List (Int×Int)}(h:Sl z0 z1 ss dv){k:Nat}{p:Int×Int}(hl:dv.length=k+1)(hk:dv[k]?=some p):Toy.topL ss=LL z0 z1 p.1 p.2∧topM ss=2:=by
 have e:=h.topL hk
 rw[List.take_of_length_le (by rw[h.l];omega)] at e
 exact e
theorem sail_to{z0 z1:Str}(ne:z0≠z1)(n0:nameB z0=true)(n1:nameB z1=true){zs:List Str}{at' md a c:Int}(h:at'=0∨at'=1):∃ z t,atI ((z0::z1::zs).map V.str) at'=some (.str z)∧nameB z=true∧LL z0 z1 a c z=some (shW t)∧upL (LL z0 z1 a c) z (shW (t+md))=LL z0 z1 (a+md*(1 - at')) (c+md*at'):=by
 rcases h with rfl | rfl
 ·refine⟨z0,a,?_,n0,L1_0,?_⟩
  ·exact atI_0
  ·rw[LL_eq,L1_u0,LL_eq];simp
 ·refine⟨z1,c,?_,n1,L1_1 ne,?_⟩
  ·exact atI_1
  ·rw[LL_eq,L1_u1 ne,LL_eq];simp
def okW63(w:Str):Prop:=w.length≤7∧∀ c∈sg w,c≠10∧c < 128
theorem w_out:okW63 (Str.ofString "out"):=⟨by decide,by decide +kernel⟩
theorem w_hire:okW63 (Str.ofString "hire"):=⟨by decide,by decide +kernel⟩
theorem w_sail:okW63 (Str.ofString "sail"):=⟨by decide,by decide +kernel⟩
theorem okS_mk{w z:Str}{n:Int}{L:Str→Option Shp}{m:Nat}(h:okW63 w)(hz:nameB z=true)(h0:0≤n)(h1:n≤1000000000):okS ⟨w,z,n,L,m⟩:=⟨h.1,h.2,hz,h0,h1⟩
theorem i_forD{hi lo:Int}{ta:TA}{g:TG}{tb:L2.TS}{D:Ends}{σ:St}{H:Hp}{n:Nat}(ht:∀ R:List V→Hp→Prop,R [.int hi,.int lo,.int (-1)] H→ta σ H R)(hb:-(2 ^ 40)≤hi∧hi < 2 ^ 40∧-(2 ^ 40)≤lo∧lo < 2 ^ 40)(hn:(hi - lo).toNat=n)
  (h:∃ W:Nat→Nat→St→Hp→Prop,(∃ m,W 0 m σ H)∧∀ i m σ H,W i m σ H→((Itd hi n).stop i H∧D.nx σ H)∨((Itd hi n).go i H∧∃ N:St→Hp→Prop,(∀ σ' H',N σ' H'→∃ m',m' < m∧W (i+1) m' σ' H')∧∀ x H',(Itd hi n).yld i H x H'→g x σ H' fun σ2 H2=>tb { D with nx:=N,ct:=N,bk:=D.nx } σ2 H2)):tFor (iRng3 ta) g tb D σ H:=by
 subst hn
 exact ht _ ⟨hi,lo,rfl,hb,h⟩
def nbD:Dt:=.tup [.str (Str.ofString "NoBack"),.non]
theorem nb_cmp:Cmp 8 nbD nbD:=cmp_tup fun d hd=>by
 rcases List.mem_cons.mp hd with rfl | hd
 ·unfold Cmp;trivial
 ·rw[List.mem_singleton.mp hd];unfold Cmp;trivial
theorem nb_den{H:Hp}{T:Addr}(h:H T=some (.tup [.str (Str.ofString "NoBack"),.non])):Den H nbD (.ref T):=den_tup h (dens1 rfl (dens1 rfl dens0))
theorem em_cmp:Cmp 8 (.lst []) (.lst []):=cmp_lst fun d hd=>by cases hd
inductive sp__law_bag (K:PySem.W.Frag) (cx:Str→Addr) (vs:List V) (H:Hp) (Q:VK) (E:XK):Prop
 | mk:∀ a ns,(vs=[.ref a])→(SqL K H a (List.map V.int ns))→(ns.length≤63)→(∀ B L H',Same H H'→H B=none→BagAt H' B L→Q (.ref B) H')→sp__law_bag K cx vs H Q E
inductive sp__law_pull (vs:List V) (H:Hp) (Q:VK) (E:XK):Prop
 | mk:∀ B m L,(vs=[.ref B,.int m])→(BagAt H B L)→(0 < m)→(Sz 9000 m)→(∀ d H',0≤d→d < m→BagAt H' B L→Fr1 B H H'→Q (.int d) H')→sp__law_pull vs H Q E
inductive sp_number_text (vs:List V) (H:Hp) (Q:VK) (E:XK):Prop
 | mk:∀ n:Int,(vs=[.int n])→(n.natAbs < 2 ^ 200)→(Q (.str (dec n)) H)→sp_number_text vs H Q E
inductive sp_heap_text (vs:List V) (H:Hp) (Q:VK) (E:XK):Prop
 | mk:∀ t js,(vs=[.ref t])→(H t=some (.tup (js.map V.int)))→(js.length≤6)→((∀ x∈js,0≤x∧x < 10))→(∀ H',Same H H'→Q (.str (hpT js)) H')→sp_heap_text vs H Q E
inductive sp_word_text (vs:List V) (H:Hp) (Q:VK) (E:XK):Prop
 | mk:∀ v d,(vs=[v])→(Den H d v)→(okX d)→(∀ H',Same H H'→Q (.str (txD d)) H')→sp_word_text vs H Q E
inductive sp_deed_text (vs:List V) (H:Hp) (Q:VK) (E:XK):Prop
 | mk:∀ a ds,(vs=[.ref a])→(Den H (.tup ds) (.ref a))→(ds.length≤6)→((∀ d∈ds,okX d))→(∀ H',Same H H'→Q (.str (Txt.join (Str.ofString " ") (ds.map txD))) H')→sp_deed_text vs H Q E
inductive sp__law_word (vs:List V) (H:Hp) (Q:VK) (E:XK):Prop
 | mk:∀ B L m,(vs=[.ref B,.int ((m:Nat):Int)])→(BagAt H B L)→(m≤10)→(∀ z H',z.length=m→(∀ c∈sg z,lowC c=true)→BagAt H' B L→Fr1 B H H'→Q (.str z) H')→sp__law_word vs H Q E
inductive sp_Ship_init (K:PySem.W.Frag) (cx:Str→Addr) (vs:List V) (H:Hp) (Q:VK) (E:XK):Prop
 | mk:∀ p,(vs=[.ref p])→(Ob (cx "Ship") [] H p [])→(∀ fu lo de la H',H fu=none→H lo=none→H de=none→H la=none→Ob (cx "Ship") shN H' p [.bl false,.int 0,.int 0,.ref fu,.ref lo,.ref de,.int 0,.ref la]→H' fu=some (.lst ([0,0,0,0,0,0].map V.int))→H' lo=some (.lst [])→H' de=some (.lst [])→H' la=some (.lst [])→Fr1 p H H'→Q .non H')→sp_Ship_init K cx vs H Q E
inductive sp_Ship_copy (K:PySem.W.Frag) (cx:Str→Addr) (vs:List V) (H:Hp) (Q:VK) (E:XK):Prop
 | mk:∀(p:Addr)(a b c d e f g h:V),(vs=[.ref p])→(Ob (cx "Ship") shN H p [a,b,c,d,e,f,g,h])→(∀ q H',H q=none→Same H H'→Ob (cx "Ship") shN H' q [a,b,c,d,e,f,g,h]→Q (.ref q) H')→sp_Ship_copy K cx vs H Q E
inductive sp_Ship_go_out (K:PySem.W.Frag) (cx:Str→Addr) (vs:List V) (H:Hp) (Q:VK) (E:XK):Prop
 | mk:∀ X:Addr→Prop,∀ p sh w,(vs=[.ref p,.int w])→((∀ a,X a→H a≠none))→(ShipAt X K (cx "Ship") (cx "Debt") H p sh)→(∀ H',ShipAt X K (cx "Ship") (cx "Debt") H' p { sh with away:=true,voyage:=sh.voyage+1,funds:=[w,0,0,0,0,0],lots:=[] }→Fr1 p H H'→Q .non H')→sp_Ship_go_out K cx vs H Q E
inductive sp_Ship_sail (K:PySem.W.Frag) (cx:Str→Addr) (vs:List V) (H:Hp) (Q:VK) (E:XK):Prop
 | mk:∀ X:Addr→Prop,∀ p sh n,(vs=[.ref p,.int n])→(ShipAt X K (cx "Ship") (cx "Debt") H p sh)→(∀ H',ShipAt X K (cx "Ship") (cx "Debt") H' p { sh with today:=sh.today+n }→Fr1 p H H'→Q .non H')→sp_Ship_sail K cx vs H Q E
inductive sp_Debt_init (K:PySem.W.Frag) (cx:Str→Addr) (vs:List V) (H:Hp) (Q:VK) (E:XK):Prop
 | mk:∀(p:Addr)(a b c d e:V),(vs=[.ref p,a,b,c,d,e])→(Ob (cx "Debt") [] H p [])→(∀ H',Ob (cx "Debt") dbN H' p [a,b,c,d,e]→Fr1 p H H'→Q .non H')→sp_Debt_init K cx vs H Q E
inductive sp_Ship_owe (K:PySem.W.Frag) (cx:Str→Addr) (vs:List V) (H:Hp) (Q:VK) (E:XK):Prop
 | mk:∀ X:Addr→Prop,∀(p:Addr)(sh:Shp)(z:Str)(t e:Addr)(tch:List Int) (tm:List (Option Int)),(vs=[.ref p,.str z,.ref t,.ref e])→((∀ a,X a→H a≠none))→(ShipAt X K (cx "Ship") (cx "Debt") H p sh)→(TupAt K H t (tch.map V.int))→(H e=some (.tup (tm.map ov)))→(sh.debts.length≤20)→(∀ H',ShipAt X K (cx "Ship") (cx "Debt") H' p { sh with made:=sh.made+1,debts:=sh.debts++[⟨sh.made+1,z,sh.today,tch,tm⟩] }→Fr1 p H H'→Q .non H')→sp_Ship_owe K cx vs H Q E
inductive sp_Ship_hire (K:PySem.W.Frag) (cx:Str→Addr) (vs:List V) (H:Hp) (Q:VK) (E:XK):Prop
 | mk:∀ X:Addr→Prop,∀ p sh n,(vs=[.ref p,.int n])→((∀ a,X a→H a≠none))→(ShipAt X K (cx "Ship") (cx "Debt") H p sh)→(sh.debts.length≤20)→(∀ H',ShipAt X K (cx "Ship") (cx "Debt") H' p { sh with made:=sh.made+1,debts:=sh.debts++[⟨sh.made+1, "wage", sh.today,[0,1],[some n,none]⟩] }→Fr1 p H H'→Q .non H')→sp_Ship_hire K cx vs H Q E
inductive sp_Debt_due (K:PySem.W.Frag) (cx:Str→Addr) (vs:List V) (H:Hp) (Q:VK) (E:XK):Prop
 | mk:∀(q:Addr)(d:Dbt)(n w:Int),(vs=[.ref q,.int n])→(DebtAt K (cx "Debt") H q d)→(d.word=Str.ofString "wage")→(d.tm=[some w,none])→(Sz 200 w)→(Sz 200 n)→(Sz 200 d.mom)→(∀ r H',Same H H'→H' r=some (.tup [.int (w*(n - d.mom)),.int 1])→Q (.ref r) H')→sp_Debt_due K cx vs H Q E
inductive sp_Ship_claims (K:PySem.W.Frag) (cx:Str→Addr) (vs:List V) (H:Hp) (Q:VK) (E:XK):Prop
 | mk:∀ X:Addr→Prop,∀(p:Addr)(sh:Shp)(n:Int),(vs=[.ref p])→(ShipAt X K (cx "Ship") (cx "Debt") H p sh)→(sh.debts=[⟨n,Str.ofString "wage", 0,[0,1],[some 7,none]⟩])→(0≤sh.today)→(Sz 100 sh.today)→(∀ F r t q H',Same H H'→H' F=some (.lst [.ref r])→H' r=some (.tup [.int n,.str "wage", .int 0,.ref q,.ref t])→H' q=some (.tup [.int (7*(sh.today - 0)),.int 1])→Q (.ref F) H')→sp_Ship_claims K cx vs H Q E
inductive sp_is_from (vs:List V) (H:Hp) (Q:VK) (E:XK):Prop
 | mk:∀ a b c:Int,(vs=[.int a,.int b,.int c])→(∀ H',Same H H'→Q (.bl (decide (b≤a∧a≤c))) H')→sp_is_from vs H Q E
inductive sp_find (vs:List V) (H:Hp) (Q:VK) (E:XK):Prop
 | mk:∀(f:Addr) (kvs:List (Key×V)) (z:Str) (p:Addr),(vs=[.ref f,.str z])→(H f=some (.dK kvs))→(valV kvs (Sum.inr z)=some (.ref p))→(∀ H',Same H H'→Q (.ref p) H')→sp_find vs H Q E
inductive sp_find_at_sea (K:PySem.W.Frag) (cx:Str→Addr) (vs:List V) (H:Hp) (Q:VK) (E:XK):Prop
 | mk:∀ X:Addr→Prop,∀(f:Addr) (kvs:List (Key×V)) (z:Str) (p:Addr) (sh:Shp),(vs=[.ref f,.str z])→(H f=some (.dK kvs))→(valV kvs (Sum.inr z)=some (.ref p))→(ShipAt X K (cx "Ship") (cx "Debt") H p sh)→(sh.away=true)→(∀ H',Same H H'→Q (.ref p) H')→sp_find_at_sea K cx vs H Q E
inductive sp_check_room (K:PySem.W.Frag) (cx:Str→Addr) (vs:List V) (H:Hp) (Q:VK) (E:XK):Prop
 | mk:∀ X:Addr→Prop,∀ p sh,(vs=[.ref p])→(ShipAt X K (cx "Ship") (cx "Debt") H p sh)→(sh.debts.length < 10)→(∀ H',Same H H'→Q .non H')→sp_check_room K cx vs H Q E
inductive sp_hire (K:PySem.W.Frag) (cx:Str→Addr) (vs:List V) (H:Hp) (Q:VK) (E:XK):Prop
 | mk:∀ X:Addr→Prop,∀ p sh n,(vs=[.ref p,.int n])→((∀ a,X a→H a≠none))→(ShipAt X K (cx "Ship") (cx "Debt") H p sh)→(1≤n)→(n≤1000000)→(sh.debts.length < 10)→(∀ H',ShipAt X K (cx "Ship") (cx "Debt") H' p { sh with made:=sh.made+1,debts:=sh.debts++[⟨sh.made+1, "wage", sh.today,[0,1],[some n,none]⟩] }→Fr1 p H H'→Q .non H')→sp_hire K cx vs H Q E
inductive sp_sail (K:PySem.W.Frag) (cx:Str→Addr) (vs:List V) (H:Hp) (Q:VK) (E:XK):Prop
 | mk:∀ X:Addr→Prop,∀ p sh n,(vs=[.ref p,.int n])→(ShipAt X K (cx "Ship") (cx "Debt") H p sh)→(1≤n)→(n≤1000)→(∀ H',ShipAt X K (cx "Ship") (cx "Debt") H' p { sh with today:=sh.today+n }→Fr1 p H H'→Q .non H')→sp_sail K cx vs H Q E
inductive sp_out (K:PySem.W.Frag) (cx:Str→Addr) (vs:List V) (H:Hp) (Q:VK) (E:XK):Prop
 | mk:∀ X:Addr→Prop,∀(f:Addr) (kvs:List (Key×V)) (z:Str) (w:Int),(vs=[.ref f,.str z,.int w])→((∀ a,X a→H a≠none))→(H f=some (.dK kvs))→(valV kvs (Sum.inr z)=none)→(kvs.length < 4)→(nameB z=true)→(1≤w)→(w≤1000000000)→(∀ p H',Same H H'→H p=none→ShipAt X K (cx "Ship") (cx "Debt") H' p ⟨true,0,1,[w,0,0,0,0,0],[],[],0,[]⟩→Q (.ref p) H')→sp_out K cx vs H Q E
inductive sp_do_at_sea (K:PySem.W.Frag) (cx:Str→Addr) (vs:List V) (H:Hp) (Q:VK) (E:XK):Prop
 | mk:∀ X:Addr→Prop,∀(p d:Addr)(sh sh':Shp)(word name:Str)(n:Int),(vs=[.ref p,.ref d])→((∀ a,X a→H a≠none))→(H d=some (.tup [.str word,.str name,.int n]))→(ShipAt X K (cx "Ship") (cx "Debt") H p sh)→(((word = "hire" ∧ 1≤n∧n≤1000000∧sh.debts.length < 10∧sh'={ sh with made:=sh.made+1,debts:=sh.debts++[⟨sh.made+1, "wage", sh.today,[0,1],[some n,none]⟩] })∨(word = "sail" ∧ 1≤n∧n≤1000∧sh'={ sh with today:=sh.today+n })))→(∀ H',ShipAt X K (cx "Ship") (cx "Debt") H' p sh'→Fr1 p H H'→Q .non H')→sp_do_at_sea K cx vs H Q E
inductive sp_ship_behind (K:PySem.W.Frag) (cx:Str→Addr) (vs:List V) (H:Hp) (Q:VK) (E:XK):Prop
 | mk:∀ X:Addr→Prop,∀(f d:Addr)(L:Str→Option Shp)(m:Nat)(word name:Str)(n:Int)(sh':Shp),(vs=[.ref f,.ref d])→((∀ a,X a→H a≠none))→(FleetAt X K (cx "Ship") (cx "Debt") H f L m)→(H d=some (.tup [.str word,.str name,.int n]))→(DoesTo L m word name n sh')→(∀ p H',Same H H'→ShipAt X K (cx "Ship") (cx "Debt") H' p sh'→Q (.ref p) H')→sp_ship_behind K cx vs H Q E
inductive sp_ships_behind (K:PySem.W.Frag) (cx:Str→Addr) (vs:List V) (H:Hp) (Q:VK) (E:XK):Prop
 | mk:∀ X:Addr→Prop,∀(f d:Addr)(L:Str→Option Shp)(m:Nat)(word name:Str)(n:Int)(sh':Shp),(vs=[.ref f,.ref d])→((∀ a,X a→H a≠none))→(FleetAt X K (cx "Ship") (cx "Debt") H f L m)→(m≤10)→(H d=some (.tup [.str word,.str name,.int n]))→(DoesTo L m word name n sh')→(∀ g H',Same H H'→FleetAt X K (cx "Ship") (cx "Debt") H' g (upL L name sh') (if L name=none then m+1 else m)→Q (.ref g) H')→sp_ships_behind K cx vs H Q E
inductive sp_Book_init (K:PySem.W.Frag) (cx:Str→Addr) (vs:List V) (H:Hp) (Q:VK) (E:XK):Prop
 | mk:∀ p,(vs=[.ref p])→(Ob (cx "Book") [] H p [])→(∀ st un H',H st=none→H un=none→st≠un→Ob (cx "Book") bkN H' p [.ref st,.ref un]→H' st=some (.lst [])→H' un=some (.lst [])→Fr1 p H H'→Q .non H')→sp_Book_init K cx vs H Q E
inductive sp_Book_fleet (K:PySem.W.Frag) (cx:Str→Addr) (vs:List V) (H:Hp) (Q:VK) (E:XK):Prop
 | mk:∀ b st un ss us,(vs=[.ref b])→(BookAt K (cx "Book") (cx "Ship") (cx "Debt") H b st un ss us)→(∀ f H',Same H H'→FleetAt (BX b st un) K (cx "Ship") (cx "Debt") H' f (topL ss) (topM ss)→Q (.ref f) H')→sp_Book_fleet K cx vs H Q E
inductive sp_Book_do (K:PySem.W.Frag) (cx:Str→Addr) (vs:List V) (H:Hp) (Q:VK) (E:XK):Prop
 | mk:∀(b st un d:Addr)(ss us:List Stp)(word name:Str)(n:Int)(sh':Shp),(vs=[.ref b,.ref d])→(BookAt K (cx "Book") (cx "Ship") (cx "Debt") H b st un ss us)→(H d=some (.tup [.str word,.str name,.int n]))→(topM ss≤10)→(ss.length < 900)→(DoesTo (topL ss) (topM ss) word name n sh')→(∀ un' H',BookAt K (cx "Book") (cx "Ship") (cx "Debt") H' b st un' (ss++[⟨word,name,n,upL (topL ss) name sh',if topL ss name=none then topM ss+1 else topM ss⟩]) []→FrX (BX b st un) H H'→H un'=none→Q .non H')→sp_Book_do K cx vs H Q E
inductive sp_Book_day (K:PySem.W.Frag) (cx:Str→Addr) (vs:List V) (H:Hp) (Q:VK) (E:XK):Prop
 | mk:∀(b st un:Addr)(ss us:List Stp)(name:Str)(sh:Shp),(vs=[.ref b,.str name])→(BookAt K (cx "Book") (cx "Ship") (cx "Debt") H b st un ss us)→(topL ss name=some sh)→(∀ H',Same H H'→Q (.int sh.today) H')→sp_Book_day K cx vs H Q E
inductive sp_Book_claims (K:PySem.W.Frag) (cx:Str→Addr) (vs:List V) (H:Hp) (Q:VK) (E:XK):Prop
 | mk:∀(b st un:Addr)(ss us:List Stp)(name:Str)(sh:Shp)(n:Int),(vs=[.ref b,.str name])→(BookAt K (cx "Book") (cx "Ship") (cx "Debt") H b st un ss us)→(topL ss name=some sh)→(sh.debts=[⟨n,Str.ofString "wage", 0,[0,1],[some 7,none]⟩])→(0≤sh.today)→(Sz 100 sh.today)→(∀ F r t q H',Same H H'→H' F=some (.lst [.ref r])→H' r=some (.tup [.int n,.str "wage", .int 0,.ref q,.ref t])→H' q=some (.tup [.int (7*(sh.today - 0)),.int 1])→Q (.ref F) H')→sp_Book_claims K cx vs H Q E
inductive sp_Book_back (K:PySem.W.Frag) (cx:Str→Addr) (vs:List V) (H:Hp) (Q:VK) (E:XK):Prop
 | mk:∀(b st un:Addr)(ss us:List Stp),(vs=[.ref b])→(BookAt K (cx "Book") (cx "Ship") (cx "Debt") H b st un ss us)→(ss.length+us.length≤500)→((ss=[]→E (.ref (cx "NoBack")) none H))→(∀ rs s d H',ss=rs++[s]→BookAt K (cx "Book") (cx "Ship") (cx "Debt") H' b st un rs (us++[s])→FrX (BX b st un) H H'→H' d=some (.tup [.str s.word,.str s.name,.int s.n])→Q (.ref d) H')→sp_Book_back K cx vs H Q E
inductive sp_Book_again (K:PySem.W.Frag) (cx:Str→Addr) (vs:List V) (H:Hp) (Q:VK) (E:XK):Prop
 | mk:∀(b st un:Addr)(ss us:List Stp),(vs=[.ref b])→(BookAt K (cx "Book") (cx "Ship") (cx "Debt") H b st un ss us)→(ss.length+us.length≤500)→((us=[]→E (.ref (cx "NoBack")) none H))→(∀ rs s d H',us=rs++[s]→BookAt K (cx "Book") (cx "Ship") (cx "Debt") H' b st un (ss++[s]) rs→FrX (BX b st un) H H'→H' d=some (.tup [.str s.word,.str s.name,.int s.n])→Q (.ref d) H')→sp_Book_again K cx vs H Q E
inductive sp_Book_deeds (K:PySem.W.Frag) (cx:Str→Addr) (vs:List V) (H:Hp) (Q:VK) (E:XK):Prop
 | mk:∀(b st un:Addr)(ss us:List Stp),(vs=[.ref b])→(BookAt K (cx "Book") (cx "Ship") (cx "Debt") H b st un ss us)→(ss.length≤500)→(∀ F ds H',Same H H'→H' F=some (.lst ds)→ds.length=ss.length→(∀(i:Nat) s,ss[i]?=some s→∃ d,ds[i]?=some (.ref d)∧H' d=some (.tup [.str s.word,.str s.name,.int s.n]))→Q (.ref F) H')→sp_Book_deeds K cx vs H Q E
inductive sp__law_back (K:PySem.W.Frag) (cx:Str→Addr) (vs:List V) (H:Hp) (Q:VK) (E:XK):Prop
 | mk:∀(b st un:Addr)(ss us:List Stp),(vs=[.ref b])→(BookAt K (cx "Book") (cx "Ship") (cx "Debt") H b st un ss us)→(ss.length+us.length≤500)→((ss=[]→∀ T H',Same H H'→H' T=some (.tup [.str "NoBack", .non])→Q (.ref T) H'))→(∀ rs s T d H',ss=rs++[s]→BookAt K (cx "Book") (cx "Ship") (cx "Debt") H' b st un rs (us++[s])→FrX (BX b st un) H H'→H' T=some (.tup [.str "told", .ref d])→Q (.ref T) H')→sp__law_back K cx vs H Q E
inductive sp__law_again (K:PySem.W.Frag) (cx:Str→Addr) (vs:List V) (H:Hp) (Q:VK) (E:XK):Prop
 | mk:∀(b st un:Addr)(ss us:List Stp),(vs=[.ref b])→(BookAt K (cx "Book") (cx "Ship") (cx "Debt") H b st un ss us)→(ss.length+us.length≤500)→((us=[]→∀ T H',Same H H'→H' T=some (.tup [.str "NoBack", .non])→Q (.ref T) H'))→(∀ rs s T d H',us=rs++[s]→BookAt K (cx "Book") (cx "Ship") (cx "Debt") H' b st un (ss++[s]) rs→FrX (BX b st un) H H'→H' T=some (.tup [.str "told", .ref d])→Q (.ref T) H')→sp__law_again K cx vs H Q E
inductive sp__law_stands (K:PySem.W.Frag) (cx:Str→Addr) (vs:List V) (H:Hp) (Q:VK) (E:XK):Prop
 | mk:∀(b st un:Addr)(ss us:List Stp)(name:Str)(sh:Shp)(n:Int),(vs=[.ref b,.str name,.int sh.today])→(BookAt K (cx "Book") (cx "Ship") (cx "Debt") H b st un ss us)→(topL ss name=some sh)→(sh.debts=[⟨n,Str.ofString "wage", 0,[0,1],[some 7,none]⟩])→(0≤sh.today)→(Sz 100 sh.today)→(∀ H',Same H H'→Q (.bl true) H')→sp__law_stands K cx vs H Q E
inductive sp__law_names (vs:List V) (H:Hp) (Q:VK) (E:XK):Prop
 | mk:∀ B L,(vs=[.ref B])→(BagAt H B L)→(∀ F z0 z1 z2 z3 H',H' F=some (.lst [.str z0,.str z1,.str z2,.str z3])→nameB z0=true→nameB z1=true→z0≠z1→BagAt H' B L→H F=none→Fr1 B H H'→Q (.ref F) H')→sp__law_names vs H Q E
inductive sp_page_text (K:PySem.W.Frag) (cx:Str→Addr) (vs:List V) (H:Hp) (Q:VK) (E:XK):Prop
 | mk:∀(b st un:Addr)(ss us:List Stp),(vs=[.ref b])→(BookAt K (cx "Book") (cx "Ship") (cx "Debt") H b st un ss us)→(ss.length≤200)→((∀ s∈ss,okS s))→(∀ z H',Same H H'→z.length≤20000→(Txt.split z (Str.ofString "\n")).length=ss.length+1→Q (.str z) H')→sp_page_text K cx vs H Q E
inductive sp_Book_ships (K:PySem.W.Frag) (cx:Str→Addr) (vs:List V) (H:Hp) (Q:VK) (E:XK):Prop
 | mk:∀(b st un:Addr)(us:List Stp),(vs=[.ref b])→(BookAt K (cx "Book") (cx "Ship") (cx "Debt") H b st un [] us)→(∀ F H',Same H H'→H' F=some (.lst [])→Q (.ref F) H')→sp_Book_ships K cx vs H Q E
inductive sp_is_name (vs:List V) (H:Hp) (Q:VK) (E:XK):Prop
 | mk:∀ z,(vs=[.str z])→(z.length≤1000)→((∀ c∈sg z,c < 128))→(∀ H',Same H H'→Q (.bl (nameB z)) H')→sp_is_name vs H Q E
abbrev sp_law(K:PySem.W.Frag)(cx:Str→Addr):Sp:=fun vs H Q _=>∃ a ns,vs=[.ref a]∧SqL K H a (List.map V.int ns)∧ns.length≤63∧∀ H',Q (.bl true) H'
local macro_rules | `(tactic| k_extra "rd")=>`(tactic| simp only[tSeq_ap,tIfS_ap,tNext_ap,tDrop_ap,tRet_ap,tRetN_ap,tVar_ap,tC_ap,tB_ap,tTest_ap,tOp_ap,tUn_ap,tCB_ap,tNil_ap,tCons_ap,tTup_ap,tLst_ap,tAsg_ap,gName_ap,gSub_ap,tPar_ap,tAugS_ap,rI_ap,rI0_ap,rU_ap,rEq_ap,rNe_ap,  scal_ii,scal_bb,scal_ss,scal_nn,tAnd_ap,tOr_ap,tNot_ap,tAndV_ap,tOrV_ap,tNotV_ap,tIf_ap,tChain_ap,tD_ap,Hold_ap,Brk_t,Brk_f,tIsN_ap,tNotN_ap,ipI_ap,
 rIxF_ap,rLenF_ap,rGetF_ap,rSetL_ap,rIsi_ap,tyNm,isiN_int,isiN_bool,isiN_list,isiN_tuple,isiN_str,isi_ii,isi_ib,isi_bb,isi_bi,isi_tt,isi_ll,isi_nt,isi_ni,rListF_ap,rTupF_ap,rSumF_ap,rAllF_ap,rAnyF_ap,tBM_ap,rAppend_ap,compSt_ap,join_somz,tRev_ap,rInsert_ap,tPart_ap,tNoPart_ap,Int.reduceEq,  sizeLine_0,sizeLine_8,sizeLine_10,L2.start,CMulB,CDivB,CPow,tCallX_ap,tTry_ap,tRaise_ap,
 List.getElem?_cons_zero,List.getElem?_cons_succ,List.set_cons_zero,List.set_cons_succ,List.map_cons,List.map_nil,List.cons_append,List.nil_append,List.length_cons,List.length_nil,List.length_map,Nat.reduceAdd,Nat.reduceSub,Nat.zero_add,Nat.sub_self,List.replicate_succ,List.replicate_zero,
 Option.some.injEq,V.int.injEq,V.bl.injEq,V.ref.injEq,V.ty.injEq,V.str.injEq,HO.lst.injEq,HO.tup.injEq,List.cons.injEq,reduceCtorEq,exists_eq_left',exists_eq_left,exists_eq_right',exists_eq_right,exists_and_left,and_assoc,and_true,true_and,and_self,eq_self,decide_true,decide_false,decide_eq_true_eq,Bool.not_eq_true',decide_eq_false_iff_not,Bool.true_eq_false,Bool.false_eq_true,if_true,if_false,Bool.not_false,Bool.not_true,Bool.true_and,Bool.false_and,Bool.and_true,Bool.and_false,Bool.true_or,Bool.false_or,not_true_eq_false,ne_eq,not_false_eq_true,atI_0,atI_1,atI_2,atI_3,ixN_4_0,ixN_4_1,ixN_4_2,ixN_4_3,seqAt,upd_same,upd_ne,sizeLine_1,sizeLine_2,sizeLine_3,sizeLine_4,sizeLine_5,sizeLine_6,sizeLine_7,int_01,int_c2,pow_ok,Int.reduceLE,Int.reduceLT,Int.reduceAdd,Int.reduceSub,Int.reduceMul,Int.reduceNeg,Int.reducePow,Int.reduceToNat, *])
local macro_rules | `(tactic| k_extra "rx")=>`(tactic| repeat (first
 | (with_reducible refine i_tSeq ?_) | (with_reducible refine i_tIf ?_) | (with_reducible refine i_tFld ?_) | (with_reducible refine i_sFld ?_) | (with_reducible refine i_tM ?_) | (with_reducible refine i_tDIn ?_) | (with_reducible refine i_tDNotIn ?_) | (with_reducible refine i_tDGet ?_) | (with_reducible refine i_tMk ?_) | (with_reducible refine i_sFldAug ?_) | (with_reducible refine i_tAsg ?_) | (with_reducible refine i_gName ?_) | ((with_reducible apply i_tVar);(exact rfl)) | (with_reducible refine i_tC ?_) | (with_reducible refine i_tOp ?_) | (with_reducible refine i_tIfS ?_) | (with_reducible refine i_tTest ?_) | (with_reducible refine i_tB ?_) | (with_reducible refine i_exB ?_)
 | (with_reducible refine i_rI0 ?_) | (with_reducible refine i_tUn ?_) | (with_reducible refine i_rU ?_) | (with_reducible refine i_tCons ?_) | (with_reducible refine i_tNil ?_) | (with_reducible refine i_tD ?_) | (with_reducible refine i_tCB ?_) | (with_reducible refine i_tRet ?_) | (with_reducible refine i_tNext ?_) | (with_reducible refine i_tDrop ?_) | (with_reducible refine i_gSub ?_) | (with_reducible refine i_tAugS ?_) | (with_reducible refine i_tNot ?_) | (with_reducible refine i_tAnd ?_) | (with_reducible refine i_tOr ?_) | (with_reducible refine i_ipI ?_) | (with_reducible refine i_brkT ?_) | (with_reducible refine i_brkF ?_) | (with_reducible refine i_tTup ?_) | (with_reducible refine i_tLst ?_)
 | ((with_reducible refine i_rI ?_ ?_);(first | (exact Sz.ok (by assumption) (by assumption) (by decide)) | (exact⟨by assumption,by assumption⟩) | (exact⟨by decide,by decide⟩) | (show (0:Int) < _;first | decide | assumption) | (exact mul_mod_ok) | (exact Sz.okR (k:=31) (by decide) (by decide)) | (exact (⟨by decide,by decide,by decide⟩:CPow _ _))))
 | refine i_ixL (by assumption) rfl ?_ | refine i_ixT (by assumption) rfl ?_ | refine i_ixL (by assumption) (by assumption) ?_ | refine i_lenL (by assumption) ?_ | refine i_getL (by assumption) (by decide) rfl ?_))
section
variable {P:Program}{w:World}{K:PySem.W.Frag}{mg:Str→Option Value}{base:Heap}{cx:Str→Addr}{f:Addr}{fd:FuncData}
theorem ok__law_bag(D:DefAt K mg "_law_bag" s__law_bag f fd)(T:Txt K mg cx):DefOk P w K mg base CX0 1 "_law_bag" ["_law_script"] (sp__law_bag K cx):=by
 refine D.ok (D.q sc__law_bag (fun vs H Q E h=>?_) (fun cdv A outer s H vs Q E hr h=>?_)) (D.fn.binds fun _ _ _ _ _ _ us hl=>match us,hl with | [_],_=>rfl)
 ·obtain⟨_,_,rfl,_⟩:=h
  rfl
 obtain⟨a,ns,rfl,hS,hl,hQ⟩:=h
 have hc:cutV (List.map V.int ns) none (some (63:Int))=List.map V.int ns:=cutV_all (k:=63) (by rw[List.length_map];exact hl)
 refine⟨_,(qss_cons (qs_sL 1 sc__law_bag.nd (qe_callB call_lenF (by rfl) T.n_len bt_len (qa_1 (qe_slice sl_list (qv 0) qo_none (qo_some qe_int)))))
   (qss_cons (qs_for PassesOwn.never rfl (qi_listK (K:=K) rfl (qe_slice sl_list (qv 0) qo_none (qo_some qe_int))) (qg_name (i:=2) sc__law_bag.nd rfl (Or.inl rfl)) (qss_one (qs_sL 1 sc__law_bag.nd (qe_op op_mod (qe_op op_add (qe_op op_mulB (qv 1) qe_int) (qv 2)) qe_int))))
   (qss_one (qs_ret (qe_lst (qa_cons (qe_callTy call_listF (by rfl) T.n_list bt_list (qa_1 (qe_slice sl_list (qv 0) qo_none (qo_some qe_int)))) (qa_cons qe_int (qa_cons qe_int (qa_cons (qv 1) qa_nil))))))))),?_⟩
 refine⟨_,rfl,_,rfl,a,_,rfl,hS,fun p hp=>?_⟩
 rw[hc]
 refine⟨p,_,rfl,by unfold seqAt;rw[upd_same],?_⟩
 have s1:Same H (upd H p (.lst (List.map V.int ns))):=Same.new hp
 refine⟨_,rfl,_,rfl,a,_,rfl,s1.seq hS,fun p2 hp2=>?_⟩
 rw[hc]
 have s2:Same H (upd (upd H p (.lst (List.map V.int ns))) p2 (.lst (List.map V.int ns))):=s1.trans (Same.new hp2)
 refine⟨p2,rfl,⟨_,SqL.of upd_same⟩,for_list (K:=K) (a:=p2) (xs:=List.map V.int ns) (fun i σ H2=>∃(z:Int)(v:Option V),σ=[some (.ref a),some (.int z),v]∧Same H H2∧SqL K H2 p2 (List.map V.int ns)) ⟨_,_,rfl,s2,SqL.of upd_same⟩ (fun i σ H2 _ ⟨_,_,_,_,q⟩=>q) ?_ ?_⟩
 ·rintro i y σ H2 hy ⟨z,v,rfl,s3,hp3⟩
  obtain⟨k,rfl⟩:∃ k,y=V.int k:=by
   rw[List.getElem?_map] at hy
   cases e:ns[i]? with
   | none=>rw[e] at hy;cases hy
   | some k=>rw[e] at hy;exact⟨k,(Option.some.inj hy).symm⟩
  k_extra "rd"
  exact⟨Sz.okR (k:=10) (by decide) (by decide),_,rfl⟩
 ·rintro σ H2 ⟨z,v,rfl,s3,hp3⟩
  refine⟨_,rfl,_,rfl,a,_,rfl,s3.seq hS,fun p4 hp4=>?_⟩
  rw[hc]
  refine⟨p4,_,rfl,by unfold seqAt;rw[upd_same],fun L hL=>?_⟩
  k_extra "rd"
  intro B hB
  have s5:=(s3.trans (Same.new (o:=.lst (List.map V.int ns)) hp4)).trans (Same.new (o:=.lst (List.map V.int ns)) hL)
  have nBL:L≠B:=fun e=>by rw[← e,upd_same] at hB;cases hB
  refine hQ B L _ (s5.trans (Same.new hB)) (s5.free hB) ⟨ns,0,0,z,upd_same,?_,by omega⟩
  rw[upd_ne nBL,upd_same]
theorem ok__law_pull(D:DefAt K mg "_law_pull" s__law_pull f fd)(T:Txt K mg cx):DefOk P w K mg base CX0 1 "_law_pull" ["_law_bag_here","_law_many"] sp__law_pull:=by
 refine D.ok (D.q sc__law_pull (fun vs H Q E h=>?_) (fun cdv A outer s H vs Q E hr h=>?_)) (D.fn.binds fun _ _ _ _ _ _ us hl=>match us,hl with | [_,_],_=>rfl)
 ·obtain⟨_,_,_,rfl,_⟩:=h
  rfl
 obtain⟨B,m,L,rfl,⟨ns,i,r,salt,hB,hL,hi⟩,hm,hz,hQ⟩:=h
 have nLB:L≠B:=ne_of hL hB (by intro e;cases ns<;>cases e)
 refine⟨_,(qss_cons (qs_if (qt_cmpR op_le (qe_iS (qv 0) qe_int) qe_int (nomark _)) (qss_cons (qs_augS (qv 0) qe_int get_list qe_int ip_add set_list)
   (qss_cons (qs_sL 2 sc__law_pull.nd (qe_iS (qv 0) qe_int))
   (qss_cons (qs_if (qt_cmpR op_le (qe_iS (qv 0) qe_int) (qe_callB call_lenF (by rfl) T.n_len bt_len (qa_1 (qe_iS (qv 0) qe_int))) (nomark _)) (qss_one (qs_sL 2 sc__law_pull.nd (qe_iS (qe_iS (qv 0) qe_int) (qe_op op_sub (qe_iS (qv 0) qe_int) qe_int)))) qss_nil)
   (qss_cons (qs_if (qw_or (qt_cmpR op_gt (qe_iS (qv 0) qe_int) (qe_callB call_lenF (by rfl) T.n_len bt_len (qa_1 (qe_iS (qv 0) qe_int))) (nomark _)) (qw_or1 (qt_cmpR op_lt (qv 2) (qe_op op_pow qe_int qe_int) (nomark _)))).pt (qss_cons (qs_sL 3 sc__law_pull.nd (qe_op op_mod (qe_op op_add (qe_op op_add (qe_op op_mulB (qv 2) qe_int) (qe_op op_mulB (qe_iS (qv 0) qe_int) qe_int)) qe_int) qe_int))
   (qss_cons (qs_sL 3 sc__law_pull.nd (qe_op op_mod (qe_op op_mulB (qv 3) (qv 3)) qe_int))
   (qss_one (qs_ret (qe_op op_mod (qe_op op_fdivB (qe_op op_mod (qe_op op_mulB (qe_op op_add (qv 3) (qe_iS (qv 0) qe_int)) qe_int) qe_int) qe_int) (qv 1)))))) qss_nil)
   (qss_one (qs_asg (qv 2) (qg_sub (qv 0) qe_int set_list))))))) qss_nil)
   (qss_cons (qs_sL 4 sc__law_pull.nd (qe_op op_mod (qe_iS (qv 0) qe_int) (qv 1)))
   (qss_cons (qs_asg (qe_op op_fdivB (qe_iS (qv 0) qe_int) (qv 1)) (qg_sub (qv 0) qe_int set_list))
   (qss_one (qs_ret (qv 4)))))),?_⟩
 refine seq_cut (fun σ' H'=>∃ i' r' v2 v3,σ'=[some (.ref B),some (.int m),v2,v3,none]∧H' B=some (.lst [.ref L,.int i',.int r',.int salt])∧0≤i'∧Fr1 B H H') ?_ fun tb' key=>?_
 ·rintro σ H1 ⟨i',r',v2,v3,rfl,hB1,hi1,f1⟩
  clear hB
  k_extra "rx"
  refine i_setN hB1 rfl rfl fun H2 hB2 f2=>?_
  k_extra "rx"
  exact hQ _ _ (Int.emod_nonneg _ (Int.ne_of_gt hm)) (Int.emod_lt_of_pos _ hm) ⟨ns,i',_,salt,hB2,f2 _ _ nLB (f1 _ _ nLB hL),hi1⟩ (f1.trans f2)
 k_extra "rx"
 refine brkD (fun h1=>?_) (fun h1=>?_)
 ·k_extra "rx"
  refine i_setN hB rfl rfl fun H1 s1 f1=>?_
  have hL1:=f1 _ _ nLB hL
  have i1:0≤i+1:=Int.le_add_one hi
  clear hB
  k_extra "rx"
  refine brkD (fun h2=>?_) (fun h2=>?_)
  ·obtain⟨v,e,hv⟩:=atI_lt (xs:=List.map V.int ns) (i:=i+1 - 1) (by omega) (by omega)
   obtain⟨z,_,rfl⟩:=List.mem_map.mp hv
   k_extra "rx"
   refine i_brkN (by omega) ?_
   k_extra "rx"
   refine brkD (fun h4=>?_) (fun h4=>?_)
   ·k_extra "rx"
    exact hQ _ _ (Int.emod_nonneg _ (Int.ne_of_gt hm)) (Int.emod_lt_of_pos _ hm) ⟨ns,_,_,salt,s1,hL1,i1⟩ f1
   ·k_extra "rx"
    refine i_setN s1 rfl rfl fun H2 s2 f2=>?_
    exact key _ _ ⟨_,_,_,_,rfl,s2,i1,f1.trans f2⟩
  ·k_extra "rx"
   refine i_brkP (by omega) ?_
   k_extra "rx"
   exact hQ _ _ (Int.emod_nonneg _ (Int.ne_of_gt hm)) (Int.emod_lt_of_pos _ hm) ⟨ns,_,_,salt,s1,hL1,i1⟩ f1
 ·k_extra "rx"
  exact key _ _ ⟨_,_,_,_,rfl,hB,hi,Fr1.refl⟩
theorem ok_number_text(D:DefAt K mg "number_text" s_number_text f fd)(T:Txt K mg cx):DefOk P w K mg base CX0 1 "number_text" ["number"] sp_number_text:=by
 refine D.ok (D.q sc_number_text (fun vs H Q E h=>?_) (fun cdv A outer s H vs Q E hr h=>?_)) (D.fn.binds fun _ _ _ _ _ _ us hl=>match us,hl with | [_],_=>rfl)
 ·obtain⟨_,rfl,_⟩:=h
  rfl
 obtain⟨n,rfl,hn,hQ⟩:=h
 refine⟨_,(qss_cons (qs_sL 1 sc_number_text.nd (qe_callB call_abs (by rfl) T.n_abs bt_abs (qa_1 (qv 0))))
   (qss_cons (qs_sL 2 sc_number_text.nd qe_str)
   (qss_cons (qs_while PassesOwn.never (qt_cmpR op_ge (qv 1) (qe_op op_pow qe_int qe_int) (nomark _)) (qss_cons qs_no (qss_one qs_no)))
   (qss_cons (qs_sL 3 sc_number_text.nd (qe_ifExp (qt_cmpR op_lt (qv 0) qe_int (nomark _)) qe_str qe_str))
   (qss_one (qs_ret (qe_op op_add_str (qe_op op_add_str (qv 3) (qe_callTy call_str1 (by rfl) T.n_str bt_str (qa_1 (qv 1)))) (qv 2)))))))),?_⟩
 k_extra "rx"
 refine⟨n,rfl,?_⟩
 refine i_gName ?_
 k_extra "rx"
 have hb:(2:Nat) ^ 200≤10 ^ 64:=by decide +kernel
 have ab:(if n < 0 then -n else n)=(n.natAbs:Int):=by split<;>omega
 rw[ab]
 refine⟨fun m σ H'=>H'=H∧σ=[some (.int n),some (.int (n.natAbs:Int)),some (.str (Str.ofString "")),none],⟨0,rfl,rfl⟩,?_⟩
 rintro m σ H' ⟨rfl,rfl⟩
 k_extra "rx"
 refine i_ite (fun h1=>?_) (fun _=>?_)
 ·exfalso
  have h1:=of_decide_eq_true h1
  have h2:(((10 ^ 64:Nat):Nat):Int)≤(n.natAbs:Int):=h1
  have h3:=Int.ofNat_le.mp h2
  omega
 have hl:=dec_len (n:=(n.natAbs:Int)) (by rw[Int.natAbs_natCast];exact hn)
 have hN:((n.natAbs:Nat):Int).natAbs < 2 ^ 1000:=by rw[Int.natAbs_natCast];exact Nat.lt_of_lt_of_le hn (by decide +kernel)
 k_extra "rx"
 refine i_ite (fun h1=>?_) (fun h1=>?_)
 ·have h1:=of_decide_eq_true h1
  have e:Str.ofString "-" ++ dec (n.natAbs:Int)=dec n:=by
   obtain⟨m,rfl⟩:∃ m:Nat,n=-((m+1:Nat):Int):=⟨n.natAbs - 1,by omega⟩
   rw[Int.natAbs_neg,Int.natAbs_natCast,dec_neg]
  have hz:(Str.ofString "-").length=1:=rfl
  k_extra "rx"
  refine i_strN hN ?_
  refine⟨_,_,rfl,rfl,Nat.le_trans (by omega:_+(dec (n.natAbs:Int)).length≤1000) (by decide),?_⟩
  rw[e]
  k_extra "rx"
  refine⟨_,_,rfl,rfl,?_,?_⟩
  ·have:=dec_len hn
   have l0:(Str.ofString "").length=0:=rfl
   rw[l0]
   exact Nat.le_trans (by omega:(dec n).length+0≤1000) (by decide)
  rw[app_em]
  exact hQ
 ·have h1:=of_decide_eq_false h1
  have e:Str.ofString "" ++ dec (n.natAbs:Int)=dec n:=by rw[em_app,show ((n.natAbs:Nat):Int)=n by omega]
  have hz:(Str.ofString "").length=0:=rfl
  k_extra "rx"
  refine i_strN hN ?_
  refine⟨_,_,rfl,rfl,Nat.le_trans (by omega:_+(dec (n.natAbs:Int)).length≤1000) (by decide),?_⟩
  rw[e]
  k_extra "rx"
  refine⟨_,_,rfl,rfl,?_,?_⟩
  ·have:=dec_len hn
   have l0:(Str.ofString "").length=0:=rfl
   rw[l0]
   exact Nat.le_trans (by omega:(dec n).length+0≤1000) (by decide)
  rw[app_em]
  exact hQ
theorem ok_heap_text(D:DefAt K mg "heap_text" s_heap_text f fd)(T:Txt K mg cx):DefOk P w K mg base CX0 1 "heap_text" ["heap"] sp_heap_text:=by
 refine D.ok (D.q sc_heap_text (fun vs H Q E h=>?_) (fun cdv A outer s H vs Q E hr h=>?_)) (D.fn.binds fun _ _ _ _ _ _ us hl=>match us,hl with | [_],_=>rfl)
 ·obtain⟨_,_,rfl,_⟩:=h
  rfl
 obtain⟨t,js,rfl,ht,hj,hb,hQ⟩:=h
 refine⟨_,(qss_one (qs_ret (qe_bmK (K:=K) rfl PySem.F.plainAttrs_str PySem.F.slot_str_join PySem.F.type_str_join mt_join qe_str (qa_1 (qe_cp ["place"] [] (qi_tupK (K:=K) rfl (qv 0)) (gext_name (by decide)) (fun _ _ _ _ _=>⟨(qg_name (i:=0) (show (["place"]:List Str).Nodup by decide +kernel) rfl (Or.inl rfl)),qf_nil,(qe_callTy call_str1 (by rfl) T.n_str bt_str (qa_1 (qv 0)))⟩)))))),?_⟩
 k_extra "rx"
 refine⟨rfl,?_⟩
 k_extra "rx"
 refine⟨_,rfl,t,rfl,⟨_,SqT.of ht⟩,fun F hF=>?_⟩
 refine comp_tupR (K:=K) (a:=t) (xs:=js.map V.int) (fun i acc H2=>Same H H2∧H2 F=some (.lst acc)∧acc=((js.take i).map dec).map V.str) ⟨Same.new hF,upd_same,rfl⟩ (fun i acc H2 _ ⟨s2,_⟩=>SqT.of (s2 _ _ ht)) ?_ ?_
 ·rintro i y acc H2 hy ⟨s2,hF2,rfl⟩
  obtain⟨hi,rfl⟩:=int_at hy
  have b:=hb js[i] (List.getElem_mem hi)
  have len:(((js.take i).map dec).map V.str).length≤6:=by rw[List.length_map,List.length_map,List.length_take];omega
  have et:((js.take (i+1)).map dec).map V.str=((js.take i).map dec).map V.str++[V.str (dec js[i])]:=by rw[List.take_succ_eq_append_getElem hi,List.map_append,List.map_append];rfl
  rw[et]
  simp only[gName_ap,tYes,if_true]
  k_extra "rx"
  refine i_strN (Nat.lt_of_lt_of_le (by omega:(js[i]).natAbs < 10) (by decide +kernel)) ?_
  exact⟨hF2,small1000 (by omega),same_put hF s2,upd_same,rfl⟩
 ·rintro acc H2 ⟨s2,hF2,rfl⟩
  rw[List.length_map,List.take_length] at hF2
  refine⟨_,F,js.map dec,rfl,rfl,hF2,?_,?_⟩
  ·have:∀ l:List Int,(∀ x∈l,0≤x∧x < 10)→((l.map dec).map (·.length)).sum≤70*l.length:=by
    intro l
    induction l with
    | nil=>intro _;exact Nat.le_refl _
    | cons a l ih =>
     intro h
     have h1:=ih fun x hx=>h x (List.mem_cons_of_mem _ hx)
     have h2:=h a List.mem_cons_self
     have h3:=dec_len (n:=a) (Nat.lt_of_lt_of_le (by omega:a.natAbs < 10) (by decide +kernel))
     rw[List.map_cons,List.map_cons,List.sum_cons,List.length_cons]
     omega
   have h1:=this js hb
   have l0:(Str.ofString "").length=0:=rfl
   rw[l0]
   omega
  ·exact hQ _ s2
theorem ok_word_text(D:DefAt K mg "word_text" s_word_text f fd)(T:Txt K mg cx)(d_number_text:DefOk P w K mg base CX0 1 "number_text" ["number"] sp_number_text)(d_heap_text:DefOk P w K mg base CX0 1 "heap_text" ["heap"] sp_heap_text):DefOk P w K mg base CX0 2 "word_text" ["word"] sp_word_text:=by
 refine D.ok (D.q sc_word_text (fun vs H Q E h=>?_) (fun cdv A outer s H vs Q E hr h=>?_)) (D.fn.binds fun _ _ _ _ _ _ us hl=>match us,hl with | [_],_=>rfl)
 ·obtain⟨_,_,rfl,_⟩:=h
  rfl
 obtain⟨v,d,rfl,hd,hx,hQ⟩:=h
 refine⟨_,(qss_cons (qs_if (qt_val (qe_callB call_isi (by rfl) T.n_isinstance bt_isinstance (qa_2 (qv 0) (qe_bltn (v:=.ty "str") (by rfl) T.n_str bt_str rfl)))) (qss_one (qs_ret (qv 0))) qss_nil)
   (qss_cons (qs_if (qt_val (qe_callB call_isi (by rfl) T.n_isinstance bt_isinstance (qa_2 (qv 0) (qe_bltn (v:=.ty "tuple") (by rfl) T.n_tuple bt_tuple rfl)))) (qss_one (qs_ret (qe_g d_heap_text (qa_1 (qv 0))))) qss_nil)
   (qss_one (qs_ret (qe_g d_number_text (qa_1 (qv 0))))))),?_⟩
 cases hx with
 | str z hz =>
  have hd:v=.str z:=hd
  subst hd
  k_extra "rx"
  refine⟨_,_,_,rfl,by decide,rfl,?_⟩
  refine⟨_,rfl,i_brkT ?_⟩
  k_extra "rx"
  exact hQ _ (Same.refl _)
 | hp js hj hb =>
  obtain⟨t,xs,rfl,ht,hD⟩:=hd
  have:=dens_ints hD
  subst this
  k_extra "rx"
  refine⟨_,_,_,rfl,by decide,ty_tup ht,?_⟩
  refine⟨_,rfl,i_brkF ?_⟩
  k_extra "rx"
  refine⟨_,_,_,rfl,by decide,ty_tup ht,?_⟩
  refine⟨_,rfl,i_brkT ?_⟩
  k_extra "rx"
  refine⟨t,js,rfl,ht,hj,hb,fun H' s=>?_⟩
  rw[← txD_hp]
  exact hQ _ s
 | int n hn =>
  have hd:v=.int n:=hd
  subst hd
  k_extra "rx"
  refine⟨_,_,_,rfl,by decide,rfl,?_⟩
  refine⟨_,rfl,i_brkF ?_⟩
  k_extra "rx"
  refine⟨_,_,_,rfl,by decide,rfl,?_⟩
  refine⟨_,rfl,i_brkF ?_⟩
  k_extra "rx"
  exact⟨n,rfl,hn,hQ _ (Same.refl _)⟩
theorem ok_deed_text(D:DefAt K mg "deed_text" s_deed_text f fd)(T:Txt K mg cx)(d_word_text:DefOk P w K mg base CX0 2 "word_text" ["word"] sp_word_text):DefOk P w K mg base CX0 3 "deed_text" ["deed"] sp_deed_text:=by
 refine D.ok (D.q sc_deed_text (fun vs H Q E h=>?_) (fun cdv A outer s H vs Q E hr h=>?_)) (D.fn.binds fun _ _ _ _ _ _ us hl=>match us,hl with | [_],_=>rfl)
 ·obtain⟨_,_,rfl,_⟩:=h
  rfl
 obtain⟨a,ds,rfl,hd,hl,hx,hQ⟩:=h
 refine⟨_,(qss_one (qs_ret (qe_bmK (K:=K) rfl PySem.F.plainAttrs_str PySem.F.slot_str_join PySem.F.type_str_join mt_join qe_str (qa_1 (qe_cp ["word"] [] (qi_tupK (K:=K) rfl (qv 0)) (gext_name (by decide)) (fun _ _ _ _ _=>⟨(qg_name (i:=0) (show (["word"]:List Str).Nodup by decide +kernel) rfl (Or.inl rfl)),qf_nil,(qe_g d_word_text (qa_1 (qv 0)))⟩)))))),?_⟩
 obtain⟨a',xs,e,ha,hD⟩:=hd
 cases e
 have xl:=hD.length
 k_extra "rx"
 refine⟨rfl,?_⟩
 k_extra "rx"
 refine⟨_,rfl,a,rfl,⟨_,SqT.of ha⟩,fun F hF=>?_⟩
 refine comp_tupR (K:=K) (a:=a) (xs:=xs) (fun i acc H2=>Same H H2∧H2 F=some (.lst acc)∧acc=((ds.take i).map txD).map V.str) ⟨Same.new hF,upd_same,rfl⟩ (fun i acc H2 _ ⟨s2,_⟩=>SqT.of (s2 _ _ ha)) ?_ ?_
 ·rintro i y acc H2 hy ⟨s2,hF2,rfl⟩
  have hi:i < ds.length:=by rw[xl];exact (List.getElem?_eq_some_iff.mp hy).1
  obtain⟨y',ey,hy'⟩:=hD.get (List.getElem?_eq_getElem hi)
  rw[ey] at hy
  cases hy
  have len:(((ds.take i).map txD).map V.str).length≤6:=by rw[List.length_map,List.length_map,List.length_take];omega
  have et:((ds.take (i+1)).map txD).map V.str=((ds.take i).map txD).map V.str++[V.str (txD ds[i])]:=by rw[List.take_succ_eq_append_getElem hi,List.map_append,List.map_append];rfl
  rw[et]
  simp only[gName_ap,tYes,if_true]
  k_extra "rx"
  refine⟨_,ds[i],rfl,Den.same s2 hy',hx _ (List.getElem_mem hi),fun H3 s3=>?_⟩
  exact⟨s3 _ _ hF2,small1000 (by omega),same_put hF (s2.trans s3),upd_same,rfl⟩
 ·rintro acc H2 ⟨s2,hF2,rfl⟩
  rw[← xl,List.take_length] at hF2
  refine⟨_,F,ds.map txD,rfl,rfl,hF2,?_,hQ _ s2⟩
  have h1:=tx_sum ds hx
  have l0:(Str.ofString " ").length=1:=rfl
  rw[l0,List.length_map]
  omega
theorem ok__law_word(D:DefAt K mg "_law_word" s__law_word f fd)(T:Txt K mg cx)(d__law_pull:DefOk P w K mg base CX0 1 "_law_pull" ["_law_bag_here","_law_many"] sp__law_pull):DefOk P w K mg base CX0 2 "_law_word" ["_law_bag_here","_law_size"] sp__law_word:=by
 refine D.ok (D.q sc__law_word (fun vs H Q E h=>?_) (fun cdv A outer s H vs Q E hr h=>?_)) (D.fn.binds fun _ _ _ _ _ _ us hl=>match us,hl with | [_,_],_=>rfl)
 ·obtain⟨_,_,_,rfl,_⟩:=h
  rfl
 obtain⟨B,L,m,rfl,b,hm,hQ⟩:=h
 refine⟨_,(qss_one (qs_ret (qe_bmK (K:=K) rfl PySem.F.plainAttrs_str PySem.F.slot_str_join PySem.F.type_str_join mt_join qe_str (qa_1 (qe_cp ["_law_k"] [("_law_bag_here", 0)] (qi_range1 (by rfl) T.n_range (qa_1 (qv 1))) (gext_name (by decide)) (fun _ _ _ _ _=>⟨(qg_name (i:=0) (show (["_law_k","_law_bag_here"]:List Str).Nodup by decide +kernel) rfl (Or.inl rfl)),qf_nil,(qe_ix ix_str qe_str (qe_g d__law_pull (qa_2 (qv 1) qe_int)) (fun _ _=>rfl))⟩)))))),?_⟩
 k_extra "rx"
 refine⟨rfl,?_⟩
 k_extra "rx"
 refine⟨_,rfl,_,rfl,by omega,by omega,fun l hl=>?_⟩
 have nB:=b.ne hl
 have nL:=b.neL hl
 refine comp_rangeR (fun i acc H2=>BagAt H2 B L∧Fr1 B H H2∧H2 l=some (.lst acc)∧∃ cs:List Nat,acc=(cs.map fun c=>(⟨#[c]⟩:Str)).map V.str∧cs.length=i∧∀ c∈cs,lowC c=true) ⟨b.new hl,Fr1.new hl,upd_same,[],rfl,rfl,fun c hc=>by cases hc⟩ ?_ ?_
 ·rintro i acc H2 hi ⟨b2,f2,hl2,cs,rfl,hlen,hlow⟩
  simp only[gName_ap,tYes,if_true]
  k_extra "rx"
  refine⟨B,26,L,rfl,b2,by decide,by decide,fun d H3 d0 d1 b3 f3=>?_⟩
  obtain⟨k,rfl⟩:=Int.eq_ofNat_of_zero_le d0
  have hk:k < 26:=by omega
  rw[let_eq]
  refine i_ixS let_len (atI_let k hk) ?_
  refine⟨f3 _ _ nB hl2,small1000 (by rw[List.length_map,List.length_map];omega),b3.put nB nL,fr_put hl (f2.trans f3),upd_same,cs++[97+k],by rw[List.map_append,List.map_append];rfl,by rw[List.length_append,hlen];rfl,fun c hc=>?_⟩
  rcases List.mem_append.mp hc with h | h
  ·exact hlow c h
  ·cases List.mem_singleton.mp h
   unfold lowC
   rw[decide_eq_true (by omega),decide_eq_true (by omega)]
   rfl
 ·rintro acc H2 ⟨b2,f2,hl2,cs,rfl,hlen,hlow⟩
  rw[em_eq]
  have hl':cs.length≤10:=by omega
  refine⟨⟨#[]⟩,l,cs.map fun c=>(⟨#[c]⟩:Str),rfl,rfl,hl2,?_,?_⟩
  ·have e1:∀ cs:List Nat,((cs.map fun c=>(⟨#[c]⟩:Str)).map (·.length)).sum=cs.length:=by
    intro cs
    induction cs with
    | nil=>rfl
    | cons c r ih=>rw[List.map_cons,List.map_cons,List.sum_cons,ih,List.length_cons,Nat.add_comm];rfl
   rw[e1]
   show cs.length+_*0≤_
   omega
  ·have e2:=sg_join cs
   exact hQ _ _ (by rw[← sg_len,e2,hlen];omega) (by rw[e2];exact hlow) b2 f2
theorem ok_Ship_init(D:InitAt K mg (cx "Ship") "Ship" "Ship.__init__" s_Ship_init f fd)(T:Txt K mg cx)  : InitOk P w K mg base CX0 1 (cx "Ship") "Ship" ["self"] (sp_Ship_init K cx):=by
 refine D.ok (D.q sc_Ship_init (fun vs H Q E h=>?_) (fun cdv A outer s H vs Q E hr h=>?_)) (D.fn.binds fun _ _ _ _ _ _ us hl=>match us,hl with | [_],_=>rfl)
 ·obtain⟨_,rfl,_⟩:=h
  rfl
 obtain⟨p,rfl,o0,hQ⟩:=h
 refine⟨_,(qss_cons (qs_fldK (K:=K) rfl (qv 0) qe_bl)
   (qss_cons (qs_fldK (K:=K) rfl (qv 0) qe_int)
   (qss_cons (qs_fldK (K:=K) rfl (qv 0) qe_int)
   (qss_cons (qs_fldK (K:=K) rfl (qv 0) (qe_op op_rep (qe_lst (qa_1 qe_int)) qe_int))
   (qss_cons (qs_fldK (K:=K) rfl (qv 0) (qe_lst qa_nil))
   (qss_cons (qs_fldK (K:=K) rfl (qv 0) (qe_lst qa_nil))
   (qss_cons (qs_fldK (K:=K) rfl (qv 0) qe_int)
   (qss_one (qs_fldK (K:=K) rfl (qv 0) (qe_lst qa_nil)))))))))),?_⟩
 k_extra "rx"
 refine i_new (ns':=["away"]) o0 T.cl_Ship T.na_Ship_away (by decide) rfl (by decide) fun H1 o1 f1=>?_
 k_extra "rx"
 refine i_new (ns':=["away","today"]) o1 T.cl_Ship T.na_Ship_today (by decide +kernel) rfl (by decide) fun H2 o2 f2=>?_
 k_extra "rx"
 refine i_new (ns':=["away","today","voyage"]) o2 T.cl_Ship T.na_Ship_voyage (by decide +kernel) rfl (by decide) fun H3 o3 f3=>?_
 k_extra "rx"
 refine i_NewO (Nat.le_of_ble_eq_true rfl) fun t0 H4 ht0 s4 ht4=>?_
 k_extra "rx"
 refine⟨t0,6,[V.int 0],rfl,rfl,ht4,by decide,by decide,by decide,fun fu hfu=>?_⟩
 have s5:=Same.new (o:=.lst (List.replicate (6:Int).toNat [V.int 0]).flatten) hfu
 have g5:upd H4 fu (.lst (List.replicate (6:Int).toNat [V.int 0]).flatten) fu=some (.lst ([0,0,0,0,0,0].map V.int)):=upd_same
 generalize upd H4 fu (.lst (List.replicate (6:Int).toNat [V.int 0]).flatten)=H5 at s5 g5 ⊢
 have s45:=s4.trans s5
 have o5:=o3.same s45
 have pfu:fu≠p:=fun z=>by
  obtain⟨dx,h,_⟩:=o3
  rw[z,s4 _ _ h] at hfu
  cases hfu
 have f15:Fr1 p H H5:=((f1.trans f2).trans f3).trans (Fr1.of s45)
 have fu0:H fu=none:=fr_none (((f1.trans f2).trans f3).trans (Fr1.of s4)) pfu hfu
 clear o1 o2 o3 f1 f2 f3 s4 s5 s45 ht0 ht4 hfu o0
 k_extra "rx"
 refine i_new (ns':=["away","today","voyage","funds"]) o5 T.cl_Ship T.na_Ship_funds (by decide +kernel) rfl (by decide) fun H6 o6 f6=>?_
 have g6:=f6 _ _ pfu g5
 have f16:=f15.trans f6
 clear o5 f6 g5 f15
 k_extra "rx"
 refine i_NewO (Nat.le_of_ble_eq_true rfl) fun lo H7 hlo s7 l7=>?_
 have o7:=o6.same s7
 have plo:lo≠p:=fun z=>by
  obtain⟨dx,h,_⟩:=o6
  rw[z,h] at hlo
  cases hlo
 have lo0:H lo=none:=fr_none f16 plo hlo
 have g7:=s7 _ _ g6
 have f17:=f16.trans (Fr1.of s7)
 clear o6 g6 f16 s7 hlo
 k_extra "rx"
 refine i_new (ns':=["away","today","voyage","funds","lots"]) o7 T.cl_Ship T.na_Ship_lots (by decide +kernel) rfl (by decide) fun H8 o8 f8=>?_
 have g8:=f8 _ _ pfu g7
 have l8:=f8 _ _ plo l7
 have f18:=f17.trans f8
 clear o7 g7 l7 f17 f8
 k_extra "rx"
 refine i_NewO (Nat.le_of_ble_eq_true rfl) fun de H9 hde s9 d9=>?_
 have o9:=o8.same s9
 have pde:de≠p:=fun z=>by
  obtain⟨dx,h,_⟩:=o8
  rw[z,h] at hde
  cases hde
 have de0:H de=none:=fr_none f18 pde hde
 have g9:=s9 _ _ g8
 have l9:=s9 _ _ l8
 have f19:=f18.trans (Fr1.of s9)
 clear o8 g8 l8 f18 s9 hde
 k_extra "rx"
 refine i_new (ns':=["away","today","voyage","funds","lots","debts"]) o9 T.cl_Ship T.na_Ship_debts (by decide +kernel) rfl (by decide) fun HA oA fA=>?_
 have gA:=fA _ _ pfu g9
 have lA:=fA _ _ plo l9
 have dA:=fA _ _ pde d9
 have f1A:=f19.trans fA
 clear o9 g9 l9 d9 f19 fA
 k_extra "rx"
 refine i_new (ns':=["away","today","voyage","funds","lots","debts","made"]) oA T.cl_Ship T.na_Ship_made (by decide +kernel) rfl (by decide) fun HB oB fB=>?_
 have gB:=fB _ _ pfu gA
 have lB:=fB _ _ plo lA
 have dB:=fB _ _ pde dA
 have f1B:=f1A.trans fB
 clear oA gA lA dA f1A fB
 k_extra "rx"
 refine i_NewO (Nat.le_of_ble_eq_true rfl) fun la HC hla sC aC=>?_
 have oC:=oB.same sC
 have pla:la≠p:=fun z=>by
  obtain⟨dx,h,_⟩:=oB
  rw[z,h] at hla
  cases hla
 have la0:H la=none:=fr_none f1B pla hla
 k_extra "rx"
 refine i_new (ns':=shN) oC T.cl_Ship T.na_Ship_landed (by decide +kernel) rfl (by decide) fun HD oD fD=>?_
 exact hQ fu lo de la HD fu0 lo0 de0 la0 oD (fD _ _ pfu (sC _ _ gB)) (fD _ _ plo (sC _ _ lB)) (fD _ _ pde (sC _ _ dB)) (fD _ _ pla aC) (f1B.trans ((Fr1.of sC).trans fD))
theorem ok_Ship_copy(D:MethAt K (cx "Ship") "copy" "Ship.copy" s_Ship_copy f fd)(T:Txt K mg cx)(d_Ship_init:InitOk P w K mg base CX0 1 (cx "Ship") "Ship" ["self"] (sp_Ship_init K cx)):MethOk P w K mg base CX0 3 (cx "Ship") "copy" ["self"] (sp_Ship_copy K cx):=by
 refine D.ok (D.q sc_Ship_copy (fun vs H Q E h=>?_) (fun cdv A outer s H vs Q E hr h=>?_)) (D.fn.binds fun _ _ _ _ _ _ us hl=>match us,hl with | [_],_=>rfl)
 ·obtain⟨_,_,_,_,_,_,_,_,_,rfl,_⟩:=h
  rfl
 obtain⟨p,a,b,c,d,e,f',g,h,rfl,o,hQ⟩:=h
 refine⟨_,(qss_cons (qs_sL 1 sc_Ship_copy.nd (qe_mk0 d_Ship_init hr.le pass0 (by rfl)))
   (qss_cons (qs_fldK (K:=K) rfl (qv 1) (qe_fldK (K:=K) rfl (qv 0)))
   (qss_cons (qs_fldK (K:=K) rfl (qv 1) (qe_fldK (K:=K) rfl (qv 0)))
   (qss_cons (qs_fldK (K:=K) rfl (qv 1) (qe_fldK (K:=K) rfl (qv 0)))
   (qss_cons (qs_fldK (K:=K) rfl (qv 1) (qe_fldK (K:=K) rfl (qv 0)))
   (qss_cons (qs_fldK (K:=K) rfl (qv 1) (qe_fldK (K:=K) rfl (qv 0)))
   (qss_cons (qs_fldK (K:=K) rfl (qv 1) (qe_fldK (K:=K) rfl (qv 0)))
   (qss_cons (qs_fldK (K:=K) rfl (qv 1) (qe_fldK (K:=K) rfl (qv 0)))
   (qss_cons (qs_fldK (K:=K) rfl (qv 1) (qe_fldK (K:=K) rfl (qv 0)))
   (qss_one (qs_ret (qv 1)))))))))))),?_⟩
 k_extra "rx"
 intro q dx hq hdx ndx
 have s1:Same H (upd (upd H dx (.own q)) q (.ins (cx "Ship") dx [])):=(Same.new hdx).trans (Same.new (by rw[upd_ne ndx.symm];exact hq))
 refine⟨q,rfl,⟨dx,upd_same,rfl⟩,fun fu lo de la H1 fu0 lo0 de0 la0 o1 _ _ _ _ f1=>⟨rfl,?_⟩⟩
 have qp:q≠p:=fun z=>by
  obtain⟨_,h,_⟩:=o
  rw[z,h] at hq
  cases hq
 have st:∀ H',Fr1 q H1 H'→Same H H':=fun H' f=>fun b u hb=>f _ _ (fun z=>by rw[z,hq] at hb;cases hb) (f1 _ _ (fun z=>by rw[z,hq] at hb;cases hb) (s1 _ _ hb))
 have op:=o.same (st H1 Fr1.refl)
 clear o s1 f1 fu0 lo0 de0 la0
 have go:∀{H2 H3:Hp},Ob (cx "Ship") shN H2 p [a,b,c,d,e,f',g,h]→Fr1 q H2 H3→Ob (cx "Ship") shN H3 p [a,b,c,d,e,f',g,h]:=fun ⟨dx,h,l⟩ fr=>⟨dx,fr _ _ qp.symm h,l⟩
 refine i_gName ?_
 k_extra "rx"
 refine i_get op T.cl_Ship T.na_Ship_away sh_nd (i:=0) rfl rfl ?_
 k_extra "rx"
 refine i_put o1 T.cl_Ship T.na_Ship_away sh_nd (i:=0) rfl (by decide) fun H2 o2 f2=>?_
 have op2:=go op f2
 clear op o1
 k_extra "rx"
 refine i_get op2 T.cl_Ship T.na_Ship_today sh_nd (i:=1) rfl rfl ?_
 k_extra "rx"
 refine i_put o2 T.cl_Ship T.na_Ship_today sh_nd (i:=1) rfl (by decide) fun H3 o3 f3=>?_
 have op3:=go op2 f3
 have f13:=f2.trans f3
 clear op2 o2 f2 f3
 k_extra "rx"
 refine i_get op3 T.cl_Ship T.na_Ship_voyage sh_nd (i:=2) rfl rfl ?_
 k_extra "rx"
 refine i_put o3 T.cl_Ship T.na_Ship_voyage sh_nd (i:=2) rfl (by decide) fun H4 o4 f4=>?_
 have op4:=go op3 f4
 have f14:=f13.trans f4
 clear op3 o3 f13 f4
 k_extra "rx"
 refine i_get op4 T.cl_Ship T.na_Ship_funds sh_nd (i:=3) rfl rfl ?_
 k_extra "rx"
 refine i_put o4 T.cl_Ship T.na_Ship_funds sh_nd (i:=3) rfl (by decide) fun H5 o5 f5=>?_
 have op5:=go op4 f5
 have f15:=f14.trans f5
 clear op4 o4 f14 f5
 k_extra "rx"
 refine i_get op5 T.cl_Ship T.na_Ship_lots sh_nd (i:=4) rfl rfl ?_
 k_extra "rx"
 refine i_put o5 T.cl_Ship T.na_Ship_lots sh_nd (i:=4) rfl (by decide) fun H6 o6 f6=>?_
 have op6:=go op5 f6
 have f16:=f15.trans f6
 clear op5 o5 f15 f6
 k_extra "rx"
 refine i_get op6 T.cl_Ship T.na_Ship_debts sh_nd (i:=5) rfl rfl ?_
 k_extra "rx"
 refine i_put o6 T.cl_Ship T.na_Ship_debts sh_nd (i:=5) rfl (by decide) fun H7 o7 f7=>?_
 have op7:=go op6 f7
 have f17:=f16.trans f7
 clear op6 o6 f16 f7
 k_extra "rx"
 refine i_get op7 T.cl_Ship T.na_Ship_made sh_nd (i:=6) rfl rfl ?_
 k_extra "rx"
 refine i_put o7 T.cl_Ship T.na_Ship_made sh_nd (i:=6) rfl (by decide) fun H8 o8 f8=>?_
 have op8:=go op7 f8
 have f18:=f17.trans f8
 clear op7 o7 f17 f8
 k_extra "rx"
 refine i_get op8 T.cl_Ship T.na_Ship_landed sh_nd (i:=7) rfl rfl ?_
 k_extra "rx"
 refine i_put o8 T.cl_Ship T.na_Ship_landed sh_nd (i:=7) rfl (by decide) fun H9 o9 f9=>?_
 k_extra "rx"
 exact hQ q H9 hq (st H9 (f18.trans f9)) o9
theorem ok_Ship_go_out(D:MethAt K (cx "Ship") "go_out" "Ship.go_out" s_Ship_go_out f fd)(T:Txt K mg cx)  : MethOk P w K mg base CX0 1 (cx "Ship") "go_out" ["self","worth"] (sp_Ship_go_out K cx):=by
 refine D.ok (D.q sc_Ship_go_out (fun vs H Q E h=>?_) (fun cdv A outer s H vs Q E hr h=>?_)) (D.fn.binds fun _ _ _ _ _ _ us hl=>match us,hl with | [_,_],_=>rfl)
 ·obtain⟨_,_,_,_,rfl,_⟩:=h
  rfl
 obtain⟨X,p,sh,w',rfl,nx,⟨fu,lo,de,la,xs,o,h1,h2,h3,h4,h5,hx⟩,hQ⟩:=h
 refine⟨_,(qss_cons (qs_fldK (K:=K) rfl (qv 0) qe_bl)
   (qss_cons (qs_fldaugK (K:=K) rfl (qv 0) qe_int in_add)
   (qss_cons (qs_fldK (K:=K) rfl (qv 0) (qe_lst (qa_cons (qv 1) (qa_cons qe_int (qa_cons qe_int (qa_cons qe_int (qa_cons qe_int (qa_cons qe_int qa_nil))))))))
   (qss_one (qs_fldK (K:=K) rfl (qv 0) (qe_lst qa_nil)))))),?_⟩
 k_extra "rx"
 refine i_put o T.cl_Ship T.na_Ship_away sh_nd (i:=0) rfl (by decide) fun H1 o1 f1=>?_
 have d1:=h4.fr o f1
 have e1:=o.lst f1 h3
 have l1:=o.lst f1 h5
 clear o h1 h2 h3 h4 h5
 k_extra "rx"
 refine i_aug o1 T.cl_Ship T.na_Ship_voyage sh_nd (i:=2) rfl rfl ?_
 k_extra "rx"
 refine i_rAdd ?_
 refine i_aput o1 sh_nd (i:=2) rfl (by decide) fun H2 o2 f2=>?_
 have d2:=d1.fr o1 f2
 have e2:=o1.lst f2 e1
 have l2:=o1.lst f2 l1
 have f12:=f1.trans f2
 clear o1 d1 e1 l1 f1 f2
 k_extra "rx"
 refine i_NewO (Nat.le_of_ble_eq_true rfl) fun fu' H3 hfu s3 g3=>?_
 have N1:¬ X fu':=fun z=>nx _ z (fr_none f12 (o2.nw hfu) hfu)
 have o3:=o2.same s3
 have d3:=d2.same s3
 have e3:=s3 _ _ e2
 have l3:=s3 _ _ l2
 have f13:=f12.trans (Fr1.of s3)
 clear o2 d2 e2 l2 f12 s3
 k_extra "rx"
 refine i_put o3 T.cl_Ship T.na_Ship_funds sh_nd (i:=3) rfl (by decide) fun H4 o4 f4=>?_
 have d4:=d3.fr o3 f4
 have e4:=o3.lst f4 e3
 have l4:=o3.lst f4 l3
 have g4:=o3.lst f4 g3
 have f14:=f13.trans f4
 clear o3 d3 e3 l3 g3 f13 f4
 k_extra "rx"
 refine i_NewO (Nat.le_of_ble_eq_true rfl) fun lo' H5 hlo s5 r5=>?_
 have N2:¬ X lo':=fun z=>nx _ z (fr_none f14 (o4.nw hlo) hlo)
 have o5:=o4.same s5
 have d5:=d4.same s5
 k_extra "rx"
 refine i_put o5 T.cl_Ship T.na_Ship_lots sh_nd (i:=4) rfl (by decide) fun H6 o6 f6=>?_
 exact hQ H6 ⟨fu',lo',de,la,xs,o6,o5.lst f6 (s5 _ _ g4),o5.lst f6 r5,o5.lst f6 (s5 _ _ e4),d5.fr o5 f6,o5.lst f6 (s5 _ _ l4),N1,N2,hx.2.2.1,hx.2.2.2⟩ (f14.trans ((Fr1.of s5).trans f6))
theorem ok_Ship_sail(D:MethAt K (cx "Ship") "sail" "Ship.sail" s_Ship_sail f fd)(T:Txt K mg cx)  : MethOk P w K mg base CX0 1 (cx "Ship") "sail" ["self","days"] (sp_Ship_sail K cx):=by
 refine D.ok (D.q sc_Ship_sail (fun vs H Q E h=>?_) (fun cdv A outer s H vs Q E hr h=>?_)) (D.fn.binds fun _ _ _ _ _ _ us hl=>match us,hl with | [_,_],_=>rfl)
 ·obtain⟨_,_,_,_,rfl,_⟩:=h
  rfl
 obtain⟨X,p,sh,n,rfl,⟨fu,lo,de,la,xs,o,h1,h2,h3,h4,h5,hx⟩,hQ⟩:=h
 refine⟨_,(qss_one (qs_fldaugK (K:=K) rfl (qv 0) (qv 1) in_add)),?_⟩
 k_extra "rx"
 refine i_aug o T.cl_Ship T.na_Ship_today sh_nd (i:=1) rfl rfl ?_
 k_extra "rx"
 refine i_rAdd ?_
 refine i_aput o sh_nd (i:=1) rfl (by decide) fun H2 o2 f2=>?_
 exact hQ H2 ⟨fu,lo,de,la,xs,o2,o.lst f2 h1,o.lst f2 h2,o.lst f2 h3,h4.fr o f2,o.lst f2 h5,hx⟩ f2
theorem ok_Debt_init(D:InitAt K mg (cx "Debt") "Debt" "Debt.__init__" s_Debt_init f fd)(T:Txt K mg cx)  : InitOk P w K mg base CX0 1 (cx "Debt") "Debt" ["self","number","word","moment","touched","terms"] (sp_Debt_init K cx):=by
 refine D.ok (D.q sc_Debt_init (fun vs H Q E h=>?_) (fun cdv A outer s H vs Q E hr h=>?_)) (D.fn.binds fun _ _ _ _ _ _ us hl=>match us,hl with | [_,_,_,_,_,_],_=>rfl)
 ·obtain⟨_,_,_,_,_,_,rfl,_⟩:=h
  rfl
 obtain⟨p,a,b,c,d,e,rfl,o0,hQ⟩:=h
 refine⟨_,(qss_cons (qs_fldK (K:=K) rfl (qv 0) (qv 1))
   (qss_cons (qs_fldK (K:=K) rfl (qv 0) (qv 2))
   (qss_cons (qs_fldK (K:=K) rfl (qv 0) (qv 3))
   (qss_cons (qs_fldK (K:=K) rfl (qv 0) (qv 4))
   (qss_one (qs_fldK (K:=K) rfl (qv 0) (qv 5))))))),?_⟩
 k_extra "rx"
 refine i_new (ns':=["number"]) o0 T.cl_Debt T.na_Debt_number (by decide) rfl (by decide) fun H1 o1 f1=>?_
 k_extra "rx"
 refine i_new (ns':=["number","word"]) o1 T.cl_Debt T.na_Debt_word (by decide +kernel) rfl (by decide) fun H2 o2 f2=>?_
 k_extra "rx"
 refine i_new (ns':=["number","word","moment"]) o2 T.cl_Debt T.na_Debt_moment (by decide +kernel) rfl (by decide) fun H3 o3 f3=>?_
 k_extra "rx"
 refine i_new (ns':=["number","word","moment","touched"]) o3 T.cl_Debt T.na_Debt_touched (by decide +kernel) rfl (by decide) fun H4 o4 f4=>?_
 k_extra "rx"
 refine i_new (ns':=dbN) o4 T.cl_Debt T.na_Debt_terms (by decide +kernel) rfl (by decide) fun H5 o5 f5=>?_
 exact hQ H5 o5 ((((f1.trans f2).trans f3).trans f4).trans f5)
theorem ok_Ship_owe(D:MethAt K (cx "Ship") "owe" "Ship.owe" s_Ship_owe f fd)(T:Txt K mg cx)(d_Debt_init:InitOk P w K mg base CX0 1 (cx "Debt") "Debt" ["self","number","word","moment","touched","terms"] (sp_Debt_init K cx)):MethOk P w K mg base CX0 3 (cx "Ship") "owe" ["self","word","touched","terms"] (sp_Ship_owe K cx):=by
 refine D.ok (D.q sc_Ship_owe (fun vs H Q E h=>?_) (fun cdv A outer s H vs Q E hr h=>?_)) (D.fn.binds fun _ _ _ _ _ _ us hl=>match us,hl with | [_,_,_,_],_=>rfl)
 ·obtain⟨_,_,_,_,_,_,_,_,rfl,_⟩:=h
  rfl
 obtain⟨X,p,sh,z,t,e,tch,tm,rfl,nx,⟨fu,lo,de,la,xs,o,h1,h2,h3,h4,h5,hx⟩,ht,he,l20,hQ⟩:=h
 refine⟨_,(qss_cons (qs_fldaugK (K:=K) rfl (qv 0) qe_int in_add)
   (qss_one (qs_fldK (K:=K) rfl (qv 0) (qe_op op_cat (qe_fldK (K:=K) rfl (qv 0)) (qe_lst (qa_1 (qe_mk d_Debt_init hr.le pass0 (by rfl) (qa_cons (qe_fldK (K:=K) rfl (qv 0)) (qa_cons (qv 1) (qa_cons (qe_fldK (K:=K) rfl (qv 0)) (qa_cons (qv 2) (qa_cons (qv 3) qa_nil)))))))))))),?_⟩
 k_extra "rx"
 refine i_aug o T.cl_Ship T.na_Ship_made sh_nd (i:=6) rfl rfl ?_
 k_extra "rx"
 refine i_rAdd ?_
 refine i_aput o sh_nd (i:=6) rfl (by decide) fun H1 o1 f1=>?_
 have g1:=o.lst f1 h1
 have g2:=o.lst f1 h2
 have g3:=o.lst f1 h3
 have g4:=h4.fr o f1
 have g5:=o.lst f1 h5
 have ht1:=ht.ts (o.ts f1)
 have he1:=o.ts f1 _ _ he
 have xl:=h4.1
 clear o h1 h2 h3 h4 h5 ht he
 k_extra "rx"
 refine i_get o1 T.cl_Ship T.na_Ship_debts sh_nd (i:=5) rfl rfl ?_
 k_extra "rx"
 refine i_get o1 T.cl_Ship T.na_Ship_made sh_nd (i:=6) rfl rfl ?_
 k_extra "rx"
 refine i_get o1 T.cl_Ship T.na_Ship_today sh_nd (i:=1) rfl rfl ?_
 k_extra "rx"
 intro q dx hq hdx ndx
 have s2:Same H1 (upd (upd H1 dx (.own q)) q (.ins (cx "Debt") dx [])):=(Same.new hdx).trans (Same.new (by rw[upd_ne ndx.symm];exact hq))
 refine⟨q,_,_,_,_,_,rfl,⟨dx,upd_same,rfl⟩,fun H2 o2 f2=>⟨rfl,?_⟩⟩
 have s12:Same H1 H2:=fun b u hb=>f2 _ _ (fun z=>by rw[z,hq] at hb;cases hb) (s2 _ _ hb)
 clear s2 f2
 k_extra "rx"
 refine i_NewO (Nat.le_of_ble_eq_true rfl) fun l H3 hl s3 hl3=>?_
 have s13:=s12.trans s3
 have o3:=o1.same s13
 have dq:DebtAt K (cx "Debt") H3 q ⟨sh.made+1,z,sh.today,tch,tm⟩:=⟨t,e,o2.same s3,ht1.ts (TS.of s13),s13 _ _ he1⟩
 refine⟨de,l,xs,_,rfl,rfl,s13 _ _ g3,hl3,Nat.le_trans (by show xs.length+1≤100;omega) (by decide),fun de' hde=>?_⟩
 have N3:¬ X de':=fun z=>nx _ z (fr_none (f1.trans (Fr1.of s13)) (o3.nw hde) hde)
 have s4:=Same.new (o:=.lst (xs++[.ref q])) hde
 have g6:upd H3 de' (.lst (xs++[.ref q])) de'=_:=upd_same
 generalize upd H3 de' (.lst (xs++[.ref q]))=H4 at s4 g6 ⊢
 have s14:=s13.trans s4
 have o4:=o1.same s14
 k_extra "rx"
 refine i_put o4 T.cl_Ship T.na_Ship_debts sh_nd (i:=5) rfl (by decide) fun H5 o5 f5=>?_
 exact hQ H5 ⟨fu,lo,de',la,_,o5,o4.lst f5 (s14 _ _ g1),o4.lst f5 (s14 _ _ g2),o4.lst f5 g6,((g4.same s14).snoc (dq.same s4)).fr o4 f5,o4.lst f5 (s14 _ _ g5),hx.1,hx.2.1,N3,hx.2.2.2⟩ ((f1.trans (Fr1.of s14)).trans f5)
theorem ok_Ship_hire(D:MethAt K (cx "Ship") "hire" "Ship.hire" s_Ship_hire f fd)(T:Txt K mg cx)(d_Ship_owe:MethOk P w K mg base CX0 3 (cx "Ship") "owe" ["self","word","touched","terms"] (sp_Ship_owe K cx)):MethOk P w K mg base CX0 4 (cx "Ship") "hire" ["self","wage"] (sp_Ship_hire K cx):=by
 refine D.ok (D.q sc_Ship_hire (fun vs H Q E h=>?_) (fun cdv A outer s H vs Q E hr h=>?_)) (D.fn.binds fun _ _ _ _ _ _ us hl=>match us,hl with | [_,_],_=>rfl)
 ·obtain⟨_,_,_,_,rfl,_⟩:=h
  rfl
 obtain⟨X,p,sh,n,rfl,nx,ha,l20,hQ⟩:=h
 obtain⟨tH,hd_HULL_AND_FREIGHTS,kH⟩:=T.g_HULL_AND_FREIGHTS
 refine⟨_,(qss_one (qs_expr (qe_m d_Ship_owe (qv 0) T.cl_Ship hr.le pass0 (qa_3 qe_str (qe_globR (by rfl) hd_HULL_AND_FREIGHTS) (qe_tup (qa_2 (qv 1) qe_non)))))),?_⟩
 obtain⟨fu,lo,de,la,xs,o,hr⟩:=id ha
 k_extra "rx"
 refine i_meth o (by decide +kernel) ?_
 k_extra "rx"
 refine i_NewO (Nat.le_of_ble_eq_true rfl) fun e H1 he s1 he1=>?_
 k_extra "rx"
 refine⟨X,p,sh,_,tH,e,[0,1],[some n,none],rfl,fun a h z=>nx a h (s1.free z),ha.same s1,.inr kH,he1,l20,fun H2 h2 f2=>?_⟩
 exact hQ H2 h2 ((Fr1.of s1).trans f2)
theorem ok_Debt_due(D:MethAt K (cx "Debt") "due" "Debt.due" s_Debt_due f fd)(T:Txt K mg cx)  : MethOk P w K mg base CX0 1 (cx "Debt") "due" ["self","today"] (sp_Debt_due K cx):=by
 refine D.ok (D.q sc_Debt_due (fun vs H Q E h=>?_) (fun cdv A outer s H vs Q E hr h=>?_)) (D.fn.binds fun _ _ _ _ _ _ us hl=>match us,hl with | [_,_],_=>rfl)
 ·obtain⟨_,_,_,_,rfl,_⟩:=h
  rfl
 obtain⟨q,d,n,w',rfl,⟨t,e,o,ht,he⟩,ew,et,zw,zn,zm,hQ⟩:=h
 refine⟨_,(qss_cons (qs_sL 2 sc_Debt_due.nd (qe_fldK (K:=K) rfl (qv 0)))
   (qss_cons (qs_if (qt_cmpR op_eq (qe_fldK (K:=K) rfl (qv 0)) qe_str (nomark _)) (qss_cons (qs_sL 3 sc_Debt_due.nd (qe_ifExp (qt_isN ((qe_iS (qv 2) qe_int))) (qv 1) (qe_iS (qv 2) qe_int)))
   (qss_one (qs_ret (qe_tup (qa_2 (qe_op op_mulB (qe_iS (qv 2) qe_int) (qe_op op_sub (qv 3) (qe_fldK (K:=K) rfl (qv 0)))) qe_int))))) qss_nil)
   (qss_cons (qs_if (qt_cmpR op_eq (qe_fldK (K:=K) rfl (qv 0)) qe_str (nomark _)) (qss_one qs_no) qss_nil)
   (qss_one (qs_ret (qe_tup (qa_2 (qe_iS (qv 2) qe_int) qe_int))))))),?_⟩
 rw[ew] at o
 rw[et] at he
 have he:H e=some (.tup [.int w',.non]):=he
 k_extra "rx"
 refine i_get o T.cl_Debt T.na_Debt_terms db_nd (i:=4) rfl rfl ?_
 k_extra "rx"
 refine i_get o T.cl_Debt T.na_Debt_word db_nd (i:=1) rfl rfl ?_
 k_extra "rx"
 refine⟨rfl,?_⟩
 refine⟨_,rfl,brkD (fun _=>?_) (fun h=>absurd rfl h)⟩
 k_extra "rx"
 rw[tIsN_ap]
 k_extra "rx"
 rw[if_pos (decide_eq_true rfl)]
 k_extra "rx"
 refine i_get o T.cl_Debt T.na_Debt_moment db_nd (i:=2) rfl rfl ?_
 have om:IntMulOk w' (n - d.mom):=zw.ok (zn.sub zm) (by decide)
 k_extra "rx"
 refine⟨_,_,rfl,rfl,om,?_⟩
 k_extra "rx"
 refine i_NewO (Nat.le_of_ble_eq_true rfl) fun r H1 hr' s1 h1=>?_
 exact hQ r H1 s1 h1
theorem ok_Ship_claims(D:MethAt K (cx "Ship") "claims" "Ship.claims" s_Ship_claims f fd)(T:Txt K mg cx)(d_Debt_due:MethOk P w K mg base CX0 1 (cx "Debt") "due" ["self","today"] (sp_Debt_due K cx)):MethOk P w K mg base CX0 2 (cx "Ship") "claims" ["self"] (sp_Ship_claims K cx):=by
 refine D.ok (D.q sc_Ship_claims (fun vs H Q E h=>?_) (fun cdv A outer s H vs Q E hr h=>?_)) (D.fn.binds fun _ _ _ _ _ _ us hl=>match us,hl with | [_],_=>rfl)
 ·obtain⟨_,_,_,_,rfl,_⟩:=h
  rfl
 obtain⟨X,p,sh,n,rfl,⟨fu,lo,de,la,xs,o,h1,h2,h3,h4,h5,hx⟩,ed,t0,tz,hQ⟩:=h
 refine⟨_,(qss_one (qs_ret (qe_cp ["debt"] [("self", 0)] (qi_listK (K:=K) rfl (qe_fldK (K:=K) rfl (qv 0))) (gext_name (by decide)) (fun _ _ _ _ _=>⟨(qg_name (i:=0) (show (["debt","self"]:List Str).Nodup by decide +kernel) rfl (Or.inl rfl)),qf_nil,(qe_tup (qa_cons (qe_fldK (K:=K) rfl (qv 0)) (qa_cons (qe_fldK (K:=K) rfl (qv 0)) (qa_cons (qe_fldK (K:=K) rfl (qv 0)) (qa_cons (qe_m d_Debt_due (qv 0) T.cl_Debt hr.le pass0 (qa_1 (qe_fldK (K:=K) rfl (qv 1)))) (qa_cons (qe_fldK (K:=K) rfl (qv 0)) qa_nil))))))⟩)))),?_⟩
 rw[ed] at h4
 have xl:xs.length=1:=h4.1
 obtain⟨q,eq,t,e,od,ht,he⟩:=h4.2 0 _ rfl
 obtain rfl:xs=[.ref q]:=by
  match xs,xl,eq with
  | [x],_,eq=>cases eq;rfl
 k_extra "rx"
 refine comp_it (.ref de) (fld_it rfl o T.cl_Ship T.na_Ship_debts sh_nd (i:=5) rfl rfl) ?_
 refine⟨de,rfl,⟨_,SqL.of h3⟩,fun F hF=>?_⟩
 refine comp_listR (K:=K) (a:=de) (xs:=[.ref q]) (fun j acc H1=>Same H H1∧H1 F=some (.lst acc)∧(j=0→acc=[])∧(j=1→∃ r m,acc=[.ref r]∧H1 r=some (.tup [.int n,.str "wage", .int 0,.ref m,.ref t])∧H1 m=some (.tup [.int (7*(sh.today - 0)),.int 1]))) ⟨Same.new hF,upd_same,fun _=>rfl,fun z=>by cases z⟩ (fun j acc H1 _ ⟨s1,_⟩=>SqL.of (s1 _ _ h3)) ?_ ?_
 ·rintro j y acc H1 hy ⟨s1,hF1,ac,_⟩
  have hj:j=0:=by
   have:=(List.getElem?_eq_some_iff.mp hy).1
   have:j < 1:=this
   omega
  subst hj
  cases hy
  have ac:=ac rfl
  subst ac
  have od1:=od.same s1
  have o1:=o.same s1
  simp only[gName_ap,tYes,if_true]
  k_extra "rx"
  refine i_get od1 T.cl_Debt T.na_Debt_number db_nd (i:=0) rfl rfl ?_
  k_extra "rx"
  refine i_get od1 T.cl_Debt T.na_Debt_word db_nd (i:=1) rfl rfl ?_
  k_extra "rx"
  refine i_get od1 T.cl_Debt T.na_Debt_moment db_nd (i:=2) rfl rfl ?_
  k_extra "rx"
  refine i_meth od1 (by decide +kernel) ?_
  k_extra "rx"
  refine i_get o1 T.cl_Ship T.na_Ship_today sh_nd (i:=1) rfl rfl ?_
  k_extra "rx"
  refine⟨q,⟨n,Str.ofString "wage", 0,[0,1],[some 7,none]⟩,sh.today,7,rfl,⟨t,e,od1,ht.ts (TS.of s1),s1 _ _ he⟩,rfl,rfl,by decide,tz.mono (by decide),by show Sz 200 0;decide,fun m H2 s2 hm=>?_⟩
  have od2:=od1.same s2
  k_extra "rx"
  refine i_get od2 T.cl_Debt T.na_Debt_touched db_nd (i:=3) rfl rfl ?_
  k_extra "rx"
  refine i_NewO (Nat.le_of_ble_eq_true rfl) fun r H3 hr' s3 hr3=>?_
  have s23:=s2.trans s3
  have F3:=s23 _ _ hF1
  refine⟨F3,by decide,same_put hF (s1.trans s23),upd_same,(fun z=>by cases z),fun _=>⟨r,m,rfl,?_,?_⟩⟩
  ·rw[upd_ne (fun z=>by rw[z,F3] at hr3;cases hr3)]
   exact hr3
  ·have:=s3 _ _ hm
   rw[upd_ne (fun z=>by rw[z,F3] at this;cases this)]
   exact this
 ·rintro acc H1 ⟨s1,hF1,_,ac⟩
  obtain⟨r,m,rfl,hr1,hm1⟩:=ac rfl
  exact hQ F r t m H1 s1 hF1 hr1 hm1
theorem ok_is_from(D:DefAt K mg "is_from" s_is_from f fd)(T:Txt K mg cx):DefOk P w K mg base CX0 1 "is_from" ["number","least","most"] sp_is_from:=by
 refine D.ok (D.q sc_is_from (fun vs H Q E h=>?_) (fun cdv A outer s H vs Q E hr h=>?_)) (D.fn.binds fun _ _ _ _ _ _ us hl=>match us,hl with | [_,_,_],_=>rfl)
 ·obtain⟨_,_,_,rfl,_⟩:=h
  rfl
 obtain⟨a,b,c,rfl,hQ⟩:=h
 refine⟨_,(qss_one (qs_ret (qe_and (qe_cmpR op_ge (qv 0) (qv 1) (nomark _)) (qe_one (qe_cmpR op_le (qv 0) (qv 2) (nomark _)))))),?_⟩
 k_extra "rx"
 refine i_tAndV ?_
 k_extra "rx"
 refine brkD (fun h1=>?_) (fun h1=>?_)
 ·k_extra "rx"
  rw[show decide (a≤c)=decide (b≤a∧a≤c) from decide_eq_decide.mpr ⟨fun h=>⟨h1,h⟩,fun h=>h.2⟩]
  exact hQ H (Same.refl _)
 ·k_extra "rx"
  rw[show false=decide (b≤a∧a≤c) from (decide_eq_false fun h=>h1 h.1).symm]
  exact hQ H (Same.refl _)
theorem ok_find(D:DefAt K mg "find" s_find f fd)(T:Txt K mg cx):DefOk P w K mg base CX0 1 "find" ["ships","name"] sp_find:=by
 refine D.ok (D.q sc_find (fun vs H Q E h=>?_) (fun cdv A outer s H vs Q E hr h=>?_)) (D.fn.binds fun _ _ _ _ _ _ us hl=>match us,hl with | [_,_],_=>rfl)
 ·obtain⟨_,_,_,_,rfl,_⟩:=h
  rfl
 obtain⟨f',kvs,z,p,rfl,hf,hv,hQ⟩:=h
 refine⟨_,(qss_cons (qs_if (qt_dnotin (hu_of hr) (qv 1) (qv 0)) (qss_one qs_no) qss_nil)
   (qss_one (qs_ret (qe_dget (hu_of hr) (qv 0) (qv 1))))),?_⟩
 k_extra "rx"
 refine i_dNotIn (k:=Sum.inr z) hf ?_
 rw[hv]
 refine⟨_,rfl,i_brkF ?_⟩
 refine i_tNext ?_
 k_extra "rx"
 refine i_dGet (k:=Sum.inr z) hf hv ?_
 exact hQ H (Same.refl _)
theorem ok_find_at_sea(D:DefAt K mg "find_at_sea" s_find_at_sea f fd)(T:Txt K mg cx)(d_find:DefOk P w K mg base CX0 1 "find" ["ships","name"] sp_find):DefOk P w K mg base CX0 2 "find_at_sea" ["ships","name"] (sp_find_at_sea K cx):=by
 refine D.ok (D.q sc_find_at_sea (fun vs H Q E h=>?_) (fun cdv A outer s H vs Q E hr h=>?_)) (D.fn.binds fun _ _ _ _ _ _ us hl=>match us,hl with | [_,_],_=>rfl)
 ·obtain⟨_,_,_,_,_,_,rfl,_⟩:=h
  rfl
 obtain⟨X,f',kvs,z,p,sh,rfl,hf,hv,ha,aw,hQ⟩:=h
 refine⟨_,(qss_cons (qs_sL 2 sc_find_at_sea.nd (qe_g d_find (qa_2 (qv 0) (qv 1))))
   (qss_cons (qs_if (qt_not (qt_val (qe_fldK (K:=K) rfl (qv 2)))) (qss_one qs_no) qss_nil)
   (qss_one (qs_ret (qv 2))))),?_⟩
 k_extra "rx"
 refine⟨f',kvs,z,p,rfl,hf,hv,fun H1 s1=>?_⟩
 obtain⟨fu,lo,de,la,xs,o,hr⟩:=ha.same s1
 rw[aw] at o
 refine i_gName ?_
 k_extra "rx"
 refine i_get o T.cl_Ship T.na_Ship_away sh_nd (i:=0) rfl rfl ?_
 refine⟨_,rfl,i_brkF ?_⟩
 refine i_tNext ?_
 k_extra "rx"
 exact hQ H1 s1
theorem ok_check_room(D:DefAt K mg "check_room" s_check_room f fd)(T:Txt K mg cx):DefOk P w K mg base CX0 1 "check_room" ["ship"] (sp_check_room K cx):=by
 refine D.ok (D.q sc_check_room (fun vs H Q E h=>?_) (fun cdv A outer s H vs Q E hr h=>?_)) (D.fn.binds fun _ _ _ _ _ _ us hl=>match us,hl with | [_],_=>rfl)
 ·obtain⟨_,_,_,rfl,_⟩:=h
  rfl
 obtain⟨X,p,sh,rfl,⟨fu,lo,de,la,xs,o,h1,h2,h3,h4,h5,hx⟩,l10,hQ⟩:=h
 refine⟨_,(qss_one (qs_if (qt_cmpR op_ge (qe_callB call_lenF (by rfl) T.n_len bt_len (qa_1 (qe_fldK (K:=K) rfl (qv 0)))) (qe_globI (by rfl) T.g_MOST_CLAIMS) (nomark _)) (qss_one qs_no) qss_nil)),?_⟩
 have xl:=h4.1
 k_extra "rx"
 refine i_get o T.cl_Ship T.na_Ship_debts sh_nd (i:=5) rfl rfl ?_
 k_extra "rx"
 refine i_brkN (by omega) ?_
 refine i_tNext ?_
 exact hQ H (Same.refl _)
theorem ok_hire(D:DefAt K mg "hire" s_hire f fd)(T:Txt K mg cx)(d_check_room:DefOk P w K mg base CX0 1 "check_room" ["ship"] (sp_check_room K cx))(d_Ship_hire:MethOk P w K mg base CX0 4 (cx "Ship") "hire" ["self","wage"] (sp_Ship_hire K cx))(d_is_from:DefOk P w K mg base CX0 1 "is_from" ["number","least","most"] sp_is_from):DefOk P w K mg base CX0 5 "hire" ["ship","wage"] (sp_hire K cx):=by
 refine D.ok (D.q sc_hire (fun vs H Q E h=>?_) (fun cdv A outer s H vs Q E hr h=>?_)) (D.fn.binds fun _ _ _ _ _ _ us hl=>match us,hl with | [_,_],_=>rfl)
 ·obtain⟨_,_,_,_,rfl,_⟩:=h
  rfl
 obtain⟨X,p,sh,n,rfl,nx,ha,n1,n2,l10,hQ⟩:=h
 refine⟨_,(qss_cons (qs_if (qt_not (qt_val (qe_g d_is_from (qa_3 (qv 1) qe_int (qe_globI (by rfl) T.g_MOST_WAGE))))) (qss_one qs_no) qss_nil)
   (qss_cons (qs_expr (qe_g d_check_room (qa_1 (qv 0))))
   (qss_one (qs_expr (qe_m d_Ship_hire (qv 0) T.cl_Ship hr.le pass0 (qa_1 (qv 1))))))),?_⟩
 k_extra "rx"
 refine⟨n,1,_,rfl,fun H1 s1=>?_⟩
 rw[decide_eq_true (show (1:Int)≤n∧n≤1000000 from ⟨n1,n2⟩)]
 refine⟨_,rfl,i_brkF ?_⟩
 refine i_tNext ?_
 have a1:=ha.same s1
 k_extra "rx"
 refine⟨X,p,sh,rfl,a1,l10,fun H2 s2=>?_⟩
 have a2:=a1.same s2
 obtain⟨fu,lo,de,la,xs,o,hr⟩:=id a2
 k_extra "rx"
 refine i_meth o (by decide +kernel) ?_
 k_extra "rx"
 refine⟨X,p,sh,n,rfl,fun a h z=>nx a h ((s1.trans s2).free z),a2,by omega,fun H3 a3 f3=>?_⟩
 exact hQ H3 a3 ((Fr1.of (s1.trans s2)).trans f3)
theorem ok_sail(D:DefAt K mg "sail" s_sail f fd)(T:Txt K mg cx)(d_Ship_sail:MethOk P w K mg base CX0 1 (cx "Ship") "sail" ["self","days"] (sp_Ship_sail K cx))(d_is_from:DefOk P w K mg base CX0 1 "is_from" ["number","least","most"] sp_is_from):DefOk P w K mg base CX0 2 "sail" ["ship","days"] (sp_sail K cx):=by
 refine D.ok (D.q sc_sail (fun vs H Q E h=>?_) (fun cdv A outer s H vs Q E hr h=>?_)) (D.fn.binds fun _ _ _ _ _ _ us hl=>match us,hl with | [_,_],_=>rfl)
 ·obtain⟨_,_,_,_,rfl,_⟩:=h
  rfl
 obtain⟨X,p,sh,n,rfl,ha,n1,n2,hQ⟩:=h
 refine⟨_,(qss_cons (qs_if (qt_not (qt_val (qe_g d_is_from (qa_3 (qv 1) qe_int (qe_globI (by rfl) T.g_MOST_DAYS))))) (qss_one qs_no) qss_nil)
   (qss_one (qs_expr (qe_m d_Ship_sail (qv 0) T.cl_Ship hr.le pass0 (qa_1 (qv 1)))))),?_⟩
 k_extra "rx"
 refine⟨n,1,_,rfl,fun H1 s1=>?_⟩
 rw[decide_eq_true (show (1:Int)≤n∧n≤1000 from ⟨n1,n2⟩)]
 refine⟨_,rfl,i_brkF ?_⟩
 refine i_tNext ?_
 have a1:=ha.same s1
 obtain⟨fu,lo,de,la,xs,o,hr⟩:=id a1
 k_extra "rx"
 refine i_meth o (by decide +kernel) ?_
 k_extra "rx"
 refine⟨X,p,sh,n,rfl,a1,fun H3 a3 f3=>?_⟩
 exact hQ H3 a3 ((Fr1.of s1).trans f3)
theorem ok_out(D:DefAt K mg "out" s_out f fd)(T:Txt K mg cx)(d_Ship_go_out:MethOk P w K mg base CX0 1 (cx "Ship") "go_out" ["self","worth"] (sp_Ship_go_out K cx))(d_is_name:DefOk P w K mg base CX0 1 "is_name" ["text"] sp_is_name)(d_is_from:DefOk P w K mg base CX0 1 "is_from" ["number","least","most"] sp_is_from)(d_Ship_copy:MethOk P w K mg base CX0 3 (cx "Ship") "copy" ["self"] (sp_Ship_copy K cx))(d_Ship_init:InitOk P w K mg base CX0 1 (cx "Ship") "Ship" ["self"] (sp_Ship_init K cx)):DefOk P w K mg base CX0 4 "out" ["ships","name","worth"] (sp_out K cx):=by
 refine D.ok (D.q sc_out (fun vs H Q E h=>?_) (fun cdv A outer s H vs Q E hr h=>?_)) (D.fn.binds fun _ _ _ _ _ _ us hl=>match us,hl with | [_,_,_],_=>rfl)
 ·obtain⟨_,_,_,_,_,rfl,_⟩:=h
  rfl
 obtain⟨X,f',kvs,z,w',rfl,nx,hf,hv,l4,nz,w1,w2,hQ⟩:=h
 refine⟨_,(qss_cons (qs_if (qt_not (qt_val (qe_g d_is_name (qa_1 (qv 1))))) (qss_one qs_no) qss_nil)
   (qss_cons (qs_if (qw_and (qt_din (hu_of hr) (qv 1) (qv 0)) (qw_and1 (qt_val (qe_fldK (K:=K) rfl (qe_dget (hu_of hr) (qv 0) (qv 1)))))).pt (qss_one qs_no) qss_nil)
   (qss_cons (qs_if (qt_not (qt_val (qe_g d_is_from (qa_3 (qv 2) qe_int (qe_globI (by rfl) T.g_MOST_WORTH))))) (qss_one qs_no) qss_nil)
   (qss_cons (qs_if (qw_and (qt_dnotin (hu_of hr) (qv 1) (qv 0)) (qw_and1 (qt_cmpR op_ge (qe_callB call_lenD (by rfl) T.n_len bt_len (qa_1 (qv 0))) (qe_globI (by rfl) T.g_MOST_SHIPS) (nomark _)))).pt (qss_one qs_no) qss_nil)
   (qss_cons (qs_sL 3 sc_out.nd (qe_ifExp (qt_din (hu_of hr) (qv 1) (qv 0)) (qe_m0 d_Ship_copy (qe_dget (hu_of hr) (qv 0) (qv 1)) T.cl_Ship hr.le pass0) (qe_mk0 d_Ship_init hr.le pass0 (by rfl))))
   (qss_cons (qs_expr (qe_m d_Ship_go_out (qv 3) T.cl_Ship hr.le pass0 (qa_1 (qv 2))))
   (qss_one (qs_ret (qv 3))))))))),?_⟩
 obtain⟨zl,zc⟩:=name_ok nz
 k_extra "rx"
 refine⟨z,rfl,zl,zc,fun H1 s1=>?_⟩
 rw[nz]
 refine⟨_,rfl,i_brkF ?_⟩
 have hf1:=s1 _ _ hf
 refine i_tNext ?_
 k_extra "rx"
 refine i_dIn (k:=Sum.inr z) hf1 ?_
 rw[hv]
 refine⟨_,rfl,i_brkF ?_⟩
 refine i_tNext ?_
 k_extra "rx"
 refine⟨w',1,_,rfl,fun H2 s2=>?_⟩
 rw[decide_eq_true (show (1:Int)≤w'∧w'≤1000000000 from ⟨w1,w2⟩)]
 refine⟨_,rfl,i_brkF ?_⟩
 have hf2:=s2 _ _ hf1
 refine i_tNext ?_
 k_extra "rx"
 refine i_dNotIn (k:=Sum.inr z) hf2 ?_
 rw[hv]
 refine⟨_,rfl,i_brkT ?_⟩
 k_extra "rx"
 refine⟨f',kvs,rfl,hf2,?_⟩
 k_extra "rx"
 refine i_brkN (by omega) ?_
 refine i_tNext ?_
 k_extra "rx"
 refine i_dIn (k:=Sum.inr z) hf2 ?_
 rw[hv]
 refine⟨_,rfl,?_⟩
 rw[if_neg (by decide)]
 k_extra "rx"
 intro q dx hq hdx ndx
 have s3:Same H2 (upd (upd H2 dx (.own q)) q (.ins (cx "Ship") dx [])):=(Same.new hdx).trans (Same.new (by rw[upd_ne ndx.symm];exact hq))
 refine⟨q,rfl,⟨dx,upd_same,rfl⟩,fun fu lo de la H3 fu0 lo0 de0 la0 o3 g1 g2 g3 g4 f3=>⟨rfl,?_⟩⟩
 have s23:Same H2 H3:=fun b u hb=>f3 _ _ (fun z=>by rw[z,hq] at hb;cases hb) (s3 _ _ hb)
 have N:∀ a,upd (upd H2 dx (.own q)) q (.ins (cx "Ship") dx []) a=none→H a=none:=fun a h=>((s1.trans s2).trans s3).free h
 have a3:ShipAt X K (cx "Ship") (cx "Debt") H3 q ⟨false,0,0,[0,0,0,0,0,0],[],[],0,[]⟩:=⟨fu,lo,de,la,[],o3,g1,g2,g3,⟨rfl,fun i d h=>by simp at h⟩,g4,fun z=>nx _ z (N fu fu0),fun z=>nx _ z (N lo lo0),fun z=>nx _ z (N de de0),fun z=>nx _ z (N la la0)⟩
 have s12:=s1.trans s2
 have q0:H q=none:=s12.free hq
 clear s3 f3 g1 g2 g3 g4 fu0 lo0 de0 la0
 refine i_gName ?_
 k_extra "rx"
 refine i_meth o3 (by decide +kernel) ?_
 k_extra "rx"
 refine⟨X,q,_,w',rfl,fun a h z=>nx a h ((s12.trans s23).free z),a3,fun H4 a4 f4=>?_⟩
 k_extra "rx"
 exact hQ q H4 (fun b u hb=>f4 _ _ (fun z=>by rw[z,q0] at hb;cases hb) (s23 _ _ (s12 _ _ hb))) q0 a4
theorem ok_do_at_sea(D:DefAt K mg "do_at_sea" s_do_at_sea f fd)(T:Txt K mg cx)(d_sail:DefOk P w K mg base CX0 2 "sail" ["ship","days"] (sp_sail K cx))(d_hire:DefOk P w K mg base CX0 5 "hire" ["ship","wage"] (sp_hire K cx)):DefOk P w K mg base CX0 6 "do_at_sea" ["ship","deed"] (sp_do_at_sea K cx):=by
 refine D.ok (D.q sc_do_at_sea (fun vs H Q E h=>?_) (fun cdv A outer s H vs Q E hr h=>?_)) (D.fn.binds fun _ _ _ _ _ _ us hl=>match us,hl with | [_,_],_=>rfl)
 ·obtain⟨_,_,_,_,_,_,_,_,rfl,_⟩:=h
  rfl
 obtain⟨X,p,d,sh,sh',word,name,n,rfl,nx,hd,ha,wh,hQ⟩:=h
 refine⟨_,(qss_cons (qs_sL 2 sc_do_at_sea.nd (qe_iS (qv 1) qe_int))
   (qss_one (qs_if (qt_cmpR op_eq (qv 2) qe_str (nomark _)) (qss_one qs_no) (qss_one (qs_if (qt_cmpR op_eq (qv 2) qe_str (nomark _)) (qss_one (qs_expr (qe_g d_sail (qa_2 (qv 0) (qe_iS (qv 1) qe_int))))) (qss_one (qs_if (qt_cmpR op_eq (qv 2) qe_str (nomark _)) (qss_one (qs_expr (qe_g d_hire (qa_2 (qv 0) (qe_iS (qv 1) qe_int))))) (qss_one (qs_if (qt_cmpR op_eq (qv 2) qe_str (nomark _)) (qss_one qs_no) (qss_one (qs_if (qt_cmpR op_eq (qv 2) qe_str (nomark _)) (qss_one qs_no) (qss_one (qs_if (qt_cmpR op_eq (qv 2) qe_str (nomark _)) (qss_one qs_no) (qss_one (qs_if (qt_cmpR op_eq (qv 2) qe_str (nomark _)) (qss_one qs_no) (qss_one (qs_if (qt_cmpR op_eq (qv 2) qe_str (nomark _)) (qss_one qs_no) qss_nil))))))))))))))))),?_⟩
 rcases wh with ⟨rfl,n1,n2,l10,rfl⟩ | ⟨rfl,n1,n2,rfl⟩
 ·k_extra "rx"
  refine⟨rfl,?_⟩
  refine⟨_,rfl,brkD (fun h=>absurd (V.str.inj h) (by decide +kernel)) (fun _=>?_)⟩
  k_extra "rx"
  refine⟨rfl,?_⟩
  refine⟨_,rfl,brkD (fun h=>absurd (V.str.inj h) (by decide +kernel)) (fun _=>?_)⟩
  k_extra "rx"
  refine⟨rfl,?_⟩
  refine⟨_,rfl,brkD (fun _=>?_) (fun h=>absurd rfl h)⟩
  k_extra "rx"
  exact⟨X,p,sh,n,rfl,nx,ha,n1,n2,l10,fun H1 a1 f1=>hQ H1 a1 f1⟩
 ·k_extra "rx"
  refine⟨rfl,?_⟩
  refine⟨_,rfl,brkD (fun h=>absurd (V.str.inj h) (by decide +kernel)) (fun _=>?_)⟩
  k_extra "rx"
  refine⟨rfl,?_⟩
  refine⟨_,rfl,brkD (fun _=>?_) (fun h=>absurd rfl h)⟩
  k_extra "rx"
  exact⟨X,p,sh,n,rfl,ha,n1,n2,fun H1 a1 f1=>hQ H1 a1 f1⟩
theorem ok_ship_behind(D:DefAt K mg "ship_behind" s_ship_behind f fd)(T:Txt K mg cx)(d_Ship_copy:MethOk P w K mg base CX0 3 (cx "Ship") "copy" ["self"] (sp_Ship_copy K cx))(d_do_at_sea:DefOk P w K mg base CX0 6 "do_at_sea" ["ship","deed"] (sp_do_at_sea K cx))(d_out:DefOk P w K mg base CX0 4 "out" ["ships","name","worth"] (sp_out K cx))(d_find_at_sea:DefOk P w K mg base CX0 2 "find_at_sea" ["ships","name"] (sp_find_at_sea K cx))(d_find:DefOk P w K mg base CX0 1 "find" ["ships","name"] sp_find):DefOk P w K mg base CX0 7 "ship_behind" ["ships","deed"] (sp_ship_behind K cx):=by
 refine D.ok (D.q sc_ship_behind (fun vs H Q E h=>?_) (fun cdv A outer s H vs Q E hr h=>?_)) (D.fn.binds fun _ _ _ _ _ _ us hl=>match us,hl with | [_,_],_=>rfl)
 ·obtain⟨_,_,_,_,_,_,_,_,_,rfl,_⟩:=h
  rfl
 obtain⟨X,f',d,L,m,word,name,n,sh',rfl,nx,hF,hd,wh,hQ⟩:=h
 refine⟨_,(qss_cons (qs_sL 2 sc_ship_behind.nd (qe_iS (qv 1) qe_int))
   (qss_cons (qs_if (qt_cmpR op_eq (qe_iS (qv 1) qe_int) qe_str (nomark _)) (qss_one (qs_ret (qe_g d_out (qa_3 (qv 0) (qv 2) (qe_iS (qv 1) qe_int))))) qss_nil)
   (qss_cons (qs_if (qt_cmpR op_eq (qe_iS (qv 1) qe_int) qe_str (nomark _)) (qss_cons (qs_sL 3 sc_ship_behind.nd (qe_m0 d_Ship_copy (qe_g d_find (qa_2 (qv 0) (qv 2))) T.cl_Ship hr.le pass0))
   (qss_cons qs_no
   (qss_one (qs_ret (qv 3))))) qss_nil)
   (qss_cons (qs_sL 3 sc_ship_behind.nd (qe_m0 d_Ship_copy (qe_g d_find_at_sea (qa_2 (qv 0) (qv 2))) T.cl_Ship hr.le pass0))
   (qss_cons (qs_expr (qe_g d_do_at_sea (qa_2 (qv 3) (qv 1))))
   (qss_one (qs_ret (qv 3)))))))),?_⟩
 obtain⟨kvs,h1,h2,h3,h4⟩:=id hF
 rcases wh with ⟨rfl,ln,m4,nz,n1,n2,rfl⟩ | ⟨sh,rfl,ln,aw,n1,n2,l10,e⟩ | ⟨sh,rfl,ln,aw,n1,n2,e⟩
 ·k_extra "rx"
  refine⟨rfl,?_⟩
  refine⟨_,rfl,brkD (fun _=>?_) (fun h=>absurd rfl h)⟩
  k_extra "rx"
  exact⟨X,f',kvs,name,n,rfl,nx,h1,h3 name ln,by omega,nz,n1,n2,fun p H1 s1 _ a1=>hQ p H1 s1 a1⟩
 ·k_extra "rx"
  refine⟨rfl,?_⟩
  refine⟨_,rfl,brkD (fun h=>absurd (V.str.inj h) (by decide +kernel)) (fun _=>?_)⟩
  k_extra "rx"
  refine⟨rfl,?_⟩
  refine⟨_,rfl,brkD (fun h=>absurd (V.str.inj h) (by decide +kernel)) (fun _=>?_)⟩
  obtain⟨p,hv,ha⟩:=h4 name sh ln
  k_extra "rx"
  refine⟨X,f',kvs,name,p,sh,rfl,h1,hv,ha,aw,fun H1 s1=>?_⟩
  obtain⟨fu,lo,de,la,xs,o,g1,g2,g3,g4,g5,hx⟩:=ha.same s1
  refine i_meth o (by decide +kernel) ?_
  k_extra "rx"
  refine⟨p,_,_,_,_,_,_,_,_,rfl,o,fun q H2 hq s2 oq=>?_⟩
  have aq:ShipAt X K (cx "Ship") (cx "Debt") H2 q sh:=⟨fu,lo,de,la,xs,oq,s2 _ _ g1,s2 _ _ g2,s2 _ _ g3,g4.same s2,s2 _ _ g5,hx⟩
  have q0:H q=none:=s1.free hq
  have s12:=s1.trans s2
  refine i_gName ?_
  k_extra "rx"
  refine⟨X,q,d,sh,sh',_,name,n,rfl,fun a h z=>nx a h (s12.free z),s12 _ _ hd,aq,.inl ⟨rfl,n1,n2,l10,e⟩,fun H3 a3 f3=>?_⟩
  k_extra "rx"
  exact hQ q H3 (fun b u hb=>f3 _ _ (fun z=>by rw[z,q0] at hb;cases hb) (s12 _ _ hb)) a3
 ·k_extra "rx"
  refine⟨rfl,?_⟩
  refine⟨_,rfl,brkD (fun h=>absurd (V.str.inj h) (by decide +kernel)) (fun _=>?_)⟩
  k_extra "rx"
  refine⟨rfl,?_⟩
  refine⟨_,rfl,brkD (fun h=>absurd (V.str.inj h) (by decide +kernel)) (fun _=>?_)⟩
  obtain⟨p,hv,ha⟩:=h4 name sh ln
  k_extra "rx"
  refine⟨X,f',kvs,name,p,sh,rfl,h1,hv,ha,aw,fun H1 s1=>?_⟩
  obtain⟨fu,lo,de,la,xs,o,g1,g2,g3,g4,g5,hx⟩:=ha.same s1
  refine i_meth o (by decide +kernel) ?_
  k_extra "rx"
  refine⟨p,_,_,_,_,_,_,_,_,rfl,o,fun q H2 hq s2 oq=>?_⟩
  have aq:ShipAt X K (cx "Ship") (cx "Debt") H2 q sh:=⟨fu,lo,de,la,xs,oq,s2 _ _ g1,s2 _ _ g2,s2 _ _ g3,g4.same s2,s2 _ _ g5,hx⟩
  have q0:H q=none:=s1.free hq
  have s12:=s1.trans s2
  refine i_gName ?_
  k_extra "rx"
  refine⟨X,q,d,sh,sh',_,name,n,rfl,fun a h z=>nx a h (s12.free z),s12 _ _ hd,aq,.inr ⟨rfl,n1,n2,e⟩,fun H3 a3 f3=>?_⟩
  k_extra "rx"
  exact hQ q H3 (fun b u hb=>f3 _ _ (fun z=>by rw[z,q0] at hb;cases hb) (s12 _ _ hb)) a3
theorem ok_ships_behind(D:DefAt K mg "ships_behind" s_ships_behind f fd)(T:Txt K mg cx)(d_ship_behind:DefOk P w K mg base CX0 7 "ship_behind" ["ships","deed"] (sp_ship_behind K cx)):DefOk P w K mg base CX0 8 "ships_behind" ["ships","deed"] (sp_ships_behind K cx):=by
 refine D.ok (D.q sc_ships_behind (fun vs H Q E h=>?_) (fun cdv A outer s H vs Q E hr h=>?_)) (D.fn.binds fun _ _ _ _ _ _ us hl=>match us,hl with | [_,_],_=>rfl)
 ·obtain⟨_,_,_,_,_,_,_,_,_,rfl,_⟩:=h
  rfl
 obtain⟨X,f',d,L,m,word,name,n,sh',rfl,nx,hF,m10,hd,wh,hQ⟩:=h
 refine⟨_,(qss_cons (qs_sL 2 sc_ships_behind.nd (qe_callTy call_dictH (by rfl) T.n_dict bt_dict (qa_1 (qv 0))))
   (qss_cons (qs_dput (hu_of hr) (qv 2) (qe_iS (qv 1) qe_int) (qe_g d_ship_behind (qa_2 (qv 0) (qv 1))) rfl)
   (qss_one (qs_ret (qv 2))))),?_⟩
 obtain⟨kvs,h1,h2,h3,h4⟩:=id hF
 k_extra "rx"
 refine⟨f',kvs,rfl,h1,fun g hg=>?_⟩
 have s1:=Same.new (o:=.dK kvs) hg
 have g1:upd H g (.dK kvs) g=_:=upd_same
 generalize upd H g (.dK kvs)=H1 at s1 g1 ⊢
 refine i_gName ?_
 k_extra "rx"
 refine i_sDPut ?_
 k_extra "rx"
 refine⟨X,f',d,L,m,word,name,n,sh',rfl,fun a h z=>nx a h (s1.free z),hF.same s1,s1 _ _ hd,wh,fun p H2 s2 a2=>?_⟩
 have hd2:=s2 _ _ (s1 _ _ hd)
 have g2:=s2 _ _ g1
 k_extra "rx"
 refine i_dPut (k:=Sum.inr name) g2 (small1000 (by omega)) ?_
 k_extra "rx"
 have s3:Same H (upd H2 g (.dK (putK kvs (Sum.inr name) (.ref p)))):=fun b u hb=>by
  rw[upd_ne (fun z=>by rw[z,hg] at hb;cases hb)]
  exact s2 _ _ (s1 _ _ hb)
 exact hQ g _ s3 (FleetAt.put (f:=f') (H:=H) h2 h3 (fun z s hz=>by
  obtain⟨p',e',a'⟩:=h4 z s hz
  exact⟨p',e',(a'.same (s1.trans s2)).frd g2 Fr1.upd⟩) (a2.frd g2 Fr1.upd) upd_same)
theorem ok_Book_init(D:InitAt K mg (cx "Book") "Book" "Book.__init__" s_Book_init f fd)(T:Txt K mg cx)  : InitOk P w K mg base CX0 1 (cx "Book") "Book" ["self"] (sp_Book_init K cx):=by
 refine D.ok (D.q sc_Book_init (fun vs H Q E h=>?_) (fun cdv A outer s H vs Q E hr h=>?_)) (D.fn.binds fun _ _ _ _ _ _ us hl=>match us,hl with | [_],_=>rfl)
 ·obtain⟨_,rfl,_⟩:=h
  rfl
 obtain⟨p,rfl,o0,hQ⟩:=h
 refine⟨_,(qss_cons (qs_fldK (K:=K) rfl (qv 0) (qe_lst qa_nil))
   (qss_one (qs_fldK (K:=K) rfl (qv 0) (qe_lst qa_nil)))),?_⟩
 k_extra "rx"
 refine i_NewO (Nat.le_of_ble_eq_true rfl) fun st H1 hst s1 g1=>?_
 have pst:st≠p:=fun z=>by
  obtain⟨dx,h,_⟩:=o0
  rw[z,h] at hst
  cases hst
 k_extra "rx"
 refine i_new (ns':=["steps"]) (o0.same s1) T.cl_Book T.na_Book_steps (by decide) rfl (by decide) fun H2 o2 f2=>?_
 have g2:=f2 _ _ pst g1
 k_extra "rx"
 refine i_NewO (Nat.le_of_ble_eq_true rfl) fun un H3 hun s3 g3=>?_
 have pun:un≠p:=fun z=>by
  obtain⟨dx,h,_⟩:=o2
  rw[z,h] at hun
  cases hun
 have su:st≠un:=fun z=>by rw[← z,g2] at hun;cases hun
 have f12:Fr1 p H H2:=(Fr1.of s1).trans f2
 k_extra "rx"
 refine i_new (ns':=bkN) (o2.same s3) T.cl_Book T.na_Book_undone (by decide +kernel) rfl (by decide) fun H4 o4 f4=>?_
 exact hQ st un H4 hst (fr_none f12 pun hun) su o4 (f4 _ _ pst (s3 _ _ g2)) (f4 _ _ pun g3) ((f12.trans (Fr1.of s3)).trans f4)
theorem ok_Book_fleet(D:MethAt K (cx "Book") "fleet" "Book.fleet" s_Book_fleet f fd)(T:Txt K mg cx)  : MethOk P w K mg base CX0 1 (cx "Book") "fleet" ["self"] (sp_Book_fleet K cx):=by
 refine D.ok (D.q sc_Book_fleet (fun vs H Q E h=>?_) (fun cdv A outer s H vs Q E hr h=>?_)) (D.fn.binds fun _ _ _ _ _ _ us hl=>match us,hl with | [_],_=>rfl)
 ·obtain⟨_,_,_,_,_,rfl,_⟩:=h
  rfl
 obtain⟨b,st,un,ss,us,rfl,B,hQ⟩:=h
 refine⟨_,(qss_cons (qs_if (qt_cmpR op_eq (qe_callB call_lenF (by rfl) T.n_len bt_len (qa_1 (qe_fldK (K:=K) rfl (qv 0)))) qe_int (nomark _)) (qss_one (qs_ret qe_dnewK)) qss_nil)
   (qss_one (qs_ret (qe_iS (qe_iS (qe_fldK (K:=K) rfl (qv 0)) (qe_un un_neg qe_int)) qe_int)))),?_⟩
 obtain⟨xs,g1,g2⟩:=B.s
 have o:=B.o
 have xl:=g2.1
 k_extra "rx"
 refine i_get o T.cl_Book T.na_Book_steps bk_nd (i:=0) rfl rfl ?_
 k_extra "rx"
 refine⟨rfl,?_⟩
 refine⟨_,rfl,brkD (fun h=>?_) (fun h=>?_)⟩
 ·have h:(xs.length:Int)=0:=V.int.inj h
  have e:ss=[]:=List.length_eq_zero_iff.mp (by omega)
  subst e
  k_extra "rx"
  intro f hf
  exact hQ f _ (Same.new hf) ⟨[],upd_same,rfl,fun z _=>rfl,fun z s h=>by cases h⟩
 ·have h:(xs.length:Int)≠0:=fun z=>h (congrArg V.int z)
  refine i_tNext ?_
  k_extra "rx"
  refine i_get o T.cl_Book T.na_Book_steps bk_nd (i:=0) rfl rfl ?_
  k_extra "rx"
  have hl:ss.length - 1 < ss.length:=by omega
  obtain⟨v,ev,t,d,f,rfl,h1,h2,h3⟩:=g2.2 _ _ (List.getElem?_eq_getElem hl)
  refine⟨st,xs,_,_,rfl,rfl,seqAt_lst g1,at_end (by omega) (by rw[xl];exact ev),?_⟩
  k_extra "rx"
  have e1:ss.getLast?=some ss[ss.length - 1]:=by rw[List.getLast?_eq_getElem?,List.getElem?_eq_getElem hl]
  have e2:topL ss=ss[ss.length - 1].L:=by unfold topL;rw[e1];rfl
  have e3:topM ss=ss[ss.length - 1].m:=by unfold topM;rw[e1];rfl
  refine hQ f H (Same.refl _) ?_
  rw[e2,e3]
  exact h3
theorem ok_Book_do(D:MethAt K (cx "Book") "do" "Book.do" s_Book_do f fd)(T:Txt K mg cx)(d_ships_behind:DefOk P w K mg base CX0 8 "ships_behind" ["ships","deed"] (sp_ships_behind K cx))(d_Book_fleet:MethOk P w K mg base CX0 1 (cx "Book") "fleet" ["self"] (sp_Book_fleet K cx)):MethOk P w K mg base CX0 9 (cx "Book") "do" ["self","deed"] (sp_Book_do K cx):=by
 refine D.ok (D.q sc_Book_do (fun vs H Q E h=>?_) (fun cdv A outer s H vs Q E hr h=>?_)) (D.fn.binds fun _ _ _ _ _ _ us hl=>match us,hl with | [_,_],_=>rfl)
 ·obtain⟨_,_,_,_,_,_,_,_,_,_,rfl,_⟩:=h
  rfl
 obtain⟨b,st,un,d,ss,us,word,name,n,sh',rfl,B,hd,m10,s9,wh,hQ⟩:=h
 refine⟨_,(qss_cons (qs_expr (qe_bmK (K:=K) rfl PySem.F.plainAttrs_list PySem.F.slot_list_append PySem.F.type_list_append mt_append (qe_fldK (K:=K) rfl (qv 0)) (qa_1 (qe_tup (qa_2 (qv 1) (qe_g d_ships_behind (qa_2 (qe_m0 d_Book_fleet (qv 0) T.cl_Book hr.le pass0) (qv 1))))))))
   (qss_one (qs_fldK (K:=K) rfl (qv 0) (qe_lst qa_nil)))),?_⟩
 have o:=B.o
 obtain⟨xs,g1,g2⟩:=B.s
 have xl:=g2.1
 k_extra "rx"
 refine i_tBM ?_
 k_extra "rx"
 refine i_get o T.cl_Book T.na_Book_steps bk_nd (i:=0) rfl rfl ?_
 refine⟨.inl ⟨rfl,_,SqL.of g1⟩,?_⟩
 k_extra "rx"
 refine i_meth o (by decide +kernel) ?_
 k_extra "rx"
 refine⟨b,st,un,ss,us,rfl,B,fun f H1 s1 hF=>?_⟩
 have B1:=B.same s1
 k_extra "rx"
 refine⟨BX b st un,f,d,topL ss,topM ss,word,name,n,sh',rfl,B1.nx,hF,m10,s1 _ _ hd,wh,fun g H2 s2 hG=>?_⟩
 k_extra "rx"
 refine i_NewO (Nat.le_of_ble_eq_true rfl) fun t H3 ht s3 ht3=>?_
 have s13:=(s1.trans s2).trans s3
 have B3:=B.same s13
 have stp:StepAt (BX b st un) K (cx "Ship") (cx "Debt") H3 (.ref t) ⟨word,name,n,upL (topL ss) name sh',if topL ss name=none then topM ss+1 else topM ss⟩:=⟨t,d,g,rfl,ht3,s13 _ _ hd,hG.same s3⟩
 have g3:=s13 _ _ g1
 have st3:=(g2.same s13).snoc stp
 have o3:=B3.o
 have ty3:=B3.ty
 obtain⟨ys,u1,_⟩:=B3.u
 have bst:st≠b:=o3.ne g3 fun _ _ _ z=>by cases z
 have bun:un≠b:=o3.ne u1 fun _ _ _ z=>by cases z
 have nsu:=B.ne
 clear hF hG stp g2 B3 ht ht3
 k_extra "rx"
 refine i_app g3 (by omega) fun H4 g4 f4=>?_
 have x4:FrX (BX b st un) H3 H4:=fun a o na e=>f4 _ _ (fun z=>na (.inr (.inl z))) e
 have st4:=st3.frx ty3 x4
 have o4:=o3.frm f4 bst.symm
 have u4:=f4 _ _ nsu.symm u1
 have ty4:TyX (BX b st un) H4:=fun a ha=>by
  rcases ha with rfl | rfl | rfl
  ·exact .inr ⟨_,_,o4⟩
  ·exact .inl ⟨_,g4⟩
  ·exact .inl ⟨_,u4⟩
 clear st3 o3 ty3 u1 f4
 k_extra "rx"
 refine i_NewO (Nat.le_of_ble_eq_true rfl) fun un' H5 hun s5 u5=>?_
 have x5:FrX (BX b st un) H H5:=fun a o na e=>s5 _ _ (x4 _ _ na (s13 _ _ e))
 have un0:H un'=none:=by
  cases e:H un' with
  | none=>rfl
  | some o' =>
   exfalso
   by_cases z:BX b st un un'
   ·rcases ty4 un' z with ⟨_,q⟩ | ⟨_,_,_,q,_⟩<;>(rw[hun] at q;cases q)
   ·rw[x4 _ _ z (s13 _ _ e)] at hun
    cases hun
 have st5:=st4.same s5
 have ty5:TyX (BX b st un') H5:=fun a ha=>by
  rcases ha with rfl | rfl | rfl
  ·exact .inr ⟨_,_,o4.same s5⟩
  ·exact .inl ⟨_,s5 _ _ g4⟩
  ·exact .inl ⟨_,u5⟩
 have st6:StepsAt (BX b st un') K (cx "Ship") (cx "Debt") H4 (xs++[.ref t]) _:=st4.mono fun a ha=>by
  rcases ha with rfl | rfl | rfl
  ·exact .inl (.inl rfl)
  ·exact .inl (.inr (.inl rfl))
  ·exact .inr hun
 have b5:un'≠b:=o4.nw hun
 have su:st≠un':=fun z=>by rw[← z,g4] at hun;cases hun
 k_extra "rx"
 refine i_put (o4.same s5) T.cl_Book T.na_Book_undone bk_nd (i:=1) rfl (by decide) fun H6 o6 f6=>?_
 have x6:FrX (BX b st un') H5 H6:=fun a o na e=>f6 _ _ (fun z=>na (.inl z)) e
 exact hQ un' H6 ⟨o6,su,⟨_,f6 _ _ bst (s5 _ _ g4),(st6.same s5).frx ty5 x6⟩,⟨[],f6 _ _ b5 u5,⟨rfl,fun i s h=>by simp at h⟩⟩⟩ (fun a o na e=>f6 _ _ (fun z=>na (.inl z)) (x5 _ _ na e)) un0
theorem ok_Book_day(D:MethAt K (cx "Book") "day" "Book.day" s_Book_day f fd)(T:Txt K mg cx)(d_find:DefOk P w K mg base CX0 1 "find" ["ships","name"] sp_find)(d_Book_fleet:MethOk P w K mg base CX0 1 (cx "Book") "fleet" ["self"] (sp_Book_fleet K cx)):MethOk P w K mg base CX0 2 (cx "Book") "day" ["self","ship"] (sp_Book_day K cx):=by
 refine D.ok (D.q sc_Book_day (fun vs H Q E h=>?_) (fun cdv A outer s H vs Q E hr h=>?_)) (D.fn.binds fun _ _ _ _ _ _ us hl=>match us,hl with | [_,_],_=>rfl)
 ·obtain⟨_,_,_,_,_,_,_,rfl,_⟩:=h
  rfl
 obtain⟨b,st,un,ss,us,name,sh,rfl,B,hs,hQ⟩:=h
 refine⟨_,(qss_one (qs_ret (qe_fldK (K:=K) rfl (qe_g d_find (qa_2 (qe_m0 d_Book_fleet (qv 0) T.cl_Book hr.le pass0) (qv 1)))))),?_⟩
 have o:=B.o
 k_extra "rx"
 refine i_meth o (by decide +kernel) ?_
 k_extra "rx"
 refine⟨b,st,un,ss,us,rfl,B,fun f H1 s1 hF=>?_⟩
 obtain⟨kvs,h1,h2,h3,h4⟩:=hF
 obtain⟨p,hv,ha⟩:=h4 name sh hs
 k_extra "rx"
 refine⟨f,kvs,name,p,rfl,h1,hv,fun H2 s2=>?_⟩
 obtain⟨fu,lo,de,la,xs,os,hr⟩:=ha.same s2
 refine i_get os T.cl_Ship T.na_Ship_today sh_nd (i:=1) rfl rfl ?_
 exact hQ H2 (s1.trans s2)
theorem ok_Book_claims(D:MethAt K (cx "Book") "claims" "Book.claims" s_Book_claims f fd)(T:Txt K mg cx)(d_Ship_claims:MethOk P w K mg base CX0 2 (cx "Ship") "claims" ["self"] (sp_Ship_claims K cx))(d_find:DefOk P w K mg base CX0 1 "find" ["ships","name"] sp_find)(d_Book_fleet:MethOk P w K mg base CX0 1 (cx "Book") "fleet" ["self"] (sp_Book_fleet K cx)):MethOk P w K mg base CX0 3 (cx "Book") "claims" ["self","ship"] (sp_Book_claims K cx):=by
 refine D.ok (D.q sc_Book_claims (fun vs H Q E h=>?_) (fun cdv A outer s H vs Q E hr h=>?_)) (D.fn.binds fun _ _ _ _ _ _ us hl=>match us,hl with | [_,_],_=>rfl)
 ·obtain⟨_,_,_,_,_,_,_,_,rfl,_⟩:=h
  rfl
 obtain⟨b,st,un,ss,us,name,sh,n,rfl,B,hs,hd,t0,tz,hQ⟩:=h
 refine⟨_,(qss_one (qs_ret (qe_m0 d_Ship_claims (qe_g d_find (qa_2 (qe_m0 d_Book_fleet (qv 0) T.cl_Book hr.le pass0) (qv 1))) T.cl_Ship hr.le pass0))),?_⟩
 have o:=B.o
 k_extra "rx"
 refine i_meth o (by decide +kernel) ?_
 k_extra "rx"
 refine⟨b,st,un,ss,us,rfl,B,fun f H1 s1 hF=>?_⟩
 obtain⟨kvs,h1,h2,h3,h4⟩:=hF
 obtain⟨p,hv,ha⟩:=h4 name sh hs
 k_extra "rx"
 refine⟨f,kvs,name,p,rfl,h1,hv,fun H2 s2=>?_⟩
 have a2:=ha.same s2
 obtain⟨fu,lo,de,la,xs,os,hr⟩:=id a2
 refine i_meth os (by decide +kernel) ?_
 k_extra "rx"
 exact⟨_,p,sh,n,rfl,a2,hd,t0,tz,fun F r t q H3 s3 hF hr' hq=>hQ F r t q H3 ((s1.trans s2).trans s3) hF hr' hq⟩
theorem ok_Book_back(D:MethAt K (cx "Book") "back" "Book.back" s_Book_back f fd)(T:Txt K mg cx)  : MethOk P w K mg base (CXR P w) 1 (cx "Book") "back" ["self"] (sp_Book_back K cx):=by
 refine D.ok (D.qR sc_Book_back (fun vs H Q E h=>?_) (fun cdv A outer s H vs Q E hr h=>?_)) (D.fn.binds fun _ _ _ _ _ _ us hl=>match us,hl with | [_],_=>rfl)
 ·obtain⟨_,_,_,_,_,rfl,_⟩:=h
  rfl
 obtain⟨b,st,un,ss,us,rfl,B,l5,hE,hQ⟩:=h
 refine⟨_,(qss_cons (qs_if (qt_cmpR op_eq (qe_callB call_lenF (by rfl) T.n_len bt_len (qa_1 (qe_fldK (K:=K) rfl (qv 0)))) qe_int (nomark _)) (qss_one (qs_raise raisesR T.x_NoBack rfl (by rfl) (qa_1 qe_str))) qss_nil)
   (qss_cons (qs_expr (qe_bmK (K:=K) rfl PySem.F.plainAttrs_list PySem.F.slot_list_append PySem.F.type_list_append mt_append (qe_fldK (K:=K) rfl (qv 0)) (qa_1 (qe_bm0K (K:=K) rfl PySem.F.plainAttrs_list PySem.F.slot_list_pop PySem.F.type_list_pop mt_pop (qe_fldK (K:=K) rfl (qv 0))))))
   (qss_one (qs_ret (qe_iS (qe_iS (qe_fldK (K:=K) rfl (qv 0)) (qe_un un_neg qe_int)) qe_int))))),?_⟩
 have o:=B.o
 obtain⟨xs,g1,g2⟩:=B.s
 obtain⟨ys,u1,u2⟩:=B.u
 have xl:=g2.1
 have yl:=u2.1
 have ty:=B.ty
 have nsu:=B.ne
 k_extra "rx"
 refine i_get o T.cl_Book T.na_Book_steps bk_nd (i:=0) rfl rfl ?_
 k_extra "rx"
 refine⟨rfl,?_⟩
 refine⟨_,rfl,brkD (fun h=>?_) (fun h=>?_)⟩
 ·have h:(xs.length:Int)=0:=V.int.inj h
  have e:ss=[]:=List.length_eq_zero_iff.mp (by omega)
  unfold tRaise
  k_extra "rx"
  exact⟨by show 1≤sizeLine;decide,hE e⟩
 ·have h:(xs.length:Int)≠0:=fun z=>h (congrArg V.int z)
  refine i_tNext ?_
  k_extra "rx"
  refine i_tBM ?_
  k_extra "rx"
  refine i_get o T.cl_Book T.na_Book_undone bk_nd (i:=1) rfl rfl ?_
  refine⟨.inl ⟨rfl,_,SqL.of u1⟩,?_⟩
  k_extra "rx"
  refine i_tBM0 ?_
  k_extra "rx"
  refine i_get o T.cl_Book T.na_Book_steps bk_nd (i:=0) rfl rfl ?_
  refine⟨.inl ⟨rfl,_,SqL.of g1⟩,?_⟩
  have hl:ss.length - 1 < ss.length:=by omega
  obtain⟨v,ev,sv⟩:=g2.2 _ _ (List.getElem?_eq_getElem hl)
  have es:ss=ss.dropLast++[ss[ss.length - 1]]:=by
   have:=List.dropLast_concat_getLast (l:=ss) (fun z=>by rw[z] at hl;cases hl)
   rw[List.getLast_eq_getElem] at this
   exact this.symm
  generalize ss[ss.length - 1]=sp' at sv es
  have bst:st≠b:=o.ne g1 fun _ _ _ z=>by cases z
  have bun:un≠b:=o.ne u1 fun _ _ _ z=>by cases z
  refine⟨st,xs,v,rfl,rfl,g1,by rw[xl];exact ev,?_⟩
  have x1:FrX (BX b st un) H (upd H st (.lst xs.dropLast)):=fun a o na e=>by rw[upd_ne (fun z=>na (.inr (.inl z)))];exact e
  have o1:Ob (cx "Book") bkN (upd H st (.lst xs.dropLast)) b [.ref st,.ref un]:=o.frm (p:=st) Fr1.upd bst.symm
  have c1:upd H st (.lst xs.dropLast) st=some (.lst xs.dropLast):=upd_same
  have d1:upd H st (.lst xs.dropLast) un=some (.lst ys):=by rw[upd_ne nsu.symm];exact u1
  have p1:StepsAt (BX b st un) K (cx "Ship") (cx "Debt") (upd H st (.lst xs.dropLast)) xs.dropLast ss.dropLast:=by
   refine⟨by rw[List.length_dropLast,List.length_dropLast,xl],fun i s' hs=>?_⟩
   have hi:i < ss.length - 1:=by have:=(List.getElem?_eq_some_iff.mp hs).1;rwa [List.length_dropLast] at this
   rw[List.getElem?_dropLast,if_pos hi] at hs
   obtain⟨w',e',a'⟩:=g2.2 i s' hs
   exact⟨w',by rw[List.getElem?_dropLast,if_pos (by omega)];exact e',a'.frx ty x1⟩
  have q1:=u2.frx ty x1
  have r1:=sv.frx ty x1
  generalize upd H st (.lst xs.dropLast)=H1 at x1 o1 c1 d1 p1 q1 r1 ⊢
  have ty1:TyX (BX b st un) H1:=fun a ha=>by
   rcases ha with rfl | rfl | rfl
   ·exact .inr ⟨_,_,o1⟩
   ·exact .inl ⟨_,c1⟩
   ·exact .inl ⟨_,d1⟩
  k_extra "rx"
  refine i_app d1 (by omega) fun H2 g2' f2=>?_
  have x2:FrX (BX b st un) H1 H2:=fun a o na e=>f2 _ _ (fun z=>na (.inr (.inr z))) e
  have o2:=o1.frm f2 bun.symm
  have q2:=(q1.snoc r1).frx ty1 x2
  have p2:=p1.frx ty1 x2
  have c2:=f2 _ _ nsu c1
  obtain⟨t,d,f',rfl,t1,t2,t3⟩:=r1.frx ty1 x2
  k_extra "rx"
  refine i_get o2 T.cl_Book T.na_Book_undone bk_nd (i:=1) rfl rfl ?_
  k_extra "rx"
  refine⟨un,_,_,_,rfl,rfl,seqAt_lst g2',at_end (v:=.ref t) (by rw[List.length_append];show 0 < ys.length+1;omega) (by simp),?_⟩
  k_extra "rx"
  exact hQ ss.dropLast sp' d H2 es ⟨o2,nsu,⟨_,c2,p2⟩,⟨_,g2',q2⟩⟩ (fun a o na e=>x2 _ _ na (x1 _ _ na e)) t2
theorem ok_Book_again(D:MethAt K (cx "Book") "again" "Book.again" s_Book_again f fd)(T:Txt K mg cx)  : MethOk P w K mg base (CXR P w) 1 (cx "Book") "again" ["self"] (sp_Book_again K cx):=by
 refine D.ok (D.qR sc_Book_again (fun vs H Q E h=>?_) (fun cdv A outer s H vs Q E hr h=>?_)) (D.fn.binds fun _ _ _ _ _ _ us hl=>match us,hl with | [_],_=>rfl)
 ·obtain⟨_,_,_,_,_,rfl,_⟩:=h
  rfl
 obtain⟨b,st,un,ss,us,rfl,B,l5,hE,hQ⟩:=h
 refine⟨_,(qss_cons (qs_if (qt_cmpR op_eq (qe_callB call_lenF (by rfl) T.n_len bt_len (qa_1 (qe_fldK (K:=K) rfl (qv 0)))) qe_int (nomark _)) (qss_one (qs_raise raisesR T.x_NoBack rfl (by rfl) (qa_1 qe_str))) qss_nil)
   (qss_cons (qs_expr (qe_bmK (K:=K) rfl PySem.F.plainAttrs_list PySem.F.slot_list_append PySem.F.type_list_append mt_append (qe_fldK (K:=K) rfl (qv 0)) (qa_1 (qe_bm0K (K:=K) rfl PySem.F.plainAttrs_list PySem.F.slot_list_pop PySem.F.type_list_pop mt_pop (qe_fldK (K:=K) rfl (qv 0))))))
   (qss_one (qs_ret (qe_iS (qe_iS (qe_fldK (K:=K) rfl (qv 0)) (qe_un un_neg qe_int)) qe_int))))),?_⟩
 have o:=B.o
 obtain⟨xs,g1,g2⟩:=B.s
 obtain⟨ys,u1,u2⟩:=B.u
 have xl:=g2.1
 have yl:=u2.1
 have ty:=B.ty
 have nsu:=B.ne.symm
 k_extra "rx"
 refine i_get o T.cl_Book T.na_Book_undone bk_nd (i:=1) rfl rfl ?_
 k_extra "rx"
 refine⟨rfl,?_⟩
 refine⟨_,rfl,brkD (fun h=>?_) (fun h=>?_)⟩
 ·have h:(ys.length:Int)=0:=V.int.inj h
  have e:us=[]:=List.length_eq_zero_iff.mp (by omega)
  unfold tRaise
  k_extra "rx"
  exact⟨by show 1≤sizeLine;decide,hE e⟩
 ·have h:(ys.length:Int)≠0:=fun z=>h (congrArg V.int z)
  refine i_tNext ?_
  k_extra "rx"
  refine i_tBM ?_
  k_extra "rx"
  refine i_get o T.cl_Book T.na_Book_steps bk_nd (i:=0) rfl rfl ?_
  refine⟨.inl ⟨rfl,_,SqL.of g1⟩,?_⟩
  k_extra "rx"
  refine i_tBM0 ?_
  k_extra "rx"
  refine i_get o T.cl_Book T.na_Book_undone bk_nd (i:=1) rfl rfl ?_
  refine⟨.inl ⟨rfl,_,SqL.of u1⟩,?_⟩
  have hl:us.length - 1 < us.length:=by omega
  obtain⟨v,ev,sv⟩:=u2.2 _ _ (List.getElem?_eq_getElem hl)
  have es:us=us.dropLast++[us[us.length - 1]]:=by
   have:=List.dropLast_concat_getLast (l:=us) (fun z=>by rw[z] at hl;cases hl)
   rw[List.getLast_eq_getElem] at this
   exact this.symm
  generalize us[us.length - 1]=sp' at sv es
  have bun:un≠b:=o.ne u1 fun _ _ _ z=>by cases z
  have bst:st≠b:=o.ne g1 fun _ _ _ z=>by cases z
  refine⟨un,ys,v,rfl,rfl,u1,by rw[yl];exact ev,?_⟩
  have x1:FrX (BX b st un) H (upd H un (.lst ys.dropLast)):=fun a o na e=>by rw[upd_ne (fun z=>na (.inr (.inr z)))];exact e
  have o1:Ob (cx "Book") bkN (upd H un (.lst ys.dropLast)) b [.ref st,.ref un]:=o.frm (p:=un) Fr1.upd bun.symm
  have c1:upd H un (.lst ys.dropLast) un=some (.lst ys.dropLast):=upd_same
  have d1:upd H un (.lst ys.dropLast) st=some (.lst xs):=by rw[upd_ne nsu.symm];exact g1
  have p1:StepsAt (BX b st un) K (cx "Ship") (cx "Debt") (upd H un (.lst ys.dropLast)) ys.dropLast us.dropLast:=by
   refine⟨by rw[List.length_dropLast,List.length_dropLast,yl],fun i s' hs=>?_⟩
   have hi:i < us.length - 1:=by have:=(List.getElem?_eq_some_iff.mp hs).1;rwa [List.length_dropLast] at this
   rw[List.getElem?_dropLast,if_pos hi] at hs
   obtain⟨w',e',a'⟩:=u2.2 i s' hs
   exact⟨w',by rw[List.getElem?_dropLast,if_pos (by omega)];exact e',a'.frx ty x1⟩
  have q1:=g2.frx ty x1
  have r1:=sv.frx ty x1
  generalize upd H un (.lst ys.dropLast)=H1 at x1 o1 c1 d1 p1 q1 r1 ⊢
  have ty1:TyX (BX b st un) H1:=fun a ha=>by
   rcases ha with rfl | rfl | rfl
   ·exact .inr ⟨_,_,o1⟩
   ·exact .inl ⟨_,d1⟩
   ·exact .inl ⟨_,c1⟩
  k_extra "rx"
  refine i_app d1 (by omega) fun H2 g2' f2=>?_
  have x2:FrX (BX b st un) H1 H2:=fun a o na e=>f2 _ _ (fun z=>na (.inr (.inl z))) e
  have o2:=o1.frm f2 bst.symm
  have q2:=(q1.snoc r1).frx ty1 x2
  have p2:=p1.frx ty1 x2
  have c2:=f2 _ _ nsu c1
  obtain⟨t,d,f',rfl,t1,t2,t3⟩:=r1.frx ty1 x2
  k_extra "rx"
  refine i_get o2 T.cl_Book T.na_Book_steps bk_nd (i:=0) rfl rfl ?_
  k_extra "rx"
  refine⟨st,_,_,_,rfl,rfl,seqAt_lst g2',at_end (v:=.ref t) (by rw[List.length_append];show 0 < xs.length+1;omega) (by simp),?_⟩
  k_extra "rx"
  exact hQ us.dropLast sp' d H2 es ⟨o2,nsu.symm,⟨_,g2',q2⟩,⟨_,c2,p2⟩⟩ (fun a o na e=>x2 _ _ na (x1 _ _ na e)) t2
theorem ok_Book_deeds(D:MethAt K (cx "Book") "deeds" "Book.deeds" s_Book_deeds f fd)(T:Txt K mg cx)  : MethOk P w K mg base CX0 1 (cx "Book") "deeds" ["self"] (sp_Book_deeds K cx):=by
 refine D.ok (D.q sc_Book_deeds (fun vs H Q E h=>?_) (fun cdv A outer s H vs Q E hr h=>?_)) (D.fn.binds fun _ _ _ _ _ _ us hl=>match us,hl with | [_],_=>rfl)
 ·obtain⟨_,_,_,_,_,rfl,_⟩:=h
  rfl
 obtain⟨b,st,un,ss,us,rfl,B,l5,hQ⟩:=h
 refine⟨_,(qss_one (qs_ret (qe_cp ["deed","ships"] [] (qi_listK (K:=K) rfl (qe_fldK (K:=K) rfl (qv 0))) (gext_tup2 (by decide) (by decide)) (fun _ _ _ _ _=>⟨(qg_tupK (K:=K) (n:=2) rfl rfl (qgs_cons (qg_name (i:=0) (show (["deed","ships"]:List Str).Nodup by decide +kernel) rfl (Or.inl rfl)) (qgs_cons (qg_name (i:=1) (show (["deed","ships"]:List Str).Nodup by decide +kernel) rfl (Or.inl rfl)) qgs_nil))),qf_nil,(qv 0)⟩)))),?_⟩
 have o:=B.o
 obtain⟨xs,g1,g2⟩:=B.s
 have xl:=g2.1
 k_extra "rx"
 refine comp_it (.ref st) (fld_it rfl o T.cl_Book T.na_Book_steps bk_nd (i:=0) rfl rfl) ?_
 refine⟨st,rfl,⟨_,SqL.of g1⟩,fun F hF=>?_⟩
 refine comp_listR (K:=K) (a:=st) (xs:=xs) (fun j acc H1=>Same H H1∧H1 F=some (.lst acc)∧acc.length=j∧∀(i:Nat) s,i < j→ss[i]?=some s→∃ d,acc[i]?=some (.ref d)∧H1 d=some (.tup [.str s.word,.str s.name,.int s.n])) ⟨Same.new hF,upd_same,rfl,fun i s h=>by omega⟩ (fun j acc H1 _ ⟨s1,_⟩=>SqL.of (s1 _ _ g1)) ?_ ?_
 ·rintro j y acc H1 hy ⟨s1,hF1,al,inv⟩
  have hj:j < ss.length:=by rw[← xl];exact (List.getElem?_eq_some_iff.mp hy).1
  obtain⟨v,ev,t,d,f',rfl,t1,t2,_⟩:=g2.2 j ss[j] (List.getElem?_eq_getElem hj)
  rw[ev] at hy
  cases hy
  have t1':=s1 _ _ t1
  refine⟨t,_,rfl,SqT.of t1',rfl,_,_,rfl,_,_,rfl,rfl,?_⟩
  dsimp only
  simp only[tYes,if_true]
  k_extra "rx"
  refine⟨hF1,small1000 (by omega),same_put hF s1,upd_same,by rw[List.length_append,al];rfl,fun i s hi hs=>?_⟩
  have ts:Toy.TS H1 (upd H1 F (.lst (acc++[.ref d]))):=TS.lst hF1
  by_cases e:i < j
  ·obtain⟨d',e1,e2⟩:=inv i s e hs
   exact⟨d',by rw[List.getElem?_append_left (by omega)];exact e1,ts _ _ e2⟩
  ·obtain rfl:i=j:=by omega
   rw[List.getElem?_eq_getElem hj] at hs
   cases hs
   exact⟨d,by rw[List.getElem?_append_right (by omega),al,Nat.sub_self];rfl,ts _ _ (s1 _ _ t2)⟩
 ·rintro acc H1 ⟨s1,hF1,al,inv⟩
  exact hQ F acc H1 s1 hF1 (by omega) fun i s hs=>inv i s (by rw[xl];exact (List.getElem?_eq_some_iff.mp hs).1) hs
theorem ok__law_back(D:DefAt K mg "_law_back" s__law_back f fd)(T:Txt K mg cx)(d_Book_back:MethOk P w K mg base (CXR P w) 1 (cx "Book") "back" ["self"] (sp_Book_back K cx)):DefOk P w K mg base CX0 2 "_law_back" ["_law_book"] (sp__law_back K cx):=by
 refine D.ok (D.q sc__law_back (fun vs H Q E h=>?_) (fun cdv A outer s H vs Q E hr h=>?_)) (D.fn.binds fun _ _ _ _ _ _ us hl=>match us,hl with | [_],_=>rfl)
 ·obtain⟨_,_,_,_,_,rfl,_⟩:=h
  rfl
 obtain⟨b,st,un,ss,us,rfl,B,l5,hN,hQ⟩:=h
 refine⟨_,(qss_cons (qs_sL 1 sc__law_back.nd qe_str)
   (qss_cons (qs_sL 2 sc__law_back.nd qe_non)
   (qss_cons (qs_try T.x_NoBack (by rfl) (by rfl) (by rfl) (fun pn EX=>(qss_one (qs_sL 2 sc__law_back.nd (qe_mX0 d_Book_back (qv 0) T.cl_Book hr.le passX)))) (fun e=>(qss_one (qs_sL 1 sc__law_back.nd qe_str))))
   (qss_one (qs_ret (qe_tup (qa_2 (qv 1) (qv 2)))))))),?_⟩
 have o:=B.o
 k_extra "rx"
 unfold tTry
 k_extra "rx"
 refine i_tMX ?_
 k_extra "rx"
 refine i_meth o (by decide +kernel) ?_
 k_extra "rx"
 refine⟨b,st,un,ss,us,rfl,B,l5,fun e=>?_,fun rs s d H1 e B1 x1 hd=>?_⟩
 ·refine⟨rfl,?_⟩
  k_extra "rx"
  exact i_NewO (Nat.le_of_ble_eq_true rfl) fun T H2 hT s2 hT'=>hN e T H2 s2 hT'
 ·k_extra "rx"
  exact i_NewO (Nat.le_of_ble_eq_true rfl) fun T H2 hT s2 hT'=>hQ rs s T d H2 e (B1.same s2) (fun a o na e=>s2 _ _ (x1 _ _ na e)) hT'
theorem ok__law_again(D:DefAt K mg "_law_again" s__law_again f fd)(T:Txt K mg cx)(d_Book_again:MethOk P w K mg base (CXR P w) 1 (cx "Book") "again" ["self"] (sp_Book_again K cx)):DefOk P w K mg base CX0 2 "_law_again" ["_law_book"] (sp__law_again K cx):=by
 refine D.ok (D.q sc__law_again (fun vs H Q E h=>?_) (fun cdv A outer s H vs Q E hr h=>?_)) (D.fn.binds fun _ _ _ _ _ _ us hl=>match us,hl with | [_],_=>rfl)
 ·obtain⟨_,_,_,_,_,rfl,_⟩:=h
  rfl
 obtain⟨b,st,un,ss,us,rfl,B,l5,hN,hQ⟩:=h
 refine⟨_,(qss_cons (qs_sL 1 sc__law_again.nd qe_str)
   (qss_cons (qs_sL 2 sc__law_again.nd qe_non)
   (qss_cons (qs_try T.x_NoBack (by rfl) (by rfl) (by rfl) (fun pn EX=>(qss_one (qs_sL 2 sc__law_again.nd (qe_mX0 d_Book_again (qv 0) T.cl_Book hr.le passX)))) (fun e=>(qss_one (qs_sL 1 sc__law_again.nd qe_str))))
   (qss_one (qs_ret (qe_tup (qa_2 (qv 1) (qv 2)))))))),?_⟩
 have o:=B.o
 k_extra "rx"
 unfold tTry
 k_extra "rx"
 refine i_tMX ?_
 k_extra "rx"
 refine i_meth o (by decide +kernel) ?_
 k_extra "rx"
 refine⟨b,st,un,ss,us,rfl,B,l5,fun e=>?_,fun rs s d H1 e B1 x1 hd=>?_⟩
 ·refine⟨rfl,?_⟩
  k_extra "rx"
  exact i_NewO (Nat.le_of_ble_eq_true rfl) fun T H2 hT s2 hT'=>hN e T H2 s2 hT'
 ·k_extra "rx"
  exact i_NewO (Nat.le_of_ble_eq_true rfl) fun T H2 hT s2 hT'=>hQ rs s T d H2 e (B1.same s2) (fun a o na e=>s2 _ _ (x1 _ _ na e)) hT'
theorem ok__law_stands(D:DefAt K mg "_law_stands" s__law_stands f fd)(T:Txt K mg cx)(d_Book_claims:MethOk P w K mg base CX0 3 (cx "Book") "claims" ["self","ship"] (sp_Book_claims K cx))(d_Book_day:MethOk P w K mg base CX0 2 (cx "Book") "day" ["self","ship"] (sp_Book_day K cx)):DefOk P w K mg base CX0 4 "_law_stands" ["_law_book","_law_name","_law_day"] (sp__law_stands K cx):=by
 refine D.ok (D.q sc__law_stands (fun vs H Q E h=>?_) (fun cdv A outer s H vs Q E hr h=>?_)) (D.fn.binds fun _ _ _ _ _ _ us hl=>match us,hl with | [_,_,_],_=>rfl)
 ·obtain⟨_,_,_,_,_,_,_,_,rfl,_⟩:=h
  rfl
 obtain⟨b,st,un,ss,us,name,sh,n,rfl,B,hs,hd,t0,tz,hQ⟩:=h
 refine⟨_,(qss_cons (qs_sL 3 sc__law_stands.nd (qe_m d_Book_claims (qv 0) T.cl_Book hr.le pass0 (qa_1 (qv 1))))
   (qss_one (qs_ret (qe_and (qe_cmpR op_eq (qe_m d_Book_day (qv 0) T.cl_Book hr.le pass0 (qa_1 (qv 1))) (qv 2) (nomark _)) (qe_one (qe_cmpR (op_eqD hr.units) (qe_cp ["_law_row"] [] (qi_listK (K:=K) rfl (qv 3)) (gext_name (by decide)) (fun _ _ _ _ _=>⟨(qg_name (i:=0) (show (["_law_row"]:List Str).Nodup by decide +kernel) rfl (Or.inl rfl)),qf_nil,(qe_iS (qv 0) qe_int)⟩)) (qe_lst (qa_1 (qe_tup (qa_2 (qe_op op_mulB (qv 2) qe_int) qe_int)))) (nomark _))))))),?_⟩
 have o:=B.o
 k_extra "rx"
 refine i_meth o (by decide +kernel) ?_
 k_extra "rx"
 refine⟨b,st,un,ss,us,name,sh,n,rfl,B,hs,hd,t0,tz,fun F r t q H1 s1 hF hr' hq=>?_⟩
 have B1:=B.same s1
 have o1:=B1.o
 refine i_gName ?_
 k_extra "rx"
 refine i_tAndV ?_
 k_extra "rx"
 refine i_meth o1 (by decide +kernel) ?_
 k_extra "rx"
 refine⟨b,st,un,ss,us,name,sh,rfl,B1,hs,fun H2 s2=>?_⟩
 k_extra "rx"
 refine⟨rfl,?_⟩
 refine⟨_,rfl,brkD (fun _=>?_) (fun h=>absurd rfl h)⟩
 have hF2:=s2 _ _ hF
 have hr2:=s2 _ _ hr'
 have hq2:=s2 _ _ hq
 k_extra "rx"
 refine⟨_,rfl,F,rfl,⟨_,SqL.of hF2⟩,fun G hG=>?_⟩
 refine comp_listR (K:=K) (a:=F) (xs:=[.ref r]) (fun j acc H3=>Same H2 H3∧H3 G=some (.lst acc)∧acc=([.ref q]:List V).take j) ⟨Same.new hG,upd_same,rfl⟩ (fun j acc H3 _ ⟨s3,_⟩=>SqL.of (s3 _ _ hF2)) ?_ ?_
 ·rintro j y acc H3 hy ⟨s3,hG3,rfl⟩
  have hj:j=0:=by
   have:j < 1:=(List.getElem?_eq_some_iff.mp hy).1
   omega
  subst hj
  cases hy
  have hr3:=s3 _ _ hr2
  simp only[gName_ap,tYes,if_true]
  k_extra "rx"
  exact⟨hG3,small1000 (by show 0≤1000;decide),same_put hG s3,upd_same,rfl⟩
 ·rintro acc H3 ⟨s3,hG3,rfl⟩
  have hG3:H3 G=some (.lst [.ref q]):=hG3
  have hq3:=s3 _ _ hq2
  have om:IntMulOk sh.today 7:=tz.ok (by decide:Sz 100 7) (by decide)
  have e7:7*(sh.today - 0)=sh.today*7:=by omega
  rw[e7] at hq3
  k_extra "rx"
  refine i_NewO (Nat.le_of_ble_eq_true rfl) fun u H4 hu s4 hu4=>?_
  k_extra "rx"
  refine i_NewO (Nat.le_of_ble_eq_true rfl) fun w' H5 hw s5 hw5=>?_
  have s45:=s4.trans s5
  refine⟨.lst ([(sh.today*7,1)].map pD),.lst ([(sh.today*7,1)].map pD),den_lst (s45 _ _ hG3) (dens1 (den_tup (s45 _ _ hq3) (dens1 rfl (dens1 rfl dens0))) dens0),den_lst hw5 (dens1 (den_tup (s5 _ _ hu4) (dens1 rfl (dens1 rfl dens0))) dens0),cmp_lst fun d hd=>?_,?_⟩
  ·obtain⟨c,_,rfl⟩:=List.mem_map.mp hd
   exact cmp2 _ _ _ _
  ·rw[dec_rfl]
   exact hQ H5 (((s1.trans s2).trans s3).trans s45)
theorem ok__law_names(D:DefAt K mg "_law_names" s__law_names f fd)(T:Txt K mg cx)(d__law_word:DefOk P w K mg base CX0 2 "_law_word" ["_law_bag_here","_law_size"] sp__law_word)(d__law_pull:DefOk P w K mg base CX0 1 "_law_pull" ["_law_bag_here","_law_many"] sp__law_pull):DefOk P w K mg base CX0 3 "_law_names" ["_law_bag_here"] sp__law_names:=by
 refine D.ok (D.q sc__law_names (fun vs H Q E h=>?_) (fun cdv A outer s H vs Q E hr h=>?_)) (D.fn.binds fun _ _ _ _ _ _ us hl=>match us,hl with | [_],_=>rfl)
 ·obtain⟨_,_,rfl,_⟩:=h
  rfl
 obtain⟨B,L,rfl,b,hQ⟩:=h
 refine⟨_,(qss_cons (qs_set (i:=1) sc__law_names.nd rfl (Or.inr rfl) (qe_g d__law_word (qa_2 (qv 0) (qe_g d__law_pull (qa_2 (qv 0) qe_int)))))
   (qss_cons (qs_sL 2 sc__law_names.nd (qe_g d__law_pull (qa_2 (qv 0) qe_int)))
   (qss_cons (qs_if (qt_cmpR op_eq (qv 2) qe_int (nomark _)) (qss_one (qs_ret (qe_cp ["_law_sign"] [("_law_start", 1)] (qi_str qe_str) (gext_name (by decide)) (fun _ _ _ _ _=>⟨(qg_name (i:=0) (show (["_law_sign","_law_start"]:List Str).Nodup by decide +kernel) rfl (Or.inl rfl)),qf_nil,(qe_op op_add_str (qv 1) (qv 0))⟩)))) qss_nil)
   (qss_cons (qs_if (qt_cmpR op_eq (qv 2) qe_int (nomark _)) (qss_one (qs_ret (qe_cp ["_law_sign"] [("_law_start", 1)] (qi_str qe_str) (gext_name (by decide)) (fun _ _ _ _ _=>⟨(qg_name (i:=0) (show (["_law_sign","_law_start"]:List Str).Nodup by decide +kernel) rfl (Or.inl rfl)),qf_nil,(qe_op op_add_str (qv 0) (qv 1))⟩)))) qss_nil)
   (qss_one (qs_ret (qe_lst (qa_cons (qe_op op_add_str (qv 1) qe_str) (qa_cons (qe_op op_add_str (qv 1) qe_str) (qa_cons (qe_op op_add_str qe_str (qv 1)) (qa_cons (qe_op op_add_str (qv 1) qe_str) qa_nil))))))))))),?_⟩
 k_extra "rx"
 refine⟨B,_,L,rfl,b,by decide,by decide,fun k H1 k0 k1 b1 f1=>?_⟩
 obtain⟨m,rfl⟩:∃ m:Nat,k=(m:Int):=⟨k.toNat,by omega⟩
 k_extra "rx"
 refine⟨B,L,m,rfl,b1,by omega,fun z H2 zl zc b2 f2'=>?_⟩
 have f2:=f1.trans f2'
 clear f1 f2' b1
 refine i_gName ?_
 k_extra "rx"
 refine⟨B,_,L,rfl,b2,by decide,by decide,fun w' H3 w0 w1 b3 f3'=>?_⟩
 have f3:=f2.trans f3'
 clear f2 f3' b2
 refine i_gName ?_
 k_extra "rx"
 refine⟨rfl,?_⟩
 refine⟨_,rfl,brkD (fun _=>?_) (fun _=>?_)⟩
 ·k_extra "rx"
  refine⟨_,rfl,asc_of (by decide +kernel),fun l hl=>?_⟩
  have e4:sg (Str.ofString "sdfq")=[115,100,102,113]:=by decide +kernel
  have lB:=b3.ne hl
  have lL:=b3.neL hl
  have l0:=fr_none f3 lB hl
  refine comp_strR (fun i acc H4=>Same H3 H4∧H4 l=some (.lst acc)∧acc=((sg (Str.ofString "sdfq")).take i).map fun c=>V.str (z++(⟨#[c]⟩:Str))) ⟨Same.new hl,upd_same,rfl⟩ ?_ ?_
  ·rintro i c acc H4 hc' ⟨s4,hl4,rfl⟩
   rw[sg_take _ hc']
   have hlen:(((sg (Str.ofString "sdfq")).take i).map fun c=>V.str (z++(⟨#[c]⟩:Str))).length≤4:=by
    rw[List.length_map,List.length_take,e4]
    exact Nat.min_le_right _ _
   simp only[gName_ap,tYes,if_true]
   k_extra "rx"
   refine⟨_,_,rfl,rfl,Nat.le_trans (by show _≤100;show z.length+1≤100;omega) (by decide),?_⟩
   exact⟨hl4,small1000 (by omega),same_put hl s4,upd_same,rfl⟩
  ·rintro acc H4 ⟨s4,hl4,rfl⟩
   rw[sg_size,List.take_length,e4] at hl4
   exact hQ l _ _ _ _ H4 hl4 (nm_of (by rw[len_add];show 1≤z.length+1;omega) (by rw[len_add];show z.length+1≤8;omega) (low_add zc (by decide +kernel))) (nm_of (by rw[len_add];show 1≤z.length+1;omega) (by rw[len_add];show z.length+1≤8;omega) (low_add zc (by decide +kernel))) (ap_ne (by decide +kernel)) (b3.keep s4) l0 (f3.trans (Fr1.of s4))
 ·refine i_tNext ?_
  k_extra "rx"
  refine⟨rfl,?_⟩
  refine⟨_,rfl,brkD (fun _=>?_) (fun _=>?_)⟩
  ·k_extra "rx"
   refine⟨_,rfl,asc_of (by decide +kernel),fun l hl=>?_⟩
   have e4:sg (Str.ofString "qsda")=[113,115,100,97]:=by decide +kernel
   have lB:=b3.ne hl
   have lL:=b3.neL hl
   have l0:=fr_none f3 lB hl
   refine comp_strR (fun i acc H4=>Same H3 H4∧H4 l=some (.lst acc)∧acc=((sg (Str.ofString "qsda")).take i).map fun c=>V.str ((⟨#[c]⟩:Str)++z)) ⟨Same.new hl,upd_same,rfl⟩ ?_ ?_
   ·rintro i c acc H4 hc' ⟨s4,hl4,rfl⟩
    rw[sg_take _ hc']
    have hlen:(((sg (Str.ofString "qsda")).take i).map fun c=>V.str ((⟨#[c]⟩:Str)++z)).length≤4:=by
     rw[List.length_map,List.length_take,e4]
     exact Nat.min_le_right _ _
    simp only[gName_ap,tYes,if_true]
    k_extra "rx"
    refine⟨_,_,rfl,rfl,Nat.le_trans (by show _≤100;show 1+z.length≤100;omega) (by decide),?_⟩
    exact⟨hl4,small1000 (by omega),same_put hl s4,upd_same,rfl⟩
   ·rintro acc H4 ⟨s4,hl4,rfl⟩
    rw[sg_size,List.take_length,e4] at hl4
    exact hQ l _ _ _ _ H4 hl4 (nm_of (by rw[len_add];show 1≤1+z.length;omega) (by rw[len_add];show 1+z.length≤8;omega) (low_add (by decide +kernel) zc)) (nm_of (by rw[len_add];show 1≤1+z.length;omega) (by rw[len_add];show 1+z.length≤8;omega) (low_add (by decide +kernel) zc)) (pa_ne (by decide +kernel)) (b3.keep s4) l0 (f3.trans (Fr1.of s4))
  ·refine i_tNext ?_
   k_extra "rx"
   refine⟨_,_,rfl,rfl,Nat.le_trans (by show z.length+2≤100;omega) (by decide),?_⟩
   k_extra "rx"
   refine⟨_,_,rfl,rfl,Nat.le_trans (by show z.length+1≤100;omega) (by decide),?_⟩
   k_extra "rx"
   refine⟨_,_,rfl,rfl,Nat.le_trans (by show 1+z.length≤100;omega) (by decide),?_⟩
   k_extra "rx"
   refine⟨_,_,rfl,rfl,Nat.le_trans (by show z.length+2≤100;omega) (by decide),?_⟩
   k_extra "rx"
   refine i_NewO (Nat.le_of_ble_eq_true rfl) fun l H4 hl s4 hl4=>?_
   exact hQ l _ _ _ _ H4 hl4 (nm_of (by rw[len_add];show 1≤z.length+2;omega) (by rw[len_add];show z.length+2≤8;omega) (low_add zc (by decide +kernel))) (nm_of (by rw[len_add];show 1≤z.length+1;omega) (by rw[len_add];show z.length+1≤8;omega) (low_add zc (by decide +kernel))) (ap_ne (by decide +kernel)) (b3.keep s4) (fr_none f3 (b3.ne hl) hl) (f3.trans (Fr1.of s4))
theorem ok_page_text(D:DefAt K mg "page_text" s_page_text f fd)(T:Txt K mg cx)(d_deed_text:DefOk P w K mg base CX0 3 "deed_text" ["deed"] sp_deed_text)(d_Book_deeds:MethOk P w K mg base CX0 1 (cx "Book") "deeds" ["self"] (sp_Book_deeds K cx)):DefOk P w K mg base CX0 4 "page_text" ["book"] (sp_page_text K cx):=by
 refine D.ok (D.q sc_page_text (fun vs H Q E h=>?_) (fun cdv A outer s H vs Q E hr h=>?_)) (D.fn.binds fun _ _ _ _ _ _ us hl=>match us,hl with | [_],_=>rfl)
 ·obtain⟨_,_,_,_,_,rfl,_⟩:=h
  rfl
 obtain⟨b,st,un,ss,us,rfl,B,l2,ok,hQ⟩:=h
 refine⟨_,(qss_one (qs_ret (qe_bmK (K:=K) rfl PySem.F.plainAttrs_str PySem.F.slot_str_join PySem.F.type_str_join mt_join qe_str (qa_1 (qe_cp ["deed"] [] (qi_listK (K:=K) rfl (qe_m0 d_Book_deeds (qv 0) T.cl_Book hr.le pass0)) (gext_name (by decide)) (fun _ _ _ _ _=>⟨(qg_name (i:=0) (show (["deed"]:List Str).Nodup by decide +kernel) rfl (Or.inl rfl)),qf_nil,(qe_op op_add_str (qe_g d_deed_text (qa_1 (qv 0))) qe_str)⟩)))))),?_⟩
 have o:=B.o
 k_extra "rx"
 refine i_tBM ?_
 k_extra "rx"
 refine⟨rfl,?_⟩
 k_extra "rx"
 refine i_compIt ?_
 k_extra "rx"
 refine i_meth o (by decide +kernel) ?_
 k_extra "rx"
 refine⟨b,st,un,ss,us,rfl,B,by omega,fun D ds H1 s1 hD dl hds=>?_⟩
 refine⟨D,rfl,⟨_,SqL.of hD⟩,fun F hF=>?_⟩
 refine comp_listR (K:=K) (a:=D) (xs:=ds) (fun j acc H2=>Same H1 H2∧H2 F=some (.lst acc)∧acc=((ss.map lnS).take j).map fun w=>V.str (w++Str.ofString "\n")) ⟨Same.new hF,upd_same,rfl⟩ (fun j acc H2 _ ⟨s2,_⟩=>SqL.of (s2 _ _ hD)) ?_ ?_
 ·rintro j y acc H2 hy ⟨s2,hF2,rfl⟩
  have hj:j < ss.length:=by rw[← dl];exact (List.getElem?_eq_some_iff.mp hy).1
  obtain⟨d,e1,e2⟩:=hds j ss[j] (List.getElem?_eq_getElem hj)
  rw[e1] at hy
  cases hy
  have os:=ok _ (List.getElem_mem hj)
  have et:(ss.map lnS).take (j+1)=(ss.map lnS).take j++[lnS ss[j]]:=by rw[List.take_succ_eq_append_getElem (by rw[List.length_map];exact hj),List.getElem_map]
  rw[et,List.map_append]
  have hlen:(((ss.map lnS).take j).map fun w=>V.str (w++Str.ofString "\n")).length≤500:=by
   rw[List.length_map,List.length_take,List.length_map]
   omega
  generalize ss[j]=sj at e2 os ⊢
  generalize (((ss.map lnS).take j).map fun w=>V.str (w++Str.ofString "\n"))=A at hF2 hlen ⊢
  simp only[gName_ap,tYes,if_true]
  k_extra "rx"
  refine⟨d,[.str sj.word,.str sj.name,.int sj.n],rfl,den_tup (s2 _ _ e2) (dens1 rfl (dens1 rfl (dens1 rfl dens0))),by show 3≤6;decide,fun e he=>?_,fun H3 s3=>?_⟩
  ·obtain⟨q1,q2,q3,q4,q5⟩:=os
   rcases List.mem_cons.mp he with rfl | he
   ·exact .str _ (by omega)
   rcases List.mem_cons.mp he with rfl | he
   ·exact .str _ (by have:=(name_len q3).2.1;omega)
   rcases List.mem_cons.mp he with rfl | he
   ·exact .int _ (Nat.lt_of_lt_of_le (by omega:sj.n.natAbs < 2 ^ 40) (by decide))
   ·cases he
  have ll:=(lnS_ok os).1
  have el:Txt.join (Str.ofString " ") ([Dt.str sj.word,Dt.str sj.name,Dt.int sj.n].map txD)=lnS sj:=rfl
  rw[el]
  k_extra "rx"
  refine⟨_,_,rfl,rfl,Nat.le_trans (by show (lnS sj).length+1≤100;omega) (by decide),?_⟩
  exact⟨s3 _ _ hF2,small1000 (by omega),same_put hF (s2.trans s3),upd_same,rfl⟩
 ·rintro acc H2 ⟨s2,hF2,rfl⟩
  rw[List.take_of_length_le (by rw[List.length_map];omega)] at hF2
  have hF3:H2 F=some (.lst (((ss.map lnS).map (·++Str.ofString "\n")).map V.str)):=by rw[hF2];simp only[List.map_map];rfl
  have tot:∀ l:List Stp,(∀ s∈l,okS s)→(((l.map lnS).map (·++Str.ofString "\n")).map (·.length)).sum≤41*l.length∧(sg (Txt.join (Str.ofString "") ((l.map lnS).map (·++Str.ofString "\n")))).length≤41*l.length:=fun l hl=>by
   rw[sg_join0]
   induction l with
   | nil=>exact⟨Nat.le_refl _,Nat.le_refl _⟩
   | cons a l ih =>
    obtain⟨i1,i2⟩:=ih fun s hs=>hl s (List.mem_cons_of_mem _ hs)
    have la:=(lnS_ok (hl a List.mem_cons_self)).1
    have la2:(lnS a++Str.ofString "\n").length=(lnS a).length+1:=by rw[len_add];rfl
    simp only[List.map_cons,List.sum_cons,List.flatten_cons,List.length_append,List.length_cons,sg_len,la2]
    omega
  obtain⟨t1,t2⟩:=tot ss ok
  k_extra "rx"
  refine⟨_,F,_,rfl,rfl,hF3,Nat.le_trans (by show _+_*0≤20000;omega) (by decide),?_⟩
  refine hQ _ H2 (s1.trans s2) (by rw[← sg_len];omega) ?_
  rw[page_split fun w hw=>?_,List.length_map]
  obtain⟨s',hs',rfl⟩:=List.mem_map.mp hw
  exact (lnS_ok (ok s' hs')).2
theorem ok_Book_ships(D:MethAt K (cx "Book") "ships" "Book.ships" s_Book_ships f fd)(T:Txt K mg cx)(d_Book_fleet:MethOk P w K mg base CX0 1 (cx "Book") "fleet" ["self"] (sp_Book_fleet K cx)):MethOk P w K mg base CX0 2 (cx "Book") "ships" ["self"] (sp_Book_ships K cx):=by
 refine D.ok (D.q sc_Book_ships (fun vs H Q E h=>?_) (fun cdv A outer s H vs Q E hr h=>?_)) (D.fn.binds fun _ _ _ _ _ _ us hl=>match us,hl with | [_],_=>rfl)
 ·obtain⟨_,_,_,_,rfl,_⟩:=h
  rfl
 obtain⟨b,st,un,us,rfl,B,hQ⟩:=h
 refine⟨_,(qss_one (qs_ret (qe_callTy (call_listD0 rfl) (by rfl) T.n_list bt_list (qa_1 (qe_m0 d_Book_fleet (qv 0) T.cl_Book hr.le pass0))))),?_⟩
 have o:=B.o
 k_extra "rx"
 refine i_meth o (by decide +kernel) ?_
 k_extra "rx"
 refine⟨b,st,un,[],us,rfl,B,fun f H1 s1 hf=>?_⟩
 obtain⟨kvs,h1,h2,_⟩:=hf
 have e:kvs=[]:=List.length_eq_zero_iff.mp h2
 subst e
 k_extra "rx"
 refine⟨f,rfl,h1,fun F hF=>?_⟩
 exact hQ F _ (s1.trans (Same.new hF)) upd_same
theorem ok_is_name(D:DefAt K mg "is_name" s_is_name f fd)(T:Txt K mg cx):DefOk P w K mg base CX0 1 "is_name" ["text"] sp_is_name:=by
 refine D.ok (D.q sc_is_name (fun vs H Q E h=>?_) (fun cdv A outer s H vs Q E hr h=>?_)) (D.fn.binds fun _ _ _ _ _ _ us hl=>match us,hl with | [_],_=>rfl)
 ·obtain⟨_,rfl,_⟩:=h
  rfl
 obtain⟨z,rfl,hz,ha,hQ⟩:=h
 refine⟨_,(qss_one (qs_ret (qe_and (qe_cmpR op_ge (qe_callB call_len_str (by rfl) T.n_len bt_len (qa_1 (qv 0))) qe_int (nomark _)) (qe_and (qe_cmpR op_le (qe_callB call_len_str (by rfl) T.n_len bt_len (qa_1 (qv 0))) qe_int (nomark _)) (qe_one (qe_callB (call_allF rfl) (by rfl) T.n_all bt_all (qa_1 (qe_cp ["letter"] [] (qi_str (qv 0)) (gext_name (by decide)) (fun _ _ _ _ _=>⟨(qg_name (i:=0) (show (["letter"]:List Str).Nodup by decide +kernel) rfl (Or.inl rfl)),qf_nil,(qe_cmpR op_in_str (qv 0) (qe_globS (z:=LET) (by rfl) T.g_LETTERS let_eq) (by rfl))⟩))))))))),?_⟩
 k_extra "rx"
 refine i_tAndV ?_
 k_extra "rx"
 refine⟨z,rfl,Nat.le_trans hz (by decide),?_⟩
 k_extra "rx"
 refine brkD (fun h1=>?_) (fun h1=>?_)
 ·refine i_tAndV ?_
  k_extra "rx"
  refine⟨z,rfl,Nat.le_trans hz (by decide),?_⟩
  k_extra "rx"
  refine brkD (fun h2=>?_) (fun h2=>?_)
  ·k_extra "rx"
   refine⟨_,rfl,z,rfl,asc_of ha,fun l hl=>?_⟩
   refine comp_strR (fun i acc H2=>Same H H2∧H2 l=some (.lst acc)∧acc=((sg z).take i).map fun c=>V.bl (lowC c)) ⟨Same.new hl,upd_same,rfl⟩ ?_ ?_
   ·rintro i c acc H2 hc ⟨s2,hl2,rfl⟩
    rw[sg_take _ hc]
    have hlen:(((sg z).take i).map fun c=>V.bl (lowC c)).length≤1000:=by
     rw[List.length_map,List.length_take,sg_len]
     omega
    simp only[gName_ap,tYes,if_true]
    refine⟨_,rfl,_,_,rfl,rfl,?_⟩
    rw[let_in c (ha c (sg_mem hc))]
    exact⟨hl2,small1000 hlen,same_put hl s2,upd_same,rfl⟩
   ·rintro acc H2 ⟨s2,hl2,rfl⟩
    rw[sg_size,List.take_length] at hl2
    refine⟨l,(sg z).map lowC,rfl,by rw[List.map_map];exact hl2,?_⟩
    have e:nameB z=((sg z).map lowC).all id:=by
     unfold nameB
     rw[decide_eq_true (by omega),decide_eq_true (by omega),Bool.true_and,Bool.true_and,List.all_map]
     rfl
    rw[← e]
    exact hQ _ s2
  ·have e:nameB z=false:=by
    unfold nameB
    rw[decide_eq_false (p:=z.length≤8) (by omega),Bool.false_and,Bool.and_false]
   rw[← e]
   exact hQ _ (Same.refl _)
 ·have e:nameB z=false:=by
   unfold nameB
   rw[decide_eq_false (by omega),Bool.false_and]
  rw[← e]
  exact hQ _ (Same.refl _)
theorem ok_law(D:DefAt K mg "law" s_law f fd)(T:Txt K mg cx)(d__law_bag:DefOk P w K mg base CX0 1 "_law_bag" ["_law_script"] (sp__law_bag K cx))(d__law_names:DefOk P w K mg base CX0 3 "_law_names" ["_law_bag_here"] sp__law_names)(d_Book_init:InitOk P w K mg base CX0 1 (cx "Book") "Book" ["self"] (sp_Book_init K cx))(d__law_pull:DefOk P w K mg base CX0 1 "_law_pull" ["_law_bag_here","_law_many"] sp__law_pull)(d_Book_do:MethOk P w K mg base CX0 9 (cx "Book") "do" ["self","deed"] (sp_Book_do K cx))(d__law_stands:DefOk P w K mg base CX0 4 "_law_stands" ["_law_book","_law_name","_law_day"] (sp__law_stands K cx))(d__law_back:DefOk P w K mg base CX0 2 "_law_back" ["_law_book"] (sp__law_back K cx))(d_Book_ships:MethOk P w K mg base CX0 2 (cx "Book") "ships" ["self"] (sp_Book_ships K cx))(d__law_again:DefOk P w K mg base CX0 2 "_law_again" ["_law_book"] (sp__law_again K cx))(d_Book_deeds:MethOk P w K mg base CX0 1 (cx "Book") "deeds" ["self"] (sp_Book_deeds K cx))(d_page_text:DefOk P w K mg base CX0 4 "page_text" ["book"] (sp_page_text K cx)):FnOk P w K mg base CX0 10 f fd ["_law_script"] (sp_law K cx):=by
 refine D.q sc_law (fun vs H Q E h=>?_) (fun cdv A outer s H vs Q E hr h=>?_)
 ·obtain⟨_,_,rfl,_⟩:=h
  rfl
 obtain⟨a,ns,rfl,hS,hl,hQ⟩:=h
 have hQt:Q (.bl true)=fun _=>True:=by funext H';exact eq_true (hQ H')
 clear hQ
 refine⟨_,(qss_cons (qs_sL 1 sc_law.nd (qe_g d__law_bag (qa_1 (qv 0))))
   (qss_cons (qs_sL 2 sc_law.nd (qe_g d__law_names (qa_1 (qv 1))))
   (qss_cons (qs_sL 3 sc_law.nd (qe_op op_add qe_int (qe_g d__law_pull (qa_2 (qv 1) (qe_iS (qe_lst (qa_2 qe_int qe_int)) (qe_g d__law_pull (qa_2 (qv 1) qe_int)))))))
   (qss_cons (qs_sL 4 sc_law.nd (qe_mk0 d_Book_init hr.le pass0 (by rfl)))
   (qss_cons (qs_for PassesOwn.never rfl (qi_listK (K:=K) rfl (qe_slice sl_list (qv 2) qo_none (qo_some qe_int))) (qg_name (i:=5) sc_law.nd rfl (Or.inl rfl)) (qss_cons (qs_expr (qe_m d_Book_do (qv 4) T.cl_Book hr.le pass0 (qa_1 (qe_tup (qa_3 qe_str (qv 5) qe_int)))))
   (qss_one (qs_expr (qe_m d_Book_do (qv 4) T.cl_Book hr.le pass0 (qa_1 (qe_tup (qa_3 qe_str (qv 5) qe_int))))))))
   (qss_cons (qs_sL 6 sc_law.nd (qe_lst (qa_1 (qe_tup (qa_2 qe_int qe_int)))))
   (qss_cons (qs_for PassesOwn.never rfl (qi_range1 (by rfl) T.n_range (qa_1 (qv 3))) (qg_name (i:=7) sc_law.nd rfl (Or.inl rfl)) (qss_cons (qs_sL 8 sc_law.nd (qe_callTy call_int1 (by rfl) T.n_int bt_int (qa_1 (qe_cmpR op_eq (qe_g d__law_pull (qa_2 (qv 1) qe_int)) qe_int (nomark _)))))
   (qss_cons (qs_sL 9 sc_law.nd (qe_op op_add qe_int (qe_g d__law_pull (qa_2 (qv 1) qe_int))))
   (qss_cons (qs_expr (qe_m d_Book_do (qv 4) T.cl_Book hr.le pass0 (qa_1 (qe_tup (qa_3 qe_str (qe_iS (qv 2) (qv 8)) (qv 9))))))
   (qss_one (qs_expr (qe_bmK (K:=K) rfl PySem.F.plainAttrs_list PySem.F.slot_list_append PySem.F.type_list_append mt_append (qv 6) (qa_1 (qe_tup (qa_2 (qe_op op_add (qe_iS (qe_iS (qv 6) (qe_un un_neg qe_int)) qe_int) (qe_op op_mulB (qv 9) (qe_op op_sub qe_int (qv 8)))) (qe_op op_add (qe_iS (qe_iS (qv 6) (qe_un un_neg qe_int)) qe_int) (qe_op op_mulB (qv 9) (qv 8)))))))))))))
   (qss_cons (qs_if (qw_or (qt_cmpR op_ne (qe_callB call_lenF (by rfl) T.n_len bt_len (qa_1 (qe_m0 d_Book_deeds (qv 4) T.cl_Book hr.le pass0))) (qe_op op_add (qv 3) qe_int) (nomark _)) (qw_or1 (qt_cmpR op_ne (qe_callB call_lenF (by rfl) T.n_len bt_len (qa_1 (qe_bmK (K:=K) rfl PySem.F.plainAttrs_str PySem.F.slot_str_split PySem.F.type_str_split mt_splitL (qe_g d_page_text (qa_1 (qv 4))) (qa_1 qe_str)))) (qe_op op_add (qv 3) qe_int) (nomark _)))).pt (qss_one (qs_ret qe_bl)) qss_nil)
   (qss_cons (qs_for PassesOwn.never rfl (qi_range3 (by rfl) T.n_range (qa_3 (qv 3) (qe_un un_neg qe_int) (qe_un un_neg qe_int))) (qg_name (i:=7) sc_law.nd rfl (Or.inl rfl)) (qss_cons (qs_if (qw_or (qt_not (qt_val (qe_g d__law_stands (qa_3 (qv 4) (qe_iS (qv 2) qe_int) (qe_iS (qe_iS (qv 6) (qv 7)) qe_int))))) (qw_or1 (qt_not (qt_val (qe_g d__law_stands (qa_3 (qv 4) (qe_iS (qv 2) qe_int) (qe_iS (qe_iS (qv 6) (qv 7)) qe_int))))))).pt (qss_one (qs_ret qe_bl)) qss_nil)
   (qss_one (qs_if (qw_and (qt_cmpR op_gt (qv 7) qe_int (nomark _)) (qw_and1 (qt_cmpR op_ne (qe_iS (qe_g d__law_back (qa_1 (qv 4))) qe_int) qe_str (nomark _)))).pt (qss_one (qs_ret qe_bl)) qss_nil))))
   (qss_cons (qs_for PassesOwn.never rfl (qi_range1 (by rfl) T.n_range (qa_1 qe_int)) (qg_name (i:=7) sc_law.nd rfl (Or.inl rfl)) (qss_one (qs_if (qt_cmpR op_ne (qe_iS (qe_g d__law_back (qa_1 (qv 4))) qe_int) qe_str (nomark _)) (qss_one (qs_ret qe_bl)) qss_nil)))
   (qss_cons (qs_if (qw_or (qt_cmpR (op_neD hr.units) (qe_g d__law_back (qa_1 (qv 4))) (qe_tup (qa_2 qe_str qe_non)) (nomark _)) (qw_or1 (qt_cmpR (op_neD hr.units) (qe_m0 d_Book_ships (qv 4) T.cl_Book hr.le pass0) (qe_lst qa_nil) (nomark _)))).pt (qss_one (qs_ret qe_bl)) qss_nil)
   (qss_cons (qs_for PassesOwn.never rfl (qi_range1 (by rfl) T.n_range (qa_1 (qe_op op_add (qv 3) qe_int))) (qg_name (i:=7) sc_law.nd rfl (Or.inl rfl)) (qss_one (qs_if (qt_cmpR op_ne (qe_iS (qe_g d__law_again (qa_1 (qv 4))) qe_int) qe_str (nomark _)) (qss_one (qs_ret qe_bl)) qss_nil)))
   (qss_cons (qs_if (qw_or (qt_cmpR (op_neD hr.units) (qe_g d__law_again (qa_1 (qv 4))) (qe_tup (qa_2 qe_str qe_non)) (nomark _)) (qw_or1 (qt_cmpR op_ne (qe_callB call_lenF (by rfl) T.n_len bt_len (qa_1 (qe_m0 d_Book_deeds (qv 4) T.cl_Book hr.le pass0))) (qe_op op_add (qv 3) qe_int) (nomark _)))).pt (qss_one (qs_ret qe_bl)) qss_nil)
   (qss_one (qs_ret (qe_and (qe_g d__law_stands (qa_3 (qv 4) (qe_iS (qv 2) qe_int) (qe_iS (qe_iS (qv 6) (qv 3)) qe_int))) (qe_one (qe_g d__law_stands (qa_3 (qv 4) (qe_iS (qv 2) qe_int) (qe_iS (qe_iS (qv 6) (qv 3)) qe_int)))))))))))))))))))),?_⟩
 k_extra "rx"
 refine⟨a,ns,rfl,hS,hl,fun B L H1 s1 nB b1=>?_⟩
 clear s1 nB hS hl
 k_extra "rx"
 refine⟨B,L,rfl,b1,fun F z0 z1 z2 z3 H2 hF nz0 nz1 ne b2 _ _=>?_⟩
 clear b1
 refine i_gName ?_
 k_extra "rx"
 refine i_NewO (Nat.le_of_ble_eq_true rfl) fun P1 H3 hP s3 hP3=>?_
 have b3:=b2.keep s3
 have hF3:=s3 _ _ hF
 have FB:∀{H:Hp},BagAt H B L→H F=some (.lst [.str z0,.str z1,.str z2,.str z3])→F≠B:=fun b h z=>by
  obtain⟨_,_,_,_,e,_⟩:=b
  rw[← z,h] at e
  cases e
 have PB:P1≠B:=b2.ne hP
 clear b2 hF s3 hP
 k_extra "rx"
 refine⟨B,_,L,rfl,b3,by decide,by decide,fun k H4 k0 k1 b4 f4=>?_⟩
 have hF4:=f4 _ _ (FB b3 hF3) hF3
 have hP4:=f4 _ _ PB hP3
 clear b3 hF3 hP3 f4
 obtain⟨mx,hmx,m1,m2⟩:∃ mx:Int,atI [V.int 20,V.int 150] k=some (.int mx)∧1≤mx∧mx≤150:=by
  rcases (by omega:k=0∨k=1) with rfl | rfl
  ·exact⟨20,rfl,by decide,by decide⟩
  ·exact⟨150,rfl,by decide,by decide⟩
 refine⟨P1,_,k,_,rfl,rfl,seqAt_lst hP4,hmx,?_⟩
 k_extra "rx"
 refine⟨B,_,L,rfl,b4,by omega,.of (Nat.lt_of_lt_of_le (by omega:mx.natAbs < 2 ^ 8) (Nat.pow_le_pow_right (by decide) (by decide))),fun mm H5 mm0 mm1 b5 f5=>?_⟩
 have hF5:=f5 _ _ (FB b4 hF4) hF4
 clear b4 hF4 hP4 f5 hmx k0 k1 PB
 obtain⟨many,rfl⟩:∃ n:Nat,mm=(n:Int):=⟨mm.toNat,by omega⟩
 have hm:many < 150:=by omega
 clear mm0 mm1 m1 m2
 k_extra "rx"
 rw[show (1+(many:Int))=((many+1:Nat):Int) by omega]
 obtain⟨N,hN⟩:∃ N,N=many+1:=⟨_,rfl⟩
 rw[← hN]
 have N1:1≤N:=by omega
 have N2:N≤150:=by omega
 clear hN hm many
 intro b dx hb hdx ndx
 have s6:Same H5 (upd (upd H5 dx (.own b)) b (.ins (cx "Book") dx [])):=(Same.new hdx).trans (Same.new (by rw[upd_ne ndx.symm];exact hb))
 refine⟨b,rfl,⟨dx,upd_same,rfl⟩,fun st un H6 st0 un0 nsu o6 hst hun f6=>⟨rfl,?_⟩⟩
 have s56:Same H5 H6:=fun c u hc=>f6 _ _ (fun z=>by rw[z,hb] at hc;cases hc) (s6 _ _ hc)
 have x0:Lw K (cx "Book") (cx "Ship") (cx "Debt") B L F [z0,z1,z2,z3] b st un [] [] H6:=by
  refine⟨b5.keep s56,s56 _ _ hF5,⟨o6,nsu,⟨[],hst,rfl,fun i s h=>by simp at h⟩,⟨[],hun,rfl,fun i s h=>by simp at h⟩⟩,fun z=>?_,fun z=>?_,(fun s h=>by cases h),fun s h=>by cases h⟩
  ·obtain⟨_,_,_,_,_,g,_⟩:=b5.ex
   rw[z,s6.free st0] at g
   cases g
  ·obtain⟨_,_,_,_,_,g,_⟩:=b5.ex
   rw[z,s6.free un0] at g
   cases g
 clear s6 s56 b5 hF5 st0 un0 nsu o6 hst hun f6 hb hdx ndx FB dx
 refine i_gName ?_
 k_extra "rx"
 refine i_forIt ?_
 refine i_tSl ?_
 k_extra "rx"
 refine⟨2,rfl,F,_,rfl,SqL.of x0.f,fun P2 hP2=>?_⟩
 have x1:=x0.same (Same.new (o:=.lst (cutV ([z0,z1,z2,z3].map V.str) none (some 2))) hP2)
 have hP3:upd H6 P2 (.lst (cutV ([z0,z1,z2,z3].map V.str) none (some 2))) P2=some (.lst ([z0,z1].map V.str)):=upd_same
 generalize upd H6 P2 (.lst (cutV ([z0,z1,z2,z3].map V.str) none (some 2)))=H7 at x1 hP3 ⊢
 clear x0 hP2
 refine⟨P2,rfl,⟨_,SqL.of hP3⟩,for_listN (K:=K) (a:=P2) (xs:=[z0,z1].map V.str) (fun i σ H=>∃ v5 un ss,σ=[some (.ref a),some (.ref B),some (.ref F),some (.int (N:Int)),some (.ref b),v5,none,none,none,none]∧Lw K (cx "Book") (cx "Ship") (cx "Debt") B L F [z0,z1,z2,z3] b st un ss [] H∧H P2=some (.lst ([z0,z1].map V.str))∧Pr4 z0 z1 i ss) ⟨_,un,[],rfl,x1,hP3,rfl,L1_n,rfl,fun s h=>by cases h⟩ (fun i σ H _ ⟨_,_,_,_,_,h,_⟩=>SqL.of h) ?_ ?_⟩
 ·rintro i x σ H8 NN BB hx ⟨v5,un1,ss,rfl,x8,hp8,p4⟩ kN kB
  clear kB x1 hP3
  obtain⟨z,hz,rfl⟩:∃ z,([z0,z1]:List Str)[i]?=some z∧x=.str z:=by
   rw[List.getElem?_map] at hx
   cases k:([z0,z1]:List Str)[i]? with
   | none=>rw[k] at hx;cases hx
   | some z=>rw[k] at hx;cases hx;exact⟨z,rfl,rfl⟩
  have nz:nameB z=true:=by
   rcases List.mem_cons.mp (List.mem_of_getElem? hz) with rfl | h
   ·exact nz0
   ·rw[List.mem_singleton.mp h];exact nz1
  obtain⟨i2,tz,tu⟩:=p4.go ne hz
  refine i_gName ?_
  k_extra "rx"
  refine i_meth x8.bk.o (by decide +kernel) ?_
  k_extra "rx"
  refine i_NewO (Nat.le_of_ble_eq_true rfl) fun d H9 hd s9 hd9=>?_
  have x9:=x8.same s9
  have hp9:=s9 _ _ hp8
  clear x8 hp8 s9 hd
  k_extra "rx"
  refine⟨b,st,un1,d,ss,[],_,z,_,shO,rfl,x9.bk,hd9,by rw[p4.m];omega,by rw[p4.l];omega,.inl ⟨rfl,tz,by rw[p4.m];omega,nz,by decide,by decide,rfl⟩,fun un2 HA bA xA nA=>?_⟩
  have x10:=x9.book xA bA (x9.new nA) (x9.n1.snoc rfl) (fun s h=>by cases h)
  have hpA:=xA _ _ (x9.bk.out str_alien hp9) hp9
  clear x9 hp9 bA xA nA hd9
  k_extra "rx"
  refine i_meth x10.bk.o (by decide +kernel) ?_
  k_extra "rx"
  refine i_NewO (Nat.le_of_ble_eq_true rfl) fun d' HB hd' sB hdB=>?_
  have x11:=x10.same sB
  have hpB:=sB _ _ hpA
  clear x10 hpA sB hd'
  k_extra "rx"
  have tA:=top_snoc ss ⟨Str.ofString "out", z,100,upL (topL ss) z shO,if topL ss z=none then topM ss+1 else topM ss⟩
  have tM:topM (ss++[⟨Str.ofString "out", z,100,upL (topL ss) z shO,if topL ss z=none then topM ss+1 else topM ss⟩])=i+1:=by
   rw[tA.2,if_pos tz,p4.m]
  have tN:topL (ss++[⟨Str.ofString "out", z,100,upL (topL ss) z shO,if topL ss z=none then topM ss+1 else topM ss⟩]) z=some shO:=by
   rw[tA.1];exact upL_at
  refine⟨b,st,un2,d',_,[],_,z,_,shW 0,rfl,x11.bk,hdB,by rw[tM];omega,by rw[List.length_append,p4.l];show 2*i+1 < 900;omega,.inr (.inl ⟨shO,rfl,tN,rfl,by decide,by decide,by decide,rfl⟩),fun un3 HC bC xC nC=>?_⟩
  have x12:=x11.book xC bC (x11.new nC) (x11.n1.snoc rfl) (fun s h=>by cases h)
  have hpC:=xC _ _ (x11.bk.out str_alien hpB) hpB
  refine kN _ _ ⟨_,_,_,rfl,x12,hpC,?_⟩
  have tB:=top_snoc (ss++[⟨Str.ofString "out", z,100,upL (topL ss) z shO,if topL ss z=none then topM ss+1 else topM ss⟩]) ⟨Str.ofString "hire", z,7,upL (topL (ss++[⟨Str.ofString "out", z,100,upL (topL ss) z shO,if topL ss z=none then topM ss+1 else topM ss⟩])) z (shW 0),if topL (ss++[⟨Str.ofString "out", z,100,upL (topL ss) z shO,if topL ss z=none then topM ss+1 else topM ss⟩]) z=none then topM (ss++[⟨Str.ofString "out", z,100,upL (topL ss) z shO,if topL ss z=none then topM ss+1 else topM ss⟩])+1 else topM (ss++[⟨Str.ofString "out", z,100,upL (topL ss) z shO,if topL ss z=none then topM ss+1 else topM ss⟩])⟩
  refine⟨by rw[List.length_append,List.length_append,p4.l];show 2*i+1+1=2*(i+1);omega,?_,?_,fun s hs=>?_⟩
  ·rw[tB.1]
   show upL _ z (shW 0)=_
   rw[tA.1]
   show upL (upL (topL ss) z shO) z (shW 0)=_
   rw[upL_up,tu]
  ·rw[tB.2]
   show (if _ then _ else _)=_
   rw[tN,if_neg (by intro h;cases h),tM]
  ·rcases List.mem_append.mp hs with hs | hs
   ·rcases List.mem_append.mp hs with hs | hs
    ·exact p4.ok s hs
    ·rw[List.mem_singleton.mp hs]
     exact okS_mk w_out nz (by decide) (by decide)
   ·rw[List.mem_singleton.mp hs]
    exact okS_mk w_hire nz (by decide) (by decide)
 ·rintro σ H8 ⟨v5,un1,ss,rfl,x8,_,p4⟩
  have sl:=p4.sl x8.n1
  clear p4 x1 hP3 un
  dsimp only
  k_extra "rx"
  refine i_NewO (Nat.le_of_ble_eq_true rfl) fun t0 H9 ht0 s9 ht9=>?_
  k_extra "rx"
  refine i_NewO (Nat.le_of_ble_eq_true rfl) fun D HA hD sA hDA=>?_
  have y0:Dy HA D [(0,0)]:=⟨by decide,_,hDA,rfl,fun i p hp=>by
   cases i with
   | zero=>cases hp;exact⟨t0,rfl,sA _ _ ht9⟩
   | succ k=>simp at hp⟩
  have xA:=x8.same (s9.trans sA)
  clear x8 s9 sA ht0 ht9 hD hDA
  refine i_gName ?_
  k_extra "rx"
  refine⟨_,rfl,(N:Int),rfl,by omega,by omega,for_rangeN (lo:=0) (n:=N) (fun j σ H=>∃ v7 v8 v9 un ss dv,σ=[some (.ref a),some (.ref B),some (.ref F),some (.int (N:Int)),some (.ref b),v5,some (.ref D),v7,v8,v9]∧Lw K (cx "Book") (cx "Ship") (cx "Debt") B L F [z0,z1,z2,z3] b st un ss [] H∧Dy H D dv∧Sl z0 z1 ss dv∧dv.length=j+1) ⟨_,_,_,un1,ss,_,rfl,xA,y0,sl,rfl⟩ ?_ ?_⟩
  ·clear sl y0 xA ss un1
   rintro j σ H1 NN BB hj ⟨v7,v8,v9,un,ss,dv,rfl,x,y,sl,dl⟩ kN kB
   clear kB
   refine i_gName ?_
   k_extra "rx"
   refine⟨B,_,L,rfl,x.bag,by decide,by decide,fun q H2 q0 q1 b2 f2=>?_⟩
   have x2:=x.pull f2 b2
   have y2:=y.pull x.bag f2
   clear x y f2 b2
   k_extra "rx"
   refine⟨rfl,?_⟩
   refine .inr ⟨_,rfl,?_⟩
   obtain⟨at',hat,eat⟩:∃ at':Int,(at'=0∨at'=1)∧(if decide (V.int q=V.int 0)=true then (1:Int) else 0)=at':=⟨_,by split<;>simp,rfl⟩
   rw[eat]
   clear eat q0 q1
   refine i_gName ?_
   k_extra "rx"
   refine⟨B,_,L,rfl,x2.bag,by decide,by decide,fun q H3 q0 q1 b3 f3=>?_⟩
   have x3:=x2.pull f3 b3
   have y3:=y2.pull x2.bag f3
   clear x2 y2 f3 b3
   k_extra "rx"
   refine i_meth x3.bk.o (by decide +kernel) ?_
   obtain⟨p,hp⟩:∃ p,dv[j]?=some p:=⟨_,List.getElem?_eq_getElem (by omega)⟩
   obtain⟨tL,tM⟩:=sl.end dl hp
   obtain⟨z,t,hz,nz,lz,uz⟩:=sail_to ne nz0 nz1 (zs:=[z2,z3]) (md:=1+q) (a:=p.1) (c:=p.2) hat
   k_extra "rx"
   refine⟨F,_,_,_,rfl,rfl,seqAt_lst x3.f,hz,?_⟩
   k_extra "rx"
   refine i_NewO (Nat.le_of_ble_eq_true rfl) fun d H4 hd s4 hd4=>?_
   have x4:=x3.same s4
   have y4:=y3.same s4
   clear x3 y3 s4 hd
   k_extra "rx"
   have sL:=sl.l
   refine⟨b,st,un,d,ss,[],_,z,_,shW (t+(1+q)),rfl,x4.bk,hd4,by rw[tM];decide,by omega,.inr (.inr ⟨shW t,rfl,by rw[tL];exact lz,rfl,by omega,by omega,rfl⟩),fun un2 H5 b5 x5' n5=>?_⟩
   have x5:=x4.book x5' b5 (x4.new n5) (x4.n1.snoc rfl) (fun s h=>by cases h)
   have y5:=y4.book x4 x5'
   clear x4 y4 b5 x5' n5 hd4
   obtain⟨_,xs,hD5,xl,hd5⟩:=id y5
   obtain⟨t',et,ht5⟩:=hd5 j p hp
   have atE:atI xs (-1)=some (.ref t'):=at_end (by omega) (by rw[xl,dl];exact et)
   have zq:Sz 100 (1+q):=.of (Nat.lt_of_lt_of_le (by omega:(1+q).natAbs < 2 ^ 20) (by decide))
   have za:Sz 100 at':=.of (Nat.lt_of_lt_of_le (by omega:at'.natAbs < 2 ^ 20) (by decide))
   have zb:Sz 100 (1 - at'):=.of (Nat.lt_of_lt_of_le (by omega:(1 - at').natAbs < 2 ^ 20) (by decide))
   have om1:IntMulOk (1+q) (1 - at'):=zq.ok zb (by decide)
   have om2:IntMulOk (1+q) at':=zq.ok za (by decide)
   k_extra "rx"
   refine i_tBM ?_
   k_extra "rx"
   refine⟨.inl ⟨rfl,_,SqL.of hD5⟩,?_⟩
   k_extra "rx"
   refine i_NewO (Nat.le_of_ble_eq_true rfl) fun r H6 hr6 s6 hr'=>?_
   have x6:=x5.same s6
   have y6:=y5.same s6
   have hD6:=s6 _ _ hD5
   clear x5 y5 hD5 s6 hr6 hd5 ht5 om1 om2 za zb zq
   k_extra "rx"
   refine⟨D,xs,_,rfl,rfl,hD6,Nat.lt_of_lt_of_le (by omega:xs.length < 1000) (by decide),?_⟩
   obtain⟨y7,x7⟩:=y6.put x6 (p:=(p.1+(1+q)*(1 - at'),p.2+(1+q)*at')) hD6 hr'
   refine kN _ _ ⟨_,_,_,un2,_,_,rfl,x7,y7,sl.snoc (by show upL _ z _=_;rw[tL];exact uz) (by show (if _ then _ else _)=_;rw[tL,lz,if_neg (by intro h;cases h),tM]) (okS_mk w_sail nz (by omega) (by omega)) ?_,by rw[List.length_append,dl];rfl⟩
   obtain⟨c1,c2,c3,c4⟩:=sl.b j p hp
   rw[dl]
   rcases hat with rfl | rfl
   ·show 0≤p.1+(1+q)*(1 - 0)∧p.1+(1+q)*(1 - 0)≤1000*((j+1:Nat):Int)∧0≤p.2+(1+q)*0∧p.2+(1+q)*0≤1000*((j+1:Nat):Int)
    omega
   ·show 0≤p.1+(1+q)*(1 - 1)∧p.1+(1+q)*(1 - 1)≤1000*((j+1:Nat):Int)∧0≤p.2+(1+q)*1∧p.2+(1+q)*1≤1000*((j+1:Nat):Int)
    omega
  ·clear sl y0 xA ss un1
   rintro σ H1 ⟨v7,v8,v9,un,ss,dv,rfl,x,y,sl,dl⟩
   dsimp only
   have sL:=sl.l
   k_extra "rx"
   refine i_meth x.bk.o (by decide +kernel) ?_
   k_extra "rx"
   refine⟨b,st,un,ss,[],rfl,x.bk,by omega,fun G ds H2 s2 hG dsl _=>?_⟩
   have x2:=x.same s2
   have y2:=y.same s2
   clear x y s2
   k_extra "rx"
   refine⟨rfl,?_⟩
   rw[show ((ds.length:Nat):Int)=(N:Int)+4 by omega,decide_eq_true rfl]
   refine⟨_,rfl,i_brkF ?_⟩
   clear hG dsl
   k_extra "rx"
   refine i_tBM ?_
   k_extra "rx"
   refine⟨b,st,un,ss,[],rfl,x2.bk,by omega,sl.ok,fun tx H3 s3 tl ts=>?_⟩
   have x3:=x2.same s3
   have y3:=y2.same s3
   clear x2 y2 s3
   refine⟨rfl,?_⟩
   k_extra "rx"
   refine⟨tx,_,rfl,rfl,rfl,tl,fun G hG=>?_⟩
   have s4:=Same.new (o:=.lst ((Txt.split tx (Str.ofString "\n")).map V.str)) hG
   have hG4:upd H3 G (.lst ((Txt.split tx (Str.ofString "\n")).map V.str)) G=_:=upd_same
   generalize upd H3 G (.lst ((Txt.split tx (Str.ofString "\n")).map V.str))=H4 at s4 hG4 ⊢
   have x4:=x3.same s4
   have y4:=y3.same s4
   clear x3 y3 s4 hG tl
   k_extra "rx"
   refine⟨rfl,?_⟩
   rw[show (((Txt.split tx (Str.ofString "\n")).map V.str).length:Int)=(N:Int)+5 by rw[List.length_map,ts];omega,decide_eq_true rfl]
   refine⟨_,rfl,i_brkF ?_⟩
   refine i_tNext ?_
   clear hG4 ts
   k_extra "rx"
   refine i_forD (hi:=(N:Int)) (lo:=-1) (n:=N+1) (fun R h=>⟨_,rfl,1,rfl,1,rfl,h⟩) ⟨by omega,by omega,by decide,by decide⟩ (by omega) ?_
   refine for_rangeD (hi:=(N:Int)) (n:=N+1) (fun i σ H=>∃ v7,σ=[some (.ref a),some (.ref B),some (.ref F),some (.int (N:Int)),some (.ref b),v5,some (.ref D),v7,v8,v9]∧Lw K (cx "Book") (cx "Ship") (cx "Debt") B L F [z0,z1,z2,z3] b st un (ss.take (N - i+4)) (ss.drop (N - i+4)).reverse H∧Dy H D dv) ⟨_,rfl,by rw[List.take_of_length_le (by omega),List.drop_of_length_le (by omega)];exact x4,y4⟩ ?_ ?_
   ·clear x4 y4
    rintro i σ H5 NN BB hi ⟨v7,rfl,x,y⟩ kN kB
    clear kB
    obtain⟨k,hk⟩:∃ k,k=N - i:=⟨_,rfl⟩
    rw[show (N:Int) - (i:Int)=(k:Int) by omega]
    rw[← hk] at x
    obtain⟨p,hp⟩:∃ p,dv[k]?=some p:=⟨_,List.getElem?_eq_getElem (by omega)⟩
    obtain⟨tL,_⟩:=sl.topL hp
    obtain⟨c1,c2,c3,c4⟩:=sl.b k p hp
    obtain⟨_,xs,hD5,xl,hd5⟩:=id y
    obtain⟨t',et,ht5⟩:=hd5 k p hp
    have atE:atI xs (k:Int)=some (.ref t'):=atI_nat et
    have xf:=x.f
    refine i_gName ?_
    k_extra "rx"
    refine⟨b,st,un,_,_,z0,shW p.1,1,rfl,x.bk,by rw[tL];exact L1_0,rfl,c1,.of (Nat.lt_of_lt_of_le (by show p.1.natAbs < 2 ^ 20;omega) (by decide)),fun H6 s6=>?_⟩
    have x6:=x.same s6
    have y6:=y.same s6
    have hD6:=s6 _ _ hD5
    have ht6:=s6 _ _ ht5
    have xf6:=x6.f
    clear x y s6 hD5 ht5 hd5 xf
    refine⟨_,rfl,i_brkF ?_⟩
    k_extra "rx"
    refine⟨b,st,un,_,_,z1,shW p.2,1,rfl,x6.bk,by rw[tL];exact L1_1 ne,rfl,c3,.of (Nat.lt_of_lt_of_le (by show p.2.natAbs < 2 ^ 20;omega) (by decide)),fun H7 s7=>?_⟩
    have x7:=x6.same s7
    have y7:=y6.same s7
    clear x6 y6 s7 hD6 ht6 xf6 atE et
    refine⟨_,rfl,i_brkF ?_⟩
    refine i_tNext ?_
    k_extra "rx"
    by_cases k0:k=0
    ·rw[decide_eq_false (by omega)]
     refine i_brkF ?_
     refine i_tNext ?_
     refine kN _ _ ⟨_,rfl,?_,y7⟩
     rw[show N - (i+1)=k by omega]
     exact x7
    ·rw[decide_eq_true (by omega)]
     refine i_brkT ?_
     k_extra "rx"
     refine⟨b,st,un,_,_,rfl,x7.bk,by rw[List.length_reverse,List.length_take,List.length_drop];omega,fun e=>?_,fun rs s T d H8 e b8 f8 hT=>?_⟩
     ·have:=congrArg List.length e
      rw[List.length_take] at this
      exact absurd this (by show ¬ min (k+4) ss.length=0;omega)
     ·obtain⟨k',rfl⟩:∃ k',k=k'+1:=⟨k - 1,by omega⟩
      obtain⟨rfl,e2⟩:=tk_back (by omega:k'+4 < ss.length) (by rw[show k'+4+1=k'+1+4 by omega];exact e)
      rw[show k'+4+1=k'+1+4 by omega] at e2
      rw[e2] at b8
      have x8:=x7.book f8 b8 x7.l2 (sl.la.take _) (sl.la.drop _)
      have y8:=y7.book x7 f8
      k_extra "rx"
      refine⟨rfl,?_⟩
      rw[decide_eq_true rfl]
      refine⟨_,rfl,i_brkF ?_⟩
      refine i_tNext ?_
      refine kN _ _ ⟨_,rfl,?_,y8⟩
      rw[show N - (i+1)=k' by omega]
      exact x8
   ·rintro σ H5 ⟨v7',rfl,x,y⟩
    rw[show N - (N+1)=0 by omega,Nat.zero_add] at x
    clear x4 y4
    dsimp only
    k_extra "rx"
    refine⟨4,rfl,by decide,by decide,for_rangeN (lo:=0) (n:=4) (fun i σ H=>∃ v7,σ=[some (.ref a),some (.ref B),some (.ref F),some (.int (N:Int)),some (.ref b),v5,some (.ref D),v7,v8,v9]∧Lw K (cx "Book") (cx "Ship") (cx "Debt") B L F [z0,z1,z2,z3] b st un (ss.take (4 - i)) (ss.drop (4 - i)).reverse H∧Dy H D dv) ⟨_,rfl,x,y⟩ ?_ ?_⟩
    ·clear x y
     rintro i σ H6 NN BB hi ⟨v7,rfl,x,y⟩ kN kB
     clear kB
     obtain⟨k,hk⟩:∃ k,4 - i=k+1:=⟨3 - i,by omega⟩
     rw[hk] at x
     refine i_gName ?_
     k_extra "rx"
     refine⟨b,st,un,_,_,rfl,x.bk,by rw[List.length_reverse,List.length_take,List.length_drop];omega,fun e=>?_,fun rs s T d H8 e b8 f8 hT=>?_⟩
     ·have:=congrArg List.length e
      rw[List.length_take] at this
      exact absurd this (by show ¬ min (k+1) ss.length=0;omega)
     ·obtain⟨rfl,e2⟩:=tk_back (by omega:k < ss.length) e
      rw[e2] at b8
      have x8:=x.book f8 b8 x.l2 (sl.la.take _) (sl.la.drop _)
      have y8:=y.book x f8
      k_extra "rx"
      refine⟨rfl,?_⟩
      rw[decide_eq_true rfl]
      refine⟨_,rfl,i_brkF ?_⟩
      refine i_tNext ?_
      refine kN _ _ ⟨_,rfl,?_,y8⟩
      rw[show 4 - (i+1)=k by omega]
      exact x8
    ·clear x y
     rintro σ H6 ⟨v7,rfl,x,y⟩
     rw[show 4 - 4=0 from rfl] at x
     dsimp only
     k_extra "rx"
     refine⟨b,st,un,_,_,rfl,x.bk,by rw[List.length_reverse,List.length_take,List.length_drop];omega,fun e T H7 s7 hT=>?_,fun rs s T d H8 e b8 f8 hT=>?_⟩
     ·have x7:=x.same s7
      have y7:=y.same s7
      clear x y s7
      k_extra "rx"
      refine i_NewO (Nat.le_of_ble_eq_true rfl) fun u H8 hu s8 hu8=>?_
      refine⟨nbD,nbD,nb_den (s8 _ _ hT),nb_den hu8,nb_cmp,?_⟩
      rw[dec_rfl]
      have x8:=x7.same s8
      have y8:=y7.same s8
      clear x7 y7 hT hu hu8 s8
      refine⟨_,rfl,i_brkF ?_⟩
      k_extra "rx"
      refine i_meth x8.bk.o (by decide +kernel) ?_
      k_extra "rx"
      have e0:ss.take 0=[]:=rfl
      rw[e0] at x8
      refine⟨b,st,un,_,rfl,x8.bk,fun G H9 s9 hG=>?_⟩
      have x9:=x8.same s9
      have y9:=y8.same s9
      clear x8 y8 s9
      k_extra "rx"
      refine i_NewO (Nat.le_of_ble_eq_true rfl) fun u H10 hu s10 hu10=>?_
      refine⟨.lst [],.lst [],den_lst (s10 _ _ hG) dens0,den_lst hu10 dens0,em_cmp,?_⟩
      rw[dec_rfl]
      have x10:=x9.same s10
      have y10:=y9.same s10
      clear x9 y9 hG hu hu10 s10 e
      refine⟨_,rfl,i_brkF ?_⟩
      refine i_tNext ?_
      k_extra "rx"
      refine⟨_,rfl,(N:Int),4,rfl,rfl,(N:Int)+4,rfl,by omega,by omega,for_rangeN (lo:=0) (n:=N+4) (fun i σ H=>∃ v7,σ=[some (.ref a),some (.ref B),some (.ref F),some (.int (N:Int)),some (.ref b),v5,some (.ref D),v7,v8,v9]∧Lw K (cx "Book") (cx "Ship") (cx "Debt") B L F [z0,z1,z2,z3] b st un (ss.take i) (ss.drop i).reverse H∧Dy H D dv) ⟨_,rfl,x10,y10⟩ ?_ ?_⟩
      ·clear x10 y10
       rintro i σ H6 NN BB hi ⟨v7,rfl,x,y⟩ kN kB
       clear kB
       refine i_gName ?_
       k_extra "rx"
       refine⟨b,st,un,_,_,rfl,x.bk,by rw[List.length_reverse,List.length_take,List.length_drop];omega,fun e=>?_,fun rs s T d H8 e b8 f8 hT=>?_⟩
       ·have:=congrArg List.length e
        rw[List.length_reverse,List.length_drop] at this
        exact absurd this (by show ¬ ss.length - i=0;omega)
       ·obtain⟨rfl,e2⟩:=tk_again (by omega:i < ss.length) e
        rw[e2] at b8
        have x8:=x.book f8 b8 x.l2 (sl.la.take _) (sl.la.drop _)
        have y8:=y.book x f8
        k_extra "rx"
        refine⟨rfl,?_⟩
        rw[decide_eq_true rfl]
        refine⟨_,rfl,i_brkF ?_⟩
        refine i_tNext ?_
        exact kN _ _ ⟨_,rfl,x8,y8⟩
      ·clear x10 y10
       rintro σ H6 ⟨v7,rfl,x,y⟩
       rw[List.take_of_length_le (by omega),List.drop_of_length_le (by omega)] at x
       dsimp only
       k_extra "rx"
       refine⟨b,st,un,_,_,rfl,x.bk,by show ss.length+0≤500;omega,fun e T H7 s7 hT=>?_,fun rs s T d H8 e b8 f8 hT=>?_⟩
       ·have x7:=x.same s7
        have y7:=y.same s7
        clear x y s7
        k_extra "rx"
        refine i_NewO (Nat.le_of_ble_eq_true rfl) fun u H8 hu s8 hu8=>?_
        refine⟨nbD,nbD,nb_den (s8 _ _ hT),nb_den hu8,nb_cmp,?_⟩
        rw[dec_rfl]
        have x8:=x7.same s8
        have y8:=y7.same s8
        clear x7 y7 hT hu hu8 s8
        refine⟨_,rfl,i_brkF ?_⟩
        k_extra "rx"
        refine i_meth x8.bk.o (by decide +kernel) ?_
        k_extra "rx"
        refine⟨b,st,un,ss,[],rfl,x8.bk,by omega,fun G ds H9 s9 hG dsl _=>?_⟩
        have x:=x8.same s9
        have y:=y8.same s9
        clear x8 y8 s9
        k_extra "rx"
        refine⟨rfl,?_⟩
        rw[show ((ds.length:Nat):Int)=(N:Int)+4 by omega,decide_eq_true rfl]
        refine⟨_,rfl,i_brkF ?_⟩
        refine i_tNext ?_
        clear hG dsl
        obtain⟨p,hp⟩:∃ p,dv[N]?=some p:=⟨_,List.getElem?_eq_getElem (by omega)⟩
        obtain⟨tL,_⟩:=sl.end dl hp
        obtain⟨c1,c2,c3,c4⟩:=sl.b N p hp
        obtain⟨_,xs,hD5,xl,hd5⟩:=id y
        obtain⟨t',et,ht5⟩:=hd5 N p hp
        have atE:atI xs (N:Int)=some (.ref t'):=atI_nat et
        have xf:=x.f
        k_extra "rx"
        refine i_tAndV ?_
        k_extra "rx"
        refine⟨b,st,un,_,_,z0,shW p.1,1,rfl,x.bk,by rw[tL];exact L1_0,rfl,c1,.of (Nat.lt_of_lt_of_le (by show p.1.natAbs < 2 ^ 20;omega) (by decide)),fun H6 s6=>?_⟩
        have x6:=x.same s6
        have hD6:=s6 _ _ hD5
        have ht6:=s6 _ _ ht5
        have xf6:=x6.f
        clear x y s6 hD5 ht5 hd5 xf
        refine⟨_,rfl,i_brkT ?_⟩
        k_extra "rx"
        refine⟨b,st,un,_,_,z1,shW p.2,1,rfl,x6.bk,by rw[tL];exact L1_1 ne,rfl,c3,.of (Nat.lt_of_lt_of_le (by show p.2.natAbs < 2 ^ 20;omega) (by decide)),fun H7 s7=>?_⟩
        show Q (.bl true) H7
        rw[hQt]
        trivial
       ·simp at e
     ·have:=congrArg List.length e
      rw[List.length_append] at this
      simp at this
def FnA(K:PySem.W.Frag)(x:Str)(s:Stmt):Prop:=∃ f fd,Fun K x x s f fd∧PySem.W.nsIn K mainGlobals x=some (some (.ref f))
end
theorem FnA.mk{K:PySem.W.Frag}{x:Str}{s:Stmt}{f:Addr}{oc:Value}{od:Option Addr}{kV dc pm:Value}{an:Option Addr}{cd ct:Value}{sl:Array (Option Value)}(a:PySem.W.nsIn K mainGlobals x=some (some (.ref f)))(l:K.lookup f=some ⟨oc,od,.func (PySem.W.fnOf x x (defArgs s) (defBody s) (defScope s) .none kV dc pm an cd ct),sl⟩)(c:PySem.W.codeIn K cd x=true)(k:PySem.W.keepIn K (.ref f)=true):FnA K x s:=⟨f,_,fun_mk (st:=s) l c k,a⟩
theorem FnA.def{K:PySem.W.Frag}{h:Heap}{mg:Str→Option Value}{x:Str}{s:Stmt}(a:FnA K x s)(X:K.In h)(G:h.Ns mainGlobals mg):∃ f fd,DefAt K mg x s f fd:=by
 obtain⟨f,fd,u,a⟩:=a
 exact⟨f,fd,u,PySem.W.mg_of X G a⟩
def MtA(K:PySem.W.Frag)(C:Addr)(m q:Str)(s:Stmt):Prop:=∃ f fd,MethAt K C m q s f fd
theorem MtA.mk{K:PySem.W.Frag}{C:Addr}{m q:Str}{s:Stmt}{f:Addr}{oc:Value}{od:Option Addr}{kV dc pm:Value}{an:Option Addr}{cd ct:Value}{sl:Array (Option Value)}(a:PySem.W.findIn K (.ref C) m=some (some (.ref f)))(i:PySem.W.isFn K (.ref f)=true)(l:K.lookup f=some ⟨oc,od,.func (PySem.W.fnOf m q (defArgs s) (defBody s) (defScope s) .none kV dc pm an cd ct),sl⟩)(c:PySem.W.codeIn K cd q=true)(k:PySem.W.keepIn K (.ref f)=true):MtA K C m q s:=⟨f,_,fun_mk (st:=s) l c k,a,i,k⟩
def InA(K:PySem.W.Frag)(C:Addr)(q:Str)(s:Stmt):Prop:=∃ f fd,Fun K "__init__" q s f fd∧Mk K C f
theorem InA.mk{K:PySem.W.Frag}{C:Addr}{q:Str}{s:Stmt}{f:Addr}{oc:Value}{od:Option Addr}{kV dc pm:Value}{an:Option Addr}{cd ct:Value}{sl:Array (Option Value)}(m:PySem.W.makesIn K C=true)(a:PySem.W.findIn K (.ref C) "__init__" = some (some (.ref f)))(i:PySem.W.isFn K (.ref f)=true)(kc:PySem.W.keepIn K (.ref C)=true)(l:K.lookup f=some ⟨oc,od,.func (PySem.W.fnOf "__init__" q (defArgs s) (defBody s) (defScope s) .none kV dc pm an cd ct),sl⟩)(c:PySem.W.codeIn K cd q=true)(k:PySem.W.keepIn K (.ref f)=true):InA K C q s:=⟨f,_,fun_mk (st:=s) l c k,m,a,i,kc⟩
theorem InA.at{K:PySem.W.Frag}{C:Addr}{q x:Str}{s:Stmt}{mg:Str→Option Value}(h:InA K C q s)(e:mg x=some (.ref C)):∃ f fd,InitAt K mg C x q s f fd:=by
 obtain⟨f,fd,u,m⟩:=h
 exact⟨f,fd,u,m,e⟩
theorem all_mk{l:PySem.W.OpenLaw}{w:World}{K:PySem.W.Frag}{h:Heap}{mg:Str→Option Value}{fa c0 e0 e1 e2:Addr}(X:K.In h)(G:h.Ns mainGlobals mg)(hfa:mg "law" = some (.ref fa))
  (ec0:PySem.W.nsIn K mainGlobals "Debt" = some (some (.ref e0))) (ep0:PySem.W.plainGet K e0 Str.empty=true) (ed0:PySem.W.hasDictIn K e0=true) (eo0:PySem.W.plainOver K e0=true) (es0:PySem.W.findIn K (.ref e0) "__setattr__" = some (some (.builtin "object.__setattr__")))
  (en0_0:PySem.W.findIn K (.ref e0) "number" = some none)
  (en0_1:PySem.W.findIn K (.ref e0) "word" = some none)
  (en0_2:PySem.W.findIn K (.ref e0) "moment" = some none)
  (en0_3:PySem.W.findIn K (.ref e0) "touched" = some none)
  (en0_4:PySem.W.findIn K (.ref e0) "terms" = some none)
  (ec1:PySem.W.nsIn K mainGlobals "Ship" = some (some (.ref e1))) (ep1:PySem.W.plainGet K e1 Str.empty=true) (ed1:PySem.W.hasDictIn K e1=true) (eo1:PySem.W.plainOver K e1=true) (es1:PySem.W.findIn K (.ref e1) "__setattr__" = some (some (.builtin "object.__setattr__")))
  (en1_0:PySem.W.findIn K (.ref e1) "away" = some none)
  (en1_1:PySem.W.findIn K (.ref e1) "today" = some none)
  (en1_2:PySem.W.findIn K (.ref e1) "voyage" = some none)
  (en1_3:PySem.W.findIn K (.ref e1) "funds" = some none)
  (en1_4:PySem.W.findIn K (.ref e1) "lots" = some none)
  (en1_5:PySem.W.findIn K (.ref e1) "debts" = some none)
  (en1_6:PySem.W.findIn K (.ref e1) "made" = some none)
  (en1_7:PySem.W.findIn K (.ref e1) "landed" = some none)
  (ec2:PySem.W.nsIn K mainGlobals "Book" = some (some (.ref e2))) (ep2:PySem.W.plainGet K e2 Str.empty=true) (ed2:PySem.W.hasDictIn K e2=true) (eo2:PySem.W.plainOver K e2=true) (es2:PySem.W.findIn K (.ref e2) "__setattr__" = some (some (.builtin "object.__setattr__")))
  (en2_0:PySem.W.findIn K (.ref e2) "steps" = some none)
  (en2_1:PySem.W.findIn K (.ref e2) "undone" = some none)
  (a0:FnA K "is_name" s_is_name)
  (a1:InA K e0 "Debt.__init__" s_Debt_init)
  (a2:MtA K e0 "due" "Debt.due" s_Debt_due)
  (a3:InA K e1 "Ship.__init__" s_Ship_init)
  (a4:MtA K e1 "copy" "Ship.copy" s_Ship_copy)
  (a5:MtA K e1 "claims" "Ship.claims" s_Ship_claims)
  (a6:MtA K e1 "go_out" "Ship.go_out" s_Ship_go_out)
  (a7:MtA K e1 "sail" "Ship.sail" s_Ship_sail)
  (a8:MtA K e1 "owe" "Ship.owe" s_Ship_owe)
  (a9:MtA K e1 "hire" "Ship.hire" s_Ship_hire)
  (a10:FnA K "is_from" s_is_from)
  (a11:FnA K "find" s_find)
  (a12:FnA K "find_at_sea" s_find_at_sea)
  (a13:FnA K "out" s_out)
  (a14:FnA K "sail" s_sail)
  (a15:FnA K "check_room" s_check_room)
  (a16:FnA K "hire" s_hire)
  (a17:FnA K "do_at_sea" s_do_at_sea)
  (a18:FnA K "ship_behind" s_ship_behind)
  (a19:FnA K "ships_behind" s_ships_behind)
  (a20:InA K e2 "Book.__init__" s_Book_init)
  (a21:MtA K e2 "fleet" "Book.fleet" s_Book_fleet)
  (a22:MtA K e2 "do" "Book.do" s_Book_do)
  (a23:MtA K e2 "back" "Book.back" s_Book_back)
  (a24:MtA K e2 "again" "Book.again" s_Book_again)
  (a25:MtA K e2 "deeds" "Book.deeds" s_Book_deeds)
  (a26:MtA K e2 "ships" "Book.ships" s_Book_ships)
  (a27:MtA K e2 "day" "Book.day" s_Book_day)
  (a28:MtA K e2 "claims" "Book.claims" s_Book_claims)
  (a29:FnA K "number_text" s_number_text)
  (a30:FnA K "heap_text" s_heap_text)
  (a31:FnA K "word_text" s_word_text)
  (a32:FnA K "deed_text" s_deed_text)
  (a33:FnA K "page_text" s_page_text)
  (a34:FnA K "_law_bag" s__law_bag)
  (a35:FnA K "_law_pull" s__law_pull)
  (a36:FnA K "_law_word" s__law_word)
  (a37:FnA K "_law_names" s__law_names)
  (a38:FnA K "_law_back" s__law_back)
  (a39:FnA K "_law_again" s__law_again)
  (a40:FnA K "_law_stands" s__law_stands)
  (a41:FnA K "law" s_law)
  {gu0:Addr} {gv0:Option Addr} {gn0:Nat} {gl0:Array (Option Value)} {gs0_0 gs0_1:Tok} (gx0:PySem.W.nsIn K mainGlobals "HULL_AND_FREIGHTS" = some (some (.ref gu0))) (gy0:K.lookup gu0=some ⟨.type "tuple", gv0,.seq #[.int 0 gs0_0,.int 1 gs0_1] gn0,gl0⟩)
  (x0:PySem.W.nsIn K mainGlobals "NoBack" = some (some (.ref c0))) (y0:PySem.W.excIn K c0 veTail "ValueError.__new__" = true)
  (z0:PySem.W.nsIn K mainGlobals "all" = some none)
  (z1:PySem.W.nsIn K mainGlobals "len" = some none)
  (z2:PySem.W.nsIn K mainGlobals "dict" = some none)
  (z3:PySem.W.nsIn K mainGlobals "list" = some none)
  (z4:PySem.W.nsIn K mainGlobals "str" = some none)
  (z5:PySem.W.nsIn K mainGlobals "abs" = some none)
  (z6:PySem.W.nsIn K mainGlobals "isinstance" = some none)
  (z7:PySem.W.nsIn K mainGlobals "tuple" = some none)
  (z8:PySem.W.nsIn K mainGlobals "range" = some none)
  (z9:PySem.W.nsIn K mainGlobals "int" = some none)
  {gt0:Tok} (u0:PySem.W.nsIn K mainGlobals "LETTERS" = some (some (.str "abcdefghijklmnopqrstuvwxyz" gt0)))
  {gi0:Tok} (v0:PySem.W.nsIn K mainGlobals "MOST_WORTH" = some (some (.int 1000000000 gi0)))
  {gi1:Tok} (v1:PySem.W.nsIn K mainGlobals "MOST_SHIPS" = some (some (.int 4 gi1)))
  {gi2:Tok} (v2:PySem.W.nsIn K mainGlobals "MOST_CLAIMS" = some (some (.int 10 gi2)))
  {gi3:Tok} (v3:PySem.W.nsIn K mainGlobals "MOST_WAGE" = some (some (.int 1000000 gi3)))
  {gi4:Tok} (v4:PySem.W.nsIn K mainGlobals "MOST_DAYS" = some (some (.int 1000 gi4)))
  : ∃ fd:FuncData,(∀(s:Shared)(v:Value),BindsTo s fd ⟨[v],[]⟩ [("_law_script", v)])∧∀ base:Heap,K.In base→base.Ns mainGlobals mg→FnOk l.prog w K mg base CX0 10 fa fd ["_law_script"] (sp_law K (fun _=>0)):=by
 obtain⟨_,_,D41⟩:=a41.def X G
 have e:=hfa.symm.trans D41.mg
 cases e
 obtain⟨oc,od,kV,dc,pm,an,cd,ct,sl,rfl,_,_⟩:=id D41.fn.ex
 obtain⟨cx,rfl,rfl,rfl,rfl⟩:∃ cx:Str→Addr,cx "NoBack" = c0∧cx "Debt" = e0∧cx "Ship" = e1∧cx "Book" = e2:=⟨fun x=>if x = "NoBack" then c0 else if x = "Debt" then e0 else if x = "Ship" then e1 else if x = "Book" then e2 else 0,if_pos rfl,(if_neg (by decide +kernel)).trans (if_pos rfl),(if_neg (by decide +kernel)).trans ((if_neg (by decide +kernel)).trans (if_pos rfl)),(if_neg (by decide +kernel)).trans ((if_neg (by decide +kernel)).trans ((if_neg (by decide +kernel)).trans (if_pos rfl)))⟩
 have T:Txt K mg cx:=⟨PySem.W.mg_none_of X G z0,PySem.W.mg_none_of X G z1,PySem.W.mg_none_of X G z2,PySem.W.mg_none_of X G z3,PySem.W.mg_none_of X G z4,PySem.W.mg_none_of X G z5,PySem.W.mg_none_of X G z6,PySem.W.mg_none_of X G z7,PySem.W.mg_none_of X G z8,PySem.W.mg_none_of X G z9,⟨PySem.W.mg_of X G x0,y0⟩,⟨ep0,ed0,eo0,es0⟩,⟨ep1,ed1,eo1,es1⟩,⟨ep2,ed2,eo2,es2⟩,en0_0,en0_1,en0_2,en0_3,en0_4,en1_0,en1_1,en1_2,en1_3,en1_4,en1_5,en1_6,en1_7,en2_0,en2_1,⟨_,PySem.W.mg_of X G gx0,_,_,_,gy0,rfl,rfl,by show 2≤sizeLine;decide,.cons ⟨_,rfl⟩ (.cons ⟨_,rfl⟩ (.nil))⟩,⟨_,PySem.W.mg_of X G u0⟩,⟨_,PySem.W.mg_of X G v0⟩,⟨_,PySem.W.mg_of X G v1⟩,⟨_,PySem.W.mg_of X G v2⟩,⟨_,PySem.W.mg_of X G v3⟩,⟨_,PySem.W.mg_of X G v4⟩⟩
 obtain⟨_,_,D0⟩:=a0.def X G
 obtain⟨_,_,D1⟩:=a1.at (PySem.W.mg_of X G ec0)
 obtain⟨_,_,D2⟩:=a2
 obtain⟨_,_,D3⟩:=a3.at (PySem.W.mg_of X G ec1)
 obtain⟨_,_,D4⟩:=a4
 obtain⟨_,_,D5⟩:=a5
 obtain⟨_,_,D6⟩:=a6
 obtain⟨_,_,D7⟩:=a7
 obtain⟨_,_,D8⟩:=a8
 obtain⟨_,_,D9⟩:=a9
 obtain⟨_,_,D10⟩:=a10.def X G
 obtain⟨_,_,D11⟩:=a11.def X G
 obtain⟨_,_,D12⟩:=a12.def X G
 obtain⟨_,_,D13⟩:=a13.def X G
 obtain⟨_,_,D14⟩:=a14.def X G
 obtain⟨_,_,D15⟩:=a15.def X G
 obtain⟨_,_,D16⟩:=a16.def X G
 obtain⟨_,_,D17⟩:=a17.def X G
 obtain⟨_,_,D18⟩:=a18.def X G
 obtain⟨_,_,D19⟩:=a19.def X G
 obtain⟨_,_,D20⟩:=a20.at (PySem.W.mg_of X G ec2)
 obtain⟨_,_,D21⟩:=a21
 obtain⟨_,_,D22⟩:=a22
 obtain⟨_,_,D23⟩:=a23
 obtain⟨_,_,D24⟩:=a24
 obtain⟨_,_,D25⟩:=a25
 obtain⟨_,_,D26⟩:=a26
 obtain⟨_,_,D27⟩:=a27
 obtain⟨_,_,D28⟩:=a28
 obtain⟨_,_,D29⟩:=a29.def X G
 obtain⟨_,_,D30⟩:=a30.def X G
 obtain⟨_,_,D31⟩:=a31.def X G
 obtain⟨_,_,D32⟩:=a32.def X G
 obtain⟨_,_,D33⟩:=a33.def X G
 obtain⟨_,_,D34⟩:=a34.def X G
 obtain⟨_,_,D35⟩:=a35.def X G
 obtain⟨_,_,D36⟩:=a36.def X G
 obtain⟨_,_,D37⟩:=a37.def X G
 obtain⟨_,_,D38⟩:=a38.def X G
 obtain⟨_,_,D39⟩:=a39.def X G
 obtain⟨_,_,D40⟩:=a40.def X G
 refine⟨PySem.W.fnOf "law" "law" (defArgs s_law) (defBody s_law) (defScope s_law) .none kV dc pm an cd ct,fun s v=>.of_eq rfl,fun base _ _=>?_⟩
 have d__law_bag:=ok__law_bag (P:=l.prog) (w:=w) (base:=base) D34 T
 have d__law_pull:=ok__law_pull (P:=l.prog) (w:=w) (base:=base) D35 T
 have d__law_word:=ok__law_word D36 T d__law_pull
 have d__law_names:=ok__law_names D37 T d__law_word d__law_pull
 have d_Book_init:=ok_Book_init (P:=l.prog) (w:=w) (base:=base) D20 T
 have d_Ship_init:=ok_Ship_init (P:=l.prog) (w:=w) (base:=base) D3 T
 have d_Ship_copy:=ok_Ship_copy D4 T d_Ship_init
 have d_Ship_sail:=ok_Ship_sail (P:=l.prog) (w:=w) (base:=base) D7 T
 have d_is_from:=ok_is_from (P:=l.prog) (w:=w) (base:=base) D10 T
 have d_sail:=ok_sail D14 T d_Ship_sail d_is_from
 have d_check_room:=ok_check_room (P:=l.prog) (w:=w) (base:=base) D15 T
 have d_Debt_init:=ok_Debt_init (P:=l.prog) (w:=w) (base:=base) D1 T
 have d_Ship_owe:=ok_Ship_owe D8 T d_Debt_init
 have d_Ship_hire:=ok_Ship_hire D9 T d_Ship_owe
 have d_hire:=ok_hire D16 T d_check_room d_Ship_hire d_is_from
 have d_do_at_sea:=ok_do_at_sea D17 T d_sail d_hire
 have d_Ship_go_out:=ok_Ship_go_out (P:=l.prog) (w:=w) (base:=base) D6 T
 have d_is_name:=ok_is_name (P:=l.prog) (w:=w) (base:=base) D0 T
 have d_out:=ok_out D13 T d_Ship_go_out d_is_name d_is_from d_Ship_copy d_Ship_init
 have d_find:=ok_find (P:=l.prog) (w:=w) (base:=base) D11 T
 have d_find_at_sea:=ok_find_at_sea D12 T d_find
 have d_ship_behind:=ok_ship_behind D18 T d_Ship_copy d_do_at_sea d_out d_find_at_sea d_find
 have d_ships_behind:=ok_ships_behind D19 T d_ship_behind
 have d_Book_fleet:=ok_Book_fleet (P:=l.prog) (w:=w) (base:=base) D21 T
 have d_Book_do:=ok_Book_do D22 T d_ships_behind d_Book_fleet
 have d_Debt_due:=ok_Debt_due (P:=l.prog) (w:=w) (base:=base) D2 T
 have d_Ship_claims:=ok_Ship_claims D5 T d_Debt_due
 have d_Book_claims:=ok_Book_claims D28 T d_Ship_claims d_find d_Book_fleet
 have d_Book_day:=ok_Book_day D27 T d_find d_Book_fleet
 have d__law_stands:=ok__law_stands D40 T d_Book_claims d_Book_day
 have d_Book_back:=ok_Book_back (P:=l.prog) (w:=w) (base:=base) D23 T
 have d__law_back:=ok__law_back D38 T d_Book_back
 have d_Book_ships:=ok_Book_ships D26 T d_Book_fleet
 have d_Book_again:=ok_Book_again (P:=l.prog) (w:=w) (base:=base) D24 T
 have d__law_again:=ok__law_again D39 T d_Book_again
 have d_Book_deeds:=ok_Book_deeds (P:=l.prog) (w:=w) (base:=base) D25 T
 have d_number_text:=ok_number_text (P:=l.prog) (w:=w) (base:=base) D29 T
 have d_heap_text:=ok_heap_text (P:=l.prog) (w:=w) (base:=base) D30 T
 have d_word_text:=ok_word_text D31 T d_number_text d_heap_text
 have d_deed_text:=ok_deed_text D32 T d_word_text
 have d_page_text:=ok_page_text D33 T d_deed_text d_Book_deeds
 have d_law:=ok_law D41 T d__law_bag d__law_names d_Book_init d__law_pull d_Book_do d__law_stands d__law_back d_Book_ships d__law_again d_Book_deeds d_page_text
 exact d_law
theorem walk{l:PySem.W.OpenLaw}{q:Program}{loose:List Str}{XP:(Str→Option Value)→Heap→Prop}{YP:World→Heap→Prop}{d:DefRec}{K:Params→PySem.W.Frag}(hn:l.most=some 63)(hdf:d.params.defaults=[])
  (hY:∀(w:World)(h:Heap),YP w h→(K w.params).In h)
  (F:∀(w:World)(mg:Str→Option Value)(fa:Addr)(h:Heap),(K w.params).In h→h.Ns mainGlobals mg→mg d.name=some (.ref fa) →
   ∃ fd:FuncData,(∀(s:Shared)(u:Value),BindsTo s fd ⟨[u],[]⟩ [("_law_script", u)])∧∀ base:Heap,(K w.params).In base→base.Ns mainGlobals mg→FnOk l.prog w (K w.params) mg base CX0 10 fa fd ["_law_script"] (sp_law (K w.params) (fun _=>0))) :
  PySem.W.WalkO q loose XP YP l.row.toRowW d [] (fun f vs=>PySem.call f vs) :=
 L2.walk_of (n:=63) (k:=10) (x := "_law_script") (CX:=fun _=>CX0) (sp:=fun w=>sp_law (K w.params) (fun _=>0)) hn (by decide) hdf ⟨rfl,by decide,by decide⟩ hY F (fun _ _ a ns hl _ hS=>⟨a,ns,rfl,hS,hl,fun _=>rfl⟩) fun _ _ _ _ _ z=>z
end Toy
def PySem.W.Fast.tw6959207165594627266:Unit:=()
def PySem.W.Fast.tw2657609743321855307:Unit:=()
def PySem.W.Fast.tw13935788751690189875:Unit:=()
def PySem.W.Fast.tw7029232666152878976:Unit:=()
def PySem.W.Fast.tw4254737074240337038:Unit:=()
def PySem.W.Fast.tw11883320156277834061:Unit:=()
def PySem.W.Fast.tw1818410884129260635:Unit:=()
def PySem.W.Fast.tw6269213446069498400:Unit:=()
def PySem.W.Fast.tw696125237328832804:Unit:=()
def PySem.W.Fast.tw286587556413686668:Unit:=()
def PySem.W.Fast.tw12542495129708433194:Unit:=()
def PySem.W.Fast.tw7160158791246434869:Unit:=()
def PySem.W.Fast.tw15286862190075369075:Unit:=()
def PySem.W.Fast.tw2001874364694045570:Unit:=()
def PySem.W.Fast.tw13170165407324351887:Unit:=()
def PySem.W.Fast.tw1330156261523176099:Unit:=()
def PySem.W.Fast.tw17575111430950299855:Unit:=()
def PySem.W.Fast.tw1523781065938143797:Unit:=()
def PySem.W.Fast.tw17956162497983279571:Unit:=()
def PySem.W.Fast.tw2614215157982602849:Unit:=()
def PySem.W.Fast.tw5623217191321993226:Unit:=()
def PySem.W.Fast.tw11180027155053355306:Unit:=()
def PySem.W.Fast.tw3828934388760865031:Unit:=()
def PySem.W.Fast.tw5052448016881972834:Unit:=()
def PySem.W.Fast.tw16421000966331160793:Unit:=()
def PySem.W.Fast.tw16561253201160834108:Unit:=()
def PySem.W.Fast.tw9163030871458118573:Unit:=()
def PySem.W.Fast.tw15128985730488175973:Unit:=()
def PySem.W.Fast.tw1828387951005730653:Unit:=()
def PySem.W.Fast.tw17793595423071752264:Unit:=()
def PySem.W.Fast.tw8129009308298605581:Unit:=()
def PySem.W.Fast.tw17708749069716622639:Unit:=()
def PySem.W.Fast.tw14233308342737454404:Unit:=()
def PySem.W.Fast.tw15392840218835688994:Unit:=()
def PySem.W.Fast.tw7419794027804019124:Unit:=()
def PySem.W.Fast.tw13404115254082692976:Unit:=()
def PySem.W.Fast.tw10656302373832367127:Unit:=()
def PySem.W.Fast.tw10258798747334304872:Unit:=()
def PySem.W.Fast.tw4712321881134399841:Unit:=()
def PySem.W.Fast.tw15122803260530524598:Unit:=()
def PySem.W.Fast.tw4455763133533941767:Unit:=()
def PySem.W.Fast.tw14959846487618327156:Unit:=()
def PySem.W.Fast.tw14950839034378515678:Unit:=()
def PySem.W.Fast.tw8642187772465774014:Unit:=()
def PySem.W.Fast.tw5348136048676848814:Unit:=()
def PySem.W.Fast.tw8917270494947253477:Unit:=()
def PySem.W.Fast.tw4995031386791256327:Unit:=()
def PySem.W.Fast.tw10111897190957374685:Unit:=()
def PySem.W.Fast.tw9168738030367787111:Unit:=()
def PySem.W.Fast.tw4501509040262316007:Unit:=()
def PySem.W.Fast.tw12757107524392439872:Unit:=()
def PySem.W.Fast.tw18041210092291669064:Unit:=()
def PySem.W.Fast.tw963759270187055475:Unit:=()
def PySem.W.Fast.tw5937217406921493714:Unit:=()
def PySem.W.Fast.tw7427849639216927011:Unit:=()
def PySem.W.Fast.tw5575720746112689464:Unit:=()
def PySem.W.Fast.tw15972207363174466658:Unit:=()
def PySem.W.Fast.tw11211451619423675109:Unit:=()
def PySem.W.Fast.tw12102652902802606535:Unit:=()
def PySem.W.Fast.tw5352487954647311064:Unit:=()
open PySem PySem.W PyProof.Rows
set_option maxRecDepth 100000 in
set_option maxHeartbeats 0 in
theorem PySem.Challenge.cw_keelbond_k63_whole_long_books_holds : PySem.Challenge.rw_keelbond_k63_whole_long_books.Holds := by
 w_on;o_law;k_head;(case hw=>w_witness2)
 k_fill
 refine Toy.walk (l:=PySem.Challenge.rw_keelbond_k63_whole_long_books) rfl rfl (fun w h Y=>PySem.W.kIn_of Y) ?F
 case F =>
  intro w mg fa h KX G hmg
  refine' Toy.all_mk KX G hmg ?_ ?_ ?_ ?_ ?_ ?_ ?_ ?_ ?_ ?_ ?_ ?_ ?_ ?_ ?_ ?_ ?_ ?_ ?_ ?_ ?_ ?_ ?_ ?_ ?_ ?_ ?_ ?_ ?_ ?_ ?_ ?_ ?_ ?_ ?_ ?_ ?_ ?_ ?_ ?_ ?_ ?_ ?_ ?_ ?_ ?_ ?_ ?_ ?_ ?_ ?_ ?_ ?_ ?_ ?_ ?_ ?_ ?_ ?_ ?_ ?_ ?_ ?_ ?_ ?_ ?_ ?_ ?_ ?_ ?_ ?_ ?_ ?_ ?_ ?_ ?_ ?_ ?_ ?_ ?_ ?_ ?_ ?_ ?_ ?_ ?_ ?_ ?_ ?_ ?_ ?_ ?_
  any_goals first | (refine' Toy.MtA.mk ?aa ?bb ?cc ?dd ?ee;(case aa=>k_is);(case bb=>k_is);(case cc=>k_is);(case dd=>k_is);(case ee=>k_is)) | (refine' Toy.InA.mk ?aa ?bb ?cc ?dd ?ee ?ff ?gg;(case aa=>k_is);(case bb=>k_is);(case cc=>k_is);(case dd=>k_is);(case ee=>k_is);(case ff=>k_is);(case gg=>k_is)) | (refine' Toy.FnA.mk ?aa ?bb ?cc ?dd;(case aa=>k_is);(case bb=>k_is);(case cc=>k_is);(case dd=>k_is)) | k_exc | k_is | decide
