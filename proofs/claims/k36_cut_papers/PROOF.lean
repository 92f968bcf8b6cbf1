import PyProof.Rows.All
import Wide.All
import OpenK.AllK
import Wide.FinOn
import Lean
import PyProof.EqAt
import PyProof.EqKinds
import PyProof.TupleCall
import OpenK.KRaise
import OpenK.KOwn
import KE.KTryMore
import KE.RegKTryMore
import PyProof.ExcArgsOwn
import KE.KIntText
import KE.KSortTup
import KE.KDictOf
import KE.KRevIter
import KE.KEqDict
import PyProof.Rows.SetFrom
import PyProof.TupleKey
import PyProof.Rows.SetObj
import PyProof.SetRoads
import PyProof.IsiH_list
import PyProof.ZipIter
import PyProof.Rows.TupIter
import PyProof.DictValues
import PyProof.DictWalks
import KE.KDictSum
import KE.KNest
import KE.KLam
import KE.KNestM
import KE.KDictList
import KE.KDictLaws
import PyProof.Rows.SetFrom
import PyProof.TupleKey
import PyProof.Rows.SetObj
import PyProof.SetRoads
import PySem.Challenge.RW_wirefloor_k36_cut_papers
set_option Elab.async false
set_option linter.all false
set_option maxRecDepth 100000
noncomputable section
namespace L2
open PySem PySem.Spec PyProof.Rows
abbrev Key:=Sum Int Str
noncomputable def keyIs:Key→Value→Bool
 | .inl k,v=>Value.isInt k v
 | .inr x,v=>Value.isStrOf x v
noncomputable def keyH (w:World):Key→Int
 | .inl k=>hashInt k
 | .inr x=>hashStr w x
theorem keyIs_shape:∀{k:Key} {v:Value},keyIs k v=true→(∃i t,k=Sum.inl i∧v=Value.int i t)∨(∃x t,k=Sum.inr x∧v=Value.str x t)
 | .inl i,v,h=>by
  obtain⟨t,e⟩:=Value.isInt_shape (k:=i) (v:=v) h
  exact .inl ⟨i,t,rfl,e⟩
 | .inr x,v,h=>by
  obtain⟨t,e⟩:=Value.isStrOf_shape (x:=x) (v:=v) h
  exact .inr ⟨x,t,rfl,e⟩
theorem keyIs_int (i:Int)(t:Tok):keyIs (.inl i) (.int i t)=true:=by simp[keyIs,Value.isInt]
theorem keyIs_str (x:Str)(t:Tok):keyIs (.inr x) (.str x t)=true:=by simp[keyIs,Value.isStrOf]
theorem key_ll (a b:Int):decide ((Sum.inl a:Key)=Sum.inl b)=(a==b):=by
 by_cases e:a=b
 ·subst e;simp
 ·have h:¬(Sum.inl a:Key)=Sum.inl b:=fun q=>e (Sum.inl.inj q)
  rw[decide_eq_false h]
  exact(beq_eq_false_iff_ne.mpr e).symm
theorem key_rr (a b:Str):decide ((Sum.inr a:Key)=Sum.inr b)=decide (a=b):=by
 by_cases e:a=b
 ·subst e;simp
 ·have h:¬(Sum.inr a:Key)=Sum.inr b:=fun q=>e (Sum.inr.inj q)
  rw[decide_eq_false h,decide_eq_false e]
theorem key_lr (a:Int)(b:Str):decide ((Sum.inl a:Key)=Sum.inr b)=false:=decide_eq_false (fun q=>nomatch q)
theorem key_rl (a:Str)(b:Int):decide ((Sum.inr a:Key)=Sum.inl b)=false:=decide_eq_false (fun q=>nomatch q)
noncomputable def mixKind (prog:Program) (w:World):PySem.KeyKind prog w Key where
 is:=keyIs
 hash:=keyH w
 inj:=fun v a b ha hb=>by
  rcases keyIs_shape ha with ⟨i,t,rfl,rfl⟩|⟨x,t,rfl,rfl⟩
  ·rcases keyIs_shape hb with ⟨j,u,rfl,e⟩|⟨y,u,rfl,e⟩
   ·injection e with e1 _;rw[e1]
   ·exact nomatch e
  ·rcases keyIs_shape hb with ⟨j,u,rfl,e⟩|⟨y,u,rfl,e⟩
   ·exact nomatch e
   ·injection e with e1 _;rw[e1]
 byValue:=fun k v h=>by
  rcases keyIs_shape h with ⟨i,t,rfl,rfl⟩|⟨x,t,rfl,rfl⟩<;>rfl
 pyHash:=fun hv h=>by
  rcases keyIs_shape hv with ⟨i,t,rfl,rfl⟩|⟨x,t,rfl,rfl⟩
  ·exact wpAny_pyHash_int h
  ·exact wpAny_pyHash_str h
 eqBool:=fun hu hv h=>by
  rcases keyIs_shape hu with ⟨i,t,rfl,rfl⟩|⟨x,t,rfl,rfl⟩
  ·rcases keyIs_shape hv with ⟨j,u,rfl,rfl⟩|⟨y,u,rfl,rfl⟩
   ·rw[key_ll] at h;exact wpAny_eqBool_int h
   ·rw[key_lr] at h;exact SeqAt.EqAt.int_str i t y u _ _ _ _ h
  ·rcases keyIs_shape hv with ⟨j,u,rfl,rfl⟩|⟨y,u,rfl,rfl⟩
   ·rw[key_rl] at h;exact SeqAt.EqAt.str_int x t j u _ _ _ _ h
   ·rw[key_rr] at h;exact wpAny_eqBool_str h
 «strs»:=fun k x t v h=>by
  rcases keyIs_shape h with ⟨i,u,rfl,e⟩|⟨y,u,rfl,e⟩
  ·exact nomatch e
  ·injection e with e1 _
   subst e1
   cases v<;>rfl
theorem mixKind_int (prog:Program)(w:World)(i:Int)(t:Tok):(mixKind prog w).is (.inl i) (.int i t)=true:=keyIs_int i t
theorem mixKind_str (prog:Program)(w:World)(x:Str)(t:Tok):(mixKind prog w).is (.inr x) (.str x t)=true:=keyIs_str x t
inductive V where
 |non|bl (b:Bool)|int (i:Int)|str (x:Str)|byt (b:Array UInt8)|flt (b:UInt64)|ref (a:Addr)|ty (n:String)
 deriving DecidableEq
noncomputable def RelV:V→Value→Prop
 | .non,u=>u=Value.none
 | .bl b,u=>u=Value.bool b
 | .int i,u=>∃t,u=Value.int i t
 | .str x,u=>∃t,u=Value.str x t
 | .byt b,u=>∃t,u=Value.bytes b t
 | .flt b,u=>∃t,u=Value.float b t
 | .ref a,u=>u=Value.ref a
 | .ty n,u=>u=Value.type n
abbrev Vals:List V→List Value→Prop:=Paired RelV
theorem Vals.length {xs:List V}{us:List Value}(r:Vals xs us):xs.length=us.length:=Paired.length r
theorem Vals.get:∀{xs:List V} {us:List Value} {i:Nat} {x:V},Vals xs us→xs[i]?=some x→∃u,us[i]?=some u∧RelV x u
 |_,_,_,_,.nil,e=>by simp at e
 |_,_,0,_,.cons r _,e=>by simp at e;subst e;exact⟨_,rfl,r⟩
 |_,_,i+1,x,.cons _ t,e=>by
  obtain⟨u,h1,h2⟩:=Vals.get (i:=i) (x:=x) t (by simpa using e)
  exact⟨u,by simpa using h1,h2⟩
theorem Vals.set {x:V}{u:Value}(r:RelV x u):∀{xs:List V} {us:List Value} (i:Nat),Vals xs us→Vals (xs.set i x) (us.set i u)
 |_,_,_,.nil=> .nil
 |_,_,0,.cons _ t=> .cons r t
 |_,_,i+1,.cons q t=> .cons q (Vals.set r i t)
theorem Vals.append:∀{xs ys:List V} {us ws:List Value},Vals xs us→Vals ys ws→Vals (xs++ys) (us++ws)
 |_,_,_,_,.nil,s=>s
 |_,_,_,_,.cons r t,s=> .cons r (Vals.append t s)
theorem Vals.take:∀{xs:List V} {us:List Value} (n:Nat),Vals xs us→Vals (xs.take n) (us.take n)
 |_,_,0,_=> .nil
 |_,_,_+1,.nil=> .nil
 |_,_,n+1,.cons r t=> .cons r (Vals.take n t)
theorem Vals.drop:∀{xs:List V} {us:List Value} (n:Nat),Vals xs us→Vals (xs.drop n) (us.drop n)
 |_,_,0,r=>r
 |_,_,_+1,.nil=> .nil
 |_,_,n+1,.cons _ t=>Vals.drop n t
noncomputable def RelO:Option V→Option Value→Prop
 |some v,some u=>RelV v u
 |none,none=>True
 |_,_=>False
def KV {κ:Type}:List (κ×V)→List (κ×Value)→Prop:=Paired fun(p:κ×V) (q:κ×Value)=>p.1=q.1∧RelV p.2 q.2
def kV:Key→V
 | .inl i=> .int i
 | .inr x=> .str x
inductive HO where
 |lst (xs:List V)
 |tup (xs:List V)
 |dK (kvs:List (Key×V))|dT (kvs:List (List Key×V))
 |set (S:Int→Bool) (n:Nat)
 |ins (C dx:Addr) (fs:List (Str×V))
 |own (x:Addr)
 |xd (fs:List (Str×V))
 |met (f x:Addr)
 |rng (lo hi:Int)
 |frz (o:Obj) (u:HO)
 |tbl (ps:Array Value)
 |ext (φ:Heap→Prop)
abbrev Hp:=Addr→Option HO
noncomputable def upd (H:Hp) (a:Addr) (o:HO):Hp:=fun b=>if b=a then some o else H b
theorem upd_same {H:Hp}{a:Addr}{o:HO}:upd H a o a=some o:=by unfold upd;rw[if_pos rfl]
theorem upd_ne {H:Hp}{a b:Addr}{o:HO}(h:b≠a):upd H a o b=H b:=by unfold upd;rw[if_neg h]
theorem upd_upd {H:Hp}{a:Addr}{o u:HO}:upd (upd H a o) a u=upd H a u:=by
 funext b;unfold upd;split<;>rfl
theorem ne_of {H:Hp}{a b:Addr}{o u:HO}(h:H a=some o)(h':H b=some u)(d:o≠u):a≠b:=by
 intro e;subst e;rw[h] at h';exact d (Option.some.inj h')
theorem ne_of_none {H:Hp}{a b:Addr}{o:HO}(h:H a=some o)(h':H b=none):a≠b:=by
 intro e;subst e;rw[h] at h';cases h'
section
variable (P:Program) (w:World)
noncomputable def ObjOk (H:Hp) (h:Heap) (a:Addr):HO→Prop
 | .lst xs=>xs.length≤sizeLine∧∃(its:List Value) (n:Nat),Vals xs its∧h.get? a=some {cls:=.type "list",data:=.seq its.toArray n}
 | .tup xs=>xs.length≤sizeLine∧∃its:List Value,Vals xs its∧IsTup h a its.toArray
 | .dK kvs=>kvs.length≤sizeLine∧(a==sysModules)=false∧∃vs,KV kvs vs∧h.DictOf (mixKind P w) a vs
 | .dT kvs=>kvs.length≤sizeLine∧(a==sysModules)=false∧∃xs:List (List Key×Addr×Value),
   Paired (fun(p:List Key×V) (q:List Key×Addr×Value)=>p.1=q.1∧H q.2.1=some (.tup (p.1.map kV))∧RelV p.2 q.2.2) kvs xs∧
   ∃o es ep,h.get? a=some o∧o.ExactDict∧o.data=.dict es ep∧es.toList=xs.map (entryOfKey (tupleKind (mixKind P w)))∧(xs.map (·.1)).Nodup
 | .set S n=>h.SetOf (intKind P w) a S n
 | .ins C dx fs=>H dx=some (.own a)∧fs.length≤1000∧dx≠a∧h.get? a=some (PySem.W.instObj C dx)∧
   ∃mA,h.Ns1 dx mA∧(∀f,RelO (fs.lookup f) (mA f))∧PySem.Within mA (fs.map (·.1))
 | .own _=>∃o,h.get? a=some o
 | .xd fs=>∃mA,h.Ns1 a mA∧∀f,RelO (fs.lookup f) (mA f)
 | .rng lo hi=>∃t u v,h.get? a=some {cls:=.type "range",data:=.fields #[.int lo t,.int hi u,.int 1 v]}
 | .frz o u=>h.get? a=some o∧ObjOk H h a u
 | .tbl ps=>h.get? a=some {cls:=.none,data:=.fields ps}
 | .met f x=>h.get? a=some (PySem.W.methodObj (.ref f) (.ref x))
 | .ext φ=>φ h∧(∃o,h.get? a=some o)∧∀h1 h2:Heap,φ h1→(∀o,h1.get? a=some o→h2.get? a=some o)→φ h2
def HOk (H:Hp) (h:Heap):Prop:=∀a o,H a=some o→ObjOk P w H h a o
end
section
variable {P:Program} {w:World} {H H':Hp} {h h':Heap} {a:Addr} {o:HO}
theorem ObjOk.lt (x:ObjOk P w H h a o):a<h.objs.size:=by
 cases o with
 |lst xs=>obtain⟨_,_,_,_,e⟩:=x;exact Heap.lt_size e
 |tup xs=>obtain⟨_,_,_,p⟩:=x;exact p.lt
 |dK kvs=>obtain⟨_,_,_,_,o,_,_,e,_⟩:=x;exact Heap.lt_size e
 |dT kvs=>obtain⟨_,_,_,_,o,_,_,e,_⟩:=x;exact Heap.lt_size e
 |set S n=>obtain⟨o,_,_,_,e,_⟩:=x;exact Heap.lt_size e
 |ins C dx fs=>obtain⟨_,_,_,e,_⟩:=x;exact Heap.lt_size e
 |own y=>obtain⟨_,e⟩:=x;exact Heap.lt_size e
 |xd fs=>obtain⟨_,⟨_,_,_,e,_⟩,_⟩:=x;exact Heap.lt_size e
 |rng lo hi=>obtain⟨_,_,_,e⟩:=x;exact Heap.lt_size e
 |frz ob u=>obtain⟨e,_⟩:=x;exact Heap.lt_size e
 |tbl ps=>exact Heap.lt_size (show h.get? a=some _ from x)
 |met f y=>exact Heap.lt_size (show h.get? a=some _ from x)
 |ext φ=>obtain⟨_,⟨_,e⟩,_⟩:=x;exact Heap.lt_size e
theorem Paired.mapP {α β:Type}{F G:α→β→Prop}:∀{l₁:List α} {l₂:List β},Paired F l₁ l₂→(∀a b,F a b→G a b)→Paired G l₁ l₂
 |_,_,.nil,_=> .nil
 |_,_,.cons r t,f=> .cons (f _ _ r) (Paired.mapP t f)
theorem ObjOk.stay (x:ObjOk P w H h a o)(k:∀b u,(b=a∨H b=some (.own a))→h.get? b=some u→h'.get? b=some u)
  (ho:∀b,H b=some (.own a)→H' b=some (.own a)) (ht:∀b xs,H b=some (.tup xs)→H' b=some (.tup xs)):ObjOk P w H' h' a o:=by
 induction o with
 |lst xs=>obtain⟨z,its,n,r,e⟩:=x;exact⟨z,its,n,r,k _ _ (.inl rfl) e⟩
 |tup xs=>obtain⟨z,its,r,ob,e,c⟩:=x;exact⟨z,its,r,ob,k _ _ (.inl rfl) e,c⟩
 |dK kvs=>obtain⟨z,y,vs,r,ob,es,ep,e,c⟩:=x;exact⟨z,y,vs,r,ob,es,ep,k _ _ (.inl rfl) e,c⟩
 |dT kvs=>
  obtain⟨z,y,xs,r,ob,es,ep,e,c⟩:=x
  exact⟨z,y,xs,Paired.mapP r fun p q z=>⟨z.1,ht _ _ z.2.1,z.2.2⟩,ob,es,ep,k _ _ (.inl rfl) e,c⟩
 |set S n=>obtain⟨ob,es,ep,t,e,c⟩:=x;exact⟨ob,es,ep,t,k _ _ (.inl rfl) e,c⟩
 |ins C dx fs=>
  obtain⟨d,z,ne,e,mA,⟨od,es,ep,e2,c⟩,r⟩:=x
  exact⟨ho _ d,z,ne,k _ _ (.inl rfl) e,mA,⟨od,es,ep,k _ _ (.inr d) e2,c⟩,r⟩
 |own y=>obtain⟨ob,e⟩:=x;exact⟨ob,k _ _ (.inl rfl) e⟩
 |xd fs=>obtain⟨mA,⟨od,es,ep,e,c⟩,r⟩:=x;exact⟨mA,⟨od,es,ep,k _ _ (.inl rfl) e,c⟩,r⟩
 |rng lo hi=>obtain⟨t,u,v,e⟩:=x;exact⟨t,u,v,k _ _ (.inl rfl) e⟩
 |frz ob u ih=>obtain⟨e,q⟩:=x;exact⟨k _ _ (.inl rfl) e,ih q⟩
 |tbl ps=>
  have e:h.get? a=some {cls:=.none,data:=.fields ps}:=x
  show h'.get? a=some {cls:=.none,data:=.fields ps}
  exact k a _ (.inl rfl) e
 |met f y=>
  have e:h.get? a=some (PySem.W.methodObj (.ref f) (.ref y)):=x
  show h'.get? a=some (PySem.W.methodObj (.ref f) (.ref y))
  exact k a _ (.inl rfl) e
 |ext φ=>obtain⟨p,⟨o,e⟩,st⟩:=x;exact⟨st _ _ p fun o q=>k _ _ (.inl rfl) q,⟨o,k _ _ (.inl rfl) e⟩,st⟩
theorem HOk.lt (x:HOk P w H h)(e:H a=some o):a<h.objs.size:=(x a o e).lt
theorem HOk.fresh (x:HOk P w H h)(e:h.objs.size≤a):H a=none:=by
 cases q:H a with
 |none=>rfl
 |some u=>exact absurd (Nat.lt_of_lt_of_le (x.lt q) e) (Nat.lt_irrefl _)
theorem HOk.kept (x:HOk P w H h)(k:∀b u,h.get? b=some u→h'.get? b=some u):HOk P w H h':=fun a o e=>
 (x a o e).stay (fun b u _ q=>k b u q) (fun _ q=>q) fun _ _ q=>q
theorem HOk.laid (x:HOk P w H h)(k:∀b u,h.get? b=some u→h'.get? b=some u)(hp:h.objs.size≤a)(new:ObjOk P w (upd H a o) h' a o):HOk P w (upd H a o) h':=fun b u e=>by
 have hn:=x.fresh hp
 by_cases hb:b=a
 ·subst hb;rw[upd_same] at e;cases e;exact new
 ·rw[upd_ne hb] at e
  exact(x b u e).stay (fun c v _ q=>k c v q) (fun c q=>by rw[upd_ne (ne_of_none q hn)];exact q) fun c xs q=>by rw[upd_ne (ne_of_none q hn)];exact q
end
def Rd (H:Hp) (a:Addr) (u:HO):Prop:=H a=some u∨∃o,H a=some (.frz o u)
theorem Rd.ok {P:Program}{w:World}{H:Hp}{h:Heap}{a:Addr}{u:HO}(r:Rd H a u)(x:HOk P w H h):ObjOk P w H h a u:=by
 rcases r with r|⟨o,r⟩
 ·exact x a u r
 ·obtain⟨_,q⟩:=x a _ r
  exact q
noncomputable def Mut:Option HO→Prop
 |some (.lst _)=>True
 |some (.dK _)=>True
 |some (.dT _)=>True
 |some (.set _ _)=>True
 |some (.ins _ _ _)=>True
 |some (.ext _)=>True
 |_=>False
section
variable {P:Program} {w:World} {H:Hp} {h h':Heap} {x e:Addr} {o':HO}
theorem HOk.write (ok:HOk P w H h)(mu:Mut (H x))(he:e=x∨H e=some (.own x))(k:∀b u,b≠e→h.get? b=some u→h'.get? b=some u)(heo:∃u,h'.get? e=some u)
  (new:ObjOk P w (upd H x o') h' x o'):HOk P w (upd H x o') h':=fun b u q=>by
 have nown:∀c y,H c=some (.own y)→c≠x:=fun c y r z=>by subst z;rw[r] at mu;exact mu
 have ntup:∀c xs,H c=some (.tup xs)→c≠x:=fun c xs r z=>by subst z;rw[r] at mu;exact mu
 by_cases hb:b=x
 ·subst hb;rw[upd_same] at q;cases q;exact new
 ·rw[upd_ne hb] at q
  by_cases hbe:b=e
  ·have q':H b=some (.own x):=by
    rcases he with z|z
    ·exact absurd (hbe.trans z) hb
    ·rw[hbe];exact z
   rw[q] at q';cases q'
   obtain⟨v,hv⟩:=heo
   exact⟨v,by rw[hbe];exact hv⟩
  ·refine(ok b u q).stay (fun c v hc r=>k c v ?_ r) (fun c r=>by rw[upd_ne (nown c b r)];exact r) fun c xs r=>by rw[upd_ne (ntup c xs r)];exact r
   rcases hc with rfl|hc
   ·exact hbe
   ·rintro rfl
    rcases he with z|z
    ·exact nown c b hc z
    ·rw[hc] at z;cases z;exact hb rfl
end
structure Un (fs ex:List Addr) (H H':Hp) (h h':Heap):Prop where
 keep:∀b o,h.get? b=some o→H b=none→b∉fs→b∉ex→h'.get? b=some o
 slot:∀b o,h.get? b=some o→H b=none→b∈fs→b∉ex→∃sl,h'.get? b=some {o with slots:=sl}
 free:∀b o,h.get? b=some o→H b=none→b∉ex→H' b=none
 there:∀b o,h.get? b=some o→b∉ex→∃o',h'.get? b=some o'
 tups:∀b xs,H b=some (.tup xs)→H' b=some (.tup xs)
 frzs:∀b o u,H b=some (.frz o u)→H' b=some (.frz o u)
 tbls:∀b ps,H b=some (.tbl ps)→∃more,H' b=some (.tbl (ps++more))
section
variable {fs fs' ex ex':List Addr} {H H1 H2:Hp} {h h1 h2 h':Heap} {a x e:Addr} {o:HO}
theorem Un.any (u:Un fs ex H H1 h h1){b:Addr}{ob:Obj}(q:h.get? b=some ob)(n:H b=none)(hx:b∉ex):∃sl,h1.get? b=some {ob with slots:=sl}:=by
 by_cases hb:b∈fs
 ·exact u.slot b ob q n hb hx
 ·exact⟨ob.slots,u.keep b ob q n hb hx⟩
theorem Un.kept (k:∀b u,h.get? b=some u→h'.get? b=some u):Un fs ex H H h h':=
 ⟨fun b ob q _ _ _=>k b ob q,fun b ob q _ _ _=>⟨ob.slots,k b ob q⟩,fun _ _ _ n _=>n,fun b ob q _=>⟨ob,k b ob q⟩,fun _ _ q=>q,fun _ _ _ q=>q,fun _ ps q=>⟨#[],by rw[q];simp⟩⟩
theorem Un.refl:Un fs ex H H h h:=Un.kept fun _ _ q=>q
theorem Un.laid (k:∀b u,h.get? b=some u→h'.get? b=some u)(hp:h.objs.size≤a)(hn:H a=none):Un fs ex H (upd H a o) h h' where
 keep:=fun b u q _ _ _=>k b u q
 slot:=fun b u q _ _ _=>⟨u.slots,k b u q⟩
 free:=fun b u q n _=>by rw[upd_ne (Nat.ne_of_lt (Nat.lt_of_lt_of_le (Heap.lt_size q) hp))];exact n
 there:=fun b u q _=>⟨u,k b u q⟩
 tups:=fun b xs q=>by rw[upd_ne (ne_of_none q hn)];exact q
 frzs:=fun b u xs q=>by rw[upd_ne (ne_of_none q hn)];exact q
 tbls:=fun b ps q=>⟨#[],by rw[upd_ne (ne_of_none q hn),q];simp⟩
theorem Un.write (mu:Mut (H x))(he:e=x∨H e=some (.own x))(k:∀b u,b≠e→h.get? b=some u→h'.get? b=some u)(heo:∃u,h'.get? e=some u):Un fs ex H (upd H x o) h h':=by
 have hx:∀b,H b=none→b≠x:=fun b n z=>by subst z;rw[n] at mu;exact mu
 have hb:∀b,H b=none→b≠e:=fun b n z=>by
  subst z
  rcases he with r|r
  ·exact hx b n r
  ·rw[n] at r;cases r
 have hm:∀b u,H b=some u→¬Mut (some u)→b≠x:=fun b u q nm z=>by subst z;rw[q] at mu;exact nm mu
 refine⟨fun b u q n _ _=>k b u (hb b n) q,fun b u q n _ _=>⟨u.slots,k b u (hb b n) q⟩,fun b u q n _=>by rw[upd_ne (hx b n)];exact n,fun b u q _=>?_,
  fun b xs q=>by rw[upd_ne (hm b _ q fun z=>z)];exact q,fun b u xs q=>by rw[upd_ne (hm b _ q fun z=>z)];exact q,fun b ps q=>⟨#[],by rw[upd_ne (hm b _ q fun z=>z),q];simp⟩⟩
 by_cases hbe:b=e
 ·subst hbe;exact heo
 ·exact⟨u,k b u hbe q⟩
end
noncomputable def trk (h:Heap) (H:Hp):List Addr:=(List.range h.objs.size).filter fun a=>(H a).isSome
def hidT (h:Heap) (H:Hp):Heap:=PySem.W.hideAll h (trk h H)
theorem hidT_size (h:Heap)(H:Hp):(hidT h H).objs.size=h.objs.size:=PySem.W.hideAll_size _ _
theorem hidT_get {h:Heap}{H:Hp}{b:Addr}{o:Obj}(e:h.get? b=some o)(n:H b=none):(hidT h H).get? b=some o:=
 PySem.W.hideAll_get _ e fun hm=>by
  have q:(H b).isSome=true:=(List.mem_filter.mp hm).2
  rw[n] at q;simp at q
theorem of_hidT {h:Heap}{H:Hp}{b:Addr}{o:Obj}(e:(hidT h H).get? b=some o):h.get? b=some o∧H b=none:=by
 have e':h.get? b=some o:=PySem.W.of_hideAll (trk h H) e
 refine⟨e',?_⟩
 cases q:H b with
 |none=>rfl
 |some x=>
  have hm:b∈trk h H:=List.mem_filter.mpr ⟨List.mem_range.mpr (Heap.lt_size e'),by simp[q]⟩
  have z:(hidT h H).get? b=none:=PySem.W.hideAll_none (trk h H) hm
  rw[z] at e;cases e
noncomputable def allNews (g h:Heap) (L:Addr):List (Addr×Obj):=(List.range h.objs.size).filterMap fun a=>if a=L∨(g.get? a).isSome=true then none else (h.get? a).map fun o=>(a,o)
theorem mem_allNews {g h:Heap}{L a:Addr}{o:Obj}(h1:a≠L)(h2:g.get? a=none)(h3:h.get? a=some o):(a,o)∈allNews g h L:=
 List.mem_filterMap.mpr ⟨a,List.mem_range.mpr (Heap.lt_size h3),by simp[h1,h2,h3]⟩
theorem of_mem_allNews {g h:Heap}{L:Addr}{p:Addr×Obj}(hp:p∈allNews g h L):p.1≠L∧g.get? p.1=none∧h.get? p.1=some p.2:=by
 obtain⟨b,_,e⟩:=List.mem_filterMap.mp hp
 split at e
 ·cases e
 ·rename_i hn
  cases q:h.get? b with
  |none=>rw[q] at e;simp at e
  |some u=>
   rw[q] at e
   simp only[Option.map_some,Option.some.injEq] at e
   subst e
   refine⟨fun z=>hn (.inl z),?_,q⟩
   show g.get? b=none
   cases r:g.get? b with
   |none=>rfl
   |some v=>exact(hn (.inr (by simp[r]))).elim
noncomputable def rest (g h:Heap) (L d:Addr):List (Addr×Obj):=(allNews g h L).filter fun p=>decide (p.1≠d)
theorem news_all {g h:Heap}{L:Addr}:News g L h (allNews g h L):=fun p hp=>let ⟨a,b,c⟩:=of_mem_allNews hp;⟨c,a,b⟩
structure Mod (K:PySem.W.Frag) (mg:Str→Option Value) (base:Heap):Prop where
 kin:K.In base
 glob:base.Ns mainGlobals mg
 blt:∃mb,base.Ns builtinsNs mb∧∀x:Str,x≠ "__name__" →mb x=bootBuiltins x
 nolimit:base.NoLimit
structure Cx where
 prog:Program
 w:World
 K:PySem.W.Frag
 mg:Str→Option Value
 base:Heap
 A:Around
 N:List Str
 s₀:Shared
 H₀:Hp
 env:Env
 outer:List Env
 stack:List Env
 ex:List Addr
 fn:Str→Bool
 calm:Bool
 pn:List (Addr×Obj)
 xe:Value→Shared→Prop
def frs (l:List Env):List Addr:=l.filterMap (·.frame)
abbrev Cx.fs (X:Cx):List Addr:=frs X.outer
def Vis (sc:Scope) (x:Str):Prop:=sc.names.lookup x=some .local∨sc.names.lookup x=some .cell∨sc.names.lookup x=some .free
def Loc (sc:Scope) (x:Str):Prop:=sc.names.lookup x=some .local∨sc.names.lookup x=some .cell
def Look (env:Env) (h:Heap) (m:Str→Option Value) (x:Str) (u:Value):Prop:=
 (env.kindOf x=some .local∧m x=some u)∨((env.kindOf x=some .cell∨env.kindOf x=some .free)∧∃c,env.cells.lookup x=some c∧h.IsCell c (some u))
structure Cx.Ok (X:Cx):Prop where
 mod:Mod X.K X.mg X.base
 kind:X.env.scope.kind=.function
 glob:X.env.globals=mainGlobals
 blt:X.env.builtins=builtinsNs
 above:X.s₀.heap.objs.size≤X.env.locals
 inj:∀x y c,X.env.cells.lookup x=some c→X.env.cells.lookup y=some c→x=y
 has:∀x,(X.env.kindOf x=some .cell∨X.env.kindOf x=some .free)→∃c,X.env.cells.lookup x=some c
 cab:∀x c,X.fn x=true→X.env.cells.lookup x=some c→X.s₀.heap.objs.size≤c
 hd:X.calm=true→X.A.handled=none
 frames:X.A.frames=some X.stack
 stk:X.stack=X.outer∨(X.stack=X.env::X.outer∧X.env.frame=some X.env.locals)
 exf:∀b∈X.ex,b≠X.env.locals∧∀x c,X.env.cells.lookup x=some c→c≠b
 bs:∀b o,X.base.get? b=some o→X.s₀.heap.get? b=some o∧X.H₀ b=none
 bsz:X.base.objs.size≤X.s₀.heap.objs.size
 noex:∀b o,X.base.get? b=some o→b∉X.ex
 exfs:∀b∈X.ex,b∉X.fs
 funs:X.s₀.heap.FunFrames X.base X.outer
 frf:∀b∈X.fs,X.H₀ b=none
structure Inv (X:Cx) (pins:List (Addr×Obj)) (σ:List (Option V)) (H:Hp) (s:Shared):Prop where
 ok:X.Ok
 os:s.os=X.s₀.os
 bare:AllBare s.gens
 base:Un X.fs X.ex X.H₀ H X.s₀.heap s.heap
 loc:∃m,s.heap.Ns X.env.locals m∧∀(i:Nat) (x:Str) (v:V),X.N[i]?=some x→σ[i]?=some (some v)→Vis X.env.scope x→∃u,RelV v u∧Look X.env s.heap m x u
 cell:∀x c,X.env.cells.lookup x=some c→∃v,s.heap.IsCell c v
 free:H X.env.locals=none
 freeC:∀x c,X.env.cells.lookup x=some c→H c=none
 pin:∀p∈X.pn++pins,s.heap.get? p.1=some p.2∧H p.1=none∧p.1≠X.env.locals∧p.1∉X.fs∧∀v,p.2.data≠.cell v
 hok:HOk X.prog X.w H s.heap
 len:σ.length=X.N.length
section
variable {X:Cx} {pins:List (Addr×Obj)} {σ:List (Option V)} {H H':Hp} {s:Shared} {h':Heap}
theorem Cx.Ok.nofr (ok:X.Ok){b:Addr}{o:Obj}(e:X.base.get? b=some o):b∉X.fs:=fun hb=>by
 have:=(ok.funs.mem hb).1
 rw[e] at this;cases this
theorem Inv.bs (I:Inv X pins σ H s):∀b o,X.base.get? b=some o→s.heap.get? b=some o∧H b=none:=fun b o e=>
 ⟨I.base.keep b o (I.ok.bs b o e).1 (I.ok.bs b o e).2 (I.ok.nofr e) (I.ok.noex b o e),I.base.free b o (I.ok.bs b o e).1 (I.ok.bs b o e).2 (I.ok.noex b o e)⟩
theorem Inv.bk (I:Inv X pins σ H s):∀b o,X.base.get? b=some o→s.heap.get? b=some o:=fun b o e=>(I.bs b o e).1
theorem Inv.mod (I:Inv X pins σ H s):Mod X.K X.mg X.base:=I.ok.mod
theorem Inv.kIn (I:Inv X pins σ H s):X.K.In s.heap:=I.ok.mod.kin.keeps I.bk
theorem Inv.lt (I:Inv X pins σ H s):X.env.locals<s.heap.objs.size:=let ⟨_,hn,_⟩:=I.loc;hn.lt
theorem Inv.sz (I:Inv X pins σ H s):X.s₀.heap.objs.size≤s.heap.objs.size:=Nat.le_trans I.ok.above (Nat.le_of_lt I.lt)
theorem Inv.nofs (I:Inv X pins σ H s){a:Addr}(h:s.heap.objs.size≤a):a∉X.fs:=fun hb=>by
 obtain⟨_,o,ho,_⟩:=I.ok.funs.mem hb
 exact absurd (Nat.lt_of_lt_of_le (Heap.lt_size ho) (Nat.le_trans I.sz h)) (Nat.lt_irrefl _)
theorem Inv.cne (I:Inv X pins σ H s):∀x c,X.env.cells.lookup x=some c→c≠X.env.locals:=fun x c e z=>by
 obtain⟨v,o,ho,hd⟩:=I.cell x c e
 obtain⟨m,⟨o',es,ep,ho',hd',_⟩,_⟩:=I.loc
 rw[z,ho'] at ho;cases ho;rw[hd'] at hd;cases hd
theorem Inv.funs (I:Inv X pins σ H s):s.heap.FunFrames X.base X.outer:=by
 have all:∀(l:List Env),(∀b∈frs l,b∈X.fs)→X.s₀.heap.FunFrames X.base l→s.heap.FunFrames X.base l:=by
  intro l
  induction l with
  |nil=>intro _ _;trivial
  |cons env r ih=>
   intro hs hl
   obtain⟨hk,⟨L,o,hf,hn,ho,hd⟩,hr⟩:=hl
   have hL:L∈X.fs:=hs L (by unfold frs;rw[List.filterMap_cons,hf];exact List.mem_cons_self)
   obtain⟨sl,e⟩:=I.base.slot L o ho (I.ok.frf L hL) hL fun z=>I.ok.exfs L z hL
   exact⟨hk,⟨L,_,hf,hn,e,hd⟩,ih (fun b hb=>hs b (by unfold frs;rw[List.filterMap_cons,hf];exact List.mem_cons_of_mem _ hb)) hr⟩
 exact all X.outer (fun _ hb=>hb) I.ok.funs
theorem Inv.stack (I:Inv X pins σ H s):s.heap.FunFrames X.base X.stack:=by
 rcases I.ok.stk with e|⟨e,hf⟩
 ·rw[e];exact I.funs
 ·rw[e]
  obtain⟨m,hn,_⟩:=I.loc
  refine .cons (by rw[I.ok.kind];decide) hf hn ?_ I.funs
  exact Heap.get?_none_of_le (Nat.le_trans I.ok.bsz I.ok.above)
theorem Inv.stkSub (I:Inv X pins σ H s):∀b∈frs X.stack,b∈X.env.locals::X.fs:=fun b hb=>by
 rcases I.ok.stk with e|⟨e,hf⟩
 ·rw[e] at hb;exact List.mem_cons_of_mem _ hb
 ·rw[e] at hb
  unfold frs at hb
  rw[List.filterMap_cons,hf] at hb
  exact hb
theorem Inv.stkFree (I:Inv X pins σ H s):∀b∈frs X.stack,H b=none:=fun b hb=>by
 rcases List.mem_cons.mp (I.stkSub b hb) with e|hb
 ·rw[e];exact I.free
 ·obtain⟨_,o,ho,_⟩:=I.ok.funs.mem hb
  exact I.base.free b o ho (I.ok.frf b hb) fun z=>I.ok.exfs b z hb
theorem Inv.step {g':Array GenState}{t':Nat}{d':Drawn}{ch:List Addr}(I:Inv X pins σ H s)
  (hch:∀b∈ch,(b∈X.ex∨X.s₀.heap.objs.size≤b)∧b≠X.env.locals∧(∀x c,X.env.cells.lookup x=some c→c≠b)∧∀p∈X.pn++pins,p.1≠b)
  (keep:∀b o,b≠X.env.locals→b∉X.fs→b∉ch→s.heap.get? b=some o→H b=none→h'.get? b=some o)
  (slot:∀b o,b≠X.env.locals→b∈X.fs→b∉ch→s.heap.get? b=some o→H b=none→∃sl,h'.get? b=some {o with slots:=sl}) (free:∀b o,b∉ch→s.heap.get? b=some o→H b=none→H' b=none)
  (there:∀b o,b∉ch→s.heap.get? b=some o→∃o',h'.get? b=some o')
  (tups:∀b xs,H b=some (.tup xs)→H' b=some (.tup xs)) (frzs:∀b o u,H b=some (.frz o u)→H' b=some (.frz o u)) (tbls:∀b ps,H b=some (.tbl ps)→∃more,H' b=some (.tbl (ps++more)))
  (ns:∀m,s.heap.Ns X.env.locals m→h'.Ns X.env.locals m) (hok:HOk X.prog X.w H' h') (hg:AllBare g'):
  Inv X pins σ H' {s with heap:=h',gens:=g',drawn:=d',toks:=t'}:=by
 have neL:∀b o,X.s₀.heap.get? b=some o→b≠X.env.locals:=fun b o e=>Nat.ne_of_lt (Nat.lt_of_lt_of_le (Heap.lt_size e) I.ok.above)
 have neC:∀b o,X.s₀.heap.get? b=some o→b∉X.ex→b∉ch:=fun b o e hx hb=>by
  rcases(hch b hb).1 with z|z
  ·exact hx z
  ·exact absurd (Nat.lt_of_lt_of_le (Heap.lt_size e) z) (Nat.lt_irrefl _)
 have cellK:∀x c,X.env.cells.lookup x=some c→∀v,s.heap.IsCell c v→h'.IsCell c v:=fun x c e v ⟨o,ho,hd⟩=>by
  have nch:c∉ch:=fun z=>(hch c z).2.2.1 x c e rfl
  by_cases hc:c∈X.fs
  ·obtain⟨sl,q⟩:=slot c o (I.cne x c e) hc nch ho (I.freeC x c e)
   exact⟨_,q,hd⟩
  ·exact⟨o,keep c o (I.cne x c e) hc nch ho (I.freeC x c e),hd⟩
 refine⟨I.ok,I.os,hg,⟨fun b o e n hb hx=>?_,fun b o e n hb hx=>?_,fun b o e n hx=>?_,fun b o e hx=>?_,fun b xs e=>tups b xs (I.base.tups b xs e),fun b o xs e=>frzs b o xs (I.base.frzs b o xs e),fun b ps e=>?_⟩,?_,fun x c e=>?_,?_,fun x c e=>?_,fun p hp=>?_,hok,I.len⟩
 ·exact keep b o (neL b o e) hb (neC b o e hx) (I.base.keep b o e n hb hx) (I.base.free b o e n hx)
 ·obtain⟨sl,e1⟩:=I.base.slot b o e n hb hx
  obtain⟨sl',e2⟩:=slot b _ (neL b o e) hb (neC b o e hx) e1 (I.base.free b o e n hx)
  exact⟨sl',e2⟩
 ·obtain⟨o',e1⟩:=I.base.there b o e hx
  exact free b o' (neC b o e hx) e1 (I.base.free b o e n hx)
 ·obtain⟨o',e1⟩:=I.base.there b o e hx
  exact there b o' (neC b o e hx) e1
 ·obtain⟨m1,e1⟩:=I.base.tbls b ps e
  obtain⟨m2,e2⟩:=tbls b _ e1
  exact⟨m1++m2,by rw[e2,Array.append_assoc]⟩
 ·obtain⟨m,hn,hl⟩:=I.loc
  refine⟨m,ns m hn,fun i x v e1 e2 e3=>?_⟩
  obtain⟨u,r,l⟩:=hl i x v e1 e2 e3
  refine⟨u,r,?_⟩
  rcases l with l|⟨k,c,e,z⟩
  ·exact .inl l
  ·exact .inr ⟨k,c,e,cellK x c e _ z⟩
 ·obtain⟨v,z⟩:=I.cell x c e
  exact⟨v,cellK x c e v z⟩
 ·obtain⟨m,⟨o,_,_,ho,_⟩,_⟩:=I.loc
  exact free _ o (fun z=>(hch _ z).2.1 rfl) ho I.free
 ·obtain⟨v,o,ho,hd⟩:=I.cell x c e
  exact free c o (fun z=>(hch c z).2.2.1 x c e rfl) ho (I.freeC x c e)
 ·obtain⟨e,n,ne,nf,d⟩:=I.pin p hp
  have nch:p.1∉ch:=fun z=>(hch p.1 z).2.2.2 p hp rfl
  exact⟨keep p.1 p.2 ne nf nch e n,free p.1 p.2 nch e n,ne,nf,d⟩
theorem Inv.un {t':Nat}(I:Inv X pins σ H s)(u:Un X.fs [] H H' s.heap h')(hok:HOk X.prog X.w H' h'):Inv X pins σ H' {s with heap:=h',toks:=t'}:=by
 obtain⟨m,⟨o,es,ep,ho,r⟩,_⟩:=id I.loc
 obtain⟨sl,hL⟩:=u.any ho I.free (by simp)
 exact I.step (g':=s.gens) (d':=s.drawn) (ch:=[]) (fun _ z=>nomatch z) (fun b o _ hb _ e n=>u.keep b o e n hb (by simp)) (fun b o _ hb _ e n=>u.slot b o e n hb (by simp)) (fun b o _ e n=>u.free b o e n (by simp)) (fun b o _ e=>u.there b o e (by simp)) u.tups u.frzs u.tbls (fun m' hm=>by
  obtain⟨o',es',ep',ho',r'⟩:=hm
  rw[ho] at ho';cases ho'
  exact⟨_,es',ep',hL,r'⟩) hok I.bare
theorem Inv.call {g':Array GenState}{t':Nat}{d':Drawn}{ch:List Addr}(I:Inv X pins σ H s)(u:Un (frs X.stack) ch H H' s.heap h')(hok:HOk X.prog X.w H' h')(hg:AllBare g')
  (hch:∀b∈ch,(b∈X.ex∨X.s₀.heap.objs.size≤b)∧b≠X.env.locals∧(∀x c,X.env.cells.lookup x=some c→c≠b)∧∀p∈X.pn++pins,p.1≠b):
  Inv X pins σ H' {s with heap:=h',gens:=g',drawn:=d',toks:=t'}:=by
 obtain⟨m,⟨o,es,ep,ho,r⟩,_⟩:=id I.loc
 obtain⟨sl,hL⟩:=u.any ho I.free fun z=>(hch _ z).2.1 rfl
 exact I.step (ch:=ch) hch (fun b o hL hb hc e n=>u.keep b o e n (fun z=>(List.mem_cons.mp (I.stkSub b z)).elim hL hb) hc) (fun b o _ _ hc e n=>u.any e n hc) (fun b o hc e n=>u.free b o e n hc) (fun b o hc e=>u.there b o e hc) u.tups u.frzs u.tbls (fun m' hm=>by
  obtain⟨o',es',ep',ho',r'⟩:=hm
  rw[ho] at ho';cases ho'
  exact⟨_,es',ep',hL,r'⟩) hok hg
theorem Inv.turned {t':Nat}{it:Addr}(I:Inv X pins σ H s)(k:∀b o,b≠it→s.heap.get? b=some o→h'.get? b=some o)(hn:H it=none)(hL:it≠X.env.locals)
  (h1:it∈X.ex∨X.s₀.heap.objs.size≤it) (h2:∀x c,X.env.cells.lookup x=some c→c≠it) (h3:∀p∈X.pn++pins,p.1≠it):Inv X pins σ H {s with heap:=h',toks:=t'}:=by
 have nit:∀b u,H b=some u→b≠it:=fun b u e z=>by rw[z,hn] at e;cases e
 refine I.step (g':=s.gens) (d':=s.drawn) (ch:=[it]) (fun b hb=>?_) (fun b o _ _ hc e _=>k b o (fun z=>hc (by simp[z])) e) (fun b o _ _ hc e _=>⟨o.slots,k b o (fun z=>hc (by simp[z])) e⟩) (fun _ _ _ _ n=>n)
  (fun b o hc e=>⟨o,k b o (fun z=>hc (by simp[z])) e⟩) (fun _ _ e=>e) (fun _ _ _ e=>e) (fun b ps e=>⟨#[],by rw[e];simp⟩) (fun m hm=>?_) (fun b u e=>?_) I.bare
 ·have e:b=it:=by simpa using hb
  subst e
  exact⟨h1,hL,h2,h3⟩
 ·obtain⟨o,es,ep,ho,r⟩:=hm
  exact⟨o,es,ep,k _ o (Ne.symm hL) ho,r⟩
 ·refine(I.hok b u e).stay (fun c v hc q=>k c v ?_ q) (fun _ q=>q) fun _ _ q=>q
  rcases hc with z|z
  ·rw[z];exact nit b u e
  ·exact nit c _ z
theorem Inv.tok (I:Inv X pins σ H s)(t:Nat):Inv X pins σ H {s with toks:=t}:=I.un (h':=s.heap) (t':=t) Un.refl I.hok
theorem Inv.kept {t':Nat}(I:Inv X pins σ H s)(k:∀b u,s.heap.get? b=some u→h'.get? b=some u):Inv X pins σ H {s with heap:=h',toks:=t'}:=I.un (Un.kept k) (I.hok.kept k)
theorem Inv.laid {a:Addr}{o:HO}{t':Nat}(I:Inv X pins σ H s)(k:∀b u,s.heap.get? b=some u→h'.get? b=some u)(hp:s.heap.objs.size≤a)(new:ObjOk X.prog X.w (upd H a o) h' a o):
  Inv X pins σ (upd H a o) {s with heap:=h',toks:=t'}:=I.un (Un.laid k hp (I.hok.fresh hp)) (I.hok.laid k hp new)
theorem Inv.write {x e:Addr}{o:HO}{t':Nat}(I:Inv X pins σ H s)(mu:Mut (H x))(he:e=x∨H e=some (.own x))(k:∀b u,b≠e→s.heap.get? b=some u→h'.get? b=some u)(heo:∃u,h'.get? e=some u)
  (new:ObjOk X.prog X.w (upd H x o) h' x o):Inv X pins σ (upd H x o) {s with heap:=h',toks:=t'}:=I.un (Un.write mu he k heo) (I.hok.write mu he k heo new)
theorem Inv.pins_of {pins':List (Addr×Obj)}(I:Inv X pins σ H s)(h:∀p∈pins',s.heap.get? p.1=some p.2∧H p.1=none∧p.1≠X.env.locals∧p.1∉X.fs∧∀v,p.2.data≠.cell v):Inv X pins' σ H s:=
 ⟨I.ok,I.os,I.bare,I.base,I.loc,I.cell,I.free,I.freeC,fun p hp=>(List.mem_append.mp hp).elim (fun z=>I.pin p (List.mem_append_left _ z)) (h p),I.hok,I.len⟩
theorem nodup_ix {N:List Str}(hN:N.Nodup){i j:Nat}{x:Str}(a:N[i]?=some x)(b:N[j]?=some x):i=j:=by
 obtain⟨h1,e1⟩:=List.getElem?_eq_some_iff.mp a
 obtain⟨h2,e2⟩:=List.getElem?_eq_some_iff.mp b
 exact(List.getElem_inj hN).mp (e1.trans e2.symm)
theorem store_ok2 {M:Model}{A:Around}{E:Value→Shared→Prop}{i:Nat}{x:Str}{v:V}{u:Value}{Q:Unit→Shared→Prop}(I:Inv X pins σ H s)(hN:X.N.Nodup)(hi:X.N[i]?=some x)(hx:Loc X.env.scope x)(r:RelV v u)
  (h:∀s',Inv X pins (σ.set i (some v)) H s'→(∃a,Heap.SameBut a s.heap s'.heap∧(a=X.env.locals∨X.env.cells.lookup x=some a))→Q () s') (hf:X.fn x=true∨X.env.scope.names.lookup x=some .local:=by first|exact .inl rfl|exact .inr rfl|assumption):wpAny M A (storeName X.env x u) Q E s:=by
 obtain⟨m,hn,hl⟩:=id I.loc
 have hcls:(X.env.scope.kind==.class||(X.env.scope.kind==.module&&X.env.locals !=X.env.globals))=false:=by rw[I.ok.kind];rfl
 have hiσ:i<σ.length:=by rw[I.len];exact(List.getElem?_eq_some_iff.mp hi).1
 have cne:=I.cne
 have tracked:∀{a:Addr} {h':Heap},(∃o,s.heap.get? a=some o∧H a=none)→Heap.SameBut a s.heap h'→HOk X.prog X.w H h':=fun{a h'} ha hs b ob e=>by
  obtain⟨_,_,hfree⟩:=ha
  refine(I.hok b ob e).stay (fun c w' hc q=>(hs.2 c ?_).trans q) (fun _ q=>q) fun _ _ q=>q
  rintro rfl
  rcases hc with rfl|hc
  ·rw[hfree] at e;cases e
  ·rw[hfree] at hc;cases hc
 rcases hx with hk|hk
 ·refine wpAny_storeName_local hk hn (fun h' hn' hs=>?_) hcls
  obtain⟨oL,_,_,hoL,_⟩:=id hn
  refine h _ ⟨I.ok,I.os,I.bare,⟨fun b o e n hb hx=>?_,fun b o e n hb hx=>?_,I.base.free,fun b o e hx=>?_,I.base.tups,I.base.frzs,I.base.tbls⟩,⟨_,hn',fun j y v' e1 e2 e3=>?_⟩,fun y c e=>?_,I.free,I.freeC,fun p hp=>?_,tracked ⟨oL,hoL,I.free⟩ hs,by simpa using I.len⟩ ⟨_,hs,.inl rfl⟩
  ·exact(hs.2 b (Nat.ne_of_lt (Nat.lt_of_lt_of_le (Heap.lt_size e) I.ok.above))).trans (I.base.keep b o e n hb hx)
  ·obtain⟨sl,e1⟩:=I.base.slot b o e n hb hx
   exact⟨sl,(hs.2 b (Nat.ne_of_lt (Nat.lt_of_lt_of_le (Heap.lt_size e) I.ok.above))).trans e1⟩
  ·obtain⟨o',e1⟩:=I.base.there b o e hx
   exact⟨o',(hs.2 b (Nat.ne_of_lt (Nat.lt_of_lt_of_le (Heap.lt_size e) I.ok.above))).trans e1⟩
  ·by_cases hj:j=i
   ·subst hj
    rw[hi] at e1;cases e1
    rw[List.getElem?_set_self hiσ] at e2
    cases e2
    exact⟨u,r,.inl ⟨hk,by simp⟩⟩
   ·rw[List.getElem?_set_ne (Ne.symm hj)] at e2
    obtain⟨u',r',q⟩:=hl j y v' e1 e2 e3
    refine⟨u',r',?_⟩
    rcases q with ⟨k,e⟩|⟨k,c,e,z⟩
    ·refine .inl ⟨k,?_⟩
     have:y≠x:=fun e=>hj (nodup_ix hN e1 (e▸hi))
     simp[this,e]
    ·exact .inr ⟨k,c,e,z.sameBut hs (cne y c e)⟩
  ·obtain⟨w',z⟩:=I.cell y c e
   exact⟨w',z.sameBut hs (cne y c e)⟩
  ·obtain⟨e,n,ne,nf,d⟩:=I.pin p hp
   exact⟨(hs.2 p.1 ne).trans e,n,ne,nf,d⟩
 ·have hfn:X.fn x=true:=by
   rcases hf with z|z
   ·exact z
   ·rw[z] at hk;cases hk
  obtain⟨c,hc⟩:=I.ok.has x (.inl hk)
  obtain⟨w',z⟩:=I.cell x c hc
  refine wpAny_storeName_cell I.ok.kind hk hc z (fun h' hc' hs=>?_)
  obtain⟨oc,hoc,hocd⟩:=id z
  refine h {s with heap:=h'} ⟨I.ok,I.os,I.bare,⟨fun b o e n hb hx=>?_,fun b o e n hb hx=>?_,I.base.free,fun b o e hx=>?_,I.base.tups,I.base.frzs,I.base.tbls⟩,⟨m,hn.sameBut hs (Ne.symm (cne x c hc)),fun j y v' e1 e2 e3=>?_⟩,fun y c' e=>?_,I.free,I.freeC,fun p hp=>?_,tracked ⟨oc,hoc,I.freeC x c hc⟩ hs,by simpa using I.len⟩ ⟨c,hs,.inr hc⟩
  ·exact(hs.2 b (Nat.ne_of_lt (Nat.lt_of_lt_of_le (Heap.lt_size e) (I.ok.cab x c hfn hc)))).trans (I.base.keep b o e n hb hx)
  ·obtain⟨sl,e1⟩:=I.base.slot b o e n hb hx
   exact⟨sl,(hs.2 b (Nat.ne_of_lt (Nat.lt_of_lt_of_le (Heap.lt_size e) (I.ok.cab x c hfn hc)))).trans e1⟩
  ·obtain⟨o',e1⟩:=I.base.there b o e hx
   exact⟨o',(hs.2 b (Nat.ne_of_lt (Nat.lt_of_lt_of_le (Heap.lt_size e) (I.ok.cab x c hfn hc)))).trans e1⟩
  ·by_cases hj:j=i
   ·subst hj
    rw[hi] at e1;cases e1
    rw[List.getElem?_set_self hiσ] at e2
    cases e2
    exact⟨u,r,.inr ⟨.inl hk,c,hc,hc'⟩⟩
   ·rw[List.getElem?_set_ne (Ne.symm hj)] at e2
    obtain⟨u',r',q⟩:=hl j y v' e1 e2 e3
    refine⟨u',r',?_⟩
    rcases q with q|⟨k,c',e,z'⟩
    ·exact .inl q
    ·refine .inr ⟨k,c',e,z'.sameBut hs ?_⟩
     rintro rfl
     exact hj (nodup_ix hN e1 (I.ok.inj _ _ _ e hc▸hi))
  ·by_cases hcc:c'=c
   ·subst hcc;exact⟨_,hc'⟩
   ·obtain⟨w2,z2⟩:=I.cell y c' e
    exact⟨w2,z2.sameBut hs hcc⟩
  ·obtain⟨e,n,ne,nf,d⟩:=I.pin p hp
   refine⟨(hs.2 p.1 ?_).trans e,n,ne,nf,d⟩
   intro q
   rw[q,hoc] at e
   have q':oc=p.2:=Option.some.inj e
   exact d w' (by rw[←q'];exact hocd)
theorem store_ok {M:Model}{A:Around}{E:Value→Shared→Prop}{i:Nat}{x:Str}{v:V}{u:Value}{Q:Unit→Shared→Prop}(I:Inv X pins σ H s)(hN:X.N.Nodup)(hi:X.N[i]?=some x)(hx:Loc X.env.scope x)(r:RelV v u)
  (h:∀s',Inv X pins (σ.set i (some v)) H s'→Q () s') (hf:X.fn x=true∨X.env.scope.names.lookup x=some .local:=by first|exact .inl rfl|exact .inr rfl|assumption):wpAny M A (storeName X.env x u) Q E s:=
 store_ok2 I hN hi hx r (fun s' I' _=>h s' I') hf
theorem Inv.call' {s':Shared}{ch:List Addr}(I:Inv X pins σ H s)(ho:s'.os=s.os)(u:Un (frs X.stack) ch H H' s.heap s'.heap)(hok:HOk X.prog X.w H' s'.heap)(hg:AllBare s'.gens)
  (hch:∀b∈ch,(b∈X.ex∨X.s₀.heap.objs.size≤b)∧b≠X.env.locals∧(∀x c,X.env.cells.lookup x=some c→c≠b)∧∀p∈X.pn++pins,p.1≠b):Inv X pins σ H' s':=by
 obtain⟨h',g',d',t',o'⟩:=s'
 have e:o'=s.os:=ho
 subst e
 exact I.call (g':=g') (t':=t') (d':=d') u hok hg hch
end
abbrev XK:=Value→Option Addr→Hp→Prop
abbrev St:=List (Option V)
abbrev VK:=V→Hp→Prop
abbrev TE:=St→Hp→VK→Prop
abbrev TT:=St→Hp→(Bool→Hp→Prop)→Prop
abbrev TA:=St→Hp→(List V→Hp→Prop)→Prop
structure Ends where
 nx:St→Hp→Prop
 rt:VK
 bk:St→Hp→Prop:=fun _ _=>False
 ct:St→Hp→Prop:=fun _ _=>False
abbrev TS:=Ends→St→Hp→Prop
def EP (X:Cx) (pins:List (Addr×Obj)) (σ:St) (Q:VK) (u:Value) (s':Shared):Prop:=∃v H',Inv X pins σ H' s'∧RelV v u∧Q v H'
def TP (X:Cx) (pins:List (Addr×Obj)) (σ:St) (Q:Bool→Hp→Prop) (b:Bool) (s':Shared):Prop:=∃H',Inv X pins σ H' s'∧Q b H'
def AP (X:Cx) (pins:List (Addr×Obj)) (σ:St) (Q:List V→Hp→Prop) (us:List Value) (s':Shared):Prop:=∃vs H',Inv X pins σ H' s'∧Vals vs us∧Q vs H'
def SP (X:Cx) (pins:List (Addr×Obj)) (D:Ends) (f:Flow) (s':Shared):Prop:=
 match f with
 | .next=>∃σ' H',Inv X pins σ' H' s'∧D.nx σ' H'
 | .brk=>∃σ' H',Inv X pins σ' H' s'∧D.bk σ' H'
 | .cont=>∃σ' H',Inv X pins σ' H' s'∧D.ct σ' H'
 | .ret u=>∃v σ' H',Inv X pins σ' H' s'∧RelV v u∧D.rt v H'
def PE (X:Cx) (e:Expr) (t:TE):Prop:=
 ∀(pins:List (Addr×Obj)) (s:Shared) (σ:St) (H:Hp) (Q:VK),Inv X pins σ H s→t σ H Q→wpAny (model X.prog X.w) X.A (eval e X.env) (EP X pins σ Q) X.xe s
def PT (X:Cx) (e:Expr) (t:TT):Prop:=
 ∀(pins:List (Addr×Obj)) (s:Shared) (σ:St) (H:Hp) (Q:Bool→Hp→Prop),Inv X pins σ H s→t σ H Q→wpAny (model X.prog X.w) X.A (isTrue e X.env (eval e X.env)) (TP X pins σ Q) X.xe s
def PW (X:Cx) (e:Expr) (t:TT):Prop:=
 ∀(whole:Sem Value) (pins:List (Addr×Obj)) (s:Shared) (σ:St) (H:Hp) (Q:Bool→Hp→Prop),Inv X pins σ H s→t σ H Q→wpAny (model X.prog X.w) X.A (isTrue e X.env whole) (TP X pins σ Q) X.xe s
theorem PW.pt {X:Cx}{e:Expr}{t:TT}(h:PW X e t):PT X e t:=h _
def PA (X:Cx) (es:List Expr) (t:TA):Prop:=
 ∀(pos:Pos) (pins:List (Addr×Obj)) (s:Shared) (σ:St) (H:Hp) (Q:List V→Hp→Prop),Inv X pins σ H s→t σ H Q→wpAny (model X.prog X.w) X.A (spliced (backTo pos (starEach es X.env))) (AP X pins σ Q) X.xe s
def PS (X:Cx) (st:Stmt) (t:TS):Prop:=
 ∀(pins:List (Addr×Obj)) (s:Shared) (σ:St) (H:Hp) (D:Ends),Inv X pins σ H s→t D σ H→wpAny (model X.prog X.w) X.A (exec st X.env) (SP X pins D) X.xe s
def PSs (X:Cx) (st:List Stmt) (t:TS):Prop:=
 ∀(pins:List (Addr×Obj)) (s:Shared) (σ:St) (H:Hp) (D:Ends),Inv X pins σ H s→t D σ H→wpAny (model X.prog X.w) X.A (execs st X.env) (SP X pins D) X.xe s
theorem thn {α:Type}{t:Sem α}{Q Q':α→Shared→Prop}{M:Model}{A:Around}{E:Value→Shared→Prop}{s:Shared}(h:wpAny M A t Q E s)(hQ:∀a s,Q a s→Q' a s):wpAny M A t Q' E s:=wpAny_mono h hQ fun _ _ x=>x
section
variable {X:Cx}
def tVar (i:Nat):TE:=fun σ H Q=>∃v,σ[i]?=some (some v)∧Q v H
def tC (v:V):TE:=fun _ H Q=>Q v H
theorem pe_var {i:Nat}{x:Str}{pos:Pos}(hN:X.N[i]?=some x)(hv:Vis X.env.scope x)(hd:(x==("__debug__" :Str))=false:=by decide)(hcd:(x==("__classdict__" :Str))=false:=by decide):PE X (.Name x pos) (tVar i):=by
 intro pins s σ H Q I h
 obtain⟨v,e,h⟩:=h
 obtain⟨m,hn,hl⟩:=I.loc
 obtain⟨u,r,l⟩:=hl i x v hN e hv
 have fin:EP X pins σ Q u s:=⟨v,H,I,r,h⟩
 rcases l with ⟨hk,hm⟩|⟨hk,c,hc,hcell⟩
 ·exact wpAny_Name (wpAny_loadName_local I.ok.kind hk hn hm fin) hd
 ·rcases hk with hk|hk
  ·exact wpAny_Name (wpAny_loadName_cell I.ok.kind hk hc hcell fin) hd
  ·exact wpAny_Name (wpAny_loadName_free I.ok.kind hk hc hcell fin hcd) hd
theorem pe_int {i j pos}:PE X (.Constant (.int i) j pos) (tC (.int i)):=fun _ _ _ H _ I h=>wpAny_Constant_int ⟨.int i,H,I.tok _,⟨_,rfl⟩,h⟩
theorem pe_bl {b j pos}:PE X (.Constant (.bool b) j pos) (tC (.bl b)):=fun _ _ _ H _ I h=>Constant_bool ⟨.bl b,H,I,rfl,h⟩
theorem pe_non {j pos}:PE X (.Constant .none j pos) (tC .non):=fun _ _ _ H _ I h=>Constant_none ⟨.non,H,I,rfl,h⟩
theorem pe_str {x j pos}:PE X (.Constant (.str x) j pos) (tC (.str x)):=fun _ _ _ H _ I h=>Calls.Constant_str ⟨.str x,H,I.tok _,⟨_,rfl⟩,h⟩
def Gl (X:Cx) (x:Str):Prop:=X.env.kindOf x=some .globalImplicit
theorem ld_glob {E:Value→Shared→Prop}{pins:List (Addr×Obj)}{s:Shared}{σ:St}{H:Hp}{x:Str}{u:Value}{pos:Pos}{Q:Value→Shared→Prop}(I:Inv X pins σ H s)(hg:Gl X x)(hm:X.mg x=some u)(h:Q u s)
  (hd:(x==("__debug__" :Str))=false:=by decide):wpAny (model X.prog X.w) X.A (eval (.Name x pos) X.env) Q E s:=
 Calls.Name_function_global I.ok.kind hg (Calls.loadGlobal_global (by rw[I.ok.glob];exact I.mod.glob.keeps I.bk) hm h) hd
theorem ld_blt {E:Value→Shared→Prop}{pins:List (Addr×Obj)}{s:Shared}{σ:St}{H:Hp}{x:Str}{u:Value}{pos:Pos}{Q:Value→Shared→Prop}(I:Inv X pins σ H s)(hg:Gl X x)(hm:X.mg x=none)(hv:bootBuiltins x=some u)(h:Q u s)
  (hn:x≠ "__name__" :=by decide) (hd:(x==("__debug__" :Str))=false:=by decide):wpAny (model X.prog X.w) X.A (eval (.Name x pos) X.env) Q E s:=by
 obtain⟨mb,h1,h2⟩:=I.mod.blt
 exact Calls.Name_function_global I.ok.kind hg (Calls.loadGlobal_builtin (by rw[I.ok.glob];exact I.mod.glob.keeps I.bk) hm (by rw[I.ok.blt];exact h1.keeps I.bk) ((h2 x hn).trans hv) h) hd
theorem pe_glob {x:Str}{v:V}{u:Value}{pos:Pos}(hg:Gl X x)(hm:X.mg x=some u)(r:RelV v u)(hd:(x==("__debug__" :Str))=false:=by decide):PE X (.Name x pos) (tC v):=
 fun _ _ _ H _ I h=>ld_glob I hg hm ⟨v,H,I,r,h⟩ hd
theorem pe_bltn {x:Str}{v:V}{u:Value}{pos:Pos}(hg:Gl X x)(hm:X.mg x=none)(hv:bootBuiltins x=some u)(r:RelV v u)(hn:x≠ "__name__" :=by decide)(hd:(x==("__debug__" :Str))=false:=by decide):PE X (.Name x pos) (tC v):=
 fun _ _ _ H _ I h=>ld_blt I hg hm hv ⟨v,H,I,r,h⟩ hn hd
variable {a b:Expr} {ta tb:TE} {pos:Pos}
def PC (X:Cx) (op:CmpOp) (a b:Expr) (t:TE):Prop:=
 ∀(pins:List (Addr×Obj)) (s:Shared) (σ:St) (H:Hp) (Q:VK),Inv X pins σ H s→t σ H Q→
  wpAny (model X.prog X.w) X.A (eval a X.env) (fun v s₁=>wpAny (model X.prog X.w) X.A (eval b X.env) (fun u s₂=>wpAny (model X.prog X.w) X.A (compareOp op v u) (EP X pins σ Q) X.xe s₂) X.xe s₁) X.xe s
theorem nobehind (b:Expr){op:CmpOp}(h:op≠.In)(h2:op≠.NotIn):behindInMarks op b=false:=by
 have e1:(op==CmpOp.In)=false:=by cases op<;>first|rfl|exact absurd rfl h
 have e2:(op==CmpOp.NotIn)=false:=by cases op<;>first|rfl|exact absurd rfl h2
 cases b<;>simp[behindInMarks,e1,e2]
def tB (t:TE):TT:=fun σ H Q=>t σ H fun x H1=>∃c,x=.bl c∧Q c H1
theorem pe_cmp {op:CmpOp}{t:TE}(h:PC X op a b t)(h1:behindInMarks op b=false:=by first|exact nobehind _ (by decide) (by decide)|rfl):PE X (.Compare a [op] [b] pos) t:=fun pins s σ H Q I hw=>wpAny_Compare1 (h pins s σ H Q I hw) h1
theorem pt_cmp {op:CmpOp}{t:TE}(h:PC X op a b t)(h1:behindInMarks op b=false:=by first|exact nobehind _ (by decide) (by decide)|rfl):PT X (.Compare a [op] [b] pos) (tB t):=by
 intro pins s σ H Q I hw
 refine wpAny_isTrue_Compare1 (thn (h pins s σ H _ I hw) fun v s1 h1=>thn h1 fun u s2 h2=>thn h2 fun c s3 ⟨x,H1,I1,r1,q1⟩=>?_) h1
 obtain⟨d,rfl,q⟩:=q1
 cases r1
 exact wpAny_truthy_bool ⟨H1,I1,q⟩
theorem pt_val {e:Expr}{t:TE}(h:PE X e t)(he:∀whole,isTrue e X.env whole=(do let v←whole;standAt e.pos;holding [v] (truthy v)):=by intro _;rfl):PT X e (tB t):=by
 intro pins s σ H Q I hw
 refine isTrue_plain (thn (h pins s σ H _ I hw) fun v s1 ⟨x,H1,I1,r1,q1⟩=>?_) (he _)
 obtain⟨d,rfl,q⟩:=q1
 cases r1
 exact wpAny_truthy_bool ⟨H1,I1,q⟩
variable {tA tB':TT} {rest:List Expr}
def tAnd (t u:TT):TT:=fun σ H Q=>t σ H fun c H1=>if c=true then u σ H1 Q else Q false H1
def tOr (t u:TT):TT:=fun σ H Q=>t σ H fun c H1=>if c=true then Q true H1 else u σ H1 Q
def tNot (t:TT):TT:=fun σ H Q=>t σ H fun c H1=>Q (!c) H1
theorem pw_and1 (ha:PT X a tA):PW X (.BoolOp .And [a] pos) tA:=by
 intro wh pins s σ H Q I h
 refine isTrue_and (thn (ha pins s σ H Q I h) fun c s1 e=>?_)
 cases c with
 |true=>exact isTrue_and_nil e
 |false=>exact e
theorem pw_or1 (ha:PT X a tA):PW X (.BoolOp .Or [a] pos) tA:=by
 intro wh pins s σ H Q I h
 refine isTrue_or (thn (ha pins s σ H Q I h) fun c s1 e=>?_)
 cases c with
 |false=>exact isTrue_or_nil e
 |true=>exact e
theorem pw_and (ha:PT X a tA)(hb:PW X (.BoolOp .And (b::rest) pos) tB'):PW X (.BoolOp .And (a::b::rest) pos) (tAnd tA tB'):=by
 intro wh pins s σ H Q I h
 refine isTrue_and (thn (ha pins s σ H _ I h) fun c s1 ⟨H1,I1,q1⟩=>?_)
 cases c with
 |true=>exact hb wh pins s1 σ H1 Q I1 q1
 |false=>exact⟨H1,I1,q1⟩
theorem pw_or (ha:PT X a tA)(hb:PW X (.BoolOp .Or (b::rest) pos) tB'):PW X (.BoolOp .Or (a::b::rest) pos) (tOr tA tB'):=by
 intro wh pins s σ H Q I h
 refine isTrue_or (thn (ha pins s σ H _ I h) fun c s1 ⟨H1,I1,q1⟩=>?_)
 cases c with
 |true=>exact⟨H1,I1,q1⟩
 |false=>exact hb wh pins s1 σ H1 Q I1 q1
theorem pt_not (ha:PT X a tA):PT X (.UnaryOp .Not a pos) (tNot tA):=by
 intro pins s σ H Q I h
 exact isTrue_not (ha pins s σ H (fun c H1=>Q (!c) H1) I h)
def tAndV (ta tb:TE):TE:=fun σ H Q=>ta σ H fun x H1=>∃c,x=.bl c∧if c=true then tb σ H1 Q else Q (.bl false) H1
def tOrV (ta tb:TE):TE:=fun σ H Q=>ta σ H fun x H1=>∃c,x=.bl c∧if c=true then Q (.bl true) H1 else tb σ H1 Q
theorem pe_one {op}{t:TE}(h:PE X a t):PE X (.BoolOp op [a] pos) t:=fun pins s σ H Q I hw=>BoolOp_one (h pins s σ H Q I hw)
theorem pe_and (ha:PE X a ta)(hb:PE X (.BoolOp .And (b::rest) pos) tb):PE X (.BoolOp .And (a::b::rest) pos) (tAndV ta tb):=by
 intro pins s σ H Q I h
 refine BoolOp_and (thn (ha pins s σ H _ I h) fun v s1 ⟨x,H1,I1,r1,q1⟩=>?_)
 obtain⟨c,rfl,q1⟩:=q1
 cases r1
 refine wpAny_truthy_bool ?_
 cases c with
 |true=>exact hb pins s1 σ H1 Q I1 q1
 |false=>exact⟨.bl false,H1,I1,rfl,q1⟩
theorem pe_or (ha:PE X a ta)(hb:PE X (.BoolOp .Or (b::rest) pos) tb):PE X (.BoolOp .Or (a::b::rest) pos) (tOrV ta tb):=by
 intro pins s σ H Q I h
 refine BoolOp_or (thn (ha pins s σ H _ I h) fun v s1 ⟨x,H1,I1,r1,q1⟩=>?_)
 obtain⟨c,rfl,q1⟩:=q1
 cases r1
 refine wpAny_truthy_bool ?_
 cases c with
 |false=>exact hb pins s1 σ H1 Q I1 q1
 |true=>exact⟨.bl true,H1,I1,rfl,q1⟩
def tIf (t:TT) (ta tb:TE):TE:=fun σ H Q=>t σ H fun c H1=>if c=true then ta σ H1 Q else tb σ H1 Q
theorem pe_ifExp {c:Expr}(hc:PT X c tA)(ha:PE X a ta)(hb:PE X b tb):PE X (.IfExp c a b pos) (tIf tA ta tb):=by
 intro pins s σ H Q I h
 refine wpAny_IfExp (thn (hc pins s σ H _ I h) fun d s1 ⟨H1,I1,q1⟩=>?_)
 cases d with
 |true=>exact ha pins s1 σ H1 Q I1 q1
 |false=>exact hb pins s1 σ H1 Q I1 q1
end
def SqL (K:PySem.W.Frag) (H:Hp) (a:Addr) (xs:List V):Prop:=
 Rd H a (.lst xs)∨
  ∃(o:Obj) (its:Array Value) (n:Nat),K.lookup a=some o∧o.cls=.type "list" ∧o.dict=none∧o.data=.seq its n∧its.size≤sizeLine∧Vals xs its.toList
def SqT (K:PySem.W.Frag) (H:Hp) (a:Addr) (xs:List V):Prop:=
 Rd H a (.tup xs)∨
  ∃(o:Obj) (its:Array Value) (n:Nat),K.lookup a=some o∧o.cls=.type "tuple" ∧o.data=.seq its n∧its.size≤sizeLine∧Vals xs its.toList
noncomputable def absV:Value→Option V
 | .none=>some .non
 | .bool b=>some (.bl b)
 | .int i _=>some (.int i)
 | .str x _=>some (.str x)
 | .bytes b _=>some (.byt b)
 | .float b _=>some (.flt b)
 | .ref a=>some (.ref a)
 | .type n=>some (.ty n)
 |_=>none
theorem RelV.abs {x:V}{u:Value}(r:RelV x u):absV u=some x:=by
 cases x with
 |non=>cases r;rfl
 |bl _=>cases r;rfl
 |int _=>obtain⟨t,rfl⟩:=r;rfl
 |str _=>obtain⟨t,rfl⟩:=r;rfl
 |byt _=>obtain⟨t,rfl⟩:=r;rfl
 |flt _=>obtain⟨t,rfl⟩:=r;rfl
 |ref _=>cases r;rfl
 |ty _=>cases r;rfl
theorem RelV.inj {x y:V}{u:Value}(r:RelV x u)(q:RelV y u):x=y:=Option.some.inj (r.abs.symm.trans q.abs)
theorem Vals.inj:∀{xs ys:List V} {us:List Value},Vals xs us→Vals ys us→xs=ys
 |_,_,_,.nil,.nil=>rfl
 |_,_,_,.cons r t,.cons r' t'=>by rw[r.inj r',Vals.inj t t']
section
variable {X:Cx} {pins:List (Addr×Obj)} {σ:St} {H:Hp} {s:Shared} {a:Addr} {xs ys:List V}
theorem SqL.of {K:PySem.W.Frag}(h:H a=some (.lst xs)):SqL K H a xs:=.inl (.inl h)
theorem SqT.of {K:PySem.W.Frag}(h:H a=some (.tup xs)):SqT K H a xs:=.inl (.inl h)
theorem Inv.list (I:Inv X pins σ H s)(h:SqL X.K H a xs):∃its:List Value,Vals xs its∧PlainL s.heap a its.toArray∧xs.length≤sizeLine:=by
 rcases h with h|⟨o,its,n,hk,hc,hd,hs,hz,r⟩
 ·obtain⟨z,its,n,r,e⟩:=h.ok I.hok
  exact⟨its,r,⟨_,n,e,rfl,rfl,rfl⟩,z⟩
 ·refine⟨its.toList,r,⟨o,n,I.kIn a o hk,hc,hd,by simpa using hs⟩,?_⟩
  have e:=r.length
  simp only[Array.length_toList] at e
  omega
theorem Inv.tuple (I:Inv X pins σ H s)(h:SqT X.K H a xs):∃its:List Value,Vals xs its∧IsTup s.heap a its.toArray∧xs.length≤sizeLine:=by
 rcases h with h|⟨o,its,n,hk,hc,hs,hz,r⟩
 ·obtain⟨z,its,r,p⟩:=h.ok I.hok
  exact⟨its,r,p,z⟩
 ·refine⟨its.toList,r,⟨o,I.kIn a o hk,hc,n,by simpa using hs⟩,?_⟩
  have e:=r.length
  simp only[Array.length_toList] at e
  omega
theorem Inv.list_inj (I:Inv X pins σ H s)(h:SqL X.K H a xs)(h':SqL X.K H a ys):xs=ys:=by
 obtain⟨its,r,⟨o,n,e,_,_,d⟩,_⟩:=I.list h
 obtain⟨its',r',⟨o',n',e',_,_,d'⟩,_⟩:=I.list h'
 rw[e] at e';cases e'
 rw[d] at d'
 injection d' with d1 _
 have:its=its':=by simpa using congrArg Array.toList d1
 subst this
 exact r.inj r'
theorem Inv.tuple_inj (I:Inv X pins σ H s)(h:SqT X.K H a xs)(h':SqT X.K H a ys):xs=ys:=by
 obtain⟨its,r,⟨o,e,_,n,d⟩,_⟩:=I.tuple h
 obtain⟨its',r',⟨o',e',_,n',d'⟩,_⟩:=I.tuple h'
 rw[e] at e';cases e'
 rw[d] at d'
 injection d' with d1 _
 have:its=its':=by simpa using congrArg Array.toList d1
 subst this
 exact r.inj r'
end
abbrev Cx.wish (X:Cx) (E:Value→Shared→Prop):Cx:={X with xe:=E}
abbrev Cx.nox (X:Cx):Cx:=X.wish fun _ _=>False
theorem Cx.Ok.wish {X:Cx}(ok:X.Ok)(E:Value→Shared→Prop):(X.wish E).Ok:=
 ⟨ok.mod,ok.kind,ok.glob,ok.blt,ok.above,ok.inj,ok.has,ok.cab,ok.hd,ok.frames,ok.stk,ok.exf,ok.bs,ok.bsz,ok.noex,ok.exfs,ok.funs,ok.frf⟩
theorem Cx.Ok.unwish {X:Cx}{E:Value→Shared→Prop}(ok:(X.wish E).Ok):X.Ok:=
 ⟨ok.mod,ok.kind,ok.glob,ok.blt,ok.above,ok.inj,ok.has,ok.cab,ok.hd,ok.frames,ok.stk,ok.exf,ok.bs,ok.bsz,ok.noex,ok.exfs,ok.funs,ok.frf⟩
section
variable {X:Cx} {pins:List (Addr×Obj)} {σ:St} {H:Hp} {s:Shared} {E:Value→Shared→Prop}
theorem Inv.wish (I:Inv X pins σ H s)(E:Value→Shared→Prop):Inv (X.wish E) pins σ H s:=⟨I.ok.wish E,I.os,I.bare,I.base,I.loc,I.cell,I.free,I.freeC,I.pin,I.hok,I.len⟩
theorem Inv.unwish (I:Inv (X.wish E) pins σ H s):Inv X pins σ H s:=⟨I.ok.unwish,I.os,I.bare,I.base,I.loc,I.cell,I.free,I.freeC,I.pin,I.hok,I.len⟩
theorem SP.unwish {D:Ends}{f:Flow}{s':Shared}(h:SP (X.wish E) pins D f s'):SP X pins D f s':=by
 cases f with
 |next=>obtain⟨σ',H',I,q⟩:=h;exact⟨σ',H',I.unwish,q⟩
 |brk=>obtain⟨σ',H',I,q⟩:=h;exact⟨σ',H',I.unwish,q⟩
 |cont=>obtain⟨σ',H',I,q⟩:=h;exact⟨σ',H',I.unwish,q⟩
 |ret u=>obtain⟨v,σ',H',I,r,q⟩:=h;exact⟨v,σ',H',I.unwish,r,q⟩
theorem PSs.nox {st:List Stmt}{t:TS}(h:PSs X.nox st t):PSs X st t:=fun pins s σ H D I hw=>
 wpAny_mono (h pins s σ H D (I.wish _) hw) (fun _ _ q=>q.unwish) fun _ _ z=>False.elim z
end
section
variable {X:Cx} {st:Stmt} {rest:List Stmt} {t u:TS} {e:Expr} {te:TE} {pos:Pos}
def tNext:TS:=fun D σ H=>D.nx σ H
def tSeq (t u:TS):TS:=fun D σ H=>t {D with nx:=u D} σ H
theorem pss_nil:PSs X [] tNext:=fun _ _ σ H _ I h=>wpAny_execs_nil ⟨σ,H,I,h⟩
theorem pss_cons (h1:PS X st t)(h2:PSs X rest u):PSs X (st::rest) (tSeq t u):=by
 intro pins s σ H D I h
 refine wpAny_execs_cons (thn (h1 pins s σ H {D with nx:=u D} I h) fun f s1 q=>?_)
 cases f with
 |next=>
  obtain⟨σ',H',I',q⟩:=q
  exact h2 pins s1 σ' H' D I' q
 |ret v=>exact q
 |brk=>exact q
 |cont=>exact q
theorem pss_one (h1:PS X st t):PSs X [st] t:=by
 intro pins s σ H D I h
 refine wpAny_execs_cons (thn (h1 pins s σ H D I h) fun f s1 q=>?_)
 cases f with
 |next=>exact wpAny_execs_nil q
 |ret v=>exact q
 |brk=>exact q
 |cont=>exact q
theorem Inv.quiet {pins:List (Addr×Obj)}{σ:St}{H:Hp}{s:Shared}(I:Inv X pins σ H s):interactive X.env=false:=by simp[interactive,I.ok.kind]
def tDrop (te:TE):TS:=fun D σ H=>te σ H fun _ H1=>D.nx σ H1
theorem ps_expr (he:PE X e te)(hs:swapsWith e none pos.line X.env=pure false:=by rfl):PS X (.Expr e pos) (tDrop te):=by
 intro pins s σ H D I h
 exact wpAny_Expr_any (thn (he pins s σ H _ I h) fun v s1 ⟨x,H1,I1,r1,q1⟩=>⟨σ,H1,I1,q1⟩) I.quiet hs
def tRet (te:TE):TS:=fun D σ H=>te σ H D.rt
theorem ps_ret (he:PE X e te):PS X (.Return (some e) pos) (tRet te):=by
 intro pins s σ H D I h
 exact wpAny_Return_some (thn (he pins s σ H _ I h) fun v s1 ⟨x,H1,I1,r1,q1⟩=>⟨x,σ,H1,I1,r1,q1⟩)
def tIfS (c:TT) (t u:TS):TS:=fun D σ H=>c σ H fun b H1=>if b=true then t D σ H1 else u D σ H1
theorem ps_if {c:Expr}{a b:List Stmt}{tc:TT}(hc:PT X c tc)(ha:PSs X a t)(hb:PSs X b u):PS X (.If c a b pos) (tIfS tc t u):=by
 intro pins s σ H D I h
 refine wpAny_If (thn (hc pins s σ H _ I h) fun d s1 ⟨H1,I1,q1⟩=>?_)
 cases d with
 |true=>exact ha pins s1 σ H1 D I1 q1
 |false=>exact hb pins s1 σ H1 D I1 q1
def tNever:TS:=fun _ _ _=>False
theorem ps_never:PS X st tNever:=fun _ _ _ _ _ _ h=>h.elim
end
abbrev TG:=V→St→Hp→(St→Hp→Prop)→Prop
abbrev TGs:=List V→St→Hp→(St→Hp→Prop)→Prop
def PG (X:Cx) (target:Expr) (t:TG):Prop:=
 ∀(pins:List (Addr×Obj)) (s:Shared) (σ:St) (H:Hp) (v:V) (u:Value) (Q:St→Hp→Prop),Inv X pins σ H s→RelV v u→t v σ H Q→
  wpAny (model X.prog X.w) X.A (assign target X.env u) (fun _ s'=>∃σ' H',Inv X pins σ' H' s'∧Q σ' H') X.xe s
def PGs (X:Cx) (ts:List Expr) (t:TGs):Prop:=
 ∀(pins:List (Addr×Obj)) (s:Shared) (σ:St) (H:Hp) (vs:List V) (us:List Value) (Q:St→Hp→Prop),Inv X pins σ H s→Vals vs us→t vs σ H Q→
  wpAny (model X.prog X.w) X.A (assignInOrder ((assignEach ts X.env).map (·.2)) us) (fun _ s'=>∃σ' H',Inv X pins σ' H' s'∧Q σ' H') X.xe s
section
variable {X:Cx} {pos:Pos}
def gName (i:Nat):TG:=fun v σ H Q=>Q (σ.set i (some v)) H
theorem pg_name {i:Nat}{x:Str}(hN:X.N.Nodup)(hi:X.N[i]?=some x)(hx:Loc X.env.scope x)(hf:X.fn x=true∨X.env.scope.names.lookup x=some .local:=by first|exact .inl rfl|exact .inr rfl|assumption):PG X (.Name x pos) (gName i):=by
 intro pins s σ H v u Q I r h
 exact wpAny_assign_Name (store_ok I hN hi hx r (fun s' I'=>⟨_,H,I',h⟩) hf)
def gNil:TGs:=fun vs σ H Q=>vs=[]∧Q σ H
noncomputable def gCons (t:TG) (u:TGs):TGs:=fun vs σ H Q=>∃v r,vs=v::r∧t v σ H fun σ' H'=>u r σ' H' Q
theorem pgs_nil:PGs X [] gNil:=by
 intro pins s σ H vs us Q I r h
 obtain⟨e,h⟩:=h
 subst e
 cases r
 exact assignInOrder_nil ⟨σ,H,I,h⟩
theorem pgs_cons {e:Expr}{es:List Expr}{t:TG}{u:TGs}(h1:PG X e t)(h2:PGs X es u)
  (hs:(assignEach (e::es) X.env).map (·.2)=assign e X.env::(assignEach es X.env).map (·.2):=by rfl):PGs X (e::es) (gCons t u):=by
 intro pins s σ H vs us Q I r h
 obtain⟨v,vr,e1,h⟩:=h
 subst e1
 cases r with
 |cons r rr=>
  rw[hs]
  refine assignInOrder_cons (thn (h1 pins s σ H _ _ _ I r h) fun _ s1 ⟨σ1,H1,I1,q1⟩=>?_)
  exact h2 pins s1 σ1 H1 _ _ Q I1 rr q1
def gTup (K:PySem.W.Frag) (n:Nat) (t:TGs):TG:=fun v σ H Q=>∃a xs,v=.ref a∧SqT K H a xs∧xs.length=n∧t xs σ H Q
theorem pg_tup {es:List Expr}{k:Nat}{t:TGs}{n:Nat}(hc:X.calm=true)(h:PGs X es t)
  (hn:(assignEach es X.env).length=n:=by rfl) (hst:(assignEach es X.env).findIdx? (·.1)=none:=by rfl):PG X (.Tuple es k pos) (gTup X.K n t):=by
 intro pins s σ H v u Q I r hw
 obtain⟨a,xs,e1,hq,hl,hw⟩:=hw
 subst e1
 cases r
 obtain⟨its,rv,ht,hz⟩:=I.tuple hq
 refine assign_Tuple_tuple (I.ok.hd hc) ht (by simp[hn,←hl,rv.length]) hst fun h' hx=>?_
 have I1:Inv X pins σ H {s with heap:=h'}:=I.kept (t':=s.toks) fun b o e=>hx b o (Nat.ne_of_lt (Heap.lt_size e)) e
 exact h pins _ σ H xs _ Q I1 (by simpa using rv) hw
def tAsg (te:TE) (g:TG):TS:=fun D σ H=>te σ H fun x H1=>g x σ H1 D.nx
theorem ps_asg {tg e:Expr}{te:TE}{g:TG}(he:PE X e te)(hg:PG X tg g)(hs:swapsWithSole [tg] e pos.line X.env=pure false:=by rfl)(hw:swappedStores [tg] e X.env=pure none:=by rfl)
  (h1:(assignEach [tg] X.env).map (·.2)=[assign tg X.env]:=by rfl):PS X (.Assign [tg] e pos) (tAsg te g):=by
 intro pins s σ H D I h
 refine wpAny_Assign_stores (thn (he pins s σ H _ I h) fun v s1 ⟨x,H1,I1,r1,q1⟩=>?_) hs hw
 rw[h1]
 exact thn (hg pins s1 σ H1 x v _ I1 r1 q1) fun _ s2 q=>q
theorem ps_set {i:Nat}{x:Str}{e:Expr}{te:TE}{pos':Pos}(hN:X.N.Nodup)(hi:X.N[i]?=some x)(hx:Loc X.env.scope x)(he:PE X e te)(hs:swapsWith e (some (.Name x pos')) pos.line X.env=pure false:=by rfl)(hf:X.fn x=true∨X.env.scope.names.lookup x=some .local:=by first|exact .inl rfl|exact .inr rfl|assumption):
  PS X (.Assign [.Name x pos'] e pos) (tAsg te (gName i)):=by
 intro pins s σ H D I h
 refine wpAny_Assign_Name (thn (he pins s σ H _ I h) fun v s1 ⟨y,H1,I1,r1,q1⟩=>?_) hs
 exact store_ok I1 hN hi hx r1 (fun s2 I2=>⟨_,H1,I2,q1⟩) hf
end
section
variable {X:Cx} {pos:Pos}
end
structure It where
 go:Nat→Hp→Prop
 yld:Nat→Hp→V→Hp→Prop
 stop:Nat→Hp→Prop
def FpOk (X:Cx) (pins:List (Addr×Obj)) (H:Hp) (b:Addr):Prop:=
 H b=none∧b≠X.env.locals∧b∉X.fs∧(b∈X.ex∨X.s₀.heap.objs.size≤b)∧(∀x c,X.env.cells.lookup x=some c→c≠b)∧∀p∈X.pn++pins,p.1≠b
theorem Inv.fpOk {X:Cx}{pins:List (Addr×Obj)}{σ:St}{H H':Hp}{s:Shared}{b:Addr}(I:Inv X pins σ H s)(hb:s.heap.objs.size≤b)(hn:H' b=none):FpOk X pins H' b:=by
 refine⟨hn,Nat.ne_of_gt (Nat.lt_of_lt_of_le I.lt hb),I.nofs hb,.inr (Nat.le_trans I.sz hb),fun x c e z=>?_,fun p hp z=>?_⟩
 ·obtain⟨v,q⟩:=I.cell x c e
  exact absurd (Nat.lt_of_lt_of_le q.lt (by rw[z];exact hb)) (Nat.lt_irrefl _)
 ·exact absurd (Nat.lt_of_lt_of_le (Heap.lt_size (I.pin p hp).1) (by rw[z];exact hb)) (Nat.lt_irrefl _)
structure Turn (P:Program) (w:World) (K:PySem.W.Frag) (tg:Expr) (J:It) (fp:List Addr) (it:Addr) (tn:Nat→Heap→Prop):Prop where
 mem:it∈fp
 obj:∀i h,tn i h→∀b∈fp,∃o,h.get? b=some o∧∀v,o.data≠.cell v
 keep:∀i h h',tn i h→(∀b∈fp,∀o,h.get? b=some o→h'.get? b=some o)→tn i h'
 item:∀(X:Cx),X.prog=P→X.w=w→X.K=K→X.calm=true→∀(i:Nat) (pins:List (Addr×Obj)) (s:Shared) (σ:St) (H:Hp) (E:Value→Shared→Prop),Inv X pins σ H s→(∀b∈fp,FpOk X pins H b)→tn i s.heap→J.go i H→
  wpAny (model P w) X.A (pyNext (.ref it)) (fun r s1=>∃u,r=some u∧
   wpAny (model P w) X.A (letOwnedTupleGo tg (.ref it) u) (fun _ s2=>∃x H',Inv X pins σ H' s2∧RelV x u∧J.yld i H x H'∧tn (i+1) s2.heap∧∀b∈fp,H' b=none) E s1) E s
 done:∀(X:Cx),X.prog=P→X.w=w→X.K=K→X.calm=true→∀(i:Nat) (pins:List (Addr×Obj)) (s:Shared) (σ:St) (H:Hp) (E:Value→Shared→Prop),Inv X pins σ H s→(∀b∈fp,FpOk X pins H b)→tn i s.heap→J.stop i H→
  wpAny (model P w) X.A (pyNext (.ref it)) (fun r s1=>r=none∧Inv X pins σ H s1) E s
 self:∀(A:Around) (i:Nat) (s:Shared) (Q:Value→Shared→Prop) (E:Value→Shared→Prop),tn i s.heap→Q (.ref it) s→wpAny (model P w) A (pyIter (.ref it)) Q E s
abbrev TI:=St→Hp→(It→Hp→Prop)→Prop
def PIE (X:Cx) (pins:List (Addr×Obj)) (σ:St) (tg:Expr) (R:It→Hp→Prop) (itv:Value) (s2:Shared):Prop:=
 ∃(it:Addr) (fp:List Addr) (tn:Nat→Heap→Prop) (J:It) (H':Hp),itv=.ref it∧Inv X pins σ H' s2∧Turn X.prog X.w X.K tg J fp it tn∧tn 0 s2.heap∧(∀b∈fp,FpOk X pins H' b)∧R J H'
def PI (X:Cx) (tg iter:Expr) (wi:TI):Prop:=
 ∀(pins:List (Addr×Obj)) (s:Shared) (σ:St) (H:Hp) (R:It→Hp→Prop),Inv X pins σ H s→wi σ H R→
  wpAny (model X.prog X.w) X.A (eval iter X.env) (fun v s1=>wpAny (model X.prog X.w) X.A (pyIter v) (PIE X pins σ tg R) X.xe s1) X.xe s
theorem go_of {M:Model}{A:Around}{E:Value→Shared→Prop}{s:Shared}{tg:Expr}{it:Addr}{u:Value}{o:Obj}{n:String}{vs:Array Value}{Q:Unit→Shared→Prop}(ho:s.heap.get? it=some o)(hc:o.cls=.type n)(hd:o.data=.fields vs)
  (hn:["enumerate", "zip", "dict_itemiterator", "dict_reverseitemiterator", "odict_iterator", "itertools.zip_longest", "itertools.pairwise"].contains n=false) (hQ:Q () s):wpAny M A (letOwnedTupleGo tg (.ref it) u) Q E s:=by
 unfold letOwnedTupleGo
 cases tg<;>first
  |exact wpAny_pure hQ
  |(cases u<;>first
    |exact wpAny_pure hQ
    |(refine wpAny_bind (wpAny_load ho ?_)
      rw[hc,hd]
      show wpAny M A (if (["enumerate", "zip", "dict_itemiterator", "dict_reverseitemiterator", "odict_iterator", "itertools.zip_longest", "itertools.pairwise"].contains n&&vs[0]?==some (rawInt _))=true then _ else _) Q E s
      rw[if_neg (by intro h;rw[hn,Bool.false_and] at h;cases h)]
      exact wpAny_pure hQ))
noncomputable def Itl (K:PySem.W.Frag) (a:Addr):It:=
 ⟨fun i H=>∃xs x,SqL K H a xs∧xs[i]?=some x,fun i H x H'=>H'=H∧∀xs,SqL K H a xs→xs[i]?=some x,fun i H=>∃xs,SqL K H a xs∧xs.length≤i⟩
noncomputable def Itt (K:PySem.W.Frag) (a:Addr):It:=
 ⟨fun i H=>∃xs x,SqT K H a xs∧xs[i]?=some x,fun i H x H'=>H'=H∧∀xs,SqT K H a xs→xs[i]?=some x,fun i H=>∃xs,SqT K H a xs∧xs.length≤i⟩
noncomputable def Itr (lo:Int) (n:Nat):It:=⟨fun i _=>i<n,fun i H x H'=>H'=H∧x=.int (lo+i),fun i _=>n≤i⟩
theorem turn_list {P:Program}{w:World}{K:PySem.W.Frag}{tg:Expr}(a it:Addr):Turn P w K tg (Itl K a) [it] it (fun i h=>h.IsListIter it a i) where
 mem:=by simp
 obj:=fun i h st b hb=>by
  have e:b=it:=by simpa using hb
  subst e
  obtain⟨o,e,c,d⟩:=st
  exact⟨o,e,fun v z=>by rw[d] at z;cases z⟩
 keep:=fun i h h' st k=>st.at fun o e=>k it (by simp) o e
 item:=by
  intro X hP hw hK hc i pins s σ H E I hf st hg
  subst hP hw hK
  obtain⟨xs,x,hq,hx⟩:=hg
  obtain⟨its,rv,p,hz⟩:=I.list hq
  obtain⟨u,hu,ru⟩:=rv.get hx
  obtain⟨f0,f1,f2,f3,f4,f5⟩:=hf it (by simp)
  refine wpAny_pyNext_list_item st p.isList (x:=u) (by simpa using hu) fun h' st' sb=>?_
  have I1:Inv X pins σ H {s with heap:=h'}:=I.turned (t':=s.toks) (fun b o hb e=>(sb.2 b hb).trans e) f0 f1 f3 f4 f5
  obtain⟨o,e,c,d⟩:=id st'
  exact⟨u,rfl,go_of (s:={s with heap:=h'}) e c d (by decide) ⟨x,H,I1,ru,⟨rfl,fun ys hy=>by rw[I.list_inj hy hq];exact hx⟩,st',fun b hb=>(hf b hb).1⟩⟩
 done:=by
  intro X hP hw hK hc i pins s σ H E I hf st hg
  subst hP hw hK
  obtain⟨xs,hq,hx⟩:=hg
  obtain⟨its,rv,p,hz⟩:=I.list hq
  obtain⟨f0,f1,f2,f3,f4,f5⟩:=hf it (by simp)
  have hl:=rv.length
  exact wpAny_pyNext_list_end (I.ok.hd hc) st p.isList (by simp;omega) fun h' eb=>⟨rfl,I.turned (t':=s.toks) (fun b o hb e=>eb b o hb e) f0 f1 f3 f4 f5⟩
 self:=fun _ _ _ _ _ st h=>wpAny_pyIter_listiter st h
theorem turn_tuple {P:Program}{w:World}{K:PySem.W.Frag}{tg:Expr}(a it:Addr):Turn P w K tg (Itt K a) [it] it (fun i h=>h.IsTupleIter it a i) where
 mem:=by simp
 obj:=fun i h st b hb=>by
  have e:b=it:=by simpa using hb
  subst e
  obtain⟨o,e,c,d⟩:=st
  exact⟨o,e,fun v z=>by rw[d] at z;cases z⟩
 keep:=fun i h h' st k=>st.at fun o e=>k it (by simp) o e
 item:=by
  intro X hP hw hK hc i pins s σ H E I hf st hg
  subst hP hw hK
  obtain⟨xs,x,hq,hx⟩:=hg
  obtain⟨its,rv,p,hz⟩:=I.tuple hq
  obtain⟨u,hu,ru⟩:=rv.get hx
  obtain⟨f0,f1,f2,f3,f4,f5⟩:=hf it (by simp)
  refine wpAny_pyNext_tuple_item st (show s.heap.IsTuple a its.toArray from p) (x:=u) (by simpa using hu) fun h' st' sb=>?_
  have I1:Inv X pins σ H {s with heap:=h'}:=I.turned (t':=s.toks) (fun b o hb e=>(sb.2 b hb).trans e) f0 f1 f3 f4 f5
  obtain⟨o,e,c,d⟩:=id st'
  exact⟨u,rfl,go_of (s:={s with heap:=h'}) e c d (by decide) ⟨x,H,I1,ru,⟨rfl,fun ys hy=>by rw[I.tuple_inj hy hq];exact hx⟩,st',fun b hb=>(hf b hb).1⟩⟩
 done:=by
  intro X hP hw hK hc i pins s σ H E I hf st hg
  subst hP hw hK
  obtain⟨xs,hq,hx⟩:=hg
  obtain⟨its,rv,p,hz⟩:=I.tuple hq
  obtain⟨f0,f1,f2,f3,f4,f5⟩:=hf it (by simp)
  have hl:=rv.length
  exact wpAny_pyNext_tuple_end (I.ok.hd hc) st (show s.heap.IsTuple a its.toArray from p) (by simp;omega) fun h' eb=>⟨rfl,I.turned (t':=s.toks) (fun b o hb e=>eb b o hb e) f0 f1 f3 f4 f5⟩
 self:=fun _ _ _ _ _ st h=>wpAny_pyIter_tupleiter st h
theorem turn_range {P:Program}{w:World}{K:PySem.W.Frag}{tg:Expr}(it:Addr)(lo:Int)(n:Nat):Turn P w K tg (Itr lo n) [it] it (fun i h=>IsRangeIter h it (lo+(i:Nat)*1) ((n:Int) - (i:Nat)) 1) where
 mem:=by simp
 obj:=fun i h st b hb=>by
  have e:b=it:=by simpa using hb
  subst e
  exact⟨_,st,fun v z=>by
   have z':Data.fields _=Data.cell v:=z
   cases z'⟩
 keep:=fun i h h' st k=>k it (by simp) _ st
 item:=by
  intro X hP hw hK hc i pins s σ H E I hf st hg
  subst hP hw hK
  obtain⟨f0,f1,f2,f3,f4,f5⟩:=hf it (by simp)
  have W:=Walks.range (prog:=X.prog) (w:=X.w) (I.ok.hd hc) it lo 1 n
  refine W.item i s _ _ hg st fun v h' tk hv st' kk=>?_
  obtain⟨t,rfl⟩:=hv
  have I1:Inv X pins σ H {s with heap:=h',toks:=tk}:=I.turned (fun b o hb e=>kk b o (by simpa using hb) e) f0 f1 f3 f4 f5
  refine⟨_,rfl,go_of (s:={s with heap:=h',toks:=tk}) (n:= "range_iterator") st' rfl rfl (by decide) ⟨.int (lo+i),H,I1,⟨t,?_⟩,⟨rfl,rfl⟩,st',fun b hb=>(hf b hb).1⟩⟩
  rw[Int.mul_one]
 done:=by
  intro X hP hw hK hc i pins s σ H E I hf st hg
  subst hP hw hK
  obtain⟨f0,f1,f2,f3,f4,f5⟩:=hf it (by simp)
  exact wpAny_pyNext_range_end (I.ok.hd hc) st (by have:n≤i:=hg;omega) fun h' eb=>⟨rfl,I.turned (t':=s.toks) (fun b o hb e=>eb b o hb e) f0 f1 f3 f4 f5⟩
 self:=fun _ _ _ _ _ st h=>wpAny_pyIter_rangeiter st h
section
variable {X:Cx} {tg:Expr}
def iList (K:PySem.W.Frag) (tl:TE):TI:=fun σ H R=>tl σ H fun x H1=>∃a,x=.ref a∧(∃xs,SqL K H1 a xs)∧R (Itl K a) H1
def iTup (K:PySem.W.Frag) (tl:TE):TI:=fun σ H R=>tl σ H fun x H1=>∃a,x=.ref a∧(∃xs,SqT K H1 a xs)∧R (Itt K a) H1
theorem pi_list {l:Expr}{tl:TE}(hl:PE X l tl):PI X tg l (iList X.K tl):=by
 intro pins s σ H R I h
 refine thn (hl pins s σ H _ I h) fun v s1 ⟨x,H1,I1,r1,q1⟩=>?_
 obtain⟨a,e,⟨xs,hq⟩,q⟩:=q1
 subst e
 cases r1
 obtain⟨its,rv,p,hz⟩:=I1.list hq
 refine wpAny_pyIter_list p.isList ?_
 refine⟨s1.heap.objs.size,[s1.heap.objs.size],_,_,H1,rfl,I1.kept (t':=s1.toks) fun b o e=>Heap.get?_push_of_some _ e,turn_list a _,⟨_,Heap.get?_push_size _ rfl,rfl,rfl⟩,fun b hb=>?_,q⟩
 have e:b=s1.heap.objs.size:=by simpa using hb
 subst e
 exact I1.fpOk (Nat.le_refl _) (I1.hok.fresh (Nat.le_refl _))
theorem pi_tup {l:Expr}{tl:TE}(hl:PE X l tl):PI X tg l (iTup X.K tl):=by
 intro pins s σ H R I h
 refine thn (hl pins s σ H _ I h) fun v s1 ⟨x,H1,I1,r1,q1⟩=>?_
 obtain⟨a,e,⟨xs,hq⟩,q⟩:=q1
 subst e
 cases r1
 obtain⟨its,rv,p,hz⟩:=I1.tuple hq
 refine wpAny_pyIter_tuple (show s1.heap.IsTuple a its.toArray from p) ?_
 refine⟨s1.heap.objs.size,[s1.heap.objs.size],_,_,H1,rfl,I1.kept (t':=s1.toks) fun b o e=>Heap.get?_push_of_some _ e,turn_tuple a _,⟨_,Heap.get?_push_size _ rfl,rfl,rfl⟩,fun b hb=>?_,q⟩
 have e:b=s1.heap.objs.size:=by simpa using hb
 subst e
 exact I1.fpOk (Nat.le_refl _) (I1.hok.fresh (Nat.le_refl _))
theorem range_it {pins:List (Addr×Obj)}{σ:St}{H:Hp}{s:Shared}{R:It→Hp→Prop}{E:Value→Shared→Prop}{lo hi:Int}{t u v:Tok}{tk:Nat}(I:Inv X pins σ H s)(h1: -(2^62)≤lo)(h2:lo<2^62)(h3: -(2^62)≤hi)(h4:hi<2^62)
  (q:R (Itr lo (hi - lo).toNat) H):wpAny (model X.prog X.w) X.A (pyIter (.ref s.heap.objs.size)) (PIE X pins σ tg R) E {s with heap:=s.heap.push {cls:=.type "range",data:=.fields #[.int lo t,.int hi u,.int 1 v]},toks:=tk}:=by
 refine wpAny_pyIter_range (IsRange.new ..) (small_one h1 h2 h3 h4) ?_
 have I1:Inv X pins σ H {s with heap:=s.heap.push {cls:=.type "range",data:=.fields #[.int lo t,.int hi u,.int 1 v]},toks:=tk}:=I.kept fun b o e=>Heap.get?_push_of_some _ e
 refine⟨(s.heap.push {cls:=.type "range",data:=.fields #[.int lo t,.int hi u,.int 1 v]}).objs.size,[(s.heap.push {cls:=.type "range",data:=.fields #[.int lo t,.int hi u,.int 1 v]}).objs.size],_,_,H,rfl,
  I1.kept (t':=tk) fun b o e=>Heap.get?_push_of_some _ e,turn_range _ lo (hi - lo).toNat,?_,fun b hb=>?_,q⟩
 ·have e1:lo+((0:Nat):Int)*1=lo:=by simp
  have e2:(((hi - lo).toNat:Nat):Int) - ((0:Nat):Int)=Builtin.Range.rangeSize lo hi 1:=by rw[rangeSize_one];split<;>omega
  show IsRangeIter _ _ (lo+((0:Nat):Int)*1) ((((hi - lo).toNat:Nat):Int) - ((0:Nat):Int)) 1
  rw[e1,e2]
  exact Heap.get?_push_size _ rfl
 ·have e:b=(s.heap.push {cls:=.type "range",data:=.fields #[.int lo t,.int hi u,.int 1 v]}).objs.size:=by simpa using hb
  subst e
  exact I1.fpOk (Nat.le_refl _) (I1.hok.fresh (Nat.le_refl _))
def iRng1 (ta:TA):TI:=fun σ H R=>ta σ H fun vs H1=>∃j:Int,vs=[.int j]∧ -(2^62)≤j∧j<2^62∧R (Itr 0 j.toNat) H1
def iRng2 (ta:TA):TI:=fun σ H R=>ta σ H fun vs H1=>∃i j:Int,vs=[.int i,.int j]∧(-(2^62)≤i∧i<2^62∧ -(2^62)≤j∧j<2^62)∧R (Itr i (j - i).toNat) H1
theorem pi_range1 {a:Expr}{ta:TA}{p pos:Pos}(hg:Gl X "range")(hm:X.mg "range" =none)(ha:PA X [a] ta)(hs:starEach [a] X.env=[(false,eval a X.env)]:=by rfl):PI X tg (.Call (.Name "range" p) [a] [] pos) (iRng1 ta):=by
 intro pins s σ H R I h
 refine Call_ (ld_blt I hg hm boot_range (PyProof.Rows.callWith_type1 (thn (ha pos pins s σ H _ I h) fun us s1 ⟨vs,H1,I1,r1,q1⟩=>?_) hs rfl))
 obtain⟨j,e,q1,q2,q⟩:=q1
 subst e
 cases r1 with
 |cons r rr=>
  cases rr
  obtain⟨t,rfl⟩:=r
  exact call_range_1 (range_it I1 (by omega) (by omega) q1 q2 (by simpa using q))
theorem pi_range2 {a b:Expr}{ta:TA}{p pos:Pos}(hg:Gl X "range")(hm:X.mg "range" =none)(ha:PA X [a,b] ta)(hs:starEach [a,b] X.env=[(false,eval a X.env),(false,eval b X.env)]:=by rfl)(hs2:starEach [b] X.env=[(false,eval b X.env)]:=by rfl):
  PI X tg (.Call (.Name "range" p) [a,b] [] pos) (iRng2 ta):=by
 intro pins s σ H R I h
 refine Call_ (ld_blt I hg hm boot_range (PyProof.Rows.callWith_type1 (thn (ha pos pins s σ H _ I h) fun us s1 ⟨vs,H1,I1,r1,q1⟩=>?_) (by rw[hs,hs2]) (by rw[hs2];rfl)))
 obtain⟨i,j,e,⟨q1,q2,q3,q4⟩,q⟩:=q1
 subst e
 cases r1 with
 |cons r rr=>
  cases rr with
  |cons r' rr=>
   cases rr
   obtain⟨t,rfl⟩:=r
   obtain⟨t',rfl⟩:=r'
   exact call_range_2 (range_it I1 q1 q2 q3 q4 q)
def tFor (wi:TI) (g:TG) (tb:TS):TS:=fun D σ H=>wi σ H fun J H1=>∃W:Nat→Nat→St→Hp→Prop,(∃m,W 0 m σ H1)∧∀i m σ H,W i m σ H→
 (J.stop i H∧D.nx σ H)∨(J.go i H∧∃N:St→Hp→Prop,(∀σ' H',N σ' H'→∃m',m'<m∧W (i+1) m' σ' H')∧∀x H',J.yld i H x H'→g x σ H' fun σ2 H2=>tb {D with nx:=N,ct:=N,bk:=D.nx} σ2 H2)
noncomputable def pinsAt (fp:List Addr) (h:Heap):List (Addr×Obj):=fp.filterMap fun b=>(h.get? b).map fun o=>(b,o)
theorem mem_pinsAt {fp:List Addr}{h:Heap}{b:Addr}{o:Obj}(hb:b∈fp)(e:h.get? b=some o):(b,o)∈pinsAt fp h:=List.mem_filterMap.mpr ⟨b,hb,by rw[e];rfl⟩
theorem of_pinsAt {fp:List Addr}{h:Heap}{p:Addr×Obj}(hp:p∈pinsAt fp h):p.1∈fp∧h.get? p.1=some p.2:=by
 obtain⟨b,hb,e⟩:=List.mem_filterMap.mp hp
 cases q:h.get? b with
 |none=>rw[q] at e;cases e
 |some o=>
  rw[q] at e
  have e':(b,o)=p:=Option.some.inj e
  subst e'
  exact⟨hb,q⟩
theorem Inv.pinned {pins:List (Addr×Obj)}{σ:St}{H:Hp}{s:Shared}{fp:List Addr}(I:Inv X pins σ H s)(hf:∀b∈fp,FpOk X pins H b)(ho:∀b∈fp,∃o,s.heap.get? b=some o∧∀v,o.data≠.cell v):Inv X (pins++pinsAt fp s.heap) σ H s:=
 I.pins_of fun p hp=>(List.mem_append.mp hp).elim (fun z=>I.pin p (List.mem_append_right _ z)) fun z=>by
  obtain⟨hb,e⟩:=of_pinsAt z
  obtain⟨f0,f1,f2,_⟩:=hf p.1 hb
  obtain⟨o,e',d⟩:=ho p.1 hb
  rw[e] at e';cases e'
  exact⟨e,f0,f1,f2,d⟩
theorem Inv.unpinned {pins pl:List (Addr×Obj)}{σ:St}{H:Hp}{s:Shared}(I:Inv X (pins++pl) σ H s):Inv X pins σ H s:=I.pins_of fun p hp=>I.pin p (List.mem_append_right _ (List.mem_append_left _ hp))
theorem ps_for {iter:Expr}{body:List Stmt}{wi:TI}{g:TG}{tb:TS}{pos:Pos}(hp:PassesOwn (model X.prog X.w) X.A X.env X.xe)(hc:X.calm=true)(hi:PI X tg iter wi)(hg:PG X tg g)(hb:PSs X body tb)
  (hs:∀x,foldedSetIterable iter X.env x=pure x:=by intro _;rfl):PS X (.For tg iter body [] pos) (tFor wi g tb):=by
 intro pins s σ H D I h
 refine wpAny_For (thn (hi pins s σ H _ I h) fun v s1 h1=>thn h1 fun itv s2 h2=>?_) hs
 obtain⟨it,fp,tn,J,H2,e,I2,T,st2,f2,W,⟨m0,w0⟩,turn⟩:=h2
 subst e
 have stat:∀{H':Hp},(∀b∈fp,H' b=none)→∀b∈fp,FpOk X pins H' b:=fun hn b hb=>⟨hn b hb,(f2 b hb).2⟩
 refine codeAny_forLoop_any (fun n s'=>∃i σ' H',Inv X pins σ' H' s'∧tn i s'.heap∧(∀b∈fp,H' b=none)∧W i n σ' H') ?_ m0 ⟨0,σ,H2,I2,st2,fun b hb=>(f2 b hb).1,w0⟩
 rintro n s3 ⟨i,σ3,H3,I3,st3,fr3,w3⟩
 rcases turn i n σ3 H3 w3 with ⟨stop,qn⟩|⟨go,N,hN,step⟩
 ·refine wpAny_passesOwn hp (thn (T.done X rfl rfl rfl hc i pins s3 σ3 H3 X.xe I3 (stat fr3) st3 stop) fun r s4 ⟨hr,I4⟩=>?_)
  subst hr
  exact wpAny_execs_nil ⟨σ3,H3,I4,qn⟩
 ·refine wpAny_passesOwn hp (thn (T.item X rfl rfl rfl hc i pins s3 σ3 H3 X.xe I3 (stat fr3) st3 go) fun r s4 ⟨u,hr,h4⟩=>?_)
  subst hr
  refine wpAny_passesOwn hp (thn h4 fun _ s5 ⟨x,H5,I5,r5,y5,st5,fr5⟩=>?_)
  have I5':=I5.pinned (stat fr5) (T.obj _ _ st5)
  refine wpAny_passesOwn hp (thn (hg _ s5 σ3 H5 x u _ I5' r5 (step x H5 y5)) fun _ s6 ⟨σ6,H6,I6,q6⟩=>?_)
  refine wpAny_passesOwn hp (thn (hb _ s6 σ6 H6 _ I6 q6) fun f s7 q7=>?_)
  have again:∀{σ7:St} {H7:Hp},Inv X (pins++pinsAt fp s5.heap) σ7 H7 s7→N σ7 H7→∃m,m<n∧∃i σ' H',Inv X pins σ' H' s7∧tn i s7.heap∧(∀b∈fp,H' b=none)∧W i m σ' H':=fun{σ7 H7} I7 n7=>by
   obtain⟨m',hm,w7⟩:=hN σ7 H7 n7
   refine⟨m',hm,i+1,σ7,H7,I7.unpinned,T.keep _ _ _ st5 fun b hb o e=>(I7.pin (b,o) (List.mem_append_right _ (List.mem_append_right _ (mem_pinsAt hb e)))).1,fun b hb=>?_,w7⟩
   obtain⟨o,e,d⟩:=T.obj _ _ st5 b hb
   exact(I7.pin (b,o) (List.mem_append_right _ (List.mem_append_right _ (mem_pinsAt hb e)))).2.1
  cases f with
  |next=>obtain⟨σ7,H7,I7,n7⟩:=q7;exact again I7 n7
  |cont=>obtain⟨σ7,H7,I7,n7⟩:=q7;exact again I7 n7
  |brk=>obtain⟨σ7,H7,I7,q7⟩:=q7;exact⟨σ7,H7,I7.unpinned,q7⟩
  |ret v=>obtain⟨x7,σ7,H7,I7,r7,q7⟩:=q7;exact⟨x7,σ7,H7,I7.unpinned,r7,q7⟩
end
theorem for_list {K:PySem.W.Frag}{a:Addr}{xs:List V}{g:TG}{tb:TS}{D:Ends}{σ:St}{H:Hp}(Pv:Nat→St→Hp→Prop)(h0:Pv 0 σ H)(hl:∀i σ H,i≤xs.length→Pv i σ H→SqL K H a xs)
  (hs:∀i x σ H,xs[i]?=some x→Pv i σ H→g x σ H fun σ2 H2=>tb {D with nx:=Pv (i+1),ct:=Pv (i+1),bk:=D.nx} σ2 H2) (hd:∀σ H,Pv xs.length σ H→D.nx σ H):
  ∃W:Nat→Nat→St→Hp→Prop,(∃m,W 0 m σ H)∧∀i m σ H,W i m σ H→
   ((Itl K a).stop i H∧D.nx σ H)∨((Itl K a).go i H∧∃N:St→Hp→Prop,(∀σ' H',N σ' H'→∃m',m'<m∧W (i+1) m' σ' H')∧∀x H',(Itl K a).yld i H x H'→g x σ H' fun σ2 H2=>tb {D with nx:=N,ct:=N,bk:=D.nx} σ2 H2):=by
 refine⟨fun i m σ H=>m=xs.length - i∧i≤xs.length∧Pv i σ H,⟨xs.length,by simp,Nat.zero_le _,h0⟩,?_⟩
 rintro i m σ H ⟨rfl,hi,p⟩
 have q:=hl i σ H hi p
 by_cases hlt:i<xs.length
 ·refine .inr ⟨⟨xs,xs[i],q,by simp[hlt]⟩,Pv (i+1),fun σ' H' p'=>⟨xs.length - (i+1),by omega,rfl,hlt,p'⟩,fun x H' y=>?_⟩
  obtain⟨e,y⟩:=y
  subst e
  exact hs i x σ _ (y xs q) p
 ·have e:i=xs.length:=by omega
  subst e
  exact .inl ⟨⟨xs,q,Nat.le_refl _⟩,hd σ H p⟩
theorem for_tup {K:PySem.W.Frag}{a:Addr}{xs:List V}{g:TG}{tb:TS}{D:Ends}{σ:St}{H:Hp}(Pv:Nat→St→Hp→Prop)(h0:Pv 0 σ H)(hl:∀i σ H,i≤xs.length→Pv i σ H→SqT K H a xs)
  (hs:∀i x σ H,xs[i]?=some x→Pv i σ H→g x σ H fun σ2 H2=>tb {D with nx:=Pv (i+1),ct:=Pv (i+1),bk:=D.nx} σ2 H2) (hd:∀σ H,Pv xs.length σ H→D.nx σ H):
  ∃W:Nat→Nat→St→Hp→Prop,(∃m,W 0 m σ H)∧∀i m σ H,W i m σ H→
   ((Itt K a).stop i H∧D.nx σ H)∨((Itt K a).go i H∧∃N:St→Hp→Prop,(∀σ' H',N σ' H'→∃m',m'<m∧W (i+1) m' σ' H')∧∀x H',(Itt K a).yld i H x H'→g x σ H' fun σ2 H2=>tb {D with nx:=N,ct:=N,bk:=D.nx} σ2 H2):=by
 refine⟨fun i m σ H=>m=xs.length - i∧i≤xs.length∧Pv i σ H,⟨xs.length,by simp,Nat.zero_le _,h0⟩,?_⟩
 rintro i m σ H ⟨rfl,hi,p⟩
 have q:=hl i σ H hi p
 by_cases hlt:i<xs.length
 ·refine .inr ⟨⟨xs,xs[i],q,by simp[hlt]⟩,Pv (i+1),fun σ' H' p'=>⟨xs.length - (i+1),by omega,rfl,hlt,p'⟩,fun x H' y=>?_⟩
  obtain⟨e,y⟩:=y
  subst e
  exact hs i x σ _ (y xs q) p
 ·have e:i=xs.length:=by omega
  subst e
  exact .inl ⟨⟨xs,q,Nat.le_refl _⟩,hd σ H p⟩
theorem for_range {lo:Int}{n:Nat}{g:TG}{tb:TS}{D:Ends}{σ:St}{H:Hp}(Pv:Nat→St→Hp→Prop)(h0:Pv 0 σ H)
  (hs:∀i σ H,i<n→Pv i σ H→g (.int (lo+i)) σ H fun σ2 H2=>tb {D with nx:=Pv (i+1),ct:=Pv (i+1),bk:=D.nx} σ2 H2) (hd:∀σ H,Pv n σ H→D.nx σ H):
  ∃W:Nat→Nat→St→Hp→Prop,(∃m,W 0 m σ H)∧∀i m σ H,W i m σ H→
   ((Itr lo n).stop i H∧D.nx σ H)∨((Itr lo n).go i H∧∃N:St→Hp→Prop,(∀σ' H',N σ' H'→∃m',m'<m∧W (i+1) m' σ' H')∧∀x H',(Itr lo n).yld i H x H'→g x σ H' fun σ2 H2=>tb {D with nx:=N,ct:=N,bk:=D.nx} σ2 H2):=by
 refine⟨fun i m σ H=>m=n - i∧i≤n∧Pv i σ H,⟨n,by simp,Nat.zero_le _,h0⟩,?_⟩
 rintro i m σ H ⟨rfl,hi,p⟩
 by_cases hlt:i<n
 ·refine .inr ⟨hlt,Pv (i+1),fun σ' H' p'=>⟨n - (i+1),by omega,rfl,hlt,p'⟩,fun x H' y=>?_⟩
  obtain⟨e,y⟩:=y
  subst e y
  exact hs i σ _ hlt p
 ·have e:i=n:=by omega
  subst e
  exact .inl ⟨Nat.le_refl _,hd σ H p⟩
abbrev R2:=V→V→Hp→VK→Prop
def OpR (X:Cx) (f:Value→Value→Sem Value) (r:R2):Prop:=
 ∀(pins:List (Addr×Obj)) (s:Shared) (σ:St) (H:Hp) (x y:V) (v u:Value) (Q:VK),Inv X pins σ H s→RelV x v→RelV y u→r x y H Q→
  wpAny (model X.prog X.w) X.A (f v u) (EP X pins σ Q) X.xe s
def UnR (X:Cx) (f:Value→Sem Value) (r:V→Hp→VK→Prop):Prop:=
 ∀(pins:List (Addr×Obj)) (s:Shared) (σ:St) (H:Hp) (x:V) (v:Value) (Q:VK),Inv X pins σ H s→RelV x v→r x H Q→
  wpAny (model X.prog X.w) X.A (f v) (EP X pins σ Q) X.xe s
def CallR (X:Cx) (f:Value) (r:List V→Hp→VK→Prop):Prop:=
 ∀(pins:List (Addr×Obj)) (s:Shared) (σ:St) (H:Hp) (xs:List V) (us:List Value) (Q:VK),Inv X pins σ H s→Vals xs us→r xs H Q→
  wpAny (model X.prog X.w) X.A (call f us) (EP X pins σ Q) X.xe s
def tOp (r:R2) (ta tb:TE):TE:=fun σ H Q=>ta σ H fun x H1=>tb σ H1 fun y H2=>r x y H2 Q
def tUn (r:V→Hp→VK→Prop) (ta:TE):TE:=fun σ H Q=>ta σ H fun x H1=>r x H1 Q
def rI (C:Int→Int→Prop) (g:Int→Int→V):R2:=fun x y H Q=>∃i j,x=.int i∧y=.int j∧C i j∧Q (g i j) H
def rI0 (g:Int→Int→V):R2:=fun x y H Q=>∃i j,x=.int i∧y=.int j∧Q (g i j) H
def rU (g:Int→V):V→Hp→VK→Prop:=fun x H Q=>∃i,x=.int i∧Q (g i) H
section
variable {X:Cx} {a b c:Expr} {ta tb tc:TE} {pos:Pos}
theorem binT (ha:PE X a ta)(hb:PE X b tb){pins:List (Addr×Obj)}{s:Shared}{σ:St}{H:Hp}{R:V→V→Hp→Prop}(I:Inv X pins σ H s)
  (h:ta σ H fun x H1=>tb σ H1 fun y H2=>R x y H2) {Q:Value→Shared→Prop} {f:Value→Value→Sem Value}
  (hf:∀v u s2 x y H2,Inv X pins σ H2 s2→RelV x v→RelV y u→R x y H2→wpAny (model X.prog X.w) X.A (f v u) Q X.xe s2):
  wpAny (model X.prog X.w) X.A (eval a X.env) (fun v s₁=>wpAny (model X.prog X.w) X.A (eval b X.env) (fun u s₂=>wpAny (model X.prog X.w) X.A (f v u) Q X.xe s₂) X.xe s₁) X.xe s:=by
 refine thn (ha pins s σ H _ I h) fun v s1 ⟨x,H1,I1,r1,q1⟩=>?_
 refine thn (hb pins s1 σ H1 _ I1 q1) fun u s2 ⟨y,H2,I2,r2,q2⟩=>?_
 exact hf v u s2 x y H2 I2 r1 r2 q2
theorem pe_op {op:Operator}{r:R2}(ho:OpR X (binaryOp op) r)(ha:PE X a ta)(hb:PE X b tb):PE X (.BinOp a op b pos) (tOp r ta tb):=by
 intro pins s σ H Q I h
 exact wpAny_BinOp (binT ha hb I h fun v u s2 x y H2 I2 rx ry q=>ho pins s2 σ H2 x y v u Q I2 rx ry q)
theorem pe_un {op:UnaryOp}{r:V→Hp→VK→Prop}(ho:UnR X (unaryOp op) r)(ha:PE X a ta):PE X (.UnaryOp op a pos) (tUn r ta):=by
 intro pins s σ H Q I h
 exact UnaryOp_ (thn (ha pins s σ H _ I h) fun v s1 ⟨x,H1,I1,r1,q1⟩=>ho pins s1 σ H1 x v Q I1 r1 q1)
theorem opI {f:Value→Value→Sem Value}{C:Int→Int→Prop}{g:Int→Int→Int}
  (rule:∀(i j:Int) (t u:Tok) (s:Shared) (Q:Value→Shared→Prop) (E:Value→Shared→Prop),C i j→Q (.int (g i j) s.toks) {s with toks:=s.toks+1}→wpAny (model X.prog X.w) X.A (f (.int i t) (.int j u)) Q E s):
  OpR X f (rI C fun i j=> .int (g i j)):=by
 intro pins s σ H x y v u Q I rx ry h
 obtain⟨i,j,rfl,rfl,hc,q⟩:=h
 obtain⟨t,rfl⟩:=rx
 obtain⟨t',rfl⟩:=ry
 exact rule i j t t' s _ _ hc ⟨.int (g i j),H,I.tok _,⟨_,rfl⟩,q⟩
theorem opI0 {f:Value→Value→Sem Value}{g:Int→Int→Int}
  (rule:∀(i j:Int) (t u:Tok) (s:Shared) (Q:Value→Shared→Prop) (E:Value→Shared→Prop),Q (.int (g i j) s.toks) {s with toks:=s.toks+1}→wpAny (model X.prog X.w) X.A (f (.int i t) (.int j u)) Q E s):
  OpR X f (rI0 fun i j=> .int (g i j)):=by
 intro pins s σ H x y v u Q I rx ry h
 obtain⟨i,j,rfl,rfl,q⟩:=h
 obtain⟨t,rfl⟩:=rx
 obtain⟨t',rfl⟩:=ry
 exact rule i j t t' s _ _ ⟨.int (g i j),H,I.tok _,⟨_,rfl⟩,q⟩
theorem opB0 {f:Value→Value→Sem Value}{g:Int→Int→Bool}
  (rule:∀(i j:Int) (t u:Tok) (s:Shared) (Q:Value→Shared→Prop) (E:Value→Shared→Prop),Q (.bool (g i j)) s→wpAny (model X.prog X.w) X.A (f (.int i t) (.int j u)) Q E s):
  OpR X f (rI0 fun i j=> .bl (g i j)):=by
 intro pins s σ H x y v u Q I rx ry h
 obtain⟨i,j,rfl,rfl,q⟩:=h
 obtain⟨t,rfl⟩:=rx
 obtain⟨t',rfl⟩:=ry
 exact rule i j t t' s _ _ ⟨.bl (g i j),H,I,rfl,q⟩
def CPow (i j:Int):Prop:=0≤j∧j≤1000000∧i.natAbs<2^64
def CMul (i j:Int):Prop:=(-(2^64)<i∧i<2^64)∨(-(2^64)<j∧j<2^64)
theorem CMul.ok {i j:Int}(h:CMul i j):IntMulOk i j:=by
 rcases h with ⟨h1,h2⟩|⟨h1,h2⟩
 ·exact .of_left (intBits_le_64 h1 h2)
 ·exact .of_right (intBits_le_64 h1 h2)
theorem op_add:OpR X (binaryOp .Add) (rI0 fun i j=> .int (i+j)):=opI0 fun _ _ _ _ _ _ _ q=>add_int q
theorem op_sub:OpR X (binaryOp .Sub) (rI0 fun i j=> .int (i - j)):=opI0 fun _ _ _ _ _ _ _ q=>sub_int q
theorem op_mul:OpR X (binaryOp .Mult) (rI CMul fun i j=> .int (i*j)):=opI fun _ _ _ _ _ _ _ hc q=>mul_int q hc.ok
theorem op_mod:OpR X (binaryOp .Mod) (rI (fun _ j=>0<j) fun i j=> .int (i%j)):=opI fun i j _ _ _ _ _ hc q=>by
 have h1:(0:Int)<j:=hc
 exact mod_int' (by omega) (by rw[Int.fmod_eq_emod_of_nonneg i (by omega)];exact q)
theorem op_pow:OpR X (binaryOp .Pow) (rI CPow fun i j=> .int (i^j.toNat)):=opI fun _ _ _ _ _ _ _ hc q=>pow_int_small hc.1 hc.2.1 hc.2.2 q
theorem unI {f:Value→Sem Value}{g:Int→Int}
  (rule:∀(i:Int) (t:Tok) (s:Shared) (Q:Value→Shared→Prop) (E:Value→Shared→Prop),Q (.int (g i) s.toks) {s with toks:=s.toks+1}→wpAny (model X.prog X.w) X.A (f (.int i t)) Q E s):
  UnR X f (rU fun i=> .int (g i)):=by
 intro pins s σ H x v Q I rx h
 obtain⟨i,rfl,q⟩:=h
 obtain⟨t,rfl⟩:=rx
 exact rule i t s _ _ ⟨.int (g i),H,I.tok _,⟨_,rfl⟩,q⟩
theorem un_neg:UnR X (unaryOp .USub) (rU fun i=> .int (-i)):=unI fun _ _ _ _ _ q=>neg_int q
end
noncomputable def scal:V→V→Bool
 | .non,.non=>true| .non,.int _=>true| .int _,.non=>true| .non,.bl _=>true| .bl _,.non=>true| .non,.str _=>true| .str _,.non=>true
 | .int _,.int _=>true| .bl _,.bl _=>true| .str _,.str _=>true| .byt _,.byt _=>true
 | .int _,.str _=>true| .str _,.int _=>true| .bl _,.str _=>true| .str _,.bl _=>true
 |_,_=>false
def rEq:R2:=fun x y H Q=>scal x y=true∧Q (.bl (decide (x=y))) H
def rNe:R2:=fun x y H Q=>scal x y=true∧Q (.bl (!decide (x=y))) H
theorem dec_int {i j:Int}:decide (V.int i=V.int j)=(i==j):=by
 rw[Bool.eq_iff_iff]
 simp
theorem dec_bl {i j:Bool}:decide (V.bl i=V.bl j)=(i==j):=by
 rw[Bool.eq_iff_iff]
 simp
theorem dec_str {i j:Str}:decide (V.str i=V.str j)=(i==j):=by
 rw[Bool.eq_iff_iff]
 simp
theorem dec_byt {i j:Array UInt8}:decide (V.byt i=V.byt j)=(i.toList==j.toList):=by
 rw[Bool.eq_iff_iff]
 cases i
 cases j
 simp
section
variable {X:Cx} {a b c:Expr} {ta tb tc:TE} {pos:Pos}
theorem fin_bl {pins:List (Addr×Obj)}{σ:St}{H:Hp}{s:Shared}{Q:VK}{k k':Bool}(I:Inv X pins σ H s)(q:Q (.bl k) H)(e:k=k'):EP X pins σ Q (.bool k') s:=by
 subst e
 exact⟨.bl k,H,I,rfl,q⟩
theorem op_eq:OpR X (compareOp .Eq) rEq:=by
 intro pins s σ H x y v u Q I rx ry h
 obtain⟨hs,q⟩:=h
 cases x with
 |non=>
  cases rx
  cases y with
  |non=>cases ry;exact PySem.EqNone.eq_none_none (fin_bl I q (by simp))
  |bl j=>cases ry;exact PySem.EqNone.eq_none_bool (fin_bl I q (by simp))
  |int j=>obtain⟨t',rfl⟩:=ry;exact PySem.EqNone.eq_none_int (fin_bl I q (by simp))
  |str j=>obtain⟨t',rfl⟩:=ry;exact PySem.EqNone.eq_none_str (fin_bl I q (by simp))
  |_=>exact absurd (show false=true from hs) Bool.false_ne_true
 |bl i=>
  cases rx
  cases y with
  |non=>cases ry;exact PySem.EqNone.eq_bool_none (fin_bl I q (by simp))
  |bl j=>cases ry;exact eq_bool (fin_bl I q dec_bl)
  |str j=>obtain⟨t',rfl⟩:=ry;exact PySem.EqMixed.eq_bool_str (fin_bl I q (by simp))
  |_=>exact absurd (show false=true from hs) Bool.false_ne_true
 |int i=>
  obtain⟨t,rfl⟩:=rx
  cases y with
  |non=>cases ry;exact PySem.EqNone.eq_int_none (fin_bl I q (by simp))
  |int j=>obtain⟨t',rfl⟩:=ry;exact eq_int (fin_bl I q dec_int)
  |str j=>obtain⟨t',rfl⟩:=ry;exact PySem.EqMixed.eq_int_str (fin_bl I q (by simp))
  |_=>exact absurd (show false=true from hs) Bool.false_ne_true
 |str i=>
  obtain⟨t,rfl⟩:=rx
  cases y with
  |non=>cases ry;exact PySem.EqNone.eq_str_none (fin_bl I q (by simp))
  |bl j=>cases ry;exact PySem.EqMixed.eq_str_bool (fin_bl I q (by simp))
  |int j=>obtain⟨t',rfl⟩:=ry;exact PySem.EqMixed.eq_str_int (fin_bl I q (by simp))
  |str j=>obtain⟨t',rfl⟩:=ry;exact eq_str (fin_bl I q dec_str)
  |_=>exact absurd (show false=true from hs) Bool.false_ne_true
 |byt i=>
  obtain⟨t,rfl⟩:=rx
  cases y with
  |byt j=>obtain⟨t',rfl⟩:=ry;exact PySem.W.eq_bytes (fin_bl I q dec_byt)
  |_=>exact absurd (show false=true from hs) Bool.false_ne_true
 |_=>cases y<;>exact absurd (show false=true from hs) Bool.false_ne_true
theorem op_ne:OpR X (compareOp .NotEq) rNe:=by
 intro pins s σ H x y v u Q I rx ry h
 obtain⟨hs,q⟩:=h
 cases x with
 |non=>
  cases rx
  cases y with
  |non=>cases ry;exact PySem.EqNone.ne_none_none (fin_bl I q (by simp))
  |bl j=>cases ry;exact PySem.EqNone.ne_none_bool (fin_bl I q (by simp))
  |int j=>obtain⟨t',rfl⟩:=ry;exact PySem.EqNone.ne_none_int (fin_bl I q (by simp))
  |str j=>obtain⟨t',rfl⟩:=ry;exact PySem.EqNone.ne_none_str (fin_bl I q (by simp))
  |_=>exact absurd (show false=true from hs) Bool.false_ne_true
 |bl i=>
  cases rx
  cases y with
  |non=>cases ry;exact PySem.EqNone.ne_bool_none (fin_bl I q (by simp))
  |bl j=>cases ry;exact ne_bool (fin_bl I q (congrArg not dec_bl))
  |str j=>obtain⟨t',rfl⟩:=ry;exact PySem.EqMixed.ne_bool_str (fin_bl I q (by simp))
  |_=>exact absurd (show false=true from hs) Bool.false_ne_true
 |int i=>
  obtain⟨t,rfl⟩:=rx
  cases y with
  |non=>cases ry;exact PySem.EqNone.ne_int_none (fin_bl I q (by simp))
  |int j=>obtain⟨t',rfl⟩:=ry;exact ne_int (fin_bl I q (congrArg not dec_int))
  |str j=>obtain⟨t',rfl⟩:=ry;exact PySem.EqMixed.ne_int_str (fin_bl I q (by simp))
  |_=>exact absurd (show false=true from hs) Bool.false_ne_true
 |str i=>
  obtain⟨t,rfl⟩:=rx
  cases y with
  |non=>cases ry;exact PySem.EqNone.ne_str_none (fin_bl I q (by simp))
  |bl j=>cases ry;exact PySem.EqMixed.ne_str_bool (fin_bl I q (by simp))
  |int j=>obtain⟨t',rfl⟩:=ry;exact PySem.EqMixed.ne_str_int (fin_bl I q (by simp))
  |str j=>obtain⟨t',rfl⟩:=ry;exact ne_str (fin_bl I q (congrArg not dec_str))
  |_=>exact absurd (show false=true from hs) Bool.false_ne_true
 |byt i=>
  obtain⟨t,rfl⟩:=rx
  cases y with
  |byt j=>obtain⟨t',rfl⟩:=ry;exact PySem.W.ne_bytes (fin_bl I q (congrArg not dec_byt))
  |_=>exact absurd (show false=true from hs) Bool.false_ne_true
 |_=>cases y<;>exact absurd (show false=true from hs) Bool.false_ne_true
theorem op_lt:OpR X (compareOp .Lt) (rI0 fun i j=> .bl (decide (i<j))):=opB0 fun _ _ _ _ _ _ _ q=>lt_int q
theorem op_le:OpR X (compareOp .LtE) (rI0 fun i j=> .bl (decide (i≤j))):=opB0 fun _ _ _ _ _ _ _ q=>le_int q
theorem op_gt:OpR X (compareOp .Gt) (rI0 fun i j=> .bl (decide (j<i))):=opB0 fun _ _ _ _ _ _ _ q=>gt_int q
theorem op_ge:OpR X (compareOp .GtE) (rI0 fun i j=> .bl (decide (j≤i))):=opB0 fun _ _ _ _ _ _ _ q=>ge_int q
theorem op_in_str:OpR X (compareOp .In) (fun x y H Q=>∃i j,x=.str i∧y=.str j∧Q (.bl (!(Builtin.Str.occurrences j i 0 j.length 1).isEmpty)) H):=by
 intro pins s σ H x y v u Q I rx ry h
 obtain⟨i,j,rfl,rfl,q⟩:=h
 obtain⟨t,rfl⟩:=rx
 obtain⟨t',rfl⟩:=ry
 exact in_str (fin_bl I q rfl)
theorem op_isN:OpR X (compareOp .Is) (fun x y H Q=>y=.non∧Q (.bl (decide (x=.non))) H):=by
 intro pins s σ H x y v u Q I rx ry h
 obtain⟨rfl,q⟩:=h
 cases ry
 refine is_none_gen (fin_bl I q ?_)
 cases x<;>first
  |(cases rx;rfl)
  |(obtain⟨t,rfl⟩:=rx;rfl)
theorem op_notin_str:OpR X (compareOp .NotIn) (fun x y H Q=>∃i j,x=.str i∧y=.str j∧Q (.bl (!(!(Builtin.Str.occurrences j i 0 j.length 1).isEmpty))) H):=by
 intro pins s σ H x y v u Q I rx ry h
 obtain⟨i,j,rfl,rfl,q⟩:=h
 obtain⟨t,rfl⟩:=rx
 obtain⟨t',rfl⟩:=ry
 exact notIn_str (fin_bl I q rfl)
theorem nomark (b:Expr){op:CmpOp}(h:op≠.In:=by decide)(h2:op≠.NotIn:=by decide):behindInMarks op b=false:=by
 have e1:(op==CmpOp.In)=false:=by cases op<;>first|rfl|exact absurd rfl h
 have e2:(op==CmpOp.NotIn)=false:=by cases op<;>first|rfl|exact absurd rfl h2
 cases b<;>simp[behindInMarks,e1,e2]
theorem pe_cmpR {op:CmpOp}{r:R2}(ho:OpR X (compareOp op) r)(ha:PE X a ta)(hb:PE X b tb)(hm:behindInMarks op b=false):PE X (.Compare a [op] [b] pos) (tOp r ta tb):=by
 intro pins s σ H Q I h
 exact wpAny_Compare1 (binT ha hb I h fun v u s2 x y H2 I2 rx ry q=>ho pins s2 σ H2 x y v u Q I2 rx ry q) hm
def tTest (t:TE):TT:=fun σ H Q=>t σ H fun x H'=>∃k,x=.bl k∧Q k H'
theorem pt_cmpR {op:CmpOp}{r:R2}(ho:OpR X (compareOp op) r)(ha:PE X a ta)(hb:PE X b tb)(hm:behindInMarks op b=false):PT X (.Compare a [op] [b] pos) (tTest (tOp r ta tb)):=by
 intro pins s σ H Q I h
 refine wpAny_isTrue_Compare1 (thn (ha pins s σ H _ I h) fun v s1 ⟨x,H1,I1,r1,q1⟩=>thn (hb pins s1 σ H1 _ I1 q1) fun u s2 ⟨y,H2,I2,r2,q2⟩=>
  thn (ho pins s2 σ H2 x y v u _ I2 r1 r2 q2) fun c s3 ⟨z,H3,I3,r3,k,e,q3⟩=>?_) hm
 subst e
 cases r3
 exact wpAny_truthy_bool ⟨H3,I3,q3⟩
def tChain (r r':R2) (ta tb tc:TE):TE:=fun σ H Q=>ta σ H fun x H1=>tb σ H1 fun y H2=>r x y H2 fun z H3=>∃k,z=.bl k∧
 (if k=true then tc σ H3 fun w' H4=>r' y w' H4 Q else Q (.bl false) H3)
theorem pe_chain {op op':CmpOp}{r r':R2}(ho:OpR X (compareOp op) r)(ho':OpR X (compareOp op') r')(ha:PE X a ta)(hb:PE X b tb)(hc:PE X c tc)
  (hm:lastMarks [op,op'] [b,c]=false:=by with_unfolding_all rfl):PE X (.Compare a [op,op'] [b,c] pos) (tChain r r' ta tb tc):=by
 intro pins s σ H Q I h
 refine Compare_chain (thn (ha pins s σ H _ I h) fun v s1 ⟨x,H1,I1,r1,q1⟩=>chain_link (thn (hb pins s1 σ H1 _ I1 q1) fun u s2 ⟨y,H2,I2,r2,q2⟩=>
  thn (ho pins s2 σ H2 x y v u _ I2 r1 r2 q2) fun d s3 ⟨z,H3,I3,r3,k,e,q3⟩=>?_)) hm
 subst e
 cases r3
 refine wpAny_truthy_bool ?_
 cases k with
 |false=>exact ite_ff ⟨.bl false,H3,I3,rfl,q3⟩
 |true=>exact ite_tt (chain_last (thn (hc pins s3 σ H3 _ I3 q3) fun w' s4 ⟨z',H4,I4,r4,q4⟩=>ho' pins s4 σ H4 y z' u w' Q I4 r2 r4 q4))
theorem pt_chain {op op':CmpOp}{r r':R2}(ho:OpR X (compareOp op) r)(ho':OpR X (compareOp op') r')(ha:PE X a ta)(hb:PE X b tb)(hc:PE X c tc)
  (hm:lastMarks [op,op'] [b,c]=false:=by with_unfolding_all rfl):PT X (.Compare a [op,op'] [b,c] pos) (tTest (tChain r r' ta tb tc)):=by
 intro pins s σ H Q I h
 refine isTrue_chain (thn (ha pins s σ H _ I h) fun v s1 ⟨x,H1,I1,r1,q1⟩=>test_link (thn (hb pins s1 σ H1 _ I1 q1) fun u s2 ⟨y,H2,I2,r2,q2⟩=>
  thn (ho pins s2 σ H2 x y v u _ I2 r1 r2 q2) fun d s3 ⟨z,H3,I3,r3,k,e,q3⟩=>?_)) hm
 subst e
 cases r3
 refine wpAny_truthy_bool ?_
 cases k with
 |false=>
  obtain⟨k',e',q'⟩:=q3
  cases e'
  exact ite_ff ⟨H3,I3,q'⟩
 |true=>
  refine ite_tt (test_last (thn (hc pins s3 σ H3 _ I3 q3) fun w' s4 ⟨z',H4,I4,r4,q4⟩=>thn (ho' pins s4 σ H4 y z' u w' _ I4 r2 r4 q4) fun d' s5 ⟨z2,H5,I5,r5,k2,e2,q5⟩=>?_))
  subst e2
  cases r5
  exact wpAny_truthy_bool ⟨H5,I5,q5⟩
theorem line63:(sizeLine:Nat)<2^63:=by rw[sizeLine_eq];decide
theorem vals1 {x:V}{us:List Value}(r:Vals [x] us):∃u,us=[u]∧RelV x u:=by
 cases r with
 |cons r1 r2=>cases r2;exact⟨_,rfl,r1⟩
theorem vals2 {x y:V}{us:List Value}(r:Vals [x,y] us):∃u w',us=[u,w']∧RelV x u∧RelV y w':=by
 cases r with
 |cons r1 r2=>
  cases r2 with
  |cons r3 r4=>cases r4;exact⟨_,_,rfl,r1,r3⟩
theorem call_min2 (hc:X.calm=true):CallR X (.builtin "min") (fun xs H Q=>∃i j,xs=[.int i,.int j]∧Q (.int (if j<i then j else i)) H):=by
 intro pins s σ H xs us Q I r h
 obtain⟨i,j,rfl,q⟩:=h
 obtain⟨u,w',rfl,⟨t,rfl⟩,⟨t',rfl⟩⟩:=vals2 r
 refine min_two_ints (I.ok.hd hc) fun h' tk k=>⟨_,H,I.kept k,?_,q⟩
 by_cases hj:j<i
 ·rw[if_pos hj,if_pos hj];exact⟨_,rfl⟩
 ·rw[if_neg hj,if_neg hj];exact⟨_,rfl⟩
def LenV (K:PySem.W.Frag) (x:V) (H:Hp) (n:Nat):Prop:=
 match x with
 | .str y=>y.length≤sizeLine∧n=y.length
 | .byt y=>y.size≤sizeLine∧n=y.size
 | .ref p=>(∃xs,SqL K H p xs∧n=xs.length)∨∃xs,SqT K H p xs∧n=xs.length
 |_=>False
theorem call_len:CallR X (.builtin "len") (fun xs H Q=>∃x n,xs=[x]∧LenV X.K x H n∧Q (.int n) H):=by
 intro pins s σ H xs us Q I r h
 obtain⟨x,n,rfl,e,q⟩:=h
 obtain⟨u,rfl,rx⟩:=vals1 r
 have hl:=line63
 have hs:sizeLine=16777216:=sizeLine_eq
 cases x with
 |str y=>
  obtain⟨t,rfl⟩:=rx
  obtain⟨hy,e'⟩:y.length≤sizeLine∧n=y.length:=e
  subst e'
  exact len_str (by omega) ⟨.int _,H,I.tok _,⟨_,rfl⟩,q⟩
 |byt y=>
  obtain⟨t,rfl⟩:=rx
  obtain⟨hy,e'⟩:y.size≤sizeLine∧n=y.size:=e
  subst e'
  exact PySem.W.len_bytes (by omega) ⟨.int _,H,I.tok _,⟨_,rfl⟩,q⟩
 |ref p=>
  cases rx
  have e':(∃xs,SqL X.K H p xs∧n=xs.length)∨∃xs,SqT X.K H p xs∧n=xs.length:=e
  rcases e' with ⟨xs,hx,e'⟩|⟨xs,hx,e'⟩
  ·subst e'
   obtain⟨its,r',pl,hz⟩:=I.list hx
   have hlen:=r'.length
   exact Calls.call_len_list pl.isList (by simp only[List.size_toArray];omega) ⟨.int xs.length,H,I.tok _,⟨_,by simp only[List.size_toArray];rw[hlen]⟩,q⟩
  ·subst e'
   obtain⟨its,r',pl,hz⟩:=I.tuple hx
   have hlen:=r'.length
   exact len_tuple pl (by simp only[List.size_toArray];omega) ⟨.int xs.length,H,I.tok _,⟨_,by simp only[List.size_toArray];rw[hlen]⟩,q⟩
 |_=>exact(show False from e).elim
end
structure ObjM (h:Heap) (x dx C:Addr) (mA:Str→Option Value):Prop where
 obj:h.get? x=some (PySem.W.instObj C dx)
 ns:h.Ns1 dx mA
 ne:dx≠x
theorem lookIn_ns {h:Heap}{dx:Addr}{mA:Str→Option Value}(n:h.Ns1 dx mA):∃od,h.get? dx=some od∧∀name,PySem.W.lookIn name od=some (mA name):=by
 obtain⟨o,es,ep,ho,hd,hk,_,hm⟩:=n
 refine⟨o,ho,fun name=>?_⟩
 have e:=hm name
 unfold nsFind findBy at e
 rw[←Array.find?_toList] at e
 unfold PySem.W.lookIn
 rw[hd]
 dsimp only
 split
 ·rename_i y q
  rw[q] at e
  exact congrArg some e
 ·rename_i q
  rw[q] at e
  have a:es.toList.any (·.refKey)=false:=by
   rw[List.any_eq_false]
   intro y hy
   obtain⟨z,t,hkey⟩:=hk y (Array.mem_toList_iff.mp hy)
   simp[DictEntry.refKey,hkey]
  have a':¬es.toList.any (·.refKey)=true:=by rw[a];exact Bool.false_ne_true
  rw[if_neg a']
  exact congrArg some e
theorem ObjM.look {h:Heap}{x dx C:Addr}{mA:Str→Option Value}(I:ObjM h x dx C mA):∃od,PySem.W.InstAt h x (PySem.W.instObj C dx) C (some od)∧∀name,PySem.W.lookIn name od=some (mA name):=
 let ⟨od,ho,hl⟩:=lookIn_ns I.ns
 ⟨od,⟨I.obj,rfl,rfl,ho⟩,hl⟩
section
variable {prog:Program} {w:World} {A:Around} {E:Value→Shared→Prop} {s:Shared} {K:PySem.W.Frag} {x dx C f:Addr} {mA:Str→Option Value} {name:Str} {v:Value}
theorem get_map {expr:Bool}{Q:Value→Shared→Prop}(X:K.In s.heap)(I:ObjM s.heap x dx C mA)(hg:PySem.W.plainGet K C name=true)(hh:PySem.W.hasDictIn K C=true)
  (ha:PySem.W.findIn K (.ref C) name=some none) (hv:mA name=some v) (hv':PySem.W.handedIn v=true) (h:Q v {s with toks:=s.toks+1}):
  wpAny (model prog w) A (getAttr (.ref x) name expr) Q E s:=by
 obtain⟨od,J,hl⟩:=I.look
 exact PySem.W.get_value X J (PySem.W.plainGet_of hg).1 (PySem.W.findObj_own hh ha rfl (by rw[hl,hv])) hv' h
theorem get_meth {pl:Sem Bool}{Q:Value×List Value→Shared→Prop}(X:K.In s.heap)(I:ObjM s.heap x dx C mA)(hg:PySem.W.plainGet K C name=true)
  (hf:PySem.W.findIn K (.ref C) name=some (some (.ref f))) (ht:PySem.W.isFn K (.ref f)=true) (hv:mA name=none) (h:Q (.ref f,[.ref x]) s):
  wpAny (model prog w) A (getMethod (.ref x) name pl) Q E s:=by
 obtain⟨od,J,hl⟩:=I.look
 exact PySem.W.method_fn X J (PySem.W.plainGet_of hg).1 (PySem.W.plainGet_of hg).2 hf (beq_iff_eq.mp ht) (by show(PySem.W.lookIn name od).map (·.isSome)=some false;rw[hl,hv];rfl) h
theorem set_map {ns:List Str}{Q:Unit→Shared→Prop}(X:K.In s.heap)(I:ObjM s.heap x dx C mA)
  (hs:PySem.W.findIn K (.ref C) "__setattr__" =some (some (.builtin "object.__setattr__"))) (hp:PySem.W.plainOver K C=true) (ht:PySem.W.takerIn K C name=some none) (hh:PySem.W.hasDictIn K C=true)
  (hw:PySem.Within mA ns) (hsz:ns.length≤sizeLine)
  (h:∀h',ObjM h' x dx C (fun y=>if y=name then some v else mA y)→Heap.SameBut dx s.heap h'→Q () {s with heap:=h',toks:=s.toks+2}):
  wpAny (model prog w) A (setAttr (.ref x) name v) Q E s:=by
 obtain⟨od,J,hl⟩:=I.look
 refine PySem.W.set_plain X J hs (PySem.W.osa_open (s:={s with toks:=s.toks+1}) (r:=none) X J hp ht fun b=>?_)
 obtain⟨cd,hc,hd'⟩:=PySem.W.any_some hh
 have hx:s.heap.get? x=some ⟨.ref C,some dx,.plain,#[]⟩:=I.obj
 refine wpAny_bind (wpAny_pure (wpAny_bind (wpAny_bind (wpAny_loadPart hx (wpAny_bind (PySem.W.Looks.here (s:={s with toks:=s.toks+1}) (PySem.W.looks_clsIn X hc) ?_))))))
 rw[hd']
 refine wpAny_pure (a:=some dx) (wpAny_bind (wpAny_pure (wpAny_bind ?_)))
 refine wpAny_nsSet1 (s:={s with toks:=s.toks+1}) I.ns fun h' hn2 hs2=>?_
 obtain⟨oD,esD,epD,hoD,hdD,hcD⟩:=hn2.count (PySem.Within.cons name v hw)
 refine wpAny_bind (wpAny_lookBehind hoD (by rw[hdD];exact pastItsLine_dict (Nat.le_trans hcD (by rw[List.length_cons];omega))) ?_)
 exact wpAny_pure (h _ ⟨(hs2.2 _ (Ne.symm I.ne)).trans I.obj,hn2,I.ne⟩ hs2)
theorem make_map {R:Result→Shared→Prop}{vs:List Value}{kw:List (Str×Value)}(X:K.In s.heap)(hm:PySem.W.makesIn K C=true)
  (hi:PySem.W.findIn K (.ref C) "__init__" =some (some (.ref f))) (hf:PySem.W.typeIn K (.ref f)=some (.type "function"))
  (h:codeAny (model prog w) (A.under (.builtin "type.__call__" ⟨.ref C::vs,kw⟩)) (.call (.ref f) ⟨.ref (s.heap.objs.size+1)::vs,kw⟩) (PySem.W.InitBack (s.heap.objs.size+1) R)
   {s with heap:=(s.heap.push PySem.W.emptyDict).push (PySem.W.instObj C s.heap.objs.size)}):
  codeAny (model prog w) A (.call (.ref C) ⟨vs,kw⟩) R s:=by
 obtain⟨hh,g,d,t,os⟩:=s
 exact PySem.W.make_core (PySem.W.makes_of X hm) (PySem.W.looks_findIn X hi) (fun self=>PySem.W.bind_fn X self hf) (.inl rfl) h
end
noncomputable def putF (f:Str) (v:V):List (Str×V)→List (Str×V)
 |[]=>[(f,v)]
 |(g,x)::r=>if g=f then (g,v)::r else (g,x)::putF f v r
theorem lookup_putF (f g:Str)(v:V):∀fs:List (Str×V),(putF f v fs).lookup g=if g=f then some v else fs.lookup g
 |[]=>by
  show List.lookup g [(f,v)]=_
  by_cases h:g=f
  ·have hb:(g==f)=true:=beq_iff_eq.mpr h
   simp only[List.lookup,hb,if_pos h]
  ·have hb:(g==f)=false:=beq_eq_false_iff_ne.mpr h
   simp only[List.lookup,hb,if_neg h]
 |(k,x)::r=>by
  have ih:=lookup_putF f g v r
  rw[show putF f v ((k,x)::r)=(if k=f then (k,v)::r else (k,x)::putF f v r) from rfl]
  by_cases hk:k=f
  ·rw[if_pos hk]
   by_cases h:g=k
   ·have hb:(g==k)=true:=beq_iff_eq.mpr h
    simp only[List.lookup,hb,if_pos (h.trans hk)]
   ·have hb:(g==k)=false:=beq_eq_false_iff_ne.mpr h
    simp only[List.lookup,hb,if_neg (fun e:g=f=>h (e.trans hk.symm))]
  ·rw[if_neg hk]
   by_cases h:g=k
   ·have hb:(g==k)=true:=beq_iff_eq.mpr h
    simp only[List.lookup,hb,if_neg (fun e:g=f=>hk (h.symm.trans e))]
   ·have hb:(g==k)=false:=beq_eq_false_iff_ne.mpr h
    simp only[List.lookup,hb]
    exact ih
theorem keys_putF (f:Str)(v:V):∀fs:List (Str×V),f∈(putF f v fs).map (·.1)∧∀g,g∈fs.map (·.1)→g∈(putF f v fs).map (·.1)
 |[]=>⟨by simp[putF],fun g h=>by simp at h⟩
 |(k,x)::r=>by
  obtain⟨i1,i2⟩:=keys_putF f v r
  rw[show putF f v ((k,x)::r)=(if k=f then (k,v)::r else (k,x)::putF f v r) from rfl]
  by_cases hk:k=f
  ·rw[if_pos hk]
   subst hk
   exact⟨by simp,fun g h=>by simpa using h⟩
  ·rw[if_neg hk]
   refine⟨?_,fun g h=>?_⟩
   ·rw[List.map_cons]
    exact List.mem_cons_of_mem _ i1
   ·rw[List.map_cons] at h⊢
    rcases List.mem_cons.mp h with e|e
    ·exact List.mem_cons.mpr (.inl e)
    ·exact List.mem_cons_of_mem _ (i2 g e)
theorem length_putF (f:Str)(v:V):∀fs:List (Str×V),(putF f v fs).length≤fs.length+1
 |[]=>by simp[putF]
 |(k,x)::r=>by
  have ih:=length_putF f v r
  rw[show putF f v ((k,x)::r)=(if k=f then (k,v)::r else (k,x)::putF f v r) from rfl]
  by_cases hk:k=f
  ·rw[if_pos hk,List.length_cons,List.length_cons];omega
  ·rw[if_neg hk,List.length_cons,List.length_cons];omega
theorem RelO.some_of {v:V}{o:Option Value}(r:RelO (some v) o):∃u,o=some u∧RelV v u:=by
 cases o with
 |none=>exact(show False from r).elim
 |some u=>exact⟨u,rfl,r⟩
theorem RelO.none_of {o:Option Value}(r:RelO none o):o=none:=by
 cases o with
 |none=>rfl
 |some u=>exact(show False from r).elim
theorem handed_of {v:V}{u:Value}(r:RelV v u):PySem.W.handedIn u=true:=by
 cases v with
 |non=>cases(show u=Value.none from r);rfl
 |bl b=>cases(show u=Value.bool b from r);rfl
 |int i=>obtain⟨t,e⟩:=(show∃t,u=Value.int i t from r);cases e;rfl
 |str x=>obtain⟨t,e⟩:=(show∃t,u=Value.str x t from r);cases e;rfl
 |byt b=>obtain⟨t,e⟩:=(show∃t,u=Value.bytes b t from r);cases e;rfl
 |flt b=>obtain⟨t,e⟩:=(show∃t,u=Value.float b t from r);cases e;rfl
 |ref a=>cases(show u=Value.ref a from r);rfl
 |ty n=>cases(show u=Value.type n from r);rfl
section
variable {P:Program} {w:World} {H H':Hp} {h h':Heap} {a C dx:Addr} {fs fs':List (Str×V)}
theorem ins_get (hok:HOk P w H h)(e:H a=some (.ins C dx fs)):∃mA,ObjM h a dx C mA∧(∀f,RelO (fs.lookup f) (mA f))∧PySem.Within mA (fs.map (·.1))∧fs.length≤1000∧H dx=some (.own a):=by
 obtain⟨d,z,ne,ob,mA,n,r,q⟩:=(show ObjOk P w H h a (.ins C dx fs) from hok a _ e)
 exact⟨mA,⟨ob,n,ne⟩,r,q,z,d⟩
end
structure Cls (K:PySem.W.Frag) (C:Addr):Prop where
 pg:PySem.W.plainGet K C Str.empty=true
 hd:PySem.W.hasDictIn K C=true
 po:PySem.W.plainOver K C=true
 sa:PySem.W.findIn K (.ref C) "__setattr__" =some (some (.builtin "object.__setattr__"))
theorem Cls.get {K:PySem.W.Frag}{C:Addr}(c:Cls K C)(f:Str):PySem.W.plainGet K C f=true:=c.pg
def NoAttr (K:PySem.W.Frag) (C:Addr) (f:Str):Prop:=PySem.W.findIn K (.ref C) f=some none
theorem NoAttr.taker {K:PySem.W.Frag}{C:Addr}{f:Str}(n:NoAttr K C f):PySem.W.takerIn K C f=some none:=by
 unfold PySem.W.takerIn
 rw[show PySem.W.findIn K (.ref C) f=some none from n]
 rfl
structure Meth (K:PySem.W.Frag) (C:Addr) (m:Str) (f:Addr):Prop where
 at_:PySem.W.findIn K (.ref C) m=some (some (.ref f))
 fn:PySem.W.isFn K (.ref f)=true
 kp:PySem.W.keepIn K (.ref f)=true
section
variable {X:Cx} {pins:List (Addr×Obj)} {σ:St} {H:Hp} {s:Shared} {a C dx:Addr} {fs:List (Str×V)} {f:Str} {v:V} {A:Around} {E:Value→Shared→Prop}
theorem getattr_ok {b:Bool}{Q:Value→Shared→Prop}(I:Inv X pins σ H s)(e:H a=some (.ins C dx fs))(c:Cls X.K C)(n:NoAttr X.K C f)(l:fs.lookup f=some v)
  (h:∀u s',Inv X pins σ H s'→RelV v u→Q u s'):wpAny (model X.prog X.w) A (getAttr (.ref a) f b) Q E s:=by
 obtain⟨mA,O,r,_,_,_⟩:=ins_get I.hok e
 obtain⟨u,hu,ru⟩:=RelO.some_of (v:=v) (o:=mA f) (by rw[←l];exact r f)
 exact get_map I.kIn O (c.get f) c.hd n hu (handed_of ru) (h u _ (I.tok _) ru)
theorem getmeth_ok {m:Str}{g:Addr}{pl:Sem Bool}{Q:Value×List Value→Shared→Prop}(I:Inv X pins σ H s)(e:H a=some (.ins C dx fs))(c:Cls X.K C)(k:Meth X.K C m g)(l:fs.lookup m=none)
  (h:Q (.ref g,[.ref a]) s):wpAny (model X.prog X.w) A (getMethod (.ref a) m pl) Q E s:=by
 obtain⟨mA,O,r,_,_,_⟩:=ins_get I.hok e
 have hn:mA m=none:=RelO.none_of (by rw[←l];exact r m)
 exact get_meth I.kIn O (c.get m) k.at_ k.fn hn h
theorem setattr_ok {y:V}{u:Value}{Q:Unit→Shared→Prop}(I:Inv X pins σ H s)(e:H a=some (.ins C dx fs))(c:Cls X.K C)(n:NoAttr X.K C f)(hl:fs.length<1000)(ry:RelV y u)
  (h:∀s',Inv X pins σ (upd H a (.ins C dx (putF f y fs))) s'→Q () s'):wpAny (model X.prog X.w) A (setAttr (.ref a) f u) Q E s:=by
 obtain⟨mA,O,r,wi,_,ho⟩:=ins_get I.hok e
 have hz:(fs.map (·.1)).length≤sizeLine:=by rw[List.length_map,sizeLine_eq];omega
 refine set_map I.kIn O c.sa c.po n.taker c.hd wi hz fun h' O' sb=>h _ ?_
 have hd:∃o,h'.get? dx=some o:=let ⟨o,_,_,e',_⟩:=O'.ns;⟨o,e'⟩
 refine I.write (x:=a) (e:=dx) (by rw[e];exact True.intro) (.inr ho) (fun b q hb z=>(sb.2 b hb).trans z) hd ?_
 refine⟨by rw[upd_ne O.ne];exact ho,?_,O.ne,O'.obj,_,O'.ns,fun g=>?_,fun g hg=>?_⟩
 ·have:=length_putF f y fs;omega
 ·show RelO ((putF f y fs).lookup g) (if g=f then some u else mA g)
  rw[lookup_putF]
  by_cases q:g=f
  ·rw[if_pos q,if_pos q];exact ry
  ·rw[if_neg q,if_neg q];exact r g
 ·by_cases q:g=f
  ·rw[q];exact(keys_putF f y fs).1
  ·refine(keys_putF f y fs).2 g (wi g fun z=>hg ?_)
   show(if g=f then some u else mA g)=none
   rw[if_neg q];exact z
theorem Inv.made (I:Inv X pins σ H s):Inv X pins σ (upd (upd H s.heap.objs.size (.own (s.heap.objs.size+1))) (s.heap.objs.size+1) (.ins C s.heap.objs.size []))
  {s with heap:=(s.heap.push PySem.W.emptyDict).push (PySem.W.instObj C s.heap.objs.size)}:=by
 have e1:(s.heap.push PySem.W.emptyDict).get? s.heap.objs.size=some PySem.W.emptyDict:=Heap.get?_push_size s.heap rfl
 have e2:((s.heap.push PySem.W.emptyDict).push (PySem.W.instObj C s.heap.objs.size)).get? (s.heap.objs.size+1)=some (PySem.W.instObj C s.heap.objs.size):=by
  have:=Heap.get?_push_size (s.heap.push PySem.W.emptyDict) (o:=PySem.W.instObj C s.heap.objs.size) rfl
  rwa [Heap.size_push] at this
 have e3:(s.heap.push PySem.W.emptyDict).Ns s.heap.objs.size (fun _=>none):=⟨PySem.W.emptyDict,#[],_,e1,rfl,(fun e he=>absurd he (by simp)),fun _=>rfl⟩
 have I1:=I.laid (a:=s.heap.objs.size) (o:=.own (s.heap.objs.size+1)) (h':=s.heap.push PySem.W.emptyDict) (t':=s.toks) (fun b u q=>Heap.get?_push_of_some _ q) (Nat.le_refl _) ⟨_,e1⟩
 refine I1.laid (a:=s.heap.objs.size+1) (o:=.ins C s.heap.objs.size []) (t':=s.toks) (fun b u q=>Heap.get?_push_of_some _ q) (Nat.le_of_eq (Heap.size_push _ _)) ?_
 have ne:s.heap.objs.size≠s.heap.objs.size+1:=Nat.ne_of_lt (Nat.lt_succ_self _)
 refine⟨by rw[upd_ne ne,upd_same],Nat.zero_le _,ne,e2,fun _=>none,(Heap.Ns1.of_empty e3).at fun o q=>Heap.get?_push_of_some _ q,fun _=>True.intro,fun y hy=>absurd rfl hy⟩
theorem attr_of {prog:Program}{w:World}{env:Env}{e:Expr}{f:Str}{pos:Pos}{s:Shared}{Q:Value→Shared→Prop}(hb:attributeBase e f env (eval e env)=eval e env)
  (h:wpAny (model prog w) A (eval e env) (fun o s₁=>wpAny (model prog w) A (getAttr o f true) Q E s₁) E s):wpAny (model prog w) A (eval (.Attribute e f pos) env) Q E s:=
 Attribute_any_ h (by rw[arm_eval_Attribute,hb])
end
def tFld (K:PySem.W.Frag) (ta:TE) (f:Str):TE:=fun σ H Q=>ta σ H fun x H1=>∃a C dx fs v,x=.ref a∧H1 a=some (.ins C dx fs)∧Cls K C∧NoAttr K C f∧fs.lookup f=some v∧Q v H1
def sFld (K:PySem.W.Frag) (ta tv:TE) (f:Str):TS:=fun D σ H=>tv σ H fun y H1=>ta σ H1 fun x H2=>∃a C dx fs,x=.ref a∧H2 a=some (.ins C dx fs)∧Cls K C∧NoAttr K C f∧fs.length<1000∧
 D.nx σ (upd H2 a (.ins C dx (putF f y fs)))
section
variable {X:Cx} {o e value:Expr} {f:Str} {pos pos' tpos:Pos} {ta tv:TE}
theorem pe_fld (he:PE X e ta)(hb:attributeBase e f X.env (eval e X.env)=eval e X.env):PE X (.Attribute e f pos) (tFld X.K ta f):=by
 intro pins s σ H Q I h
 refine attr_of hb (thn (he pins s σ H _ I h) fun u s1 ⟨x,H1,I1,rx,a,C,dx,fs,v,ex,ea,c,n,l,q⟩=>?_)
 subst ex
 obtain rfl:u=Value.ref a:=rx
 exact getattr_ok I1 ea c n l fun u' s2 I2 ru=>⟨v,H1,I2,ru,q⟩
theorem ps_fld (ha:PE X o ta)(hv:PE X value tv)(hs:swapsWith value (some (.Attribute o f pos')) pos.line X.env=pure false):PS X (.Assign [.Attribute o f pos'] value pos) (sFld X.K ta tv f):=by
 intro pins s σ H D I h
 refine plainObj_wpAny_Assign_Attribute (thn (hv pins s σ H _ I h) fun u s1 ⟨y,H1,I1,ry,q⟩=>thn (ha pins s1 σ H1 _ I1 q) fun ov s2 ⟨x,H2,I2,rx,a,C,dx,fs,ex,ea,c,n,l,q2⟩=>?_) hs
 subst ex
 obtain rfl:ov=Value.ref a:=rx
 exact setattr_ok I2 ea c n l ry fun s3 I3=>⟨σ,_,I3,q2⟩
end
section
variable {X:Cx} {pins:List (Addr×Obj)} {σ:St} {H:Hp} {s:Shared} {A:Around} {E:Value→Shared→Prop} {Q:Value→Shared→Prop} {c:Value} {b:Bool}
inductive TyOf (K:PySem.W.Frag) (H:Hp):V→Value→Prop where
 |non:TyOf K H .non (.type "NoneType")
 |bl (x:Bool):TyOf K H (.bl x) (.type "bool")
 |int (i:Int):TyOf K H (.int i) (.type "int")
 |str (x:Str):TyOf K H (.str x) (.type "str")
 |flt (x:UInt64):TyOf K H (.flt x) (.type "float")
 |lst {a:Addr} {xs:List V} (e:H a=some (.lst xs)):TyOf K H (.ref a) (.type "list")
 |frz {a:Addr} {o:Obj} {xs:List V} (e:H a=some (.frz o (.lst xs))):TyOf K H (.ref a) (.type "list")
 |tup {a:Addr} {xs:List V} (e:H a=some (.tup xs)):TyOf K H (.ref a) (.type "tuple")
 |dK {a:Addr} {kvs:List (Key×V)} (e:H a=some (.dK kvs)):TyOf K H (.ref a) (.type "dict")
 |dT {a:Addr} {kvs:List (List Key×V)} (e:H a=some (.dT kvs)):TyOf K H (.ref a) (.type "dict")
 |ins {a C dx:Addr} {fs:List (Str×V)} (e:H a=some (.ins C dx fs)) (cl:Cls K C) (ha:PySem.W.findIn K (.ref C) "__class__" =some (some (.builtin "object.__class__")))
   (hn:PySem.W.specialIn K (.builtin "object.__class__") "__get__" =some (some (.builtin "getset_descriptor.__get__"))) (htk:PySem.W.takesIn K (.builtin "object.__class__")=some true)
   (hm:PySem.W.mroIn K C (.type "object")=some true):TyOf K H (.ref a) (.ref C)
theorem isinst_ok {x:V}{u t:Value}(I:Inv X pins σ H s)(rx:RelV x u)(ty:TyOf X.K H x t)(e:PySem.W.kitOne X.K t c=some b)(h:∀tk,Q (.bool b) {s with toks:=tk}):
  wpAny (model X.prog X.w) A (call (.builtin "isinstance") [u,c]) Q E s:=by
 cases ty with
 |non=>cases(show u=Value.none from rx);exact PySem.W.kia_one PySem.W.kitx_none I.kIn True.intro e (fun z=>nomatch z) h
 |bl y=>cases(show u=Value.bool y from rx);exact PySem.W.kia_one PySem.W.kitx_bool I.kIn True.intro e (fun z=>nomatch z) h
 |int i=>obtain⟨t,q⟩:=(show∃t,u=Value.int i t from rx);cases q;exact PySem.W.kia_one PySem.W.kitx_int I.kIn True.intro e (fun z=>nomatch z) h
 |str y=>obtain⟨t,q⟩:=(show∃t,u=Value.str y t from rx);cases q;exact PySem.W.kia_one PySem.W.kitx_str I.kIn True.intro e (fun z=>nomatch z) h
 |flt y=>obtain⟨t,q⟩:=(show∃t,u=Value.float y t from rx);cases q;exact PySem.W.kia_one PySem.W.kitx_float I.kIn True.intro e (fun z=>nomatch z) h
 | @lst a xs ea=>
  cases(show u=Value.ref a from rx)
  obtain⟨_,_,n,_,h1⟩:=(show ObjOk X.prog X.w H s.heap a (.lst xs) from I.hok a _ ea)
  exact PySem.W.kia_one PySem.W.kitx_list I.kIn ⟨_,h1,rfl⟩ e (fun z=>nomatch z) h
 | @frz a ob xs ea=>
  cases(show u=Value.ref a from rx)
  obtain⟨_,_,_,n,_,h1⟩:=(show ObjOk X.prog X.w H s.heap a (.frz ob (.lst xs)) from I.hok a _ ea)
  exact PySem.W.kia_one PySem.W.kitx_list I.kIn ⟨_,h1,rfl⟩ e (fun z=>nomatch z) h
 | @tup a xs ea=>
  cases(show u=Value.ref a from rx)
  obtain⟨_,_,_,p⟩:=(show ObjOk X.prog X.w H s.heap a (.tup xs) from I.hok a _ ea)
  obtain⟨o,h1,h2,_⟩:=p
  exact PySem.W.kia_one PySem.W.kitx_tuple I.kIn ⟨o,h1,h2⟩ e (fun z=>nomatch z) h
 | @dK a kvs ea=>
  cases(show u=Value.ref a from rx)
  obtain⟨_,_,vs,_,p⟩:=(show ObjOk X.prog X.w H s.heap a (.dK kvs) from I.hok a _ ea)
  obtain⟨o,es,ep,h1,h2,_⟩:=p
  exact PySem.W.kia_one PySem.W.kitx_dict I.kIn ⟨o,h1,h2.1⟩ e (fun z=>nomatch z) h
 | @dT a kvs ea=>
  cases(show u=Value.ref a from rx)
  obtain⟨_,_,xs,_,o,es,ep,h1,h2,_⟩:=(show ObjOk X.prog X.w H s.heap a (.dT kvs) from I.hok a _ ea)
  exact PySem.W.kia_one PySem.W.kitx_dict I.kIn ⟨o,h1,h2.1⟩ e (fun z=>nomatch z) h
 | @ins a C dx fs ea cl ha hn htk hm=>
  cases(show u=Value.ref a from rx)
  obtain⟨mA,O,_⟩:=ins_get I.hok ea
  obtain⟨od,J,_⟩:=O.look
  exact PySem.W.kia_one (PySem.W.kitx_own (cl.get _) cl.hd ha hn htk hm) I.kIn J e (fun z=>nomatch z) h
end
structure Room (k:Nat) (A:Around):Prop where
 hd:A.handled=none
 dp:A.depth+3*k+5<recursionLimit
 un:A.units+16*k+200<cLine
 gd:A.guards=some []
theorem Room.mono {j k:Nat}{A:Around}(r:Room k A)(h:j≤k):Room j A:=⟨r.hd,by have:=r.dp;omega,by have:=r.un;omega,r.gd⟩
theorem Room.deeper {k:Nat}{A:Around}(r:Room (k+1) A)(env:Env):Room k (A.deeper env):=
 ⟨r.hd,by have:=r.dp;show A.depth+1+3*k+5<_;omega,by have:=r.un;show A.units+3+16*k+200<_;omega,r.gd⟩
theorem make_depth {A:Around}{C:Addr}{us:List Value}{kw:List (Str×Value)}:(A.under (.builtin "type.__call__" ⟨.ref C::us,kw⟩)).depth=A.depth+1:=by
 first|rfl|simp[Around.under,Code.weight,Code.isCreation,Code.isGuard,Code.isCaller,Code.frames,Code.isFrame,guardIds]
theorem make_units {A:Around}{C:Addr}{us:List Value}{kw:List (Str×Value)}:(A.under (.builtin "type.__call__" ⟨.ref C::us,kw⟩)).units=A.units+1:=by
 first|rfl|simp[Around.under,Code.cUnits,Code.frames,Code.isFrame]
theorem make_guards {A:Around}{C:Addr}{us:List Value}{kw:List (Str×Value)}:(A.under (.builtin "type.__call__" ⟨.ref C::us,kw⟩)).guards=A.guards:=by
 first|rfl|simp[Around.under,Code.isGuard,Code.guards,guardIds]
theorem Room.make {k:Nat}{A:Around}(r:Room (k+1) A)(C:Addr)(us:List Value)(kw:List (Str×Value)):Room k (A.under (.builtin "type.__call__" ⟨.ref C::us,kw⟩)):=
 ⟨r.hd,by have:=r.dp;rw[make_depth];omega,by have:=r.un;rw[make_units];omega,by rw[make_guards];exact r.gd⟩
theorem Room.depth {k:Nat}{A:Around}(r:Room k A):A.depth<recursionLimit:=by have:=r.dp;omega
theorem Room.units {k:Nat}{A:Around}(r:Room k A):A.units+64<cLine:=by have:=r.un;omega
theorem Room.units0 {k:Nat}{A:Around}(r:Room k A):A.units<cLine:=by have:=r.un;omega
def tNil:TA:=fun _ H Q=>Q [] H
def tCons (ta:TE) (tr:TA):TA:=fun σ H Q=>ta σ H fun x H1=>tr σ H1 fun xs H2=>Q (x::xs) H2
section
variable {X:Cx} {e:Expr} {es:List Expr} {te:TE} {t:TA} {pos:Pos}
theorem pa_nil:PA X [] tNil:=fun _ _ _ _ H Q I h=>Calls.spliced_nil ⟨[],H,I,.nil,h⟩
theorem pa_cons (ha:PE X e te)(hr:PA X es t)(hs:starEach (e::es) X.env=(false,eval e X.env)::starEach es X.env:=by rfl):PA X (e::es) (tCons te t):=by
 intro pos pins s σ H Q I h
 rw[hs]
 show wpAny _ _ (spliced ((false,eval e X.env)::backTo pos (starEach es X.env))) _ _ s
 refine Calls.spliced_cons (thn (ha pins s σ H _ I h) fun u s1 ⟨x,H1,I1,r1,q1⟩=>?_)
 exact thn (hr pos pins s1 σ H1 _ I1 q1) fun us s2 ⟨xs,H2,I2,r2,q2⟩=>⟨x::xs,H2,I2,.cons r1 r2,q2⟩
def tTup (t:TA):TE:=fun σ H Q=>t σ H fun xs H1=>xs.length≤sizeLine∧∀p,H1 p=none→Q (.ref p) (upd H1 p (.tup xs))
def tLst (t:TA):TE:=fun σ H Q=>t σ H fun xs H1=>xs.length≤sizeLine∧∀p,H1 p=none→Q (.ref p) (upd H1 p (.lst xs))
theorem pe_tup {x1}(h:PA X es t):PE X (.Tuple es x1 pos) (tTup t):=by
 intro pins s σ H Q I hq
 refine wpAny_Tuple_spliced (thn (h pos pins s σ H _ I hq) fun us s1 ⟨xs,H1,I1,r,z,q⟩=>⟨by rw[←r.length];exact z,?_⟩)
 have hf:H1 s1.heap.objs.size=none:=I1.hok.fresh (Nat.le_refl _)
 refine⟨.ref s1.heap.objs.size,upd H1 s1.heap.objs.size (.tup xs),I1.laid (t':=s1.toks) (fun b u e=>Heap.get?_push_of_some _ e) (Nat.le_refl _) ?_,rfl,q _ hf⟩
 exact⟨z,us,r,⟨_,Heap.get?_push_size _ rfl,rfl,_,rfl⟩⟩
theorem pe_lst (h:PA X es t):PE X (.List es pos) (tLst t):=by
 intro pins s σ H Q I hq
 refine wpAny_List_spliced (thn (h pos pins s σ H _ I hq) fun us s1 ⟨xs,H1,I1,r,z,q⟩=>⟨by rw[←r.length];exact z,?_⟩)
 have hf:H1 s1.heap.objs.size=none:=I1.hok.fresh (Nat.le_refl _)
 refine⟨.ref s1.heap.objs.size,upd H1 s1.heap.objs.size (.lst xs),I1.laid (t':=s1.toks) (fun b u e=>Heap.get?_push_of_some _ e) (Nat.le_refl _) ?_,rfl,q _ hf⟩
 exact⟨z,us,0,r,Heap.get?_push_size _ rfl⟩
end
abbrev Sp:=List V→Hp→VK→XK→Prop
abbrev CXT:=List Env→Hp→Shared→XK→Value→Shared→Prop
structure Env0 (P:Program) (w:World) (K:PySem.W.Frag) (mg:Str→Option Value) (base:Heap) (A:Around) (outer:List Env) (s:Shared) (H:Hp):Prop where
 frames:A.frames=some outer
 mod:Mod K mg base
 bs:∀b o,base.get? b=some o→s.heap.get? b=some o∧H b=none
 bsz:base.objs.size≤s.heap.objs.size
 funs:s.heap.FunFrames base outer
 frf:∀b∈frs outer,H b=none
 hok:HOk P w H s.heap
 bare:AllBare s.gens
def CE (outer:List Env) (P:Program) (w:World) (H:Hp) (s:Shared) (Q:VK) (u:Value) (s':Shared):Prop:=
 ∃v H',s'.os=s.os∧AllBare s'.gens∧Un (frs outer) [] H H' s.heap s'.heap∧HOk P w H' s'.heap∧RelV v u∧Q v H'
def CR (CX:CXT) (outer:List Env) (P:Program) (w:World) (H:Hp) (s:Shared) (Q:VK) (E:XK) (r:Result) (s':Shared):Prop:=
 match r with
 | .ok (.ret u)=>CE outer P w H s Q u s'
 | .ok _=>False
 | .error e=>CX outer H s E e s'
structure FnOk (P:Program) (w:World) (K:PySem.W.Frag) (mg:Str→Option Value) (base:Heap) (CX:CXT) (k:Nat) (f:Addr) (fd:FuncData) (ps:List Str) (sp:Sp):Prop where
 len:∀vs H Q E,sp vs H Q E→vs.length=ps.length
 run:∀(A:Around) (outer:List Env) (s:Shared) (H:Hp) (args:Args) (us:List Value) (vs:List V) (Q:VK) (E:XK),Room k A→Env0 P w K mg base A outer s H→BindsTo s fd args (ps.zip us)→Vals vs us→sp vs H Q E→
  codeAny (model P w) A (.call (.ref f) args) (CR CX outer P w H s Q E) s
theorem Env0.make {P:Program}{w:World}{K:PySem.W.Frag}{mg:Str→Option Value}{base:Heap}{A:Around}{outer:List Env}{s:Shared}{H:Hp}(e:Env0 P w K mg base A outer s H)(C:Addr)(us:List Value)(kw:List (Str×Value)):
  Env0 P w K mg base (A.under (.builtin "type.__call__" ⟨.ref C::us,kw⟩)) outer s H:=⟨by first|exact e.frames|(simpa[Around.under,Code.envs,Code.isFrame,pushEnvs] using e.frames),e.mod,e.bs,e.bsz,e.funs,e.frf,e.hok,e.bare⟩
section
variable {X:Cx} {pins:List (Addr×Obj)} {σ:St} {H:Hp} {s s':Shared}
theorem Inv.env0 (I:Inv X pins σ H s):Env0 X.prog X.w X.K X.mg X.base X.A X.stack s H:=
 ⟨I.ok.frames,I.ok.mod,I.bs,Nat.le_trans I.ok.bsz I.sz,I.stack,I.stkFree,I.hok,I.bare⟩
theorem Inv.after {Q:VK}{u:Value}(I:Inv X pins σ H s)(h:CE X.stack X.prog X.w H s Q u s'):EP X pins σ Q u s':=by
 obtain⟨v,H',os,bare,un,hok,r,q⟩:=h
 obtain⟨hh,g,d,t,os'⟩:=s'
 obtain rfl:os'=s.os:=os
 exact⟨v,H',I.call (h':=hh) (g':=g) (d':=d) (t':=t) (ch:=[]) un hok bare (fun b z=>absurd z (by simp)),r,q⟩
end
def tCall (sp:Sp) (dvs:List V) (E:XK) (t:TA):TE:=fun σ H Q=>t σ H fun vs H1=>sp (vs++dvs) H1 Q E
def tMeth (C:Addr) (m:Str) (sp:Sp) (dvs:List V) (E:XK) (ta:TE) (t:TA):TE:=fun σ H Q=>ta σ H fun x H1=>∃a dx fs,x=.ref a∧H1 a=some (.ins C dx fs)∧fs.lookup m=none∧
 t σ H1 fun vs H2=>sp (x::(vs++dvs)) H2 Q E
def tMake (C:Addr) (sp:Sp) (dvs:List V) (E:XK) (t:TA):TE:=fun σ H Q=>t σ H fun vs H1=>∀x dx,H1 x=none→H1 dx=none→dx≠x→
 sp (.ref x::(vs++dvs)) (upd (upd H1 dx (.own x)) x (.ins C dx [])) (fun v H2=>v=.non∧Q (.ref x) H2) E
def Binds (K:PySem.W.Frag) (fd:FuncData) (ps:List Str) (ds:List Value):Prop:=
 ∀(s:Shared) (us:List Value),K.In s.heap→(us++ds).length=ps.length→BindsTo s fd ⟨us,[]⟩ (ps.zip (us++ds))
theorem Binds.all {K:PySem.W.Frag}{fd:FuncData}{ps:List Str}(h:∀us:List Value,us.length=ps.length→bindArgs fd ⟨us,[]⟩=pure (ps.zip us)):Binds K fd ps []:=fun s us _ hl=>by
 rw[List.append_nil] at hl⊢
 exact .of_eq (h us hl)
def Passes (CX:CXT) (X:Cx) (E:XK):Prop:=∀(pins:List (Addr×Obj)) (σ:St) (H:Hp) (s:Shared) (e:Value) (s':Shared),Inv X pins σ H s→CX X.stack H s E e s'→X.xe e s'
section
variable {X:Cx} {CX:CXT} {k:Nat} {f C:Addr} {fd:FuncData} {ps:List Str} {sp:Sp} {dvs:List V} {ds:List Value} {E:XK} {x m:Str} {p pos apos:Pos} {e o:Expr} {es:List Expr} {ta:TE} {t:TA}
theorem run_fn {pins:List (Addr×Obj)}{σ:St}{H:Hp}{s:Shared}{Q:VK}{us:List Value}{vs:List V}(F:FnOk X.prog X.w X.K X.mg X.base CX k f fd ps sp)(hr:Room k X.A)(hb:Binds X.K fd ps ds)(hd:Vals dvs ds)(hx:Passes CX X E)
  (I:Inv X pins σ H s) (r:Vals vs us) (h:sp (vs++dvs) H Q E):wpAny (model X.prog X.w) X.A (call (.ref f) us) (EP X pins σ Q) X.xe s:=by
 have r2:Vals (vs++dvs) (us++ds):=r.append hd
 have hl:(us++ds).length=ps.length:=by rw[←r2.length];exact F.len _ _ _ _ h
 refine wpAny_call (codeAny_mono (F.run X.A X.stack s H ⟨us,[]⟩ (us++ds) (vs++dvs) Q E hr I.env0 (hb s us I.kIn hl) r2 h) fun r s' hq=>?_)
 cases r with
 |error e=>exact hx pins σ H s e s' I hq
 |ok fl=>
  cases fl with
  |ret u=>exact I.after hq
  |next=>exact False.elim hq
  |brk=>exact False.elim hq
  |cont=>exact False.elim hq
theorem pe_call (F:FnOk X.prog X.w X.K X.mg X.base CX k f fd ps sp)(hr:Room k X.A)(hg:Gl X x)(hm:X.mg x=some (.ref f))(hk:PySem.W.keepIn X.K (.ref f)=true)(hb:Binds X.K fd ps ds)(hd:Vals dvs ds)(hx:Passes CX X E)
  (ha:PA X (e::es) t) (hdb:(x==("__debug__" :Str))=false:=by decide) (he:starEach (e::es) X.env=(false,eval e X.env)::starEach es X.env:=by rfl) (hpl:(backTo pos (starEach es X.env)).any (·.1)=false:=by rfl):
  PE X (.Call (.Name x p) (e::es) [] pos) (tCall sp dvs E t):=by
 intro pins s σ H Q I h
 refine wpAny_Call_Name_kw (ld_glob I hg hm ?_ hdb)
 refine PySem.W.callWith_K (h₀:=X.base) I.ok.mod.kin hk (thn (ha pos pins s σ H _ I h) fun us s1 ⟨vs,H1,I1,r,q⟩=>⟨I1.kIn,?_⟩) he hpl
 exact run_fn F hr hb hd hx I1 r q
theorem pe_meth {pl:Sem Bool}(he:PE X o ta)(c:Cls X.K C)(hm:Meth X.K C m f)(F:FnOk X.prog X.w X.K X.mg X.base CX k f fd ps sp)(hr:Room k X.A)(hb:Binds X.K fd ps ds)(hd:Vals dvs ds)(hx:Passes CX X E)(ha:PA X (e::es) t)
  (hst:starEach (e::es) X.env=(false,eval e X.env)::starEach es X.env:=by rfl) (hpl:(backTo pos (starEach es X.env)).any (·.1)=false:=by rfl)
  (ht:eval (.Call (.Attribute o m apos) (e::es) [] pos) X.env=(do
   let ov←eval o X.env
   standAt apos.atName
   let (f,first)←holding [ov] (getMethod ov m pl)
   callWith pos f first (backTo pos (starEach (e::es) X.env)) (backToKw pos (keywordEach [] X.env))):=by rfl):
  PE X (.Call (.Attribute o m apos) (e::es) [] pos) (tMeth C m sp dvs E ta t):=by
 intro pins s σ H Q I h
 refine PySem.W.methodCall_KW (pl:=pl) (thn (he pins s σ H _ I h) fun u s1 ⟨x,H1,I1,rx,a,dx,fs,ex,ea,l,q⟩=>?_) ht
 subst ex
 obtain rfl:u=Value.ref a:=rx
 refine getmeth_ok I1 ea c hm l ?_
 refine PySem.W.callWith_K (first:=[.ref a]) (h₀:=X.base) I.ok.mod.kin hm.kp (thn (ha pos pins s1 σ H1 _ I1 q) fun us s2 ⟨vs,H2,I2,r,q2⟩=>⟨I2.kIn,?_⟩) hst hpl
 exact run_fn (us:=.ref a::us) (vs:=.ref a::vs) F hr hb hd hx I2 (.cons rfl r) q2
theorem pe_meth0 {pl:Sem Bool}(he:PE X o ta)(c:Cls X.K C)(hm:Meth X.K C m f)(F:FnOk X.prog X.w X.K X.mg X.base CX k f fd ps sp)(hr:Room k X.A)(hb:Binds X.K fd ps ds)(hd:Vals dvs ds)(hx:Passes CX X E)
  (ht:eval (.Call (.Attribute o m apos) [] [] pos) X.env=(do
   let ov←eval o X.env
   standAt apos.atName
   let (f,first)←holding [ov] (getMethod ov m pl)
   callWith pos f first (backTo pos (starEach [] X.env)) (backToKw pos (keywordEach [] X.env))):=by rfl):
  PE X (.Call (.Attribute o m apos) [] [] pos) (tMeth C m sp dvs E ta tNil):=by
 intro pins s σ H Q I h
 refine PySem.W.methodCall_KW (pl:=pl) (thn (he pins s σ H _ I h) fun u s1 ⟨x,H1,I1,rx,a,dx,fs,ex,ea,l,q⟩=>?_) ht
 subst ex
 obtain rfl:u=Value.ref a:=rx
 refine getmeth_ok I1 ea c hm l ?_
 exact PySem.W.callWith_K0 (first:=[.ref a]) I1.kIn hm.kp (run_fn (us:=[.ref a]) (vs:=[.ref a]) F hr hb hd hx I1 (.cons rfl .nil) q)
structure Mk (K:PySem.W.Frag) (C f:Addr):Prop where
 makes:PySem.W.makesIn K C=true
 init:PySem.W.findIn K (.ref C) "__init__" =some (some (.ref f))
 fn:PySem.W.isFn K (.ref f)=true
 kp:PySem.W.keepIn K (.ref C)=true
theorem run_make {pins:List (Addr×Obj)}{σ:St}{H:Hp}{s:Shared}{Q:VK}{us:List Value}{vs:List V}(M:Mk X.K C f)(F:FnOk X.prog X.w X.K X.mg X.base CX k f fd ps sp)(hr:Room (k+1) X.A)(hb:Binds X.K fd ps ds)(hd:Vals dvs ds)
  (hx:Passes CX X E) (I:Inv X pins σ H s) (r:Vals vs us)
  (h:∀x dx,H x=none→H dx=none→dx≠x→sp (.ref x::(vs++dvs)) (upd (upd H dx (.own x)) x (.ins C dx [])) (fun v H2=>v=.non∧Q (.ref x) H2) E):
  wpAny (model X.prog X.w) X.A (call (.ref C) us) (EP X pins σ Q) X.xe s:=by
 have hq:=h (s.heap.objs.size+1) s.heap.objs.size (I.hok.fresh (Nat.le_succ _)) (I.hok.fresh (Nat.le_refl _)) (Nat.ne_of_lt (Nat.lt_succ_self _))
 have I2:=Inv.made (C:=C) I
 have r2:Vals (V.ref (s.heap.objs.size+1)::(vs++dvs)) (Value.ref (s.heap.objs.size+1)::(us++ds)):=.cons rfl (r.append hd)
 have hl:(Value.ref (s.heap.objs.size+1)::us++ds).length=ps.length:=by
  have e:=r2.length
  rw[F.len _ _ _ _ hq] at e
  exact e.symm
 refine wpAny_call (make_map (f:=f) I.kIn M.makes M.init (beq_iff_eq.mp M.fn) (codeAny_mono (F.run _ X.stack _ _ ⟨Value.ref (s.heap.objs.size+1)::us,[]⟩ (Value.ref (s.heap.objs.size+1)::(us++ds)) _ _ E (hr.make C us [])
  (I2.env0.make C us []) (hb _ (Value.ref (s.heap.objs.size+1)::us) I2.kIn hl) r2 hq) fun r s' hq'=>?_))
 cases r with
 |error e=>exact hx pins σ _ _ e s' I2 hq'
 |ok fl=>
  cases fl with
  |ret u=>
   obtain⟨v,H',I3,rv,ev,q3⟩:=I2.after hq'
   subst ev
   exact⟨rv,⟨V.ref (s.heap.objs.size+1),H',I3,rfl,q3⟩⟩
  |next=>exact False.elim hq'
  |brk=>exact False.elim hq'
  |cont=>exact False.elim hq'
theorem pe_make (M:Mk X.K C f)(F:FnOk X.prog X.w X.K X.mg X.base CX k f fd ps sp)(hr:Room (k+1) X.A)(hg:Gl X x)(hm:X.mg x=some (.ref C))(hb:Binds X.K fd ps ds)(hd:Vals dvs ds)(hx:Passes CX X E)
  (ha:PA X (e::es) t) (hdb:(x==("__debug__" :Str))=false:=by decide) (he:starEach (e::es) X.env=(false,eval e X.env)::starEach es X.env:=by rfl) (hpl:(backTo pos (starEach es X.env)).any (·.1)=false:=by rfl):
  PE X (.Call (.Name x p) (e::es) [] pos) (tMake C sp dvs E t):=by
 intro pins s σ H Q I h
 refine wpAny_Call_Name_kw (ld_glob I hg hm ?_ hdb)
 refine PySem.W.callWith_K (h₀:=X.base) I.ok.mod.kin M.kp (thn (ha pos pins s σ H _ I h) fun us s1 ⟨vs,H1,I1,r,q⟩=>⟨I1.kIn,?_⟩) he hpl
 exact run_make M F hr hb hd hx I1 r q
end
section
variable {X:Cx} {CX:CXT} {k:Nat} {f C:Addr} {fd:FuncData} {ps ks:List Str} {sp:Sp} {E:XK} {x m:Str} {p pos apos kpos:Pos} {e o:Expr} {es:List Expr} {kws:List Keyword} {te ta:TE} {t tk:TA} {nm:Option Str}
variable {g:List Value→List Value→List Value} {gV:List V→List V→List V}
end
structure FnScope (N P:List Str) (sc:Scope):Prop where
 kind:sc.kind=.function
 co:sc.isCoroutine=false
 gen:sc.isGenerator=false
 nd:N.Nodup
 pre:N.take P.length=P
 par:∀x∈P,sc.names.lookup x=some .local∨sc.names.lookup x=some .cell
 nofree:∀y∈sc.names,y.2≠.free
theorem bindL_out {kindOf:Str→Option NameKind}{x:Str}:∀{binds:List (Str×Value)} {m:Str→Option Value},(∀v,(x,v)∉binds)→bindL kindOf binds m x=m x
 |[],_,_=>rfl
 |(n,v)::r,m,h=>by
  unfold bindL
  rw[bindL_out fun w hw=>h w (List.mem_cons_of_mem _ hw)]
  split
  ·have:x≠n:=by rintro rfl;exact h v List.mem_cons_self
   simp[this]
  ·rfl
theorem bindC_out {kindOf:Str→Option NameKind}{x:Str}:∀{binds:List (Str×Value)} {m:Str→Option Value},(∀v,(x,v)∉binds)→bindC kindOf binds m x=m x
 |[],_,_=>rfl
 |(n,v)::r,m,h=>by
  unfold bindC
  rw[bindC_out fun w hw=>h w (List.mem_cons_of_mem _ hw)]
  split
  ·rfl
  ·have:x≠n:=by rintro rfl;exact h v List.mem_cons_self
   simp[this]
theorem bindL_get {kindOf:Str→Option NameKind}{x:Str}{v:Value}:∀{P:List Str} {vs:List Value} {i:Nat} {m:Str→Option Value},P.Nodup→P[i]?=some x→vs[i]?=some v→kindOf x=some .local→
  bindL kindOf (P.zip vs) m x=some v
 |[],_,_,_,_,h,_,_=>by simp at h
 |_::_,[],_,_,_,_,h,_=>by simp at h
 |p::P,w::vs,0,m,nd,h1,h2,hk=>by
  simp at h1 h2;subst h1;subst h2
  show bindL kindOf ((p,w)::P.zip vs) m p=_
  unfold bindL
  rw[bindL_out fun v hv=>(List.nodup_cons.mp nd).1 (List.of_mem_zip hv).1,if_pos hk]
  simp
 |p::P,w::vs,i+1,m,nd,h1,h2,hk=>by
  show bindL kindOf ((p,w)::P.zip vs) m x=_
  unfold bindL
  exact bindL_get (i:=i) (List.nodup_cons.mp nd).2 (by simpa using h1) (by simpa using h2) hk
theorem bindC_get {kindOf:Str→Option NameKind}{x:Str}{v:Value}:∀{P:List Str} {vs:List Value} {i:Nat} {m:Str→Option Value},P.Nodup→P[i]?=some x→vs[i]?=some v→kindOf x≠some .local→
  bindC kindOf (P.zip vs) m x=some v
 |[],_,_,_,_,h,_,_=>by simp at h
 |_::_,[],_,_,_,_,h,_=>by simp at h
 |p::P,w::vs,0,m,nd,h1,h2,hk=>by
  simp at h1 h2;subst h1;subst h2
  show bindC kindOf ((p,w)::P.zip vs) m p=_
  unfold bindC
  rw[bindC_out fun v hv=>(List.nodup_cons.mp nd).1 (List.of_mem_zip hv).1,if_neg hk]
  simp
 |p::P,w::vs,i+1,m,nd,h1,h2,hk=>by
  show bindC kindOf ((p,w)::P.zip vs) m x=_
  unfold bindC
  exact bindC_get (i:=i) (List.nodup_cons.mp nd).2 (by simpa using h1) (by simpa using h2) hk
noncomputable def start (N:List Str) (vs:List V):St:=vs.map some++List.replicate (N.length - vs.length) none
noncomputable def cxOf (CX:CXT) (P:Program) (w:World) (K:PySem.W.Frag) (mg:Str→Option Value) (base:Heap) (N:List Str) (qual:Str) (scope:Scope) (f:Addr) (cd:Value) (A:Around) (outer:List Env) (s:Shared) (H:Hp) (E:XK):Cx where
 prog:=P
 w:=w
 K:=K
 mg:=mg
 base:=base
 A:=A.deeper (envOfC qual scope s.heap.objs.size f cd)
 N:=N
 s₀:=s
 H₀:=H
 env:=envOfC qual scope s.heap.objs.size f cd
 outer:=outer
 stack:=envOfC qual scope s.heap.objs.size f cd::outer
 ex:=[]
 calm:=true
 fn:=fun _=>true
 pn:=[]
 xe:=fun e s'=>wpAny (model P w) (A.deeper (envOfC qual scope s.heap.objs.size f cd)) (leaving (envOfC qual scope s.heap.objs.size f cd) e) (fun _ s''=>CX outer H s E e s'') (fun e' s''=>CX outer H s E e' s'') s'
theorem cell_has {sc:Scope}{n:Nat}{x:Str}(h:sc.names.lookup x=some .cell):∃c,(cellsFrom n sc.names []).lookup x=some c:=by
 have q:=PySem.W.cellsFrom_some sc.names n [] (.inl h)
 exact Option.isSome_iff_exists.mp q
theorem inv_start {CX:CXT}{P:Program}{w:World}{K:PySem.W.Frag}{mg:Str→Option Value}{base:Heap}{N ps:List Str}{qual:Str}{scope:Scope}{f:Addr}{cd:Value}{A:Around}{outer:List Env}{s s1:Shared}{H:Hp}{E:XK}{us:List Value}{vs:List V}
  (S:FnScope N ps scope) (hd:A.handled=none) (e0:Env0 P w K mg base A outer s H) (hl:vs.length=ps.length) (r:Vals vs us)
  (x:InCallC s s.heap.objs.size (bindL (envOfC qual scope s.heap.objs.size f cd).kindOf (ps.zip us) fun _=>none) (cellsFrom (s.heap.objs.size+1) scope.names []) (bindC (envOfC qual scope s.heap.objs.size f cd).kindOf (ps.zip us) fun _=>none) s1):
  Inv (cxOf CX P w K mg base N qual scope f cd A outer s H E) [] (start N vs) H s1:=by
 have hpl:ps.length≤N.length:=by have:=congrArg List.length S.pre;rw[List.length_take] at this;omega
 obtain⟨h1,tk,rfl,hk⟩:=x.done
 have noA:∀b:Addr,b∉(cxOf CX P w K mg base N qual scope f cd A outer s H E).ex:=fun b z=>absurd (show b∈([]:List Addr) from z) (by simp)
 refine⟨⟨e0.mod,S.kind,rfl,rfl,Nat.le_refl _,fun y z c h1 h2=>?_,fun y hy=>?_,fun y c _ h=>?_,fun _=>hd,Around.frames_deeper e0.frames,.inr ⟨rfl,rfl⟩,fun b z=>absurd z (noA b),e0.bs,e0.bsz,fun b _ _=>noA b,fun b z=>absurd z (noA b),e0.funs,e0.frf⟩,
  rfl,e0.bare,Un.kept hk,⟨_,x.toInCall.ns,fun i y v h1 h2 h3=>?_⟩,fun y c h=>⟨_,x.cell y c h⟩,e0.hok.fresh (Nat.le_refl _),fun y c h=>?_,fun p hp=>absurd (show p∈([]:List (Addr×Obj)) from hp) (by simp),e0.hok.kept hk,?_⟩
 ·exact name_of_addr x.apart (PySem.mem_of_lookup h1) (PySem.mem_of_lookup h2)
 ·have hy:scope.names.lookup y=some .cell∨scope.names.lookup y=some .free:=hy
  rcases hy with hy|hy
  ·exact cell_has hy
  ·exact absurd rfl (S.nofree _ (PySem.mem_of_lookup hy))
 ·exact Nat.le_of_lt (x.above y c (PySem.mem_of_lookup h))
 ·have hi:i<vs.length:=by
   unfold start at h2
   by_cases hi:i<vs.length
   ·exact hi
   ·rw[List.getElem?_append_right (by simpa using hi)] at h2
    rw[List.getElem?_replicate] at h2
    split at h2<;>cases h2
  have ha:vs[i]?=some v:=by
   unfold start at h2
   rw[List.getElem?_append_left (by simpa using hi),List.getElem?_map] at h2
   cases e:vs[i]? with
   |none=>rw[e] at h2;cases h2
   |some a=>rw[e] at h2;cases h2;rfl
  obtain⟨u,hu,rv⟩:=r.get ha
  have hp:ps[i]?=some y:=by
   rw[←S.pre,List.getElem?_take_of_lt (by omega)];exact h1
  have ndP:ps.Nodup:=by rw[←S.pre];exact S.nd.sublist (List.take_sublist _ _)
  refine⟨u,rv,?_⟩
  rcases S.par y (List.mem_of_getElem? hp) with k|k
  ·exact .inl ⟨k,bindL_get ndP hp hu k⟩
  ·obtain⟨c,e⟩:=cell_has (n:=s.heap.objs.size+1) k
   refine .inr ⟨.inl k,c,e,?_⟩
   have q:=x.cell y c e
   rw[bindC_get ndP hp hu (by show scope.names.lookup y≠_;rw[k];decide)] at q
   exact q
 ·exact e0.hok.fresh (Nat.le_of_lt (x.above y c (PySem.mem_of_lookup h)))
 ·unfold start
  show _=N.length
  rw[List.length_append,List.length_map,List.length_replicate]
  omega
theorem fn_of {CX:CXT}{P:Program}{w:World}{K:PySem.W.Frag}{mg:Str→Option Value}{base:Heap}{k:Nat}{f:Addr}{name qual:Str}{params:Arguments}{body:List Stmt}{scope:Scope}{dV kV doc pm cdv ct oc:Value}{an od:Option Addr}
  {osl:Array (Option Value)} {N ps:List Str} {sp:Sp} (lk:K.lookup f=some ⟨oc,od,.func (PySem.W.fnOf name qual params body scope dV kV doc pm an cdv ct),osl⟩) (hcd:PySem.W.codeIn K cdv qual=true) (S:FnScope N ps scope)
  (len:∀vs H Q E,sp vs H Q E→vs.length=ps.length)
  (hbody:∀(A:Around) (outer:List Env) (s:Shared) (H:Hp) (vs:List V) (Q:VK) (E:XK),Room k (A.deeper (envOfC qual scope s.heap.objs.size f cdv))→sp vs H Q E→
   ∃t,PSs (cxOf CX P w K mg base N qual scope f cdv A outer s H E) body t∧t {nx:=fun _ H'=>Q .non H',rt:=Q} (start N vs) H):
  FnOk P w K mg base CX (k+1) f (PySem.W.fnOf name qual params body scope dV kV doc pm an cdv ct) ps sp:=by
 refine⟨len,fun A outer s H args us vs Q E hr e0 hb r hsp=>?_⟩
 have hl:=len _ _ _ _ hsp
 have KX:K.In s.heap:=e0.mod.kin.keeps fun b o e=>(e0.bs b o e).1
 have lim:s.heap.NoLimit:=e0.mod.nolimit.keeps fun b o e=>(e0.bs b o e).1
 have hkind:∀y∈ps.zip us,scope.names.lookup y.1=some .local∨(scope.names.lookup y.1=some .cell∧((cellsFrom (s.heap.objs.size+1) scope.names []).lookup y.1).isSome=true):=fun⟨n,v⟩ hy=>by
  rcases S.par n (List.of_mem_zip hy).1 with q|q
  ·exact .inl q
  ·exact .inr ⟨q,PySem.W.cellsFrom_some _ _ _ (.inl q)⟩
 refine codeAny_call_function hr.depth (KX _ _ lk) rfl S.co S.gen rfl (PySem.W.codeRec_of KX hcd) (hb _ _ _ _ ?_)
 refine wpAny_newFunctionEnv_cells S.kind hkind fun env he s1 x=>?_
 subst he
 refine⟨lim.keeps x.toInCall.keep,codeAny_func ?_⟩
 obtain⟨t,ht,hq⟩:=hbody A outer s H vs Q E (hr.deeper _) hsp
 have I:Inv (cxOf CX P w K mg base N qual scope f cdv A outer s H E) [] (start N vs) H s1:=inv_start S hr.hd e0 hl r x
 refine wpAny_mono (ht [] s1 (start N vs) H _ I hq) (fun fl s' hs=>?_) fun e s' hs=>hs
 have fin:∀{σ':St} {H':Hp} {v:V} {u:Value},Inv (cxOf CX P w K mg base N qual scope f cdv A outer s H E) [] σ' H' s'→RelV v u→Q v H'→CE outer P w H s Q u s':=
  fun{σ' H' v u} J rv q=>⟨v,H',J.os,J.bare,J.base,J.hok,rv,q⟩
 cases fl with
 |ret u=>
  obtain⟨v,σ',H',J,rv,q⟩:=hs
  exact fin J rv q
 |next=>
  obtain⟨σ',H',J,q⟩:=hs
  exact fin (v:=V.non) (u:=Value.none) J rfl q
 |brk=>
  obtain⟨_,_,_,q⟩:=hs
  exact False.elim q
 |cont=>
  obtain⟨_,_,_,q⟩:=hs
  exact False.elim q
section
variable {X:Cx} {x:Str} {p pos:Pos} {e:Expr} {es:List Expr} {t:TA} {id T:String} {r:List V→Hp→VK→Prop}
def tCB (r:List V→Hp→VK→Prop) (t:TA):TE:=fun σ H Q=>t σ H fun vs H1=>r vs H1 Q
theorem pe_callB (hc:CallR X (.builtin id) r)(hg:Gl X x)(hm:X.mg x=none)(hv:bootBuiltins x=some (.builtin id))(ha:PA X (e::es) t)(hn:x≠ "__name__" :=by decide)(hdb:(x==("__debug__" :Str))=false:=by decide)
  (he:starEach (e::es) X.env=(false,eval e X.env)::starEach es X.env:=by rfl) (hpl:(backTo pos (starEach es X.env)).any (·.1)=false:=by rfl):PE X (.Call (.Name x p) (e::es) [] pos) (tCB r t):=by
 intro pins s σ H Q I h
 refine wpAny_Call_Name_kw (ld_blt I hg hm hv ?_ hn hdb)
 exact PyProof.Rows.callWith_builtin1 (thn (ha pos pins s σ H _ I h) fun us s1 ⟨vs,H1,I1,r1,q1⟩=>hc pins s1 σ H1 vs us Q I1 r1 q1) he hpl
theorem pe_callTy (hc:CallR X (.type T) r)(hg:Gl X x)(hm:X.mg x=none)(hv:bootBuiltins x=some (.type T))(ha:PA X (e::es) t)(hn:x≠ "__name__" :=by decide)(hdb:(x==("__debug__" :Str))=false:=by decide)
  (he:starEach (e::es) X.env=(false,eval e X.env)::starEach es X.env:=by rfl) (hpl:(backTo pos (starEach es X.env)).any (·.1)=false:=by rfl):PE X (.Call (.Name x p) (e::es) [] pos) (tCB r t):=by
 intro pins s σ H Q I h
 refine wpAny_Call_Name_kw (ld_blt I hg hm hv ?_ hn hdb)
 exact PyProof.Rows.callWith_type1 (thn (ha pos pins s σ H _ I h) fun us s1 ⟨vs,H1,I1,r1,q1⟩=>hc pins s1 σ H1 vs us Q I1 r1 q1) he hpl
end
end L2
namespace HT
open PySem PyProof.Rows
noncomputable def lexLt:List Int→List Int→Bool
 |[],[]=>false
 |[],_::_=>true
 |_::_,[]=>false
 |x::xs,y::ys=>if x=y then lexLt xs ys else decide (x<y)
theorem lexLt_cons (x y:Int)(xs ys:List Int):lexLt (x::xs) (y::ys)=if x=y then lexLt xs ys else decide (x<y):=rfl
theorem lexLt_nil_nil:lexLt [] []=false:=rfl
theorem lexLt_nil_cons (y:Int)(ys:List Int):lexLt [] (y::ys)=true:=rfl
theorem lexLt_cons_nil (x:Int)(xs:List Int):lexLt (x::xs) []=false:=rfl
theorem eqAt_int (A:Around)(s:Shared)(a:Int)(t:Tok)(c:Int)(u:Tok):∃e,SeqAt.EqAt A s (.int a t) (.int c u) e∧(e=true↔a=c):=
 ⟨(a==c),SeqAt.EqAt.int_int a t c u,by simp⟩
theorem rcLt_int (A:Around)(s:Shared)(a:Int)(t:Tok)(c:Int)(u:Tok)(prog:Program)(w:World)(E:Value→Shared→Prop)(Q:Value→Shared→Prop)(h:Q (.bool (decide (a<c))) s):
  wpAny (model prog w) A (richCompare .Lt (.int a t) (.int c u)) Q E s:=
 (PyProof.Rows.lt_int h:wpAny (model prog w) A (compareOp .Lt (.int a t) (.int c u)) Q E s)
section
open PySem.SeqAt
open PySem.AutoSeq1 (wpAny_loadPart')
open PySem.MeetsSeq PySem.MeetsSeq2 PySem.MeetsSeq3
theorem tuple_lt_ints (l b:Addr)(items items2:Array Value)(n n2:Nat)(dd dd2:Option Addr)(sl sl2:Array (Option Value))(ns ms:List Int)(hi:IntsAre items.toList ns)(hj:IntsAre items2.toList ms):
  Meets (Builtin.«tuple.__lt__» ⟨[.ref l,.ref b],[]⟩)
   (fun _ R s=>s.heap.get? l=some {cls:=.type "tuple",dict:=dd,data:=.seq items n,slots:=sl}∧s.heap.get? b=some {cls:=.type "tuple",dict:=dd2,data:=.seq items2 n2,slots:=sl2}∧
    R (.ok (.ret (.bool (lexLt ns ms)))) s):=
 .of_wp fun prog w A R s h=>by
  obtain⟨hp,g,d,tk,os⟩:=s;obtain⟨hl,hb,h⟩:=h
  have f2:=AutoSeq1.sub_tuple_tuple
  have z1:items.size=ns.length:=by rw[←hi.length];simp
  have z2:items2.size=ms.length:=by rw[←hj.length];simp
  wp_walk using wpAny_loadPart' hl,wpAny_loadPart' hb,wpAny_forIn_list _ (fun rest b s'=>b.1=none∧s'=⟨hp,g,d,tk,os⟩∧∃(vs ws:List Value) (ns' ms':List Int),rest=vs.zip ws∧
   IntsAre vs ns'∧IntsAre ws ms'∧ns'.length+items2.size=ms'.length+items.size∧R (.ok (.ret (.bool (lexLt ns' ms')))) ⟨hp,g,d,tk,os⟩) _
  case turn=>
   rintro⟨y,x⟩ rest b s' ⟨hb',rfl,vs,ws,ns',ms',hz,hvi,hwi,hlen,hR⟩
   cases hvi with
   |nil=>rw[List.zip_nil_left] at hz;cases hz
   |cons a t hvi'=>
    cases hwi with
    |nil=>rw[List.zip_nil_right] at hz;cases hz
    |cons c u hwi'=>
     rw[List.zip_cons_cons] at hz
     injection hz with hyx hrest
     injection hyx with hy hx
     subst hy hx
     rw[lexLt_cons] at hR
     simp only[List.length_cons] at hlen
     obtain⟨e,he,hiff⟩:=eqAt_int A.in1 ⟨hp,g,d,tk,os⟩ a t c u
     refine wpAny_bind (he prog w _ _ ?_)
     cases e with
     |true=>
      rw[if_pos (hiff.mp rfl)] at hR
      wp_walk
      exact⟨rfl,rfl,_,_,_,_,hrest,hvi',hwi',by omega,hR⟩
     |false=>
      rw[if_neg (fun q=>absurd (hiff.mpr q) Bool.false_ne_true)] at hR
      have hri:=rcLt_int A.in1 ⟨hp,g,d,tk,os⟩ a t c u prog w
      wp_walk using hri
      exact⟨_,rfl,by simpa using hR⟩
  case fin=>
   rintro⟨b1,b2⟩ s' ⟨hb',rfl,vs,ws,ns',ms',hz,hvi,hwi,hlen,hR⟩
   simp only at hb'
   subst hb'
   have hv:lexLt ns' ms'=decide (items.size<items2.size):=by
    cases hvi with
    |nil=>
     cases hwi with
     |nil=>
      simp only[List.length_nil] at hlen
      rw[lexLt_nil_nil]
      exact(decide_eq_false (by omega)).symm
     |cons c u hw=>
      simp only[List.length_nil,List.length_cons] at hlen
      rw[lexLt_nil_cons]
      exact(decide_eq_true (by omega)).symm
    |cons a t hv=>
     cases hwi with
     |nil=>
      simp only[List.length_nil,List.length_cons] at hlen
      rw[lexLt_cons_nil]
      exact(decide_eq_false (by omega)).symm
     |cons c u hw=>
      rw[List.zip_cons_cons] at hz
      cases hz
   rw[hv] at hR
   wp_walk
   exact⟨_,rfl,by simpa[Builtin.Tuple.tupleCompareSizes] using hR⟩
  case h=>
   exact⟨rfl,rfl,items.toList,items2.toList,ns,ms,rfl,hi,hj,by omega,h⟩
end
section
variable {prog:Program} {w:World} {A:Around} {E:Value→Shared→Prop} {s:Shared}
theorem lt_tupInts {l b:Addr}{items items2:Array Value}{ns ms:List Int}{Q:Value→Shared→Prop}(hl:IsTup s.heap l items)(hb:IsTup s.heap b items2)(hi:IntsAre items.toList ns)(hj:IntsAre items2.toList ms)
  (hu:A.units<cLine) (h:Q (.bool (lexLt ns ms)) s):wpAny (model prog w) A (compareOp .Lt (.ref l) (.ref b)) Q E s:=by
 obtain⟨⟨cls,dd,data,sl⟩,ho,hc,n,hd⟩:=id hl
 obtain⟨⟨cls2,dd2,data2,sl2⟩,ho2,hc2,n2,hd2⟩:=id hb
 simp only at hc hd hc2 hd2
 subst hc hd hc2 hd2
 exact richCompare_meets_room (op:=.Lt) ⟨_,ho,rfl⟩ ⟨_,ho2,rfl⟩ PySem.F.slot_tuple_lt PySem.F.entry_tuple_lt (PySem.F.args_tuple_lt_2 _ _) (tuple_lt_ints l b items items2 n n2 dd dd2 sl sl2 ns ms hi hj)
  ⟨ho,ho2,show Value.bool (lexLt ns ms)≠Value.notImplemented∧Q (.bool (lexLt ns ms)) s from⟨(fun x=>nomatch x),h⟩⟩ hu
theorem cat_tup {t b:Addr}{vs ws:List Value}{Q:Value→Shared→Prop}(ht:IsTup s.heap t vs.toArray)(hb:IsTup s.heap b ws.toArray)(hv:vs≠[])
  (h1:ws=[]→Q (.ref t) s) (h2:ws≠[]→Q (.ref s.heap.objs.size) {s with heap:=s.heap.push {cls:=.type "tuple",data:=.seq (vs++ws).toArray}})
  (hsz:vs.length+ws.length≤sizeLine):wpAny (model prog w) A (binaryOp .Add (.ref t) (.ref b)) Q E s:=by
 obtain⟨⟨cls,dd,data,sl⟩,ho,hc,n,hd⟩:=id ht
 obtain⟨⟨cls2,dd2,data2,sl2⟩,ho2,hc2,n2,hd2⟩:=id hb
 simp only at hc hd hc2 hd2
 subst hc hd hc2 hd2
 have e:vs.toArray++ws.toArray=(vs++ws).toArray:=by simp
 by_cases hw:ws=[]
 ·exact concat_meets ⟨_,ho,rfl⟩ ⟨_,ho2,rfl⟩ noFill_tuple_add seq_tuple_add PySem.F.slot_tuple_add PySem.F.entry_tuple_add (PySem.F.args_tuple_add_2 _ _)
   (tuple_addW1 t b vs.toArray ws.toArray n n2 dd dd2 sl sl2 (by simpa using hv) (by simp[hw])) ⟨ho,ho2,h1 hw⟩
 ·refine concat_meets ⟨_,ho,rfl⟩ ⟨_,ho2,rfl⟩ noFill_tuple_add seq_tuple_add PySem.F.slot_tuple_add PySem.F.entry_tuple_add (PySem.F.args_tuple_add_2 _ _)
   (tuple_addW2 t b vs.toArray ws.toArray n n2 dd dd2 sl sl2 (by simpa using hv) (by simpa using hw) (by rw[List.size_toArray,List.size_toArray];exact hsz)) ⟨ho,ho2,?_⟩
  rw[e]
  exact h2 hw
noncomputable def sIx (n d:Nat):Option Int→Nat
 |none=>d
 |some v=>if v<0 then (v+(n:Int)).toNat else min v.toNat n
theorem sIx_none (n d:Nat):sIx n d none=d:=rfl
theorem sIx_nat (n d k:Nat):sIx n d (some (k:Int))=min k n:=by
 show(if (k:Int)<0 then ((k:Int)+(n:Int)).toNat else min (k:Int).toNat n)=min k n
 rw[if_neg (by omega),Int.toNat_natCast]
theorem sIx_le (n d:Nat)(hd:d≤n)(o:Option Int):sIx n d o≤n:=by
 cases o with
 |none=>exact hd
 |some v=>
  show(if v<0 then (v+(n:Int)).toNat else min v.toNat n)≤n
  by_cases hv:v<0
  ·rw[if_pos hv];omega
  ·rw[if_neg hv];exact Nat.min_le_right _ _
theorem clip_eq (v:Int)(n d:Nat):(if v<0 then max (v+(n:Int)) 0 else min v (n:Int))=((sIx n d (some v):Nat):Int):=by
 show(if v<0 then max (v+(n:Int)) 0 else min v (n:Int))=(((if v<0 then (v+(n:Int)).toNat else min v.toNat n):Nat):Int)
 by_cases hv:v<0
 ·simp only[if_pos hv];omega
 ·simp only[if_neg hv];omega
theorem adjust_gen (lo hi:Option Int)(n:Nat):Builtin.Slice.sliceAdjust lo hi 1 (n:Int)=(((sIx n 0 lo:Nat):Int),((sIx n n hi:Nat):Int)):=by
 have h1:¬((1:Int)<0):=by omega
 unfold Builtin.Slice.sliceAdjust
 simp only[h1,if_false]
 refine Prod.ext ?_ ?_
 ·cases lo with
  |none=>rfl
  |some v=>exact clip_eq v n 0
 ·cases hi with
  |none=>rfl
  |some v=>exact clip_eq v n n
theorem places_gen (i j:Nat):Builtin.Slice.slicePlaces (i:Int) (j:Int) 1=j - i:=by
 unfold Builtin.Slice.slicePlaces
 have h1:(1:Int)>0:=by omega
 simp only[h1,if_true,Int.ediv_one]
 split<;>omega
theorem slicePart_ {v:Value}{o:Option Int}{Q:Option Int→Shared→Prop}(p:IsPart v o)(h:Q o s):wpAny (model prog w) A (Builtin.Slice.slicePartIndex v) Q E s:=by
 cases p with
 |none=>exact slicePart_none h
 |int i t=>exact slicePart_int h
theorem sliceApplied_gen {sl:Addr}{vl vu:Value}{lo hi:Option Int}{n:Nat}{Q:Int×Int×Nat→Shared→Prop}(hs:s.heap.IsSliceOf sl vl vu .none)(pl:IsPart vl lo)(pu:IsPart vu hi)
  (h:Q (((sIx n 0 lo:Nat):Int),1,sIx n n hi - sIx n 0 lo) s):wpAny (model prog w) A (Builtin.Slice.sliceApplied (.ref sl) (pure (n:Int))) Q E s:=by
 obtain⟨os,hos,hcs,hds⟩:=id hs
 unfold Builtin.Slice.sliceApplied Builtin.Slice.sliceFields
 refine wpAny_bind (wpAny_bind (wpAny_field hos hds (x:=vl) rfl (wpAny_bind (wpAny_field hos hds (x:=vu) rfl (wpAny_bind (wpAny_field hos hds (x:=.none) rfl (wpAny_pure ?_)))))))
 refine wpAny_bind (slicePart_none ?_)
 show wpAny _ _ (if ((1:Int)==0)=true then _ else _) _ _ s
 rw[if_neg (by decide)]
 refine wpAny_bind (slicePart_ pl (wpAny_bind (slicePart_ pu (wpAny_bind (wpAny_pure ?_)))))
 show wpAny _ _ (match Builtin.Slice.sliceAdjust lo hi 1 (n:Int) with|(lo,hi)=>pure (lo,(1:Int),Builtin.Slice.slicePlaces lo hi 1)) _ _ s
 rw[adjust_gen lo hi n]
 show wpAny _ _ (pure (((sIx n 0 lo:Nat):Int),(1:Int),Builtin.Slice.slicePlaces ((sIx n 0 lo:Nat):Int) ((sIx n n hi:Nat):Int) 1)) _ _ s
 rw[places_gen]
 exact wpAny_pure h
theorem pick_gen (xs:Array Value)(i k:Nat):((List.range k).filterMap fun(m:Nat)=>xs[((i:Int)+(m:Int)*1).toNat]?).toArray=((xs.toList.drop i).take k).toArray:=by
 have e:(fun(m:Nat)=>xs[((i:Int)+(m:Int)*1).toNat]?)=fun m=>xs[i+m]?:=by
  funext m
  have:((i:Int)+(m:Int)*1).toNat=i+m:=by omega
  rw[this]
 rw[e]
 have:=pick_run xs i k
 rw[List.filterMap_map] at this
 have e2:((fun x=>xs[x]?)∘fun x=>i+x)=fun m=>xs[i+m]?:=rfl
 rw[e2] at this
 rw[this]
theorem getItem_tuple_cut {t sl:Addr}{items:Array Value}{vl vu:Value}{lo hi:Option Int}{Q:Value→Shared→Prop}(ht:IsTup s.heap t items)(hs:s.heap.IsSliceOf sl vl vu .none)(pl:IsPart vl lo)(pu:IsPart vu hi)
  (hw:¬(sIx items.size 0 lo=0∧sIx items.size items.size hi=items.size))
  (h:Q (.ref s.heap.objs.size) {s with heap:=s.heap.push {cls:=.type "tuple",data:=.seq ((items.toList.drop (sIx items.size 0 lo)).take (sIx items.size items.size hi - sIx items.size 0 lo)).toArray}})
  (hsz:items.size≤sizeLine):wpAny (model prog w) A (getItem (.ref t) (.ref sl)) Q E s:=by
 have htake:sizeOk (.seq ((items.toList.drop (sIx items.size 0 lo)).take (sIx items.size items.size hi - sIx items.size 0 lo)).toArray):=by
  show((items.toList.drop (sIx items.size 0 lo)).take (sIx items.size items.size hi - sIx items.size 0 lo)).toArray.size≤sizeLine
  rw[List.size_toArray,List.length_take,List.length_drop,Array.length_toList]
  omega
 have hj:sIx items.size items.size hi≤items.size:=sIx_le _ _ (Nat.le_refl _) hi
 obtain⟨os,hos,hcs,hds⟩:=id hs
 have hTs:s.TypeIs (.ref sl) "slice" :=⟨os,hos,hcs⟩
 unfold getItem
 try with_reducible refine wpAny_holding ?_
 first|refine wpAny_bind (wpAny_pure ?_)|skip
 refine wpAny_bind (wpAny_sequenceKey ht.typeIs (by decide) ?_)
 refine wpAny_bind (wpAny_callSpecial?_slot (name:=Str.ofString "__getitem__") ht.typeIs PyProof.Rows.slot_tuple_getitem
  (wpAny_call_entry PyProof.Rows.slot_tuple_getitem ht.typeIs entry_tuple_getitem ?_ (args_tuple_getitem _ _)))
 show wpAny _ _ (Builtin.Tuple.tupleItemsOf (.ref t)>>=_) _ _ s
 refine wpAny_bind (tupleItemsOf_ ht ?_)
 refine wpAny_bind (wpAny_typeOf hTs ?_)
 rw[if_pos (by decide)]
 refine wpAny_bind (sliceApplied_gen hs pl pu ?_)
 have hno:¬((((sIx items.size 0 lo:Nat):Int)==0&&(1:Int)==1&&(sIx items.size items.size hi - sIx items.size 0 lo)==items.size)=true):=by
  intro q
  rw[Bool.and_eq_true,Bool.and_eq_true] at q
  have q1:((sIx items.size 0 lo:Nat):Int)=0:=eq_of_beq q.1.1
  have q2:sIx items.size items.size hi - sIx items.size 0 lo=items.size:=eq_of_beq q.2
  exact hw ⟨by omega,by omega⟩
 show wpAny _ _ (if (((sIx items.size 0 lo:Nat):Int)==0&&(1:Int)==1&&(sIx items.size items.size hi - sIx items.size 0 lo)==items.size)=true then _ else _) _ _ s
 rw[if_neg hno,pick_gen]
 first
  |exact wpAny_bind (m:=Builtin.Tuple.tupleExact _) (wpAny_newObj_type (wpAny_pure ⟨_,rfl,wpAny_pure h⟩) htake)
  |exact wpAny_bind (m:=Builtin.Tuple.tupleExact _) (wpAny_newObj_type (wpAny_bind (wpAny_pure (wpAny_pure ⟨_,rfl,wpAny_pure h⟩))) htake)
  |exact wpAny_bind (wpAny_bind (m:=Builtin.Tuple.tupleExact _) (wpAny_newObj_type (wpAny_pure (wpAny_pure ⟨_,rfl,wpAny_pure h⟩)) htake))
  |exact wpAny_bind (wpAny_bind (m:=Builtin.Tuple.tupleExact _) (wpAny_newObj_type (wpAny_pure ⟨_,rfl,wpAny_pure h⟩) htake))
end
end HT
namespace L2
open PySem PySem.Spec PyProof.Rows
abbrev TO:=St→Hp→(Option Int→Hp→Prop)→Prop
def PO (X:Cx) (e:Option Expr) (t:TO):Prop:=
 ∀(pins:List (Addr×Obj)) (s:Shared) (σ:St) (H:Hp) (Q:Option Int→Hp→Prop),Inv X pins σ H s→t σ H Q→
  wpAny (model X.prog X.w) X.A (evalPart e X.env) (fun u s'=>∃o H',Inv X pins σ H' s'∧IsPart u o∧Q o H') X.xe s
def tNoPart:TO:=fun _ H Q=>Q none H
noncomputable def tPart (t:TE):TO:=fun σ H Q=>t σ H fun x H1=>∃i,x=.int i∧Q (some i) H1
theorem intsAre_of {ns:List Int}:∀{us:List Value},Vals (ns.map V.int) us→IntsAre us ns:=by
 induction ns with
 |nil=>intro us r;rw[List.map_nil] at r;cases r;exact .nil
 |cons n ns ih=>
  intro us r
  rw[List.map_cons] at r
  cases r with
  |cons r1 r2=>
   obtain⟨t,e⟩:=r1
   subst e
   exact .cons n t (ih r2)
section
variable {X:Cx} {e:Expr} {te:TE} {lo hi:Option Expr} {tl th:TO} {pos p2:Pos}
theorem po_none:PO X none tNoPart:=by
 intro pins s σ H Q I h
 rw[evalPart_none]
 exact wpAny_pure ⟨none,H,I,.none,h⟩
theorem po_some (h:PE X e te):PO X (some e) (tPart te):=by
 intro pins s σ H Q I hw
 rw[evalPart_some]
 refine thn (h pins s σ H _ I hw) fun u s1 ⟨x,H1,I1,r1,q1⟩=>?_
 obtain⟨i,rfl,q⟩:=q1
 obtain⟨t,rfl⟩:=r1
 exact⟨some i,H1,I1,.int i t,q⟩
def SlR (X:Cx) (r:V→Option Int→Option Int→Hp→VK→Prop):Prop:=
 ∀(pins:List (Addr×Obj)) (s:Shared) (σ:St) (H:Hp) (x:V) (v vl vu:Value) (lo hi:Option Int) (sl:Addr) (Q:VK),Inv X pins σ H s→RelV x v→s.heap.IsSliceOf sl vl vu .none→IsPart vl lo→IsPart vu hi→r x lo hi H Q→
  ∃T id,typeLookup (.type T) "__getitem__" =pure (some (.builtin id))∧s.TypeIs v T∧wpAny (model X.prog X.w) X.A (getItem v (.ref sl)) (EP X pins σ Q) X.xe s
def tSl (r:V→Option Int→Option Int→Hp→VK→Prop) (te:TE) (tl th:TO):TE:=fun σ H Q=>te σ H fun x H1=>tl σ H1 fun l H2=>th σ H2 fun u H3=>r x l u H3 Q
theorem pe_slice {r:V→Option Int→Option Int→Hp→VK→Prop}(hr:SlR X r)(he:PE X e te)(hl:PO X lo tl)(hu:PO X hi th):PE X (.Subscript e (.Slice lo hi none p2) pos) (tSl r te tl th):=by
 intro pins s σ H Q I h
 refine Subscript_ (thn (he pins s σ H _ I h) fun v s1 ⟨x,H1,I1,r1,q1⟩=>?_)
 refine wpAny_Slice (thn (hl pins s1 σ H1 _ I1 q1) fun vl s2 ⟨l,H2,I2,pl,q2⟩=>thn (hu pins s2 σ H2 _ I2 q2) fun vu s3 ⟨u,H3,I3,pu,q3⟩=>?_)
 rw[evalPart_none]
 refine wpAny_pure ?_
 have I4:Inv X pins σ H3 {s3 with heap:=s3.heap.push {cls:=.type "slice",data:=.fields #[vl,vu,.none]}}:=I3.kept (t':=s3.toks) fun b ob q=>Heap.get?_push_of_some _ q
 obtain⟨T,id,hT,ht,hg⟩:=hr pins {s3 with heap:=s3.heap.push {cls:=.type "slice",data:=.fields #[vl,vu,.none]}} σ H3 x v vl vu l u s3.heap.objs.size Q I4 r1 (Heap.IsSliceOf.new ..) pl pu q3
 show wpAny (model X.prog X.w) X.A (subscriptTail e (.Slice lo hi none p2) v (.ref s3.heap.objs.size)) (EP X pins σ Q) X.xe {s3 with heap:=s3.heap.push {cls:=.type "slice",data:=.fields #[vl,vu,.none]}}
 exact tail_any (ops:=[.ref s3.heap.objs.size,v]) ht hT hg (by with_unfolding_all rfl)
noncomputable def cutV (xs:List V) (lo hi:Option Int):List V:=(xs.drop (HT.sIx xs.length 0 lo)).take (HT.sIx xs.length xs.length hi - HT.sIx xs.length 0 lo)
theorem cutV_length (xs:List V)(lo hi:Option Int):(cutV xs lo hi).length≤xs.length:=by
 unfold cutV
 rw[List.length_take,List.length_drop]
 omega
def rSlT (K:PySem.W.Frag):V→Option Int→Option Int→Hp→VK→Prop:=fun x lo hi H Q=>∃a xs,x=.ref a∧SqT K H a xs∧
 ¬(HT.sIx xs.length 0 lo=0∧HT.sIx xs.length xs.length hi=xs.length)∧∀p,H p=none→Q (.ref p) (upd H p (.tup (cutV xs lo hi)))
theorem sl_tup:SlR X (rSlT X.K):=by
 intro pins s σ H x v vl vu lo hi sl Q I rx hs pl pu h
 obtain⟨a,xs,rfl,hx,hw,q⟩:=h
 cases rx
 obtain⟨its,r,ht,hz⟩:=I.tuple hx
 have hlen:its.toArray.size=xs.length:=by rw[List.size_toArray];exact r.length.symm
 refine⟨"tuple",_,PyProof.Rows.slot_tuple_getitem.lookup,ht.typeIs,?_⟩
 refine HT.getItem_tuple_cut ht hs pl pu (by rw[hlen];exact hw) ?_ (by rw[hlen];exact hz)
 rw[hlen]
 refine⟨.ref s.heap.objs.size,_,I.laid (t':=s.toks) (o:=.tup (cutV xs lo hi)) (fun b ob q=>Heap.get?_push_of_some _ q) (Nat.le_refl _) ?_,rfl,q _ (I.hok.fresh (Nat.le_refl _))⟩
 exact⟨Nat.le_trans (cutV_length xs lo hi) hz,_,(r.drop (HT.sIx xs.length 0 lo)).take (HT.sIx xs.length xs.length hi - HT.sIx xs.length 0 lo),IsTup.new _ _⟩
def rLtT (K:PySem.W.Frag):R2:=fun x y H Q=>∃a b ns ms,x=.ref a∧y=.ref b∧SqT K H a (ns.map V.int)∧SqT K H b (ms.map V.int)∧Q (.bl (HT.lexLt ns ms)) H
theorem op_ltT (hu:X.A.units<cLine):OpR X (compareOp .Lt) (rLtT X.K):=by
 intro pins s σ H x y v u Q I rx ry h
 obtain⟨a,b,ns,ms,rfl,rfl,ha,hb,q⟩:=h
 cases rx
 cases ry
 obtain⟨its,r1,p1,_⟩:=I.tuple ha
 obtain⟨its2,r2,p2,_⟩:=I.tuple hb
 have i1:IntsAre its.toArray.toList ns:=intsAre_of r1
 have i2:IntsAre its2.toArray.toList ms:=intsAre_of r2
 exact HT.lt_tupInts p1 p2 i1 i2 hu ⟨.bl (HT.lexLt ns ms),H,I,rfl,q⟩
def rCatT (K:PySem.W.Frag):R2:=fun x y H Q=>∃a b xs ys,x=.ref a∧y=.ref b∧SqT K H a xs∧SqT K H b ys∧xs≠[]∧xs.length+ys.length≤sizeLine∧
 (ys=[]→Q (.ref a) H)∧(ys≠[]→∀p,H p=none→Q (.ref p) (upd H p (.tup (xs++ys))))
theorem Vals.nil_iff {xs:List V}{us:List Value}(r:Vals xs us):us=[]↔xs=[]:=by
 cases r with
 |nil=>simp
 |cons _ _=>simp
theorem op_catT:OpR X (binaryOp .Add) (rCatT X.K):=by
 intro pins s σ H x y v u Q I rx ry h
 obtain⟨a,b,xs,ys,rfl,rfl,ha,hb,hx,hz,q1,q2⟩:=h
 cases rx
 cases ry
 obtain⟨its,r1,p1,_⟩:=I.tuple ha
 obtain⟨its2,r2,p2,_⟩:=I.tuple hb
 refine HT.cat_tup p1 p2 (fun z=>hx (r1.nil_iff.mp z)) (fun z=>⟨.ref a,H,I,rfl,q1 (r2.nil_iff.mp z)⟩) (fun z=>?_) (by rw[←r1.length,←r2.length];exact hz)
 refine⟨.ref s.heap.objs.size,_,I.laid (t':=s.toks) (o:=.tup (xs++ys)) (fun b ob q=>Heap.get?_push_of_some _ q) (Nat.le_refl _) ?_,rfl,q2 (fun w=>z (r2.nil_iff.mpr w)) _ (I.hok.fresh (Nat.le_refl _))⟩
 exact⟨by rw[List.length_append];exact hz,_,r1.append r2,IsTup.new _ _⟩
end
noncomputable def ixN (n:Nat) (i:Int):Option Nat:=if 0≤i then (if i<n then some i.toNat else none) else if -(n:Int)≤i then some (i+n).toNat else none
noncomputable def atI {α:Type} (xs:List α) (i:Int):Option α:=(ixN xs.length i).bind fun j=>xs[j]?
theorem ixN_seq {n:Nat}{i:Int}{j:Nat}(h:ixN n i=some j):seqIndex? i n=some j∧j<n∧ -(n:Int)≤i∧i<n:=by
 unfold ixN at h
 by_cases h0:0≤i
 ·rw[if_pos h0] at h
  by_cases h1:i<n
  ·rw[if_pos h1] at h
   have e:i.toNat=j:=Option.some.inj h
   exact⟨by rw[seqIndex_of h0 h1,e],by omega,by omega,h1⟩
  ·rw[if_neg h1] at h;cases h
 ·rw[if_neg h0] at h
  by_cases h1: -(n:Int)≤i
  ·rw[if_pos h1] at h
   have e:(i+n).toNat=j:=Option.some.inj h
   exact⟨by rw[seqIndex_neg (by omega) h1,e],by omega,h1,by omega⟩
  ·rw[if_neg h1] at h;cases h
theorem atI_get {α:Type}{xs:List α}{i:Int}{v:α}(h:atI xs i=some v):∃j,seqIndex? i xs.length=some j∧xs[j]?=some v∧j<xs.length∧ -(xs.length:Int)≤i∧i<xs.length:=by
 unfold atI at h
 cases e:ixN xs.length i with
 |none=>rw[e] at h;cases h
 |some j=>
  rw[e] at h
  obtain⟨h1,h2,h3,h4⟩:=ixN_seq e
  exact⟨j,h1,h,h2,h3,h4⟩
theorem atI_nat {α:Type}{xs:List α}{j:Nat}{v:α}(h:xs[j]?=some v):atI xs (j:Int)=some v:=by
 have hj:j<xs.length:=(List.getElem?_eq_some_iff.mp h).1
 have e:ixN xs.length (j:Int)=some j:=by
  unfold ixN
  rw[if_pos (by omega),if_pos (by omega)];simp
 unfold atI;rw[e];exact h
def PlainIx (b:Expr):Prop:=∀o i,subscripted b false o i=operate [o,i] (getItem o i)
def IxR (X:Cx) (r:R2):Prop:=
 ∀(value slice:Expr) (pins:List (Addr×Obj)) (s:Shared) (σ:St) (H:Hp) (x y:V) (v u:Value) (Q:VK),Inv X pins σ H s→RelV x v→RelV y u→r x y H Q→
  subscripted slice false v u=operate [v,u] (getItem v u)→wpAny (model X.prog X.w) X.A (subscriptTail value slice v u) (EP X pins σ Q) X.xe s
def MtR (X:Cx) (id:String) (r:V→List V→Hp→VK→Prop):Prop:=
 ∀(pins:List (Addr×Obj)) (s:Shared) (σ:St) (H:Hp) (x:V) (xs:List V) (v:Value) (us:List Value) (Q:VK),Inv X pins σ H s→RelV x v→Vals xs us→r x xs H Q→
  wpAny (model X.prog X.w) X.A (call (.builtin id) (v::us)) (EP X pins σ Q) X.xe s
section
variable {X:Cx} {a b:Expr} {ta tb:TE} {pos:Pos}
theorem pe_ix {r:R2}(hr:IxR X r)(ha:PE X a ta)(hb:PE X b tb)(hs:PlainIx b):PE X (.Subscript a b pos) (tOp r ta tb):=by
 intro pins s σ H Q I h
 exact Subscript_ (binT ha hb I h fun v u s2 x y H2 I2 rx ry q=>hr a b pins s2 σ H2 x y v u Q I2 rx ry q (hs _ _))
def rIxL (K:PySem.W.Frag):R2:=fun x y H Q=>∃p xs i v,x=.ref p∧y=.int i∧SqL K H p xs∧atI xs i=some v∧Q v H
def rIxT (K:PySem.W.Frag):R2:=fun x y H Q=>∃p xs i v,x=.ref p∧y=.int i∧SqT K H p xs∧atI xs i=some v∧Q v H
def rIxS:R2:=fun x y H Q=>∃z i c,x=.str z∧y=.int i∧z.length≤sizeLine∧atI z.cps.toList i=some c∧Q (.str ⟨#[c]⟩) H
theorem ix_list:IxR X (rIxL X.K):=by
 intro value slice pins s σ H x y v u Q I rx ry h hs
 obtain⟨p,xs,i,z,rfl,rfl,hq,he,q⟩:=h
 cases rx
 obtain⟨t,rfl⟩:=ry
 obtain⟨its,r,pl,hz⟩:=I.list hq
 obtain⟨j,h1,h2,h3,h4,h5⟩:=atI_get he
 obtain⟨w,ew,rw'⟩:=r.get h2
 have hl:=r.length
 have hn:=line63
 have fin:EP X pins σ Q w s:=⟨z,H,I,rw',q⟩
 by_cases h0:0≤i
 ·have hj:i.toNat=j:=by
   rw[seqIndex_of h0 h5] at h1
   exact Option.some.inj h1
  exact item_listR pl.isList h0 (by omega) (by rw[hj];simpa using ew) fin hs
 ·have hj:(i+(its.toArray.size:Int)).toNat=j:=by
   rw[seqIndex_neg (by omega) h4] at h1
   rw[List.size_toArray,←hl]
   exact Option.some.inj h1
  exact subscriptTail_builtinR (x:=w) pl.isList.typeIs slot_list_getitem.lookup
   (wpAny_getItem_list_neg (Q:=fun r s'=>r=w∧EP X pins σ Q r s') pl.isList (by omega) (by rw[List.size_toArray]<;>omega) (by omega) (by rw[hj];simpa using ew) ⟨rfl,fin⟩) hs
theorem ix_tup:IxR X (rIxT X.K):=by
 intro value slice pins s σ H x y v u Q I rx ry h hs
 obtain⟨p,xs,i,z,rfl,rfl,hq,he,q⟩:=h
 cases rx
 obtain⟨t,rfl⟩:=ry
 obtain⟨its,r,pl,hz⟩:=I.tuple hq
 obtain⟨j,h1,h2,h3,h4,h5⟩:=atI_get he
 obtain⟨w,ew,rw'⟩:=r.get h2
 have hl:=r.length
 have hn:=line63
 have fin:EP X pins σ Q w s:=⟨z,H,I,rw',q⟩
 exact subscriptTail_builtinR (x:=w) pl.typeIs slot_tuple_getitem.lookup
  (getItem_tuple (j:=j) (Q:=fun r s'=>r=w∧EP X pins σ Q r s') pl (by omega) (by omega) (by rw[List.size_toArray,←hl];exact h1) (by simpa using ew) ⟨rfl,fin⟩) hs
theorem ix_str:IxR X rIxS:=by
 intro value slice pins s σ H x y v u Q I rx ry h hs
 obtain⟨z,i,c,rfl,rfl,hz,he,q⟩:=h
 obtain⟨t,rfl⟩:=rx
 obtain⟨t',rfl⟩:=ry
 obtain⟨j,h1,h2,h3,h4,h5⟩:=atI_get he
 have hl:z.cps.toList.length=z.length:=by simp[Str.length]
 rw[hl] at h1 h4 h5
 have hn:=line63
 exact tail_any (typeIs_str s z t) slot_str_getitem.lookup (getItem_str (c:=c) (by
  have e1:decide (i< -(2^63:Int))=false:=decide_eq_false (by omega)
  have e2:decide (i≥2^63)=false:=decide_eq_false (by omega)
  rw[e1,e2,Bool.or_false]) (by rw[h1];simpa using h2) ⟨.str ⟨#[c]⟩,H,I.tok _,⟨_,rfl⟩,q⟩) hs
theorem slice_bounds (lo hi:Option Int)(n:Nat):(sliceBounds lo hi none n).1=((HT.sIx n 0 lo:Nat):Int)∧(sliceBounds lo hi none n).2.1=((HT.sIx n n hi:Nat):Int)∧(sliceBounds lo hi none n).2.2=1:=by
 refine⟨?_,?_,rfl⟩
 ·cases lo with
  |none=>simp[sliceBounds,HT.sIx]
  |some i=>
   simp only[sliceBounds,HT.sIx,Option.getD_none,show(1:Int)>0 by decide,if_true]
   by_cases h:i<0
   ·simp only[h,if_true]<;>omega
   ·simp only[h,if_false]<;>omega
 ·cases hi with
  |none=>simp[sliceBounds,HT.sIx]
  |some i=>
   simp only[sliceBounds,HT.sIx,Option.getD_none,show(1:Int)>0 by decide,if_true]
   by_cases h:i<0
   ·simp only[h,if_true]<;>omega
   ·simp only[h,if_false]<;>omega
theorem slicePick_cut (its:List Value)(lo hi:Option Int):slicePick its.toArray lo hi none=((its.drop (HT.sIx its.length 0 lo)).take (HT.sIx its.length its.length hi - HT.sIx its.length 0 lo)).toArray:=by
 obtain⟨h1,h2,h3⟩:=slice_bounds lo hi its.toArray.size
 unfold slicePick
 rw[h1,h2,h3]
 simp only[sliceRange_one,pick_run,List.size_toArray]<;>rfl
def rSlL (K:PySem.W.Frag):V→Option Int→Option Int→Hp→VK→Prop:=fun x lo hi H Q=>∃a xs,x=.ref a∧SqL K H a xs∧∀p,H p=none→Q (.ref p) (upd H p (.lst (cutV xs lo hi)))
theorem sl_list:SlR X (rSlL X.K):=by
 intro pins s σ H x v vl vu lo hi sl Q I rx hs pl pu h
 obtain⟨a,xs,rfl,hx,q⟩:=h
 cases rx
 obtain⟨its,r,ht,hz⟩:=I.list hx
 have hlen:=r.length
 refine⟨"list",_,slot_list_getitem.lookup,ht.isList.typeIs,?_⟩
 refine wpAny_getItem_list_slice ht.isList hs pl pu .none (by simp) ?_ (by rw[List.size_toArray]<;>omega)
 rw[slicePick_cut,←hlen]
 refine⟨.ref s.heap.objs.size,_,I.laid (t':=s.toks) (o:=.lst (cutV xs lo hi)) (fun b ob q=>Heap.get?_push_of_some _ q) (Nat.le_refl _) ?_,rfl,q _ (I.hok.fresh (Nat.le_refl _))⟩
 exact⟨Nat.le_trans (cutV_length xs lo hi) hz,_,0,(r.drop (HT.sIx xs.length 0 lo)).take (HT.sIx xs.length xs.length hi - HT.sIx xs.length 0 lo),Heap.get?_push_size _ rfl⟩
theorem call_list_of:CallR X (.type "list") (fun xs H Q=>∃p ys,xs=[.ref p]∧(SqL X.K H p ys∨SqT X.K H p ys)∧∀l,H l=none→Q (.ref l) (upd H l (.lst ys))):=by
 intro pins s σ H xs us Q I r h
 obtain⟨p,ys,rfl,hq,q⟩:=h
 obtain⟨u,rfl,rx⟩:=vals1 r
 cases rx
 have fin:∀(its:List Value),Vals ys its→ys.length≤sizeLine→∀(h':Heap) (c':Nat),(∀b o',s.heap.get? b=some o'→h'.get? b=some o')→
   h'.get? s.heap.objs.size=some {cls:=.type "list",dict:=none,data:=.seq its.toArray c',slots:= #[]}→EP X pins σ Q (.ref s.heap.objs.size) {s with heap:=h'}:=fun its r' hz h' c' kp e=>
  ⟨.ref s.heap.objs.size,_,I.laid (t':=s.toks) kp (Nat.le_refl _) (show ObjOk X.prog X.w _ h' _ (.lst ys) from⟨hz,its,c',r',e⟩),rfl,q _ (I.hok.fresh (Nat.le_refl _))⟩
 rcases hq with hq|hq
 ·obtain⟨its,r',pl,hz⟩:=I.list hq
  have hlen:=r'.length
  obtain⟨o,ho,hc,n,hd⟩:=pl.isList
  exact call_list_seq p (.inl rfl) ho hc hd (fun h' c' kp e=>fin its r' hz h' c' kp e) (by simp only[List.size_toArray]<;>omega)
 ·obtain⟨its,r',pl,hz⟩:=I.tuple hq
  have hlen:=r'.length
  obtain⟨o,ho,hc,n,hd⟩:=pl
  exact call_list_seq p (.inr rfl) ho hc hd (fun h' c' kp e=>fin its r' hz h' c' kp e) (by simp only[List.size_toArray]<;>omega)
theorem call_tuple_of:CallR X (.type "tuple") (fun xs H Q=>∃p ys,xs=[.ref p]∧((SqL X.K H p ys∧∀l,H l=none→Q (.ref l) (upd H l (.tup ys)))∨(SqT X.K H p ys∧Q (.ref p) H))):=by
 intro pins s σ H xs us Q I r h
 obtain⟨p,ys,rfl,h⟩:=h
 obtain⟨u,rfl,rx⟩:=vals1 r
 cases rx
 rcases h with ⟨hq,q⟩|⟨hq,q⟩
 ·obtain⟨its,r',pl,hz⟩:=I.list hq
  have hlen:=r'.length
  refine call_tuple_list pl.isList (fun h' kp=>?_) (by simp only[List.size_toArray]<;>omega)
  have I1:Inv X pins σ H {s with heap:=h'}:=I.kept (t':=s.toks) kp
  have I2:Inv X pins σ (upd H h'.objs.size (.tup ys)) {s with heap:=h'.push {cls:=.type "tuple",data:=.seq its.toArray}}:=
   I1.laid (t':=s.toks) (fun b o e=>Heap.get?_push_of_some _ e) (Nat.le_refl _) (show ObjOk X.prog X.w _ _ _ (.tup ys) from⟨hz,its,r',IsTup.new _ _⟩)
  exact⟨.ref h'.objs.size,_,I2,rfl,q _ (I1.hok.fresh (Nat.le_refl _))⟩
 ·obtain⟨its,r',pl,hz⟩:=I.tuple hq
  exact call_tuple_same pl ⟨.ref p,H,I,rfl,q⟩
def tyV (K:PySem.W.Frag) (T:String) (x:V) (H:Hp):Prop:=match x with
 | .str _=>T= "str"
 | .int _=>T= "int"
 | .ref p=>(T= "list" ∧∃xs,SqL K H p xs)∨(T= "tuple" ∧∃o,K.lookup p=some o∧o.cls=.type "tuple" ∧o.dict=none)∨
   (T= "dict" ∧((∃kvs,H p=some (.dK kvs))∨∃kvs,H p=some (.dT kvs)))∨(T= "set" ∧∃S n,H p=some (.set S n))
 |_=>False
theorem tyV_is {pins:List (Addr×Obj)}{σ:St}{H:Hp}{s:Shared}{T:String}{x:V}{v:Value}(I:Inv X pins σ H s)(r:RelV x v)(ty:tyV X.K T x H):
  s.TypeIs v T∧∀a,v=.ref a→∃ob,s.heap.get? a=some ob∧ob.dict=none:=by
 cases x with
 |str z=>
  obtain⟨t,rfl⟩:=r
  cases(show T= "str" from ty)
  exact⟨typeIs_str s z t,fun _ e=>nomatch e⟩
 |int i=>
  obtain⟨t,rfl⟩:=r
  cases(show T= "int" from ty)
  exact⟨typeIs_int s i t,fun _ e=>nomatch e⟩
 |ref p=>
  cases r
  rcases ty with ⟨rfl,xs,hq⟩|⟨rfl,o,hk,hc,hd⟩|⟨rfl,hk⟩|⟨rfl,S,n,hk⟩
  ·obtain⟨its,_,pl,_⟩:=I.list hq
   refine⟨pl.isList.typeIs,fun a e=>?_⟩
   cases e
   obtain⟨o,n,e,c,hd,_⟩:=pl
   exact⟨o,e,hd⟩
  ·refine⟨⟨o,I.kIn p o hk,hc⟩,fun a e=>?_⟩
   cases e
   exact⟨o,I.kIn _ o hk,hd⟩
  ·have z:∃o,s.heap.get? p=some o∧o.ExactDict:=by
    rcases hk with ⟨kvs,hk⟩|⟨kvs,hk⟩
    ·obtain⟨_,_,_,_,o,_,_,e,ex,_⟩:=I.hok p _ hk
     exact⟨o,e,ex⟩
    ·obtain⟨_,_,_,_,o,_,_,e,ex,_⟩:=I.hok p _ hk
     exact⟨o,e,ex⟩
   obtain⟨o,e,ex⟩:=z
   refine⟨⟨o,e,ex.1⟩,fun a e2=>?_⟩
   cases e2
   exact⟨o,e,ex.2.1⟩
  ·obtain⟨o,_,_,_,e,ex,_⟩:=I.hok p _ hk
   refine⟨⟨o,e,ex.1⟩,fun a e2=>?_⟩
   cases e2
   exact⟨o,e,ex.2.1⟩
 |_=>exact False.elim ty
def tBM0 (K:PySem.W.Frag) (T:String) (r:V→List V→Hp→VK→Prop) (to:TE):TE:=fun σ H Q=>to σ H fun x H1=>tyV K T x H1∧r x [] H1 Q
def tBM (K:PySem.W.Frag) (T:String) (r:V→List V→Hp→VK→Prop) (to:TE) (t:TA):TE:=fun σ H Q=>to σ H fun x H1=>tyV K T x H1∧t σ H1 fun xs H2=>r x xs H2 Q
variable {o e:Expr} {es:List Expr} {to:TE} {t:TA} {name:Str} {apos cpos:Pos} {T id:String} {r:V→List V→Hp→VK→Prop}
theorem pe_bm0 (pa:PlainAttrs T)(slot:Slot T name id)(hty:typeOf (.builtin id)=pure (.type "method_descriptor"))(hm:MtR X id r)(ho:PE X o to)
  (hbase:attributeBase o name X.env (eval o X.env)=eval o X.env:=by rfl) (hline:(apos.endLine==cpos.line)=true:=by rfl):PE X (.Call (.Attribute o name apos) [] [] cpos) (tBM0 X.K T r to):=by
 intro pins s σ H Q I h
 refine wpAny_Call_method0_late hbase hline (thn (ho pins s σ H _ I h) fun v s1 ⟨x,H1,I1,r1,ty,q1⟩=>?_)
 obtain⟨h1,h2⟩:=tyV_is I1 r1 ty
 exact⟨T,id,pa,slot,hty,h1,h2,Calls.callWith_builtin rfl (PySem.evalArgs_none (hm pins s1 σ H1 x [] v [] Q I1 r1 .nil q1))⟩
theorem pe_bm (pa:PlainAttrs T)(slot:Slot T name id)(hty:typeOf (.builtin id)=pure (.type "method_descriptor"))(hm:MtR X id r)(ho:PE X o to)(ha:PA X (e::es) t)
  (hbase:attributeBase o name X.env (eval o X.env)=eval o X.env:=by rfl)
  (hfew:((backTo cpos (starEach (e::es) X.env)).all (fun x=>!x.1)&&(backToKw cpos (keywordEach [] X.env)).all (fun x=>x.1.isSome)
   &&decide ((e::es).length+([]:List Keyword).length+(if ([]:List Keyword).isEmpty then 0 else 1)<30))=true:=by rfl)
  (hline:(apos.endLine==cpos.line)=true:=by rfl) (hs:starEach (e::es) X.env=(false,eval e X.env)::starEach es X.env:=by rfl) (hplain:(backTo cpos (starEach es X.env)).any (·.1)=false:=by rfl):
  PE X (.Call (.Attribute o name apos) (e::es) [] cpos) (tBM X.K T r to t):=by
 intro pins s σ H Q I h
 refine wpAny_Call_method_late hbase hfew hline rfl (thn (ho pins s σ H _ I h) fun v s1 ⟨x,H1,I1,r1,ty,q1⟩=>?_)
 obtain⟨h1,h2⟩:=tyV_is I1 r1 ty
 refine⟨T,id,pa,slot,hty,h1,h2,?_⟩
 have hA:=ha cpos pins s1 σ H1 _ I1 q1
 rw[hs] at hA⊢
 refine Calls.callWith_builtin (by show(false||(backTo cpos (starEach es X.env)).any (·.1))=false;rw[hplain]<;>rfl) (Calls.evalArgs_plain ?_)
 exact thn hA fun us s2 ⟨vs,H2,I2,r2,q2⟩=>hm pins s2 σ H2 x vs v us Q I2 r1 r2 q2
end
def MtM (X:Cx) (id:String) (r:V→List V→Hp→VK→Prop):Prop:=
 ∀(pins:List (Addr×Obj)) (s:Shared) (σ:St) (H:Hp) (x:V) (xs:List V) (v:Value) (us:List Value) (Q:VK),Inv X pins σ H s→RelV x v→Vals xs us→r x xs H Q→
  wpAny (model X.prog X.w) X.A (call (.builtin id) (v::us)) (EP X pins σ Q) X.xe s
theorem Vals.one:∀{x:V} {us:List Value},Vals [x] us→∃u,us=[u]∧RelV x u
 |_,_,.cons r .nil=>⟨_,rfl,r⟩
theorem Vals.zero:∀{us:List Value},Vals [] us→us=[]
 |_,.nil=>rfl
theorem Vals.eraseIdx:∀{xs:List V} {us:List Value} (i:Nat),Vals xs us→Vals (xs.eraseIdx i) (us.eraseIdx i)
 |_,_,_,.nil=> .nil
 |_,_,0,.cons _ t=>t
 |_,_,i+1,.cons r t=> .cons r (Vals.eraseIdx i t)
theorem Vals.reverse {xs:List V}{us:List Value}(h:Vals xs us):Vals xs.reverse us.reverse:=by
 induction h with
 |nil=>exact .nil
 |cons r t ih=>rw[List.reverse_cons,List.reverse_cons];exact Vals.append ih (.cons r .nil)
theorem len_erase {α:Type}:∀(l:List α) (i:Nat),(l.eraseIdx i).length≤l.length
 |[],_=>Nat.le_refl _
 |_::_,0=>Nat.le_succ _
 |_::r,i+1=>Nat.succ_le_succ (len_erase r i)
section
variable {X:Cx} {pins:List (Addr×Obj)} {σ:St} {H:Hp} {s:Shared} {l b:Addr} {xs ys zs:List V}
theorem Inv.lset {its its':List Value}{n:Nat}{f:Array Value→Array Value}{t':Nat}(I:Inv X pins σ H s)(hH:H l=some (.lst xs))
  (e:s.heap.get? l=some {cls:=.type "list",data:=.seq its.toArray n}) (hf:f its.toArray=its'.toArray) (hv:Vals ys its') (hz:ys.length≤sizeLine):
  Inv X pins σ (upd H l (.lst ys)) {s with heap:=s.heap.update l (Obj.mapSeq f),toks:=t'}:=by
 have q:=PySem.IsL.update e f
 rw[hf] at q
 refine I.write (x:=l) (e:=l) (by rw[hH];exact trivial) (.inl rfl) (fun b' u hb hu=>(Heap.get?_update_other s.heap (Obj.mapSeq f) (Ne.symm hb)).trans hu) ⟨_,q⟩ ?_
 exact⟨hz,its',_,hv,q⟩
theorem Inv.lnew {its:List Value}{t':Nat}(I:Inv X pins σ H s)(hv:Vals ys its)(hz:ys.length≤sizeLine):
  Inv X pins σ (upd H s.heap.objs.size (.lst ys)) {s with heap:=s.heap.push {cls:=.type "list",data:=.seq its.toArray},toks:=t'}:=
 I.laid (fun _ _ q=>Heap.get?_push_of_some _ q) (Nat.le_refl _) ⟨hz,its,0,hv,Heap.get?_push_size _ rfl⟩
theorem Inv.fresh (I:Inv X pins σ H s):H s.heap.objs.size=none:=I.hok.fresh (Nat.le_refl _)
theorem Inv.lstM (I:Inv X pins σ H s)(hH:H l=some (.lst xs)):xs.length≤sizeLine∧∃(its:List Value) (n:Nat),Vals xs its∧xs.length=its.length∧s.heap.get? l=some {cls:=.type "list",data:=.seq its.toArray n}:=by
 obtain⟨z,its,n,r,e⟩:=I.hok l _ hH
 exact⟨z,its,n,r,r.length,e⟩
end
section
variable {X:Cx}
def rAppend:V→List V→Hp→VK→Prop:=fun x vs H Q=>∃l xs y,x=.ref l∧vs=[y]∧H l=some (.lst xs)∧xs.length<sizeLine∧Q .non (upd H l (.lst (xs++[y])))
theorem mt_append:MtM X "list.append" rAppend:=by
 intro pins s σ H x vs v us Q I rx rv h
 obtain⟨l,xs,y,rfl,rfl,hH,hz,q⟩:=h
 cases rx
 obtain⟨u,rfl,ru⟩:=rv.one
 obtain⟨z,its,n,r,hl,e⟩:=I.lstM hH
 refine call_meets F.slot_list_append ⟨_,e,rfl⟩ F.entry_list_append (F.args_list_append_2 _ _) (PySem.list_append l its.toArray n u (by rw[List.size_toArray];omega)) ⟨e,?_⟩
 refine⟨.non,_,I.lset (its':=its++[u]) hH e (by simp) (r.append (.cons ru .nil)) ?_,rfl,q⟩
 rw[List.length_append,List.length_singleton]
 omega
def rPopAt:V→List V→Hp→VK→Prop:=fun x vs H Q=>∃l xs i k y,x=.ref l∧vs=[.int i]∧H l=some (.lst xs)∧ -(2^63)≤i∧i<2^63∧seqIndex? i xs.length=some k∧xs[k]?=some y∧Q y (upd H l (.lst (xs.eraseIdx k)))
theorem mt_popAt:MtM X "list.pop" rPopAt:=by
 intro pins s σ H x vs v us Q I rx rv h
 obtain⟨l,xs,i,k,y,rfl,rfl,hH,h1,h2,hk,hy,q⟩:=h
 cases rx
 obtain⟨u,rfl,ru⟩:=rv.one
 obtain⟨t,rfl⟩:=ru
 obtain⟨z,its,n,r,hl,e⟩:=I.lstM hH
 obtain⟨w,hw,rw'⟩:=r.get hy
 refine call_meets F.slot_list_pop ⟨_,e,rfl⟩ F.entry_list_pop (F.args_list_pop_2 _ _)
  (MeetsSeq.list_pop_at l its.toArray n i t k w (fitsIndex_both h1 h2) (by rw[List.size_toArray,←hl];exact hk) (by rw[←Array.getElem?_toList];exact hw) (by rw[List.size_toArray];omega)) ⟨e,?_⟩
 refine⟨y,_,I.lset (its':=its.eraseIdx k) hH e ?_ (r.eraseIdx k) ?_,rw',q⟩
 ·show its.toArray.eraseIdxIfInBounds k=(its.eraseIdx k).toArray
  rw[List.eraseIdxIfInBounds_toArray]
 ·have:=len_erase xs k
  omega
def rClear:V→List V→Hp→VK→Prop:=fun x vs H Q=>∃l xs,x=.ref l∧vs=[]∧H l=some (.lst xs)∧Q .non (upd H l (.lst []))
theorem mt_clear:MtM X "list.clear" rClear:=by
 intro pins s σ H x vs v us Q I rx rv h
 obtain⟨l,xs,rfl,rfl,hH,q⟩:=h
 cases rx
 have hus:=rv.zero
 subst hus
 obtain⟨z,its,n,r,hl,e⟩:=I.lstM hH
 refine call_meets F.slot_list_clear ⟨_,e,rfl⟩ F.entry_list_clear (F.args_list_clear_1 _) (AutoSeq1.list_clear_list_0 l its.toArray n (by rw[List.size_toArray];omega)) ⟨e,?_⟩
 exact⟨.non,_,I.lset (its':=[]) (ys:=[]) hH e rfl .nil (Nat.zero_le _),rfl,q⟩
def rCat:R2:=fun x y H Q=>∃l b xs zs,x=.ref l∧y=.ref b∧H l=some (.lst xs)∧H b=some (.lst zs)∧xs.length+zs.length≤sizeLine∧∀p,H p=none→Q (.ref p) (upd H p (.lst (xs++zs)))
theorem op_cat:OpR X (binaryOp .Add) rCat:=by
 intro pins s σ H x y v u Q I rx ry h
 obtain⟨l,b,xs,zs,rfl,rfl,hH,hB,hz,q⟩:=h
 cases rx
 cases ry
 obtain⟨z,its,n,r,hl,e⟩:=I.lstM hH
 obtain⟨z2,its2,n2,r2,hl2,e2⟩:=I.lstM hB
 refine PySem.P.add_list e e2 ?_ (by rw[List.size_toArray,List.size_toArray];omega)
 have ea:its.toArray++its2.toArray=(its++its2).toArray:=by simp
 rw[ea]
 exact⟨.ref _,_,I.lnew (t':=s.toks) (r.append r2) (by rw[List.length_append];omega),rfl,q _ I.fresh⟩
end
section
variable {prog:Program} {w:World} {A:Around} {E:Value→Shared→Prop} {s:Shared}
end
section
variable {X:Cx}
end
section
variable {κ:Type} [DecidableEq κ]
noncomputable def valV (kvs:List (κ×V)) (k:κ):Option V:=(kvs.find? fun kv=>decide (kv.1=k)).map (·.2)
noncomputable def putK (kvs:List (κ×V)) (k:κ) (v:V):List (κ×V):=
 if (kvs.any fun kv=>decide (kv.1=k))=true then kvs.map (fun kv=>if kv.1=k then (kv.1,v) else kv) else kvs++[(k,v)]
theorem valV_nil {k:κ}:valV ([]:List (κ×V)) k=none:=rfl
theorem valV_pos {p:κ×V}{r:List (κ×V)}{k:κ}(e:p.1=k):valV (p::r) k=some p.2:=by simp[valV,List.find?_cons,e]
theorem valV_neg {p:κ×V}{r:List (κ×V)}{k:κ}(e:¬p.1=k):valV (p::r) k=valV r k:=by simp[valV,List.find?_cons,e]
theorem valV_any (k:κ):∀kvs:List (κ×V),(kvs.any fun kv=>decide (kv.1=k))=(valV kvs k).isSome
 |[]=>rfl
 |p::r=>by
  rw[List.any_cons]
  by_cases e:p.1=k
  ·simp only[valV_pos e,decide_eq_true e,Bool.true_or,Option.isSome_some]
  ·rw[valV_neg e,decide_eq_false e,Bool.false_or];exact valV_any k r
theorem valV_map (k j:κ)(y:V):∀kvs:List (κ×V),valV (kvs.map fun kv=>if kv.1=k then (kv.1,y) else kv) j=(valV kvs j).map fun x=>if j=k then y else x
 |[]=>rfl
 |p::r=>by
  have ih:=valV_map k j y r
  rw[List.map_cons]
  by_cases h:p.1=k
  ·rw[if_pos h]
   by_cases e:p.1=j
   ·rw[valV_pos (p:=(p.1,y)) e,valV_pos e,Option.map_some,if_pos (e.symm.trans h)]
   ·rw[valV_neg (p:=(p.1,y)) e,valV_neg e,ih]
  ·rw[if_neg h]
   by_cases e:p.1=j
   ·rw[valV_pos (p:=p) e,valV_pos e,Option.map_some,if_neg (fun z=>h (e.trans z))]
   ·rw[valV_neg (p:=p) e,valV_neg e,ih]
theorem valV_snoc (k j:κ)(y:V):∀kvs:List (κ×V),valV kvs k=none→valV (kvs++[(k,y)]) j=if j=k then some y else valV kvs j
 |[],_=>by
  by_cases e:k=j
  ·rw[if_pos e.symm];exact valV_pos (p:=(k,y)) e
  ·rw[if_neg (fun z=>e z.symm)];exact valV_neg (p:=(k,y)) e
 |p::r,hn=>by
  rw[List.cons_append]
  have hk:¬p.1=k:=fun z=>by rw[valV_pos z] at hn;cases hn
  rw[valV_neg hk] at hn
  have ih:=valV_snoc k j y r hn
  by_cases e:p.1=j
  ·rw[valV_pos e,valV_pos e,if_neg (fun z=>hk (e.trans z))]
  ·rw[valV_neg e,valV_neg e,ih]
theorem valV_put (kvs:List (κ×V))(k j:κ)(y:V):valV (putK kvs k y) j=if j=k then some y else valV kvs j:=by
 unfold putK
 by_cases a:(kvs.any fun kv=>decide (kv.1=k))=true
 ·rw[if_pos a,valV_map]
  rw[valV_any] at a
  by_cases e:j=k
  ·obtain⟨x,hx⟩:=Option.isSome_iff_exists.mp a
   rw[if_pos e,e,hx,Option.map_some,if_pos rfl]
  ·rw[if_neg e]
   cases valV kvs j with
   |none=>rfl
   |some x=>rw[Option.map_some,if_neg e]
 ·rw[if_neg a]
  refine valV_snoc k j y kvs ?_
  rw[valV_any] at a
  cases q:valV kvs k with
  |none=>rfl
  |some x=>rw[q] at a;exact(a rfl).elim
theorem length_putK (kvs:List (κ×V))(k:κ)(v:V):(putK kvs k v).length≤kvs.length+1:=by
 unfold putK
 split
 ·rw[List.length_map];omega
 ·rw[List.length_append,List.length_cons,List.length_nil];omega
theorem putK_new {kvs:List (κ×V)}{k:κ}(v:V)(h:valV kvs k=none):putK kvs k v=kvs++[(k,v)]:=by
 unfold putK
 rw[valV_any,h]
 exact if_neg (by decide)
theorem RelO.isSome_eq {o:Option V}{u:Option Value}(r:RelO o u):o.isSome=u.isSome:=by
 cases o with
 |none=>cases u with
  |none=>rfl
  |some _=>exact(show False from r).elim
 |some _=>cases u with
  |none=>exact(show False from r).elim
  |some _=>rfl
theorem RelO.getD {o:Option V}{u:Option Value}{d:V}{d':Value}(r:RelO o u)(rd:RelV d d'):RelV (o.getD d) (u.getD d'):=by
 cases o with
 |none=>cases u with
  |none=>exact rd
  |some _=>exact(show False from r).elim
 |some _=>cases u with
  |none=>exact(show False from r).elim
  |some _=>exact r
theorem KV.val {kvs:List (κ×V)}{vs:List (κ×Value)}(r:KV kvs vs)(k:κ):RelO (valV kvs k) (valueAt vs k):=by
 unfold KV at r
 induction r with
 |nil=>exact True.intro
 | @cons p q ps qs h t ih=>
  obtain⟨h1,h2⟩:=h
  by_cases e:p.1=k
  ·have e':q.1=k:=h1.symm.trans e
   have b:valueAt (q::qs) k=some q.2:=by simp[valueAt,List.find?_cons,e']
   rw[valV_pos e,b];exact h2
  ·have e':¬q.1=k:=fun z=>e (h1.trans z)
   have b:valueAt (q::qs) k=valueAt qs k:=by simp[valueAt,List.find?_cons,e']
   rw[valV_neg e,b];exact ih
theorem KV.any {kvs:List (κ×V)}{vs:List (κ×Value)}(r:KV kvs vs)(k:κ):(kvs.any fun kv=>decide (kv.1=k))=vs.any fun kv=>decide (kv.1=k):=by
 unfold KV at r
 induction r with
 |nil=>rfl
 |cons h t ih=>rw[List.any_cons,List.any_cons,ih,h.1]
theorem KV.repl {kvs:List (κ×V)}{vs:List (κ×Value)}(r:KV kvs vs)(k:κ){y:V}{u:Value}(ry:RelV y u):
  KV (kvs.map fun kv=>if kv.1=k then (kv.1,y) else kv) (vs.map fun kv=>if kv.1=k then (kv.1,u) else kv):=by
 unfold KV at r⊢
 induction r with
 |nil=>exact .nil
 | @cons p q ps qs h t ih=>
  rw[List.map_cons,List.map_cons]
  refine .cons ?_ ih
  obtain⟨h1,h2⟩:=h
  by_cases e:p.1=k
  ·rw[if_pos e,if_pos (h1.symm.trans e)];exact⟨h1,ry⟩
  ·rw[if_neg e,if_neg (fun z=>e (h1.trans z))];exact⟨h1,h2⟩
theorem KV.put {kvs:List (κ×V)}{vs:List (κ×Value)}(r:KV kvs vs)(k:κ){y:V}{u:Value}(ry:RelV y u):KV (putK kvs k y) (stored vs k u):=by
 unfold putK stored
 rw[r.any k]
 by_cases e:(vs.any fun kv=>decide (kv.1=k))=true
 ·rw[if_pos e,if_pos e];exact r.repl k ry
 ·rw[if_neg e,if_neg e];exact Paired.snoc r ⟨rfl,ry⟩
theorem KV.length {kvs:List (κ×V)}{vs:List (κ×Value)}(r:KV kvs vs):kvs.length=vs.length:=Paired.length r
end
theorem kV_is {P:Program}{w:World}{k:Key}{u:Value}(r:RelV (kV k) u):(mixKind P w).is k u=true:=by
 cases k with
 |inl i=>obtain⟨t,e⟩:=(show∃t,u=Value.int i t from r);subst e;exact mixKind_int P w i t
 |inr x=>obtain⟨t,e⟩:=(show∃t,u=Value.str x t from r);subst e;exact mixKind_str P w x t
theorem items_are {P:Program}{w:World}:∀{ks:List Key} {us:List Value},Vals (ks.map kV) us→ItemsAre (mixKind P w) ks us
 |[],_,r=>by rw[List.map_nil] at r;cases r;exact .nil
 |k::ks,_,r=>by
  rw[List.map_cons] at r
  cases r with
  |cons h t=>exact .cons (kV_is h) (items_are t)
abbrev KT (H:Hp):List (List Key×V)→List (List Key×Addr×Value)→Prop:=Paired fun p q=>p.1=q.1∧H q.2.1=some (.tup (p.1.map kV))∧RelV p.2 q.2.2
theorem KT.val {H:Hp}{kvs:List (List Key×V)}{xs:List (List Key×Addr×Value)}(r:KT H kvs xs)(k:List Key):RelO (valV kvs k) ((atKey xs k).map (·.2)):=by
 induction r with
 |nil=>exact True.intro
 | @cons p q ps qs h t ih=>
  obtain⟨h1,_,h2⟩:=h
  by_cases e:p.1=k
  ·have e':q.1=k:=h1.symm.trans e
   have b:atKey (q::qs) k=some q.2:=by simp[atKey,List.find?_cons,e']
   rw[valV_pos e,b];exact h2
  ·have e':¬q.1=k:=fun z=>e (h1.trans z)
   have b:atKey (q::qs) k=atKey qs k:=by simp[atKey,List.find?_cons,e']
   rw[valV_neg e,b];exact ih
theorem KT.repl {H:Hp}{kvs:List (List Key×V)}{xs:List (List Key×Addr×Value)}(r:KT H kvs xs)(k:List Key){y:V}{u:Value}(ry:RelV y u):
  KT H (kvs.map fun kv=>if kv.1=k then (kv.1,y) else kv) (xs.map (putAt k u)):=by
 induction r with
 |nil=>exact .nil
 | @cons p q ps qs h t ih=>
  rw[List.map_cons,List.map_cons]
  refine .cons ?_ ih
  obtain⟨h1,h2,h3⟩:=h
  unfold putAt
  by_cases e:p.1=k
  ·rw[if_pos e,if_pos (h1.symm.trans e)];exact⟨h1,h2,ry⟩
  ·rw[if_neg e,if_neg (fun z=>e (h1.trans z))];exact⟨h1,h2,h3⟩
theorem KT.put {H:Hp}{kvs:List (List Key×V)}{xs:List (List Key×Addr×Value)}(r:KT H kvs xs)(k:List Key){b:Addr}{y:V}{u:Value}(hb:H b=some (.tup (k.map kV)))(ry:RelV y u):
  KT H (putK kvs k y) (storedH xs k b u):=by
 have e:(kvs.any fun kv=>decide (kv.1=k))=(atKey xs k).isSome:=by
  rw[valV_any,(r.val k).isSome_eq,Option.isSome_map]
 unfold putK storedH
 rw[e]
 by_cases q:(atKey xs k).isSome=true
 ·rw[if_pos q,if_pos q];exact r.repl k ry
 ·rw[if_neg q,if_neg q];exact Paired.snoc r ⟨rfl,hb,ry⟩
theorem KT.keeps {H H':Hp}{kvs:List (List Key×V)}{xs:List (List Key×Addr×Value)}(r:KT H kvs xs)(ht:∀b ys,H b=some (.tup ys)→H' b=some (.tup ys)):KT H' kvs xs:=
 Paired.mapP r fun _ _ z=>⟨z.1,ht _ _ z.2.1,z.2.2⟩
section
variable {P:Program} {w:World} {H:Hp} {h:Heap} {a:Addr}
theorem rd_of {u:HO}(ok:HOk P w H h)(e:Rd H a u):ObjOk P w H h a u:=e.ok ok
theorem dk_rd {kvs:List (Key×V)}(ok:HOk P w H h)(e:Rd H a (.dK kvs)):kvs.length≤sizeLine∧(a==sysModules)=false∧∃vs,KV kvs vs∧h.DictOf (mixKind P w) a vs:=
 show ObjOk P w H h a (.dK kvs) from rd_of ok e
theorem dk_of {kvs:List (Key×V)}(ok:HOk P w H h)(e:H a=some (.dK kvs)):kvs.length≤sizeLine∧(a==sysModules)=false∧∃vs,KV kvs vs∧h.DictOf (mixKind P w) a vs:=dk_rd ok (.inl e)
theorem key_of {ks:List Key}(ok:HOk P w H h)(e:H a=some (.tup (ks.map kV))):(tupleKind (mixKind P w)).is h ks a:=by
 obtain⟨_,its,r,o,h1,h2,n,h3⟩:=(show ObjOk P w H h a (.tup (ks.map kV)) from ok a _ e)
 exact⟨o,its.toArray,n,h1,h2,h3,by simpa using items_are r⟩
theorem dt_rd {kvs:List (List Key×V)}(ok:HOk P w H h)(e:Rd H a (.dT kvs)):kvs.length≤sizeLine∧(a==sysModules)=false∧
  ∃xs,KT H kvs xs∧h.DictOfH (tupleKind (mixKind P w)) a xs:=by
 obtain⟨z,y,xs,r,o,es,ep,h1,h2,h3,h4,h5⟩:=(show ObjOk P w H h a (.dT kvs) from rd_of ok e)
 refine⟨z,y,xs,r,o,es,ep,h1,h2,h3,h4,fun x hx=>?_,h5⟩
 have all:∀{l:List (List Key×V)} {m:List (List Key×Addr×Value)},KT H l m→∀x∈m,(tupleKind (mixKind P w)).is h x.1 x.2.1:=by
  intro l m q
  induction q with
  |nil=>intro x hx;exact nomatch hx
  | @cons p q ps qs hq t ih=>
   intro x hx
   rcases List.mem_cons.mp hx with e|hx
   ·subst e
    exact key_of ok (by rw[←hq.1];exact hq.2.1)
   ·exact ih x hx
 exact all r x hx
theorem dt_of {kvs:List (List Key×V)}(ok:HOk P w H h)(e:H a=some (.dT kvs)):kvs.length≤sizeLine∧(a==sysModules)=false∧
  ∃xs,KT H kvs xs∧h.DictOfH (tupleKind (mixKind P w)) a xs:=dt_rd ok (.inl e)
end
def DGet (H:Hp) (a:Addr) (y:V) (r:Option V):Prop:=
 (∃kvs k,Rd H a (.dK kvs)∧y=kV k∧r=valV kvs k)∨∃kvs k b,Rd H a (.dT kvs)∧y=.ref b∧H b=some (.tup (k.map kV))∧r=valV kvs k
def DPut (H:Hp) (a:Addr) (y v:V) (H':Hp):Prop:=
 (∃kvs k,H a=some (.dK kvs)∧y=kV k∧kvs.length<sizeLine∧H'=upd H a (.dK (putK kvs k v)))∨
 ∃kvs k b,H a=some (.dT kvs)∧y=.ref b∧H b=some (.tup (k.map kV))∧kvs.length<sizeLine∧H'=upd H a (.dT (putK kvs k v))
theorem DPut.t {H:Hp}{a b:Addr}{kvs:List (List Key×V)}{k:List Key}{v:V}(e:H a=some (.dT kvs))(eb:H b=some (.tup (k.map kV)))(hl:kvs.length<sizeLine):
  DPut H a (.ref b) v (upd H a (.dT (putK kvs k v))):=.inr ⟨kvs,k,b,e,rfl,eb,hl,rfl⟩
section
variable {X:Cx} {pins:List (Addr×Obj)} {σ:St} {H:Hp} {s:Shared} {a:Addr} {y v:V} {u r:Value} {o:Option V} {A:Around} {E:Value→Shared→Prop}
theorem Inv.big (I:Inv X pins σ H s):sysModules<s.heap.objs.size:=by
 have h:mainGlobals<s.heap.objs.size:=(I.mod.glob.keeps I.bk).lt
 exact Nat.lt_trans (by decide) h
theorem d_in {Q:Value→Shared→Prop}(hu:A.units+1<cLine)(I:Inv X pins σ H s)(g:DGet H a y o)(ry:RelV y u)(h:∀s',Inv X pins σ H s'→Q (.bool o.isSome) s'):
  wpAny (model X.prog X.w) A (compareOp .In u (.ref a)) Q E s:=by
 rcases g with ⟨kvs,k,e,ey,l⟩|⟨kvs,k,b,e,ey,eb,l⟩
 ·subst ey
  obtain⟨z,hd,vs,rel,dd⟩:=dk_rd I.hok e
  refine wpAny_in_of (kV_is ry) hd dd.mapOf ?_
  rw[←(rel.val k).isSome_eq,←l]
  exact h _ (I.tok _)
 ·subst ey
  cases(show u=Value.ref b from ry)
  obtain⟨z,hd,xs,rel,dd⟩:=dt_rd I.hok e
  refine wpAny_in_heap (tupleKind_room_in1 hu) (key_of I.hok eb) hd dd ?_
  have q:=(rel.val k).isSome_eq
  rw[Option.isSome_map] at q
  rw[←q,←l]
  exact h _ (I.tok _)
theorem d_notIn {Q:Value→Shared→Prop}(hu:A.units+1<cLine)(I:Inv X pins σ H s)(g:DGet H a y o)(ry:RelV y u)(h:∀s',Inv X pins σ H s'→Q (.bool (!o.isSome)) s'):
  wpAny (model X.prog X.w) A (compareOp .NotIn u (.ref a)) Q E s:=by
 rcases g with ⟨kvs,k,e,ey,l⟩|⟨kvs,k,b,e,ey,eb,l⟩
 ·subst ey
  obtain⟨z,hd,vs,rel,dd⟩:=dk_rd I.hok e
  refine wpAny_notIn_of (kV_is ry) hd dd.mapOf ?_
  rw[←(rel.val k).isSome_eq,←l]
  exact h _ (I.tok _)
 ·subst ey
  cases(show u=Value.ref b from ry)
  obtain⟨z,hd,xs,rel,dd⟩:=dt_rd I.hok e
  refine wpAny_notIn_heap (tupleKind_room_in1 hu) (key_of I.hok eb) hd dd ?_
  have q:=(rel.val k).isSome_eq
  rw[Option.isSome_map] at q
  rw[←q,←l]
  exact h _ (I.tok _)
theorem d_write {h':Heap}{t':Nat}{ob:HO}(I:Inv X pins σ H s)(mu:Mut (H a))(hs:Heap.SameBut a s.heap h')(he:∃q,h'.get? a=some q)(new:ObjOk X.prog X.w (upd H a ob) h' a ob):
  Inv X pins σ (upd H a ob) {s with heap:=h',toks:=t'}:=
 I.write (x:=a) (e:=a) mu (.inl rfl) (fun b q hb z=>(hs.2 b hb).trans z) he new
theorem dk_new {P:Program}{w:World}{H':Hp}{h':Heap}{kvs:List (Key×V)}{vs:List (Key×Value)}(z:kvs.length≤sizeLine)(hd:(a==sysModules)=false)(rel:KV kvs vs)(dd:h'.DictOf (mixKind P w) a vs):
  ObjOk P w H' h' a (.dK kvs):=⟨z,hd,vs,rel,dd⟩
theorem d_setItem {H':Hp}{Q:Unit→Shared→Prop}(hu:A.units+1<cLine)(I:Inv X pins σ H s)(g:DPut H a y v H')(ry:RelV y u)(rv:RelV v r)(h:∀s',Inv X pins σ H' s'→Q () s'):
  wpAny (model X.prog X.w) A (setItem (.ref a) u r) Q E s:=by
 rcases g with ⟨kvs,k,e,ey,l,eH⟩|⟨kvs,k,b,e,ey,eb,l,eH⟩
 ·subst ey eH
  obtain⟨z,hd,vs,rel,dd⟩:=dk_of I.hok e
  have hz:vs.length≤sizeLine:=by rw[←rel.length];exact z
  have hl:(putK kvs k v).length≤sizeLine:=by have:=length_putK kvs k v;omega
  refine wpAny_setItem_pairs (hsz:=hz) (kV_is ry) dd fun h' dd' hs=>h _ ?_
  have he:∃q,h'.get? a=some q:=let ⟨q,_,_,hq,_⟩:=dd';⟨q,hq⟩
  exact d_write I (by rw[e];exact True.intro) hs he (dk_new hl hd (rel.put k rv) dd')
 ·subst ey eH
  cases(show u=Value.ref b from ry)
  obtain⟨z,hd,xs,rel,dd⟩:=dt_of I.hok e
  have hz:xs.length≤sizeLine:=by rw[←Paired.length rel];exact z
  have hl:(putK kvs k v).length≤sizeLine:=by have:=length_putK kvs k v;omega
  refine wpAny_setItem_heap (hsz:=hz) (tupleKind_room_in1 hu) (key_of I.hok eb) dd fun h' dd' hs=>h _ ?_
  obtain⟨q,es,ep,hq,h2,h3,h4,_,h5⟩:=dd'
  refine d_write I (by rw[e];exact True.intro) hs ⟨q,hq⟩ ⟨hl,hd,_,(rel.put k eb rv).keeps fun c ys ec=>?_,q,es,ep,hq,h2,h3,h4,h5⟩
  rw[upd_ne (ne_of ec e (fun z=>nomatch z))]
  exact ec
end
section
variable {X:Cx} {pins:List (Addr×Obj)} {σ:St} {H:Hp} {s:Shared} {a:Addr} {kvs:List (Key×V)} {k:Key} {u:Value} {A:Around} {E:Value→Shared→Prop}
end
def tDIn (ty td:TE):TE:=fun σ H Q=>ty σ H fun y H1=>td σ H1 fun x H2=>∃a o,x=.ref a∧DGet H2 a y o∧Q (.bl o.isSome) H2
def tDNotIn (ty td:TE):TE:=fun σ H Q=>ty σ H fun y H1=>td σ H1 fun x H2=>∃a o,x=.ref a∧DGet H2 a y o∧Q (.bl (!o.isSome)) H2
def sDPut (td ty tv:TE):TS:=fun D σ H=>tv σ H fun v H1=>td σ H1 fun x H2=>ty σ H2 fun y H3=>∃a H4,x=.ref a∧DPut H3 a y v H4∧D.nx σ H4
section
variable {X:Cx} {o i e value:Expr} {pos pos' tpos:Pos} {td ty tv:TE}
theorem pc_din (hu:X.A.units+1<cLine)(hi:PE X i ty)(ho:PE X o td):PC X .In i o (tDIn ty td):=by
 intro pins s σ H Q I h
 refine thn (hi pins s σ H _ I h) fun iv s1 ⟨y,H1,I1,ry,q1⟩=>thn (ho pins s1 σ H1 _ I1 q1) fun u s2 ⟨x,H2,I2,rx,a,ov,ex,g,q2⟩=>?_
 subst ex
 obtain rfl:u=Value.ref a:=rx
 exact d_in hu I2 g ry fun s3 I3=>⟨.bl ov.isSome,H2,I3,rfl,q2⟩
theorem pc_dnotin (hu:X.A.units+1<cLine)(hi:PE X i ty)(ho:PE X o td):PC X .NotIn i o (tDNotIn ty td):=by
 intro pins s σ H Q I h
 refine thn (hi pins s σ H _ I h) fun iv s1 ⟨y,H1,I1,ry,q1⟩=>thn (ho pins s1 σ H1 _ I1 q1) fun u s2 ⟨x,H2,I2,rx,a,ov,ex,g,q2⟩=>?_
 subst ex
 obtain rfl:u=Value.ref a:=rx
 exact d_notIn hu I2 g ry fun s3 I3=>⟨.bl (!ov.isSome),H2,I3,rfl,q2⟩
theorem ps_dput (hu:X.A.units+1<cLine)(ho:PE X o td)(hi:PE X i ty)(hv:PE X value tv)(hs:swapsWith value (some (.Subscript o i pos')) pos.line X.env=pure false):
  PS X (.Assign [.Subscript o i pos'] value pos) (sDPut td ty tv):=by
 intro pins s σ H D I h
 refine wpAny_Assign_Subscript (thn (hv pins s σ H _ I h) fun r s1 ⟨v,H1,I1,rv,q1⟩=>thn (ho pins s1 σ H1 _ I1 q1) fun u s2 ⟨x,H2,I2,rx,q2⟩=>thn (hi pins s2 σ H2 _ I2 q2) fun iv s3 ⟨y,H3,I3,ry,a,H4,ex,g,q3⟩=>?_) hs
 subst ex
 obtain rfl:u=Value.ref a:=rx
 exact d_setItem hu I3 g ry rv fun s4 I4=>⟨σ,H4,I4,q3⟩
end
theorem dt_empty {P:Program}{w:World}{H:Hp}(h:Heap)(hb:sysModules<h.objs.size):ObjOk P w H (h.push {cls:=.type "dict",data:=.dict #[]}) h.objs.size (.dT []):=
 ⟨Nat.zero_le _,beq_eq_false_iff_ne.mpr (Ne.symm (Nat.ne_of_lt hb)),[],.nil,_,#[],0,Heap.get?_push_size _ rfl,⟨rfl,rfl,rfl⟩,rfl,rfl,List.nodup_nil⟩
def tDNewT:TE:=fun _ H Q=>∀p,H p=none→Q (.ref p) (upd H p (.dT []))
section
variable {X:Cx} {pos:Pos}
theorem pe_dnewT:PE X (.Dict [] [] pos) tDNewT:=fun pins s σ H Q I h=>
 wpAny_Dict_empty ⟨.ref s.heap.objs.size,_,I.laid (a:=s.heap.objs.size) (o:=.dT []) (t':=s.toks) (fun _ _ q=>Heap.get?_push_of_some _ q) (Nat.le_refl _) (dt_empty s.heap I.big),rfl,h _ (I.hok.fresh (Nat.le_refl _))⟩
end
section
variable {X:Cx} {pins:List (Addr×Obj)} {σ:St} {H:Hp} {s:Shared} {a:Addr} {y d:V} {u r:Value} {o:Option V} {A:Around} {E:Value→Shared→Prop}
theorem d_get2 {Q:Value→Shared→Prop}(hu:A.units+1<cLine)(I:Inv X pins σ H s)(g:DGet H a y o)(ry:RelV y u)(rd:RelV d r)(h:∀w' s',Inv X pins σ H s'→RelV (o.getD d) w'→Q w' s'):
  wpAny (model X.prog X.w) A (call (.builtin "dict.get") [.ref a,u,r]) Q E s:=by
 rcases g with ⟨kvs,k,e,ey,l⟩|⟨kvs,k,b,e,ey,eb,l⟩
 ·subst ey
  obtain⟨z,hd,vs,rel,dd⟩:=dk_rd I.hok e
  refine call_meetsIn PySem.F.slot_dict_get dd.typeIs PySem.F.entry_dict_get (PySem.F.args_dict_get_3 _ _ _) (meets_dict_get_default (mixKind X.prog X.w) a (kV_is ry) hd r) ⟨_,dd.mapOf,h _ _ (I.tok _) ?_⟩
  rw[l]
  exact(rel.val k).getD rd
 ·subst ey
  cases(show u=Value.ref b from ry)
  obtain⟨z,hd,xs,rel,dd⟩:=dt_rd I.hok e
  refine call_meetsIn PySem.F.slot_dict_get dd.typeIs PySem.F.entry_dict_get (PySem.F.args_dict_get_3 _ _ _) (meetsH_dict_get_default (tupleKind (mixKind X.prog X.w)) a b hd r) ⟨tupleKind_room_in1 hu,k,xs,key_of I.hok eb,dd,h _ _ (I.tok _) ?_⟩
  rw[l]
  exact(rel.val k).getD rd
end
section
variable {X:Cx} {o e f:Expr} {apos cpos:Pos} {td ty tx:TE}
end
section
variable {X:Cx} {pins:List (Addr×Obj)} {σ:St} {H:Hp} {s:Shared} {a:Addr} {kvs:List (Key×V)} {A:Around} {E:Value→Shared→Prop}
theorem d_copyOf {Q:Value→Shared→Prop}(I:Inv X pins σ H s)(e:Rd H a (.dK kvs))(h:∀p s',H p=none→Inv X pins σ (upd H p (.dK kvs)) s'→Q (.ref p) s'):wpAny (model X.prog X.w) A (call (.type "dict") [.ref a]) Q E s:=by
 obtain⟨z,hd,vs,rel,dd⟩:=dk_rd I.hok e
 refine kt_call_dict hd dd (by rw[←rel.length];exact z) fun h' dd' hs=>?_
 refine h _ _ (I.hok.fresh (Nat.le_refl _)) (I.laid (a:=s.heap.objs.size) (o:=.dK kvs) (t':=s.toks) (fun b q hq=>?_) (Nat.le_refl _) (dk_new z (beq_eq_false_iff_ne.mpr (Ne.symm (Nat.ne_of_lt I.big))) rel dd'))
 exact(hs.2 b (Nat.ne_of_lt (Heap.lt_size hq))).trans (Heap.get?_push_of_some _ hq)
end
section
variable {X:Cx} {pins:List (Addr×Obj)} {σ:St} {H:Hp} {s:Shared} {a:Addr} {y:V} {u:Value} {A:Around} {E:Value→Shared→Prop}
end
end L2
namespace Att
open PySem PySem.W PySem.Calls PyProof.Rows
theorem ints_of_wellAll {P:Params}{h:Heap}:∀(ns:List Int) (vs:List Value),WellAll P h vs (ns.map WData.int)→IntsAre vs ns:=by
 intro ns
 induction ns with
 |nil=>
  intro vs w
  rw[List.map_nil] at w
  cases w
  exact .nil
 |cons n ns ih=>
  intro vs w
  rw[List.map_cons] at w
  cases w with
  |cons a b=>
   cases a
   exact .cons _ _ (ih _ b)
theorem script_of {l:OpenLaw}{n:Nat}(hn:l.most=some n){P:Params}{h:Heap}{args:List WData}{vals:List Value}
  (hpre:l.row.toRowW.claim.pre args=true) (hwl:WellAll P h vals args):
  ∃a vs ns,vals=[Value.ref a]∧args=[WData.list (ns.map WData.int)]∧h.get? a=some {cls:=.type "list",data:=.seq vs.toArray}∧IntsAre vs ns∧ns.length≤n:=by
 have hsh:WShape.hasAll [] args [.list .int]=true:=(pre_splitW hpre).1
 have hc:l.pre.holds [] {args:=args}=true:=(pre_splitW hpre).2
 obtain⟨d,r,rfl,h1,h2⟩:=hasAllW_cons hsh
 obtain rfl:=hasAllW_nil h2
 obtain⟨xs,rfl,h3⟩:=hasW_list h1
 obtain⟨ns,rfl⟩:=items_int h3
 have hlen:ns.length≤n:=by
  unfold OpenLaw.pre at hc
  have h4:(WTm.not (.lt (.lit (.int (n:Int))) (.len (.arg 0)))).holds [] {args:=[.list (ns.map .int)]}=true:=by
   have h4:=(holds_andW hc).1
   rw[hn] at h4
   exact h4
  have h5:=condW_of h4 (w_not (w_lt w_lit (w_len_list (w_arg rfl))))
  rw[List.length_map] at h5
  refine Nat.le_of_not_lt fun q=>?_
  have q':(n:Int)<((ns.length:Nat):Int):=by omega
  first
   |(rw[decide_eq_true q'] at h5;exact absurd h5 (by decide))
   |(simp at h5;omega)
 cases hwl with
 |cons w1 w2=>
  cases w2
  cases w1 with
  |list ho hall=>exact⟨_,_,ns,rfl,rfl,ho,ints_of_wellAll ns _ hall,hlen⟩
theorem post_true (l:OpenLaw)(args:List WData):l.row.toRowW.claim.post args (.bool true) args=true:=
 postW_of (r:=l.row.toRowW) (X:=(true==true))
  (show WShape.has [] (.bool true) .bool=true by first|rfl|decide|simp[WShape.has,WShape.arms,WShape.armsAll])
  (show(WTm.eq .res (.lit (.bool true))).value [] {args:=args,res:=some (.bool true),after:=args}=some (.bool (true==true)) from w_eq_bool (w_res rfl) w_lit) rfl
theorem attach_call {l:OpenLaw}{n:Nat}{q:Program}{loose:List Str}{XP:(Str→Option Value)→Heap→Prop}{YP:World→Heap→Prop}{d:DefRec}
  (hn:l.most=some n) (hdf:d.params.defaults=[])
  (call:∀(w:World) (s₀ s₁:Shared) (mg mb:Str→Option Value) (fa:Addr) (o:Obj) (pm cd doc:Value) (a:Addr) (vs:List Value) (ns:List Int),
   Ground q loose [] XP w s₀ mg mb s₁.heap→YP w s₁.heap→
   s₁.heap.get? fa=some o→o.data=.func (docDef d.name d.params d.body d.scope pm cd doc)→s₁.heap.CodeRec cd d.name→mg d.name=some (.ref fa)→
   s₁.heap.get? a=some {cls:=.type "list",data:=.seq vs.toArray}→IntsAre vs ns→ns.length≤n→s₁.gens= #[]→
   codeAny (model l.prog w) callerA (.call (.ref fa) ⟨[.ref a],[]⟩) (fun r s'=>r=.ok (.ret (.bool true))∧OldK s₁.heap s'.heap∧s'.os=s₁.os∧AllBare s'.gens) s₁):
  WalkO q loose XP YP l.row.toRowW d [] (fun f vs=>PySem.call f vs):=by
 intro w s₀ s₁ mg mb G Y fa o pm cd doc dV kV ho hd hcd hD hmg hg args vals as hpre hlay hrd hwl hlo
 obtain rfl:dV=.none:=Dflts.none hD hdf
 obtain rfl:kV=.none:=Dflts.noKw hD
 obtain⟨a,vs,ns,rfl,rfl,hobj,hints,hlen⟩:=script_of hn hpre hwl
 refine enter_call (codeAny_mono (call w s₀ s₁ mg mb fa o pm cd doc a vs ns G Y ho (fd_plain hd) hcd hmg hobj hints hlen hg) fun r s' hq=>?_)
 obtain⟨rfl,h2,h3,h4⟩:=hq
 exact⟨.inl ⟨.bool true,.bool true,[],rfl,fun _=>rfl,.bool true,post_true l _,fun _=>⟨List.Pairwise.nil,fun _ hm=>(nomatch hm)⟩⟩,h2,h3,h4⟩
section
variable {prog:Program} {w:World} {A:Around} {E:Value→Shared→Prop} {s:Shared} {K:Frag}
def noObjs (h:Heap):Heap:={h with objs:= #[]}
theorem noObjs_get (h:Heap)(b:Addr):(noObjs h).get? b=none:=by
 cases e:(noObjs h).get? b with
 |none=>rfl
 |some o=>exact absurd (Heap.lt_size e) (Nat.not_lt_zero _)
theorem fr_all {h:Heap}{L:Addr}{m:Str→Option Value}(n:h.Ns L m):Fr (noObjs h) L h m:=
 ⟨n,fun b o e=>(by rw[noObjs_get] at e;cases e),Nat.zero_le _⟩
end
end Att
namespace L2
open PySem PySem.Spec PyProof.Rows
theorem vals_ints:∀{vs:List Value} {ns:List Int},IntsAre vs ns→Vals (ns.map V.int) vs
 |_,_,.nil=> .nil
 |_,_,.cons n t h=> .cons ⟨t,rfl⟩ (vals_ints h)
def Only (H:Hp):Prop:=∀b,H b=none∨∃o xs,H b=some (.frz o (.lst xs))
theorem law_call {P:Program}{w:World}{K:PySem.W.Frag}{mg mb:Str→Option Value}{CX:CXT}{k:Nat}{fa a:Addr}{fd:FuncData}{x:Str}{sp:Sp}{s₁:Shared}{vs:List Value}{ns:List Int}
  (KX:K.In s₁.heap) (hns:s₁.heap.Ns mainGlobals mg) (hb:s₁.heap.Ns builtinsNs mb) (hbb:∀x:Str,x≠ "__name__" →mb x=bootBuiltins x) (hlim:s₁.heap.NoLimit) (hg:s₁.gens= #[])
  (ha:s₁.heap.get? a=some {cls:=.type "list",data:=.seq vs.toArray}) (hi:IntsAre vs ns) (hl:ns.length≤sizeLine) (hr:Room k callerA)
  (F:∀base:Heap,K.In base→base.Ns mainGlobals mg→FnOk P w K mg base CX k fa fd [x] sp) (hbind:∀(s:Shared) (u:Value),BindsTo s fd ⟨[u],[]⟩ [(x,u)])
  (hsp:∀H:Hp,Only H→SqL K H a (ns.map V.int)→sp [.ref a] H (fun v _=>v=.bl true) fun _ _ _=>False)
  (hCX:∀H e s',CX [] H s₁ (fun _ _ _=>False) e s'→False):
  codeAny (model P w) callerA (.call (.ref fa) ⟨[.ref a],[]⟩) (fun r s'=>r=.ok (.ret (.bool true))∧OldK s₁.heap s'.heap∧s'.os=s₁.os∧AllBare s'.gens) s₁:=by
 have rv:=vals_ints hi
 have lenV:=hi.length
 have core:∀H:Hp,Only H→SqL K H a (ns.map V.int)→HOk P w H s₁.heap→(∀b,H b≠none→b=a)→(H a≠none→K.lookup a=none)→
   codeAny (model P w) callerA (.call (.ref fa) ⟨[.ref a],[]⟩) (fun r s'=>r=.ok (.ret (.bool true))∧OldK s₁.heap s'.heap∧s'.os=s₁.os∧AllBare s'.gens) s₁:=by
  intro H hO hS hok hA hK
  have base_of:∀{b:Addr} {o:Obj},s₁.heap.get? b=some o→H b=none→(hidT s₁.heap H).get? b=some o:=fun e n=>hidT_get e n
  have noA:∀{b:Addr} {o:Obj} {es:Array DictEntry} {ep:Nat},s₁.heap.get? b=some o→o.data=.dict es ep→H b=none:=fun{b o es ep} e d=>by
   cases q:H b with
   |none=>rfl
   |some u=>
    have e':b=a:=hA b (by rw[q];simp)
    subst e'
    rw[ha] at e;cases e
    have d':Data.seq vs.toArray _=Data.dict es ep:=d
    cases d'
  have nsK:∀{b:Addr} {m:Str→Option Value},s₁.heap.Ns b m→(hidT s₁.heap H).Ns b m:=fun{b m} ⟨o,es,ep,e,d,r⟩=>⟨o,es,ep,base_of e (noA e d),d,r⟩
  have hKb:K.In (hidT s₁.heap H):=fun b o e=>base_of (KX b o e) (by
   cases q:H b with
   |none=>rfl
   |some u=>
    have e':b=a:=hA b (by rw[q];simp)
    subst e'
    rw[hK (by rw[q];simp)] at e;cases e)
  have hM:Mod K mg (hidT s₁.heap H):=⟨hKb,nsK hns,⟨mb,nsK hb,hbb⟩,let ⟨mc,h1,h2⟩:=hlim;⟨mc,nsK h1,h2⟩⟩
  have e0:Env0 P w K mg (hidT s₁.heap H) callerA [] s₁ H:=⟨rfl,hM,fun b o e=>of_hidT e,Nat.le_of_eq (hidT_size _ _),trivial,fun b hb=>absurd (show b∈([]:List Addr) from hb) (by simp),hok,.of_eq hg⟩
  refine codeAny_mono ((F _ hKb (nsK hns)).run callerA [] s₁ H ⟨[.ref a],[]⟩ [.ref a] [.ref a] _ _ hr e0 (hbind s₁ (.ref a)) (.cons rfl .nil) (hsp H hO hS)) fun r s' h=>?_
  cases r with
  |error e=>exact(hCX H e s' h).elim
  |ok fl=>
   cases fl with
   |next=>exact False.elim h
   |brk=>exact False.elim h
   |cont=>exact False.elim h
   |ret u=>
    obtain⟨v,H',os,bare,un,hok',r',q⟩:=h
    have q':v=.bl true:=q
    subst q'
    obtain rfl:u=Value.bool true:=r'
    refine⟨rfl,OldK.of_keep fun b o e=>?_,os,bare⟩
    cases q:H b with
    |none=>exact un.keep b o e q (by intro z;exact absurd (show b∈([]:List Addr) from z) (by simp)) (by simp)
    |some u=>
     rcases hO b with z|⟨ob,xs,z⟩
     ·rw[q] at z;cases z
     ·have z2:=un.frzs b ob _ z
      obtain⟨e1,_⟩:=hok b _ z
      obtain⟨e2,_⟩:=hok' b _ z2
      rw[e] at e1;cases e1
      exact e2
 cases hk:K.lookup a with
 |some o=>
  have e:=KX a o hk
  rw[ha] at e
  cases e
  refine core (fun _=>none) (fun _=> .inl rfl) (.inr ⟨_,vs.toArray,_,hk,rfl,rfl,rfl,by rw[List.size_toArray,lenV];exact hl,by simpa using rv⟩) (fun b u z=>by have z':(none:Option HO)=some u:=z;cases z') (fun b z=>absurd rfl z) fun z=>absurd rfl z
 |none=>
  refine core (fun b=>if b=a then some (.frz {cls:=.type "list",data:=.seq vs.toArray} (.lst (ns.map V.int))) else none) (fun b=>?_) (.inl (.inr ⟨{cls:=.type "list",data:=.seq vs.toArray},if_pos rfl⟩)) (fun b u z=>?_) (fun b z=>?_) fun _=>hk
  ·by_cases hb:b=a
   ·exact .inr ⟨_,_,if_pos hb⟩
   ·exact .inl (if_neg hb)
  ·by_cases hb:b=a
   ·have z':=(if_pos hb).symm.trans z
    cases z'
    subst hb
    exact⟨ha,by rw[List.length_map];exact hl,vs,_,rv,ha⟩
   ·have z':=(if_neg hb).symm.trans z
    cases z'
  ·by_cases hb:b=a
   ·exact hb
   ·exact absurd (if_neg hb) z
theorem walk_of {l:PySem.W.OpenLaw}{n k:Nat}{q:Program}{loose:List Str}{XP:(Str→Option Value)→Heap→Prop}{YP:World→Heap→Prop}{d:DefRec}{K:Params→PySem.W.Frag}{CX:World→CXT}{sp:World→Sp}{x:Str}
  (hn:l.most=some n) (hn2:n≤sizeLine) (hdf:d.params.defaults=[]) (hr:Room k callerA)
  (hY:∀(w:World) (h:Heap),YP w h→(K w.params).In h)
  (F:∀(w:World) (mg:Str→Option Value) (fa:Addr) (h:Heap),(K w.params).In h→h.Ns mainGlobals mg→mg d.name=some (.ref fa)→
   ∃fd:FuncData,(∀(s:Shared) (u:Value),BindsTo s fd ⟨[u],[]⟩ [(x,u)])∧
    ∀base:Heap,(K w.params).In base→base.Ns mainGlobals mg→FnOk l.prog w (K w.params) mg base (CX w) k fa fd [x] (sp w))
  (hsp:∀(w:World) (H:Hp) (a:Addr) (ns:List Int),ns.length≤n→Only H→SqL (K w.params) H a (ns.map V.int)→sp w [.ref a] H (fun v _=>v=.bl true) fun _ _ _=>False)
  (hCX:∀(w:World) (H:Hp) (s:Shared) (e:Value) (s':Shared),CX w [] H s (fun _ _ _=>False) e s'→False):
  PySem.W.WalkO q loose XP YP l.row.toRowW d [] (fun f vs=>PySem.call f vs):=by
 refine Att.attach_call hn hdf fun w s₀ s₁ mg mb fa o pm cd doc a vs ns G Y ho hd hcd hmg hobj hints hlen hg=>?_
 have KX:=hY w _ Y
 obtain⟨fd,hb,hF⟩:=F w mg fa _ KX G.T.g hmg
 exact law_call KX G.T.g G.T.b G.T.builtins G.T.nolimit hg hobj hints (Nat.le_trans hlen hn2) hr hF hb (fun H hO hS=>hsp w H a ns hlen hO hS) fun H e s'=>hCX w H s₁ e s'
noncomputable def inClass (s:Stmt) (j:Nat):Stmt:=match s with
 | .ClassDef _ _ _ body _ _ _ _ _ _ _=>body.getD j (.Pass ⟨0,0,0,0⟩)
 |_=> .Pass ⟨0,0,0,0⟩
noncomputable def defArgs (s:Stmt):Arguments:=match s with
 | .FunctionDef _ a _ _ _ _ _ _ _ _=>a
 |_=>{posonlyargs:=[],args:=[],vararg:=none,kwonlyargs:=[],kw_defaults:=[],kwarg:=none,defaults:=[]}
noncomputable def defBody (s:Stmt):List Stmt:=match s with
 | .FunctionDef _ _ b _ _ _ _ _ _ _=>b
 |_=>[]
noncomputable def defScope (s:Stmt):Scope:=match s with
 | .FunctionDef _ _ _ _ _ _ sc _ _ _=>sc
 |_=>{kind:=.function,names:=[],isGenerator:=false,isCoroutine:=false}
abbrev CX0:CXT:=fun _ _ _ _ _ _=>False
abbrev E0:XK:=fun _ _ _=>False
theorem pass0 {X:Cx}:Passes CX0 X E0:=fun _ _ _ _ _ _ _ h=>h.elim
structure Fun (K:PySem.W.Frag) (x qual:Str) (st:Stmt) (f:Addr) (fd:FuncData):Prop where
 ex:∃(oc:Value) (od:Option Addr) (kV doc pm:Value) (an:Option Addr) (cdv ct:Value) (osl:Array (Option Value)),
  fd=PySem.W.fnOf x qual (defArgs st) (defBody st) (defScope st) .none kV doc pm an cdv ct∧K.lookup f=some ⟨oc,od,.func fd,osl⟩∧PySem.W.codeIn K cdv qual=true
 kp:PySem.W.keepIn K (.ref f)=true
section
variable {P:Program} {w:World} {K:PySem.W.Frag} {mg:Str→Option Value} {base:Heap}
theorem Fun.ok {x qual:Str}{st:Stmt}{f:Addr}{fd:FuncData}{N ps:List Str}{k:Nat}{sp:Sp}(F:Fun K x qual st f fd)(S:FnScope N ps (defScope st))(len:∀vs H Q E,sp vs H Q E→vs.length=ps.length)
  (hbody:∀(cdv:Value) (A:Around) (outer:List Env) (s:Shared) (H:Hp) (vs:List V) (Q:VK) (E:XK),Room k (A.deeper (envOfC qual (defScope st) s.heap.objs.size f cdv))→sp vs H Q E→
   ∃t,PSs (cxOf CX0 P w K mg base N qual (defScope st) f cdv A outer s H E).nox (defBody st) t∧t {nx:=fun _ H'=>Q .non H',rt:=Q} (start N vs) H):FnOk P w K mg base CX0 (k+1) f fd ps sp:=by
 obtain⟨oc,od,kV,doc,pm,an,cdv,ct,osl,rfl,lk,hcd⟩:=F.ex
 refine fn_of lk hcd S len fun A outer s H vs Q E hr hsp=>?_
 obtain⟨t,h,q⟩:=hbody cdv A outer s H vs Q E hr hsp
 exact⟨t,h.nox,q⟩
theorem Fun.binds {x qual:Str}{st:Stmt}{f:Addr}{fd:FuncData}{ps:List Str}(F:Fun K x qual st f fd)
  (h:∀(kV doc pm:Value) (an:Option Addr) (cdv ct:Value) (us:List Value),us.length=ps.length→bindArgs (PySem.W.fnOf x qual (defArgs st) (defBody st) (defScope st) .none kV doc pm an cdv ct) ⟨us,[]⟩=pure (ps.zip us)):Binds K fd ps []:=by
 obtain⟨oc,od,kV,doc,pm,an,cdv,ct,osl,rfl,lk,hcd⟩:=F.ex
 exact .all (h kV doc pm an cdv ct)
theorem fun_mk {x qual:Str}{st:Stmt}{f:Addr}{oc:Value}{od an:Option Addr}{osl:Array (Option Value)}{kV doc pm cdv ct:Value}(l:K.lookup f=some ⟨oc,od,.func (PySem.W.fnOf x qual (defArgs st) (defBody st) (defScope st) .none kV doc pm an cdv ct),osl⟩)
  (c:PySem.W.codeIn K cdv qual=true) (k:PySem.W.keepIn K (.ref f)=true):Fun K x qual st f (PySem.W.fnOf x qual (defArgs st) (defBody st) (defScope st) .none kV doc pm an cdv ct):=⟨⟨oc,od,kV,doc,pm,an,cdv,ct,osl,rfl,l,c⟩,k⟩
end
section
variable {X:Cx}
theorem pv (i:Nat){x:Str}{pos:Pos}(hN:X.N[i]?=some x:=by rfl)(hv:Vis X.env.scope x:=by first|exact Or.inl rfl|exact Or.inr (Or.inl rfl)|exact Or.inr (Or.inr rfl))(hd:(x==("__debug__" :Str))=false:=by decide)
  (hcd:(x==("__classdict__" :Str))=false:=by decide):PE X (.Name x pos) (tVar i):=pe_var hN hv hd hcd
end
theorem iteF {A B:Prop}(h:B):if false=true then A else B:=by
 rw[if_neg Bool.false_ne_true]
 exact h
theorem iteT {A B:Prop}(h:A):if true=true then A else B:=by
 rw[if_pos rfl]
 exact h
def Same (H H':Hp):Prop:=∀b o,H b=some o→H' b=some o
theorem Same.refl (H:Hp):Same H H:=fun _ _ h=>h
theorem Same.trans {H H1 H2:Hp}(a:Same H H1)(b:Same H1 H2):Same H H2:=fun c o h=>b c o (a c o h)
theorem Same.seq {K:PySem.W.Frag}{H H':Hp}{a:Addr}{xs:List V}(e:Same H H')(h:SqL K H a xs):SqL K H' a xs:=by
 rcases h with (h|⟨o,h⟩)|h
 ·exact .inl (.inl (e _ _ h))
 ·exact .inl (.inr ⟨o,e _ _ h⟩)
 ·exact .inr h
section
variable {κ:Type} [DecidableEq κ]
end
section
variable {X:Cx}
theorem op_isnot_bl:OpR X (compareOp .IsNot) (fun x y H Q=>∃a b,x=.bl a∧y=.bl b∧Q (.bl (a !=b)) H):=by
 intro pins s σ H x y v u Q I rx ry h
 obtain⟨a,b,rfl,rfl,q⟩:=h
 cases rx
 cases ry
 exact isnot_bool (fin_bl I q rfl)
def CDivB (_ j:Int):Prop:=0<j∧j<2^200
theorem noPy {i j:Int}(h:CDivB i j):Builtin.divisionGoesByPylong i j=false:=by
 refine PyProof.noPylong_of_log2 ?_
 obtain⟨h1,h2⟩:=h
 have h0:j.natAbs≠0:=by omega
 have h3:j.natAbs<2^200:=by omega
 have:=(Nat.log2_lt h0).mpr h3
 omega
theorem op_fdivB:OpR X (binaryOp .FloorDiv) (rI CDivB fun i j=> .int (i/j)):=opI fun i j _ _ _ _ _ hc q=>by
 have h1:(0:Int)<j:=hc.1
 exact floordiv_int (by omega) (by rw[Int.fdiv_eq_ediv_of_nonneg i (by omega)];exact q) (.inl (noPy hc))
inductive ClsV:V→Value→Prop where
 |ty (n:String):ClsV (.ty n) (.type n)
 |ref (C:Addr):ClsV (.ref C) (.ref C)
theorem call_isinst:CallR X (.builtin "isinstance") (fun xs H Q=>∃x y c t b,xs=[x,y]∧ClsV y c∧TyOf X.K H x t∧PySem.W.kitOne X.K t c=some b∧Q (.bl b) H):=by
 intro pins s σ H xs us Q I r h
 obtain⟨x,y,c,t,b,rfl,hy,ty,e,q⟩:=h
 obtain⟨u,w',rfl,rx,ry⟩:=vals2 r
 cases hy with
 |ty n=>
  cases(show w'=Value.type n from ry)
  exact isinst_ok I rx ty e fun tk=>⟨.bl b,H,I.tok _,rfl,q⟩
 |ref C=>
  cases(show w'=Value.ref C from ry)
  exact isinst_ok I rx ty e fun tk=>⟨.bl b,H,I.tok _,rfl,q⟩
end
theorem compLoop_go {prog:Program}{w:World}{A:Around}{R:Result→Shared→Prop}{s:Shared}{elt target iter:Expr}{ifs:List Expr}{scope:Scope}{pos:Pos}{it acc:Value}{env:Env}(I:Nat→Shared→Prop)(E:Value→Shared→Prop)
  (hE:∀e s',E e s'→notedBy (model prog w) A env (fun e s'=>R (.error e) s') e s')
  (turn:∀n s,I n s→wpAny (model prog w) A (pyNext it) (fun r s₁=>match r with
   |none=>R (.ok .next) s₁
   |some v=>wpAny (model prog w) A (letOwnedTupleGo target it v) (fun _ s₁'=>wpAny (model prog w) A (assign target env v) (fun _ s₂=>
     wpAny (model prog w) A (forIn ifs true fun c r=>if r=true then do let ok←isTrue c env (eval c env);pure (ForInStep.yield ok) else pure (ForInStep.yield r)) (fun ok s₃=>
      if ok=true then wpAny (model prog w) A (eval elt env) (fun x s₄=>
       wpAny (model prog w) A (call (.builtin "list.append") [acc,x]) (fun _ s₅=>∃m,m<n∧I m s₅) E s₄) E s₃
      else∃m,m<n∧I m s₃) E s₂) E s₁') E s₁) E s)
  (n:Nat) (h:I n s):codeAny (model prog w) A (.compLoop (.ListComp elt [⟨target,iter,ifs,0⟩] scope pos) 0 it acc env) R s:=by
 refine codeAny_loop rfl I (fun n s hI=>?_) n h
 show wpAny _ A ((compTurn (.ListComp elt [⟨target,iter,ifs,0⟩] scope pos) 0 it acc env).onRaise (fun x=>do noteFrame x env;theTreesLotGoes x)) _ _ s
 refine wpAny_noted ?_
 rw[compTurn_list]
 refine wpAny_bind (wpAny_standAt (wpAny_bind (wpAny_mono (turn n s hI) (fun r s₁ h₁=>?_) hE)))
 cases r with
 |none=>exact wpAny_pure h₁
 |some v=>
  refine wpAny_bind (wpAny_mono h₁ (fun _ s₁' h₁'=>?_) hE)
  refine wpAny_bind (wpAny_mono h₁' (fun _ s₂ h₂=>wpAny_bind (wpAny_mono h₂ (fun ok s₃ h₃=>?_) hE)) hE)
  cases ok with
  |false=>exact wpAny_pure ⟨rfl,h₃⟩
  |true=>
   exact wpAny_bind (wpAny_bind (wpAny_mono h₃ (fun x s₄ h₄=>wpAny_bind (wpAny_mono h₄ (fun _ s₅ h₅=>wpAny_pure (wpAny_pure ⟨rfl,h₅⟩)) hE)) hE))
theorem closure_key {env:Env}:∀(names:List (Str×NameKind)) (acc:List (Str×Addr)),(∀y∈names,y.2=.free→∃c,env.cells.lookup y.1=some c)→(∀x c,acc.lookup x=some c→env.cells.lookup x=some c)→
  ∃cl,(forIn names acc (fun(x:Str×NameKind) (r:List (Str×Addr))=>(if (x.2==NameKind.free)=true then (do let a←cellOf env x.1;pure (ForInStep.yield ((x.1,a)::r))) else pure (ForInStep.yield r):Sem (ForInStep (List (Str×Addr))))))=(pure cl:Sem (List (Str×Addr)))∧
   (∀x c,cl.lookup x=some c→env.cells.lookup x=some c)∧(∀x c,acc.lookup x=some c→∃c',cl.lookup x=some c')∧∀y∈names,y.2=.free→∃c,cl.lookup y.1=some c
 |[],acc,_,ha=>⟨acc,rfl,ha,fun x c e=>⟨c,e⟩,fun _ h=>nomatch h⟩
 |(n,k)::r,acc,hf,ha=>by
  have hf':∀y∈r,y.2=.free→∃c,env.cells.lookup y.1=some c:=fun y hy=>hf y (List.mem_cons_of_mem _ hy)
  by_cases hk:k=.free
  ·subst hk
   obtain⟨c,hc⟩:=hf (n,.free) List.mem_cons_self rfl
   have hc':env.cells.lookup n=some c:=hc
   have ha':∀x d,((n,c)::acc).lookup x=some d→env.cells.lookup x=some d:=fun x d e=>by
    rw[List.lookup_cons] at e
    cases hx:x==n with
    |true=>rw[hx] at e;cases e;rw[beq_iff_eq.mp hx];exact hc'
    |false=>rw[hx] at e;exact ha x d e
   obtain⟨cl,e,h1,h2,h3⟩:=closure_key r ((n,c)::acc) hf' ha'
   have hself:((n,c)::acc).lookup n=some c:=by rw[List.lookup_cons,beq_self_eq_true]
   refine⟨cl,?_,h1,fun x d ex=>?_,fun y hy hyf=>?_⟩
   ·rw[List.forIn_cons]
    have ec:cellOf env n=pure c:=by unfold cellOf;rw[hc']
    show((if (NameKind.free==NameKind.free)=true then (do let a←cellOf env n;pure (ForInStep.yield ((n,a)::acc))) else pure (ForInStep.yield acc):Sem _)>>=_)=_
    rw[if_pos (by decide),ec]
    exact e
   ·cases hx:x==n with
    |true=>rw[beq_iff_eq.mp hx];exact h2 n c hself
    |false=>exact h2 x d (by rw[List.lookup_cons,hx];exact ex)
   ·rcases List.mem_cons.mp hy with rfl|hy
    ·exact h2 n c hself
    ·exact h3 y hy hyf
  ·obtain⟨cl,e,h1,h2,h3⟩:=closure_key r acc hf' ha
   refine⟨cl,?_,h1,h2,fun y hy hyf=>?_⟩
   ·rw[List.forIn_cons]
    show((if (k==NameKind.free)=true then (do let a←cellOf env n;pure (ForInStep.yield ((n,a)::acc))) else pure (ForInStep.yield acc):Sem _)>>=_)=_
    rw[if_neg (by simpa using hk)]
    exact e
   ·rcases List.mem_cons.mp hy with rfl|hy
    ·exact absurd hyf hk
    ·exact h3 y hy hyf
theorem closure_ok {scope:Scope}{env:Env}(h:∀y∈scope.names,y.2=.free→∃c,env.cells.lookup y.1=some c):
  ∃cl,closureFor scope env=pure cl∧(∀x c,cl.lookup x=some c→env.cells.lookup x=some c)∧∀y∈scope.names,y.2=.free→∃c,cl.lookup y.1=some c:=by
 obtain⟨cl,e,h1,_,h3⟩:=closure_key (env:=env) scope.names [] h (fun x c e=>nomatch e)
 refine⟨cl,?_,h1,h3⟩
 have e0:closureFor scope env=((forIn scope.names [] (fun(x:Str×NameKind) (r:List (Str×Addr))=>(if (x.2==NameKind.free)=true then (do let a←cellOf env x.1;pure (ForInStep.yield ((x.1,a)::r))) else pure (ForInStep.yield r):Sem (ForInStep (List (Str×Addr))))))>>=fun r=>pure r):=rfl
 rw[e0,e]
 rfl
theorem relabel_free {env:Env}(hf:env.scope.kind=.function):∀{names:List (Str×NameKind)} {x:Str},names.lookup x=some .free→env.kindOf x=some .cell→
  (names.map fun(n,k)=>if (k==NameKind.free&&env.scope.kind==.function&&env.kindOf n==some .cell) then (n,NameKind.cell) else (n,k)).lookup x=some .cell
 |[],_,h,_=>by simp at h
 |(n,k)::r,x,h,hc=>by
  have ih:= @relabel_free env hf r x
  show List.lookup x ((if (k==NameKind.free&&env.scope.kind==.function&&env.kindOf n==some .cell)=true then (n,NameKind.cell) else (n,k))::_)=_
  cases hx:x==n with
  |true=>
   simp only[List.lookup_cons,hx] at h
   cases h
   have e:x=n:=beq_iff_eq.mp hx
   subst e
   rw[if_pos (by rw[hf,hc];decide)]
   simp only[List.lookup_cons,hx]
  |false=>
   simp only[List.lookup_cons,hx] at h
   by_cases hq:(k==NameKind.free&&env.scope.kind==.function&&env.kindOf n==some .cell)=true
   ·rw[if_pos hq];simp only[List.lookup_cons,hx];exact ih h hc
   ·rw[if_neg hq];simp only[List.lookup_cons,hx];exact ih h hc
theorem relabel_back {env:Env}:∀{names:List (Str×NameKind)} {x:Str} {k:NameKind},
  (names.map fun(n,k)=>if (k==NameKind.free&&env.scope.kind==.function&&env.kindOf n==some .cell) then (n,NameKind.cell) else (n,k)).lookup x=some k→∃k0,names.lookup x=some k0∧(k=k0∨k0=.free)
 |[],_,_,h=>by simp at h
 |(n,k1)::r,x,k,h=>by
  have h:List.lookup x ((if (k1==NameKind.free&&env.scope.kind==.function&&env.kindOf n==some .cell)=true then (n,NameKind.cell) else (n,k1))::(r.map fun(n,k)=>if (k==NameKind.free&&env.scope.kind==.function&&env.kindOf n==some .cell) then (n,NameKind.cell) else (n,k)))=some k:=h
  cases hx:x==n with
  |true=>
   by_cases hq:(k1==NameKind.free&&env.scope.kind==.function&&env.kindOf n==some .cell)=true
   ·have:k1=.free:=by
     rw[Bool.and_eq_true,Bool.and_eq_true] at hq
     simpa using hq.1.1
    exact⟨k1,by simp only[List.lookup_cons,hx],.inr this⟩
   ·rw[if_neg hq] at h
    simp only[List.lookup_cons,hx] at h
    exact⟨k1,by simp only[List.lookup_cons,hx],.inl (Option.some.inj h).symm⟩
  |false=>
   have h':(r.map fun(n,k)=>if (k==NameKind.free&&env.scope.kind==.function&&env.kindOf n==some .cell) then (n,NameKind.cell) else (n,k)).lookup x=some k:=by
    by_cases hq:(k1==NameKind.free&&env.scope.kind==.function&&env.kindOf n==some .cell)=true
    ·rw[if_pos hq] at h;simp only[List.lookup_cons,hx] at h;exact h
    ·rw[if_neg hq] at h;simp only[List.lookup_cons,hx] at h;exact h
   obtain⟨k0,e,z⟩:=relabel_back h'
   exact⟨k0,by simp only[List.lookup_cons,hx];exact e,z⟩
noncomputable def cxComp (X:Cx) (N:List Str) (scope:Scope) (cl:List (Str×Addr)) (C:Addr) (s:Shared) (H:Hp) (fp:List Addr):Cx:=
 {X with N:=N,s₀:=s,H₀:=H,env:=compEnvC scope cl C X.env,outer:=X.stack,ex:=fp,fn:=fun _=>false,pn:=[],xe:=fun _ _=>False}
structure CompOk (X:Cx) (scope:Scope) (ls ys:List Str) (ix:List Nat):Prop where
 kind:scope.kind=.function
 nocellB:(scope.names.all fun y=>y.2 !=.cell)=true
 locB:(scope.names.all fun y=>y.2 !=.local||scope.names.lookup y.1==some .local)=true
 freeB:(scope.names.all fun y=>y.2 !=.free||X.env.kindOf y.1==some .cell)=true
 ylkB:(ys.all fun y=>scope.names.lookup y==some .free)=true
 yix:ix.map (fun j=>X.N[j]?)=ys.map some
section
variable {X:Cx} {scope:Scope} {ls ys:List Str} {ix:List Nat}
theorem CompOk.nocell (ok:CompOk X scope ls ys ix):∀y∈scope.names,y.2≠.cell:=fun y hy=>by
 simpa using List.all_eq_true.mp ok.nocellB y hy
theorem CompOk.loc (ok:CompOk X scope ls ys ix):∀y∈scope.names,y.2=.local→scope.names.lookup y.1=some .local:=fun y hy e=>by
 have h:=List.all_eq_true.mp ok.locB y hy
 rw[e] at h
 simpa using h
theorem CompOk.free (ok:CompOk X scope ls ys ix):∀y∈scope.names,y.2=.free→X.env.kindOf y.1=some .cell:=fun y hy e=>by
 have h:=List.all_eq_true.mp ok.freeB y hy
 rw[e] at h
 simpa using h
theorem CompOk.ylk (ok:CompOk X scope ls ys ix):∀y∈ys,scope.names.lookup y=some .free:=fun y hy=>by
 simpa using List.all_eq_true.mp ok.ylkB y hy
end
noncomputable def inSt (n:Nat) (ix:List Nat) (σ:St):St:=List.replicate n none++ix.map fun j=>(σ[j]?).join
section
variable {X:Cx} {pins:List (Addr×Obj)} {σ:St} {H:Hp} {s:Shared} {scope:Scope} {ls ys:List Str} {ix:List Nat} {cl:List (Str×Addr)} {fp:List Addr}
theorem comp_in {h₁:Heap}{tk:Nat}{m:Str→Option Value}(I:Inv X pins σ H s)(ok:CompOk X scope ls ys ix)(hcl1:∀x c,cl.lookup x=some c→X.env.cells.lookup x=some c)
  (hcl2:∀y∈scope.names,y.2=.free→∃c,cl.lookup y.1=some c) (f3:∀b∈fp,FpOk X pins H b) (hob:∀b∈fp,b<s.heap.objs.size)
  (hns:h₁.Ns s.heap.objs.size m) (hk:∀b o,s.heap.get? b=some o→h₁.get? b=some o):
  Inv (cxComp X (ls++ys) scope cl s.heap.objs.size s H fp) [] (inSt ls.length ix σ) H {s with heap:=h₁,toks:=tk}:=by
 have hfree:∀x,scope.names.lookup x=some .free→X.env.kindOf x=some .cell:=fun x e=>ok.free (x,.free) (PySem.mem_of_lookup e) rfl
 refine⟨⟨I.ok.mod,ok.kind,I.ok.glob,I.ok.blt,Nat.le_refl _,fun x y c h1 h2=>I.ok.inj x y c (hcl1 x c h1) (hcl1 y c h2),fun x hx=>?_,fun x c hx _=>absurd hx Bool.false_ne_true,I.ok.hd,I.ok.frames,.inl rfl,
  fun b hb=>⟨Nat.ne_of_lt (hob b hb),fun x c e=>(f3 b hb).2.2.2.2.1 x c (hcl1 x c e)⟩,I.bs,Nat.le_trans I.ok.bsz I.sz,fun b o e hb=>?_,fun b hb z=>?_,I.stack,I.stkFree⟩,
  rfl,I.bare,Un.kept hk,⟨m,hns,fun i x v h1 h2 h3=>?_⟩,fun x c e=>?_,I.fresh,fun x c e=>I.freeC x c (hcl1 x c e),fun p hp=>absurd (show p∈([]:List (Addr×Obj)) from hp) (by simp),I.hok.kept hk,?_⟩
 ·have e:∃k,(relabel scope X.env).names.lookup x=some k∧(k=.cell∨k=.free):=by
   rcases hx with hx|hx
   ·exact⟨_,hx,.inl rfl⟩
   ·exact⟨_,hx,.inr rfl⟩
  obtain⟨k,e,hkk⟩:=e
  obtain⟨k0,e0,z⟩:=relabel_back e
  have hm:=PySem.mem_of_lookup e0
  have hk0:k0=.free:=by
   rcases z with z|z
   ·rcases hkk with q|q
    ·exact absurd (z.symm.trans q) (ok.nocell _ hm)
    ·exact z.symm.trans q
   ·exact z
  exact hcl2 _ hm hk0
 ·obtain⟨q1,q2,q3,q4,_⟩:=f3 b hb
  rcases q4 with q4|q4
  ·exact I.ok.noex b o e q4
  ·exact absurd (Nat.lt_of_lt_of_le (Heap.lt_size e) (Nat.le_trans I.ok.bsz q4)) (Nat.lt_irrefl _)
 ·rcases List.mem_cons.mp (I.stkSub b z) with q|q
  ·exact(f3 b hb).2.1 q
  ·exact(f3 b hb).2.2.1 q
 ·have h1:(ls++ys)[i]?=some x:=h1
  have h2:(List.replicate ls.length none++ix.map fun j=>(σ[j]?).join)[i]?=some (some v):=h2
  by_cases hi:i<ls.length
  ·rw[List.getElem?_append_left (by rw[List.length_replicate];exact hi),List.getElem?_replicate,if_pos hi] at h2
   cases h2
  ·rw[List.getElem?_append_right (by rw[List.length_replicate];omega),List.length_replicate,List.getElem?_map] at h2
   rw[List.getElem?_append_right (by omega)] at h1
   cases e:ix[i - ls.length]? with
   |none=>rw[e] at h2;cases h2
   |some j=>
    rw[e] at h2
    have h2:(σ[j]?).join=some v:=Option.some.inj h2
    have hσ:σ[j]?=some (some v):=by
     cases q:σ[j]? with
     |none=>rw[q] at h2;cases h2
     |some z=>rw[q] at h2;exact congrArg some h2
    have hN:X.N[j]?=some x:=by
     have q:=congrArg (fun l=>l[i - ls.length]?) ok.yix
     simp only[List.getElem?_map,e,h1,Option.map_some] at q
     exact Option.some.inj q
    have hl:=ok.ylk x (List.mem_of_getElem? h1)
    have hc:=hfree x hl
    obtain⟨m',hn',hl'⟩:=I.loc
    obtain⟨u,r,lk⟩:=hl' j x v hN hσ (.inr (.inl hc))
    refine⟨u,r,?_⟩
    rcases lk with ⟨lk,_⟩|⟨_,c,ec,z⟩
    ·rw[hc] at lk;cases lk
    ·obtain⟨c',ec'⟩:=hcl2 _ (PySem.mem_of_lookup hl) rfl
     have ec2:X.env.cells.lookup x=some c':=hcl1 x c' ec'
     rw[ec] at ec2
     cases ec2
     exact .inr ⟨.inl (relabel_free I.ok.kind hl hc),c,ec',z.keeps hk⟩
 ·obtain⟨v,z⟩:=I.cell x c (hcl1 x c e)
  exact⟨v,z.keeps hk⟩
 ·show(List.replicate ls.length none++ix.map fun j=>(σ[j]?).join).length=(ls++ys).length
  have q:=congrArg List.length ok.yix
  rw[List.length_map,List.length_map] at q
  rw[List.length_append,List.length_append,List.length_replicate,List.length_map,q]
end
def PF (X:Cx) (ifs:List Expr) (t:TT):Prop:=
 ∀(pins:List (Addr×Obj)) (s:Shared) (σ:St) (H:Hp) (Q:Bool→Hp→Prop),Inv X pins σ H s→t σ H Q→
  wpAny (model X.prog X.w) X.A (forIn ifs true fun c r=>if r=true then do let ok←isTrue c X.env (eval c X.env);pure (ForInStep.yield ok) else pure (ForInStep.yield r)) (TP X pins σ Q) X.xe s
def tYes:TT:=fun _ H Q=>Q true H
theorem pf_nil {X:Cx}:PF X [] tYes:=fun _ _ _ H _ I h=>wpAny_tests_nil ⟨H,I,h⟩
theorem pf_one {X:Cx}{c:Expr}{t:TT}(h:PT X c t):PF X [c] t:=fun pins s σ H Q I hw=>wpAny_tests_one (h pins s σ H Q I hw)
def lcW (σ0:St) (g:TG) (tt:TT) (te:TE) (J:It) (H1:Hp) (D:Addr) (Q:Hp→Prop):Prop:=
 ∃W:Nat→Nat→St→Hp→Prop,(∃m,W 0 m σ0 (upd H1 D (.lst [])))∧∀i m τ H,W i m τ H→
  (J.stop i H∧Q H)∨(J.go i H∧∃N:St→Hp→Prop,(∀τ' H',N τ' H'→∃m',m'<m∧W (i+1) m' τ' H')∧∀x H',J.yld i H x H'→g x τ H' fun τ2 H2=>tt τ2 H2 fun b H3=>
   if b=true then te τ2 H3 fun v H4=>∃acc,H4 D=some (.lst acc)∧acc.length<sizeLine∧N τ2 (upd H4 D (.lst (acc++[v]))) else N τ2 H3)
def tLc (wi:TI) (n:Nat) (ix:List Nat) (g:TG) (tt:TT) (te:TE):TE:=fun σ H Q=>wi σ H fun J H1=>∀D,H1 D=none→lcW (inSt n ix σ) g tt te J H1 D fun H'=>Q (.ref D) H'
def tLcSet (wi:TI) (n:Nat) (ix:List Nat) (g:TG) (tt:TT) (te:TE) (i:Nat):TS:=fun D σ H=>tLc wi n ix g tt te σ H fun x H1=>D.nx (σ.set i (some x)) H1
section
variable {X:Cx} {scope:Scope} {ls ys:List Str} {ix:List Nat} {tg iter elt:Expr} {ifs:List Expr} {pos:Pos} {wi:TI} {g:TG} {tt:TT} {te:TE}
theorem comp_run {pins:List (Addr×Obj)}{σ:St}{H1:Hp}{s:Shared}{J:It}{it:Addr}{fp:List Addr}{tn:Nat→Heap→Prop}{cl:List (Str×Addr)}{Q:Addr→Hp→Prop}{R:Value→Addr→Result→Shared→Prop}{E:Value→Shared→Prop}(hc:X.calm=true)
  (ok:CompOk X scope ls ys ix) (I:Inv X pins σ H1 s) (T:Turn X.prog X.w X.K tg J fp it tn) (st:tn 0 s.heap) (f2:∀b∈fp,FpOk X pins H1 b)
  (hcl1:∀x c,cl.lookup x=some c→X.env.cells.lookup x=some c) (hcl2:∀y∈scope.names,y.2=.free→∃c,cl.lookup y.1=some c)
  (hg:∀cl C s H fp,PG (cxComp X (ls++ys) scope cl C s H fp) tg g) (ht:∀cl C s H fp,PF (cxComp X (ls++ys) scope cl C s H fp) ifs tt) (he:∀cl C s H fp,PE (cxComp X (ls++ys) scope cl C s H fp) elt te)
  (hJ:∀D,H1 D=none→lcW (inSt ls.length ix σ) g tt te J H1 D (Q D))
  (hR:∀D C H' s',Q D H'→Inv X pins σ H' s'→H' C=none→FpOk X pins H' C→(∃m,s'.heap.Ns C m)→R (.ref D) C (.ok .next) s'):
  wpAny (model X.prog X.w) X.A (newList []) (fun acc s₃=>wpAny (model X.prog X.w) X.A (newFunctionEnv scope X.env.globals cl [] X.env.qual none .none (some X.env)) (fun cenv s₄=>
   codeAny (model X.prog X.w) X.A (.compStart (.ListComp elt [⟨tg,iter,ifs,0⟩] scope pos) 0 (.ref it) acc {cenv with scope:=relabel scope X.env}) (R acc cenv.locals) s₄) E s₃) E s:=by
 have hfp:∀b∈fp,b<s.heap.objs.size:=fun b hb=>by
  obtain⟨o,e,_⟩:=T.obj _ _ st b hb
  exact Heap.lt_size e
 have I3:=I.lnew (ys:=[]) (its:=[]) (t':=s.toks) .nil (Nat.zero_le _)
 have hD:H1 s.heap.objs.size=none:=I.fresh
 obtain⟨W,⟨m0,w0⟩,turn⟩:=hJ s.heap.objs.size hD
 refine wpAny_newObj_type (wpAny_newFunctionEnv ok.nocell (by intro y hy;simp at hy) (fun h₁ hns hsb=>?_) ok.kind)
 generalize hs3:({s with heap:=s.heap.push {cls:=.type "list",data:=.seq ([]:List Value).toArray},toks:=s.toks}:Shared)=s3 at I3
 have e3:s.heap.push {cls:=.type "list",dict:=none,data:=.seq ([]:List Value).toArray}=s3.heap:=by rw[←hs3]
 have e3':({s with heap:=s.heap.push {cls:=.type "list",dict:=none,data:=.seq ([]:List Value).toArray}}:Shared)=s3:=by rw[←hs3]
 generalize hH3:upd H1 s.heap.objs.size (.lst [])=H3 at I3 w0
 have hsz:s3.heap.objs.size=s.heap.objs.size+1:=by rw[←e3,Heap.size_push]
 have up3:∀b o,s.heap.get? b=some o→s3.heap.get? b=some o:=fun b o e=>by rw[←e3];exact Heap.get?_push_of_some _ e
 have f3:∀b∈fp,FpOk X pins H3 b:=fun b hb=>by
  refine⟨?_,(f2 b hb).2⟩
  rw[←hH3,upd_ne (Nat.ne_of_lt (hfp b hb))]
  exact(f2 b hb).1
 have hns:h₁.Ns s3.heap.objs.size (fun x=>([]:List (Str×Value)).reverse.lookup x):=by rw[←e3];exact hns
 have hsb:Heap.SameBut s3.heap.objs.size (s3.heap.push {cls:=.type (if (some X.env).isSome then "dict" else "frame"),data:=.dict #[]}) h₁:=by rw[←e3];exact hsb
 have up4:∀b o,s3.heap.get? b=some o→h₁.get? b=some o:=fun b o e=>hsb.extBut b o (Nat.ne_of_lt (Heap.lt_size e)) (Heap.get?_push_of_some _ e)
 have Ic:=comp_in (tk:=s3.toks) I3 ok hcl1 hcl2 f3 (fun b hb=>by rw[hsz];exact Nat.lt_succ_of_lt (hfp b hb)) hns up4
 have stat:∀{H':Hp} {pl:List (Addr×Obj)},(∀b∈fp,H' b=none)→pl=[]→∀b∈fp,FpOk (cxComp X (ls++ys) scope cl s3.heap.objs.size s3 H3 fp) pl H' b:=fun{H' pl} hn hpl b hb=>by
  subst hpl
  refine⟨hn b hb,Nat.ne_of_lt (by rw[show(cxComp X (ls++ys) scope cl s3.heap.objs.size s3 H3 fp).env.locals=s3.heap.objs.size from rfl,hsz];exact Nat.lt_succ_of_lt (hfp b hb)),Ic.ok.exfs b hb,.inl hb,fun x c e=>(f3 b hb).2.2.2.2.1 x c (hcl1 x c e),fun p hp=>absurd (show p∈([]:List (Addr×Obj)) from hp) (by simp)⟩
 have loop:codeAny (model X.prog X.w) X.A (.compLoop (.ListComp elt [⟨tg,iter,ifs,0⟩] scope pos) 0 (.ref it) (.ref s.heap.objs.size) (compEnvC scope cl s3.heap.objs.size X.env)) (R (.ref s.heap.objs.size) s3.heap.objs.size) {s3 with heap:=h₁,toks:=s3.toks}:=by
  refine compLoop_go (fun n s'=>∃i τ H',Inv (cxComp X (ls++ys) scope cl s3.heap.objs.size s3 H3 fp) [] τ H' s'∧tn i s'.heap∧(∀b∈fp,H' b=none)∧W i n τ H') (fun _ _=>False) (fun _ _ h=>h.elim) ?_ m0
   ⟨0,inSt ls.length ix σ,H3,Ic,T.keep _ _ _ st (fun b _ o e=>up4 b o (up3 b o e)),fun b hb=>(f3 b hb).1,w0⟩
  rintro n s4 ⟨i,τ,H4,I4,st4,fr4,w4⟩
  rcases turn i n τ H4 w4 with ⟨stop,qn⟩|⟨go,N,hN,step⟩
  ·refine thn (T.done (cxComp X (ls++ys) scope cl s3.heap.objs.size s3 H3 fp) rfl rfl rfl hc i [] s4 τ H4 (fun _ _=>False) I4 (stat fr4 rfl) st4 stop) fun r s5 ⟨hr,I5⟩=>?_
   subst hr
   have Io:Inv X pins σ H4 s5:=I3.call' (ch:=fp) I5.os I5.base I5.hok I5.bare fun b hb=>⟨(f3 b hb).2.2.2.1,(f3 b hb).2.1,(f3 b hb).2.2.2.2.1,(f3 b hb).2.2.2.2.2⟩
   obtain⟨m5,n5,_⟩:=I5.loc
   have hC:H4 s3.heap.objs.size=none:=I5.free
   exact hR _ _ H4 s5 qn Io hC (I3.fpOk (Nat.le_refl _) hC) ⟨m5,n5⟩
  ·refine thn (T.item (cxComp X (ls++ys) scope cl s3.heap.objs.size s3 H3 fp) rfl rfl rfl hc i [] s4 τ H4 (fun _ _=>False) I4 (stat fr4 rfl) st4 go) fun r s5 ⟨u,hr,h5⟩=>?_
   subst hr
   refine thn h5 fun _ s6 ⟨x,H6,I6,r6,y6,st6,fr6⟩=>?_
   have I6':=I6.pinned (stat fr6 rfl) (T.obj _ _ st6)
   have fin:∀{τ7:St} {H7:Hp} {s7:Shared},Inv (cxComp X (ls++ys) scope cl s3.heap.objs.size s3 H3 fp) ([]++pinsAt fp s6.heap) τ7 H7 s7→N τ7 H7→∃m,m<n∧∃i τ H',Inv (cxComp X (ls++ys) scope cl s3.heap.objs.size s3 H3 fp) [] τ H' s7∧tn i s7.heap∧(∀b∈fp,H' b=none)∧W i m τ H':=fun{τ7 H7 s7} I7 n7=>by
    obtain⟨m',hm,w7⟩:=hN τ7 H7 n7
    refine⟨m',hm,i+1,τ7,H7,I7.unpinned,T.keep _ _ _ st6 fun b hb o e=>(I7.pin (b,o) (List.mem_append_right _ (List.mem_append_right _ (mem_pinsAt hb e)))).1,fun b hb=>?_,w7⟩
    obtain⟨o,e,d⟩:=T.obj _ _ st6 b hb
    exact(I7.pin (b,o) (List.mem_append_right _ (List.mem_append_right _ (mem_pinsAt hb e)))).2.1
   refine thn (hg _ _ _ _ _ _ s6 τ H6 x u _ I6' r6 (step x H6 y6)) fun _ s7 ⟨τ7,H7,I7,q7⟩=>?_
   refine thn (ht _ _ _ _ _ _ s7 τ7 H7 _ I7 q7) fun b s8 ⟨H8,I8,q8⟩=>?_
   cases b with
   |false=>
    rw[if_neg Bool.false_ne_true] at q8⊢
    exact fin I8 q8
   |true=>
    rw[if_pos rfl] at q8⊢
    refine thn (he _ _ _ _ _ _ s8 τ7 H8 _ I8 q8) fun y s9 ⟨v,H9,I9,r9,acc,hacc,hlen,n9⟩=>?_
    exact thn (mt_append _ s9 τ7 H9 (.ref s.heap.objs.size) [v] (.ref s.heap.objs.size) [y] (fun _ H'=>N τ7 H') I9 rfl (.cons r9 .nil) ⟨_,acc,v,rfl,rfl,hacc,hlen,n9⟩) fun _ s10 ⟨_,H10,I10,_,n10⟩=>fin I10 n10
 exact codeAny_compStart_list loop (T.self _ 0 _ _ _ (T.keep _ _ _ st (fun b _ o e=>up4 b o (up3 b o e))) loop)
theorem pe_lc (hc:X.calm=true)(ok:CompOk X scope ls ys ix)(hi:PI X tg iter wi)
  (hg:∀cl C s H fp,PG (cxComp X (ls++ys) scope cl C s H fp) tg g) (ht:∀cl C s H fp,PF (cxComp X (ls++ys) scope cl C s H fp) ifs tt) (he:∀cl C s H fp,PE (cxComp X (ls++ys) scope cl C s H fp) elt te)
  (hs:∀x,foldedSetIterable iter X.env x=pure x:=by intro _;rfl):PE X (.ListComp elt [⟨tg,iter,ifs,0⟩] scope pos) (tLc wi ls.length ix g tt te):=by
 intro pins s σ H Q I h
 obtain⟨cl,hclos,hcl1,hcl2⟩:=closure_ok (scope:=scope) (env:=X.env) fun y hy hf=>I.ok.has y.1 (.inl (ok.free y hy hf))
 rw[eval_ListComp]
 refine wpAny_comprehension_free (use:=none) rfl hs hclos ok.kind ok.loc (thn (hi pins s σ H _ I h) fun v s1 h1=>thn h1 fun itv s2 h2=>?_)
 obtain⟨it,fp,tn,J,H2,rfl,I2,T,st2,f2,hJ⟩:=h2
 refine comp_run (R:=fun acc C=>compPost (model X.prog X.w) X.A X.xe none (EP X pins σ Q) acc C) hc ok I2 T st2 f2 hcl1 hcl2 hg ht he hJ fun D C H' s' q I' hC fC hm=>?_
 obtain⟨m,hn⟩:=hm
 refine⟨m,hn,fun h' hsb=>⟨.ref D,H',?_,rfl,q⟩⟩
 exact I'.turned (t':=s'.toks) (fun b o hb e=>(hsb.2 b hb).trans e) hC fC.2.1 fC.2.2.2.1 fC.2.2.2.2.1 fC.2.2.2.2.2
theorem ps_lcset {i:Nat}{x:Str}{spos px:Pos}(hc:X.calm=true)(hN:X.N.Nodup)(hxi:X.N[i]?=some x)(hx:Loc X.env.scope x)(ok:CompOk X scope ls ys ix)(hi:PI X tg iter wi)
  (hg:∀cl C s H fp,PG (cxComp X (ls++ys) scope cl C s H fp) tg g) (ht:∀cl C s H fp,PF (cxComp X (ls++ys) scope cl C s H fp) ifs tt) (he:∀cl C s H fp,PE (cxComp X (ls++ys) scope cl C s H fp) elt te)
  (hs:∀x,foldedSetIterable iter X.env x=pure x:=by intro _;rfl) (hsw:swapsWith (.ListComp elt [⟨tg,iter,ifs,0⟩] scope pos) (some (.Name x px)) spos.line X.env=pure true:=by rfl)
  (hf:X.fn x=true∨X.env.scope.names.lookup x=some .local:=by first|exact .inl rfl|exact .inr rfl|assumption):
  PS X (.Assign [.Name x px] (.ListComp elt [⟨tg,iter,ifs,0⟩] scope pos) spos) (tLcSet wi ls.length ix g tt te i):=by
 intro pins s σ H D I h
 obtain⟨cl,hclos,hcl1,hcl2⟩:=closure_ok (scope:=scope) (env:=X.env) fun y hy hf=>I.ok.has y.1 (.inl (ok.free y hy hf))
 rw[exec_Assign_Name_used _ _ _ _ hsw]
 refine wpAny_bind (wpAny_standAt (wpAny_bind ?_))
 show wpAny _ X.A (do let _←comprehension (.ListComp elt [⟨tg,iter,ifs,0⟩] scope pos) scope X.env _ (newList []) false (eval iter X.env) (some (assign (.Name x px) X.env))) _ _ s
 refine wpAny_bind (wpAny_mono (wpAny_comprehension_free (use:=some (assign (.Name x px) X.env)) (Q:=fun _ s'=>∃σ' H',Inv X pins σ' H' s'∧D.nx σ' H') rfl hs hclos ok.kind ok.loc
  (thn (hi pins s σ H _ I h) fun v s1 h1=>thn h1 fun itv s2 h2=>?_)) (fun _ s' hq=>wpAny_pure (wpAny_pure hq)) fun _ _ e=>e)
 obtain⟨it,fp,tn,J,H2,rfl,I2,T,st2,f2,hJ⟩:=h2
 refine comp_run (R:=fun acc C=>compPost (model X.prog X.w) X.A X.xe (some (assign (.Name x px) X.env)) (fun _ s'=>∃σ' H',Inv X pins σ' H' s'∧D.nx σ' H') acc C) hc ok I2 T st2 f2 hcl1 hcl2 hg ht he hJ fun Da C H' s' q I' hC fC hm=>?_
 obtain⟨m,hn⟩:=hm
 show wpAny _ X.A (assign (.Name x px) X.env (.ref Da)) _ _ s'
 refine wpAny_assign_Name (store_ok2 (v:=.ref Da) I' hN hxi hx rfl (fun s2 I3 hz=>?_) hf)
 obtain⟨a,sb,ha⟩:=hz
 have hCa:C≠a:=by
  rcases ha with ha|ha
  ·rw[ha];exact fC.2.1
  ·exact Ne.symm (fC.2.2.2.2.1 x a ha)
 refine⟨m,hn.sameBut sb hCa,fun h' hsb=>⟨_,H',?_,q⟩⟩
 exact I3.turned (t':=s2.toks) (fun b o hb e=>(hsb.2 b hb).trans e) hC fC.2.1 fC.2.2.2.1 fC.2.2.2.2.1 fC.2.2.2.2.2
end
def Ev (t:TE) (σ:St) (H:Hp) (v:V):Prop:=∀Q:VK,Q v H→t σ H Q
def EvT (t:TT) (σ:St) (H:Hp) (b:Bool):Prop:=∀Q:Bool→Hp→Prop,Q b H→t σ H Q
def EvA (t:TA) (σ:St) (H:Hp) (vs:List V):Prop:=∀Q:List V→Hp→Prop,Q vs H→t σ H Q
section
variable {σ:St} {H:Hp} {ta tb tc te:TE} {t u:TT} {i j k:Int} {a b c:Bool} {v x y:V} {K:PySem.W.Frag}
theorem ev_c:Ev (tC v) σ H v:=fun _ q=>q
theorem ev_var {n:Nat}(h:σ[n]?=some (some v)):Ev (tVar n) σ H v:=fun _ q=>⟨v,h,q⟩
theorem ev_I0 {g:Int→Int→V}(ha:Ev ta σ H (.int i))(hb:Ev tb σ H (.int j)):Ev (tOp (rI0 g) ta tb) σ H (g i j):=fun _ q=>ha _ (hb _ ⟨i,j,rfl,rfl,q⟩)
theorem ev_I {C:Int→Int→Prop}{g:Int→Int→V}(ha:Ev ta σ H (.int i))(hb:Ev tb σ H (.int j))(hc:C i j):Ev (tOp (rI C g) ta tb) σ H (g i j):=fun _ q=>ha _ (hb _ ⟨i,j,rfl,rfl,hc,q⟩)
theorem ev_eqI (ha:Ev ta σ H (.int i))(hb:Ev tb σ H (.int j)):Ev (tOp rEq ta tb) σ H (.bl (decide (i=j))):=fun Q q=>ha _ (hb _ ⟨rfl,by
 have e:decide (V.int i=V.int j)=decide (i=j):=by rw[dec_int];rfl
 rw[e];exact q⟩)
theorem ev_neI (ha:Ev ta σ H (.int i))(hb:Ev tb σ H (.int j)):Ev (tOp rNe ta tb) σ H (.bl (!decide (i=j))):=fun Q q=>ha _ (hb _ ⟨rfl,by
 have e:decide (V.int i=V.int j)=decide (i=j):=by rw[dec_int];rfl
 rw[e];exact q⟩)
theorem ev_chain {p q:Int→Int→Bool}(ha:Ev ta σ H (.int i))(hb:Ev tb σ H (.int j))(hc:Ev tc σ H (.int k)):Ev (tChain (rI0 fun i j=> .bl (p i j)) (rI0 fun i j=> .bl (q i j)) ta tb tc) σ H (.bl (p i j&&q j k)):=fun Q z=>by
 refine ha _ (hb _ ⟨i,j,rfl,rfl,p i j,rfl,?_⟩)
 cases e:p i j with
 |true=>rw[if_pos rfl];rw[e,Bool.true_and] at z;exact hc _ ⟨j,k,rfl,rfl,z⟩
 |false=>rw[if_neg Bool.false_ne_true];rw[e,Bool.false_and] at z;exact z
theorem ev_and (ha:Ev ta σ H (.bl a))(hb:a=true→Ev tb σ H (.bl b)):Ev (tAndV ta tb) σ H (.bl (a&&b)):=fun Q z=>by
 refine ha _ ⟨a,rfl,?_⟩
 cases a with
 |true=>rw[if_pos rfl];exact hb rfl _ z
 |false=>rw[if_neg Bool.false_ne_true];exact z
theorem ev_or (ha:Ev ta σ H (.bl a))(hb:a=false→Ev tb σ H (.bl b)):Ev (tOrV ta tb) σ H (.bl (a||b)):=fun Q z=>by
 refine ha _ ⟨a,rfl,?_⟩
 cases a with
 |true=>rw[if_pos rfl];exact z
 |false=>rw[if_neg Bool.false_ne_true];exact hb rfl _ z
theorem ev_ixT {p:Addr}{xs:List V}(ha:Ev ta σ H (.ref p))(hb:Ev tb σ H (.int i))(hs:SqT K H p xs)(he:atI xs i=some v):Ev (tOp (rIxT K) ta tb) σ H v:=fun _ q=>ha _ (hb _ ⟨p,xs,i,v,rfl,rfl,hs,he,q⟩)
theorem ev_ixL {p:Addr}{xs:List V}(ha:Ev ta σ H (.ref p))(hb:Ev tb σ H (.int i))(hs:SqL K H p xs)(he:atI xs i=some v):Ev (tOp (rIxL K) ta tb) σ H v:=fun _ q=>ha _ (hb _ ⟨p,xs,i,v,rfl,rfl,hs,he,q⟩)
theorem ev_ltT {p q:Addr}{ns ms:List Int}(ha:Ev ta σ H (.ref p))(hb:Ev tb σ H (.ref q))(h1:SqT K H p (ns.map V.int))(h2:SqT K H q (ms.map V.int)):Ev (tOp (rLtT K) ta tb) σ H (.bl (HT.lexLt ns ms)):=fun _ z=>ha _ (hb _ ⟨p,q,ns,ms,rfl,rfl,h1,h2,z⟩)
theorem ev_isN (ha:Ev ta σ H x)(hb:Ev tb σ H .non):Ev (tOp (fun x y H Q=>y=.non∧Q (.bl (decide (x=.non))) H) ta tb) σ H (.bl (decide (x=.non))):=fun _ z=>ha _ (hb _ ⟨rfl,z⟩)
theorem ev_cb {r:List V→Hp→VK→Prop}{vs:List V}{t:TA}(ha:EvA t σ H vs)(hs:∀Q:VK,Q v H→r vs H Q):Ev (tCB r t) σ H v:=fun Q q=>ha _ (hs Q q)
theorem ea_nil:EvA tNil σ H []:=fun _ q=>q
theorem ea_cons {t:TA}{vs:List V}(ha:Ev ta σ H v)(hr:EvA t σ H vs):EvA (tCons ta t) σ H (v::vs):=fun _ q=>ha _ (hr _ q)
theorem et_test (h:Ev te σ H (.bl b)):EvT (tTest te) σ H b:=fun _ q=>h _ ⟨b,rfl,q⟩
theorem et_B (h:Ev te σ H (.bl b)):EvT (tB te) σ H b:=fun _ q=>h _ ⟨b,rfl,q⟩
theorem et_not (h:EvT t σ H b):EvT (tNot t) σ H (!b):=fun _ q=>h _ q
theorem et_and (ha:EvT t σ H a)(hb:a=true→EvT u σ H b):EvT (tAnd t u) σ H (a&&b):=fun Q z=>by
 refine ha _ ?_
 cases a with
 |true=>rw[if_pos rfl];exact hb rfl _ z
 |false=>rw[if_neg Bool.false_ne_true];exact z
theorem et_or (ha:EvT t σ H a)(hb:a=false→EvT u σ H b):EvT (tOr t u) σ H (a||b):=fun Q z=>by
 refine ha _ ?_
 cases a with
 |true=>rw[if_pos rfl];exact z
 |false=>rw[if_neg Bool.false_ne_true];exact hb rfl _ z
theorem rd_if {tc:TT}{t u:TS}{D:Ends}(h:EvT tc σ H b)(h1:b=true→t D σ H)(h2:b=false→u D σ H):tIfS tc t u D σ H:=by
 refine h _ ?_
 cases b with
 |true=>rw[if_pos rfl];exact h1 rfl
 |false=>rw[if_neg Bool.false_ne_true];exact h2 rfl
theorem rd_ifF {tc:TT}{t u:TS}{D:Ends}(h:EvT tc σ H b)(hb:b=false)(h2:u D σ H):tIfS tc t u D σ H:=rd_if h (fun e=>absurd (hb.symm.trans e) Bool.false_ne_true) fun _=>h2
theorem rd_ret {D:Ends}(h:Ev te σ H v)(q:D.rt v H):tRet te D σ H:=h _ q
end
theorem cmR {i j:Int}(h1: -(2^64)<j)(h2:j<2^64):CMul i j:=.inr ⟨h1,h2⟩
theorem cmL {i j:Int}(h1: -(2^64)<i)(h2:i<2^64):CMul i j:=.inl ⟨h1,h2⟩
theorem cdB {i j:Int}(h1:0<j)(h2:j<2^200):CDivB i j:=⟨h1,h2⟩
theorem cpw {i j:Int}(h1:0≤j)(h2:j≤1000000)(h3:i.natAbs<2^64):CPow i j:=⟨h1,h2,h3⟩
theorem bt_len:bootBuiltins "len" =some (.builtin "len"):=by decide+kernel
theorem bt_isinstance:bootBuiltins "isinstance" =some (.builtin "isinstance"):=by decide+kernel
theorem bt_bool:bootBuiltins "bool" =some (.type "bool"):=by decide+kernel
theorem bt_tuple:bootBuiltins "tuple" =some (.type "tuple"):=by decide+kernel
theorem bt_list:bootBuiltins "list" =some (.type "list"):=by decide+kernel
theorem bt_dict:bootBuiltins "dict" =some (.type "dict"):=by decide+kernel
theorem bt_set:bootBuiltins "set" =some (.type "set"):=by decide+kernel
theorem bt_min:bootBuiltins "min" =some (.builtin "min"):=by decide+kernel
theorem bt_any:bootBuiltins "any" =some (.builtin "any"):=by decide+kernel
theorem bt_all:bootBuiltins "all" =some (.builtin "all"):=by decide+kernel
theorem bt_sorted:bootBuiltins "sorted" =some (.builtin "sorted"):=by decide+kernel
theorem bt_zip:bootBuiltins "zip" =some (.type "zip"):=by decide+kernel
theorem st {t:TS}{D:Ends}{σ:St}{H:Hp}{r:VK}{b c:St→Hp→Prop}(h:t D σ H):({nx:=t D,rt:=r,bk:=b,ct:=c}:Ends).nx σ H:=h
section
variable {σ:St} {H:Hp} {te:TE} {tc:TT} {t u:TS} {ta:TA} {D:Ends} {b:Bool} {v:V} {vs:List V} {n:Nat} {K:PySem.W.Frag}
theorem sq_set (h:Ev te σ H v)(q:u D (σ.set n (some v)) H):tSeq (tAsg te (gName n)) u D σ H:=h _ q
theorem sq_ifF (h:EvT tc σ H b)(hb:b=false)(q:u D σ H):tSeq (tIfS tc t tNext) u D σ H:=rd_ifF (D:={D with nx:=u D}) h hb q
theorem sq_if (h:EvT tc σ H b)(h1:b=true→t {D with nx:=u D} σ H)(h2:b=false→u D σ H):tSeq (tIfS tc t tNext) u D σ H:=rd_if (D:={D with nx:=u D}) h h1 h2
theorem sq_un3 {p:Addr}{x y z:V}{i j k:Nat}(h:Ev te σ H (.ref p))(hs:SqT K H p [x,y,z])(q:u D (((σ.set i (some x)).set j (some y)).set k (some z)) H):
  tSeq (tAsg te (gTup K 3 (gCons (gName i) (gCons (gName j) (gCons (gName k) gNil))))) u D σ H:=h _ ⟨p,_,rfl,hs,rfl,_,_,rfl,_,_,rfl,_,_,rfl,rfl,q⟩
theorem if_of {tc:TT}{t u:TS}(q:tc σ H fun b H1=>if b=true then t D σ H1 else u D σ H1):tIfS tc t u D σ H:=q
theorem sq_ifof (q:tc σ H fun b H1=>if b=true then t {D with nx:=u D} σ H1 else u D σ H1):tSeq (tIfS tc t tNext) u D σ H:=q
theorem gn {Q:St→Hp→Prop}(q:Q (σ.set n (some v)) H):gName n v σ H Q:=q
end
structure Callee (P:Program) (w:World) (K:PySem.W.Frag) (mg:Str→Option Value) (base:Heap) (x:Str) (k:Nat) (ps:List Str) (sp:Sp):Prop where
 ex:∃f fd,FnOk P w K mg base CX0 k f fd ps sp∧mg x=some (.ref f)∧PySem.W.keepIn K (.ref f)=true∧Binds K fd ps []
theorem pe_cal {X:Cx}{x:Str}{k:Nat}{ps:List Str}{sp:Sp}{p pos:Pos}{e:Expr}{es:List Expr}{t:TA}(C:Callee X.prog X.w X.K X.mg X.base x k ps sp)(hr:Room k X.A)(hg:Gl X x)(ha:PA X (e::es) t)
  (hdb:(x==("__debug__" :Str))=false:=by decide) (he:starEach (e::es) X.env=(false,eval e X.env)::starEach es X.env:=by rfl) (hpl:(backTo pos (starEach es X.env)).any (·.1)=false:=by rfl):
  PE X (.Call (.Name x p) (e::es) [] pos) (tCall sp [] E0 t):=by
 obtain⟨f,fd,G,hm,hk,hb⟩:=C.ex
 exact pe_call G hr hg hm hk hb .nil pass0 ha hdb he hpl
theorem SqT.same {K:PySem.W.Frag}{H H':Hp}{a:Addr}{xs:List V}(e:Same H H')(h:SqT K H a xs):SqT K H' a xs:=by
 rcases h with (h|⟨o,h⟩)|h
 ·exact .inl (.inl (e _ _ h))
 ·exact .inl (.inr ⟨o,e _ _ h⟩)
 ·exact .inr h
theorem Same.upd {H H':Hp}(e:Same H H'){p:Addr}{o:HO}(hp:H' p=none):Same H (upd H' p o):=fun b u h=>by
 rw[upd_ne (ne_of_none (e b u h) hp)]
 exact e b u h
section
variable {X:Cx} {tg:Expr}
end
theorem lc_listG {K:PySem.W.Frag}{a:Addr}{xs:List V}{σ0:St}{g:TG}{tt:TT}{te:TE}{H1:Hp}{D:Addr}{Q:Hp→Prop}(Pv:Nat→St→Hp→Prop)(h0:Pv 0 σ0 (upd H1 D (.lst [])))
  (hl:∀i τ H,i≤xs.length→Pv i τ H→SqL K H a xs)
  (hs:∀i x τ H,xs[i]?=some x→Pv i τ H→g x τ H fun τ2 H2=>tt τ2 H2 fun b H3=>
   if b=true then te τ2 H3 fun v H4=>∃acc,H4 D=some (.lst acc)∧acc.length<sizeLine∧Pv (i+1) τ2 (upd H4 D (.lst (acc++[v]))) else Pv (i+1) τ2 H3)
  (hd:∀τ H,Pv xs.length τ H→Q H):lcW σ0 g tt te (Itl K a) H1 D Q:=by
 refine⟨fun i m τ H=>m=xs.length - i∧i≤xs.length∧Pv i τ H,⟨xs.length,by simp,Nat.zero_le _,h0⟩,?_⟩
 rintro i m τ H ⟨rfl,hi,p⟩
 have q:=hl i τ H hi p
 by_cases hlt:i<xs.length
 ·refine .inr ⟨⟨xs,xs[i],q,by simp[hlt]⟩,Pv (i+1),fun τ' H' p'=>⟨xs.length - (i+1),by omega,rfl,hlt,p'⟩,fun x H' y=>?_⟩
  obtain⟨e,y⟩:=y
  subst e
  exact hs i x τ _ (y xs q) p
 ·have e:i=xs.length:=by omega
  subst e
  exact .inl ⟨⟨xs,q,Nat.le_refl _⟩,hd τ H p⟩
structure FlyT (h:Heap) (a T:Addr) (cls:Value):Prop where
 ex:∃(oe:Obj) (vs:Array Value) (oT:Obj) (ts:Array Value) (a0:Value),h.get? a=some oe∧oe.cls=cls∧vs[0]?=some a0∧oe.data=.fields vs∧vs[1]?=some (.ref T)∧T≠a∧h.get? T=some oT∧oT.data=.fields ts∧ts[3]?=some .none
noncomputable def CX1 (P:Program) (w:World):CXT:=fun outer H s E e s'=>∃(a T:Addr) (C:Value) (H':Hp),e=.ref a∧s'.os=s.os∧AllBare s'.gens∧Un (frs outer) [] H H' s.heap s'.heap∧HOk P w H' s'.heap∧
 H' a=none∧H' T=none∧s.heap.get? a=none∧s.heap.get? T=none∧FlyT s'.heap a T C∧E C none H'
theorem ObjOk.there {P:Program}{w:World}{H:Hp}{h:Heap}{a:Addr}{o:HO}(x:ObjOk P w H h a o):∃ob,h.get? a=some ob:=by
 cases o with
 |lst xs=>obtain⟨_,_,_,_,e⟩:=x;exact⟨_,e⟩
 |tup xs=>obtain⟨_,_,_,ob,e,_⟩:=x;exact⟨_,e⟩
 |dK kvs=>obtain⟨_,_,_,_,o,_,_,e,_⟩:=x;exact⟨_,e⟩
 |dT kvs=>obtain⟨_,_,_,_,o,_,_,e,_⟩:=x;exact⟨_,e⟩
 |set S n=>obtain⟨o,_,_,_,e,_⟩:=x;exact⟨_,e⟩
 |ins C dx fs=>obtain⟨_,_,_,e,_⟩:=x;exact⟨_,e⟩
 |own y=>exact x
 |xd fs=>obtain⟨_,⟨_,_,_,e,_⟩,_⟩:=x;exact⟨_,e⟩
 |rng lo hi=>obtain⟨_,_,_,e⟩:=x;exact⟨_,e⟩
 |frz ob u=>obtain⟨e,_⟩:=x;exact⟨_,e⟩
 |tbl ps=>exact⟨_,(show h.get? a=some _ from x)⟩
 |met f y=>exact⟨_,(show h.get? a=some _ from x)⟩
 |ext φ=>exact x.2.1
theorem HOk.none_of {P:Program}{w:World}{H:Hp}{h:Heap}{a:Addr}(x:HOk P w H h)(e:h.get? a=none):H a=none:=by
 cases q:H a with
 |none=>rfl
 |some u=>
  obtain⟨o,z⟩:=(x a u q).there
  rw[e] at z;cases z
section
variable {P:Program} {w:World} {K:PySem.W.Frag} {mg:Str→Option Value} {base:Heap} {N:List Str} {qual:Str} {scope:Scope} {f:Addr} {cd:Value} {A:Around} {outer:List Env} {s₀:Shared} {H₀:Hp} {E:XK}
abbrev cx1 (P:Program) (w:World) (K:PySem.W.Frag) (mg:Str→Option Value) (base:Heap) (N:List Str) (qual:Str) (scope:Scope) (f:Addr) (cd:Value) (A:Around) (outer:List Env) (s₀:Shared) (H₀:Hp) (E:XK):Cx:=
 cxOf (CX1 P w) P w K mg base N qual scope f cd A outer s₀ H₀ E
end
section
variable {X:Cx}
end
section
variable {P:Program} {w:World} {K:PySem.W.Frag} {mg:Str→Option Value} {base:Heap} {N:List Str} {qual:Str} {scope:Scope} {f:Addr} {cd:Value} {A:Around} {outer:List Env} {s₀:Shared} {H₀:Hp} {E:XK}
end
section
variable {P:Program} {w:World} {K:PySem.W.Frag} {mg:Str→Option Value} {base:Heap}
end
section
variable {X:Cx} {pins:List (Addr×Obj)} {σ:St} {H:Hp} {s:Shared}
end
section
variable {X:Cx}
end
end L2
namespace L2
open PySem PySem.Spec PyProof.Rows
open PySem.W (Looks)
open Builtin Builtin.ObjectAttr Builtin.Getset_descriptor
section
variable {prog:Program} {w:World} {A:Around} {E:Value→Shared→Prop} {K:PySem.W.Frag} {C a:Addr} {h:Heap} {g:Array GenState} {d:Drawn} {t:Nat} {os:OsState} {o:Obj}
end
section
variable {X:Cx}
end
section
variable {X:Cx}
theorem vals_refs:∀{cs:List Addr} {us:List Value},Vals (cs.map V.ref) us→us=cs.map Value.ref
 |[],_,.nil=>rfl
 |_::_,_,.cons r t=>by rw[vals_refs t];cases(show _=Value.ref _ from r);rfl
theorem pe_globC {x:Str}{C:Addr}{pos:Pos}(hg:Gl X x)(hm:X.mg x=some (.ref C))(hd:(x==("__debug__" :Str))=false:=by decide):PE X (.Name x pos) (tC (.ref C)):=pe_glob hg hm rfl hd
theorem ev_U {ta:TE}{σ:St}{H:Hp}{i:Int}{g:Int→V}(ha:Ev ta σ H (.int i)):Ev (tUn (rU g) ta) σ H (g i):=fun _ q=>ha _ ⟨i,rfl,q⟩
theorem sq_asg {te:TE}{u:TS}{D:Ends}{σ:St}{H:Hp}{n:Nat}(q:te σ H fun v H1=>u D (σ.set n (some v)) H1):tSeq (tAsg te (gName n)) u D σ H:=q
end
structure MCallee (P:Program) (w:World) (K:PySem.W.Frag) (mg:Str→Option Value) (base:Heap) (C:Addr) (m:Str) (k:Nat) (ps:List Str) (sp:Sp):Prop where
 ex:∃f fd,FnOk P w K mg base CX0 k f fd ps sp∧Meth K C m f∧Binds K fd ps []
structure KCallee (P:Program) (w:World) (K:PySem.W.Frag) (mg:Str→Option Value) (base:Heap) (C:Addr) (x:Str) (k:Nat) (ps:List Str) (sp:Sp):Prop where
 ex:∃f fd,FnOk P w K mg base CX0 k f fd ps sp∧Mk K C f∧mg x=some (.ref C)∧Binds K fd ps []
section
variable {X:Cx} {C:Addr} {k:Nat} {ps:List Str} {sp:Sp} {x m:Str} {p pos apos:Pos} {e o:Expr} {es:List Expr} {ta:TE} {t:TA}
theorem pe_met {pl:Sem Bool}(he:PE X o ta)(c:Cls X.K C)(G:MCallee X.prog X.w X.K X.mg X.base C m k ps sp)(hr:Room k X.A)(ha:PA X (e::es) t)
  (hst:starEach (e::es) X.env=(false,eval e X.env)::starEach es X.env:=by rfl) (hpl:(backTo pos (starEach es X.env)).any (·.1)=false:=by rfl)
  (ht:eval (.Call (.Attribute o m apos) (e::es) [] pos) X.env=(do
   let ov←eval o X.env
   standAt apos.atName
   let (f,first)←holding [ov] (getMethod ov m pl)
   callWith pos f first (backTo pos (starEach (e::es) X.env)) (backToKw pos (keywordEach [] X.env))):=by rfl):
  PE X (.Call (.Attribute o m apos) (e::es) [] pos) (tMeth C m sp [] E0 ta t):=by
 obtain⟨f,fd,F,hm,hb⟩:=G.ex
 exact pe_meth (pl:=pl) he c hm F hr hb .nil pass0 ha hst hpl ht
theorem pe_met0 {pl:Sem Bool}(he:PE X o ta)(c:Cls X.K C)(G:MCallee X.prog X.w X.K X.mg X.base C m k ps sp)(hr:Room k X.A)
  (ht:eval (.Call (.Attribute o m apos) [] [] pos) X.env=(do
   let ov←eval o X.env
   standAt apos.atName
   let (f,first)←holding [ov] (getMethod ov m pl)
   callWith pos f first (backTo pos (starEach [] X.env)) (backToKw pos (keywordEach [] X.env))):=by rfl):
  PE X (.Call (.Attribute o m apos) [] [] pos) (tMeth C m sp [] E0 ta tNil):=by
 obtain⟨f,fd,F,hm,hb⟩:=G.ex
 exact pe_meth0 (pl:=pl) he c hm F hr hb .nil pass0 ht
theorem pe_mk (G:KCallee X.prog X.w X.K X.mg X.base C x k ps sp)(hr:Room (k+1) X.A)(hg:Gl X x)(ha:PA X (e::es) t)(hdb:(x==("__debug__" :Str))=false:=by decide)
  (he:starEach (e::es) X.env=(false,eval e X.env)::starEach es X.env:=by rfl) (hpl:(backTo pos (starEach es X.env)).any (·.1)=false:=by rfl):PE X (.Call (.Name x p) (e::es) [] pos) (tMake C sp [] E0 t):=by
 obtain⟨f,fd,F,M,hm,hb⟩:=G.ex
 exact pe_make M F hr hg hm hb .nil pass0 ha hdb he hpl
end
theorem lc_el {te:TE}{τ:St}{H:Hp}{R:VK}{N:Hp→Prop}(h:te τ H R):tYes τ H fun b H3=>if b=true then te τ H3 R else N H3:=by
 show if true=true then te τ H R else N H
 rw[if_pos rfl]
 exact h
section
variable {σ:St} {H:Hp} {tc:TT} {te:TE} {t u v:TS} {D:Ends} {a b:Bool}
theorem sq_ife (h:EvT tc σ H b)(h1:b=true→t {D with nx:=v D} σ H)(h2:b=false→u {D with nx:=v D} σ H):tSeq (tIfS tc t u) v D σ H:=by
 refine h _ ?_
 cases b with
 |true=>rw[if_pos rfl];exact h1 rfl
 |false=>rw[if_neg Bool.false_ne_true];exact h2 rfl
theorem sq_ifR (J:St→Hp→Prop)(h:EvT tc σ H b)(h1:b=true→∀R:St→Hp→Prop,(∀σ H,J σ H→R σ H)→t {D with nx:=R} σ H)(h2:b=false→∀R:St→Hp→Prop,(∀σ H,J σ H→R σ H)→u {D with nx:=R} σ H)
  (hv:∀σ H,J σ H→v D σ H):tSeq (tIfS tc t u) v D σ H:=sq_ife h (fun e=>h1 e _ hv) fun e=>h2 e _ hv
end
theorem bt_reversed:bootBuiltins "reversed" =some (.type "reversed"):=by decide+kernel
section
variable {X:Cx} {Ex:St→Value→Hp→Prop} {C:Addr} {k:Nat} {f:Addr} {fd:FuncData} {ps:List Str} {sp:Sp} {x m:Str} {p pos apos:Pos} {e o:Expr} {es:List Expr} {ta:TE} {t:TA}
end
end L2
namespace L2
open PySem PySem.W PyProof.Rows
noncomputable def evT {α:Type} (lt:Nat→Nat→Bool):KasT α→α
 | .ret a=>a
 | .ask i j k=>evT lt (k (lt i j))
theorem evT_bind {α β:Type}{lt:Nat→Nat→Bool}{f:α→KasT β}:∀t:KasT α,evT lt (t.bind f)=evT lt (f (evT lt t))
 | .ret _=>rfl
 | .ask i j k=>evT_bind (k (lt i j))
inductive AskE (lt:Nat→Nat→Bool) (n:Nat):{α:Type}→KasT α→Prop where
 |ret {α:Type} (a:α):AskE lt n (KasT.ret a)
 |ask {α:Type} {i j:Nat} {k:Bool→KasT α}:i<n→j<n→AskE lt n (k (lt i j))→AskE lt n (.ask i j k)
theorem AskE.bind {lt:Nat→Nat→Bool}{n:Nat}{α β:Type}{f:α→KasT β}:∀{t:KasT α},AskE lt n t→AskE lt n (f (evT lt t))→AskE lt n (t.bind f)
 | .ret _,_,hf=>hf
 | .ask _ _ _,.ask h1 h2 h3,hf=> .ask h1 h2 (AskE.bind h3 hf)
theorem kas_ev {α:Type}{lt:Nat→Nat→Bool}{n:Nat}{cmp:Nat→Nat→(Bool→Shared→Prop)→Shared→Prop}{I:Shared→Prop}{Q:α→Shared→Prop}(hc:∀i j C s,i<n→j<n→I s→(∀s',I s'→C (lt i j) s')→cmp i j C s):
  ∀{t:KasT α} {s:Shared},AskE lt n t→I s→(∀s',I s'→Q (evT lt t) s')→t.kasWp cmp Q s
 | .ret a,s,_,hs,hq=>hq s hs
 | .ask i j k,s,.ask h1 h2 h3,hs,hq=>hc i j _ s h1 h2 hs fun s' hs'=>kas_ev hc h3 hs' hq
section
variable {O:KeyOrd} (key:Nat→O.α)
def kA (p:Array Nat) (k:Nat):O.α:=key (p.getD k 0)
def Up (p:Array Nat) (n:Nat):Prop:=∀i j,i≤j→j<n→O.kle (kA key p i) (kA key p j)
def Dn (p:Array Nat) (n:Nat):Prop:=∀i j,i≤j→j<n→O.kle (kA key p j) (kA key p i)
abbrev ltK (i j:Nat):Bool:=O.blt (key i) (key j)
def PermN (n:Nat) (p:Array Nat):Prop:=p.Perm (List.toArray (List.range n))
variable {key}
theorem PermN.size {n:Nat}{p:Array Nat}(h:PermN n p):p.size=n:=by
 have:=h.size_eq
 simpa using this
theorem PermN.lt {n:Nat}{p:Array Nat}(h:PermN n p)(k:Nat)(hk:k<n):p.getD k 0<n:=by
 have hz:=h.size
 have hm:p[k]'(by omega)∈p:=Array.getElem_mem _
 have:=(h.mem_iff).mp hm
 rw[Array.getD_eq_getD_getElem?,Array.getElem?_eq_getElem (by omega)]
 simpa using this
theorem getD_rev {p:Array Nat}{i j:Nat}(hj:j≤p.size)(k:Nat):(kas_rev p i j).getD k 0=if i≤k∧k<j then p.getD (i+j - 1 - k) 0 else p.getD k 0:=by
 unfold kas_rev
 rw[Array.getD_eq_getD_getElem?,getElem?_mirror_all hj]
 split<;>rw[Array.getD_eq_getD_getElem?]
theorem PermN.rev {n:Nat}{p:Array Nat}(h:PermN n p)(i j:Nat):PermN n (kas_rev p i j):=(mirror_perm p i j _).trans h
theorem kA_rev {p:Array Nat}{i j:Nat}(hj:j≤p.size)(he:∀k,i≤k→k<j→kA key p k=kA key p (j - 1))(k:Nat):kA key (kas_rev p i j) k=kA key p k:=by
 unfold kA at he⊢
 rw[getD_rev hj]
 split
 ·next h=>rw[he k h.1 h.2,he _ (by omega) (by omega)]
 ·rfl
theorem Up.snoc {p:Array Nat}{n:Nat}(h:Up key p n)(hn:1≤n)(hl:O.kle (kA key p (n - 1)) (kA key p n)):Up key p (n+1):=fun i j hij hj=>by
 by_cases e:j=n
 ·subst e
  by_cases e2:i=j
  ·subst e2;exact KeyOrd.kle_refl _
  ·exact KeyOrd.kle_trans (h i (j - 1) (by omega) (by omega)) hl
 ·exact h i j hij (by omega)
theorem Dn.snoc {p:Array Nat}{n:Nat}(h:Dn key p n)(hn:1≤n)(hl:O.kle (kA key p n) (kA key p (n - 1))):Dn key p (n+1):=fun i j hij hj=>by
 by_cases e:j=n
 ·subst e
  by_cases e2:i=j
  ·subst e2;exact KeyOrd.kle_refl _
  ·exact KeyOrd.kle_trans hl (h i (j - 1) (by omega) (by omega))
 ·exact h i j hij (by omega)
theorem Dn.of_keys {p q:Array Nat}{n:Nat}(h:Dn key p n)(e:∀k,kA key q k=kA key p k):Dn key q n:=fun i j hij hj=>by rw[e,e];exact h i j hij hj
theorem Dn.turn {p:Array Nat}{n:Nat}(h:Dn key p n)(hn:n≤p.size):Up key (kas_rev p 0 n) n:=fun i j hij hj=>by
 unfold kA
 rw[getD_rev hn,getD_rev hn,if_pos ⟨Nat.zero_le _,by omega⟩,if_pos ⟨Nat.zero_le _,by omega⟩]
 exact h _ _ (by omega) (by omega)
theorem asc_ok {N:Nat}{p:Array Nat}(hp:PermN N p):∀(f n:Nat),1≤n→n+f≤N→Up key p n→AskE (ltK key) N (kas_asc p f n)∧
  n≤evT (ltK key) (kas_asc p f n)∧evT (ltK key) (kas_asc p f n)≤n+f∧Up key p (evT (ltK key) (kas_asc p f n))∧(evT (ltK key) (kas_asc p f n)<n+f→ltK key (p.getD (evT (ltK key) (kas_asc p f n)) 0) (p.getD (evT (ltK key) (kas_asc p f n) - 1) 0)=true)
 |0,n,_,_,h=>⟨.ret _,Nat.le_refl _,Nat.le_refl _,h,fun z=>absurd z (Nat.lt_irrefl _)⟩
 |f+1,n,h1,hn,h=>by
  cases e:ltK key (p.getD n 0) (p.getD (n - 1) 0) with
  |true=>
   have ev:evT (ltK key) (kas_asc p (f+1) n)=n:=by
    show evT (ltK key) (if ltK key (p.getD n 0) (p.getD (n - 1) 0)=true then KasT.ret n else kas_asc p f (n+1))=n
    rw[e,if_pos rfl];rfl
   refine⟨.ask (hp.lt n (by omega)) (hp.lt (n - 1) (by omega)) ?_,?_⟩
   ·rw[e,if_pos rfl];exact .ret _
   ·rw[ev];exact⟨Nat.le_refl _,by omega,h,fun _=>e⟩
  |false=>
   have ev:evT (ltK key) (kas_asc p (f+1) n)=evT (ltK key) (kas_asc p f (n+1)):=by
    show evT (ltK key) (if ltK key (p.getD n 0) (p.getD (n - 1) 0)=true then KasT.ret n else kas_asc p f (n+1))=_
    rw[e,if_neg Bool.false_ne_true]
   obtain⟨a1,a2,a3,a4,a5⟩:=asc_ok hp f (n+1) (by omega) (by omega) (h.snoc h1 e)
   refine⟨.ask (hp.lt n (by omega)) (hp.lt (n - 1) (by omega)) ?_,?_⟩
   ·rw[e,if_neg Bool.false_ne_true];exact a1
   ·rw[ev];exact⟨by omega,by omega,a4,fun z=>a5 (by omega)⟩
theorem desc_ok {N:Nat}:∀(f:Nat) (p:Array Nat) (n q:Nat),PermN N p→q+1≤n→n+f≤N→Dn key p n→(∀k,n - (q+1)≤k→k<n→kA key p k=kA key p (n - 1))→
  AskE (ltK key) N (kas_desc f p n q)∧∀r,evT (ltK key) (kas_desc f p n q)=r→PermN N r.1∧n≤r.2.1∧r.2.1≤n+f∧r.2.2+1≤r.2.1∧Dn key r.1 r.2.1∧(∀k,r.2.1 - (r.2.2+1)≤k→k<r.2.1→kA key r.1 k=kA key r.1 (r.2.1 - 1))
 |0,p,n,q,hp,hq,hn,h,he=>⟨.ret _,fun r e=>by cases e;exact⟨hp,Nat.le_refl _,Nat.le_refl _,hq,h,he⟩⟩
 |f+1,p,n,q,hp,hq,hn,h,he=>by
  have hz:=hp.size
  have i1:=hp.lt n (by omega)
  have i2:=hp.lt (n - 1) (by omega)
  have un:evT (ltK key) (kas_desc (f+1) p n q)=evT (ltK key) (if ltK key (p.getD n 0) (p.getD (n - 1) 0)=true then (if q>0 then kas_desc f (kas_rev p (n - (q+1)) n) (n+1) 0 else kas_desc f p (n+1) 0)
    else .ask (p.getD (n - 1) 0) (p.getD n 0) fun d=>if d=true then .ret (p,n,q) else kas_desc f p (n+1) (q+1)):=rfl
  have last1:∀(p':Array Nat) (k:Nat),n+1 - (0+1)≤k→k<n+1→kA key p' k=kA key p' (n+1 - 1):=fun p' k h1 h2=>by
   have:k=n+1 - 1:=by omega
   rw[this]
  cases e:ltK key (p.getD n 0) (p.getD (n - 1) 0) with
  |true=>
   have hs:Dn key p (n+1):=h.snoc (by omega) (KeyOrd.kle_of_klt e)
   by_cases hq0:q>0
   ·have ek:=kA_rev (p:=p) (i:=n - (q+1)) (j:=n) (by omega) he
    obtain⟨a1,a2⟩:=desc_ok f (kas_rev p (n - (q+1)) n) (n+1) 0 (hp.rev _ _) (by omega) (by omega) (hs.of_keys ek) (last1 _)
    refine⟨.ask i1 i2 ?_,fun r er=>?_⟩
    ·rw[e,if_pos rfl,if_pos hq0];exact a1
    ·rw[un,e,if_pos rfl,if_pos hq0] at er
     obtain⟨b1,b2,b3,b4,b5,b6⟩:=a2 r er
     exact⟨b1,by omega,by omega,b4,b5,b6⟩
   ·obtain⟨a1,a2⟩:=desc_ok f p (n+1) 0 hp (by omega) (by omega) hs (last1 _)
    refine⟨.ask i1 i2 ?_,fun r er=>?_⟩
    ·rw[e,if_pos rfl,if_neg hq0];exact a1
    ·rw[un,e,if_pos rfl,if_neg hq0] at er
     obtain⟨b1,b2,b3,b4,b5,b6⟩:=a2 r er
     exact⟨b1,by omega,by omega,b4,b5,b6⟩
  |false=>
   cases e2:ltK key (p.getD (n - 1) 0) (p.getD n 0) with
   |true=>
    refine⟨.ask i1 i2 ?_,fun r er=>?_⟩
    ·rw[e,if_neg Bool.false_ne_true]
     refine .ask i2 i1 ?_
     rw[e2,if_pos rfl];exact .ret _
    ·rw[un,e,if_neg Bool.false_ne_true] at er
     have er:evT (ltK key) (if ltK key (p.getD (n - 1) 0) (p.getD n 0)=true then KasT.ret (p,n,q) else kas_desc f p (n+1) (q+1))=r:=er
     rw[e2,if_pos rfl] at er
     cases er
     exact⟨hp,Nat.le_refl _,(show n≤n+(f+1) by omega),hq,h,he⟩
   |false=>
    have eqk:kA key p n=kA key p (n - 1):=O.total _ _ e e2
    have hs:Dn key p (n+1):=h.snoc (by omega) (by rw[eqk];exact KeyOrd.kle_refl _)
    obtain⟨a1,a2⟩:=desc_ok f p (n+1) (q+1) hp (by omega) (by omega) hs fun k h1 h2=>by
     by_cases ek:k=n
     ·rw[ek];rfl
     ·rw[he k (by omega) (by omega)];exact eqk.symm
    refine⟨.ask i1 i2 ?_,fun r er=>?_⟩
    ·rw[e,if_neg Bool.false_ne_true]
     refine .ask i2 i1 ?_
     rw[e2,if_neg Bool.false_ne_true];exact a1
    ·rw[un,e,if_neg Bool.false_ne_true] at er
     have er:evT (ltK key) (if ltK key (p.getD (n - 1) 0) (p.getD n 0)=true then KasT.ret (p,n,q) else kas_desc f p (n+1) (q+1))=r:=er
     rw[e2,if_neg Bool.false_ne_true] at er
     obtain⟨b1,b2,b3,b4,b5,b6⟩:=a2 r er
     exact⟨b1,by omega,by omega,b4,b5,b6⟩
def RunOk (key:Nat→O.α) (N:Nat) (r:Nat×Array Nat):Prop:=PermN N r.2∧1≤r.1∧r.1≤N∧Up key r.2 r.1
theorem tail3_ok {N n:Nat}{p:Array Nat}(hp:PermN N p)(h1:1≤n)(hn:n≤N)(h:Dn key p n):AskE (ltK key) N (kas_tail3 n N p)∧RunOk key N (evT (ltK key) (kas_tail3 n N p)):=by
 have hz:=hp.size
 obtain⟨a1,a2,a3,a4,_⟩:=asc_ok (hp.rev 0 n) (N - n) n h1 (by omega) (h.turn (by omega))
 unfold kas_tail3
 refine⟨a1.bind (.ret _),?_⟩
 rw[evT_bind]
 exact⟨hp.rev 0 n,by show 1≤evT _ _;omega,by show evT _ _≤N;omega,a4⟩
theorem descPart_ok {N n:Nat}{p:Array Nat}(hp:PermN N p)(hn:n+1≤N)(h:Dn key p (n+1)):AskE (ltK key) N (kas_descPart n N p)∧RunOk key N (evT (ltK key) (kas_descPart n N p)):=by
 obtain⟨a1,a2⟩:=desc_ok (N - (n+1)) p (n+1) 0 hp (by omega) (by omega) h fun k h1 h2=>by
  have:k=n+1 - 1:=by omega
  rw[this]
 obtain⟨b1,b2,b3,b4,b5,b6⟩:=a2 _ rfl
 unfold kas_descPart
 rw[evT_bind]
 revert b1 b2 b3 b4 b5 b6 a1
 generalize hR:evT (ltK key) (kas_desc (N - (n+1)) p (n+1) 0)=r
 intro a1 b1 b2 b3 b4 b5 b6
 have hz:=b1.size
 by_cases hq:r.2.2>0
 ·have ek:=kA_rev (p:=r.1) (i:=r.2.1 - (r.2.2+1)) (j:=r.2.1) (by omega) b6
  obtain⟨c1,c2⟩:=tail3_ok (b1.rev (r.2.1 - (r.2.2+1)) r.2.1) (by omega) (by omega) (b5.of_keys ek)
  refine⟨a1.bind ?_,?_⟩
  ·rw[hR,if_pos hq];exact c1
  ·rw[if_pos hq];exact c2
 ·obtain⟨c1,c2⟩:=tail3_ok b1 (by omega) (by omega) b5
  refine⟨a1.bind ?_,?_⟩
  ·rw[hR,if_neg hq];exact c1
  ·rw[if_neg hq];exact c2
theorem count_ok {N:Nat}{p:Array Nat}(hp:PermN N p)(h1:1≤N):AskE (ltK key) N (kas_count N p)∧RunOk key N (evT (ltK key) (kas_count N p)):=by
 have hz:=hp.size
 have u1:Up key p 1:=fun i j hij hj=>by
  have:i=j:=by omega
  subst this;exact KeyOrd.kle_refl _
 obtain⟨a1,a2,a3,a4,a5⟩:=asc_ok hp (N - 1) 1 (Nat.le_refl _) (by omega) u1
 unfold kas_count
 rw[evT_bind]
 revert a1 a2 a3 a4 a5
 generalize hR:evT (ltK key) (kas_asc p (N - 1) 1)=n
 intro a1 a2 a3 a4 a5
 have fin:∀{t:KasT (Nat×Array Nat)},(AskE (ltK key) N t∧RunOk key N (evT (ltK key) t))→∀{g:Nat→KasT (Nat×Array Nat)},g n=t→AskE (ltK key) N ((kas_asc p (N - 1) 1).bind g)∧RunOk key N (evT (ltK key) (g n)):=fun{t} ht {g} eg=>by
  refine⟨a1.bind ?_,?_⟩
  ·rw[hR,eg];exact ht.1
  ·rw[eg];exact ht.2
 by_cases hN:n=N
 ·exact fin (t:=.ret (n,p)) ⟨.ret _,hp,(show 1≤n by omega),(show n≤N by omega),a4⟩ (if_pos (by simp[hN]))
 ·have hlt:=a5 (by omega)
  by_cases hn1:n>1
  ·cases e:ltK key (p.getD 0 0) (p.getD (n - 1) 0) with
   |true=>
    refine fin ⟨.ask (hp.lt 0 (by omega)) (hp.lt (n - 1) (by omega)) ?_,?_⟩ (by rw[if_neg (by simp[hN]),if_pos hn1])
    ·rw[e,if_pos rfl];exact .ret _
    ·show RunOk key N (evT (ltK key) (if ltK key (p.getD 0 0) (p.getD (n - 1) 0)=true then _ else _))
     rw[e,if_pos rfl];exact⟨hp,by show 1≤n;omega,by show n≤N;omega,a4⟩
   |false=>
    have ea:∀k,0≤k→k<n→kA key p k=kA key p (n - 1):=fun k _ hk=>by
     have g1:O.kle (kA key p k) (kA key p (n - 1)):=a4 k (n - 1) (by omega) (by omega)
     have g2:O.kle (kA key p 0) (kA key p k):=a4 0 k (by omega) hk
     exact KeyOrd.kle_antisymm g1 (KeyOrd.kle_trans e g2)
    have ek:=kA_rev (p:=p) (i:=0) (j:=n) (by omega) ea
    have dn:Dn key p (n+1):=by
     have d0:Dn key p n:=fun i j hij hj=>by rw[ea i (by omega) (by omega),ea j (by omega) hj];exact KeyOrd.kle_refl _
     exact d0.snoc (by omega) (KeyOrd.kle_of_klt hlt)
    obtain⟨c1,c2⟩:=descPart_ok (hp.rev 0 n) (by omega) (dn.of_keys ek)
    refine fin ⟨.ask (hp.lt 0 (by omega)) (hp.lt (n - 1) (by omega)) ?_,?_⟩ (by rw[if_neg (by simp[hN]),if_pos hn1])
    ·rw[e,if_neg Bool.false_ne_true];exact c1
    ·show RunOk key N (evT (ltK key) (if ltK key (p.getD 0 0) (p.getD (n - 1) 0)=true then _ else _))
     rw[e,if_neg Bool.false_ne_true];exact c2
  ·have en:n=1:=by omega
   have dn:Dn key p (n+1):=by
    have d0:Dn key p n:=fun i j hij hj=>by
     have:i=j:=by omega
     subst this;exact KeyOrd.kle_refl _
    exact d0.snoc (by omega) (KeyOrd.kle_of_klt hlt)
   exact fin (descPart_ok hp (by omega) dn) (by rw[if_neg (by simp[hN]),if_neg hn1])
theorem place_ok {N k:Nat}{p:Array Nat}(hp:PermN N p)(hk:k<N)(hu:Up key p k):∀(f l r:Nat),l≤r→r≤k→r - l≤f→(∀i,i<l→O.kle (kA key p i) (kA key p k))→(∀i,r≤i→i<k→O.klt (kA key p k) (kA key p i))→
  AskE (ltK key) N (kas_place p k f l r)∧∀v,evT (ltK key) (kas_place p k f l r)=v→v≤k∧(∀i,i<v→O.kle (kA key p i) (kA key p k))∧(∀i,v≤i→i<k→O.klt (kA key p k) (kA key p i))
 |0,l,r,hlr,hrk,hf,h1,h2=>⟨.ret _,fun v e=>by
   cases e
   exact⟨(show l≤k by omega),h1,fun i hi=>h2 i (by have:l≤i:=hi;omega)⟩⟩
 |f+1,l,r,hlr,hrk,hf,h1,h2=>by
  by_cases hge:l≥r
  ·have eq:kas_place p k (f+1) l r=.ret l:=if_pos hge
   rw[eq]
   exact⟨.ret _,fun v e=>by cases e;exact⟨(show l≤k by omega),h1,fun i hi=>h2 i (by have:l≤i:=hi;omega)⟩⟩
  ·have eq:kas_place p k (f+1) l r=.ask (p.getD k 0) (p.getD ((l+r)/2) 0) fun c=>if c=true then kas_place p k f l ((l+r)/2) else kas_place p k f ((l+r)/2+1) r:=if_neg hge
   rw[eq]
   have hm:(l+r)/2<k:=by omega
   cases e:ltK key (p.getD k 0) (p.getD ((l+r)/2) 0) with
   |true=>
    obtain⟨a1,a2⟩:=place_ok hp hk hu f l ((l+r)/2) (by omega) (by omega) (by omega) h1 fun i hi hik=>KeyOrd.klt_of_klt_of_kle e (hu _ i hi hik)
    refine⟨.ask (hp.lt k hk) (hp.lt _ (by omega)) (by rw[e,if_pos rfl];exact a1),fun v ev=>a2 v ?_⟩
    have ev:evT (ltK key) (if ltK key (p.getD k 0) (p.getD ((l+r)/2) 0)=true then _ else _)=v:=ev
    rw[e,if_pos rfl] at ev
    exact ev
   |false=>
    obtain⟨a1,a2⟩:=place_ok hp hk hu f ((l+r)/2+1) r (by omega) hrk (by omega) (fun i hi=>KeyOrd.kle_trans (hu i ((l+r)/2) (by omega) hm) e) h2
    refine⟨.ask (hp.lt k hk) (hp.lt _ (by omega)) (by rw[e,if_neg Bool.false_ne_true];exact a1),fun v ev=>a2 v ?_⟩
    have ev:evT (ltK key) (if ltK key (p.getD k 0) (p.getD ((l+r)/2) 0)=true then _ else _)=v:=ev
    rw[e,if_neg Bool.false_ne_true] at ev
    exact ev
theorem getD_bubble {p:Array Nat}{k l:Nat}(hk:k<p.size)(hl:l≤k)(i:Nat):(bubble p k (k - l)).getD i 0=if i=l then p.getD k 0 else if l<i∧i≤k then p.getD (i - 1) 0 else p.getD i 0:=by
 rw[Array.getD_eq_getD_getElem?,getElem?_bubble hk (k - l) (by omega),show k - (k - l)=l by omega]
 simp only[Array.getD_eq_getD_getElem?]
 repeat' split
 all_goals rfl
theorem Up.bubble {N k l:Nat}{p:Array Nat}(hp:PermN N p)(hk:k<N)(hl:l≤k)(hu:Up key p k)(h1:∀i,i<l→O.kle (kA key p i) (kA key p k))(h2:∀i,l≤i→i<k→O.klt (kA key p k) (kA key p i)):Up key (bubble p k (k - l)) (k+1):=fun i j hij hj=>by
 have hz:=hp.size
 have e:∀i,kA key (PyProof.Rows.bubble p k (k - l)) i=if i=l then kA key p k else if l<i∧i≤k then kA key p (i - 1) else kA key p i:=fun i=>by
  unfold kA
  rw[getD_bubble (by omega) hl]
  repeat' split
  all_goals rfl
 rw[e,e]
 by_cases c1:i=l<;>by_cases c2:j=l
 ·rw[if_pos c1,if_pos c2];exact KeyOrd.kle_refl _
 ·rw[if_pos c1,if_neg c2,if_pos (by omega)];exact KeyOrd.kle_of_klt (h2 _ (by omega) (by omega))
 ·rw[if_neg c1,if_pos c2,if_neg (by omega)];exact h1 i (by omega)
 ·rw[if_neg c1,if_neg c2]
  by_cases d1:l<i∧i≤k
  ·rw[if_pos d1,if_pos (by omega)];exact hu _ _ (by omega) (by omega)
  ·rw[if_neg d1]
   by_cases d2:l<j∧j≤k
   ·rw[if_pos d2];exact hu _ _ (by omega) (by omega)
   ·rw[if_neg d2];exact hu _ _ hij (by omega)
theorem bin_ok {N:Nat}:∀(f:Nat) (p:Array Nat) (k:Nat),PermN N p→k+f=N→1≤k→Up key p k→AskE (ltK key) N (kas_bin f p k)∧PermN N (evT (ltK key) (kas_bin f p k))∧Up key (evT (ltK key) (kas_bin f p k)) N
 |0,p,k,hp,hk,_,hu=>⟨.ret _,hp,by rw[show N=k by omega];exact hu⟩
 |f+1,p,k,hp,hk,h1,hu=>by
  obtain⟨a1,a2⟩:=place_ok hp (by omega) hu k 0 k (Nat.zero_le _) (Nat.le_refl _) (by omega) (fun i hi=>absurd hi (Nat.not_lt_zero _)) fun i hi hik=>absurd hik (by omega)
  obtain⟨b1,b2,b3⟩:=a2 _ rfl
  unfold kas_bin
  rw[evT_bind]
  have hb:PermN N (bubble p k (k - evT (ltK key) (kas_place p k k 0 k))):=(bubble_perm _ _ _).trans hp
  obtain⟨c1,c2,c3⟩:=bin_ok f _ (k+1) hb (by omega) (by omega) (hu.bubble hp (by omega) b1 b2 b3)
  exact⟨a1.bind c1,c2,c3⟩
theorem sort_ok {N:Nat}(h1:1≤N):AskE (ltK key) N (kas_sort N)∧PermN N (evT (ltK key) (kas_sort N))∧Up key (evT (ltK key) (kas_sort N)) N:=by
 obtain⟨a1,a2,a3,a4,a5⟩:=count_ok (key:=key) (p:=List.toArray (List.range N)) (Array.Perm.refl _) h1
 unfold kas_sort
 rw[evT_bind]
 revert a1 a2 a3 a4 a5
 generalize hR:evT (ltK key) (kas_count N (List.toArray (List.range N)))=r
 intro a1 a2 a3 a4 a5
 by_cases h:r.1<N
 ·obtain⟨c1,c2,c3⟩:=bin_ok (N - max r.1 1) r.2 (max r.1 1) a2 (by omega) (by omega) (by rw[show max r.1 1=r.1 by omega];exact a5)
  refine⟨a1.bind (by rw[hR,if_pos h];exact c1),?_⟩
  rw[if_pos h];exact⟨c2,c3⟩
 ·refine⟨a1.bind (by rw[hR,if_neg h];exact .ret _),?_⟩
  rw[if_neg h]
  exact⟨a2,by rw[show N=r.1 by omega];exact a5⟩
end
end L2
namespace L2
open PySem PySem.Spec PyProof.Rows
mutual
inductive Dp (K:PySem.W.Frag) (H:Hp):V→PyData→Prop
 |non:Dp K H .non .none
 |bl (b:Bool):Dp K H (.bl b) (.bool b)
 |int (i:Int):Dp K H (.int i) (.int i)
 |str (x:Str) (h:PyData.strOk x=true):Dp K H (.str x) (.str x)
 |tup {a:Addr} {xs:List V} {ds:List PyData} (h:SqT K H a xs) (r:Dps K H xs ds):Dp K H (.ref a) (.tuple ds)
 |lst {a:Addr} {xs:List V} {ds:List PyData} (h:SqL K H a xs) (r:Dps K H xs ds):Dp K H (.ref a) (.list ds)
inductive Dps (K:PySem.W.Frag) (H:Hp):List V→List PyData→Prop
 |nil:Dps K H [] []
 |cons {x:V} {xs:List V} {d:PyData} {ds:List PyData} (h:Dp K H x d) (r:Dps K H xs ds):Dps K H (x::xs) (d::ds)
end
mutual
theorem Dp.lay {K:PySem.W.Frag}{H:Hp}:∀{v:V} {d:PyData},Dp K H v d→d.canLay0=true
 |_,_,.non=>rfl
 |_,_,.bl _=>rfl
 |_,_,.int _=>rfl
 |_,_,.str _ h=>by simpa[PyData.canLay0] using h
 |_,_,.tup _ r=>by simpa[PyData.canLay0] using r.lay
 |_,_,.lst _ r=>by simpa[PyData.canLay0] using r.lay
theorem Dps.lay {K:PySem.W.Frag}{H:Hp}:∀{xs:List V} {ds:List PyData},Dps K H xs ds→PyData.canLayAll0 ds=true
 |_,_,.nil=>by simp[PyData.canLayAll0]
 |_,_,.cons h r=>by simp[PyData.canLayAll0,h.lay,r.lay]
end
mutual
theorem Dp.reads {X:Cx}{pins:List (Addr×Obj)}{σ:St}{H:Hp}{s:Shared}(I:Inv X pins σ H s):∀{v:V} {d:PyData} {u:Value},Dp X.K H v d→RelV v u→∃as,Reads s.heap u d as
 |_,_,_,.non,r=>by cases(show _=Value.none from r);exact⟨_,.none⟩
 |_,_,_,.bl b,r=>by cases(show _=Value.bool b from r);exact⟨_,.bool b⟩
 |_,_,_,.int i,r=>by obtain⟨t,rfl⟩:=r;exact⟨_,.int i t⟩
 |_,_,_,.str x _,r=>by obtain⟨t,rfl⟩:=r;exact⟨_,.str x t⟩
 |_,_,_,.tup (a:=a) h rs,r=>by
  cases(show _=Value.ref a from r)
  obtain⟨its,rv,⟨o,ho,hc,n,hd⟩,_⟩:=I.tuple h
  obtain⟨as,ra⟩:=Dps.reads I rs rv
  exact⟨_,.tuple ho hc hd (by simpa using ra)⟩
 |_,_,_,.lst (a:=a) h rs,r=>by
  cases(show _=Value.ref a from r)
  obtain⟨its,rv,pl,_⟩:=I.list h
  obtain⟨o,ho,hc,n,hd⟩:=pl.isList
  obtain⟨as,ra⟩:=Dps.reads I rs rv
  exact⟨_,.list ho hc hd (by simpa using ra)⟩
theorem Dps.reads {X:Cx}{pins:List (Addr×Obj)}{σ:St}{H:Hp}{s:Shared}(I:Inv X pins σ H s):∀{xs:List V} {ds:List PyData} {us:List Value},Dps X.K H xs ds→Vals xs us→∃as,ReadsAll s.heap us ds as
 |_,_,_,.nil,.nil=>⟨_,.nil⟩
 |_,_,_,.cons h rs,.cons r rr=>by
  obtain⟨as,ra⟩:=Dp.reads I h r
  obtain⟨bs,rb⟩:=Dps.reads I rs rr
  exact⟨_,.cons ra rb⟩
end
section
variable {X:Cx}
def rNeD (K:PySem.W.Frag):R2:=fun x y H Q=>∃d e,Dp K H x d∧Dp K H y e∧d.depth≤60∧Q (.bl (!PyData.eqv d e)) H
theorem op_neD {k:Nat}(hr:Room k X.A):OpR X (compareOp .NotEq) (rNeD X.K):=by
 intro pins s σ H x y v u Q I rx ry h
 obtain⟨d,e,h1,h2,hd,q⟩:=h
 obtain⟨as,r1⟩:=h1.reads I rx
 obtain⟨bs,r2⟩:=h2.reads I ry
 have:=hr.units
 exact SeqAt.compareNe_reads r1 r2 h1.lay h2.lay (by omega) ⟨.bl _,H,I,rfl,q⟩
end
mutual
theorem eqv_refl:∀{d:PyData},d.canLay0=true→PyData.eqv d d=true
 | .none,_=>by simp[PyData.eqv]
 | .bool _,_=>by simp[PyData.eqv]
 | .int _,_=>by simp[PyData.eqv]
 | .str _,_=>by simp[PyData.eqv]
 | .list xs,h=>by simp only[PyData.eqv];exact eqvAll_refl (by simpa[PyData.canLay0] using h)
 | .tuple xs,h=>by simp only[PyData.eqv];exact eqvAll_refl (by simpa[PyData.canLay0] using h)
 | .dict _,h=>by simp[PyData.canLay0] at h
theorem eqvAll_refl:∀{ds:List PyData},PyData.canLayAll0 ds=true→PyData.eqvAll ds ds=true
 |[],_=>by simp[PyData.eqvAll]
 |d::r,h=>by
  have h':d.canLay0=true∧PyData.canLayAll0 r=true:=by simpa[PyData.canLayAll0] using h
  simp only[PyData.eqvAll,eqv_refl h'.1,eqvAll_refl h'.2,Bool.and_self]
end
theorem dps_ints {K:PySem.W.Frag}{H:Hp}:∀(ns:List Int),Dps K H (ns.map V.int) (ns.map PyData.int)
 |[]=> .nil
 |n::r=> .cons (.int n) (dps_ints r)
theorem Dp.ints {K:PySem.W.Frag}{H:Hp}{a:Addr}{ns:List Int}(h:SqT K H a (ns.map V.int)):Dp K H (.ref a) (.tuple (ns.map PyData.int)):=.tup h (dps_ints ns)
theorem eqvAll_ints:∀(ns ms:List Int),PyData.eqvAll (ns.map PyData.int) (ms.map PyData.int)=decide (ns=ms)
 |[],[]=>by simp[PyData.eqvAll]
 |[],_::_=>by simp[PyData.eqvAll]
 |_::_,[]=>by simp[PyData.eqvAll]
 |n::r,m::t=>by
  simp only[List.map_cons,PyData.eqvAll,PyData.eqv,eqvAll_ints r t,List.cons.injEq]
  by_cases h1:n=m<;>by_cases h2:r=t<;>simp[h1,h2]
theorem eqv_tints (ns ms:List Int):PyData.eqv (.tuple (ns.map PyData.int)) (.tuple (ms.map PyData.int))=decide (ns=ms):=by simp only[PyData.eqv];exact eqvAll_ints ns ms
theorem depthAll_le {n:Nat}:∀{ds:List PyData},(∀d∈ds,d.depth≤n)→PyData.depthAll ds≤n
 |[],_=>by simp[PyData.depthAll]
 |d::r,h=>by
  simp only[PyData.depthAll]
  exact Nat.max_le.mpr ⟨h d List.mem_cons_self,depthAll_le fun e he=>h e (List.mem_cons_of_mem _ he)⟩
theorem depth_tints (ns:List Int):(PyData.tuple (ns.map PyData.int)).depth≤1:=by
 have:PyData.depthAll (ns.map PyData.int)≤0:=depthAll_le fun d hd=>by
  obtain⟨i,_,rfl⟩:=List.mem_map.mp hd
  simp[PyData.depth]
 simp only[PyData.depth];omega
theorem SqT.kept {K:PySem.W.Frag}{H H':Hp}{a:Addr}{xs:List V}(e:∀b o,H b=some o→H' b=some o)(h:SqT K H a xs):SqT K H' a xs:=SqT.same e h
mutual
theorem Dp.same {K:PySem.W.Frag}{H H':Hp}(e:Same H H'):∀{v:V} {d:PyData},Dp K H v d→Dp K H' v d
 |_,_,.non=> .non
 |_,_,.bl b=> .bl b
 |_,_,.int i=> .int i
 |_,_,.str x h=> .str x h
 |_,_,.tup h r=> .tup (h.same e) (Dps.same e r)
 |_,_,.lst h r=> .lst (e.seq h) (Dps.same e r)
theorem Dps.same {K:PySem.W.Frag}{H H':Hp}(e:Same H H'):∀{xs:List V} {ds:List PyData},Dps K H xs ds→Dps K H' xs ds
 |_,_,.nil=> .nil
 |_,_,.cons h r=> .cons (Dp.same e h) (Dps.same e r)
end
section
variable {σ:St} {H:Hp} {ta tb:TE} {x y:V} {d e:PyData} {K:PySem.W.Frag}
end
theorem Inv.laidN {X:Cx}{pins:List (Addr×Obj)}{σ:St}{H:Hp}{s:Shared}{h':Heap}{t':Nat}{a:Addr}{o:HO}(I:Inv X pins σ H s)(k:∀b u,b≠X.env.locals→s.heap.get? b=some u→h'.get? b=some u)
  (ns:∀m,s.heap.Ns X.env.locals m→h'.Ns X.env.locals m) (hn:s.heap.get? a=none) (new:ObjOk X.prog X.w (upd H a o) h' a o):Inv X pins σ (upd H a o) {s with heap:=h',toks:=t'}:=by
 have hHa:H a=none:=I.hok.none_of hn
 have trk:∀b u,H b=some u→b≠X.env.locals:=fun b u e z=>by rw[z,I.free] at e;cases e
 have nea:∀b u,s.heap.get? b=some u→b≠a:=fun b u e z=>by rw[z,hn] at e;cases e
 refine I.step (g':=s.gens) (d':=s.drawn) (ch:=[]) (fun _ z=>nomatch z) (fun b u hL _ _ e _=>k b u hL e) (fun b u hL _ _ e _=>⟨u.slots,k b u hL e⟩) (fun b u _ e n=>by rw[upd_ne (nea b u e)];exact n)
  (fun b u _ e=>?_) (fun b xs e=>by rw[upd_ne (ne_of_none e hHa)];exact e) (fun b u xs e=>by rw[upd_ne (ne_of_none e hHa)];exact e) (fun b ps e=>⟨#[],by rw[upd_ne (ne_of_none e hHa),e];simp⟩) ns (fun b u e=>?_) I.bare
 ·by_cases hb:b=X.env.locals
  ·obtain⟨m,hm,_⟩:=I.loc
   obtain⟨o',_,_,e',_⟩:=ns m hm
   exact⟨o',by rw[hb];exact e'⟩
  ·exact⟨u,k b u hb e⟩
 ·by_cases hb:b=a
  ·subst hb;rw[upd_same] at e;cases e;exact new
  ·rw[upd_ne hb] at e
   refine(I.hok b u e).stay (fun c v hc q=>k c v ?_ q) (fun c q=>by rw[upd_ne (ne_of_none q hHa)];exact q) fun c xs q=>by rw[upd_ne (ne_of_none q hHa)];exact q
   rcases hc with rfl|hc
   ·exact trk _ _ e
   ·exact trk _ _ hc
theorem ns_inj {h:Heap}{a:Addr}{m m':Str→Option Value}(x:h.Ns a m)(y:h.Ns a m'):m=m':=by
 obtain⟨o,es,ep,ho,hd,_,f⟩:=x
 obtain⟨o',es',ep',ho',hd',_,f'⟩:=y
 rw[ho] at ho';cases ho'
 rw[hd] at hd';cases hd'
 funext n
 rw[←f,←f']
theorem vals_of_refs:∀cs:List Addr,Vals (cs.map V.ref) (cs.map Value.ref)
 |[]=> .nil
 |_::r=> .cons rfl (vals_of_refs r)
theorem lex_irrefl:∀a:List Int,HT.lexLt a a=false
 |[]=>rfl
 |x::r=>by rw[HT.lexLt_cons,if_pos rfl];exact lex_irrefl r
theorem lex_total:∀a b:List Int,HT.lexLt a b=false→HT.lexLt b a=false→a=b
 |[],[],_,_=>rfl
 |[],_::_,h,_=>by rw[HT.lexLt_nil_cons] at h;cases h
 |_::_,[],_,h=>by rw[HT.lexLt_nil_cons] at h;cases h
 |x::r,y::t,h1,h2=>by
  rw[HT.lexLt_cons] at h1 h2
  by_cases e:x=y
  ·subst e
   rw[if_pos rfl] at h1 h2
   rw[lex_total r t h1 h2]
  ·rw[if_neg e] at h1
   rw[if_neg (Ne.symm e)] at h2
   have:=of_decide_eq_false h1
   have:=of_decide_eq_false h2
   omega
theorem lex_trans:∀a b c:List Int,HT.lexLt a b=true→HT.lexLt b c=true→HT.lexLt a c=true
 |[],_,[],_,h=>by
  rename_i b _
  cases b with
  |nil=>rw[HT.lexLt_nil_nil] at h;cases h
  |cons y t=>rw[HT.lexLt_cons_nil] at h;cases h
 |[],_,_::_,_,_=>rfl
 |_::_,[],_,h,_=>by rw[HT.lexLt_cons_nil] at h;cases h
 |_::_,_::_,[],_,h=>by rw[HT.lexLt_cons_nil] at h;cases h
 |x::r,y::t,z::u,h1,h2=>by
  rw[HT.lexLt_cons] at h1 h2⊢
  by_cases e1:x=y<;>by_cases e2:y=z
  ·subst e1;subst e2
   rw[if_pos rfl] at h1 h2⊢
   exact lex_trans r t u h1 h2
  ·subst e1
   rw[if_neg e2] at h2⊢
   exact h2
  ·subst e2
   rw[if_neg e1] at h1⊢
   exact h1
  ·rw[if_neg e1] at h1
   rw[if_neg e2] at h2
   have:=of_decide_eq_true h1
   have:=of_decide_eq_true h2
   rw[if_neg (by omega)]
   exact decide_eq_true (by omega)
theorem lex_neg (a b c:List Int)(h:HT.lexLt a c=true):HT.lexLt a b=true∨HT.lexLt b c=true:=by
 cases h1:HT.lexLt a b with
 |true=>exact .inl rfl
 |false=>
  refine .inr ?_
  cases h2:HT.lexLt b a with
  |true=>exact lex_trans b a c h2 h
  |false=>rw[←lex_total a b h1 h2];exact h
noncomputable def lexO:KeyOrd:=⟨List Int,HT.lexLt,lex_irrefl,lex_trans,lex_neg,lex_total⟩
abbrev Tups (H:Hp) (as:List Addr) (cs:List (List Int)):Prop:=Paired (fun a (c:List Int)=>H a=some (.tup (c.map V.int))) as cs
theorem Tups.at {H:Hp}:∀{as:List Addr} {cs:List (List Int)} {i:Nat} {a:Addr},Tups H as cs→as[i]?=some a→∃c,cs[i]?=some c∧H a=some (.tup (c.map V.int))
 |_,_,0,_,.cons h _,e=>by cases e;exact⟨_,rfl,h⟩
 |_,_,i+1,_,.cons _ t,e=>Tups.at (i:=i) t e
 |_,_,_,_,.nil,e=>by simp at e
theorem Tups.same {H H':Hp}{as:List Addr}{cs:List (List Int)}(h:Tups H as cs)(e:Same H H'):Tups H' as cs:=Paired.mapP h fun _ _ z=>e _ _ z
theorem Tups.dps {K:PySem.W.Frag}{H:Hp}:∀{as:List Addr} {cs:List (List Int)},Tups H as cs→Dps K H (as.map V.ref) (cs.map fun c=>PyData.tuple (c.map PyData.int))
 |_,_,.nil=> .nil
 |_,_,.cons h t=> .cons (.ints (SqT.of h)) (Tups.dps t)
open PySem.W in
theorem katlex_ints {prog:Program}{w:World}{A:Around}{b fin:Bool}{Q:Bool→Shared→Prop}{s:Shared}:∀(us ws:List Value) (ns ms:List Int) (i:Nat),Vals (ns.map V.int) us→Vals (ms.map V.int) ws→fin=decide (ns.length<ms.length)→
  Q (HT.lexLt ns ms) s→KatLex prog w A b fin Q (us.zip ws) i s
 |[],ws,ns,ms,i,r1,r2,hf,h=>by
  cases ns with
  |cons n r=>cases r1
  |nil=>
   refine kat_nil ?_
   rw[hf]
   cases ms with
   |nil=>exact h
   |cons m t=>exact h
 |u::us,[],ns,ms,i,r1,r2,hf,h=>by
  cases ms with
  |cons m t=>cases r2
  |nil=>
   refine kat_nil ?_
   rw[hf]
   cases ns with
   |nil=>exact h
   |cons m t=>exact h
 |u::us,v::ws,ns,ms,i,r1,r2,hf,h=>by
  cases ns with
  |nil=>cases r1
  |cons n r=>
   cases ms with
   |nil=>cases r2
   |cons m t=>
    cases r1 with
    |cons q1 r1=>
     cases r2 with
     |cons q2 r2=>
      obtain⟨t1,rfl⟩:=q1
      obtain⟨t2,rfl⟩:=q2
      refine kat_cons (wpAny_eqBool_int ?_)
      rw[HT.lexLt_cons] at h
      refine kat_go (fun e=>?_) (fun e=>?_)
      ·have e':n=m:=by simpa using e
       rw[if_pos e'] at h
       exact kat_yes (katlex_ints us ws r t (i+1) r1 r2 (by rw[hf];simp) h)
      ·have e':¬n=m:=by simpa using e
       rw[if_neg e'] at h
       refine kat_no ?_
       cases(b&&i==0) with
       |true=>exact oneLt_int h
       |false=>exact kat_one _ _ (lt_int h)
theorem tups_kat {X:Cx}{pins:List (Addr×Obj)}{σ:St}{H:Hp}{s:Shared}{h':Heap}(I:Inv X pins σ H s)(k:∀b u,b≠X.env.locals→s.heap.get? b=some u→h'.get? b=some u):∀{as:List Addr} {cs:List (List Int)},Tups H as cs→(∀c∈cs,c≠[])→
  ∃fs:List Value,PySem.W.KatTups h' (as.map Value.ref) fs∧fs.length=as.length∧∀v∈fs,∃i t,v=Value.int i t
 |_,_,.nil,_=>⟨[],PySem.W.KatTups.nil,rfl,fun _ h=>nomatch h⟩
 |_,_,.cons (a:=a) (b:=c) h t,hne=>by
  obtain⟨fs,h1,h2,h3⟩:=tups_kat I k t fun d hd=>hne d (List.mem_cons_of_mem _ hd)
  obtain⟨_,its,rv,o,ho,hc,n,hd⟩:=(show ObjOk X.prog X.w H s.heap a (.tup (c.map V.int)) from I.hok a _ h)
  have ha:a≠X.env.locals:=fun z=>by rw[z,I.free] at h;cases h
  cases c with
  |nil=>exact absurd rfl (hne _ List.mem_cons_self)
  |cons i r=>
   cases rv with
   |cons q rv=>
    obtain⟨t',rfl⟩:=q
    refine⟨.int i t'::fs,PySem.W.KatTups.cons (k a o ha ho) hc hd (by simp) h1,by simp[h2],fun v hv=>?_⟩
    rcases List.mem_cons.mp hv with rfl|hv
    ·exact⟨i,t',rfl⟩
    ·exact h3 v hv
theorem Paired.pick {α β:Type}{F:α→β→Prop}(da:α)(db:β):∀{l₁:List α} {l₂:List β},Paired F l₁ l₂→∀(ix:List Nat),(∀i∈ix,i<l₁.length)→Paired F (ix.map fun i=>l₁.getD i da) (ix.map fun i=>l₂.getD i db)
 |l₁,l₂,h,[],_=> .nil
 |l₁,l₂,h,i::ix,hi=>by
  refine .cons ?_ (Paired.pick da db h ix fun j hj=>hi j (List.mem_cons_of_mem _ hj))
  have hlt:=hi i List.mem_cons_self
  clear hi
  induction h generalizing i with
  |nil=>exact absurd hlt (Nat.not_lt_zero _)
  | @cons a b l₁ l₂ q t ih=>
   cases i with
   |zero=>exact q
   |succ j=>exact ih (i:=j) (by simpa using hlt)
theorem pick_perm {α:Type}(d:α)(l:List α){p:Array Nat}(hp:PermN l.length p):(p.toList.map fun i=>l.getD i d).Perm l:=by
 have h:p.toList.Perm (List.range l.length):=by
  have:=Array.perm_iff_toList_perm.mp hp
  simpa using this
 refine(h.map _).trans ?_
 have e:(List.range l.length).map (fun i=>l.getD i d)=l:=by
  apply List.ext_getElem?
  intro i
  by_cases hi:i<l.length
  ·simp[hi]
  ·simp[hi]
 rw[e]
section
variable {X:Cx}
theorem call_sortedT {k:Nat}(hr:Room k X.A):CallR X (.builtin "sorted") (fun xs H Q=>∃(p:Addr) (as:List Addr) (cs:List (List Int)),xs=[.ref p]∧SqL X.K H p (as.map V.ref)∧Tups H as cs∧(∀c∈cs,c≠[])∧2≤as.length∧as.length<64∧
  ∀l bs ds,H l=none→Tups H bs ds→ds.Perm cs→ds.Pairwise (fun c d=>HT.lexLt d c=false)→Q (.ref l) (upd H l (.lst (bs.map V.ref)))):=by
 intro pins s σ H xs us Q I r h
 obtain⟨p,as,cs,rfl,hp,ht,hne,h2,h64,q⟩:=h
 obtain⟨u,rfl,rx⟩:=vals1 r
 cases rx
 obtain⟨its,rv,pl,hz⟩:=I.list hp
 cases vals_refs rv
 have hcl:as.length=cs.length:=ht.length
 obtain⟨m,hm,_⟩:=id I.loc
 refine PySem.W.kat_sorted (h₀:=Att.noObjs s.heap) (L:=X.env.locals) (m:=m) (news:=allNews (Att.noObjs s.heap) s.heap X.env.locals) (Att.fr_all hm) news_all pl.isList (by simpa using h2) (by simpa using h64) fun D e1 h' F' N' hD=>?_
 have k0:∀b u,b≠X.env.locals→s.heap.get? b=some u→h'.get? b=some u:=fun b u hb e=>(N' (b,u) (List.mem_cons_of_mem _ (mem_allNews hb (Att.noObjs_get _ _) e))).1
 have hDn:s.heap.get? D=none:=by
  cases e:s.heap.get? D with
  |none=>rfl
  |some u=>exact absurd (hD (D,u) (mem_allNews (N' (D,_) List.mem_cons_self).2.1 (Att.noObjs_get _ _) e)) (Nat.lt_irrefl _)
 obtain⟨fs,kt,hfl,hfi⟩:=tups_kat I k0 ht hne
 refine PySem.W.kat_kind (s:={s with heap:=h'}) (T:=.type "int") kt (by omega) (fun v hv=>?_) rfl ?_
 ·obtain⟨i,t,rfl⟩:=hfi v hv
  exact .now
 have hl:(as.map Value.ref).length=as.length:=List.length_map ..
 obtain⟨s1,s2,s3⟩:=sort_ok (O:=lexO) (key:=fun i=>cs.getD i []) (N:=as.length) (by omega)
 rw[hl]
 refine kas_ev (lt:=ltK (O:=lexO) fun i=>cs.getD i []) (I:=fun s'=>s'={s with heap:=h'}) (fun i j C s' hi hj hs hC=>?_) s1 rfl fun s' hs=>?_
 ·subst hs
  obtain⟨ci,e1,g1⟩:=ht.at (i:=i) (a:=as[i]) (by simp[hi])
  obtain⟨cj,e2,g2⟩:=ht.at (i:=j) (a:=as[j]) (by simp[hj])
  have v1:(as.map Value.ref).getD i Value.none=.ref as[i]:=by simp[hi]
  have v2:(as.map Value.ref).getD j Value.none=.ref as[j]:=by simp[hj]
  have hne1:as[i]≠X.env.locals:=fun z=>by rw[z,I.free] at g1;cases g1
  have hne2:as[j]≠X.env.locals:=fun z=>by rw[z,I.free] at g2;cases g2
  obtain⟨_,xs1,rv1,o1,ho1,_,n1,hd1⟩:=(show ObjOk X.prog X.w H s.heap as[i] (.tup (ci.map V.int)) from I.hok _ _ g1)
  obtain⟨_,xs2,rv2,o2,ho2,_,n2,hd2⟩:=(show ObjOk X.prog X.w H s.heap as[j] (.tup (cj.map V.int)) from I.hok _ _ g2)
  unfold PySem.W.kas_ask
  rw[v1,v2]
  refine PySem.W.kat_lt (k0 _ _ hne1 ho1) hd1 (k0 _ _ hne2 ho2) hd2 ?_
  have l1:=rv1.length
  have l2:=rv2.length
  rw[List.length_map] at l1 l2
  refine katlex_ints xs1 xs2 ci cj 0 rv1 rv2 (by simp[l1,l2]) ?_
  have:=hC _ rfl
  simp only[ltK,List.getD_eq_getElem?_getD,e1,e2,Option.getD_some] at this
  exact this
 ·subst hs
  refine PySem.W.KasFin.intro (s:={s with heap:=h'}) F' N' (.head fun p hp=>Nat.ne_of_lt (hD p hp)) fun h2' c F2 N2=>?_
  have hix:∀i∈(evT (ltK (O:=lexO) fun i=>cs.getD i []) (PySem.W.kas_sort as.length)).toList,i<as.length:=fun i hi=>by
   have:=(Array.perm_iff_toList_perm.mp s2).mem_iff.mp hi
   simpa using this
  generalize hE:evT (ltK (O:=lexO) fun i=>cs.getD i []) (PySem.W.kas_sort as.length)=P at s2 s3 hix N2
  have hb:(P.toList.map fun i=>(as.map Value.ref).getD i Value.none)=(P.toList.map fun i=>as.getD i 0).map Value.ref:=by
   rw[List.map_map]
   refine List.map_congr_left fun i hi=>?_
   have:=hix i hi
   simp[this]
  have I':Inv X pins σ (upd H D (.lst ((P.toList.map fun i=>as.getD i 0).map V.ref))) {s with heap:=h2',toks:=s.toks}:=by
   refine I.laidN (fun b u hb e=>?_) (fun m' hm'=>?_) hDn ?_
   ·exact(N2 (b,u) (List.mem_cons_of_mem _ (mem_allNews hb (Att.noObjs_get _ _) e))).1
   ·have:m'=m:=ns_inj hm' hm
    rw[this];exact F2.ns
   ·have e:=(N2 (D,_) List.mem_cons_self).1
    rw[hb] at e
    refine⟨?_,_,_,vals_of_refs _,e⟩
    rw[List.length_map,List.length_map,Array.length_toList,s2.size]
    exact Nat.le_trans (Nat.le_of_lt h64) (by decide)
  refine⟨.ref D,_,I',rfl,q D _ _ (I.hok.none_of hDn) (Paired.pick 0 [] ht _ hix) (pick_perm [] cs (by rw[←hcl];exact s2)) ?_⟩
  rw[List.pairwise_iff_getElem]
  intro i j hi hj hij
  simp only[List.length_map,Array.length_toList] at hi hj
  have:=s3 i j (Nat.le_of_lt hij) (by rw[s2.size] at hj;exact hj)
  simp only[List.getElem_map,Array.getElem_toList]
  unfold kA at this
  simp only[Array.getD_eq_getD_getElem?,Array.getElem?_eq_getElem hi,Array.getElem?_eq_getElem hj,Option.getD_some] at this
  exact this
end
section
variable {prog:Program} {w:World} {A:Around} {E:Value→Shared→Prop} {s:Shared}
theorem sort_few {l:Addr}{vs:List Value}{c:Nat}{P:Fin→Shared→Prop}(g:s.heap.get? l=some (seqObj "list" vs.toArray c))(few:vs.length<2)(fin:P (.done (.ret .none)) {s with heap:=sortedHeap s.heap l vs vs.toArray}):
  wpAny (model prog w) A (Builtin.«list.sort» ⟨[.ref l],[]⟩) P E s:=by
 have lt:l<s.heap.objs.size:=Heap.lt_size g
 rw[list_sort_plain]
 apply wpAny_bind
 refine listItems_at g rfl ?_
 apply wpAny_bind
 refine listUpdate_at g rfl ?_
 obtain⟨n1,g1⟩:∃n1,(s.heap.update l (Obj.mapSeq fun _=> #[])).get? l=some (seqObj "list" #[] n1):=⟨_,get?_update_seq g (fun _=> #[])⟩
 apply wpAny_bind
 refine seqEpoch_at g1 rfl ?_
 apply wpAny_bind
 refine wpAny_newTuple ?_ (by rw[sizeLine_eq];simp;omega)
 apply wpAny_bind
 refine wpAny_newList ?_ (by decide)
 apply wpAny_holding
 have g6:(((s.heap.update l (Obj.mapSeq fun _=> #[])).push (seqObj "tuple" vs.toArray 0)).push (seqObj "list" #[] 0)).get? l=some (seqObj "list" #[] n1):=by
  rw[Heap.get?_push_ne _ _ _ (Nat.ne_of_lt (by rw[size_push',Heap.size_update];exact Nat.lt_succ_of_lt lt))]
  rw[Heap.get?_push_ne _ _ _ (Nat.ne_of_lt (by rw[Heap.size_update];exact lt))]
  exact g1
 show wpAny (model prog w) A _ P E ({s with heap:=((s.heap.update l (Obj.mapSeq fun _=> #[])).push (seqObj "tuple" vs.toArray 0)).push (seqObj "list" #[] 0)}:Shared)
 dsimp only
 have few':vs.toArray.size<2:=by simpa using few
 rw[if_pos few',if_pos few']
 apply wpAny_bind
 apply wpAny_pure
 rw[StateT.run_pure]
 apply wpAny_bind
 apply wpAny_pure
 dsimp only
 apply wpAny_bind
 refine seqEpoch_at g6 rfl ?_
 have eo:(arrOf (SortSt.mk' general' (vs.toArray.zip vs.toArray) #[] 7 none)).map (·.2)=vs.toArray:=by
  show(vs.toArray.zip vs.toArray).map (·.2)=vs.toArray
  match vs,few with
  |[],_=>simp
  |[_],_=>simp
 rw[eo]
 apply wpAny_bind
 refine listUpdate_at g6 rfl ?_ (hsz2:=by rw[List.size_toArray,sizeLine_eq];omega)
 simp only[bne_self_eq_false,Bool.false_eq_true]
 exact wpAny_pure fin
theorem sorted_few {l:Addr}{vs:List Value}{Q:Value→Shared→Prop}(g:s.heap.IsList l vs.toArray)(few:vs.length<2)(h:Q (.ref (s.heap.objs.size+1)) {s with heap:=sortedAll s.heap vs vs.toArray}):
  wpAny (model prog w) A (call (.builtin "sorted") [.ref l]) Q E s:=by
 apply Calls.call_function_entry kind_sorted plain_sorted entry_sorted (args_sorted1 _)
 unfold Builtin.«sorted»
 refine wpAny_bind (m:=checkCount "sorted" 1 1 _) ?_
 apply wpAny_pure
 apply wpAny_bind
 refine collect_list g ?_ (by rw[sizeLine_eq];omega)
 apply wpAny_bind
 refine wpAny_newList ?_ (by rw[sizeLine_eq];omega)
 have z:((s.heap.push (seqObj "list" #[] 0)).update s.heap.objs.size (Obj.mapSeq (· ++vs.toArray))).objs.size=s.heap.objs.size+1:=(Heap.size_update ..).trans (size_push' ..)
 have gD:(((s.heap.push (seqObj "list" #[] 0)).update s.heap.objs.size (Obj.mapSeq (· ++vs.toArray))).push (seqObj "list" vs.toArray 0)).get? (s.heap.objs.size+1)=some (seqObj "list" vs.toArray 0):=z▸Heap.get?_push_size _ rfl
 show wpAny _ _ _ _ _ ({s with heap:=((s.heap.push (seqObj "list" #[] 0)).update s.heap.objs.size (Obj.mapSeq (· ++vs.toArray))).push (seqObj "list" vs.toArray 0)}:Shared)
 rw[z]
 apply wpAny_bind
 apply wpAny_holding
 refine wpAny_call_entry slot_list_sort ⟨_,gD,rfl⟩ entry_list_sort ?_ (args_list_sort _)
 refine sort_few gD few ⟨_,rfl,?_⟩
 exact wpAny_pure ⟨_,rfl,h⟩
end
section
variable {X:Cx}
theorem call_sorted1:CallR X (.builtin "sorted") (fun xs H Q=>∃(p:Addr) (ys:List V),xs=[.ref p]∧SqL X.K H p ys∧ys.length<2∧∀l,H l=none→Q (.ref l) (upd H l (.lst ys))):=by
 intro pins s σ H xs us Q I r h
 obtain⟨p,ys,rfl,hp,h2,q⟩:=h
 obtain⟨u,rfl,rx⟩:=vals1 r
 cases rx
 obtain⟨its,rv,pl,hz⟩:=I.list hp
 have hl:=rv.length
 refine sorted_few pl.isList (by omega) ?_
 obtain⟨e,he⟩:=sortedAll_at s.heap its its.toArray
 have hn:s.heap.get? (s.heap.objs.size+1)=none:=Heap.get?_none_of_le (Nat.le_succ _)
 refine⟨.ref _,_,I.laidN (t':=s.toks) (a:=s.heap.objs.size+1) (o:=.lst ys) (fun b u _ e=>sortedAll_old e) (fun m hm=>?_) hn ⟨hz,its,e,rv,he⟩,rfl,q _ (I.hok.none_of hn)⟩
 obtain⟨o,es,ep,ho,r⟩:=hm
 exact⟨o,es,ep,sortedAll_old ho,r⟩
end
section
variable {X:Cx}
theorem call_sortedI {k:Nat}(hr:Room k X.A):CallR X (.builtin "sorted") (fun xs H Q=>∃(p:Addr) (as:List Addr) (cs:List (List Int)),xs=[.ref p]∧SqL X.K H p (as.map V.ref)∧Tups H as cs∧(∀c∈cs,c≠[])∧as.length<64∧
  ∀l bs ds,H l=none→Tups H bs ds→ds.Perm cs→ds.Pairwise (fun c d=>HT.lexLt d c=false)→Q (.ref l) (upd H l (.lst (bs.map V.ref)))):=by
 intro pins s σ H xs us Q I r h
 obtain⟨p,as,cs,rfl,hp,ht,hne,h64,q⟩:=h
 by_cases h2:2≤as.length
 ·exact call_sortedT hr pins s σ H _ us Q I r ⟨p,as,cs,rfl,hp,ht,hne,h2,h64,q⟩
 ·have hl:as.length=cs.length:=ht.length
  refine call_sorted1 pins s σ H _ us Q I r ⟨p,_,rfl,hp,by rw[List.length_map];omega,fun l hn=>q l as cs hn ht (List.Perm.refl _) ?_⟩
  match cs,hl with
  |[],_=>exact .nil
  |[_],_=>exact List.pairwise_singleton _ _
  |_::_::_,hl=>simp only[List.length_cons] at hl;omega
end
abbrev cp (z:Str):List Nat:=z.cps.toList
theorem cp_len (z:Str):(cp z).length=z.length:=by simp[Str.length]
noncomputable def Its (z:Str):It:=⟨fun i _=>i<z.cps.size,fun i H x H'=>H'=H∧∃c,(cp z)[i]?=some c∧x=.str ⟨#[c]⟩,fun i _=>z.cps.size≤i⟩
theorem go_str {M:Model}{A:Around}{E:Value→Shared→Prop}{s:Shared}{tg:Expr}{it:Addr}{x:Str}{t:Tok}{Q:Unit→Shared→Prop}(hQ:Q () s):wpAny M A (letOwnedTupleGo tg (.ref it) (.str x t)) Q E s:=by
 unfold letOwnedTupleGo
 cases tg<;>exact wpAny_pure hQ
theorem turn_str {P:Program}{w:World}{K:PySem.W.Frag}{tg:Expr}(z:Str)(t:Tok)(it:Addr):Turn P w K tg (Its z) [it] it (fun i h=>h.IsStrIter it "str_ascii_iterator" z t i) where
 mem:=by simp
 obj:=fun i h st b hb=>by
  have e:b=it:=by simpa using hb
  subst e
  obtain⟨o,e,c,d⟩:=st
  exact⟨o,e,fun v z=>by rw[d] at z;cases z⟩
 keep:=fun i h h' st k=>by
  obtain⟨o,e,r⟩:=st
  exact⟨o,k it (by simp) o e,r⟩
 item:=by
  intro X hP hw hK hc i pins s σ H E I hf hst hg
  subst hP hw hK
  obtain⟨f0,f1,f2,f3,f4,f5⟩:=hf it (by simp)
  have W:=Walks.strAscii (prog:=X.prog) (w:=X.w) (I.ok.hd hc) it z t
  refine W.item i s _ _ hg hst fun v h' tk hv st' kk=>?_
  obtain⟨c,u,ec,rfl⟩:=hv
  have I1:Inv X pins σ H {s with heap:=h',toks:=tk}:=I.turned (fun b o hb e=>kk b o (by simpa using hb) e) f0 f1 f3 f4 f5
  exact⟨_,rfl,go_str ⟨.str ⟨#[c]⟩,H,I1,⟨u,rfl⟩,⟨rfl,c,by rw[←ec];simp,rfl⟩,st',fun b hb=>(hf b hb).1⟩⟩
 done:=by
  intro X hP hw hK hc i pins s σ H E I hf hst hg
  subst hP hw hK
  obtain⟨f0,f1,f2,f3,f4,f5⟩:=hf it (by simp)
  exact wpAny_pyNext_ascii_end (I.ok.hd hc) hst (by have:z.cps.size≤i:=hg;simp[this]) fun h' eb=>⟨rfl,I.turned (t':=s.toks) (fun b o hb e=>eb b o hb e) f0 f1 f3 f4 f5⟩
 self:=fun _ _ _ _ _ st h=>wpAny_pyIter_striter_ascii st h
def iStr (tl:TE):TI:=fun σ H R=>tl σ H fun x H1=>∃z,x=.str z∧z.cps.all (· <128)=true∧R (Its z) H1
section
variable {X:Cx} {tg:Expr}
theorem pi_str {l:Expr}{tl:TE}(hl:PE X l tl):PI X tg l (iStr tl):=by
 intro pins s σ H R I h
 refine thn (hl pins s σ H _ I h) fun v s1 ⟨x,H1,I1,r1,q1⟩=>?_
 obtain⟨z,e,ha,q⟩:=q1
 subst e
 obtain⟨t,rfl⟩:=r1
 refine wpAny_pyIter_ascii ha ?_
 refine⟨s1.heap.objs.size,[s1.heap.objs.size],_,_,H1,rfl,I1.kept (t':=s1.toks) fun b o e=>Heap.get?_push_of_some _ e,turn_str z t _,⟨_,Heap.get?_push_size _ rfl,rfl,rfl⟩,fun b hb=>?_,q⟩
 have e:b=s1.heap.objs.size:=by simpa using hb
 subst e
 exact I1.fpOk (Nat.le_refl _) (I1.hok.fresh (Nat.le_refl _))
theorem lc_str {z:Str}{σ0:St}{g:TG}{tt:TT}{te:TE}{H1:Hp}{D:Addr}{Q:Hp→Prop}(Pv:Nat→St→Hp→Prop)(h0:Pv 0 σ0 (upd H1 D (.lst [])))
  (hs:∀i c τ H,(cp z)[i]?=some c→Pv i τ H→g (.str ⟨#[c]⟩) τ H fun τ2 H2=>tt τ2 H2 fun b H3=>
   if b=true then te τ2 H3 fun v H4=>∃acc,H4 D=some (.lst acc)∧acc.length<sizeLine∧Pv (i+1) τ2 (upd H4 D (.lst (acc++[v]))) else Pv (i+1) τ2 H3)
  (hd:∀τ H,Pv z.length τ H→Q H):lcW σ0 g tt te (Its z) H1 D Q:=by
 have hz:z.cps.size=z.length:=rfl
 refine⟨fun i m τ H=>m=z.length - i∧i≤z.length∧Pv i τ H,⟨z.length,by simp,Nat.zero_le _,h0⟩,?_⟩
 rintro i m τ H ⟨rfl,hi,p⟩
 by_cases hlt:i<z.length
 ·refine .inr ⟨hlt,Pv (i+1),fun τ' H' p'=>⟨z.length - (i+1),by omega,rfl,hlt,p'⟩,fun x H' y=>?_⟩
  obtain⟨e,c,hc,rfl⟩:=y
  subst e
  exact hs i c τ _ hc p
 ·have e:i=z.length:=by omega
  subst e
  exact .inl ⟨Nat.le_refl _,hd τ H p⟩
theorem bools_are:∀{bs:List Bool} {us:List Value},Vals (bs.map V.bl) us→us=bs.map Value.bool
 |[],_,.nil=>rfl
 |_::_,_,.cons r t=>by rw[bools_are t];cases(show _=Value.bool _ from r);rfl
theorem range_any (bs:List Bool):(List.range bs.length).any (fun i=>bs.getD i false)=bs.any id:=by
 have e:(List.range bs.length).map (fun i=>bs.getD i false)=bs:=by
  apply List.ext_getElem?
  intro i
  by_cases hi:i<bs.length
  ·simp[hi]
  ·simp[hi]
 conv=>rhs;rw[←e]
 rw[List.any_map]
 rfl
theorem range_all (bs:List Bool):(List.range bs.length).all (fun i=>bs.getD i false)=bs.all id:=by
 have e:(List.range bs.length).map (fun i=>bs.getD i false)=bs:=by
  apply List.ext_getElem?
  intro i
  by_cases hi:i<bs.length
  ·simp[hi]
  ·simp[hi]
 conv=>rhs;rw[←e]
 rw[List.all_map]
 rfl
theorem call_any (hc:X.calm=true):CallR X (.builtin "any") (fun xs H Q=>∃(p:Addr) (bs:List Bool),xs=[.ref p]∧SqL X.K H p (bs.map V.bl)∧Q (.bl (bs.any id)) H):=by
 intro pins s σ H xs us Q I r h
 obtain⟨p,bs,rfl,hp,q⟩:=h
 obtain⟨u,rfl,rx⟩:=vals1 r
 cases rx
 obtain⟨its,rv,pl,hz⟩:=I.list hp
 cases bools_are rv
 have hl:(bs.map Value.bool).toArray.size=bs.length:=by simp
 refine call_any_walk (wpAny_pyIter_list pl.isList ?_)
 have hne:p≠s.heap.objs.size:=by
  obtain⟨o,ho,_⟩:=pl.isList
  exact Nat.ne_of_lt (Heap.lt_size ho)
 refine⟨s.heap.objs.size,_,_,_,_,_,fun i=>bs.getD i false,rfl,Walks.list (A:=X.A.in1) (prog:=X.prog) (w:=X.w) (show X.A.in1.handled=none from I.ok.hd hc) s.heap.objs.size p hne (bs.map Value.bool).toArray,⟨⟨_,Heap.get?_push_size _ rfl,rfl,rfl⟩,?_⟩,fun i v s' Q' E' hv hq=>?_,fun h' tk hk=>?_⟩
 ·exact pl.isList.at fun o e=>Heap.get?_push_of_some _ e
 ·have hi:(bs.map Value.bool).toArray[i]?=some v:=hv
  rw[List.getElem?_toArray,List.getElem?_map] at hi
  cases e:bs[i]? with
  |none=>rw[e] at hi;cases hi
  |some b=>
   rw[e] at hi
   cases hi
   refine wpAny_truthy_bool ?_
   have:bs.getD i false=b:=by simp[List.getD_eq_getElem?_getD,e]
   rw[←this];exact hq
 ·rw[hl,range_any]
  refine⟨.bl _,H,I.kept (t':=tk) fun b o e=>hk b o ?_ (Heap.get?_push_of_some _ e),rfl,q⟩
  intro hb
  have:b=s.heap.objs.size:=by simpa using hb
  exact absurd (Heap.lt_size e) (by rw[this];exact Nat.lt_irrefl _)
theorem call_all (hc:X.calm=true):CallR X (.builtin "all") (fun xs H Q=>∃(p:Addr) (bs:List Bool),xs=[.ref p]∧SqL X.K H p (bs.map V.bl)∧Q (.bl (bs.all id)) H):=by
 intro pins s σ H xs us Q I r h
 obtain⟨p,bs,rfl,hp,q⟩:=h
 obtain⟨u,rfl,rx⟩:=vals1 r
 cases rx
 obtain⟨its,rv,pl,hz⟩:=I.list hp
 cases bools_are rv
 have hl:(bs.map Value.bool).toArray.size=bs.length:=by simp
 refine call_all_walk (wpAny_pyIter_list pl.isList ?_)
 have hne:p≠s.heap.objs.size:=by
  obtain⟨o,ho,_⟩:=pl.isList
  exact Nat.ne_of_lt (Heap.lt_size ho)
 refine⟨s.heap.objs.size,_,_,_,_,_,fun i=>bs.getD i false,rfl,Walks.list (A:=X.A.in1) (prog:=X.prog) (w:=X.w) (show X.A.in1.handled=none from I.ok.hd hc) s.heap.objs.size p hne (bs.map Value.bool).toArray,⟨⟨_,Heap.get?_push_size _ rfl,rfl,rfl⟩,?_⟩,fun i v s' Q' E' hv hq=>?_,fun h' tk hk=>?_⟩
 ·exact pl.isList.at fun o e=>Heap.get?_push_of_some _ e
 ·have hi:(bs.map Value.bool).toArray[i]?=some v:=hv
  rw[List.getElem?_toArray,List.getElem?_map] at hi
  cases e:bs[i]? with
  |none=>rw[e] at hi;cases hi
  |some b=>
   rw[e] at hi
   cases hi
   refine wpAny_truthy_bool ?_
   have:bs.getD i false=b:=by simp[List.getD_eq_getElem?_getD,e]
   rw[←this];exact hq
 ·rw[hl,range_all]
  refine⟨.bl _,H,I.kept (t':=tk) fun b o e=>hk b o ?_ (Heap.get?_push_of_some _ e),rfl,q⟩
  intro hb
  have:b=s.heap.objs.size:=by simpa using hb
  exact absurd (Heap.lt_size e) (by rw[this];exact Nat.lt_irrefl _)
theorem pe_const {x:Str}{v:V}{pos:Pos}(hg:Gl X x)(h:∃u,X.mg x=some u∧RelV v u)(hd:(x==("__debug__" :Str))=false:=by decide):PE X (.Name x pos) (tC v):=by
 obtain⟨u,hm,r⟩:=h
 exact pe_glob hg hm r hd
end
section
variable {σ:St} {H:Hp} {ta tb:TE} {x y:Str} {a b:Bool}
theorem ev_notinS {c:Nat}(ha:Ev ta σ H (.str ⟨#[c]⟩))(hb:Ev tb σ H (.str y)):Ev (tOp (fun x y H Q=>∃i j,x=.str i∧y=.str j∧Q (.bl (!(!(Builtin.Str.occurrences j i 0 j.length 1).isEmpty))) H) ta tb) σ H (.bl (!decide (c∈cp y))):=fun Q q=>ha _ (hb _ ⟨_,y,rfl,rfl,by rw[PySem.StrLaws.found_one];exact q⟩)
theorem ev_inS {c:Nat}(ha:Ev ta σ H (.str ⟨#[c]⟩))(hb:Ev tb σ H (.str y)):Ev (tOp (fun x y H Q=>∃i j,x=.str i∧y=.str j∧Q (.bl (!(Builtin.Str.occurrences j i 0 j.length 1).isEmpty)) H) ta tb) σ H (.bl (decide (c∈cp y))):=fun Q q=>ha _ (hb _ ⟨_,y,rfl,rfl,by rw[PySem.StrLaws.found_one];exact q⟩)
theorem ev_ixS {c:Nat}{i:Int}(ha:Ev ta σ H (.str x))(hb:Ev tb σ H (.int i))(hz:x.length≤sizeLine)(he:atI (cp x) i=some c):Ev (tOp rIxS ta tb) σ H (.str ⟨#[c]⟩):=fun _ q=>ha _ (hb _ ⟨x,i,c,rfl,rfl,hz,he,q⟩)
theorem ev_lenS (ha:Ev ta σ H (.str x))(hz:x.length≤sizeLine){K:PySem.W.Frag}:Ev (tCB (fun xs H Q=>∃x n,xs=[x]∧LenV K x H n∧Q (.int n) H) (tCons ta tNil)) σ H (.int (x.length:Nat)):=fun _ q=>ha _ ⟨_,_,rfl,⟨hz,rfl⟩,q⟩
end
section
variable {X:Cx}
end
end L2
namespace L2
open PySem PySem.Spec PyProof.Rows
open AutoSeq1 (wpAny_loadPart')
section
variable {prog:Program} {w:World} {A:Around} {E:Value→Shared→Prop} {s:Shared}
end
theorem Inv.turnedLaid {X:Cx}{pins:List (Addr×Obj)}{σ:St}{H:Hp}{s:Shared}{h':Heap}{t':Nat}{a:Addr}{o:HO}{fp:List Addr}(I:Inv X pins σ H s)(hf:∀b∈fp,FpOk X pins H b)
  (k:∀b u,b∉fp→s.heap.get? b=some u→h'.get? b=some u) (hn:s.heap.get? a=none) (new:ObjOk X.prog X.w (upd H a o) h' a o):Inv X pins σ (upd H a o) {s with heap:=h',toks:=t'}:=by
 have hHa:H a=none:=I.hok.none_of hn
 have trk:∀b u,H b=some u→b∉fp:=fun b u e z=>by rw[(hf b z).1] at e;cases e
 have nea:∀b u,s.heap.get? b=some u→b≠a:=fun b u e z=>by rw[z,hn] at e;cases e
 refine I.step (g':=s.gens) (d':=s.drawn) (ch:=fp) (fun b hb=>⟨(hf b hb).2.2.2.1,(hf b hb).2.1,(hf b hb).2.2.2.2.1,(hf b hb).2.2.2.2.2⟩) (fun b u _ _ hc e _=>k b u hc e) (fun b u _ _ hc e _=>⟨u.slots,k b u hc e⟩) (fun b u _ e n=>by rw[upd_ne (nea b u e)];exact n)
  (fun b u hc e=>⟨u,k b u hc e⟩) (fun b xs e=>by rw[upd_ne (ne_of_none e hHa)];exact e) (fun b u xs e=>by rw[upd_ne (ne_of_none e hHa)];exact e) (fun b ps e=>⟨#[],by rw[upd_ne (ne_of_none e hHa),e];simp⟩) (fun m hm=>?_) (fun b u e=>?_) I.bare
 ·obtain⟨o',es,ep,ho,r⟩:=hm
  exact⟨o',es,ep,k _ o' (fun z=>(hf _ z).2.1 rfl) ho,r⟩
 ·by_cases hb:b=a
  ·subst hb;rw[upd_same] at e;cases e;exact new
  ·rw[upd_ne hb] at e
   refine(I.hok b u e).stay (fun c v hc q=>k c v ?_ q) (fun c q=>by rw[upd_ne (ne_of_none q hHa)];exact q) fun c xs q=>by rw[upd_ne (ne_of_none q hHa)];exact q
   rcases hc with rfl|hc
   ·exact trk _ _ e
   ·exact trk _ _ hc
section
variable {X:Cx}
theorem pg_tupK {pos:Pos}{K:PySem.W.Frag}{es:List Expr}{k:Nat}{t:TGs}{n:Nat}(hc:X.calm=true)(e:X.K=K)(h:PGs X es t)
  (hn:(assignEach es X.env).length=n) (hst:(assignEach es X.env).findIdx? (·.1)=none):PG X (.Tuple es k pos) (gTup K n t):=by subst e;exact pg_tup hc h hn hst
end
noncomputable def res:List (Bool×Bool)→Bool→Bool
 |[],z=>z
 |(true,_)::r,z=>res r z
 |(false,b)::_,_=>b
section
open PySem.SeqAt
open PySem.AutoSeq1 (wpAny_loadPart')
open PySem.MeetsSeq PySem.MeetsSeq2 PySem.MeetsSeq3
end
section
variable {X:Cx}
end
theorem one_of_nodup {α:Type}(f:α→Int)(c:Int):∀(l:List α),(l.map f).Nodup→(l.filter fun x=>f x==c).length≤1
 |[],_=>by simp
 |a::r,h=>by
  rw[List.map_cons,List.nodup_cons] at h
  have ih:=one_of_nodup f c r h.2
  by_cases e:f a=c
  ·have z:(r.filter fun x=>f x==c)=[]:=by
    refine List.filter_eq_nil_iff.mpr fun x hx q=>h.1 ?_
    rw[e]
    exact List.mem_map.mpr ⟨x,hx,by simpa using q⟩
   rw[List.filter_cons_of_pos (p:=fun x=>f x==c) (by simpa using e),z]
   exact Nat.le_refl _
  ·rw[List.filter_cons_of_neg (p:=fun x=>f x==c) (by simpa using e)]
   exact ih
section
variable {prog:Program} {w:World} {A:Around} {E:Value→Shared→Prop} {s:Shared}
theorem quiet_tup {b:Addr}{Q:Bool→Shared→Prop}(hT:s.TypeIs (.ref b) "tuple")(h:Q false s):wpAny (model prog w) A (Builtin.Dict.quietEq (.ref b)) Q E s:=by
 unfold Builtin.Dict.quietEq
 refine wpAny_bind (wpAny_specialOf hT F.slot_tuple_eq.lookup (wpAny_pure ?_))
 exact h
theorem entries_tup {id:String}{d:Addr}{o:Obj}{es:Array DictEntry}{ep:Nat}{Q:Array DictEntry→Shared→Prop}(ho:s.heap.get? d=some o)(hd:o.data=.dict es ep)
  (hk:∀e∈es,∃b,e.key=.ref b∧s.TypeIs (.ref b) "tuple") (hn:(es.toList.map (·.hash)).Nodup) (h:Q es s):wpAny (model prog w) A (Builtin.Dict.entriesForEmpty id d) Q E s:=by
 unfold Builtin.Dict.entriesForEmpty
 refine wpAny_bind (wpAny_dictEntries ho hd (wpAny_bind ?_))
 rw[←Array.forIn_toList]
 refine wpAny_forIn_list _ (fun rest _ s'=>s'=s∧∀e∈rest,e∈es) _ ?_ ?_ _ _ ⟨rfl,fun e he=>Array.mem_toList_iff.mp he⟩
 ·rintro e rest u s' ⟨rfl,hin⟩
  obtain⟨b,eb,hT⟩:=hk e (hin e List.mem_cons_self)
  rw[eb]
  refine wpAny_bind (quiet_tup hT ?_)
  rw[if_pos (by decide)]
  have one:¬(es.filter (·.hash==e.hash)).size>1:=by
   have:=one_of_nodup (fun x:DictEntry=>x.hash) e.hash es.toList hn
   rw[←Array.length_toList,Array.toList_filter]
   omega
  rw[if_neg one]
  exact wpAny_pure ⟨rfl,fun x hx=>hin x (List.mem_cons_of_mem _ hx)⟩
 ·rintro u s' ⟨rfl,_⟩
  exact wpAny_pure h
theorem merge_tup {nm:String}{d o:Addr}{od oo:Obj}{es:Array DictEntry}{ep ep':Nat}{Q:Unit→Shared→Prop}(hdo:d≠o)(hoS:(o==sysModules)=false)
  (hd:s.heap.get? d=some od) (hde:od.ExactDict) (hdd:od.data=.dict #[] ep') (ho:s.heap.get? o=some oo) (hod:oo.data=.dict es ep)
  (hk:∀e∈es,∃b,e.key=.ref b∧s.TypeIs (.ref b) "tuple") (hn:(es.toList.map (·.hash)).Nodup) (hz:es.size≤sizeLine)
  (hQ:∀h',(∃o' ep'',h'.get? d=some o'∧o'.ExactDict∧o'.data=.dict es ep'')→Heap.SameBut d s.heap h'→Q () {s with heap:=h'}):
  wpAny (model prog w) A (Builtin.Dict.mergeDict nm d o) Q E s:=by
 unfold Builtin.Dict.mergeDict
 rw[if_neg (by simpa using hdo)]
 unfold Builtin.Dict.showsAll
 rw[if_neg (by rw[hoS];exact Bool.false_ne_true)]
 refine wpAny_bind (wpAny_pure (wpAny_bind (wpAny_dictEntries ho hod ?_)))
 dsimp only
 by_cases he:es= #[]
 ·subst he
  rw[if_neg (by simp)]
  refine wpAny_bind (wpAny_dictEpoch ho hod (wpAny_bind (wpAny_dictEntries ho hod (wpAny_bind ?_))))
  rw[Std.Legacy.Range.forIn_eq_forIn_range']
  exact wpAny_pure (wpAny_pure (hQ s.heap ⟨od,ep',hd,hde,hdd⟩ (Heap.SameBut.refl _ _)))
 ·have few:(decide (es.size≤8)&&es.all fun e=>(keyPart e.key).isSome)=false:=by
   rw[Bool.and_eq_false_iff]
   refine .inr (Bool.eq_false_iff.mpr fun z=>he ?_)
   rw[←Array.all_toList,List.all_eq_true] at z
   refine Array.eq_empty_of_size_eq_zero (Nat.eq_zero_of_not_pos fun pz=>?_)
   have hm:es[0]∈es:=Array.getElem_mem pz
   obtain⟨b,eb,_⟩:=hk _ hm
   have y:=z _ (Array.mem_toList_iff.mpr hm)
   rw[eb] at y
   exact absurd y Bool.false_ne_true
  rw[few]
  rw[if_pos (by rfl)]
  refine wpAny_bind (wpAny_dictEntries hd hdd ?_)
  rw[if_pos (by rfl)]
  refine wpAny_bind (entries_tup ho hod hk hn ?_)
  rw[if_pos (by simpa using he)]
  exact wpAny_bind (wpAny_updateDictKeysTo hd hdd (wpAny_pure (hQ _ ⟨_,ep'+1,Heap.get?_update_self _ hd (Obj.isFreed_of_dict (Obj.data_mapDictKeys hdd _)),hde.mapDictKeys _,Obj.data_mapDictKeys hdd _⟩ (Heap.SameBut.update ..))) (by omega))
theorem call_dict_tup {o:Addr}{oo:Obj}{es:Array DictEntry}{ep:Nat}{Q:Value→Shared→Prop}(hoS:(o==sysModules)=false)(ho:s.heap.get? o=some oo)(hoe:oo.ExactDict)(hod:oo.data=.dict es ep)
  (hk:∀e∈es,∃b,e.key=.ref b∧s.TypeIs (.ref b) "tuple") (hn:(es.toList.map (·.hash)).Nodup) (hz:es.size≤sizeLine)
  (h:∀h',(∃o' ep'',h'.get? s.heap.objs.size=some o'∧o'.ExactDict∧o'.data=.dict es ep'')→(∀b u,s.heap.get? b=some u→h'.get? b=some u)→Q (.ref s.heap.objs.size) {s with heap:=h'}):
  wpAny (model prog w) A (call (.type "dict") [.ref o]) Q E s:=by
 refine callType_codes (Q₁:=fun v s₁=>v=.ref s.heap.objs.size∧s₁={s with heap:=s.heap.push {cls:=.type "dict",data:=.dict #[]}}) F.kt_called_dict (F.kt_typeCall_dict_1 _) F.entry_dict_init (kt_code_dict_new _ ⟨rfl,rfl⟩) ?_
 rintro v s₁ ⟨rfl,rfl⟩
 have keep:∀b u,s.heap.get? b=some u→(s.heap.push {cls:=.type "dict",data:=.dict #[]}).get? b=some u:=fun b u x=>Heap.get?_push_of_some _ x
 have nT:Shared.TypeIs {s with heap:=s.heap.push {cls:=.type "dict",data:=.dict #[]}} (.ref s.heap.objs.size) "dict" :=⟨_,Heap.get?_push_size _ rfl,rfl⟩
 have oT:Shared.TypeIs {s with heap:=s.heap.push {cls:=.type "dict",data:=.dict #[]}} (.ref o) "dict" :=⟨oo,keep _ _ ho,hoe.1⟩
 have hlt:o<s.heap.objs.size:=Heap.lt_size ho
 refine⟨nT,F.args_dict_init_2 _ _,?_⟩
 unfold Builtin.«dict.__init__»
 refine wpAny_bind ?_
 unfold Builtin.Dict.selfAndRest
 refine wpAny_bind (wpAny_notOrdered_dict nT ?_)
 show wpAny _ _ (pure (s.heap.objs.size,[Value.ref o])) _ _ _
 refine wpAny_pure ?_
 show wpAny _ _ (Builtin.Dict.updateFrom "dict.__init__" s.heap.objs.size (.ref o) [] .none) _ _ _
 unfold Builtin.Dict.updateFrom
 refine wpAny_bind (wpAny_typeOf oT ?_)
 rw[if_neg (by decide)]
 refine wpAny_bind ?_
 unfold Builtin.Dict.merge
 refine wpAny_bind ?_
 unfold Builtin.Dict.readDirectly
 refine wpAny_bind (wpAny_isInstance oT isSubtype_dict_dict ?_)
 simp only[Bool.not_true,Bool.false_eq_true,if_false]
 refine wpAny_bind (wpAny_specialOf oT F.slot_dict_iter.lookup (wpAny_pure ?_))
 simp only[beq_self_eq_true,if_true]
 refine wpAny_bind (wpAny_pure ?_)
 refine merge_tup (Nat.ne_of_gt hlt) hoS (Heap.get?_push_size _ rfl) ⟨rfl,rfl,rfl⟩ rfl (keep _ _ ho) hod (fun e he=>?_) hn hz fun h' new sb=>?_
 ·obtain⟨b,e1,o1,e2,e3⟩:=hk e he
  exact⟨b,e1,o1,keep _ _ e2,e3⟩
 ·exact wpAny_bind (wpAny_pure (wpAny_pure ⟨rfl,h h' new fun b u x=>sb.extBut b u (Nat.ne_of_lt (Heap.lt_size x)) (keep _ _ x)⟩))
end
def HashNd (P:Program) (w:World) (kvs:List (List Key×V)):Prop:=(kvs.map fun p=>tupleKeyHash (mixKind P w) p.1).Nodup
theorem KT.keys {H:Hp}{kvs:List (List Key×V)}{xs:List (List Key×Addr×Value)}(r:KT H kvs xs):kvs.map (·.1)=xs.map (·.1):=by
 induction r with
 |nil=>rfl
 |cons h _ ih=>rw[List.map_cons,List.map_cons,ih,h.1]
section
variable {X:Cx} {pins:List (Addr×Obj)} {σ:St} {H:Hp} {s:Shared} {a:Addr} {A:Around} {E:Value→Shared→Prop}
theorem d_copyT {kvs:List (List Key×V)}{Q:Value→Shared→Prop}(I:Inv X pins σ H s)(e:Rd H a (.dT kvs))(hh:HashNd X.prog X.w kvs)(h:∀p s',H p=none→Inv X pins σ (upd H p (.dT kvs)) s'→Q (.ref p) s'):wpAny (model X.prog X.w) A (call (.type "dict") [.ref a]) Q E s:=by
 obtain⟨z,hd,xs,rel,o,es,ep,ho,hc,hdat,he,his,hn⟩:=dt_rd I.hok e
 have hl:es.size=xs.length:=size_of_entries he
 have hl':kvs.length=xs.length:=Paired.length rel
 refine call_dict_tup hd ho hc hdat (fun x hx=>?_) ?_ (by omega) fun h' new keep=>?_
 ·have hm:x∈xs.map (entryOfKey (tupleKind (mixKind X.prog X.w))):=he▸Array.mem_toList_iff.mpr hx
  obtain⟨y,hy,rfl⟩:=List.mem_map.mp hm
  obtain⟨ob,_,_,h1,h2,_⟩:=his y hy
  exact⟨y.2.1,rfl,ob,h1,h2⟩
 ·rw[he,List.map_map]
  have:xs.map ((fun x:DictEntry=>x.hash)∘entryOfKey (tupleKind (mixKind X.prog X.w)))=kvs.map fun p=>tupleKeyHash (mixKind X.prog X.w) p.1:=by
   have e1:xs.map ((fun x:DictEntry=>x.hash)∘entryOfKey (tupleKind (mixKind X.prog X.w)))=(xs.map (·.1)).map (tupleKeyHash (mixKind X.prog X.w)):=by rw[List.map_map];rfl
   rw[e1,←rel.keys,List.map_map];rfl
  rw[this];exact hh
 ·obtain⟨o',ep',h1,h2,h3⟩:=new
  have fr:H s.heap.objs.size=none:=I.hok.fresh (Nat.le_refl _)
  refine h _ _ fr (I.laid (a:=s.heap.objs.size) (o:=.dT kvs) (t':=s.toks) keep (Nat.le_refl _) ⟨z,beq_eq_false_iff_ne.mpr (Ne.symm (Nat.ne_of_lt I.big)),xs,rel.keeps fun b ys q=>?_,o',es,ep',h1,h2,h3,he,hn⟩)
  rw[upd_ne (ne_of_none q fr)];exact q
end
def rDict (P:Program) (w:World):List V→Hp→VK→Prop:=fun xs H Q=>∃a,xs=[.ref a]∧
 ((∃kvs,Rd H a (.dK kvs)∧∀p,H p=none→Q (.ref p) (upd H p (.dK kvs)))∨∃kvs,Rd H a (.dT kvs)∧HashNd P w kvs∧∀p,H p=none→Q (.ref p) (upd H p (.dT kvs)))
theorem call_dict {X:Cx}:CallR X (.type "dict") (rDict X.prog X.w):=by
 intro pins s σ H xs us Q I r h
 obtain⟨a,rfl,h⟩:=h
 obtain⟨u,rfl,ru⟩:=vals1 r
 cases ru
 rcases h with ⟨kvs,e,q⟩|⟨kvs,e,hh,q⟩
 ·exact d_copyOf I e fun p s' hp I'=>⟨.ref p,_,I',rfl,q p hp⟩
 ·exact d_copyT I e hh fun p s' hp I'=>⟨.ref p,_,I',rfl,q p hp⟩
def eqOk:V→Bool
 | .flt _=>false
 | .byt _=>false
 |_=>true
theorem eq_relV {A:Around}{s:Shared}{v:V}{u u':Value}(hf:eqOk v=true)(r:RelV v u)(r':RelV v u'):SeqAt.EqAt A s u u' true:=by
 cases v with
 |non=>cases(show u=Value.none from r);cases(show u'=Value.none from r');exact SeqAt.EqAt.same _
 |bl b=>cases(show u=Value.bool b from r);cases(show u'=Value.bool b from r');exact SeqAt.EqAt.same _
 |int i=>obtain⟨t,rfl⟩:=r;obtain⟨t',rfl⟩:=r';have h:=SeqAt.EqAt.int_int (A:=A) (s:=s) i t i t';rwa [beq_self_eq_true] at h
 |str x=>obtain⟨t,rfl⟩:=r;obtain⟨t',rfl⟩:=r';have h:=SeqAt.EqAt.str_str (A:=A) (s:=s) x t x t';simpa using h
 |byt b=>exact absurd hf (by simp[eqOk])
 |flt b=>exact absurd hf (by simp[eqOk])
 |ref a=>cases(show u=Value.ref a from r);cases(show u'=Value.ref a from r');exact SeqAt.EqAt.same _
 |ty n=>cases(show u=Value.type n from r);cases(show u'=Value.type n from r');exact SeqAt.EqAt.same _
def SmV (K:PySem.W.Frag) (H:Hp) (v v':V):Prop:=(v=v'∧eqOk v=true)∨∃d e,Dp K H v d∧Dp K H v' e∧d.depth≤60∧PyData.eqv d e=true
theorem SmV.at {X:Cx}{pins:List (Addr×Obj)}{σ:St}{H:Hp}{s:Shared}{A:Around}{v v':V}{u u':Value}(I:Inv X pins σ H s)(h:SmV X.K H v v')(r:RelV v u)(r':RelV v' u')(hu:A.units+60<cLine):SeqAt.EqAt A s u u' true:=by
 rcases h with ⟨rfl,h⟩|⟨d,e,h1,h2,hd,he⟩
 ·exact eq_relV h r r'
 ·obtain⟨as,r1⟩:=h1.reads I r
  obtain⟨bs,r2⟩:=h2.reads I r'
  have:=SeqAt.eqAt_reads d e A s u u' as bs r1 r2 h1.lay h2.lay (by omega)
  rwa [he] at this
section
variable {prog:Program} {w:World} {K:Type} [DecidableEq K] {knd:HeapKind prog w K} {A:Around} {E:Value→Shared→Prop} {s:Shared}
theorem same_tup {nm:String}{a b:Addr}{xa xb:List (K×Addr×Value)}{Q:Bool→Shared→Prop}(hu:knd.room A)(ha:(a==sysModules)=false)(hb:(b==sysModules)=false)
  (da:s.heap.DictOfH knd a xa) (db:s.heap.DictOfH knd b xb) (hl:xa.length=xb.length) (hits:∀x∈xa,∃p,(x.1,p)∈xb∧SeqAt.EqAt A s x.2.2 p.2 true) (h:Q true s):
  wpAny (model prog w) A (Builtin.Dict.samePairs nm a b) Q E s:=by
 obtain⟨oa,es,ep,hoa,_,hda,hea,hia,hna⟩:=da
 obtain⟨ob,es',ep',hob,_,hdb,heb,hib,hnb⟩:=db
 have hla:es.size=xa.length:=size_of_entries hea
 have hlb:es'.size=xb.length:=size_of_entries heb
 unfold Builtin.Dict.samePairs Builtin.Dict.showsAll
 rw[if_neg (show¬(a==sysModules)=true by rw[ha];exact Bool.false_ne_true),if_neg (show¬(b==sysModules)=true by rw[hb];exact Bool.false_ne_true)]
 refine wpAny_bind (wpAny_pure (wpAny_bind (wpAny_pure (wpAny_bind (wpAny_dictEntries hoa hda ?_)))))
 dsimp only
 refine wpAny_bind (wpAny_dictEntries hob hdb ?_)
 rw[if_neg (by rw[hla,hlb,hl];simp)]
 refine wpAny_bind (wpAny_dictEpoch hoa hda (wpAny_bind ?_))
 rw[Std.Legacy.Range.forIn_eq_forIn_range']
 simp only[Std.Legacy.Range.size,Nat.sub_zero,Nat.add_sub_cancel,Nat.div_one]
 refine wpAny_forIn_list _ (fun rest q s'=>s'=s∧q=(none,())∧∀i∈rest,i<es.size) _ ?_ ?_ _ _ ⟨rfl,rfl,fun i hi=>by simpa using hi⟩
 ·rintro x rest q s' ⟨rfl,rfl,hr⟩
  have hx:x<es.size:=hr x List.mem_cons_self
  have hx':x<xa.length:=by omega
  refine wpAny_bind (wpAny_dictEntries hoa hda ?_)
  rw[entry_at hea x,List.getElem?_eq_getElem hx']
  obtain⟨p,hp,he⟩:=hits _ (List.getElem_mem hx')
  have hk:knd.is s'.heap xa[x].1 xa[x].2.1:=hia _ (List.getElem_mem hx')
  show wpAny _ _ (holding _ _>>=_) _ _ _
  refine wpAny_bind (wpAny_holding (wpAny_bind ?_))
  refine wpAny_dictFind_heap (a:=xa[x].2.1) hu hk hob hdb heb hib hnb (fun no=>?_) fun j p' hj=>?_
  ·obtain⟨j,hj⟩:=List.getElem?_of_mem hp
   exact absurd hj (no j p)
  ·obtain⟨j',hj'⟩:=List.getElem?_of_mem hp
   have ej:j=j':=idxH_unique hnb hj hj'
   rw[ej,hj'] at hj
   obtain rfl:p=p':=by cases hj;rfl
   rw[ej]
   refine wpAny_bind (wpAny_dictEntries hob hdb ?_)
   rw[entry_at heb j',hj']
   refine wpAny_holding (he prog w _ _ ?_)
   show wpAny _ _ (if (!true)=true then _ else _) _ _ _
   rw[if_neg (by decide)]
   refine wpAny_bind (wpAny_dictEpoch hoa hda ?_)
   rw[if_neg (by simp)]
   exact wpAny_pure ⟨rfl,rfl,fun i hi=>hr i (List.mem_cons_of_mem _ hi)⟩
 ·rintro q s' ⟨rfl,rfl,_⟩
  exact wpAny_pure h
theorem eq_tup {a b:Addr}{xa xb:List (K×Addr×Value)}{Q:Value→Shared→Prop}(hu:knd.room A.in1)(hu':A.units<cLine)(ha:(a==sysModules)=false)(hb:(b==sysModules)=false)
  (da:s.heap.DictOfH knd a xa) (db:s.heap.DictOfH knd b xb) (hl:xa.length=xb.length) (hits:∀x∈xa,∃p,(x.1,p)∈xb∧SeqAt.EqAt A.in1 s x.2.2 p.2 true) (h:Q (.bool true) s):
  wpAny (model prog w) A (compareOp .Eq (.ref a) (.ref b)) Q E s:=by
 refine wpAny_richCompare_same_room (op:=.Eq) da.typeIs db.typeIs PySem.F.slot_dict_eq (wpAny_call_entry PySem.F.slot_dict_eq da.typeIs PySem.F.entry_dict_eq ?_ (PySem.F.args_dict_eq_2 _ _)) hu'
 show wpAny _ _ (Builtin.Dict.dictSlotArgs "__eq__" ⟨[.ref a,.ref b],[]⟩>>=_) _ _ s
 refine wpAny_bind ?_
 unfold Builtin.Dict.dictSlotArgs
 refine wpAny_bind (wpAny_notOrdered_dict da.typeIs ?_)
 show wpAny _ _ (pure (Value.ref a,Value.ref b)) _ _ s
 refine wpAny_pure (wpAny_bind (wpAny_isInstance (T:= "dict") db.typeIs PySem.F.sub_dict_dict ?_))
 simp only[Bool.not_true,Bool.false_eq_true,if_false]
 refine wpAny_bind (wpAny_pure (wpAny_bind (wpAny_pure (wpAny_bind (same_tup hu ha hb da db hl hits ?_)))))
 exact wpAny_pure ⟨_,rfl,(fun x=>nomatch x),h⟩
end
theorem mem_valV {κ:Type} [DecidableEq κ]{kvs:List (κ×V)}{k:κ}{v:V}(h:valV kvs k=some v):(k,v)∈kvs:=by
 unfold valV at h
 obtain⟨p,hp,rfl⟩:=Option.map_eq_some_iff.mp h
 have:=List.find?_some hp
 have e:p.1=k:=of_decide_eq_true this
 rw[←e]
 exact List.mem_of_find?_eq_some hp
theorem pair_mem {α β:Type}{R:α→β→Prop}:∀{xs:List α} {ys:List β},Paired R xs ys→∀y∈ys,∃x∈xs,R x y
 |_,_,.nil,_,h=>by simp at h
 |_,_,.cons r t,y,h=>by
  rcases List.mem_cons.mp h with rfl|h
  ·exact⟨_,List.mem_cons_self,r⟩
  ·obtain⟨x,hx,q⟩:=pair_mem t y h
   exact⟨x,List.mem_cons_of_mem _ hx,q⟩
theorem pair_mem' {α β:Type}{R:α→β→Prop}:∀{xs:List α} {ys:List β},Paired R xs ys→∀x∈xs,∃y∈ys,R x y
 |_,_,.nil,_,h=>by simp at h
 |_,_,.cons r t,y,h=>by
  rcases List.mem_cons.mp h with rfl|h
  ·exact⟨_,List.mem_cons_self,r⟩
  ·obtain⟨x,hx,q⟩:=pair_mem' t y h
   exact⟨x,List.mem_cons_of_mem _ hx,q⟩
section
variable {X:Cx}
theorem hits_t {pins:List (Addr×Obj)}{σ:St}{H:Hp}{s:Shared}{A:Around}{ka kb:List (List Key×V)}{va vb:List (List Key×Addr×Value)}(I:Inv X pins σ H s)(ra:KT H ka va)(rb:KT H kb vb)(hu:A.units+60<cLine)
  (h:∀p∈ka,∃v,valV kb p.1=some v∧SmV X.K H p.2 v):∀x∈va,∃p,(x.1,p)∈vb∧SeqAt.EqAt A s x.2.2 p.2 true:=by
 intro x hx
 obtain⟨p,hp,e1,_,r1⟩:=pair_mem ra x hx
 obtain⟨v,hv,sm⟩:=h p hp
 obtain⟨y,hy,e2,_,r2⟩:=pair_mem' rb _ (mem_valV hv)
 refine⟨y.2,?_,sm.at I r1 r2 hu⟩
 rw[←e1,show p.1=y.1 from e2]
 exact hy
end
theorem nolen_lri:typeLookup (.type "list_reverseiterator") "__len__" =pure none:=by rw[typeLookup_type,builtinLookup_eq_fast];kernel_rfl
theorem hint_lri:typeLookup (.type "list_reverseiterator") "__length_hint__" =pure (some (.builtin "list_reverseiterator.__length_hint__")):=by rw[typeLookup_type,builtinLookup_eq_fast];kernel_rfl
section
variable {prog:Program} {w:World} {A:Around} {E:Value→Shared→Prop} {s:Shared} {I:Addr} {fp wr:List Addr} {G:Array GenState→Array GenState→Prop} {n:Nat} {P:Nat→Value→Prop} {St:Nat→Shared→Prop}
theorem extend_rev {R:Result→Shared→Prop}(W:WalksS prog w A.in1 I fp wr G n P St)(hT:∀i s,St i s→s.TypeIs (.ref I) "list_reverseiterator")(S:Addr)(res:Value)(c₀:Nat)(hst:St 0 s)(hSf:S∉fp)(hI:I∈fp)
  (hS:s.heap.get? S=some {cls:=.type "list",data:=.seq #[] c₀}) (hn:n≤sizeLine)
  (hR:∀s' acc' c',Moved (S::wr) G s s'→s'.heap.get? S=some {cls:=.type "list",dict:=none,data:=.seq acc' c',slots:= #[]}→ItemsOf P acc' n→R (.ok (.ret res)) s'):
  wpAny (model prog w) A.in1 (Builtin.List.listExtendWith (.ref S) (.ref I) res)
   (fun fin s'=>match fin with| .done f=>R (.ok f) s'| .again c'=>c'.quiet=true∧codeAny (model prog w) A c' R s') (fun e s'=>R (.error e) s') s:=by
 have hSI:S≠I:=fun e=>hSf (e▸hI)
 unfold Builtin.List.listExtendWith
 refine wpAny_bind (wpAny_typeOf (hT 0 _ hst) ?_)
 have h1:Builtin.List.listSameRef (.ref S) (.ref I)=false:=by simp[Builtin.List.listSameRef,hSI]
 rw[if_neg (by rw[h1];decide)]
 refine wpAny_bind (W.self 0 _ _ _ hst (wpAny_bind (wpAny_holding ?_)))
 unfold Builtin.List.listLengthHint
 refine wpAny_bind (wpAny_specialOf (hT 0 _ hst) nolen_lri ?_)
 show wpAny _ A.in1 (specialOf (Value.ref I) (Str.ofString "__length_hint__")>>=_) _ _ _
 refine wpAny_bind (wpAny_specialOf (hT 0 _ hst) hint_lri ?_)
 generalize hid:("list_reverseiterator.__length_hint__" :String)=id0
 wp_delta
 rw[show splitId id0=some ("list_reverseiterator", "__length_hint__") from by subst hid;decide+kernel]
 subst hid
 refine wpAny_bind (wpAny_isInstance (b:=true) (hT 0 _ hst) (by rw[isSubtype_type];kernel_rfl) (wpAny_pure ?_))
 rw[if_neg (by decide)]
 exact wpAny_pure ⟨plainId_quiet F.plain_extend_loop _,codeAny_extend_loopS W hn _ hSf _ n 0 _ _ _ rfl (Nat.zero_le _) hst hS (ItemsOf.nil P) fun s' acc' c' hm hS' hacc=>hR s' acc' c' hm hS' hacc⟩
theorem call_list_rev {Q:Value→Shared→Prop}(W:WalksS prog w A.in1.in1 I fp wr G n P St)(hT:∀i s,St i s→s.TypeIs (.ref I) "list_reverseiterator")(hst:St 0 s)(hfp:∀b∈fp,b<s.heap.objs.size)(hI:I∈fp)(hn:n≤sizeLine)
  (hQ:∀s' acc' c',Moved (s.heap.objs.size::wr) G {s with heap:=s.heap.push {cls:=.type "list",data:=.seq #[]}} s'→
   s'.heap.get? s.heap.objs.size=some {cls:=.type "list",dict:=none,data:=.seq acc' c',slots:= #[]}→ItemsOf P acc' n→Q (.ref s.heap.objs.size) s'):
  wpAny (model prog w) A (call (.type "list") [.ref I]) Q E s:=by
 have hSf:s.heap.objs.size∉fp:=fun hm=>Nat.lt_irrefl _ (hfp _ hm)
 refine callType_codes (Q₁:=fun v s₁=>v=.ref s.heap.objs.size∧s₁={s with heap:=s.heap.push {cls:=.type "list",data:=.seq #[]}}) F.called_list (F.typeCall_list_1 _) F.entry_list_init
  (code_list_new _ ⟨rfl,rfl⟩) fun v s₁ h₁=>?_
 obtain⟨rfl,rfl⟩:=h₁
 have hS:(s.heap.push {cls:=.type "list",data:=.seq #[]}).get? s.heap.objs.size=some {cls:=.type "list",data:=.seq #[]}:=Heap.get?_push_size _ rfl
 refine⟨⟨_,hS,rfl⟩,F.args_list_init_2 _ _,?_⟩
 have hst₁:=W.frame 0 s _ s.toks hst (Nat.le_refl _) fun b _ o e=>Heap.get?_push_of_some {cls:=.type "list",data:=.seq #[]} e
 show wpAny _ A.in1.in1 (do let old←Builtin.List.listItems (.ref s.heap.objs.size);Builtin.List.listUpdate (.ref s.heap.objs.size) (fun _=> #[]);letGo old.toList.reverse;Builtin.List.listExtendWith (.ref s.heap.objs.size) (.ref I) .none) _ _ _
 refine wpAny_bind ?_
 unfold Builtin.List.listItems
 refine wpAny_bind (wpAny_seqItems hS rfl (wpAny_pure ?_))
 show wpAny _ A.in1.in1 (updateSeq s.heap.objs.size (fun _=> #[])>>=fun _=>letGo (#[]:Array Value).toList.reverse>>=fun _=>Builtin.List.listExtendWith (.ref s.heap.objs.size) (.ref I) .none) _ _ _
 refine wpAny_bind (wpAny_updateSeq hS rfl ?_)
 have hS₂:=Heap.get?_update_self (Obj.mapSeq (fun _=>(#[]:Array Value))) hS rfl
 have oth:∀b o,b≠s.heap.objs.size→(s.heap.push {cls:=.type "list",data:=.seq #[]}).get? b=some o→((s.heap.push {cls:=.type "list",data:=.seq #[]}).update s.heap.objs.size (Obj.mapSeq (fun _=>(#[]:Array Value)))).get? b=some o:=
  fun b o hb e=>(Heap.get?_update_other _ _ (Ne.symm hb)).trans e
 refine wpAny_bind (wpAny_letGo ?_)
 refine extend_rev W hT _ .none _ (W.frame 0 _ _ s.toks hst₁ (Nat.le_refl _) fun b hb o e=>oth b o (fun h=>hSf (h▸hb)) e) hSf hI hS₂ hn fun s' acc' c' hm hS' hacc=>?_
 exact⟨rfl,hQ s' acc' c' (Moved.trans W.gtrans ((Moved.refl W.grefl).then_heap (Nat.le_refl _) fun b o hb e=>oth b o (fun h=>hb (h▸List.mem_cons_self)) e) hm) hS' hacc⟩
end
def tListRev (K:PySem.W.Frag) (te:TE):TE:=fun σ H Q=>te σ H fun x H1=>∃l ys,x=.ref l∧SqL K H1 l ys∧∀p,H1 p=none→Q (.ref p) (upd H1 p (.lst ys.reverse))
theorem pe_listRev {X:Cx}{e:Expr}{te:TE}{p1 p2 pos1 pos2:Pos}(hc:X.calm=true)(hg:Gl X "list")(hm:X.mg "list" =none)(hg':Gl X "reversed")(hm':X.mg "reversed" =none)(he:PE X e te)
  (hs:starEach [Expr.Call (.Name "reversed" p2) [e] [] pos2] X.env=[(false,eval (.Call (.Name "reversed" p2) [e] [] pos2) X.env)]:=by rfl) (hs':starEach [e] X.env=[(false,eval e X.env)]:=by rfl):
  PE X (.Call (.Name "list" p1) [.Call (.Name "reversed" p2) [e] [] pos2] [] pos1) (tListRev X.K te):=by
 intro pins s σ H Q I h
 refine wpAny_Call_Name_kw (ld_blt I hg hm bt_list ?_ (by decide) (by decide))
 refine PyProof.Rows.callWith_type1 ?_ hs rfl
 rw[hs]
 show wpAny _ _ (spliced [(false,eval (.Call (.Name "reversed" p2) [e] [] pos2) X.env)]) _ _ s
 refine Calls.spliced_cons ?_
 refine wpAny_Call_Name_kw (ld_blt I hg' hm' bt_reversed ?_ (by decide) (by decide))
 refine PyProof.Rows.callWith_type1 ?_ hs' rfl
 rw[hs']
 show wpAny _ _ (spliced [(false,eval e X.env)]) _ _ s
 refine Calls.spliced_cons (thn (he pins s σ H _ I h) fun u s1 ⟨x,H1,I1,ru,l,ys,ex,hq,q⟩=>Calls.spliced_nil ?_)
 subst ex
 cases(show u=Value.ref l from ru)
 obtain⟨its,rv,pl,hz⟩:=I1.list hq
 have hlL:l<s1.heap.objs.size:=by obtain⟨o,ho,_⟩:=pl.isList;exact Heap.lt_size ho
 refine call_reversed_list pl.isList (Calls.spliced_nil ?_)
 have kp:∀b o,s1.heap.get? b=some o→(s1.heap.push (revObj l ((its.toArray.size:Int) - 1))).get? b=some o:=fun b o z=>Heap.get?_push_of_some _ z
 have I2:=I1.kept (t':=s1.toks) kp
 have hI:(s1.heap.push (revObj l ((its.toArray.size:Int) - 1))).IsRevIter s1.heap.objs.size l ((its.toArray.size:Int) - 1):=⟨_,Heap.get?_push_size _ rfl,rfl,rfl⟩
 have hl2:(s1.heap.push (revObj l ((its.toArray.size:Int) - 1))).IsList l its.toArray:=pl.isList.at fun o z=>kp _ _ z
 have W:=(Walks.listRev (prog:=X.prog) (w:=X.w) (A:=X.A.in1.in1) (I1.ok.hd hc) s1.heap.objs.size l (Nat.ne_of_lt hlL) its.toArray).toS
 have hz2:(s1.heap.push (revObj l ((its.toArray.size:Int) - 1))).objs.size=s1.heap.objs.size+1:=Heap.size_push ..
 have hle:its.toArray.size≤sizeLine:=by rw[List.size_toArray,←rv.length];exact hz
 refine call_list_rev W (fun i s' st=>st.2.1.typeIs) ⟨Nat.zero_le _,by simpa using hI,hl2⟩ (fun b hb=>?_) (by simp) hle fun s' acc c hmv hS ⟨ha1,ha2⟩=>?_
 ·show b<(s1.heap.push _).objs.size
  rw[hz2]
  rcases List.mem_cons.mp hb with rfl|hb
  ·exact Nat.lt_succ_self _
  ·rw[List.mem_singleton.mp hb];exact Nat.lt_succ_of_lt hlL
 ·have es:=Moved.eq_with hmv
  have hH1:H1 (s1.heap.objs.size+1)=none:=I1.hok.fresh (Nat.le_succ _)
  have hv:Vals ys.reverse acc.toList:=by
   have e:acc.toList=its.reverse:=by
    refine List.ext_getElem? fun j=>?_
    rcases Nat.lt_or_ge j its.length with hj|hj
    ·have hj':j<acc.size:=by rw[ha1];simpa using hj
     have:=ha2 j acc[j] (Array.getElem?_eq_getElem hj')
     rw[List.getElem?_reverse hj,Array.getElem?_toList,Array.getElem?_eq_getElem hj',←this]
     simp
    ·rw[List.getElem?_eq_none (by rw[Array.length_toList,ha1];simpa using hj),List.getElem?_eq_none (by simpa using hj)]
   rw[e];exact rv.reverse
  have hS':s'.heap.get? (s1.heap.objs.size+1)=some {cls:=.type "list",dict:=none,data:=.seq acc c,slots:= #[]}:=by rw[←hz2];exact hS
  have J:=Inv.turnedLaid (a:=s1.heap.objs.size+1) (o:=.lst ys.reverse) (h':=s'.heap) (t':=s'.toks) (fp:=[s1.heap.objs.size]) I2 (fun b hb=>?_) (fun b o hb z=>?_) (Heap.get?_none_of_le (by show(s1.heap.push _).objs.size≤_;rw[hz2];exact Nat.le_refl _))
   (show ObjOk X.prog X.w _ s'.heap _ (.lst ys.reverse) from⟨by rw[List.length_reverse];exact hz,acc.toList,c,hv,by simpa using hS'⟩)
  ·rw[es]
   refine⟨.ref (s1.heap.objs.size+1),_,J,?_,q _ hH1⟩
   show Value.ref (s1.heap.push _).objs.size=_
   rw[hz2]
  ·rw[List.mem_singleton.mp hb];exact I1.fpOk (Nat.le_refl _) (I1.hok.fresh (Nat.le_refl _))
  ·refine hmv.heap b o (fun hx=>?_) (Heap.get?_push_of_some _ z)
   rcases List.mem_cons.mp hx with e|hx
   ·have:=Heap.lt_size z;rw[e] at this;exact Nat.lt_irrefl _ this
   ·exact hb hx
theorem Room.one {k:Nat}{A:Around}(r:Room k A):A.units+1<cLine:=by have:=r.un;omega
section
variable {X:Cx} {pins:List (Addr×Obj)} {σ:St} {H:Hp} {s:Shared} {d:Addr} {u:HO} {o:Obj}
theorem ObjOk.upd {P:Program}{w:World}{h:Heap}{b:Addr}{x v:HO}(ok:ObjOk P w H h b x)(nt:∀xs,H d≠some (.tup xs))(no:∀y,H d≠some (.own y)):ObjOk P w (L2.upd H d v) h b x:=
 ok.stay (fun _ _ _ q=>q) (fun c q=>by rw[upd_ne (fun z=>by rw[z] at q;exact no _ q)];exact q) fun c xs q=>by rw[upd_ne (fun z=>by rw[z] at q;exact nt _ q)];exact q
theorem Inv.freeze (I:Inv X pins σ H s)(e:H d=some u)(mu:Mut (some u)):∃o,Inv X pins σ (upd H d (.frz o u)) s∧s.heap.get? d=some o:=by
 have ok:=I.hok d u e
 obtain⟨o,ho⟩:∃o,s.heap.get? d=some o:=by
  cases u with
  |lst xs=>obtain⟨_,_,_,_,z⟩:=ok;exact⟨_,z⟩
  |dK kvs=>obtain⟨_,_,_,_,o,_,_,z,_⟩:=ok;exact⟨o,z⟩
  |dT kvs=>obtain⟨_,_,_,_,o,_,_,z,_⟩:=ok;exact⟨o,z⟩
  |set S n=>obtain⟨o,_,_,_,z,_⟩:=ok;exact⟨o,z⟩
  |ins C dx fs=>obtain⟨_,_,_,z,_⟩:=ok;exact⟨_,z⟩
  |ext φ=>obtain⟨_,z,_⟩:=ok;exact z
  |_=>exact mu.elim
 have mu':Mut (H d):=by rw[e];exact mu
 refine⟨o,I.write (t':=s.toks) (h':=s.heap) (x:=d) (e:=d) (o:=.frz o u) mu' (.inl rfl) (fun b v _ q=>q) ⟨o,ho⟩ ⟨ho,?_⟩,ho⟩
 exact ok.upd (fun xs z=>by rw[z] at mu';exact mu') (fun y z=>by rw[z] at mu';exact mu')
theorem Inv.thaw (I:Inv X pins σ H s)(e:H d=some (.frz o u))(nb:∀o' u',X.H₀ d≠some (.frz o' u')):Inv X pins σ (upd H d u) s:=by
 have ne:∀b,H b=none→b≠d:=fun b n z=>by rw[z,e] at n;cases n
 have nt:∀xs,H d≠some (.tup xs):=fun xs z=>by rw[e] at z;cases z
 have no:∀y,H d≠some (.own y):=fun y z=>by rw[e] at z;cases z
 have B:=I.base
 refine⟨I.ok,I.os,I.bare,⟨B.keep,B.slot,fun b v q n hx=>?_,B.there,fun b xs q=>?_,fun b v w q=>?_,fun b ps q=>?_⟩,I.loc,I.cell,?_,fun x c q=>?_,fun p hp=>?_,fun b v q=>?_,I.len⟩
 ·have:=B.free b v q n hx
  rw[upd_ne (ne b this)];exact this
 ·have:=B.tups b xs q
  rw[upd_ne (fun z=>by rw[z] at this;exact nt _ this)];exact this
 ·have:=B.frzs b v w q
  rw[upd_ne (fun z=>by rw[z] at q;exact nb _ _ q)];exact this
 ·obtain⟨more,this⟩:=B.tbls b ps q
  exact⟨more,by rw[upd_ne (fun z=>by rw[z,e] at this;cases this)];exact this⟩
 ·rw[upd_ne (ne _ I.free)];exact I.free
 ·rw[upd_ne (ne _ (I.freeC x c q))];exact I.freeC x c q
 ·obtain⟨h1,h2,h3⟩:=I.pin p hp
  exact⟨h1,by rw[upd_ne (ne _ h2)];exact h2,h3⟩
 ·by_cases hb:b=d
  ·subst hb
   rw[upd_same] at q;cases q
   obtain⟨_,z⟩:=I.hok b _ e
   exact z.upd nt no
  ·rw[upd_ne hb] at q
   exact(I.hok b v q).upd nt no
end
noncomputable def frzD (D:Ends) (d:Addr) (o:Obj) (u:HO):Ends:=
 ⟨fun σ1 H1=>H1 d=some (.frz o u)∧D.nx σ1 (upd H1 d u),fun v H1=>H1 d=some (.frz o u)∧D.rt v (upd H1 d u),fun σ1 H1=>H1 d=some (.frz o u)∧D.bk σ1 (upd H1 d u),fun σ1 H1=>H1 d=some (.frz o u)∧D.ct σ1 (upd H1 d u)⟩
def tFrz (t:TS):TS:=fun D σ H=>∃d u,H d=some u∧Mut (some u)∧∀o,t (frzD D d o u) σ (upd H d (.frz o u))
theorem ps_frz {X:Cx}{a:Stmt}{t:TS}(h:PS X a t):PS X a (tFrz t):=by
 intro pins s σ H D I ht
 obtain⟨d,u,e,mu,q⟩:=ht
 have nb:∀o' u',X.H₀ d≠some (.frz o' u'):=fun o' u' z=>by
  have:=I.base.frzs d o' u' z
  rw[e] at this;cases this;exact mu
 obtain⟨o,I1,_⟩:=I.freeze e mu
 refine thn (h pins s σ _ _ I1 (q o)) fun f s' hf=>?_
 cases f with
 |next=>obtain⟨σ',H',I',e',k⟩:=hf;exact⟨σ',_,I'.thaw e' nb,k⟩
 |brk=>obtain⟨σ',H',I',e',k⟩:=hf;exact⟨σ',_,I'.thaw e' nb,k⟩
 |cont=>obtain⟨σ',H',I',e',k⟩:=hf;exact⟨σ',_,I'.thaw e' nb,k⟩
 |ret v=>obtain⟨x,σ',H',I',r,e',k⟩:=hf;exact⟨x,σ',_,I'.thaw e' nb,r,k⟩
noncomputable def szU:HO→Nat
 | .dK kvs=>kvs.length
 | .dT kvs=>kvs.length
 |_=>0
def DictU:HO→Prop
 | .dK _=>True
 | .dT _=>True
 |_=>False
noncomputable def KeyAt (H:Hp):HO→Nat→V→V→Prop
 | .dK kvs,i,x,v=>∃k,kvs[i]?=some (k,v)∧x=kV k
 | .dT kvs,i,x,v=>∃k b,kvs[i]?=some (k,v)∧x=.ref b∧H b=some (.tup (k.map kV))
 |_,_,_,_=>False
theorem paired_get {α β:Type}{R:α→β→Prop}:∀{xs:List α} {ys:List β} (_:Paired R xs ys) (i:Nat) (hi:i<ys.length),∃x,xs[i]?=some x∧R x ys[i]
 |_,_,.nil,i,hi=>absurd hi (Nat.not_lt_zero _)
 |_,_,.cons r _,0,_=>⟨_,rfl,r⟩
 |_,_,.cons _ t,i+1,hi=>by
  obtain⟨x,h1,h2⟩:=paired_get t i (by simpa using hi)
  exact⟨x,by simpa using h1,by simpa using h2⟩
theorem raw_of {P:Program}{w:World}{H:Hp}{h:Heap}{d:Addr}{o:Obj}{u:HO}(ok:HOk P w H h)(e:H d=some (.frz o u))(hu:DictU u):(d==sysModules)=false∧h.get? d=some o∧o.ExactDict∧
  ∃es ep,o.data=.dict es ep∧es.size=szU u∧∀i (hi:i<es.size),∃x v,KeyAt H u i x v∧RelV x es[i].key∧RelV v es[i].val:=by
 obtain⟨ho,k⟩:=ok d _ e
 cases u with
 |dK kvs=>
  obtain⟨z,hs,vs,rel,o',es,ep,h1,h2,h3,h4,h5,h6⟩:=k
  rw[ho] at h1;cases h1
  have hl:es.size=vs.length:=by rw[←h5.length];simp
  refine⟨hs,ho,h2,es,ep,h3,by rw[hl,←rel.length];rfl,fun i hi=>?_⟩
  obtain⟨p,hp,e1,r1⟩:=paired_get rel i (by omega)
  obtain⟨q1,q2⟩:=h5.get? (i:=i) (e:=es[i]) (k:=vs[i].1) (v:=vs[i].2) (by simp[hi]) (by rw[List.getElem?_eq_getElem])
  refine⟨kV p.1,p.2,⟨p.1,hp,rfl⟩,?_,by rw[q2];exact r1⟩
  rw[←e1] at q1
  rcases keyIs_shape q1 with ⟨j,t,ek,ev⟩|⟨j,t,ek,ev⟩<;>rw[ek,ev]<;>exact⟨t,rfl⟩
 |dT kvs=>
  obtain⟨z,hs,xs,rel,o',es,ep,h1,h2,h3,h4,h5⟩:=k
  rw[ho] at h1;cases h1
  have hl:es.size=xs.length:=size_of_entries h4
  refine⟨hs,ho,h2,es,ep,h3,by rw[hl,←Paired.length rel];rfl,fun i hi=>?_⟩
  obtain⟨p,hp,e1,e2,r1⟩:=paired_get rel i (by omega)
  have ee:es[i]=entryOfKey (tupleKind (mixKind P w)) xs[i]:=by
   have:=entry_at h4 i
   rw[List.getElem?_eq_getElem (by omega),Array.getElem?_eq_getElem hi] at this
   exact Option.some.inj this
  refine⟨.ref xs[i].2.1,p.2,⟨p.1,_,hp,rfl,e2⟩,?_,?_⟩
  ·rw[ee];rfl
  ·rw[ee];exact r1
 |_=>exact hu.elim
section
variable {prog:Program} {w:World} {A:Around} {E:Value→Shared→Prop} {s:Shared} {d it:Addr} {o:Obj} {es:Array DictEntry} {i ep:Nat}
theorem rk_iter {Q:Value→Shared→Prop}(hd:(d==sysModules)=false)(ho:s.heap.get? d=some o)(hc:o.ExactDict)(hdat:o.data=.dict es ep)
  (hQ:Q (.ref s.heap.objs.size) {s with heap:=s.heap.push {cls:=.type "dict_keyiterator",data:=.fields #[.ref d,.int 0 0,.int es.size 0,.int ep 0]}}):wpAny (model prog w) A (pyIter (.ref d)) Q E s:=by
 have hT:s.TypeIs (.ref d) "dict" :=⟨o,ho,hc.1⟩
 refine wpAny_pyIter_slot hT F.slot_dict_iter (wpAny_call_entry F.slot_dict_iter hT F.entry_dict_iter ?_ (F.args_dict_iter_1 _))
 unfold Builtin.«dict.__iter__» Builtin.Dict.dictSlotNone
 refine wpAny_bind (wpAny_bind (wpAny_notOrdered_dict hT ?_))
 show wpAny _ _ (pure (Value.ref d)) _ _ s
 refine wpAny_pure ?_
 show wpAny _ _ (Builtin.Dict.showsAll d>>=_) _ _ s
 unfold Builtin.Dict.showsAll
 rw[if_neg (by rw[hd];exact Bool.false_ne_true)]
 refine wpAny_bind (wpAny_pure (wpAny_bind (wpAny_dictEntries ho hdat (wpAny_bind (wpAny_dictEpoch ho hdat ?_)))))
 refine wpAny_bind (wpAny_newObj_type (wpAny_pure ⟨_,rfl, "dict_keyiterator",_,⟨_,Heap.get?_push_size _ rfl,rfl⟩,F.slot_dict_keyiterator_next.lookup,?_⟩))
 simpa[rawInt] using hQ
theorem rk_next {Q:Option Value→Shared→Prop}(hit:s.heap.IsKeyIter it d i es.size ep)(hod:s.heap.get? d=some o)(hdd:o.data=.dict es ep)(hi:i<es.size)
  (hQ:∀h',h'.IsKeyIter it d (i+1) es.size ep→Heap.SameBut it s.heap h'→Q (some es[i].key) {s with heap:=h'}):wpAny (model prog w) A (pyNext (.ref it)) Q E s:=by
 obtain⟨oi,ho,hc,hd⟩:=id hit
 unfold pyNext
 refine wpAny_bind (wpAny_attempt (wpAny_callSpecial?_slot (name:=Str.ofString "__next__") hit.typeIs F.slot_dict_keyiterator_next
  (wpAny_call_entry F.slot_dict_keyiterator_next hit.typeIs F.entry_dict_keyiterator_next ?_ (F.args_dict_keyiterator_next_1 _))))
 refine wpAny_bind (wpAny_pure (wpAny_bind (wpAny_bind ?_)))
 first|refine wpAny_bind (wpAny_typeNameOfWhole_keyiter hit.typeIs (wpAny_pure ?_))|refine wpAny_bind (wpAny_typeNameOf_keyiter hit.typeIs (wpAny_pure ?_))
 refine wpAny_bind (wpAny_fieldsOf ho hd ?_)
 simp only[show Builtin.Dict_items.ownsTuple "dict_keyiterator" =false by decide,Bool.false_eq_true,if_false]
 show wpAny _ _ (if (Value.ref d==Value.none)=true then _ else _) _ _ s
 rw[if_neg (show¬((Value.ref d==Value.none)=true) from Bool.false_ne_true)]
 refine wpAny_bind (wpAny_pure (wpAny_bind (wpAny_dictEntries hod hdd ?_)))
 rw[if_neg (by simp)]
 refine wpAny_bind (wpAny_pure (wpAny_bind (wpAny_dictEpoch hod hdd ?_)))
 rw[if_neg (by simp)]
 refine wpAny_pure ?_
 simp only[show¬((i:Int)<0) from by omega,if_false,Int.toNat_natCast,Array.getElem?_eq_getElem hi]
 refine wpAny_bind ?_
 first|refine wpAny_bind (wpAny_typeNameOfWhole_keyiter hit.typeIs (wpAny_pure ?_))|refine wpAny_bind (wpAny_typeNameOf_keyiter hit.typeIs (wpAny_pure ?_))
 refine wpAny_bind (wpAny_isOneOf_keyiter hit.typeIs ?_)
 show wpAny _ _ (setField (.ref it) 1 (rawInt ((i:Int)+1))>>=_) _ _ s
 refine wpAny_bind (wpAny_setField ho hd (by simp) ?_)
 have new:(s.heap.update it (Obj.mapFields (·.setIfInBounds 1 (rawInt ((i:Int)+1))))).IsKeyIter it d (i+1) es.size ep:=
  ⟨_,Heap.get?_update_self _ ho (Obj.isFreed_of_fields (Obj.data_mapFields hd _)),(Obj.cls_mapFields ..).trans hc,by rw[Obj.data_mapFields hd];simp[rawInt]⟩
 refine wpAny_bind (wpAny_holding (wpAny_bind (wpAny_isOneOf_keyiter (s:={s with heap:=s.heap.update it (Obj.mapFields (·.setIfInBounds 1 (rawInt ((i:Int)+1))))}) new.typeIs ?_)))
 show wpAny _ _ (pure es[i].key) _ _ _
 exact wpAny_pure (wpAny_pure ⟨_,rfl,wpAny_pure (hQ _ new (Heap.SameBut.update ..))⟩)
theorem rk_end {Q:Option Value→Shared→Prop}(hh:A.handled=none)(hit:s.heap.IsKeyIter it d i es.size ep)(hod:s.heap.get? d=some o)(hdd:o.data=.dict es ep)(hi:es.size≤i)
  (hQ:∀h',Heap.ExtBut it s.heap h'→Q none {s with heap:=h'}):wpAny (model prog w) A (pyNext (.ref it)) Q E s:=by
 obtain⟨oi,ho,hc,hd⟩:=id hit
 unfold pyNext
 refine wpAny_bind (wpAny_attempt (wpAny_callSpecial?_slot (name:=Str.ofString "__next__") hit.typeIs F.slot_dict_keyiterator_next
  (wpAny_call_entry F.slot_dict_keyiterator_next hit.typeIs F.entry_dict_keyiterator_next ?_ (F.args_dict_keyiterator_next_1 _))))
 refine wpAny_bind (wpAny_pure (wpAny_bind (wpAny_bind ?_)))
 first|refine wpAny_bind (wpAny_typeNameOfWhole_keyiter hit.typeIs (wpAny_pure ?_))|refine wpAny_bind (wpAny_typeNameOf_keyiter hit.typeIs (wpAny_pure ?_))
 refine wpAny_bind (wpAny_fieldsOf ho hd ?_)
 simp only[show Builtin.Dict_items.ownsTuple "dict_keyiterator" =false by decide,Bool.false_eq_true,if_false]
 show wpAny _ _ (if (Value.ref d==Value.none)=true then _ else _) _ _ s
 rw[if_neg (show¬((Value.ref d==Value.none)=true) from Bool.false_ne_true)]
 refine wpAny_bind (wpAny_pure (wpAny_bind (wpAny_dictEntries hod hdd ?_)))
 rw[if_neg (by simp)]
 refine wpAny_bind (wpAny_pure (wpAny_bind (wpAny_dictEpoch hod hdd ?_)))
 rw[if_neg (by simp)]
 refine wpAny_pure ?_
 simp only[show¬((i:Int)<0) from by omega,if_false,Int.toNat_natCast,Array.getElem?_eq_none hi]
 refine wpAny_bind ?_
 first|refine wpAny_bind (wpAny_typeNameOfWhole_keyiter hit.typeIs (wpAny_pure ?_))|refine wpAny_bind (wpAny_typeNameOf_keyiter hit.typeIs (wpAny_pure ?_))
 show wpAny _ _ (setField (.ref it) 0 .none>>=_) _ _ s
 refine wpAny_bind (wpAny_setField ho hd (by simp) ?_)
 show wpAny _ _ (newExc (.type "StopIteration") []>>=_) _ _ _
 refine wpAny_bind ?_
 simp only[newExc,newTuple]
 refine wpAny_bind (wpAny_newObj_type ?_ (by size_fits))
 refine wpAny_bind (m:=firstArgMember _ _) (wpAny_of_eq (a:=Value.none) (by first|rfl|(simp only[firstArgMember];rfl)) (wpAny_newObj_type ?_ (by size_fits)))
 simp only[raiseNew]
 refine wpAny_bind (wpAny_handled ?_)
 rw[show A.in1.handled=none from hh]
 refine wpAny_bind (wpAny_pure (wpAny_throw ?_))
 refine wpAny_bind (wpAny_isInstance (T:= "StopIteration") (b:=true) ⟨_,Heap.get?_push_size _ rfl,rfl⟩ isSubtype_stop ?_)
 exact wpAny_pure (hQ _ (((Heap.SameBut.update ..).extBut.push _).push _))
end
noncomputable def Itk (d:Addr) (o:Obj) (u:HO):It:=
 ⟨fun i H=>H d=some (.frz o u)∧i<szU u,fun i H x H'=>H'=H∧∃v,KeyAt H u i x v,fun i H=>H d=some (.frz o u)∧szU u≤i⟩
theorem keyiter_at {h h':Heap}{it d:Addr}{i n ep:Nat}(x:h.IsKeyIter it d i n ep)(k:∀o,h.get? it=some o→h'.get? it=some o):h'.IsKeyIter it d i n ep:=let ⟨o,ho,r⟩:=x;⟨o,k _ ho,r⟩
theorem turn_keys {P:Program}{w:World}{K:PySem.W.Frag}{tg:Expr}(d it:Addr)(o:Obj)(u:HO)(hu:DictU u)(es:Array DictEntry)(ep:Nat)(hd:o.data=.dict es ep):
  Turn P w K tg (Itk d o u) [it] it (fun i h=>h.IsKeyIter it d i es.size ep) where
 mem:=by simp
 obj:=fun i h st b hb=>by
  rw[List.mem_singleton.mp hb]
  obtain⟨oi,e,c,q⟩:=st
  exact⟨oi,e,fun v z=>by rw[q] at z;cases z⟩
 keep:=fun i h h' st k=>keyiter_at st fun oi e=>k it (by simp) oi e
 item:=by
  intro X hP hw hK hc i pins s σ H E I hf st hg
  subst hP hw hK
  obtain⟨hH,hi⟩:=hg
  obtain⟨_,hod,_,es',ep',hd',hz,hall⟩:=raw_of I.hok hH hu
  rw[hd] at hd';cases hd'
  obtain⟨f0,f1,f2,f3,f4,f5⟩:=hf it (by simp)
  have hi':i<es.size:=by omega
  obtain⟨x,v,hk,r1,r2⟩:=hall i hi'
  refine rk_next st hod hd hi' fun h' st' sb=>?_
  have I1:Inv X pins σ H {s with heap:=h'}:=I.turned (t':=s.toks) (fun b ob hb e=>(sb.2 b hb).trans e) f0 f1 f3 f4 f5
  obtain⟨oi,e,c,q⟩:=id st'
  exact⟨_,rfl,go_of (s:={s with heap:=h'}) e c q (by decide) ⟨x,H,I1,r1,⟨rfl,v,hk⟩,st',fun b hb=>(hf b hb).1⟩⟩
 done:=by
  intro X hP hw hK hc i pins s σ H E I hf st hg
  subst hP hw hK
  obtain⟨hH,hi⟩:=hg
  obtain⟨_,hod,_,es',ep',hd',hz,hall⟩:=raw_of I.hok hH hu
  rw[hd] at hd';cases hd'
  obtain⟨f0,f1,f2,f3,f4,f5⟩:=hf it (by simp)
  exact rk_end (I.ok.hd hc) st hod hd (by omega) fun h' eb=>⟨rfl,I.turned (t':=s.toks) (fun b ob hb e=>eb b ob hb e) f0 f1 f3 f4 f5⟩
 self:=fun A i s Q E st h=>by
  refine wpAny_pyIter_slot st.typeIs F.slot_dict_keyiterator_iter (wpAny_call_entry F.slot_dict_keyiterator_iter st.typeIs F.entry_dict_keyiterator_iter ?_ (F.args_dict_keyiterator_iter_1 _))
  show wpAny _ _ (ret (.ref it)) _ _ s
  exact wpAny_pure ⟨_,rfl, "dict_keyiterator",_,st.typeIs,F.slot_dict_keyiterator_next.lookup,h⟩
def iKeys (te:TE):TI:=fun σ H R=>te σ H fun x H1=>∃d o u,x=.ref d∧H1 d=some (.frz o u)∧DictU u∧R (Itk d o u) H1
theorem pi_keys {X:Cx}{tg e:Expr}{te:TE}(he:PE X e te):PI X tg e (iKeys te):=by
 intro pins s σ H R I h
 refine thn (he pins s σ H _ I h) fun v s1 ⟨x,H1,I1,r,d,o,u,ex,hd,hu,q⟩=>?_
 subst ex
 cases(show v=Value.ref d from r)
 obtain⟨hS,hod,hc,es,ep,hdd,hz,_⟩:=raw_of I1.hok hd hu
 refine rk_iter hS hod hc hdd ?_
 have kk:∀b ob,s1.heap.get? b=some ob→(s1.heap.push {cls:=.type "dict_keyiterator",data:=.fields #[.ref d,.int 0 0,.int es.size 0,.int ep 0]}).get? b=some ob:=fun b ob z=>Heap.get?_push_of_some _ z
 refine⟨s1.heap.objs.size,[s1.heap.objs.size],_,_,H1,rfl,I1.kept (t':=s1.toks) kk,turn_keys d _ o u hu es ep hdd,⟨_,Heap.get?_push_size _ rfl,rfl,rfl⟩,fun b hb=>?_,q⟩
 rw[List.mem_singleton.mp hb]
 exact I1.fpOk (Nat.le_refl _) (I1.hok.fresh (Nat.le_refl _))
section
variable {prog:Program} {w:World} {A:Around} {E:Value→Shared→Prop} {s:Shared} {d it v:Addr} {o:Obj} {es:Array DictEntry} {i ep:Nat} {ok ov:Value}
end
theorem for_keys {d:Addr}{o:Obj}{u:HO}{g:TG}{tb:TS}{D:Ends}{σ:St}{H:Hp}(Pv:Nat→St→Hp→Prop)(h0:Pv 0 σ H)(hl:∀i σ H,i≤szU u→Pv i σ H→H d=some (.frz o u))
  (hs:∀i x v σ H,KeyAt H u i x v→i<szU u→Pv i σ H→g x σ H fun σ2 H2=>tb {D with nx:=Pv (i+1),ct:=Pv (i+1),bk:=D.nx} σ2 H2) (hd:∀σ H,Pv (szU u) σ H→D.nx σ H):
  ∃W:Nat→Nat→St→Hp→Prop,(∃m,W 0 m σ H)∧∀i m σ H,W i m σ H→
   ((Itk d o u).stop i H∧D.nx σ H)∨((Itk d o u).go i H∧∃N:St→Hp→Prop,(∀σ' H',N σ' H'→∃m',m'<m∧W (i+1) m' σ' H')∧∀x H',(Itk d o u).yld i H x H'→g x σ H' fun σ2 H2=>tb {D with nx:=N,ct:=N,bk:=D.nx} σ2 H2):=by
 refine⟨fun i m σ H=>m=szU u - i∧i≤szU u∧Pv i σ H,⟨szU u,by simp,Nat.zero_le _,h0⟩,?_⟩
 rintro i m σ H ⟨rfl,hi,p⟩
 have q:=hl i σ H hi p
 by_cases hlt:i<szU u
 ·refine .inr ⟨⟨q,hlt⟩,Pv (i+1),fun σ' H' p'=>⟨szU u - (i+1),by omega,rfl,hlt,p'⟩,fun x H' y=>?_⟩
  obtain⟨e,v,k⟩:=y
  subst e
  exact hs i x v σ _ k hlt p
 ·have e:i=szU u:=by omega
  subst e
  exact .inl ⟨⟨q,Nat.le_refl _⟩,hd σ H p⟩
section
variable {X:Cx}
end
section
variable {prog:Program} {w:World} {A:Around} {E:Value→Shared→Prop} {s:Shared} {d:Addr} {o:Obj} {es:Array DictEntry} {ep:Nat}
theorem len_raw {Q:Value→Shared→Prop}(hd:(d==sysModules)=false)(ho:s.heap.get? d=some o)(hc:o.ExactDict)(hdat:o.data=.dict es ep)(hz:es.size≤sizeLine)
  (h:Q (.int es.size (s.toks+1)) {s with toks:=s.toks+1+1}):wpAny (model prog w) A (call (.builtin "len") [.ref d]) Q E s:=by
 have hT:s.TypeIs (.ref d) "dict" :=⟨o,ho,hc.1⟩
 have hsl:sizeLine=2^24:=rfl
 refine PyProof.Rows.call_len_slot (n:=es.size) hT F.slot_dict_len (fun Q' hq=>wpAny_call_entry F.slot_dict_len hT F.entry_dict_len ?_ (F.args_dict_len_1 _)) (by omega) (by omega) h
 show wpAny _ _ (dictSize d>>=_) _ _ s
 unfold dictSize
 refine wpAny_bind (wpAny_bind (wpAny_dictEntries ho hdat (wpAny_pure ?_)))
 show wpAny _ _ (Builtin.Dict.pendingCount d>>=_) _ _ s
 refine wpAny_bind (wpAny_pendingCount_other hd (wpAny_ret_mkInt ?_))
 simpa using hq
end
section
variable {X:Cx}
theorem call_lenDT:CallR X (.builtin "len") (fun xs H Q=>∃a kvs,xs=[V.ref a]∧Rd H a (.dT kvs)∧Q (.int kvs.length) H):=by
 intro pins s σ H xs us Q I r h
 obtain⟨a,kvs,rfl,ha,q⟩:=h
 obtain⟨u,rfl,ru⟩:=vals1 r
 cases ru
 obtain⟨z,hd,xs,rel,o,es,ep,ho,hc,hdat,he,_⟩:=dt_rd I.hok ha
 have e1:=size_of_entries he
 have e2:=Paired.length rel
 refine len_raw hd ho hc hdat (by omega) ⟨.int kvs.length,H,I.tok _,⟨s.toks+1,?_⟩,q⟩
 rw[e1,e2]
end
def IntK (kvs:List (List Key×V)):Prop:=∀p∈kvs,∃ns:List Int,p.1=ns.map Sum.inl
theorem items_any {P P':Program}{w w':World}{ks:List Key}{us:List Value}(h:ItemsAre (mixKind P w) ks us):ItemsAre (mixKind P' w') ks us:=by
 induction h with
 |nil=>exact .nil
 |cons a _ ih=>exact .cons a ih
theorem hash_any {P P':Program}{w w':World}{ns:List Int}:tupleKeyHash (mixKind P w) (ns.map Sum.inl)=tupleKeyHash (mixKind P' w') (ns.map Sum.inl):=by
 unfold tupleKeyHash
 have e:∀(P:Program) (w:World),(ns.map (Sum.inl:Int→Key)).map (mixKind P w).hash=ns.map hashInt:=fun P w=>by rw[List.map_map];rfl
 rw[e,e]
theorem dictH_any {P P':Program}{w w':World}{h:Heap}{a:Addr}{xs:List (List Key×Addr×Value)}(d:h.DictOfH (tupleKind (mixKind P w)) a xs)(ik:∀x∈xs,∃ns:List Int,x.1=ns.map Sum.inl):h.DictOfH (tupleKind (mixKind P' w')) a xs:=by
 obtain⟨o,es,ep,h1,h2,h3,h4,h5,h6⟩:=d
 refine⟨o,es,ep,h1,h2,h3,?_,fun x hx=>?_,h6⟩
 ·rw[h4]
  refine List.map_congr_left fun x hx=>?_
  obtain⟨ns,e⟩:=ik x hx
  show(⟨tupleKeyHash (mixKind P w) x.1,_,_⟩:DictEntry)=⟨tupleKeyHash (mixKind P' w') x.1,_,_⟩
  rw[e,hash_any (P':=P') (w':=w')]
 ·obtain⟨o',its,n,a1,a2,a3,a4⟩:=h5 x hx
  exact⟨o',its,n,a1,a2,a3,items_any a4⟩
def SmT (K:PySem.W.Frag) (H:Hp) (v v':V):Prop:=∃a b ka kb,v=.ref a∧v'=.ref b∧a≠b∧Rd H a (.dT ka)∧Rd H b (.dT kb)∧IntK ka∧IntK kb∧ka.length=kb.length∧∀p∈ka,∃v,valV kb p.1=some v∧SmV K H p.2 v
theorem eqAt_dT {X:Cx}{pins:List (Addr×Obj)}{σ:St}{H:Hp}{s:Shared}{A:Around}{v v':V}{u u':Value}(I:Inv X pins σ H s)(h:SmT X.K H v v')(r:RelV v u)(r':RelV v' u')(hu:A.units+62<cLine):SeqAt.EqAt A s u u' true:=by
 obtain⟨a,b,ka,kb,rfl,rfl,ne,ha,hb,ia,ib,hl,hs⟩:=h
 cases(show u=Value.ref a from r)
 cases(show u'=Value.ref b from r')
 obtain⟨_,ma,va,ra,da⟩:=dt_rd I.hok ha
 obtain⟨_,mb,vb,rb,db⟩:=dt_rd I.hok hb
 have ik:∀{ks:List (List Key×V)} {vs:List (List Key×Addr×Value)},KT H ks vs→IntK ks→∀x∈vs,∃ns:List Int,x.1=ns.map Sum.inl:=fun rel i x hx=>by
  obtain⟨p,hp,e,_⟩:=pair_mem rel x hx
  obtain⟨ns,z⟩:=i p hp
  exact⟨ns,by rw[←e,z]⟩
 refine SeqAt.EqAt.of_refs ne fun prog w E Q q=>?_
 exact eq_tup (prog:=prog) (w:=w) (knd:=tupleKind (mixKind prog w)) (tupleKind_room_in1 (by omega)) (by omega) ma mb (dictH_any da (ik ra ia)) (dictH_any db (ik rb ib)) (by rw[←Paired.length ra,←Paired.length rb,hl])
  (hits_t I ra rb (show A.units+1+60<cLine by omega) hs) q
section
variable {X:Cx}
theorem vals_getD:∀{xs:List V} {us:List Value} (_:Vals xs us) (i:Nat) (hi:i<us.length),RelV (xs.getD i .non) us[i]
 |_,_,.nil,i,hi=>absurd hi (Nat.not_lt_zero _)
 |_,_,.cons r _,0,_=>r
 |_,_,.cons _ t,i+1,hi=>by simpa using vals_getD t i (by simpa using hi)
theorem all_true (n:Nat):((List.range n).all fun _=>true)=true:=by simp
end
noncomputable def hAt (es:Array (Int×Value)) (i:Nat):Int:=(es[i]?.map (·.1)).getD 0
section
variable {prog:Program} {w:World} {A:Around} {E:Value→Shared→Prop} {s:Shared}
theorem hbv_ints {b:Addr}{o:Obj}{items:Array Value}{n:Nat}{Q:Bool→Shared→Prop}(ho:s.heap.get? b=some o)(hc:o.cls=.type "tuple")(hd:o.data=.seq items n)(hi:∀v∈items,∃i t,v=Value.int i t)(h:Q true s):
  wpAny (model prog w) A (hashByValue 8 (.ref b)) Q E s:=by
 have hT:s.TypeIs (.ref b) "tuple" :=⟨o,ho,hc⟩
 unfold hashByValue
 refine wpAny_bind (wpAny_specialOf hT F.slot_tuple_hash.lookup ?_)
 dsimp only
 refine wpAny_bind ?_
 unfold seqItems?
 refine wpAny_bind (wpAny_load ho ?_)
 rw[hd]
 refine wpAny_pure (wpAny_bind ?_)
 show wpAny _ _ (forIn items _ _) _ _ _
 rw[←Array.forIn_toList]
 refine wpAny_forIn_list _ (fun rest q s'=>s'=s∧q=(none,())∧∀v∈rest,∃i t,v=Value.int i t) _ ?_ ?_ _ _ ⟨rfl,rfl,fun v hv=>hi v (Array.mem_toList_iff.mp hv)⟩
 ·rintro v rest q s' ⟨rfl,rfl,hr⟩
  obtain⟨i,t,rfl⟩:=hr v List.mem_cons_self
  have e:hashByValue 7 (.int i t)=pure true:=by simp[hashByValue]
  rw[e]
  exact wpAny_bind (wpAny_pure (by
   show wpAny _ _ (if (!true)=true then _ else _) _ _ _
   rw[if_neg (by decide)]
   exact wpAny_pure ⟨rfl,rfl,fun x hx=>hr x (List.mem_cons_of_mem _ hx)⟩))
 ·rintro q s' ⟨rfl,rfl,_⟩
  exact wpAny_pure h
end
section
variable {prog:Program} {w:World} {A:Around} {R:Result→Shared→Prop} {I:Addr} {fp wr:List Addr} {G:Array GenState→Array GenState→Prop} {n:Nat} {P:Nat→Value→Prop} {St:Nat→Shared→Prop}
def ITup (h:Heap) (k:List Int) (b:Addr):Prop:=∃o items c,h.get? b=some o∧o.cls=.type "tuple" ∧o.data=.seq items c∧IntsAre items.toList k
end
abbrev set0 (led:Bool):Obj:={cls:=.type "set",dict:=none,data:=.set #[] 0 (.fresh 0 0 led)}
noncomputable def hashT (k:List Int):Int:=reduceHash (Builtin.Tuple.tupleHashOf (k.map hashInt))
theorem itup_is {prog:Program}{w:World}{h:Heap}{k:List Int}{b:Addr}(t:ITup h k b):(tupleKind (intKind prog w)).is h k b:=by
 obtain⟨o,its,c,h1,h2,h3,h4⟩:=t
 refine⟨o,its,c,h1,h2,h3,?_⟩
 have all:∀{us:List Value} {ns:List Int},IntsAre us ns→PySem.ItemsAre (intKind prog w) ns us:=by
  intro us ns z
  induction z with
  |nil=>exact .nil
  |cons n t _ ih=>exact .cons (intKind_is _ _ _ _) ih
 exact all h4
noncomputable def stO (a:Addr) (n:Nat):HO:=.ext fun h=>∃o es ep t,h.get? a=some o∧o.ExactSet∧o.data=.set es ep t∧SetTable.fits t es.size=true∧es.size=n
theorem tup_itup {P:Program}{w:World}{H:Hp}{h:Heap}{b:Addr}{c:List Int}(ok:HOk P w H h)(e:H b=some (.tup (c.map V.int))):ITup h c b:=by
 obtain⟨_,its,rv,o,ho,hc,n,hd⟩:=ok b _ e
 exact⟨o,its.toArray,n,ho,hc,hd,by simpa using intsAre_of rv⟩
theorem call_lenSt {X:Cx}:CallR X (.builtin "len") (fun xs H Q=>∃a n,xs=[V.ref a]∧H a=some (stO a n)∧n<1000∧Q (.int n) H):=by
 intro pins s σ H xs us Q I r h
 obtain⟨a,n,rfl,ha,hn,q⟩:=h
 obtain⟨u,rfl,ru⟩:=vals1 r
 cases ru
 obtain⟨⟨o,es,ep,t,h1,h2,h3,h4,h5⟩,_⟩:=I.hok a _ ha
 subst h5
 exact call_len_set h1 h2 h3 h4 (by omega) ⟨.int es.size,H,I.tok _,⟨_,rfl⟩,q⟩
structure ClsM (K:PySem.W.Frag) (C:Addr) (m:Str) (f:Addr):Prop where
 ex:∃mc,PySem.W.readsIn K C mc=true∧PySem.W.findCls K (.ref C) mc m=some (.val (.ref f))
 hh:PySem.W.handedIn (.ref f)=true
 hg:PySem.W.specialIn K (.ref C) "__getattribute__" =some (some (.builtin "type.__getattribute__"))
 kp:PySem.W.keepIn K (.ref f)=true
structure ClsCallee (P:Program) (w:World) (K:PySem.W.Frag) (mg:Str→Option Value) (base:Heap) (C:Addr) (m:Str) (k:Nat) (ps:List Str) (sp:Sp):Prop where
 ex:∃f fd,FnOk P w K mg base CX0 k f fd ps sp∧ClsM K C m f∧Binds K fd ps []
section
variable {X:Cx} {C:Addr} {k:Nat} {ps:List Str} {sp:Sp} {m:Str} {pos apos:Pos} {e o:Expr} {es:List Expr} {t:TA}
theorem pe_clsC {pl:Sem Bool}(he:PE X o (tC (.ref C)))(G:ClsCallee X.prog X.w X.K X.mg X.base C m k ps sp)(hr:Room k X.A)(ha:PA X (e::es) t)
  (hst:starEach (e::es) X.env=(false,eval e X.env)::starEach es X.env:=by rfl) (hpl:(backTo pos (starEach es X.env)).any (·.1)=false:=by rfl)
  (ht:eval (.Call (.Attribute o m apos) (e::es) [] pos) X.env=(do
   let ov←eval o X.env
   standAt apos.atName
   let (f,first)←holding [ov] (getMethod ov m pl)
   callWith pos f first (backTo pos (starEach (e::es) X.env)) (backToKw pos (keywordEach [] X.env))):=by rfl):
  PE X (.Call (.Attribute o m apos) (e::es) [] pos) (tCall sp [] E0 t):=by
 obtain⟨f,fd,F,hm,hb⟩:=G.ex
 obtain⟨mc,h1,h2⟩:=hm.ex
 intro pins s σ H Q I h
 refine PySem.W.methodCall_KW (pl:=pl) (thn (he pins s σ H (fun v H1=>v=.ref C∧H1=H) I ⟨rfl,rfl⟩) fun u s1 ⟨x,H1,I1,rx,ex,eH⟩=>?_) ht
 subst ex eH
 cases(show u=Value.ref C from rx)
 refine PySem.W.method_cls I1.kIn hm.hg (PySem.W.cls_value I1.kIn h1 h2 hm.hh ?_)
 have I2:=I1.tok (s1.toks+1)
 refine PySem.W.callWith_K (first:=[]) (h₀:=X.base) I.ok.mod.kin hm.kp (thn (ha pos pins _ σ _ _ I2 h) fun us s2 ⟨vs,H2,I3,r,q2⟩=>⟨I3.kIn,?_⟩) hst hpl
 exact run_fn F hr hb .nil pass0 I3 r q2
end
structure FunD (K:PySem.W.Frag) (x qual:Str) (st:Stmt) (f:Addr) (fd:FuncData):Prop where
 ex:∃(oc:Value) (od:Option Addr) (dV kV doc pm:Value) (an:Option Addr) (cdv ct:Value) (osl:Array (Option Value)),
  fd=PySem.W.fnOf x qual (defArgs st) (defBody st) (defScope st) dV kV doc pm an cdv ct∧K.lookup f=some ⟨oc,od,.func fd,osl⟩∧PySem.W.codeIn K cdv qual=true
section
variable {P:Program} {w:World} {K:PySem.W.Frag} {mg:Str→Option Value} {base:Heap}
theorem FunD.ok {x qual:Str}{st:Stmt}{f:Addr}{fd:FuncData}{N ps:List Str}{k:Nat}{sp:Sp}(F:FunD K x qual st f fd)(S:FnScope N ps (defScope st))(len:∀vs H Q E,sp vs H Q E→vs.length=ps.length)
  (hbody:∀(cdv:Value) (A:Around) (outer:List Env) (s:Shared) (H:Hp) (vs:List V) (Q:VK) (E:XK),Room k (A.deeper (envOfC qual (defScope st) s.heap.objs.size f cdv))→sp vs H Q E→
   ∃t,PSs (cxOf CX0 P w K mg base N qual (defScope st) f cdv A outer s H E).nox (defBody st) t∧t {nx:=fun _ H'=>Q .non H',rt:=Q} (start N vs) H):FnOk P w K mg base CX0 (k+1) f fd ps sp:=by
 obtain⟨oc,od,dV,kV,doc,pm,an,cdv,ct,osl,rfl,lk,hcd⟩:=F.ex
 refine fn_of lk hcd S len fun A outer s H vs Q E hr hsp=>?_
 obtain⟨t,h,q⟩:=hbody cdv A outer s H vs Q E hr hsp
 exact⟨t,h.nox,q⟩
theorem fund_mk {x qual:Str}{st:Stmt}{f:Addr}{oc:Value}{od an:Option Addr}{osl:Array (Option Value)}{dV kV doc pm cdv ct:Value}(l:K.lookup f=some ⟨oc,od,.func (PySem.W.fnOf x qual (defArgs st) (defBody st) (defScope st) dV kV doc pm an cdv ct),osl⟩)
  (c:PySem.W.codeIn K cdv qual=true):FunD K x qual st f (PySem.W.fnOf x qual (defArgs st) (defBody st) (defScope st) dV kV doc pm an cdv ct):=⟨⟨oc,od,dV,kV,doc,pm,an,cdv,ct,osl,rfl,l,c⟩⟩
theorem bindsD {fd:FuncData}{ps:List Str}{T:Addr}{oc:Value}{od:Option Addr}{sl:Array (Option Value)}{items:Array Value}{n:Nat}(hd:fd.defaults=.ref T)(ho:K.lookup T=some ⟨oc,od,.seq items n,sl⟩)
  (h:∀us:List Value,us.length=ps.length→∃k,bindArgs fd ⟨us,[]⟩=(seqItems? fd.defaults>>=k)∧k (some items)=pure (ps.zip us)):Binds K fd ps []:=fun s us hX hl=>by
 rw[List.append_nil] at hl⊢
 obtain⟨k,h1,h2⟩:=h us hl
 exact PySem.W.binds_K hX hd ho rfl h1 h2
end
theorem sub_attr:isSubtype (.type "AttributeError") (.type "AttributeError")=pure true:=by rw[isSubtype_type];kernel_rfl
section
variable {prog:Program} {w:World} {A:Around} {h:Heap} {g:Array GenState} {d:Drawn} {t:Nat} {os:OsState} {a:Addr}
abbrev excA (T:Addr):Obj:={cls:=.type "AttributeError",data:=.fields #[.ref T,.none,.none,.none,.bool false,.none,unsetMember,unsetMember]}
theorem note_attr {e T:Addr}{nm:Value}{Q:Unit→Shared→Prop}{E:Value→Shared→Prop}(hx:h.get? e=some (excA T))
  (hq:∀h',Heap.SameBut e h h'→Shared.TypeIs ⟨h',g,d,t,os⟩ (.ref e) "AttributeError" →Q () ⟨h',g,d,t,os⟩):wpAny (model prog w) A (noteAttr (.ref e) (.ref a) nm) Q E ⟨h,g,d,t,os⟩:=by
 have hT:(⟨h,g,d,t,os⟩:Shared).TypeIs (.ref e) "AttributeError" :=⟨_,hx,rfl⟩
 unfold noteAttr lacksNameAndObj
 refine wpAny_bind (wpAny_bind (wpAny_isInstance hT sub_attr ?_))
 rw[if_neg (by decide)]
 refine wpAny_bind (wpAny_load hx ?_)
 dsimp only
 rw[if_neg (by with_unfolding_all exact Bool.false_ne_true),if_neg (by with_unfolding_all exact Bool.false_ne_true)]
 refine wpAny_pure ?_
 rw[if_pos rfl]
 refine wpAny_bind (wpAny_rule (wpAny_bind (wpAny_typeOf hT ?_)))
 dsimp only
 unfold layMembers
 refine wpAny_bind (wpAny_load hx ?_)
 dsimp only
 refine wpAny_update hx ?_
 refine hq _ (Heap.SameBut.update ..) ⟨_,Heap.get?_update_self _ hx (by rfl),by rfl⟩
theorem raise_attr {α:Type}{name msg:Str}{Q:α→Shared→Prop}{E:Value→Shared→Prop}(hh:A.handled=none)(hm:msg.length≤sizeLine)
  (hE:∀e h' tk,(∀b u,h.get? b=some u→h'.get? b=some u)→Shared.TypeIs ⟨h',g,d,tk,os⟩ (.ref e) "AttributeError" →E (.ref e) ⟨h',g,d,tk,os⟩):
  wpAny (model prog w) A (raiseAttrError (.ref a) name msg) Q E ⟨h,g,d,t,os⟩:=by
 unfold raiseAttrError
 refine wpAny_bind (wpAny_mkStr (hx:=hm) ?_)
 refine wpAny_bind ?_
 simp only[newExc,newTuple]
 refine wpAny_bind (wpAny_newObj_type ?_ (by size_fits))
 refine wpAny_bind (m:=firstArgMember _ _) (wpAny_of_eq (a:=Value.none) (by first|rfl|(simp only[firstArgMember];rfl)) ?_)
 refine wpAny_newObj_type ?_ (by first|size_fits|decide)
 refine wpAny_bind (wpAny_mkText (wpAny_bind ?_))
 have e1:h.objs.size<(h.push {cls:=.type "tuple",data:=.seq #[Value.str msg t]}).objs.size:=by rw[Heap.size_push];exact Nat.lt_succ_self _
 have k1:∀b u,h.get? b=some u→(h.push {cls:=.type "tuple",data:=.seq #[Value.str msg t]}).get? b=some u:=fun b u z=>Heap.get?_push_of_some _ z
 revert e1 k1
 show _→_→wpAny _ _ (noteAttr (.ref (h.push {cls:=.type "tuple",data:=.seq #[Value.str msg t]}).objs.size) (.ref a) (.str name (t+1))) _ _ ⟨(h.push {cls:=.type "tuple",data:=.seq #[Value.str msg t]}).push (excA h.objs.size),g,d,t+1+1,os⟩
 generalize h.push {cls:=.type "tuple",data:=.seq #[Value.str msg t]}=h1
 intro e1 k1
 refine note_attr (Heap.get?_push_size _ rfl) fun h' sb hT=>?_
 simp only[raiseNew]
 refine wpAny_bind (wpAny_handled ?_)
 rw[hh]
 refine wpAny_bind (wpAny_pure (wpAny_throw ?_))
 exact hE _ h' _ (fun b u z=>by
  have z1:=k1 b u z
  rw[sb.2 b (Nat.ne_of_lt (Heap.lt_size z1))]
  exact Heap.get?_push_of_some _ z1) hT
theorem ga_keys {items:Array Value}{n:Nat}{tk:Tok}{Q:Fin→Shared→Prop}{E':Value→Shared→Prop}(hh:A.handled=none)(hx:h.get? a=some {cls:=.type "list",data:=.seq items n})
  (hE:∀e h' tk,(∀b u,h.get? b=some u→h'.get? b=some u)→Shared.TypeIs ⟨h',g,d,tk,os⟩ (.ref e) "AttributeError" →E' (.ref e) ⟨h',g,d,tk,os⟩):
  wpAny (model prog w) A (Builtin.«object.__getattribute__» ⟨[.ref a,.str "keys" tk],[]⟩) Q E' ⟨h,g,d,t,os⟩:=by
 have hT:(⟨h,g,d,t,os⟩:Shared).TypeIs (.ref a) "list" :=⟨_,hx,rfl⟩
 have f4:typeLookup (.type "list") "keys" =pure none:=by rw[typeLookup_type,builtinLookup_eq_fast];kernel_rfl
 repeat (any_goals (first|assumption|wp_step))
 exact raise_attr hh (by decide+kernel) hE
theorem no_keys {items:Array Value}{n:Nat}{Q:Option Value→Shared→Prop}{E:Value→Shared→Prop}(hh:A.handled=none)(hx:h.get? a=some {cls:=.type "list",data:=.seq items n})
  (hq:∀h' tk,(∀b u,h.get? b=some u→h'.get? b=some u)→Q none ⟨h',g,d,tk,os⟩):wpAny (model prog w) A (getAttr? (.ref a) "keys") Q E ⟨h,g,d,t,os⟩:=by
 have hT:(⟨h,g,d,t,os⟩:Shared).TypeIs (.ref a) "list" :=⟨_,hx,rfl⟩
 have hT1:(⟨h,g,d,t+1,os⟩:Shared).TypeIs (.ref a) "list" :=⟨_,hx,rfl⟩
 have f2:=F.slot_list_getattribute.lookup
 have f3:=F.slot_list_getattribute.bind (.ref a)
 have f5:typeLookup (.type "list") "__getattr__" =pure none:=by rw[typeLookup_type,builtinLookup_eq_fast];kernel_rfl
 unfold getAttr? getAttrBy?
 refine wpAny_bind (wpAny_mkText (wpAny_bind (wpAny_attempt ?_)))
 unfold getAttrBy
 refine wpAny_holding (wpAny_bind (wpAny_typeOf hT1 ?_))
 rw[f2]
 refine wpAny_bind (wpAny_pure ?_)
 dsimp only
 rw[if_neg (by decide)]
 unfold getAttrByItsOwn hookBefore
 rw[if_neg (by decide)]
 refine wpAny_bind (wpAny_pure (wpAny_bind (wpAny_attempt (wpAny_holding ?_))))
 unfold callGetattribute
 rw[if_neg (by decide)]
 unfold boundAndCalled
 rw[f3]
 refine wpAny_bind (wpAny_pure ?_)
 show wpAny _ _ (call (.builtin "list.__getattribute__") [.ref a,.str "keys" t]) _ _ _
 refine wpAny_call (codeAny_call_builtin F.slot_list_getattribute.plain F.entry_list_ga (F.slot_list_getattribute.check _ _ _ _ _ _ _ _ hT1 (F.args_list_getattribute_2 _ _) (ga_keys (show A.in1.handled=none from hh) hx fun e h' tk keep hTe=>?_)))
 show wpAny _ _ (getattributeRaised (.ref a) (.str "keys" t) (.type "list") (.ref e) none false false) _ _ _
 unfold getattributeRaised hookBehind
 refine wpAny_bind (wpAny_isInstance hTe sub_attr ?_)
 rw[if_pos rfl,if_neg (by decide),f5]
 refine wpAny_bind (wpAny_pure ?_)
 show wpAny _ _ (attributeErrorLeaves (.ref a) (.str "keys" t) (.ref e) false false) _ _ _
 unfold attributeErrorLeaves
 dsimp only
 rw[if_pos (show(!false)=true from rfl)]
 refine wpAny_bind (wpAny_throw (wpAny_bind (wpAny_isInstance hTe sub_attr ?_)))
 rw[if_pos rfl]
 exact wpAny_pure (hq _ _ keep)
end
theorem entry_dul:entryFor table "dict.update.loop" =some Builtin.«dict.update.loop»:=entryFor_of_tree (by kernel_rfl)
theorem plain_dul:plainId "dict.update.loop" =true:=by decide+kernel
def IPair (h:Heap) (p k:Addr) (v:Value):Prop:=∃o c,h.get? p=some o∧o.cls=.type "tuple" ∧o.data=.seq #[.ref k,v] c
section
variable {prog:Program} {w:World} {A:Around} {R:Result→Shared→Prop} {I:Addr} {fp wr:List Addr} {G:Array GenState→Array GenState→Prop} {n:Nat} {P:Nat→Value→Prop} {St:Nat→Shared→Prop} {K:Type} [DecidableEq K]
theorem loop_pairs (W:WalksS prog w A.in1 I fp wr G n P St)(D:Addr)(hDf:D∉fp)(knd:HeapKind prog w K)(hroom:knd.room A.in1)(ad ka:Nat→Addr)(key:Nat→K)(vv:Nat→Value)(hval:∀i v,P i v→v=.ref (ad i))
  (had:∀i,i<n→ad i≠D∧ad i∉wr) (hks:∀i,i<n→∀h h':Heap,(∀b o,b≠D→b∉wr→h.get? b=some o→h'.get? b=some o)→knd.is h (key i) (ka i)→knd.is h' (key i) (ka i))
  (xs:Nat→List (K×Addr×Value)) (hstep:∀i,i<n→xs (i+1)=storedH (xs i) (key i) (ka i) (vv i)) (hlen:∀i,i≤n→(xs i).length≤sizeLine)
  (hkx:∀(i:Nat),i≤n→∀(h h':Heap),(∀b o,b∉wr→h.get? b=some o→h'.get? b=some o)→h.DictOfH knd D (xs i)→h'.DictOfH knd D (xs i)):
  ∀(k i:Nat) (ti:Tok) (s:Shared),n - i=k→i≤n→St i s→(∀j,j<n→IPair s.heap (ad j) (ka j) (vv j)∧knd.is s.heap (key j) (ka j))→s.heap.DictOfH knd D (xs i)→
   (∀s',Moved (D::wr) G s s'→s'.heap.DictOfH knd D (xs n)→R (.ok (.ret .none)) s')→
   codeAny (model prog w) A (.builtin "dict.update.loop" ⟨[.ref D,.ref I,.int (i:Nat) ti,.none],[]⟩) R s:=by
 have hDw:D∉wr:=fun h=>hDf (W.sub _ h)
 have more:∀b∈wr,b∈D::wr:=fun b hb=>List.mem_cons_of_mem _ hb
 intro k
 induction k with
 |zero=>
  intro i ti s hk hi hst ht hD hR
  obtain rfl:i=n:=by omega
  refine codeAny_builtin entry_dul ?_
  rw[Around.under_plainId plain_dul _]
  show wpAny _ A.in1 (pyNext (.ref I)>>=_) _ _ s
  refine wpAny_bind (W.done s _ _ hst fun s' hm=>?_)
  show wpAny _ _ (Builtin.Dict.addKeywords D []>>=_) _ _ _
  refine wpAny_bind ?_
  unfold Builtin.Dict.addKeywords
  refine wpAny_pure (wpAny_pure (hR s' (hm.mono more) (hkx _ hi _ _ (fun b o hb e=>hm.heap b o hb e) hD)))
 |succ k ih=>
  intro i ti s hk hi hst ht hD hR
  have hlt:i<n:=by omega
  refine codeAny_builtin entry_dul ?_
  rw[Around.under_plainId plain_dul _]
  show wpAny _ A.in1 (pyNext (.ref I)>>=_) _ _ s
  refine wpAny_bind (W.item i s _ _ hlt hst fun v s' hP hst' hm=>?_)
  obtain rfl:=hval i v hP
  have ht':∀j,j<n→IPair s'.heap (ad j) (ka j) (vv j)∧knd.is s'.heap (key j) (ka j):=fun j hj=>by
   obtain⟨⟨o,c,h1,h2⟩,h3⟩:=ht j hj
   exact⟨⟨o,c,hm.heap _ o (had j hj).2 h1,h2⟩,hks j hj _ _ (fun b o _ hb e=>hm.heap b o hb e) h3⟩
  have hD':=hkx i hi _ _ (fun b o hb e=>hm.heap b o hb e) hD
  obtain⟨⟨o,c,h1,h2,h3⟩,h4⟩:=ht' i hlt
  have hT:s'.TypeIs (.ref (ad i)) "tuple" :=⟨o,h1,h2⟩
  refine wpAny_bind (wpAny_holding (wpAny_bind (wpAny_tryCatch ?_)))
  unfold Builtin.Dict.pairItems
  refine wpAny_bind (wpAny_typeOf hT ?_)
  rw[if_pos (by decide)]
  refine wpAny_bind ?_
  unfold seqItems?
  refine wpAny_bind (wpAny_load h1 ?_)
  rw[h3]
  refine wpAny_pure (wpAny_pure ?_)
  show wpAny _ _ (holding [Value.ref (ka i),vv i] (dictSet D (.ref (ka i)) (vv i))) _ _ _
  refine wpAny_holding (wpAny_dictSet_heap hroom h4 hD' (fun h' hd' sb=>?_) (hlen i hi))
  refine wpAny_pure ⟨plainId_quiet plain_dul _,?_⟩
  have e:((i:Nat):Int)+1=((i+1:Nat):Int):=by omega
  show codeAny _ _ (.builtin "dict.update.loop" ⟨[.ref D,.ref I,.int (((i:Nat):Int)+1) 0,.none],[]⟩) _ _
  rw[e]
  refine ih (i+1) _ _ (by omega) hlt (W.frame _ s' _ _ hst' (Nat.le_add_right _ _) fun b hb o q=>?_) (fun j hj=>?_) (by rw[hstep i hlt];exact hd') fun s'' hm'' hD''=>?_
  ·rw[sb.2 b (fun z=>hDf (z▸hb))];exact q
  ·obtain⟨⟨o,c,q1,q2⟩,q3⟩:=ht' j hj
   refine⟨⟨o,c,?_,q2⟩,hks j hj _ _ (fun b o hb _ q=>?_) q3⟩
   ·rw[sb.2 _ (had j hj).1];exact q1
   ·rw[sb.2 b hb];exact q
  ·refine hR s'' (Moved.trans W.gtrans ((hm.mono more).then_heap (Nat.le_add_right _ _) fun b o hb q=>?_) hm'') hD''
   rw[sb.2 b (fun z=>hb (by rw[z];exact List.mem_cons_self))];exact q
end
theorem storedH_mem {K:Type} [DecidableEq K]{xs:List (K×Addr×Value)}{k:K}{a:Addr}{v:Value}{P:Addr→Prop}(h:∀x∈xs,P x.2.1)(ha:P a):∀x∈storedH xs k a v,P x.2.1:=by
 unfold storedH
 split
 ·intro x hx
  obtain⟨y,hy,rfl⟩:=List.mem_map.mp hx
  unfold putAt
  split
  ·exact h y hy
  ·exact h y hy
 ·intro x hx
  rcases List.mem_append.mp hx with hx|hx
  ·exact h x hx
  ·rw[List.mem_singleton.mp hx];exact ha
theorem storedH_len {K:Type} [DecidableEq K]{xs:List (K×Addr×Value)}{k:K}{a:Addr}{v:Value}:(storedH xs k a v).length≤xs.length+1:=by
 unfold storedH
 split
 ·rw[List.length_map];omega
 ·simp
noncomputable def foldH {K:Type} [DecidableEq K] (key:Nat→K) (ka:Nat→Addr) (vv:Nat→Value):Nat→List (K×Addr×Value)
 |0=>[]
 |i+1=>storedH (foldH key ka vv i) (key i) (ka i) (vv i)
theorem foldH_mem {K:Type} [DecidableEq K]{key:Nat→K}{ka:Nat→Addr}{vv:Nat→Value}{P:Addr→Prop}:∀(i:Nat),(∀j,j<i→P (ka j))→∀x∈foldH key ka vv i,P x.2.1
 |0,_=>fun _ h=>nomatch h
 |i+1,h=>storedH_mem (foldH_mem i fun j hj=>h j (by omega)) (h i (Nat.lt_succ_self _))
theorem foldH_len {K:Type} [DecidableEq K]{key:Nat→K}{ka:Nat→Addr}{vv:Nat→Value}:∀(i:Nat),(foldH key ka vv i).length≤i
 |0=>Nat.le_refl _
 |i+1=>Nat.le_trans storedH_len (Nat.succ_le_succ (foldH_len i))
section
variable {prog:Program} {w:World} {A:Around} {E:Value→Shared→Prop} {s:Shared} {K:Type} [DecidableEq K]
theorem call_dict_pairs {l:Addr}{as:List Addr}{c:Nat}{Q:Value→Shared→Prop}(hh:A.handled=none)(hl:s.heap.get? l=some {cls:=.type "list",data:=.seq (as.map Value.ref).toArray c})
  (knd:HeapKind prog w K) (hroom:knd.room A.in1.in1) (ka:Nat→Addr) (key:Nat→K) (vv:Nat→Value) (hp:∀j,j<as.length→IPair s.heap (as.getD j 0) (ka j) (vv j)∧knd.is s.heap (key j) (ka j)∧ka j<s.heap.objs.size)
  (hks:∀(h h':Heap) (k:K) (b:Addr),(∀o,h.get? b=some o→h'.get? b=some o)→knd.is h k b→knd.is h' k b) (hz:as.length≤sizeLine)
  (h:∀(h':Heap) (tk:Nat),h'.DictOfH knd s.heap.objs.size (foldH key ka vv as.length)→(∀b o,s.heap.get? b=some o→h'.get? b=some o)→Q (.ref s.heap.objs.size) {s with heap:=h',toks:=tk}):
  wpAny (model prog w) A (call (.type "dict") [.ref l]) Q E s:=by
 refine callType_codes (Q₁:=fun v s₁=>v=.ref s.heap.objs.size∧s₁={s with heap:=s.heap.push {cls:=.type "dict",data:=.dict #[]}}) F.kt_called_dict (F.kt_typeCall_dict_1 _) F.entry_dict_init (kt_code_dict_new _ ⟨rfl,rfl⟩) ?_
 rintro v s₁ ⟨rfl,rfl⟩
 have keep0:∀b u,s.heap.get? b=some u→(s.heap.push {cls:=.type "dict",data:=.dict #[]}).get? b=some u:=fun b u x=>Heap.get?_push_of_some _ x
 have nT:Shared.TypeIs {s with heap:=s.heap.push {cls:=.type "dict",data:=.dict #[]}} (.ref s.heap.objs.size) "dict" :=⟨_,Heap.get?_push_size _ rfl,rfl⟩
 have lT:Shared.TypeIs {s with heap:=s.heap.push {cls:=.type "dict",data:=.dict #[]}} (.ref l) "list" :=⟨_,keep0 _ _ hl,rfl⟩
 have d0:(s.heap.push {cls:=.type "dict",data:=.dict #[]}).get? s.heap.objs.size=some {cls:=.type "dict",data:=.dict #[]}:=Heap.get?_push_size _ rfl
 have sz0:(s.heap.push {cls:=.type "dict",data:=.dict #[]}).objs.size=s.heap.objs.size+1:=Heap.size_push ..
 revert keep0 nT lT d0 sz0
 generalize s.heap.push {cls:=.type "dict",data:=.dict #[]}=h0
 intro keep0 nT lT d0 sz0
 refine⟨nT,F.args_dict_init_2 _ _,?_⟩
 unfold Builtin.«dict.__init__»
 refine wpAny_bind ?_
 unfold Builtin.Dict.selfAndRest
 refine wpAny_bind (wpAny_notOrdered_dict nT ?_)
 show wpAny _ _ (pure (s.heap.objs.size,[Value.ref l])) _ _ _
 refine wpAny_pure ?_
 show wpAny _ _ (Builtin.Dict.updateFrom "dict.__init__" s.heap.objs.size (.ref l) [] .none) _ _ _
 unfold Builtin.Dict.updateFrom
 refine wpAny_bind (wpAny_typeOf lT ?_)
 rw[if_pos (by decide)]
 refine wpAny_bind (no_keys (show A.in1.in1.handled=none from hh) (keep0 _ _ hl) fun h1 tk1 keep1=>?_)
 rw[if_pos (show(none:Option Value).isNone=true from rfl)]
 refine wpAny_bind (wpAny_rule (wpAny_bind ?_))
 have hl1:h1.get? l=some {cls:=.type "list",data:=.seq (as.map Value.ref).toArray c}:=keep1 _ _ (keep0 _ _ hl)
 have isl:h1.IsList l (as.map Value.ref).toArray:=⟨_,hl1,rfl,c,rfl⟩
 refine wpAny_pyIter_list isl (wpAny_pure ⟨plainId_quiet plain_dul _,?_⟩)
 have le1:s.heap.objs.size+1≤h1.objs.size:=Heap.lt_size (keep1 _ _ d0)
 have ltl:l<s.heap.objs.size:=Heap.lt_size hl
 have neI:l≠h1.objs.size:=Nat.ne_of_lt (Heap.lt_size hl1)
 have nD:s.heap.objs.size∉[h1.objs.size,l]:=fun z=>by
  rcases List.mem_cons.mp z with z|z
  ·exact absurd z (Nat.ne_of_lt (Nat.lt_of_succ_le le1))
  ·exact absurd (List.mem_singleton.mp z) (Nat.ne_of_gt ltl)
 have nI:∀{b:Addr},b<s.heap.objs.size→b∉[h1.objs.size]:=fun hb z=>absurd (List.mem_singleton.mp z) (Nat.ne_of_lt (Nat.lt_of_lt_of_le hb (Nat.le_of_succ_le le1)))
 have lt_of:∀{b:Addr} {o:Obj},s.heap.get? b=some o→b<s.heap.objs.size:=fun e=>Heap.lt_size e
 have hd2:A.in1.in1.handled=none:=by simpa using hh
 refine loop_pairs (A:=A.in1) ((Walks.list hd2 _ l neI (as.map Value.ref).toArray).toS) s.heap.objs.size nD knd hroom (fun i=>as.getD i 0) ka key vv (fun i v hv=>?_) (fun i hi=>?_) (fun i hi g g' hg z=>?_) (foldH key ka vv) (fun i _=>rfl) (fun i hi=>Nat.le_trans (foldH_len i) (Nat.le_trans hi (by simpa using hz))) (fun i hi g g' hg z=>?_)
  ((as.map Value.ref).toArray.size - 0) 0 0 _ (by omega) (Nat.zero_le _) ⟨⟨_,Heap.get?_push_size _ rfl,rfl,rfl⟩,isl.push _⟩ (fun j hj=>?_) ?_ fun s' hm hD'=>?_
 ·have hv':(as.map Value.ref).toArray[i]?=some v:=hv
  rw[List.getElem?_toArray,List.getElem?_map] at hv'
  obtain⟨x,hx,rfl⟩:=Option.map_eq_some_iff.mp hv'
  show _=Value.ref (as.getD i 0)
  rw[List.getD_eq_getElem?_getD,hx];rfl
 ·obtain⟨⟨o,c',q1,_⟩,_⟩:=hp i (by simpa using hi)
  exact⟨Nat.ne_of_lt (lt_of q1),nI (lt_of q1)⟩
 ·obtain⟨_,_,q3⟩:=hp i (by simpa using hi)
  exact hks _ _ _ _ (fun o q=>hg _ o (Nat.ne_of_lt q3) (nI q3) q) z
 ·obtain⟨o,es,ep,a1,a2,a3,a4,a5,a6⟩:=z
  refine⟨o,es,ep,hg _ _ (fun y=>absurd (List.mem_singleton.mp y) (Nat.ne_of_lt (Nat.lt_of_succ_le le1))) a1,a2,a3,a4,fun x hx=>hks _ _ _ _ (fun o q=>hg _ o (nI (foldH_mem (P:=fun b=>b<s.heap.objs.size) i (fun j hj=>(hp j (by have:=hi;simp at this;omega)).2.2) x hx)) q) (a5 x hx),a6⟩
 ·obtain⟨⟨o,c',q1,q2⟩,q3,q4⟩:=hp j (by simpa using hj)
  have up:∀b u,s.heap.get? b=some u→(h1.push {cls:=.type "list_iterator",data:=.fields #[.ref l,.int 0 0]}).get? b=some u:=fun b u z=>Heap.get?_push_of_some _ (keep1 _ _ (keep0 _ _ z))
  exact⟨⟨o,c',up _ _ q1,q2⟩,hks _ _ _ _ (fun o q=>up _ o q) q3⟩
 ·exact⟨_,#[],0,Heap.get?_push_of_some _ (keep1 _ _ d0),⟨rfl,rfl,rfl⟩,rfl,rfl,(fun _ z=>nomatch z),List.nodup_nil⟩
 ·obtain⟨h',g',d',tk',os'⟩:=s'
  obtain rfl:g'=s.gens:=hm.gens
  obtain rfl:d'=s.drawn:=hm.drawn
  obtain rfl:os'=s.os:=hm.os
  refine⟨rfl,h h' tk' (by simpa using hD') fun b o e=>hm.heap b o (fun z=>?_) (Heap.get?_push_of_some _ (keep1 _ _ (keep0 _ _ e)))⟩
  rcases List.mem_cons.mp z with z|z
  ·exact absurd z (Nat.ne_of_lt (lt_of e))
  ·exact nI (lt_of e) z
end
abbrev Prs (H:Hp) (as:List Addr) (kvs:List (List Key×V)):Prop:=Paired (fun a (kv:List Key×V)=>∃b,H a=some (.tup [.ref b,kv.2])∧H b=some (.tup (kv.1.map kV))) as kvs
noncomputable def mkD (kvs:List (List Key×V)):List (List Key×V):=kvs.foldl (fun acc kv=>putK acc kv.1 kv.2) []
theorem mkD_snoc {kvs:List (List Key×V)}{p:List Key×V}:mkD (kvs++[p])=putK (mkD kvs) p.1 p.2:=by unfold mkD;rw[List.foldl_append];rfl
theorem mkD_len {kvs:List (List Key×V)}:(mkD kvs).length≤kvs.length:=by
 have all:∀(l acc:List (List Key×V)),(l.foldl (fun acc kv=>putK acc kv.1 kv.2) acc).length≤acc.length+l.length:=by
  intro l
  induction l with
  |nil=>intro acc;exact Nat.le_refl _
  |cons a r ih=>
   intro acc
   have h1:=ih (putK acc a.1 a.2)
   have h2:=length_putK acc a.1 a.2
   rw[List.foldl_cons,List.length_cons]
   omega
 have h:=all kvs []
 unfold mkD
 simpa using h
theorem call_dictPairs {X:Cx}(hc:X.calm=true){k:Nat}(hr:Room k X.A):CallR X (.type "dict") (fun xs H Q=>∃(l:Addr) (as:List Addr) (kvs:List (List Key×V)),xs=[.ref l]∧H l=some (.lst (as.map V.ref))∧Prs H as kvs∧∀p,H p=none→Q (.ref p) (upd H p (.dT (mkD kvs)))):=by
 intro pins s σ H xs us Q I r h
 obtain⟨l,as,kvs,rfl,hl,hp,q⟩:=h
 obtain⟨u,rfl,ru⟩:=vals1 r
 cases ru
 obtain⟨hz,its,c,rv,hl'⟩:=I.hok l _ hl
 obtain rfl:=vals_refs rv
 have hu:=hr.units
 have len:as.length=kvs.length:=Paired.length hp
 have ex:∀j,∃(b:Addr) (u:Value),j<as.length→IPair s.heap (as.getD j 0) b u∧H b=some (.tup ((kvs.getD j ([],.non)).1.map kV))∧RelV (kvs.getD j ([],.non)).2 u:=fun j=>by
  by_cases hj:j<as.length
  ·have hj2:j<kvs.length:=by omega
   obtain⟨a,ha,b,h1,h2⟩:=paired_get hp j hj2
   obtain⟨_,ii,rr,o,ho,hcl,n,hd⟩:=I.hok a _ h1
   obtain⟨u1,u2,rfl,r1,r2⟩:=vals2 rr
   cases(show u1=Value.ref b from r1)
   refine⟨b,u2,fun _=>?_⟩
   have e1:as.getD j 0=a:=by rw[List.getD_eq_getElem?_getD,ha];rfl
   have e2:kvs.getD j ([],.non)=kvs[j]:=by rw[List.getD_eq_getElem?_getD,List.getElem?_eq_getElem hj2];rfl
   rw[e1,e2]
   exact⟨⟨o,n,ho,hcl,hd⟩,h2,r2⟩
  ·exact⟨0,.none,fun z=>absurd z hj⟩
 obtain⟨ka,hka⟩:∃ka:Nat→Addr,∀j,∃u:Value,j<as.length→IPair s.heap (as.getD j 0) (ka j) u∧H (ka j)=some (.tup ((kvs.getD j ([],.non)).1.map kV))∧RelV (kvs.getD j ([],.non)).2 u:=⟨fun j=>Classical.choose (ex j),fun j=>Classical.choose_spec (ex j)⟩
 obtain⟨vv,hvv⟩:∃vv:Nat→Value,∀j,j<as.length→IPair s.heap (as.getD j 0) (ka j) (vv j)∧H (ka j)=some (.tup ((kvs.getD j ([],.non)).1.map kV))∧RelV (kvs.getD j ([],.non)).2 (vv j):=⟨fun j=>Classical.choose (hka j),fun j=>Classical.choose_spec (hka j)⟩
 have kt:∀i,i≤as.length→KT H (mkD (kvs.take i)) (foldH (fun j=>(kvs.getD j ([],.non)).1) ka vv i):=by
  intro i
  induction i with
  |zero=>intro _;exact .nil
  |succ i ih=>
   intro hi
   obtain⟨_,h2,h3⟩:=hvv i hi
   have hi2:i<kvs.length:=by omega
   have e2:kvs[i]?=some (kvs.getD i ([],.non)):=by rw[List.getD_eq_getElem?_getD,List.getElem?_eq_getElem hi2];rfl
   have et:kvs.take (i+1)=kvs.take i++[kvs.getD i ([],.non)]:=by rw[List.take_succ,e2];rfl
   rw[et,mkD_snoc]
   exact KT.put (ih (by omega)) _ h2 h3
 refine call_dict_pairs (I.ok.hd hc) hl' (tupleKind (mixKind X.prog X.w)) (show X.A.units+1+1<cLine by omega) ka (fun j=>(kvs.getD j ([],.non)).1) vv (fun j hj=>?_) (fun g g' k b hg z=>?_) (by simpa using hz) fun h' tk hd hk=>?_
 ·obtain⟨h1,h2,_⟩:=hvv j hj
  exact⟨h1,key_of I.hok h2,I.hok.lt h2⟩
 ·obtain⟨o,items,n,z1,z2⟩:=z
  exact⟨o,items,n,hg o z1,z2⟩
 ·have kn:=kt as.length (Nat.le_refl _)
  rw[len,List.take_length] at kn
  rw[len] at hd
  obtain⟨o,es,ep,h1,h2,h3,h4,h5,h6⟩:=hd
  have fr:H s.heap.objs.size=none:=I.hok.fresh (Nat.le_refl _)
  refine⟨.ref s.heap.objs.size,_,I.laid (a:=s.heap.objs.size) (o:=.dT (mkD kvs)) (t':=tk) hk (Nat.le_refl _) ⟨Nat.le_trans mkD_len (by rw[←len];simpa using hz),beq_eq_false_iff_ne.mpr (Ne.symm (Nat.ne_of_lt I.big)),_,kn.keeps fun b ys z=>?_,o,es,ep,h1,h2,h3,h4,h6⟩,rfl,q _ fr⟩
  rw[upd_ne (ne_of_none z fr)];exact z
structure Nx (prog:Program) (w:World) (A:Around) (it src:Addr) (vals:Array Value) (St:Nat→Heap→Prop):Prop where
 obj:∀i h,St i h→∃o vs,h.get? it=some o∧o.data=.fields vs∧o.cls≠.type "zip" ∧∃o',h.get? src=some o'
 keep:∀i h h',St i h→(∀o,h.get? it=some o→h'.get? it=some o)→(∀o,h.get? src=some o→h'.get? src=some o)→St i h'
 item:∀(i:Nat) (s:Shared) (Q:Value→Shared→Prop) (E:Value→Shared→Prop) (x:Value),St i s.heap→vals[i]?=some x→(∀h',St (i+1) h'→Heap.SameBut it s.heap h'→Q x {s with heap:=h'})→wpAny (model prog w) A (Builtin.SmallTypes.nextOf (.ref it)) Q E s
 done:∀(i:Nat) (s:Shared) (Q:Value→Shared→Prop) (E:Value→Shared→Prop),A.handled=none→St i s.heap→vals[i]?=none→
  (∀h' e,Heap.ExtBut it s.heap h'→(∃o,h'.get? e=some o∧o.cls=.type "StopIteration")→E (.ref e) {s with heap:=h'})→wpAny (model prog w) A (Builtin.SmallTypes.nextOf (.ref it)) Q E s
section
variable {prog:Program} {w:World} {A:Around} {E:Value→Shared→Prop} {s:Shared}
theorem nx_tup_item {it t:Addr}{i:Nat}{items:Array Value}{x:Value}{Q:Value→Shared→Prop}(hit:IsTupIter s.heap it t i)(ht:IsTup s.heap t items)(hx:items[i]?=some x)
  (hQ:∀h',IsTupIter h' it t (i+1)→Heap.SameBut it s.heap h'→Q x {s with heap:=h'}):wpAny (model prog w) A (Builtin.SmallTypes.nextOf (.ref it)) Q E s:=by
 obtain⟨o,ho,hc,hd⟩:=id hit
 obtain⟨ol,hol,_,nl,hdl⟩:=ht
 unfold Builtin.SmallTypes.nextOf
 refine wpAny_bind (wpAny_callSpecial?_slot (name:=Str.ofString "__next__") hit.typeIs slot_tupleiter_next (wpAny_call_entry slot_tupleiter_next hit.typeIs entry_tupleiter_next ?_ (args_tupleiter_next _)))
 show wpAny _ _ (field (.ref it) 0>>=_) _ _ s
 refine wpAny_bind (wpAny_field ho hd (x:=.ref t) rfl ?_)
 show wpAny _ _ (if (Value.ref t==Value.none)=true then _ else _) _ _ s
 rw[if_neg (show¬((Value.ref t==Value.none)=true) from Bool.false_ne_true)]
 show wpAny _ _ (field (.ref it) 1>>=_) _ _ s
 refine wpAny_bind (wpAny_field ho hd (x:=.int i 0) rfl ?_)
 show wpAny _ _ (seqItems? (.ref t)>>=_) _ _ s
 refine wpAny_bind (wpAny_seqItems hol hdl ?_)
 simp only[Int.toNat_natCast,hx]
 refine wpAny_bind (wpAny_setField ho hd (by simp) (wpAny_pure ⟨x,rfl,wpAny_pure (hQ _ ?_ (Heap.SameBut.update ..))⟩))
 exact⟨_,Heap.get?_update_self _ ho (Obj.isFreed_of_fields (Obj.data_mapFields hd _)),(Obj.cls_mapFields ..).trans hc,by rw[Obj.data_mapFields hd];simp[rawInt]⟩
theorem nx_tup_end {it t:Addr}{i:Nat}{items:Array Value}{Q:Value→Shared→Prop}(hh:A.handled=none)(hit:IsTupIter s.heap it t i)(ht:IsTup s.heap t items)(hx:items[i]?=none)
  (hE:∀h' e,Heap.ExtBut it s.heap h'→(∃o,h'.get? e=some o∧o.cls=.type "StopIteration")→E (.ref e) {s with heap:=h'}):wpAny (model prog w) A (Builtin.SmallTypes.nextOf (.ref it)) Q E s:=by
 obtain⟨o,ho,hc,hd⟩:=id hit
 obtain⟨ol,hol,_,nl,hdl⟩:=ht
 unfold Builtin.SmallTypes.nextOf
 refine wpAny_bind (wpAny_callSpecial?_slot (name:=Str.ofString "__next__") hit.typeIs slot_tupleiter_next (wpAny_call_entry slot_tupleiter_next hit.typeIs entry_tupleiter_next ?_ (args_tupleiter_next _)))
 show wpAny _ _ (field (.ref it) 0>>=_) _ _ s
 refine wpAny_bind (wpAny_field ho hd (x:=.ref t) rfl ?_)
 show wpAny _ _ (if (Value.ref t==Value.none)=true then _ else _) _ _ s
 rw[if_neg (show¬((Value.ref t==Value.none)=true) from Bool.false_ne_true)]
 show wpAny _ _ (field (.ref it) 1>>=_) _ _ s
 refine wpAny_bind (wpAny_field ho hd (x:=.int i 0) rfl ?_)
 show wpAny _ _ (seqItems? (.ref t)>>=_) _ _ s
 refine wpAny_bind (wpAny_seqItems hol hdl ?_)
 simp only[Int.toNat_natCast,hx]
 refine wpAny_bind (wpAny_rule (wpAny_bind (wpAny_setField ho hd (by simp) ?_)))
 show wpAny _ _ (newExc (.type "StopIteration") []>>=_) _ _ _
 refine wpAny_bind ?_
 simp only[newExc,newTuple]
 refine wpAny_bind (wpAny_newObj_type ?_ (by size_fits))
 refine wpAny_bind (m:=firstArgMember _ _) (wpAny_of_eq (a:=Value.none) (by first|rfl|(simp only[firstArgMember];rfl)) (wpAny_newObj_type ?_ (by size_fits)))
 simp only[raiseNew]
 refine wpAny_bind (wpAny_handled ?_)
 first|rw[show A.in1.handled=none from hh]|rw[hh]
 refine wpAny_bind (wpAny_pure (wpAny_throw ?_))
 exact hE _ _ (((Heap.SameBut.update ..).extBut.push _).push _) ⟨_,Heap.get?_push_size _ rfl,rfl⟩
theorem Nx.tup {it t:Addr}{items:Array Value}(hne:t≠it):Nx prog w A it t items (fun i h=>IsTupIter h it t i∧IsTup h t items) where
 obj:=fun i h ⟨⟨o,h1,h2,h3⟩,⟨o',h4,_⟩⟩=>⟨o,_,h1,h3,by rw[h2];decide,o',h4⟩
 keep:=fun i h h' ⟨⟨o,h1,h2⟩,⟨o',h4,h5⟩⟩ k1 k2=>⟨⟨o,k1 _ h1,h2⟩,⟨o',k2 _ h4,h5⟩⟩
 item:=fun i s Q E x ⟨h1,h2⟩ hx hQ=>nx_tup_item h1 h2 hx fun h' a b=>hQ h' ⟨a,h2.extBut b.extBut hne⟩ b
 done:=fun i s Q E hh ⟨h1,h2⟩ hx hE=>nx_tup_end hh h1 h2 hx hE
structure ZA (z TI TO i1 i2 s1 s2:Addr):Prop where
 TIz:TI≠z
 TOz:TO≠z
 i1z:i1≠z
 i2z:i2≠z
 TITO:TI≠TO
 TIi1:TI≠i1
 TIi2:TI≠i2
 TOi1:TO≠i1
 TOi2:TO≠i2
 i12:i1≠i2
 s1z:s1≠z
 s1TO:s1≠TO
 s1i2:s1≠i2
 s2z:s2≠z
 s2TO:s2≠TO
 s2i1:s2≠i1
theorem zn_item {z TI TO i1 i2 s1 s2:Addr}{xs ys:Array Value}{S1 S2:Nat→Heap→Prop}{i:Nat}{x y a b:Value}{Q:Value→Shared→Prop}(D:ZA z TI TO i1 i2 s1 s2)(N1:Nx prog w A i1 s1 xs S1)(N2:Nx prog w A i2 s2 ys S2)
  (hz:IsZip s.heap z TI TO .none) (hTI:IsPair s.heap TI (.ref i1) (.ref i2)) (hTO:IsPair s.heap TO a b) (h1:S1 i s.heap) (h2:S2 i s.heap) (hx:xs[i]?=some x) (hy:ys[i]?=some y)
  (hQ:∀h',IsZip h' z TI TO (rawInt s.heap.objs.size)→IsPair h' TO x y→S1 (i+1) h'→S2 (i+1) h'→IsPair h' s.heap.objs.size x y→h'.objs.size=s.heap.objs.size+1→
   (∀c o,c≠z→c≠TO→c≠i1→c≠i2→s.heap.get? c=some o→h'.get? c=some o)→Q (.ref s.heap.objs.size) {s with heap:=h'}):
  wpAny (model prog w) A (Builtin.«zip.__next__» ⟨[.ref z],[]⟩) (fun fin s'=>∃v,fin=.done (.ret v)∧Q v s') E s:=by
 show wpAny _ _ (field (.ref z) 2>>=_) _ _ _
 refine wpAny_bind (wpAny_field hz rfl (x:=.bool false) rfl ?_)
 show wpAny _ _ (field (.ref z) 3>>=_) _ _ _
 refine wpAny_bind (wpAny_field hz rfl (x:=.ref TI) rfl (wpAny_bind (wpAny_seqItems hTI rfl ?_)))
 show wpAny _ _ (Builtin.SmallTypes.ownedTupleIsFree (.ref z)>>=_) _ _ _
 refine wpAny_bind ?_
 unfold Builtin.SmallTypes.ownedTupleIsFree
 refine wpAny_bind (wpAny_field hz rfl (x:=.none) rfl (wpAny_pure ?_))
 simp only[if_true]
 refine wpAny_bind (wpAny_rule (wpAny_bind (wpAny_field hz rfl (x:=.ref TO) rfl (wpAny_bind (wpAny_setField_rec hz (by simp) fun g1 z1 k1=>?_)))))
 replace z1:IsZip g1 z TI TO .ellipsis:=z1
 refine wpAny_bind ?_
 simp only[List.zipIdx_cons,List.zipIdx_nil,List.forIn_cons,List.forIn_nil]
 refine wpAny_bind (wpAny_bind (wpAny_onRaise ?_))
 show wpAny _ _ (Builtin.SmallTypes.nextOf (.ref i1)>>=_) _ _ _
 refine wpAny_bind (N1.item i {s with heap:=g1} _ _ x (N1.keep _ _ _ h1 (fun o e=>k1.extBut _ _ D.i1z e) (fun o e=>k1.extBut _ _ D.s1z e)) hx fun g2 a1 k2=>wpAny_pure ?_)
 have t2:IsPair g2 TO a b:=k2.extBut _ _ D.TOi1 (k1.extBut _ _ D.TOz hTO)
 refine wpAny_bind (wpAny_seqItems t2 rfl (wpAny_bind (wpAny_updateSeq_pair t2 fun g3 t3 k3=>?_)))
 replace t3:IsPair g3 TO x b:=t3
 refine wpAny_bind (wpAny_letGo (wpAny_pure ?_))
 refine wpAny_bind (wpAny_bind (wpAny_onRaise ?_))
 show wpAny _ _ (Builtin.SmallTypes.nextOf (.ref i2)>>=_) _ _ _
 refine wpAny_bind (N2.item i {s with heap:=g3} _ _ y (N2.keep _ _ _ h2 (fun o e=>k3.extBut _ _ D.TOi2.symm (k2.extBut _ _ D.i12.symm (k1.extBut _ _ D.i2z e))) (fun o e=>k3.extBut _ _ D.s2TO (k2.extBut _ _ D.s2i1 (k1.extBut _ _ D.s2z e)))) hy fun g4 a2 k4=>wpAny_pure ?_)
 have t4:IsPair g4 TO x b:=k4.extBut _ _ D.TOi2 t3
 refine wpAny_bind (wpAny_seqItems t4 rfl (wpAny_bind (wpAny_updateSeq_pair t4 fun g5 t5 k5=>?_)))
 replace t5:IsPair g5 TO x y:=t5
 refine wpAny_bind (wpAny_letGo (wpAny_pure (wpAny_pure ?_)))
 refine wpAny_bind (wpAny_seqItems t5 rfl (wpAny_bind (wpAny_newTuple ?_)))
 have hsz:g5.objs.size=s.heap.objs.size:=by rw[k5.1,k4.1,k3.1,k2.1,k1.1]
 have z5:IsZip g5 z TI TO .ellipsis:=k5.extBut _ _ D.TOz.symm (k4.extBut _ _ D.i2z.symm (k3.extBut _ _ D.TOz.symm (k2.extBut _ _ D.i1z.symm z1)))
 have all5:∀c o,c≠z→c≠TO→c≠i1→c≠i2→s.heap.get? c=some o→g5.get? c=some o:=fun c o c1 c2 c3 c4 e=>k5.extBut _ _ c2 (k4.extBut _ _ c4 (k3.extBut _ _ c2 (k2.extBut _ _ c3 (k1.extBut _ _ c1 e))))
 have hz5:z<g5.objs.size:=Heap.lt_size z5
 show wpAny _ _ (Builtin.SmallTypes.ownedTupleHandOut (.ref z) (.ref g5.objs.size)>>=_) _ _ _
 refine wpAny_bind ?_
 unfold Builtin.SmallTypes.ownedTupleHandOut
 have z6:IsZip (g5.push {cls:=.type "tuple",data:=.seq #[x,y]}) z TI TO .ellipsis:=Heap.get?_push_of_some _ z5
 refine wpAny_bind (wpAny_setField_rec z6 (by simp) fun g7 z7 k7=>?_)
 replace z7:IsZip g7 z TI TO (rawInt g5.objs.size):=z7
 refine wpAny_setField_rec z7 (by simp) fun g8 z8 k8=>?_
 replace z8:IsZip g8 z TI TO (rawInt g5.objs.size):=z8
 have up:∀c o,c≠z→g5.get? c=some o→g8.get? c=some o:=fun c o c1 e=>k8.extBut _ _ c1 (k7.extBut _ _ c1 (Heap.get?_push_of_some _ e))
 have hT8:IsPair g8 g5.objs.size x y:=k8.extBut _ _ (Nat.ne_of_gt hz5) (k7.extBut _ _ (Nat.ne_of_gt hz5) (Heap.get?_push_size _ rfl))
 have sz8:g8.objs.size=g5.objs.size+1:=by rw[k8.1,k7.1,Heap.size_push]
 rw[hsz] at z8 hT8 sz8
 refine wpAny_pure ⟨_,rfl,?_⟩
 show Q (.ref g5.objs.size) _
 rw[hsz]
 exact hQ g8 z8 (up _ _ D.TOz t5)
  (N1.keep _ _ _ a1 (fun o e=>up _ o D.i1z (k5.extBut _ _ D.TOi1.symm (k4.extBut _ _ D.i12 (k3.extBut _ _ D.TOi1.symm e)))) (fun o e=>up _ o D.s1z (k5.extBut _ _ D.s1TO (k4.extBut _ _ D.s1i2 (k3.extBut _ _ D.s1TO e)))))
  (N2.keep _ _ _ a2 (fun o e=>up _ o D.i2z (k5.extBut _ _ D.TOi2.symm e)) (fun o e=>up _ o D.s2z (k5.extBut _ _ D.s2TO e))) hT8 sz8 fun c o c1 c2 c3 c4 e=>up c o c1 (all5 c o c1 c2 c3 c4 e)
theorem zn_end {z TI TO i1 i2 s1 s2:Addr}{xs ys:Array Value}{S1 S2:Nat→Heap→Prop}{i:Nat}{a b:Value}{Q:Fin→Shared→Prop}(hh:A.handled=none)(D:ZA z TI TO i1 i2 s1 s2)(N1:Nx prog w A i1 s1 xs S1)(N2:Nx prog w A i2 s2 ys S2)
  (hz:IsZip s.heap z TI TO .none) (hTI:IsPair s.heap TI (.ref i1) (.ref i2)) (hTO:IsPair s.heap TO a b) (h1:S1 i s.heap) (h2:S2 i s.heap) (hend:xs[i]?=none∨ys[i]?=none)
  (hE:∀h' e,(∀c o,c≠z→c≠TO→c≠i1→c≠i2→s.heap.get? c=some o→h'.get? c=some o)→(∃o,h'.get? e=some o∧o.cls=.type "StopIteration")→E (.ref e) {s with heap:=h'}):
  wpAny (model prog w) A (Builtin.«zip.__next__» ⟨[.ref z],[]⟩) Q E s:=by
 show wpAny _ _ (field (.ref z) 2>>=_) _ _ _
 refine wpAny_bind (wpAny_field hz rfl (x:=.bool false) rfl ?_)
 show wpAny _ _ (field (.ref z) 3>>=_) _ _ _
 refine wpAny_bind (wpAny_field hz rfl (x:=.ref TI) rfl (wpAny_bind (wpAny_seqItems hTI rfl ?_)))
 show wpAny _ _ (Builtin.SmallTypes.ownedTupleIsFree (.ref z)>>=_) _ _ _
 refine wpAny_bind ?_
 unfold Builtin.SmallTypes.ownedTupleIsFree
 refine wpAny_bind (wpAny_field hz rfl (x:=.none) rfl (wpAny_pure ?_))
 simp only[if_true]
 refine wpAny_bind (wpAny_rule (wpAny_bind (wpAny_field hz rfl (x:=.ref TO) rfl (wpAny_bind (wpAny_setField_rec hz (by simp) fun g1 z1 k1=>?_)))))
 replace z1:IsZip g1 z TI TO .ellipsis:=z1
 refine wpAny_bind ?_
 simp only[List.zipIdx_cons,List.zipIdx_nil,List.forIn_cons,List.forIn_nil]
 refine wpAny_bind (wpAny_bind (wpAny_onRaise ?_))
 show wpAny _ _ (Builtin.SmallTypes.nextOf (.ref i1)>>=_) _ _ _
 have st1:=N1.keep _ _ g1 h1 (fun o e=>k1.extBut _ _ D.i1z e) (fun o e=>k1.extBut _ _ D.s1z e)
 cases hx:xs[i]? with
 |none=>
  refine wpAny_bind (N1.done i {s with heap:=g1} _ _ hh st1 hx fun g2 e k2 he=>?_)
  obtain⟨oe,hoe,hce⟩:=he
  have z2:IsZip g2 z TI TO .ellipsis:=k2 _ _ D.i1z.symm z1
  have hez:e≠z:=fun x=>by subst x;rw[z2] at hoe;cases hoe;simp at hce
  exact wpAny_setField_rec z2 (by simp) fun g3 _ k3=>hE g3 e (fun c o c1 _ c3 _ x=>k3.extBut _ _ c1 (k2 _ _ c3 (k1.extBut _ _ c1 x))) ⟨oe,k3.extBut _ _ hez hoe,hce⟩
 |some x=>
  have hy:ys[i]?=none:=by rcases hend with h|h;rw[hx] at h;cases h;exact h
  refine wpAny_bind (N1.item i {s with heap:=g1} _ _ x st1 hx fun g2 a1 k2=>wpAny_pure ?_)
  have t2:IsPair g2 TO a b:=k2.extBut _ _ D.TOi1 (k1.extBut _ _ D.TOz hTO)
  refine wpAny_bind (wpAny_seqItems t2 rfl (wpAny_bind (wpAny_updateSeq_pair t2 fun g3 t3 k3=>?_)))
  refine wpAny_bind (wpAny_letGo (wpAny_pure ?_))
  refine wpAny_bind (wpAny_bind (wpAny_onRaise ?_))
  show wpAny _ _ (Builtin.SmallTypes.nextOf (.ref i2)>>=_) _ _ _
  refine wpAny_bind (N2.done i {s with heap:=g3} _ _ hh (N2.keep _ _ _ h2 (fun o e=>k3.extBut _ _ D.TOi2.symm (k2.extBut _ _ D.i12.symm (k1.extBut _ _ D.i2z e))) (fun o e=>k3.extBut _ _ D.s2TO (k2.extBut _ _ D.s2i1 (k1.extBut _ _ D.s2z e)))) hy fun g4 e k4 he=>?_)
  obtain⟨oe,hoe,hce⟩:=he
  have z4:IsZip g4 z TI TO .ellipsis:=k4 _ _ D.i2z.symm (k3.extBut _ _ D.TOz.symm (k2.extBut _ _ D.i1z.symm z1))
  have hez:e≠z:=fun x=>by subst x;rw[z4] at hoe;cases hoe;simp at hce
  exact wpAny_setField_rec z4 (by simp) fun g5 _ k5=>hE g5 e (fun c o c1 c2 c3 c4 x=>k5.extBut _ _ c1 (k4 _ _ c4 (k3.extBut _ _ c2 (k2.extBut _ _ c3 (k1.extBut _ _ c1 x))))) ⟨oe,k5.extBut _ _ hez hoe,hce⟩
end
theorem sqT_ne {X:Cx}{pins:List (Addr×Obj)}{σ:St}{H:Hp}{s:Shared}{t b:Addr}{xs:List V}(I:Inv X pins σ H s)(h:SqT X.K H t xs)(f:FpOk X pins H b):t≠b:=fun z=>by
 subst z
 obtain⟨f0,f1,f2,f3,f4,f5⟩:=f
 rcases h with (h|⟨_,h⟩)|⟨o,its,n,hk,_⟩
 ·rw[f0] at h;cases h
 ·rw[f0] at h;cases h
 ·have hb:=I.ok.mod.kin _ _ hk
  rcases f3 with f3|f3
  ·exact I.ok.noex _ _ hb f3
  ·exact absurd (Nat.lt_of_lt_of_le (Heap.lt_size (I.ok.bs _ _ hb).1) f3) (Nat.lt_irrefl _)
noncomputable def ItzT (K:PySem.W.Frag) (t1 t2:Addr):It:=
 ⟨fun i H=>∃xs ys x y,SqT K H t1 xs∧SqT K H t2 ys∧xs[i]?=some x∧ys[i]?=some y,
  fun i H x H'=>∃p y1 y2,H p=none∧x=.ref p∧H'=upd H p (.tup [y1,y2])∧(∀xs,SqT K H t1 xs→xs[i]?=some y1)∧∀ys,SqT K H t2 ys→ys[i]?=some y2,
  fun i H=>∃xs ys,SqT K H t1 xs∧SqT K H t2 ys∧(xs.length≤i∨ys.length≤i)⟩
def ZstT (z TI TO i1 i2 t1 t2:Addr) (i:Nat) (h:Heap):Prop:=IsZip h z TI TO .none∧IsPair h TI (.ref i1) (.ref i2)∧(∃a b,IsPair h TO a b)∧IsTupIter h i1 t1 i∧IsTupIter h i2 t2 i
theorem turn_zipT {P:Program}{w:World}{K:PySem.W.Frag}{elts:List Expr}{x1:Nat}{pos:Pos}(z TI TO i1 i2 t1 t2:Addr)(D0:TI≠z∧TO≠z∧i1≠z∧i2≠z∧TI≠TO∧TI≠i1∧TI≠i2∧TO≠i1∧TO≠i2∧i1≠i2):
  Turn P w K (.Tuple elts x1 pos) (ItzT K t1 t2) [z,TI,TO,i1,i2] z (ZstT z TI TO i1 i2 t1 t2) where
 mem:=by simp
 obj:=fun i h st b hb=>by
  obtain⟨h1,h2,⟨a,c,h3⟩,⟨o4,h4,_,d4⟩,⟨o5,h5,_,d5⟩⟩:=st
  simp only[List.mem_cons,List.not_mem_nil,or_false] at hb
  rcases hb with rfl|rfl|rfl|rfl|rfl
  ·exact⟨_,h1,fun v e=>by have e':Data.fields _=Data.cell v:=e;cases e'⟩
  ·exact⟨_,h2,fun v e=>by have e':Data.seq _ _=Data.cell v:=e;cases e'⟩
  ·exact⟨_,h3,fun v e=>by have e':Data.seq _ _=Data.cell v:=e;cases e'⟩
  ·exact⟨_,h4,fun v e=>by rw[d4] at e;cases e⟩
  ·exact⟨_,h5,fun v e=>by rw[d5] at e;cases e⟩
 keep:=fun i h h' ⟨h1,h2,⟨a,c,h3⟩,⟨o4,h4,c4,d4⟩,⟨o5,h5,c5,d5⟩⟩ k=>⟨k z (by simp) _ h1,k TI (by simp) _ h2,⟨a,c,k TO (by simp) _ h3⟩,⟨o4,k i1 (by simp) _ h4,c4,d4⟩,⟨o5,k i2 (by simp) _ h5,c5,d5⟩⟩
 item:=by
  intro X hP hw hK hc i pins s σ H E I hf st hg
  subst hP hw hK
  obtain⟨xs,ys,x,y,hq1,hq2,hx,hy⟩:=hg
  obtain⟨hz,hTI,⟨a,b,hTO⟩,hi1,hi2⟩:=st
  obtain⟨its1,r1,p1,_⟩:=I.tuple hq1
  obtain⟨its2,r2,p2,_⟩:=I.tuple hq2
  obtain⟨u1,hu1,ru1⟩:=r1.get hx
  obtain⟨u2,hu2,ru2⟩:=r2.get hy
  obtain⟨d1,d2,d3,d4,d5,d6,d7,d8,d9,d10⟩:=D0
  have ne1:∀b∈[z,TI,TO,i1,i2],t1≠b:=fun b hb=>sqT_ne I hq1 (hf b hb)
  have ne2:∀b∈[z,TI,TO,i1,i2],t2≠b:=fun b hb=>sqT_ne I hq2 (hf b hb)
  have D:ZA z TI TO i1 i2 t1 t2:=⟨d1,d2,d3,d4,d5,d6,d7,d8,d9,d10,ne1 _ (by simp),ne1 _ (by simp),ne1 _ (by simp),ne2 _ (by simp),ne2 _ (by simp),ne2 _ (by simp)⟩
  have hT:s.TypeIs (.ref z) "zip" :=⟨_,hz,rfl⟩
  have nT:s.heap.get? s.heap.objs.size=none:=Heap.get?_none_of_le (Nat.le_refl _)
  have lts:∀b∈[z,TI,TO,i1,i2],b<s.heap.objs.size:=fun b hb=>by
   obtain⟨_,e4,_⟩:=hi1
   obtain⟨_,e5,_⟩:=hi2
   simp only[List.mem_cons,List.not_mem_nil,or_false] at hb
   rcases hb with rfl|rfl|rfl|rfl|rfl
   ·exact Heap.lt_size hz
   ·exact Heap.lt_size hTI
   ·exact Heap.lt_size hTO
   ·exact Heap.lt_size e4
   ·exact Heap.lt_size e5
  unfold pyNext
  refine wpAny_bind (wpAny_attempt (wpAny_callSpecial?_slot (name:=Str.ofString "__next__") hT F.slot_zip_next (wpAny_call_entry F.slot_zip_next hT F.entry_zip_next
   (zn_item D (Nx.tup (items:=its1.toArray) (ne1 _ (by simp))) (Nx.tup (items:=its2.toArray) (ne2 _ (by simp))) hz hTI hTO ⟨hi1,p1⟩ ⟨hi2,p2⟩ (by simpa using hu1) (by simpa using hu2) fun h' a1 a2 a3 a4 a5 a6 hk=>wpAny_pure ⟨_,rfl,?_⟩) (F.args_zip_next_1 _))))
  refine wpAny_letOwnedTupleGo_zip (s:={s with heap:=h'}) a1 fun h2 hz2 sb=>?_
  replace sb:Heap.SameBut z h' h2:=sb
  have zlt:z<s.heap.objs.size:=lts z (by simp)
  have hT2:h2.get? s.heap.objs.size=some {cls:=.type "tuple",data:=.seq #[u1,u2]}:=(sb.2 _ (Nat.ne_of_gt zlt)).trans a5
  refine⟨.ref s.heap.objs.size,upd H s.heap.objs.size (.tup [x,y]),Inv.turnedLaid (s:=s) (h':=h2) (fp:=[z,TI,TO,i1,i2]) (t':=s.toks) I hf (fun b v hb q=>?_) nT ?_,rfl,⟨_,x,y,I.hok.none_of nT,rfl,rfl,fun l hl=>by rw[I.tuple_inj hl hq1];exact hx,fun l hl=>by rw[I.tuple_inj hl hq2];exact hy⟩,
   ⟨hz2,?_,⟨_,_,(sb.2 _ d2).trans a2⟩,?_,?_⟩,fun b hb=>?_⟩
  ·have hbs:b≠z∧b≠TO∧b≠i1∧b≠i2:=⟨fun e=>hb (by simp[e]),fun e=>hb (by simp[e]),fun e=>hb (by simp[e]),fun e=>hb (by simp[e])⟩
   exact(sb.2 b hbs.1).trans (hk b v hbs.1 hbs.2.1 hbs.2.2.1 hbs.2.2.2 q)
  ·exact⟨by show 2≤sizeLine;decide,_,.cons ru1 (.cons ru2 .nil),_,hT2,rfl,_,rfl⟩
  ·exact(sb.2 _ d1).trans (hk _ _ d1 d5 d6 d7 hTI)
  ·obtain⟨o,e,r⟩:=a3.1
   exact⟨o,(sb.2 _ d3).trans e,r⟩
  ·obtain⟨o,e,r⟩:=a4.1
   exact⟨o,(sb.2 _ d4).trans e,r⟩
  ·rw[upd_ne (Nat.ne_of_lt (lts b hb))];exact(hf b hb).1
 done:=by
  intro X hP hw hK hc i pins s σ H E I hf st hg
  subst hP hw hK
  obtain⟨xs,ys,hq1,hq2,hend⟩:=hg
  obtain⟨hz,hTI,⟨a,b,hTO⟩,hi1,hi2⟩:=st
  obtain⟨its1,r1,p1,_⟩:=I.tuple hq1
  obtain⟨its2,r2,p2,_⟩:=I.tuple hq2
  have e1:=r1.length
  have e2:=r2.length
  obtain⟨d1,d2,d3,d4,d5,d6,d7,d8,d9,d10⟩:=D0
  have ne1:∀b∈[z,TI,TO,i1,i2],t1≠b:=fun b hb=>sqT_ne I hq1 (hf b hb)
  have ne2:∀b∈[z,TI,TO,i1,i2],t2≠b:=fun b hb=>sqT_ne I hq2 (hf b hb)
  have D:ZA z TI TO i1 i2 t1 t2:=⟨d1,d2,d3,d4,d5,d6,d7,d8,d9,d10,ne1 _ (by simp),ne1 _ (by simp),ne1 _ (by simp),ne2 _ (by simp),ne2 _ (by simp),ne2 _ (by simp)⟩
  have hT:s.TypeIs (.ref z) "zip" :=⟨_,hz,rfl⟩
  unfold pyNext
  refine wpAny_bind (wpAny_attempt (wpAny_callSpecial?_slot (name:=Str.ofString "__next__") hT F.slot_zip_next (wpAny_call_entry F.slot_zip_next hT F.entry_zip_next
   (zn_end (show X.A.in1.handled=none from I.ok.hd hc) D (Nx.tup (items:=its1.toArray) (ne1 _ (by simp))) (Nx.tup (items:=its2.toArray) (ne2 _ (by simp))) hz hTI hTO ⟨hi1,p1⟩ ⟨hi2,p2⟩ ?_ fun h' e hk he=>?_) (F.args_zip_next_1 _))))
  ·rcases hend with h|h
   ·exact .inl (Array.getElem?_eq_none (by simp;omega))
   ·exact .inr (Array.getElem?_eq_none (by simp;omega))
  ·obtain⟨o,ho,hoc⟩:=he
   refine wpAny_bind (wpAny_isInstance (T:= "StopIteration") (b:=true) ⟨o,ho,hoc⟩ isSubtype_stop ?_)
   refine wpAny_pure ⟨rfl,?_⟩
   refine I.step (g':=s.gens) (d':=s.drawn) (t':=s.toks) (h':=h') (ch:=[z,TI,TO,i1,i2]) (fun b hb=>⟨(hf b hb).2.2.2.1,(hf b hb).2.1,(hf b hb).2.2.2.2.1,(hf b hb).2.2.2.2.2⟩) (fun b u _ _ hc' q _=>?_) (fun b u _ _ hc' q _=>⟨u.slots,?_⟩) (fun b u _ _ n=>n) (fun b u hc' q=>⟨u,?_⟩) (fun b xs q=>q) (fun b u xs q=>q) (fun b ps q=>⟨#[],by rw[q];simp⟩) (fun m hm=>?_) (fun b u q=>?_) I.bare
   ·exact hk b u (fun e=>hc' (by simp[e])) (fun e=>hc' (by simp[e])) (fun e=>hc' (by simp[e])) (fun e=>hc' (by simp[e])) q
   ·exact hk b u (fun e=>hc' (by simp[e])) (fun e=>hc' (by simp[e])) (fun e=>hc' (by simp[e])) (fun e=>hc' (by simp[e])) q
   ·exact hk b u (fun e=>hc' (by simp[e])) (fun e=>hc' (by simp[e])) (fun e=>hc' (by simp[e])) (fun e=>hc' (by simp[e])) q
   ·obtain⟨o',es,ep,ho',r⟩:=hm
    have nl:∀b∈[z,TI,TO,i1,i2],X.env.locals≠b:=fun b hb=>Ne.symm (hf b hb).2.1
    exact⟨o',es,ep,hk _ o' (nl _ (by simp)) (nl _ (by simp)) (nl _ (by simp)) (nl _ (by simp)) ho',r⟩
   ·have trk:∀b∈[z,TI,TO,i1,i2],∀c u,H c=some u→c≠b:=fun b hb c u e z=>by rw[z,(hf b hb).1] at e;cases e
    refine(I.hok b u q).stay (fun c v hc' e=>?_) (fun _ e=>e) fun _ _ e=>e
    have hcs:∃u',H c=some u':=by
     rcases hc' with rfl|hc'
     ·exact⟨_,q⟩
     ·exact⟨_,hc'⟩
    obtain⟨u',hu'⟩:=hcs
    exact hk c v (trk _ (by simp) c u' hu') (trk _ (by simp) c u' hu') (trk _ (by simp) c u' hu') (trk _ (by simp) c u' hu') e
 self:=fun A i s Q E st h=>wpAny_pyIter_zip st.1 h
abbrev zq1T (h:Heap) (l1:Addr):Heap:=h.push {cls:=.type "tuple_iterator",data:=.fields #[.ref l1,.int 0 0]}
abbrev zq2T (h:Heap) (l1 l2:Addr):Heap:=(zq1T h l1).push {cls:=.type "tuple_iterator",data:=.fields #[.ref l2,.int 0 0]}
abbrev zq3T (h:Heap) (l1 l2:Addr):Heap:=(zq2T h l1 l2).push {cls:=.type "tuple",data:=.seq #[.ref h.objs.size,.ref (zq1T h l1).objs.size]}
abbrev zq4T (h:Heap) (l1 l2:Addr):Heap:=(zq3T h l1 l2).push {cls:=.type "tuple",data:=.seq #[.none,.none]}
abbrev zq5T (h:Heap) (l1 l2:Addr):Heap:=(zq4T h l1 l2).push {cls:=.type "zip",data:=.fields #[.none,.bool false,.bool false,.ref (zq2T h l1 l2).objs.size,.ref (zq3T h l1 l2).objs.size]}
theorem zip_newT (l1 l2:Addr)(xs ys:Array Value):Meets (Builtin.«zip.__new__» ⟨[.type "zip",.ref l1,.ref l2],[]⟩) (fun _ R s=>IsTup s.heap l1 xs∧IsTup s.heap l2 ys∧R (.ok (.ret (.ref (zq4T s.heap l1 l2).objs.size))) {s with heap:=zq5T s.heap l1 l2}):=
 .of_wp fun prog w A R s h=>by
  obtain⟨hp,g,d,tk,os⟩:=s;obtain⟨a1,a2,h⟩:=h
  have sz:=sub_zip
  have b1:IsTup (Shared.heap ⟨hp,g,d,tk,os⟩) l1 xs:=a1
  have b2:IsTup (Shared.heap ⟨hp.push {cls:=.type "tuple_iterator",data:=.fields #[.ref l1,.int 0 0]},g,d,tk,os⟩) l2 ys:=IsTup.push a2 _
  wp_walk using iter_tuple b1,iter_tuple b2
  exact⟨_,rfl,h⟩
theorem zip_callT {prog:Program}{w:World}{A:Around}{E:Value→Shared→Prop}{s:Shared}{l1 l2:Addr}{xs ys:Array Value}{Q:Value→Shared→Prop}(hl1:IsTup s.heap l1 xs)(hl2:IsTup s.heap l2 ys)
  (h:∀h',ZstT (s.heap.objs.size+4) (s.heap.objs.size+2) (s.heap.objs.size+3) s.heap.objs.size (s.heap.objs.size+1) l1 l2 0 h'→h'.objs.size=s.heap.objs.size+5→(∀c o,s.heap.get? c=some o→h'.get? c=some o)→Q (.ref (s.heap.objs.size+4)) {s with heap:=h'}):
  wpAny (model prog w) A (call (.type "zip") [.ref l1,.ref l2]) Q E s:=by
 refine callType_new F.called_zip (by decide) (F.typeCall_zip_2 _ _) (F.newCall_zip_2 _ _) (fun obj=>F.args_object_init_3 obj _ _) F.entry_zip_new (zip_newT l1 l2 xs ys) ⟨hl1,hl2,?_⟩
 have z1:(zq1T s.heap l1).objs.size=s.heap.objs.size+1:=Heap.size_push ..
 have z2:(zq2T s.heap l1 l2).objs.size=s.heap.objs.size+2:=by rw[Heap.size_push,z1]
 have z3:(zq3T s.heap l1 l2).objs.size=s.heap.objs.size+3:=by rw[Heap.size_push,z2]
 have z4:(zq4T s.heap l1 l2).objs.size=s.heap.objs.size+4:=by rw[Heap.size_push,z3]
 have z5:(zq5T s.heap l1 l2).objs.size=s.heap.objs.size+5:=by rw[Heap.size_push,z4]
 have g5:(zq5T s.heap l1 l2).get? (zq4T s.heap l1 l2).objs.size=some _:=Heap.get?_push_size _ rfl
 have g4:(zq5T s.heap l1 l2).get? (zq3T s.heap l1 l2).objs.size=some _:=Heap.get?_push_of_some _ (Heap.get?_push_size _ rfl)
 have g3:(zq5T s.heap l1 l2).get? (zq2T s.heap l1 l2).objs.size=some _:=Heap.get?_push_of_some _ (Heap.get?_push_of_some _ (Heap.get?_push_size _ rfl))
 have g2:(zq5T s.heap l1 l2).get? (zq1T s.heap l1).objs.size=some _:=Heap.get?_push_of_some _ (Heap.get?_push_of_some _ (Heap.get?_push_of_some _ (Heap.get?_push_size _ rfl)))
 have g1:(zq5T s.heap l1 l2).get? s.heap.objs.size=some _:=Heap.get?_push_of_some _ (Heap.get?_push_of_some _ (Heap.get?_push_of_some _ (Heap.get?_push_of_some _ (Heap.get?_push_size _ rfl))))
 show _∧_
 rw[z2,z3,z4] at g5
 rw[z1,z2] at g3
 rw[z3] at g4
 rw[z1] at g2
 rw[z4]
 exact⟨⟨_,g5,rfl⟩,h _ ⟨g5,g3,⟨_,_,g4⟩,⟨_,g1,rfl,rfl⟩,⟨_,g2,rfl,rfl⟩⟩ z5 fun c o x=>Heap.get?_push_of_some _ (Heap.get?_push_of_some _ (Heap.get?_push_of_some _ (Heap.get?_push_of_some _ (Heap.get?_push_of_some _ x))))⟩
def iZipT (K:PySem.W.Frag) (ta:TA):TI:=fun σ H R=>ta σ H fun vs H1=>∃a b,vs=[.ref a,.ref b]∧(∃xs,SqT K H1 a xs)∧(∃ys,SqT K H1 b ys)∧R (ItzT K a b) H1
theorem pi_zipT {X:Cx}{a b:Expr}{ta:TA}{elts:List Expr}{x1:Nat}{p pos pt:Pos}(hg:Gl X "zip")(hm:X.mg "zip" =none)(ha:PA X [a,b] ta)(hs:starEach [a,b] X.env=[(false,eval a X.env),(false,eval b X.env)]:=by rfl)
  (he:starEach [a,b] X.env=(false,eval a X.env)::starEach [b] X.env:=by rfl) (hpl:(backTo pos (starEach [b] X.env)).any (·.1)=false:=by rfl):
  PI X (.Tuple elts x1 pt) (.Call (.Name "zip" p) [a,b] [] pos) (iZipT X.K ta):=by
 intro pins s σ H R I h
 refine wpAny_Call_Name_kw (ld_blt I hg hm bt_zip ?_ (by decide) (by decide))
 refine PyProof.Rows.callWith_type1 (thn (ha pos pins s σ H _ I h) fun us s1 ⟨vs,H1,I1,r1,l1,l2,ev,⟨xs,hq1⟩,⟨ys,hq2⟩,q⟩=>?_) he hpl
 subst ev
 obtain⟨u1,u2,rfl,ru1,ru2⟩:=vals2 r1
 cases(show u1=Value.ref l1 from ru1)
 cases(show u2=Value.ref l2 from ru2)
 obtain⟨its1,r1',p1,_⟩:=I1.tuple hq1
 obtain⟨its2,r2',p2,_⟩:=I1.tuple hq2
 refine zip_callT p1 p2 fun h' st sz kk=>?_
 refine wpAny_pyIter_zip (s:={s1 with heap:=h'}) st.1 ?_
 refine⟨s1.heap.objs.size+4,[s1.heap.objs.size+4,s1.heap.objs.size+2,s1.heap.objs.size+3,s1.heap.objs.size,s1.heap.objs.size+1],_,_,H1,rfl,I1.kept (t':=s1.toks) kk,turn_zipT _ _ _ _ _ l1 l2 ?_,st,fun b hb=>?_,q⟩
 ·generalize s1.heap.objs.size=n
  refine⟨?_,?_,?_,?_,?_,?_,?_,?_,?_,?_⟩<;>(intro z;have z':(_:Nat)=_:=z;omega)
 ·have hb':s1.heap.objs.size≤b:=by
   simp only[List.mem_cons,List.not_mem_nil,or_false] at hb
   rcases hb with rfl|rfl|rfl|rfl|rfl
   ·exact Nat.le_add_right _ _
   ·exact Nat.le_add_right _ _
   ·exact Nat.le_add_right _ _
   ·exact Nat.le_refl _
   ·exact Nat.le_add_right _ _
  exact I1.fpOk hb' (I1.hok.fresh hb')
theorem for_zipT {K:PySem.W.Frag}{a b:Addr}{xs ys:List V}{g:TG}{tb:TS}{D:Ends}{σ:St}{H:Hp}(hle:xs.length=ys.length)(Pv:Nat→St→Hp→Prop)(h0:Pv 0 σ H)(hl:∀i σ H,i≤xs.length→Pv i σ H→SqT K H a xs∧SqT K H b ys)
  (hs:∀i x y p σ H,xs[i]?=some x→ys[i]?=some y→H p=none→Pv i σ H→g (.ref p) σ (upd H p (.tup [x,y])) fun σ2 H2=>tb {D with nx:=Pv (i+1),ct:=Pv (i+1),bk:=D.nx} σ2 H2) (hd:∀σ H,Pv xs.length σ H→D.nx σ H):
  ∃W:Nat→Nat→St→Hp→Prop,(∃m,W 0 m σ H)∧∀i m σ H,W i m σ H→
   ((ItzT K a b).stop i H∧D.nx σ H)∨((ItzT K a b).go i H∧∃N:St→Hp→Prop,(∀σ' H',N σ' H'→∃m',m'<m∧W (i+1) m' σ' H')∧∀x H',(ItzT K a b).yld i H x H'→g x σ H' fun σ2 H2=>tb {D with nx:=N,ct:=N,bk:=D.nx} σ2 H2):=by
 refine⟨fun i m σ H=>m=xs.length - i∧i≤xs.length∧Pv i σ H,⟨xs.length,by simp,Nat.zero_le _,h0⟩,?_⟩
 rintro i m σ H ⟨rfl,hi,p⟩
 obtain⟨q1,q2⟩:=hl i σ H hi p
 by_cases hlt:i<xs.length
 ·refine .inr ⟨⟨xs,ys,xs[i],ys[i],q1,q2,by simp[hlt],by simp[show i<ys.length by omega]⟩,Pv (i+1),fun σ' H' p'=>⟨xs.length - (i+1),by omega,rfl,hlt,p'⟩,fun x H' z=>?_⟩
  obtain⟨P,y1,y2,hn,rfl,rfl,e1,e2⟩:=z
  exact hs i y1 y2 P σ _ (e1 xs q1) (e2 ys q2) hn p
 ·have e:i=xs.length:=by omega
  subst e
  exact .inl ⟨⟨xs,ys,q1,q2,.inl (Nat.le_refl _)⟩,hd σ H p⟩
section
variable {prog:Program} {w:World} {A:Around} {E:Value→Shared→Prop} {s:Shared} {d it v:Addr} {o:Obj} {es:Array DictEntry} {i ep:Nat}
theorem rv_view {Q:Value→Shared→Prop}(hd:(d==sysModules)=false)(ho:s.heap.get? d=some o)(hc:o.ExactDict)
  (h:Q (.ref s.heap.objs.size) {s with heap:=s.heap.push {cls:=.type "dict_values",data:=.fields #[.ref d]}}):wpAny (model prog w) A (call (.builtin "dict.values") [.ref d]) Q E s:=by
 have hT:s.TypeIs (.ref d) "dict" :=⟨o,ho,hc.1⟩
 refine wpAny_call_entry F.slot_dict_values hT F.entry_dict_values ?_ (F.args_dict_values_1 _)
 refine wpAny_bind ?_
 unfold Builtin.Dict.noArgs
 refine wpAny_bind (wpAny_notOrdered_dict hT ?_)
 show wpAny _ _ (pure d) _ _ s
 refine wpAny_pure ?_
 show wpAny _ _ (Builtin.Dict.showsAll d>>=_) _ _ s
 unfold Builtin.Dict.showsAll
 rw[if_neg (by rw[hd];exact Bool.false_ne_true)]
 exact wpAny_bind (wpAny_pure (wpAny_bind (wpAny_newObj_type (wpAny_pure ⟨_,rfl,h⟩))))
theorem rv_iter {Q:Value→Shared→Prop}(hv:s.heap.IsValuesView v d)(ho:s.heap.get? d=some o)(hdat:o.data=.dict es ep)
  (hQ:Q (.ref s.heap.objs.size) {s with heap:=s.heap.push {cls:=.type "dict_valueiterator",data:=.fields #[.ref d,.int 0 0,.int es.size 0,.int ep 0]}}):wpAny (model prog w) A (pyIter (.ref v)) Q E s:=by
 obtain⟨ob,hov,hcv,hdv⟩:=id hv
 refine wpAny_pyIter_slot hv.typeIs F.slot_dict_values_iter (wpAny_call_entry F.slot_dict_values_iter hv.typeIs F.entry_dict_values_iter ?_ (F.args_dict_values_iter_1 _))
 unfold Builtin.«dict_values.__iter__»
 refine wpAny_bind (wpAny_pure (wpAny_bind ?_))
 unfold Builtin.Dict_items.dictOf
 refine wpAny_bind (wpAny_field hov hdv (x:=.ref d) rfl (wpAny_pure (wpAny_bind ?_)))
 unfold Builtin.Dict_items.newIterator
 refine wpAny_bind (wpAny_dictEntries ho hdat (wpAny_bind (wpAny_dictEpoch ho hdat ?_)))
 simp only[show Builtin.Dict_items.ownsTuple "dict_valueiterator" =false by decide,Bool.false_eq_true,if_false]
 refine wpAny_newObj_type (wpAny_pure ⟨_,rfl, "dict_valueiterator",_,⟨_,Heap.get?_push_size _ rfl,rfl⟩,F.slot_dict_valueiterator_next.lookup,?_⟩)
 simpa[rawInt] using hQ
theorem rv_next {Q:Option Value→Shared→Prop}(hit:s.heap.IsValIter it d i es.size ep)(hod:s.heap.get? d=some o)(hdd:o.data=.dict es ep)(hi:i<es.size)
  (hQ:∀h',h'.IsValIter it d (i+1) es.size ep→Heap.SameBut it s.heap h'→Q (some es[i].val) {s with heap:=h'}):wpAny (model prog w) A (pyNext (.ref it)) Q E s:=by
 obtain⟨oi,ho,hc,hd⟩:=id hit
 unfold pyNext
 refine wpAny_bind (wpAny_attempt (wpAny_callSpecial?_slot (name:=Str.ofString "__next__") hit.typeIs F.slot_dict_valueiterator_next
  (wpAny_call_entry F.slot_dict_valueiterator_next hit.typeIs F.entry_dict_valueiterator_next ?_ (F.args_dict_valueiterator_next_1 _))))
 refine wpAny_bind (wpAny_pure (wpAny_bind (wpAny_bind ?_)))
 first|refine wpAny_bind (wpAny_typeNameOfWhole_valiter hit.typeIs (wpAny_pure ?_))|refine wpAny_bind (wpAny_typeNameOf_valiter hit.typeIs (wpAny_pure ?_))
 refine wpAny_bind (wpAny_fieldsOf ho hd ?_)
 simp only[show Builtin.Dict_items.ownsTuple "dict_valueiterator" =false by decide,Bool.false_eq_true,if_false]
 show wpAny _ _ (if (Value.ref d==Value.none)=true then _ else _) _ _ s
 rw[if_neg (show¬((Value.ref d==Value.none)=true) from Bool.false_ne_true)]
 refine wpAny_bind (wpAny_pure (wpAny_bind (wpAny_dictEntries hod hdd ?_)))
 rw[if_neg (by simp)]
 refine wpAny_bind (wpAny_pure (wpAny_bind (wpAny_dictEpoch hod hdd ?_)))
 rw[if_neg (by simp)]
 refine wpAny_pure ?_
 simp only[show¬((i:Int)<0) from by omega,if_false,Int.toNat_natCast,Array.getElem?_eq_getElem hi]
 refine wpAny_bind ?_
 first|refine wpAny_bind (wpAny_typeNameOfWhole_valiter hit.typeIs (wpAny_pure ?_))|refine wpAny_bind (wpAny_typeNameOf_valiter hit.typeIs (wpAny_pure ?_))
 refine wpAny_bind (wpAny_isOneOf_valiter hit.typeIs ?_)
 show wpAny _ _ (setField (.ref it) 1 (rawInt ((i:Int)+1))>>=_) _ _ s
 refine wpAny_bind (wpAny_setField ho hd (by simp) ?_)
 have new:(s.heap.update it (Obj.mapFields (·.setIfInBounds 1 (rawInt ((i:Int)+1))))).IsValIter it d (i+1) es.size ep:=
  ⟨_,Heap.get?_update_self _ ho (Obj.isFreed_of_fields (Obj.data_mapFields hd _)),(Obj.cls_mapFields ..).trans hc,by rw[Obj.data_mapFields hd];simp[rawInt]⟩
 refine wpAny_bind (wpAny_holding (wpAny_bind (wpAny_isOneOf_valiter (s:={s with heap:=s.heap.update it (Obj.mapFields (·.setIfInBounds 1 (rawInt ((i:Int)+1))))}) new.typeIs ?_)))
 refine wpAny_bind (wpAny_isOneOf_valiter (s:={s with heap:=s.heap.update it (Obj.mapFields (·.setIfInBounds 1 (rawInt ((i:Int)+1))))}) new.typeIs ?_)
 show wpAny _ _ (pure es[i].val) _ _ _
 exact wpAny_pure (wpAny_pure ⟨_,rfl,wpAny_pure (hQ _ new (Heap.SameBut.update ..))⟩)
theorem rv_end {Q:Option Value→Shared→Prop}(hh:A.handled=none)(hit:s.heap.IsValIter it d i es.size ep)(hod:s.heap.get? d=some o)(hdd:o.data=.dict es ep)(hi:es.size≤i)
  (hQ:∀h',Heap.ExtBut it s.heap h'→Q none {s with heap:=h'}):wpAny (model prog w) A (pyNext (.ref it)) Q E s:=by
 obtain⟨oi,ho,hc,hd⟩:=id hit
 unfold pyNext
 refine wpAny_bind (wpAny_attempt (wpAny_callSpecial?_slot (name:=Str.ofString "__next__") hit.typeIs F.slot_dict_valueiterator_next
  (wpAny_call_entry F.slot_dict_valueiterator_next hit.typeIs F.entry_dict_valueiterator_next ?_ (F.args_dict_valueiterator_next_1 _))))
 refine wpAny_bind (wpAny_pure (wpAny_bind (wpAny_bind ?_)))
 first|refine wpAny_bind (wpAny_typeNameOfWhole_valiter hit.typeIs (wpAny_pure ?_))|refine wpAny_bind (wpAny_typeNameOf_valiter hit.typeIs (wpAny_pure ?_))
 refine wpAny_bind (wpAny_fieldsOf ho hd ?_)
 simp only[show Builtin.Dict_items.ownsTuple "dict_valueiterator" =false by decide,Bool.false_eq_true,if_false]
 show wpAny _ _ (if (Value.ref d==Value.none)=true then _ else _) _ _ s
 rw[if_neg (show¬((Value.ref d==Value.none)=true) from Bool.false_ne_true)]
 refine wpAny_bind (wpAny_pure (wpAny_bind (wpAny_dictEntries hod hdd ?_)))
 rw[if_neg (by simp)]
 refine wpAny_bind (wpAny_pure (wpAny_bind (wpAny_dictEpoch hod hdd ?_)))
 rw[if_neg (by simp)]
 refine wpAny_pure ?_
 simp only[show¬((i:Int)<0) from by omega,if_false,Int.toNat_natCast,Array.getElem?_eq_none hi]
 refine wpAny_bind ?_
 first|refine wpAny_bind (wpAny_typeNameOfWhole_valiter hit.typeIs (wpAny_pure ?_))|refine wpAny_bind (wpAny_typeNameOf_valiter hit.typeIs (wpAny_pure ?_))
 show wpAny _ _ (setField (.ref it) 0 .none>>=_) _ _ s
 refine wpAny_bind (wpAny_setField ho hd (by simp) ?_)
 show wpAny _ _ (newExc (.type "StopIteration") []>>=_) _ _ _
 refine wpAny_bind ?_
 simp only[newExc,newTuple]
 refine wpAny_bind (wpAny_newObj_type ?_ (by size_fits))
 refine wpAny_bind (m:=firstArgMember _ _) (wpAny_of_eq (a:=Value.none) (by first|rfl|(simp only[firstArgMember];rfl)) (wpAny_newObj_type ?_ (by size_fits)))
 simp only[raiseNew]
 refine wpAny_bind (wpAny_handled ?_)
 rw[show A.in1.handled=none from hh]
 refine wpAny_bind (wpAny_pure (wpAny_throw ?_))
 refine wpAny_bind (wpAny_isInstance (T:= "StopIteration") (b:=true) ⟨_,Heap.get?_push_size _ rfl,rfl⟩ isSubtype_stop ?_)
 exact wpAny_pure (hQ _ (((Heap.SameBut.update ..).extBut.push _).push _))
end
noncomputable def Itv (d:Addr) (o:Obj) (u:HO):It:=
 ⟨fun i H=>H d=some (.frz o u)∧i<szU u,fun i H v H'=>H'=H∧∃x,KeyAt H u i x v,fun i H=>H d=some (.frz o u)∧szU u≤i⟩
theorem turn_vals {P:Program}{w:World}{K:PySem.W.Frag}{tg:Expr}(d it:Addr)(o:Obj)(u:HO)(hu:DictU u)(es:Array DictEntry)(ep:Nat)(hd:o.data=.dict es ep):
  Turn P w K tg (Itv d o u) [it] it (fun i h=>h.IsValIter it d i es.size ep) where
 mem:=by simp
 obj:=fun i h st b hb=>by
  rw[List.mem_singleton.mp hb]
  obtain⟨oi,e,c,q⟩:=st
  exact⟨oi,e,fun v z=>by rw[q] at z;cases z⟩
 keep:=fun i h h' st k=>Heap.IsValIter.at st fun oi e=>k it (by simp) oi e
 item:=by
  intro X hP hw hK hc i pins s σ H E I hf st hg
  subst hP hw hK
  obtain⟨hH,hi⟩:=hg
  obtain⟨_,hod,_,es',ep',hd',hz,hall⟩:=raw_of I.hok hH hu
  rw[hd] at hd';cases hd'
  obtain⟨f0,f1,f2,f3,f4,f5⟩:=hf it (by simp)
  have hi':i<es.size:=by omega
  obtain⟨x,v,hk,r1,r2⟩:=hall i hi'
  refine rv_next st hod hd hi' fun h' st' sb=>?_
  have I1:Inv X pins σ H {s with heap:=h'}:=I.turned (t':=s.toks) (fun b ob hb e=>(sb.2 b hb).trans e) f0 f1 f3 f4 f5
  obtain⟨oi,e,c,q⟩:=id st'
  exact⟨_,rfl,go_of (s:={s with heap:=h'}) e c q (by decide) ⟨v,H,I1,r2,⟨rfl,x,hk⟩,st',fun b hb=>(hf b hb).1⟩⟩
 done:=by
  intro X hP hw hK hc i pins s σ H E I hf st hg
  subst hP hw hK
  obtain⟨hH,hi⟩:=hg
  obtain⟨_,hod,_,es',ep',hd',hz,hall⟩:=raw_of I.hok hH hu
  rw[hd] at hd';cases hd'
  obtain⟨f0,f1,f2,f3,f4,f5⟩:=hf it (by simp)
  exact rv_end (I.ok.hd hc) st hod hd (by omega) fun h' eb=>⟨rfl,I.turned (t':=s.toks) (fun b ob hb e=>eb b ob hb e) f0 f1 f3 f4 f5⟩
 self:=fun A i s Q E st h=>by
  refine wpAny_pyIter_slot st.typeIs F.slot_dict_valueiterator_iter (wpAny_call_entry F.slot_dict_valueiterator_iter st.typeIs entry_dict_valueiterator_iter ?_ (F.args_dict_valueiterator_iter_1 _))
  show wpAny _ _ (ret (.ref it)) _ _ s
  exact wpAny_pure ⟨_,rfl, "dict_valueiterator",_,st.typeIs,F.slot_dict_valueiterator_next.lookup,h⟩
def iVals (te:TE):TI:=fun σ H R=>te σ H fun x H1=>∃d o u,x=.ref d∧H1 d=some (.frz o u)∧DictU u∧R (Itv d o u) H1
theorem pi_values {X:Cx}{tg e:Expr}{te:TE}{apos cpos:Pos}(he:PE X e te)
  (hbase:attributeBase e "values" X.env (eval e X.env)=eval e X.env:=by rfl) (hline:(apos.endLine==cpos.line)=true:=by rfl):
  PI X tg (.Call (.Attribute e "values" apos) [] [] cpos) (iVals te):=by
 intro pins s σ H R I h
 refine wpAny_Call_method0_late hbase hline (thn (he pins s σ H _ I h) fun v s1 ⟨x,H1,I1,r,d,o,u,ex,hd,hu,q⟩=>?_)
 subst ex
 cases(show v=Value.ref d from r)
 obtain⟨hS,hod,hc,es,ep,hdd,hz,_⟩:=raw_of I1.hok hd hu
 refine⟨"dict", "dict.values",F.plainAttrs_dict,F.slot_dict_values,F.type_dict_values,⟨o,hod,hc.1⟩,fun a e2=>by cases e2;exact⟨o,hod,hc.2.1⟩,Calls.callWith_builtin rfl (PySem.evalArgs_none ?_)⟩
 refine rv_view hS hod hc ?_
 have k1:∀b ob,s1.heap.get? b=some ob→(s1.heap.push {cls:=.type "dict_values",data:=.fields #[.ref d]}).get? b=some ob:=fun b ob z=>Heap.get?_push_of_some _ z
 refine rv_iter (s:={s1 with heap:=s1.heap.push {cls:=.type "dict_values",data:=.fields #[.ref d]}}) ⟨_,Heap.get?_push_size _ rfl,rfl,rfl⟩ (k1 _ _ hod) hdd ?_
 have I2:=I1.kept (t':=s1.toks) k1
 refine⟨_,[(s1.heap.push {cls:=.type "dict_values",data:=.fields #[.ref d]}).objs.size],_,_,H1,rfl,I2.kept (t':=s1.toks) (fun b ob z=>Heap.get?_push_of_some _ z),turn_vals d _ o u hu es ep hdd,⟨_,Heap.get?_push_size _ rfl,rfl,rfl⟩,fun b hb=>?_,q⟩
 rw[List.mem_singleton.mp hb]
 exact I2.fpOk (Nat.le_refl _) (I2.hok.fresh (Nat.le_refl _))
theorem for_vals {d:Addr}{o:Obj}{u:HO}{g:TG}{tb:TS}{D:Ends}{σ:St}{H:Hp}(Pv:Nat→St→Hp→Prop)(h0:Pv 0 σ H)(hl:∀i σ H,i≤szU u→Pv i σ H→H d=some (.frz o u))
  (hs:∀i x v σ H,KeyAt H u i x v→i<szU u→Pv i σ H→g v σ H fun σ2 H2=>tb {D with nx:=Pv (i+1),ct:=Pv (i+1),bk:=D.nx} σ2 H2) (hd:∀σ H,Pv (szU u) σ H→D.nx σ H):
  ∃W:Nat→Nat→St→Hp→Prop,(∃m,W 0 m σ H)∧∀i m σ H,W i m σ H→
   ((Itv d o u).stop i H∧D.nx σ H)∨((Itv d o u).go i H∧∃N:St→Hp→Prop,(∀σ' H',N σ' H'→∃m',m'<m∧W (i+1) m' σ' H')∧∀x H',(Itv d o u).yld i H x H'→g x σ H' fun σ2 H2=>tb {D with nx:=N,ct:=N,bk:=D.nx} σ2 H2):=by
 refine⟨fun i m σ H=>m=szU u - i∧i≤szU u∧Pv i σ H,⟨szU u,by simp,Nat.zero_le _,h0⟩,?_⟩
 rintro i m σ H ⟨rfl,hi,p⟩
 have q:=hl i σ H hi p
 by_cases hlt:i<szU u
 ·refine .inr ⟨⟨q,hlt⟩,Pv (i+1),fun σ' H' p'=>⟨szU u - (i+1),by omega,rfl,hlt,p'⟩,fun x H' y=>?_⟩
  obtain⟨e,v,k⟩:=y
  subst e
  exact hs i v x σ _ k hlt p
 ·have e:i=szU u:=by omega
  subst e
  exact .inl ⟨⟨q,Nat.le_refl _⟩,hd σ H p⟩
section
variable {X:Cx}
theorem map_int_inj:∀{c d:List Int},c.map V.int=d.map V.int→c=d
 |[],[],_=>rfl
 |[],_::_,h=>by simp at h
 |_::_,[],h=>by simp at h
 |a::c,b::d,h=>by
  rw[List.map_cons,List.map_cons] at h
  injection h with h1 h2
  injection h1 with h1
  rw[h1,map_int_inj h2]
noncomputable def isT (H:Hp) (c:List Int) (u:Value):Bool:=match u with
 | .ref a=> @decide (H a=some (.tup (c.map V.int))) (Classical.propDecidable _)
 |_=>false
theorem isT_of {H:Hp}{c d:List Int}{a:Addr}(h:H a=some (.tup (d.map V.int))):isT H c (.ref a)=decide (d=c):=by
 show @decide (H a=some (.tup (c.map V.int))) (Classical.propDecidable _)=decide (d=c)
 by_cases e:d=c
 ·subst e
  rw[decide_eq_true (rfl:d=d)]
  exact @decide_eq_true _ (Classical.propDecidable _) h
 ·rw[decide_eq_false e]
  refine @decide_eq_false _ (Classical.propDecidable _) fun z=>e ?_
  rw[h] at z
  injection z with z
  injection z with z
  exact map_int_inj z
def rInT (K:PySem.W.Frag) (neg:Bool):R2:=fun x y H Q=>∃(b p:Addr) (as:List Addr) (c:List Int) (cs:List (List Int)),x=.ref b∧y=.ref p∧H b=some (.tup (c.map V.int))∧SqL K H p (as.map V.ref)∧Tups H as cs∧Q (.bl (if neg then !decide (c∈cs) else decide (c∈cs))) H
theorem any_isT {H:Hp}{c:List Int}:∀{as:List Addr} {cs:List (List Int)},Tups H as cs→(as.map Value.ref).any (isT H c)=decide (c∈cs)
 |_,_,.nil=>by simp
 |a::as,d::cs,.cons r t=>by
  rw[List.map_cons,List.any_cons,isT_of r,any_isT t]
  by_cases h:d=c
  ·subst h;simp
  ·have:¬c=d:=fun z=>h z.symm
   simp[h,this]
theorem mem_isT {k:Nat}(hr:Room k X.A){pins:List (Addr×Obj)}{σ:St}{H:Hp}{s:Shared}(I:Inv X pins σ H s){b:Addr}{c:List Int}(hb:H b=some (.tup (c.map V.int))):
  ∀{as:List Addr} {cs:List (List Int)},Tups H as cs→∀u∈as.map Value.ref,SeqAt.EqAt X.A.in1 s u (.ref b) (isT H c u)
 |_,_,.nil=>fun u hu=>by simp at hu
 |a::as,d::cs,.cons r t=>fun u hu=>by
  rw[List.map_cons] at hu
  rcases List.mem_cons.mp hu with rfl|hu
  ·obtain⟨x1,r1⟩:=(Dp.ints (K:=X.K) (ns:=d) (SqT.of r)).reads I (u:=.ref a) rfl
   obtain⟨x2,r2⟩:=(Dp.ints (K:=X.K) (ns:=c) (SqT.of hb)).reads I (u:=.ref b) rfl
   have:=hr.units
   have h1:=depth_tints d
   rw[isT_of r,←eqv_tints]
   exact SeqAt.eqAt_reads _ _ _ _ _ _ _ _ r1 r2 (Dp.ints (K:=X.K) (H:=H) (SqT.of r)).lay (Dp.ints (K:=X.K) (H:=H) (SqT.of hb)).lay (by show X.A.units+1+_<_;omega)
  ·exact mem_isT hr I hb t u hu
theorem op_inT {k:Nat}(hr:Room k X.A):OpR X (compareOp .In) (rInT X.K false):=by
 intro pins s σ H x y v u Q I rx ry h
 obtain⟨b,p,as,c,cs,rfl,rfl,hb,hp,ht,q⟩:=h
 cases rx
 cases ry
 obtain⟨its,rv,pl,hz⟩:=I.list hp
 cases vals_refs rv
 refine SeqAt.in_listAt (isT H c) pl.isList (fun w hw=>mem_isT hr I hb ht w (by simpa using hw)) ⟨.bl _,H,I,rfl,?_⟩
 rw[show(as.map Value.ref).toArray.any (isT H c)=(as.map Value.ref).any (isT H c) by simp,any_isT ht]
 exact q
theorem op_notinT {k:Nat}(hr:Room k X.A):OpR X (compareOp .NotIn) (rInT X.K true):=by
 intro pins s σ H x y v u Q I rx ry h
 obtain⟨b,p,as,c,cs,rfl,rfl,hb,hp,ht,q⟩:=h
 cases rx
 cases ry
 obtain⟨its,rv,pl,hz⟩:=I.list hp
 cases vals_refs rv
 refine SeqAt.notIn_listAt (isT H c) pl.isList (fun w hw=>mem_isT hr I hb ht w (by simpa using hw)) ⟨.bl _,H,I,rfl,?_⟩
 rw[show(as.map Value.ref).toArray.any (isT H c)=(as.map Value.ref).any (isT H c) by simp,any_isT ht]
 exact q
theorem ev_inT {ta tb:TE}{σ:St}{H:Hp}{K:PySem.W.Frag}{b p:Addr}{as:List Addr}{c:List Int}{cs:List (List Int)}(ha:Ev ta σ H (.ref b))(hb:Ev tb σ H (.ref p))(h1:H b=some (.tup (c.map V.int)))(h2:SqL K H p (as.map V.ref))(h3:Tups H as cs):Ev (tOp (rInT K false) ta tb) σ H (.bl (decide (c∈cs))):=
 fun _ q=>ha _ (hb _ ⟨b,p,as,c,cs,rfl,rfl,h1,h2,h3,q⟩)
theorem ev_notinT {ta tb:TE}{σ:St}{H:Hp}{K:PySem.W.Frag}{b p:Addr}{as:List Addr}{c:List Int}{cs:List (List Int)}(ha:Ev ta σ H (.ref b))(hb:Ev tb σ H (.ref p))(h1:H b=some (.tup (c.map V.int)))(h2:SqL K H p (as.map V.ref))(h3:Tups H as cs):Ev (tOp (rInT K true) ta tb) σ H (.bl (!decide (c∈cs))):=
 fun _ q=>ha _ (hb _ ⟨b,p,as,c,cs,rfl,rfl,h1,h2,h3,q⟩)
end
noncomputable def bitsOk (f:Nat→Nat):Nat→Nat→Bool
 |0,_=>true
 |n+1,acc=>!(acc.testBit (f n))&&bitsOk f n (acc|||(1<<<f n))
theorem bitsOk_of {f:Nat→Nat}:∀{n acc:Nat},bitsOk f n acc=true→∀i<n,acc.testBit (f i)=false∧∀j<n,f j=f i→j=i
 |0,_,_,i,hi=>absurd hi (Nat.not_lt_zero _)
 |n+1,acc,h,i,hi=>by
  unfold bitsOk at h
  rw[Bool.and_eq_true] at h
  obtain⟨h1,h2⟩:=h
  have h1:acc.testBit (f n)=false:=by simpa using h1
  have ih:=bitsOk_of h2
  have key:∀k<n,acc.testBit (f k)=false∧f k≠f n:=fun k hk=>by
   have:=(ih k hk).1
   rw[Nat.testBit_or,Bool.or_eq_false_iff] at this
   refine⟨this.1,fun e=>?_⟩
   have h3:=this.2
   rw[e,Nat.testBit_shiftLeft] at h3
   simp at h3
  by_cases e:i=n
  ·subst e
   refine⟨h1,fun j hj ej=>?_⟩
   by_cases e2:j=i
   ·exact e2
   ·exact absurd ej (key j (by omega)).2
  ·refine⟨(key i (by omega)).1,fun j hj ej=>?_⟩
   by_cases e2:j=n
   ·subst e2;exact absurd ej.symm (key i (by omega)).2
   ·exact(ih i (by omega)).2 j (by omega) ej
noncomputable def hv3 (k:Nat):Int:=reduceHash (Builtin.Tuple.tupleHashOf [((k/256:Nat):Int),((k/16%16:Nat):Int),((k%16:Nat):Int)])
def hm3 (k:Nat):Nat:=(hv3 k%14941).toNat
theorem hm3_ok:bitsOk hm3 1024 0=true:=by decide+kernel
theorem hv3_inj {i j:Nat}(hi:i<1024)(hj:j<1024)(e:hv3 i=hv3 j):i=j:=(bitsOk_of hm3_ok j hj).2 i hi (by unfold hm3;rw[e])
section
variable {prog:Program} {w:World} {d:Addr} {es:Array DictEntry} {ep:Nat}
theorem rk_src (hd:(d==sysModules)=false):PySem.W.KdlSrc prog w "dict" d d es.size (fun i v=>∃hi:i<es.size,v=es[i].key) (fun h=>∃o,h.get? d=some o∧o.ExactDict∧o.data=.dict es ep) where
 type:=fun _ ⟨o,ho,hc,_⟩=>⟨o,ho,hc.1⟩
 there:=fun _ ⟨o,ho,_⟩=>⟨Heap.lt_size ho,Heap.lt_size ho⟩
 keep:=fun _ _ ⟨o,ho,x⟩ hk=>⟨o,hk d (.inl rfl) o ho,x⟩
 notList:=by decide
 notTuple:=by decide
 hint:=fun _ _ _ _ ⟨o,ho,hc,_⟩ hq=>PySem.W.kdl_hint_dict ⟨o,ho,hc.1⟩ hq
 iter:=fun A s hh ⟨o,ho,hc,hdat⟩=>⟨_,fun i h=>h.IsKeyIter s.heap.objs.size d i es.size ep∧∃o,h.get? d=some o∧o.data=.dict es ep,(fun _ _ hq=>rk_iter hd ho hc hdat hq),{
   sub:=fun b hb=>by simp at hb;simp[hb]
   frame:=fun _ _ _ ⟨st,o,h1,h2⟩ hk=>⟨keyiter_at st fun o e=>hk _ (by simp) o e,o,hk d (by simp) o h1,h2⟩
   item:=fun i s' Q E hi ⟨st,o,h1,h2⟩ hQ=>rk_next st h1 h2 hi fun h' st' sb=>hQ _ h' s'.toks ⟨hi,rfl⟩ ⟨st',o,(sb.2 d (Nat.ne_of_lt (Heap.lt_size ho))).trans h1,h2⟩ fun b o hb e=>(sb.2 b (fun z=>hb (by simp[z]))).trans e
   done:=fun s' Q E ⟨st,o,h1,h2⟩ hQ=>rk_end hh st h1 h2 (Nat.le_refl _) fun h' eb=>hQ h' s'.toks fun b o hb e=>eb b o (fun z=>hb (by simp[z])) e
   self:=fun i s' Q E ⟨st,_⟩ hQ=>wpAny_pyIter_keyiter st hQ},⟨⟨_,Heap.get?_push_size _ rfl,rfl,rfl⟩,o,Heap.get?_push_of_some _ ho,hdat⟩⟩
end
section
variable {X:Cx}
theorem sort_core {pins:List (Addr×Obj)}{σ:St}{H:Hp}{s:Shared}{A:Around}{Q:Value→Shared→Prop}{m:Str→Option Value}(I:Inv X pins σ H s){as:List Addr}{cs:List (List Int)}(ht:Tups H as cs)(hne:∀c∈cs,c≠[])(h2:2≤as.length)(h64:as.length<64)(hm:s.heap.Ns X.env.locals m)
  {D:Addr} {e1 tk:Nat} {h':Heap} (F':Fr (Att.noObjs s.heap) X.env.locals h' m) (N':News (Att.noObjs s.heap) X.env.locals h' ((D,seqObj "list" #[] e1)::allNews (Att.noObjs s.heap) s.heap X.env.locals)) (hD:∀q∈allNews (Att.noObjs s.heap) s.heap X.env.locals,q.1<D)
  (q:∀bs ds s',H D=none→Tups H bs ds→ds.Perm cs→ds.Pairwise (fun c d=>HT.lexLt d c=false)→Inv X pins σ (upd H D (.lst (bs.map V.ref))) s'→Q (.ref D) s'):
  wpAny (model X.prog X.w) A (keyKind' (as.map Value.ref).toArray) (fun κ s'=>(PySem.W.kas_sort (as.map Value.ref).length).kasWp (PySem.W.kas_ask X.prog X.w A κ (as.map Value.ref)) (fun p s''=>PySem.W.KasFin (Att.noObjs s.heap) X.env.locals m D e1 (p.toList.map fun i=>(as.map Value.ref).getD i Value.none) (fun s3=>Q (.ref D) s3) s'') s') (fun _ _=>False) {s with heap:=h',toks:=tk}:=by
 have hcl:as.length=cs.length:=ht.length
 have k0:∀b u,b≠X.env.locals→s.heap.get? b=some u→h'.get? b=some u:=fun b u hb e=>(N' (b,u) (List.mem_cons_of_mem _ (mem_allNews hb (Att.noObjs_get _ _) e))).1
 have hDn:s.heap.get? D=none:=by
  cases e:s.heap.get? D with
  |none=>rfl
  |some u=>exact absurd (hD (D,u) (mem_allNews (N' (D,_) List.mem_cons_self).2.1 (Att.noObjs_get _ _) e)) (Nat.lt_irrefl _)
 obtain⟨fs,kt,hfl,hfi⟩:=tups_kat I k0 ht hne
 refine PySem.W.kat_kind (s:={s with heap:=h',toks:=tk}) (T:=.type "int") kt (by omega) (fun v hv=>?_) rfl ?_
 ·obtain⟨i,t,rfl⟩:=hfi v hv
  exact .now
 have hl:(as.map Value.ref).length=as.length:=List.length_map ..
 obtain⟨s1,s2,s3⟩:=sort_ok (O:=lexO) (key:=fun i=>cs.getD i []) (N:=as.length) (by omega)
 rw[hl]
 refine kas_ev (lt:=ltK (O:=lexO) fun i=>cs.getD i []) (I:=fun s'=>s'={s with heap:=h',toks:=tk}) (fun i j C s' hi hj hs hC=>?_) s1 rfl fun s' hs=>?_
 ·subst hs
  obtain⟨ci,e1,g1⟩:=ht.at (i:=i) (a:=as[i]) (by simp[hi])
  obtain⟨cj,e2,g2⟩:=ht.at (i:=j) (a:=as[j]) (by simp[hj])
  have v1:(as.map Value.ref).getD i Value.none=.ref as[i]:=by simp[hi]
  have v2:(as.map Value.ref).getD j Value.none=.ref as[j]:=by simp[hj]
  have hne1:as[i]≠X.env.locals:=fun z=>by rw[z,I.free] at g1;cases g1
  have hne2:as[j]≠X.env.locals:=fun z=>by rw[z,I.free] at g2;cases g2
  obtain⟨_,xs1,rv1,o1,ho1,_,n1,hd1⟩:=(show ObjOk X.prog X.w H s.heap as[i] (.tup (ci.map V.int)) from I.hok _ _ g1)
  obtain⟨_,xs2,rv2,o2,ho2,_,n2,hd2⟩:=(show ObjOk X.prog X.w H s.heap as[j] (.tup (cj.map V.int)) from I.hok _ _ g2)
  unfold PySem.W.kas_ask
  rw[v1,v2]
  refine PySem.W.kat_lt (k0 _ _ hne1 ho1) hd1 (k0 _ _ hne2 ho2) hd2 ?_
  have l1:=rv1.length
  have l2:=rv2.length
  rw[List.length_map] at l1 l2
  refine katlex_ints xs1 xs2 ci cj 0 rv1 rv2 (by simp[l1,l2]) ?_
  have:=hC _ rfl
  simp only[ltK,List.getD_eq_getElem?_getD,e1,e2,Option.getD_some] at this
  exact this
 ·subst hs
  refine PySem.W.KasFin.intro (s:={s with heap:=h',toks:=tk}) F' N' (.head fun p hp=>Nat.ne_of_lt (hD p hp)) fun h2' c F2 N2=>?_
  have hix:∀i∈(evT (ltK (O:=lexO) fun i=>cs.getD i []) (PySem.W.kas_sort as.length)).toList,i<as.length:=fun i hi=>by
   have:=(Array.perm_iff_toList_perm.mp s2).mem_iff.mp hi
   simpa using this
  generalize hE:evT (ltK (O:=lexO) fun i=>cs.getD i []) (PySem.W.kas_sort as.length)=P at s2 s3 hix N2
  have hb:(P.toList.map fun i=>(as.map Value.ref).getD i Value.none)=(P.toList.map fun i=>as.getD i 0).map Value.ref:=by
   rw[List.map_map]
   refine List.map_congr_left fun i hi=>?_
   have:=hix i hi
   simp[this]
  have I':Inv X pins σ (upd H D (.lst ((P.toList.map fun i=>as.getD i 0).map V.ref))) {s with heap:=h2',toks:=tk}:=by
   refine I.laidN (fun b u hb e=>?_) (fun m' hm'=>?_) hDn ?_
   ·exact(N2 (b,u) (List.mem_cons_of_mem _ (mem_allNews hb (Att.noObjs_get _ _) e))).1
   ·have:m'=m:=ns_inj hm' hm
    rw[this];exact F2.ns
   ·have e:=(N2 (D,_) List.mem_cons_self).1
    rw[hb] at e
    refine⟨?_,_,_,vals_of_refs _,e⟩
    rw[List.length_map,List.length_map,Array.length_toList,s2.size]
    exact Nat.le_trans (Nat.le_of_lt h64) (by decide)
  refine q _ _ _ (I.hok.none_of hDn) (Paired.pick 0 [] ht _ hix) (pick_perm [] cs (by rw[←hcl];exact s2)) ?_ I'
  rw[List.pairwise_iff_getElem]
  intro i j hi hj hij
  simp only[List.length_map,Array.length_toList] at hi hj
  have:=s3 i j (Nat.le_of_lt hij) (by rw[s2.size] at hj;exact hj)
  simp only[List.getElem_map,Array.getElem_toList]
  unfold kA at this
  simp only[Array.getD_eq_getD_getElem?,Array.getElem?_eq_getElem hi,Array.getElem?_eq_getElem hj,Option.getD_some] at this
  exact this
end
section
variable {X:Cx}
theorem pick_as {H:Hp}:∀{cs:List (List Int)} {vs:List Value},vs.length=cs.length→(∀(i:Nat) (v:Value) (c:List Int),vs[i]?=some v→cs[i]?=some c→∃a,v=.ref a∧H a=some (.tup (c.map V.int)))→∃as:List Addr,vs=as.map Value.ref∧Tups H as cs
 |[],[],_,_=>⟨[],rfl,.nil⟩
 |[],_::_,h,_=>by simp at h
 |_::_,[],h,_=>by simp at h
 |c::cs,v::vs,h,f=>by
  obtain⟨a,rfl,ha⟩:=f 0 v c rfl rfl
  obtain⟨as,rfl,ht⟩:=pick_as (cs:=cs) (vs:=vs) (by simpa using h) fun i v c h1 h2=>f (i+1) v c (by simpa using h1) (by simpa using h2)
  exact⟨a::as,rfl,.cons ha ht⟩
theorem kV_ints:∀c:List Int,(c.map Sum.inl:List Key).map kV=c.map V.int
 |[]=>rfl
 |a::c=>by rw[List.map_cons,List.map_cons,List.map_cons,kV_ints c];rfl
theorem call_sortedD (hcm:X.calm=true):CallR X (.builtin "sorted") (fun xs H Q=>∃(p:Addr) (kvs:List (List Key×V)) (cs:List (List Int)),xs=[.ref p]∧H p=some (.dT kvs)∧kvs.map (·.1)=cs.map (fun c=>c.map Sum.inl)∧(∀c∈cs,c≠[])∧2≤cs.length∧cs.length<64∧
  ∀l bs ds,H l=none→Tups H bs ds→ds.Perm cs→ds.Pairwise (fun c d=>HT.lexLt d c=false)→Q (.ref l) (upd H l (.lst (bs.map V.ref)))):=by
 intro pins s σ H xs us Q I r h
 obtain⟨p,kvs,cs,rfl,e,hk,hne,h2,h64,q⟩:=h
 obtain⟨u,rfl,rx⟩:=vals1 r
 cases rx
 obtain⟨o,I1,hgo⟩:=I.freeze e trivial
 obtain⟨hS,hod,hc,es,ep,hdd,hz,hall⟩:=raw_of I1.hok upd_same trivial
 have hkl:kvs.length=cs.length:=by have:=congrArg List.length hk;simpa using this
 have hes:es.size=cs.length:=by rw[←hkl];exact hz
 obtain⟨m,hm,_⟩:=id I.loc
 refine PySem.W.kdu_sorted (rk_src hS) (I.ok.hd hcm) (Att.fr_all hm) news_all ⟨o,hod,hc,hdd⟩ (by rw[hes,sizeLine_eq];omega) fun D h' tk vs F' N' hD hlen hP=>?_
 obtain⟨as,rfl,ht⟩:∃as:List Addr,vs=as.map Value.ref∧Tups H as cs:=by
  refine pick_as (by rw[hlen,hes]) fun i v c hv hcv=>?_
  obtain⟨hi,rfl⟩:=hP i v hv
  obtain⟨x,y,hka,r1,r2⟩:=hall i hi
  obtain⟨kk,a,h1,h2,h3⟩:=hka
  have h4:(kvs.map (·.1))[i]?=some kk:=by rw[List.getElem?_map,h1];rfl
  rw[hk,List.getElem?_map,hcv] at h4
  have h5:=Option.some.inj h4
  subst h2
  refine⟨a,r1,?_⟩
  have hap:a≠p:=fun z=>by rw[z,upd_same] at h3;cases h3
  rw[upd_ne hap,←h5,kV_ints] at h3
  exact h3
 have hal:as.length=cs.length:=ht.length
 refine PySem.W.kat_lsort (s:={s with heap:=h',toks:=tk}) (vs:=as.map Value.ref) F' N' (.head fun p hp=>Nat.ne_of_lt (hD p hp)) (by simp) (by rw[List.length_map];omega) (by rw[List.length_map];omega) fun e1 h2' F2 N2=>?_
 refine sort_core I ht hne (by omega) (by omega) hm F2 N2 hD (fun bs ds s' hn t1 t2 t3 I'=>?_)
 exact⟨.ref D,_,I',rfl,q D bs ds hn t1 t2 t3⟩
end
section
variable {prog:Program} {w:World} {κ:Type} [DecidableEq κ] {knd:HeapKind prog w κ} {A:Around} {E:Value→Shared→Prop} {s:Shared}
end
section
variable {X:Cx}
def rGetT:V→List V→Hp→VK→Prop:=fun x vs H Q=>∃a y z o,x=.ref a∧vs=[y,z]∧DGet H a y o∧Q (o.getD z) H
theorem mt_getT {j:Nat}(hr:Room j X.A):MtR X "dict.get" rGetT:=by
 intro pins s σ H x vs v us Q I rx rv h
 obtain⟨a,y,z,o,rfl,rfl,g,q⟩:=h
 cases rx
 obtain⟨u1,u2,rfl,r1,r2⟩:=vals2 rv
 exact d_get2 (Room.one hr) I g r1 r2 fun w' s' I' r'=>⟨_,H,I',r',q⟩
end
theorem op_notinTK {X:Cx}{K:PySem.W.Frag}{k:Nat}(e:X.K=K)(hr:Room k X.A):OpR X (compareOp .NotIn) (rInT K true):=by subst e;exact op_notinT hr
theorem ix_tupK {X:Cx}{K:PySem.W.Frag}(e:X.K=K):IxR X (rIxT K):=by subst e;exact ix_tup
theorem lc_keys {d:Addr}{o:Obj}{u:HO}{σ0:St}{g:TG}{tt:TT}{te:TE}{H1:Hp}{D:Addr}{Q:Hp→Prop}(Pv:Nat→St→Hp→Prop)(h0:Pv 0 σ0 (upd H1 D (.lst [])))(hl:∀i τ H,i≤szU u→Pv i τ H→H d=some (.frz o u))
  (hs:∀i x v τ H,KeyAt H u i x v→i<szU u→Pv i τ H→g x τ H fun τ2 H2=>tt τ2 H2 fun b H3=>if b=true then te τ2 H3 fun v H4=>∃acc,H4 D=some (.lst acc)∧acc.length<sizeLine∧Pv (i+1) τ2 (upd H4 D (.lst (acc++[v]))) else Pv (i+1) τ2 H3)
  (hd:∀τ H,Pv (szU u) τ H→Q H):lcW σ0 g tt te (Itk d o u) H1 D Q:=by
 refine⟨fun i m τ H=>m=szU u - i∧i≤szU u∧Pv i τ H,⟨szU u,by simp,Nat.zero_le _,h0⟩,?_⟩
 rintro i m τ H ⟨rfl,hi,p⟩
 have q:=hl i τ H hi p
 by_cases hlt:i<szU u
 ·refine .inr ⟨⟨q,hlt⟩,Pv (i+1),fun τ' H' p'=>⟨szU u - (i+1),by omega,rfl,hlt,p'⟩,fun x H' y=>?_⟩
  obtain⟨e,v,k⟩:=y
  subst e
  exact hs i x v τ _ k hlt p
 ·have e:i=szU u:=by omega
  subst e
  exact .inl ⟨⟨q,Nat.le_refl _⟩,hd τ H p⟩
section
open PySem.SeqAt
open PySem.AutoSeq1 (wpAny_loadPart')
open PySem.MeetsSeq PySem.MeetsSeq2 PySem.MeetsSeq3
end
section
variable {prog:Program} {w:World} {A:Around} {E:Value→Shared→Prop} {s:Shared}
end
section
variable {prog:Program} {w:World} {A:Around} {R:Result→Shared→Prop} {it:Addr} {fp wr:List Addr} {P:Nat→Value→Prop} {St:Nat→Heap→Prop}
end
section
variable {prog:Program} {w:World} {A:Around} {E:Value→Shared→Prop} {s:Shared}
end
section
variable {X:Cx}
end
section
variable {prog:Program} {w:World} {A:Around} {R:Result→Shared→Prop} {it:Addr} {fp wr:List Addr} {P:Nat→Value→Prop} {St:Nat→Heap→Prop}
end
section
variable {prog:Program} {w:World} {A:Around} {E:Value→Shared→Prop} {s:Shared}
end
section
variable {X:Cx}
end
section
variable {X:Cx}
end
section
variable {X:Cx} {pins:List (Addr×Obj)} {σ:St} {H:Hp} {s:Shared}
end
section
variable {M:Model} {A:Around} {E:Value→Shared→Prop} {s:Shared} {env:Env} {pos:Pos} {f:Addr} {Q:Value→Shared→Prop}
end
section
variable {X:Cx}
end
section
variable {X:Cx}
end
section
variable {P:Program} {w:World} {K:PySem.W.Frag} {mg:Str→Option Value} {base:Heap}
end
namespace TabA
open SetTable
variable (t:SetTable) (hashAt:Nat→Int) (h:Int)
noncomputable def lp (p:Probe):Probe:={p with j:=(leap t.mask p.i p.perturb).1,more:=runEnd t.mask (leap t.mask p.i p.perturb).1 - (leap t.mask p.i p.perturb).1,i:=(leap t.mask p.i p.perturb).1,perturb:=(leap t.mask p.i p.perturb).2}
def Good (N:Nat) (p:Probe):Prop:=∀f,N≤f→∃j,probe.go t hashAt h f p=some (.empty j none)
variable {t hashAt h}
theorem Good.mono {N M:Nat}{p:Probe}(g:Good t hashAt h N p)(l:N≤M):Good t hashAt h M p:=fun f hf=>g f (Nat.le_trans l hf)
theorem slot_live {j i:Nat}(e:t.slot j=.live i):i<t.place.size:=by
 unfold slot at e
 dsimp only at e
 split at e
 ·rename_i q
  injection e with e
  subst e
  have q':=beq_iff_eq.mp q
  exact(Array.getElem?_eq_some_iff.mp q').1
 ·split at e<;>cases e
theorem slot_nodummy {j:Nat}(hd:t.dummies= #[]):t.slot j≠.dummy:=by
 unfold slot
 dsimp only
 split
 ·intro z;cases z
 ·rw[hd]
  split
  ·rename_i q
   unfold has at q
   simp at q
  ·intro z;cases z
theorem slot_free {j:Nat}(hd:t.dummies= #[])(hj:j∉t.place):t.slot j=.empty:=by
 cases e:t.slot j with
 |empty=>rfl
 |dummy=>exact(slot_nodummy hd e).elim
 |live i=>
  unfold slot at e
  dsimp only at e
  split at e
  ·rename_i q
   have q':=beq_iff_eq.mp q
   exact(hj (Array.mem_of_getElem? q')).elim
  ·split at e<;>cases e
theorem good_empty {p:Probe}(hp:p.dummy=none)(e:t.slot p.j=.empty):Good t hashAt h 1 p:=by
 intro f hf
 obtain⟨f,rfl⟩:∃g,f=g+1:=⟨f - 1,by omega⟩
 refine⟨p.j,?_⟩
 unfold probe.go
 rw[e]
 dsimp only
 rw[hp]
theorem good_step {N:Nat}{p:Probe}(hd:t.dummies= #[])(hne:∀i,i<t.place.size→hashAt i≠h)(hp:p.dummy=none)(g:Good t hashAt h N (t.advance p)):Good t hashAt h (N+1) p:=by
 intro f hf
 obtain⟨f,rfl⟩:∃g,f=g+1:=⟨f - 1,by omega⟩
 unfold probe.go
 cases e:t.slot p.j with
 |empty=>exact⟨p.j,by dsimp only;rw[hp]⟩
 |dummy=>exact(slot_nodummy hd e).elim
 |live i=>
  dsimp only
  rw[if_neg (by simpa using hne i (slot_live e))]
  exact g f (by omega)
theorem good_run (hd:t.dummies= #[])(hne:∀i,i<t.place.size→hashAt i≠h):∀(m N:Nat) (p:Probe),p.more=m→p.dummy=none→Good t hashAt h N (lp t p)→Good t hashAt h (N+(m+1)) p:=by
 intro m
 induction m with
 |zero=>
  intro N p hm hp g
  refine good_step hd hne hp ?_
  have e:t.advance p=lp t p:=by unfold advance;rw[if_neg (by omega)];rfl
  rw[e];exact g
 |succ m ih=>
  intro N p hm hp g
  have e:t.advance p={p with j:=p.j+1,more:=m}:=by unfold advance;rw[if_pos (by omega),hm];rfl
  refine good_step (N:=N+(m+1)) hd hne hp ?_
  rw[e]
  exact ih N _ rfl hp g
theorem run_le (m i:Nat):runEnd m i - i≤9:=by unfold runEnd;split<;>omega
noncomputable def nth (t:SetTable) (h:Int):Nat→Probe
 |0=>t.probeStart h
 |n+1=>lp t (nth t h n)
theorem nth_dummy:∀n,(nth t h n).dummy=none
 |0=>rfl
 |n+1=>nth_dummy n
theorem nth_more:∀n,(nth t h n).more≤9
 |0=>run_le _ _
 |_+1=>run_le _ _
theorem nth_j:∀n,(nth t h n).j=(nth t h n).i
 |0=>rfl
 |_+1=>rfl
theorem good_nth (hd:t.dummies= #[])(hne:∀i,i<t.place.size→hashAt i≠h):∀(n k:Nat),t.slot (nth t h (k+n)).j=.empty→Good t hashAt h (1+10*n) (nth t h k)
 |0,k,e=>good_empty (nth_dummy k) e
 |n+1,k,e=>by
  have g:Good t hashAt h (1+10*n) (nth t h (k+1)):=good_nth hd hne n (k+1) (by rw[show k+1+n=k+(n+1) by omega];exact e)
  have:=good_run hd hne _ _ (nth t h k) rfl (nth_dummy k) g
  exact this.mono (by have:=nth_more (t:=t) (h:=h) k;omega)
theorem bits_lt (h:Int):bits h<2^64:=by unfold bits;omega
theorem nth_pert:∀n,(nth t h n).perturb=bits h/32^n
 |0=>by show bits h=_;simp
 |n+1=>by
  show(nth t h n).perturb/32=_
  rw[nth_pert n,Nat.div_div_eq_div_mul,Nat.pow_succ]
theorem nth_i (n:Nat):(nth t h (n+1)).i=((nth t h n).i*5+1+bits h/32^(n+1))%(t.mask+1):=by
 show((nth t h n).i*5+1+(nth t h n).perturb/32)%(t.mask+1)=_
 rw[nth_pert n,Nat.div_div_eq_div_mul,Nat.pow_succ]
theorem pert0 {n:Nat}(hn:13≤n):bits h/32^n=0:=by
 refine Nat.div_eq_of_lt (Nat.lt_of_lt_of_le (bits_lt h) ?_)
 exact Nat.le_trans (by decide:2^64≤32^13) (Nat.pow_le_pow_right (by decide) hn)
noncomputable def it (M:Nat):Nat→Nat→Nat
 |0,a=>a
 |k+1,a=>(it M k a*5+1)%M
theorem nth_it:∀k,(nth t h (12+k)).i=it (t.mask+1) k (nth t h 12).i
 |0=>rfl
 |k+1=>by
  show(nth t h (12+k+1)).i=_
  rw[nth_i,pert0 (by omega),nth_it k]
  rfl
theorem it8:∀a<8,∀j<8,∃k,k<8∧it 8 k a=j:=by decide+kernel
theorem it32:∀a<32,∀j<32,∃k,k<32∧it 32 k a=j:=by decide+kernel
theorem nth_lt:∀n,(nth t h n).i<t.mask+1
 |0=>Nat.mod_lt _ (Nat.succ_pos _)
 |n+1=>by rw[nth_i];exact Nat.mod_lt _ (Nat.succ_pos _)
theorem all_met (hm:t.mask=7∨t.mask=31){j:Nat}(hj:j<t.mask+1):∃n,n<13+t.mask∧(nth t h n).i=j:=by
 have l:=nth_lt (t:=t) (h:=h) 12
 rcases hm with e|e
 ·rw[e] at hj l⊢
  obtain⟨k,hk,q⟩:=it8 _ l j hj
  exact⟨12+k,by omega,by rw[nth_it,e];exact q⟩
 ·rw[e] at hj l⊢
  obtain⟨k,hk,q⟩:=it32 _ l j hj
  exact⟨12+k,by omega,by rw[nth_it,e];exact q⟩
theorem nodup_le:∀{l m:List Nat},l.Nodup→(∀x∈l,x∈m)→l.length≤m.length
 |[],m,_,_=>Nat.zero_le _
 |a::l,m,hn,hs=>by
  have ha:=hs a List.mem_cons_self
  have:=nodup_le (l:=l) (m:=m.erase a) (List.nodup_cons.mp hn).2 fun x hx=>(List.mem_erase_of_ne (fun(e:x=a)=>(List.nodup_cons.mp hn).1 (e▸hx))).mpr (hs x (List.mem_cons_of_mem _ hx))
  rw[List.length_erase_of_mem ha] at this
  have:=List.length_pos_of_mem ha
  simp only[List.length_cons]
  omega
theorem some_free (_hd:t.dummies= #[])(hs:t.place.size≤t.mask):∃j,j<t.mask+1∧j∉t.place:=by
 by_cases q:∀j,j<t.mask+1→j∈t.place
 ·exfalso
  have:=nodup_le (l:=List.range (t.mask+1)) (m:=t.place.toList) List.nodup_range fun j hj=>Array.mem_toList_iff.mpr (q j (List.mem_range.mp hj))
  simp at this
  omega
 ·simp only[Classical.not_forall] at q
  obtain⟨j,h1,h2⟩:=q
  exact⟨j,h1,h2⟩
theorem probe_new (hm:t.mask=7∨t.mask=31)(hd:t.dummies= #[])(hs:t.place.size≤t.mask)(hne:∀i,i<t.place.size→hashAt i≠h):∃j,t.probe hashAt h (t.probeStart h)=some (.empty j none):=by
 obtain⟨j,hj,fr⟩:=some_free hd hs
 obtain⟨n,hn,e⟩:=all_met (h:=h) hm hj
 have:=good_nth (h:=h) hd hne n 0 (by rw[Nat.zero_add,nth_j,e];exact slot_free hd fr)
 exact this _ (by unfold turns;omega)
noncomputable def cnt (o:Array (Option Nat)):Nat:=o.toList.countP Option.isSome
structure Ow (o:Array (Option Nat)) (k:Nat):Prop where
 sz:o.size=32
 ct:cnt o=k
 lt:∀(j v:Nat),o[j]?=some (some v)→v<k
theorem ow_free {o:Array (Option Nat)}{k:Nat}(w:Ow o k)(hk:k<32):∃j,j<32∧o.getD j (some 0)=none:=by
 by_cases q:∀j,j<32→o.getD j (some 0)≠none
 ·exfalso
  have:o.toList.countP Option.isSome=o.toList.length:=by
   refine List.countP_eq_length.mpr fun v hv=>?_
   obtain⟨j,hj,e⟩:=List.mem_iff_getElem.mp hv
   have hj':j<o.size:=by simpa using hj
   have:=q j (by rw[←w.sz];exact hj')
   rw[Array.getD_eq_getD_getElem?,Array.getElem?_eq_getElem hj'] at this
   have e':o[j]=v:=by simpa using e
   rw[e'] at this
   cases v with
   |none=>exact(this rfl).elim
   |some _=>rfl
  have h1:=w.ct
  unfold cnt at h1
  rw[this,Array.length_toList,w.sz] at h1
  omega
 ·simp only[Classical.not_forall,Classical.not_not] at q
  obtain⟨j,h1,h2⟩:=q
  exact⟨j,h1,h2⟩
theorem free_some {o:Array (Option Nat)}:∀(f i p:Nat),(∃n,n<f∧∃j,o.getD j (some 0)=none∧j=(Nat.rec (motive:=fun _=>Nat×Nat) (i,p) (fun _ q=>leap 31 q.1 q.2) n).1)→∃j,layClean.free 31 o f i p=some j∧o.getD j (some 0)=none:=by
 intro f
 induction f with
 |zero=>intro i p ⟨n,hn,_⟩;omega
 |succ f ih=>
  intro i p ⟨n,hn,j,hj,e⟩
  unfold layClean.free
  cases q:(List.range (runEnd 31 i+1 - i)).find? fun k=>(o.getD (i+k) (some 0)).isNone with
  |some k=>
   exact⟨i+k,rfl,by have:=List.find?_some q;simpa using this⟩
  |none=>
   dsimp only
   cases n with
   |zero=>
    exfalso
    have e:j=i:=e
    have:=List.find?_eq_none.mp q 0 (List.mem_range.mpr (by unfold runEnd;split<;>omega))
    rw[Nat.add_zero,←e,hj] at this
    exact this rfl
   |succ n=>
    refine ih _ _ ⟨n,by omega,j,hj,e.trans ?_⟩
    have aux:∀n,(Nat.rec (motive:=fun _=>Nat×Nat) (i,p) (fun _ q=>leap 31 q.1 q.2) (n+1):Nat×Nat)=Nat.rec (motive:=fun _=>Nat×Nat) ((leap 31 i p).1,(leap 31 i p).2) (fun _ q=>leap 31 q.1 q.2) n:=by
     intro n
     induction n with
     |zero=>rfl
     |succ n ih=>show leap 31 _ _=leap 31 _ _;rw[←ih]
    rw[aux]
noncomputable def t31:SetTable:={mask:=31,place:= #[],dummies:= #[],finger:=0,led:=true,moves:=0,plain:=true}
theorem rec_nth (h:Int):∀n,(Nat.rec (motive:=fun _=>Nat×Nat) (bits h%32,bits h) (fun _ q=>leap 31 q.1 q.2) n:Nat×Nat)=((nth t31 h n).i,(nth t31 h n).perturb)
 |0=>rfl
 |n+1=>by show leap 31 _ _=_;rw[rec_nth h n];rfl
theorem free_new {o:Array (Option Nat)}{k:Nat}(w:Ow o k)(hk:k<32)(h:Int):∃j,layClean.free 31 o (turns 31) (bits h%(31+1)) (bits h)=some j∧j<32∧o[j]?=some none:=by
 obtain⟨j,hj,e⟩:=ow_free w hk
 obtain⟨n,hn,q⟩:=all_met (t:=t31) (h:=h) (.inr rfl) (j:=j) hj
 obtain⟨j',h1,h2⟩:=free_some (o:=o) (turns 31) (bits h%32) (bits h) ⟨n,by unfold turns;have:t31.mask=31:=rfl;omega,j,e,by rw[rec_nth];exact q.symm⟩
 refine⟨j',h1,?_⟩
 rw[Array.getD_eq_getD_getElem?] at h2
 cases z:o[j']? with
 |none=>rw[z] at h2;cases h2
 |some v=>
  rw[z] at h2
  have lt:=(Array.getElem?_eq_some_iff.mp z).1
  rw[w.sz] at lt
  exact⟨lt,congrArg some h2⟩
theorem ow_put {o:Array (Option Nat)}{k j:Nat}(w:Ow o k)(hj:j<32)(e:o[j]?=some none):Ow (o.setIfInBounds j (some k)) (k+1) where
 sz:=by simpa using w.sz
 ct:=by
  have h1:=w.ct
  unfold cnt at h1⊢
  obtain⟨l,e'⟩:=Array.getElem?_eq_some_iff.mp e
  rw[Array.toList_setIfInBounds,List.countP_set (by simpa using l),h1]
  simp[e']
 lt:=fun i v q=>by
  rw[Array.getElem?_setIfInBounds] at q
  split at q
  ·split at q
   ·injection q with q;injection q with q;omega
   ·cases q
  ·have:=w.lt i v q;omega
theorem lay_fold:∀(hs:List Int) (o:Array (Option Nat)) (k:Nat),Ow o k→k+hs.length≤32→∃o',(hs.foldl (init:=some (o,k)) fun acc h=>do
  let (owner,k)←acc
  let j←layClean.free 31 owner (turns 31) (bits h%(31+1)) (bits h)
  pure (owner.setIfInBounds j (some k),k+1))=some (o',k+hs.length)∧Ow o' (k+hs.length)
 |[],o,k,w,_=>⟨o,rfl,w⟩
 |h::hs,o,k,w,l=>by
  simp only[List.length_cons] at l
  obtain⟨j,e,hj,f⟩:=free_new w (by omega) h
  obtain⟨o',h1,h2⟩:=lay_fold hs _ _ (ow_put w hj f) (by omega)
  refine⟨o',?_,by rw[List.length_cons,show k+(hs.length+1)=k+1+hs.length by omega];exact h2⟩
  rw[List.foldl_cons,List.length_cons,show k+(hs.length+1)=k+1+hs.length by omega,←h1]
  congr 1
  show(layClean.free 31 o (turns 31) (bits h%(31+1)) (bits h)>>=_)=_
  rw[e]
  rfl
theorem laid_some (finger moves:Nat)(led plain:Bool)(hs:Array Int)(hl:hs.size≤32):∃t order,laid 31 finger moves led plain hs=some (t,order)∧t.mask=31∧t.dummies= #[]∧t.place.size=hs.size∧order.size=hs.size∧∀k∈order,k<hs.size:=by
 obtain⟨o,h1,w⟩:=lay_fold hs.toList (Array.replicate 32 none) 0 ⟨by simp,by decide+kernel,fun j v e=>by
  rw[Array.getElem?_replicate] at e
  split at e<;>simp at e⟩ (by simpa using hl)
 have ec:layClean 31 hs=some o:=by
  unfold layClean
  rw[←Array.foldl_toList]
  rw[show(31:Nat)+1=32 from rfl] at h1⊢
  rw[h1]
  rfl
 have cl:((List.range (31+1)).filterMap fun j=>(o.getD j none).map (j, ·)).length=hs.size:=by
  rw[List.length_filterMap_eq_countP]
  have e1:o.toList=(List.range 32).map (fun j=>o.getD j none):=by
   refine List.ext_getElem? fun j=>?_
   rw[List.getElem?_map,Array.getElem?_toList]
   by_cases hj:j<32
   ·rw[List.getElem?_range hj]
    have:j<o.size:=by rw[w.sz];exact hj
    simp[Array.getElem?_eq_getElem this]
   ·have:¬j<o.size:=by rw[w.sz];exact hj
    rw[Array.getElem?_eq_none (by omega)]
    rw[List.getElem?_eq_none (by simpa using hj)]
    rfl
  have h2:=w.ct
  unfold cnt at h2
  rw[e1,List.countP_map] at h2
  simp only[Nat.zero_add,Array.length_toList] at h2
  rw[←h2]
  congr 1
  funext j
  simp
 refine⟨_,_,by unfold laid;rw[ec];rfl,rfl,rfl,?_,?_,?_⟩
 ·simpa using cl
 ·simpa using cl
 ·intro k hk
  simp only[List.mem_toArray,List.mem_map,List.mem_filterMap] at hk
  obtain⟨⟨j,k'⟩,⟨j',hj',e⟩,rfl⟩:=hk
  cases q:o.getD j' none with
  |none=>rw[q] at e;cases e
  |some v=>
   rw[q] at e
   simp at e
   obtain⟨rfl,rfl⟩:=e
   rw[Array.getD_eq_getD_getElem?] at q
   have:o[j']?=some (some v):=by
    cases z:o[j']? with
    |none=>rw[z] at q;cases q
    |some u=>rw[z] at q;exact congrArg some q
   have:=w.lt _ _ this
   simpa using this
end TabA
noncomputable def addT2 (t:SetTable) (es:Array (Int×Value)) (h:Int) (x:Value):Option (SetTable×Array (Int×Value)):=
 if t.gaveWay=true then none else
 match t.probe (hAt es) h (t.probeStart h) with
 |some (.empty j none)=>if (t.put j).1.fits (SetTable.insertAt es (t.put j).2 (h,x)).size=true then
   (if (t.put j).1.tooFull=true then
    (match (t.put j).1.relaid ((SetTable.insertAt es (t.put j).2 (h,x)).map (·.1)) (SetTable.grown (es.size+1)) with
    |some (t2,order)=>if (order.filterMap ((SetTable.insertAt es (t.put j).2 (h,x))[·]?)).size=(SetTable.insertAt es (t.put j).2 (h,x)).size then some (t2,order.filterMap ((SetTable.insertAt es (t.put j).2 (h,x))[·]?)) else none
    |none=>none)
   else some ((t.put j).1,SetTable.insertAt es (t.put j).2 (h,x))) else none
 |_=>none
section
variable {prog:Program} {w:World} {A:Around} {E:Value→Shared→Prop} {s:Shared}
theorem relay_of {a:Addr}{o:Obj}{es:Array (Int×Value)}{ep wanted:Nat}{t t2:SetTable}{order:Array Nat}{Q:Unit→Shared→Prop}(ho:s.heap.get? a=some o)(hd:o.data=.set es ep t)(hf:t.fits es.size=true)(hw:SetTable.sizeAbove wanted≤sizeLine)
  (e:t.relaid (es.map (·.1)) wanted=some (t2,order)) (hz:(order.filterMap (es[·]?)).size=es.size) (hs:es.size<1000) (h:Q () {s with heap:=s.heap.update a (Obj.putSet (order.filterMap (es[·]?)) t2)}):
  wpAny (model prog w) A (setRelay a wanted) Q E s:=by
 unfold setRelay
 refine wpAny_bind (wpAny_setState_of ho hd hf ?_)
 dsimp only
 rw[if_neg (by omega),e]
 refine wpAny_bind ?_
 show wpAny _ _ (if ((order.filterMap (es[·]?)).size !=es.size)=true then _ else _) _ _ _
 rw[if_neg (by simp[hz])]
 refine wpAny_pure ?_
 dsimp only
 exact wpAny_storeSet_of ho hd h (by have:sizeLine=2^24:=rfl;omega)
theorem setAdd_free2 {K:Type} [DecidableEq K]{knd:HeapKind prog w K}{a b:Addr}{k:K}{o:Obj}{es es':Array (Int×Value)}{ep:Nat}{t t':SetTable}{Q:Bool→Shared→Prop}(hr:knd.room A)(hk:knd.is s.heap k b)(ho:s.heap.get? a=some o)(hd:o.data=.set es ep t)(hf:t.fits es.size=true)(hz:es'.size<1000)(hsz:es.size<999)
  (hv:∀(tk:Nat) (Q':Bool→Shared→Prop),Q' true {s with toks:=tk}→wpAny (model prog w) A (hashByValue 8 (.ref b)) Q' E {s with toks:=tk})
  (e:addT2 t es (knd.hash k) (.ref b)=some (t',es')) (hsa:SetTable.sizeAbove (SetTable.grown (es.size+1))≤sizeLine)
  (h:∀h' ep',Heap.SameBut a s.heap h'→h'.get? a=some {o with data:=.set es' ep' t'}→Q true {s with heap:=h',toks:=s.toks+knd.draws k}):
  wpAny (model prog w) A (setAdd a (.ref b)) Q E s:=by
 unfold addT2 at e
 split at e
 ·cases e
 ·rename_i hg
  split at e
  ·rename_i j hp
   split at e
   ·rename_i hfit
    have hiz:(SetTable.insertAt es (t.put j).2 (knd.hash k,Value.ref b)).size=es.size+1:=by
     have:=(SetTable.insertAt_perm es (t.put j).2 (knd.hash k,Value.ref b)).length_eq
     simpa using this
    unfold setAdd
    refine wpAny_holding (wpAny_bind (knd.pyHash hr hk ?_))
    unfold setAddHashed
    refine wpAny_holding ?_
    show wpAny _ _ (setAddHashedIn a (.ref b) (knd.hash k) (99999+1)) _ _ _
    unfold setAddHashedIn
    refine wpAny_bind (wpAny_setState_of (s:={s with toks:=s.toks+knd.draws k}) ho hd hf ?_)
    dsimp only
    rw[if_neg (show¬byScan (.ref b) es=true by simp[byScan,Value.scannable])]
    refine wpAny_bind ?_
    unfold setSearch
    show wpAny _ _ (setSearchFrom a (.ref b) (knd.hash k) true (99999+1) none) _ _ _
    unfold setSearchFrom
    refine wpAny_bind (wpAny_setState_of (s:={s with toks:=s.toks+knd.draws k}) ho hd hf ?_)
    dsimp only
    rw[if_neg hg]
    split
    ·rename_i met hm
     have em:met=.empty j none:=Option.some.inj (hm.symm.trans hp)
     subst em
     dsimp only
     refine wpAny_pure ?_
     dsimp only
     refine wpAny_bind (wpAny_setState_of (s:={s with toks:=s.toks+knd.draws k}) ho hd hf ?_)
     dsimp only
     have tail:wpAny (model prog w) A (storeSet a (SetTable.insertAt es (t.put j).2 (knd.hash k,.ref b)) (t.put j).1>>=fun _=>if (!false&&(t.put j).1.tooFull)=true then (setRelay a (SetTable.grown (es.size+1))>>=fun _=>pure true) else pure true) Q E {s with toks:=s.toks+knd.draws k}:=by
      refine wpAny_bind (wpAny_storeSet_of (s:={s with toks:=s.toks+knd.draws k}) ho hd ?_ (by have:sizeLine=2^24:=rfl;omega))
      have g1:=Heap.get?_update_self (Obj.putSet (SetTable.insertAt es (t.put j).2 (knd.hash k,.ref b)) (t.put j).1) ho (by rw[putSet_of _ _ hd];rfl)
      rw[putSet_of _ _ hd] at g1
      split at e
      ·rename_i hfull
       rw[if_pos (by simpa using hfull)]
       split at e
       ·rename_i t2 order hrl
        split at e
        ·rename_i hq
         injection e with e
         injection e with e1 e2
         subst e1 e2
         refine wpAny_bind (relay_of (s:={s with heap:=_,toks:=s.toks+knd.draws k}) g1 rfl hfit hsa hrl hq (by omega) ?_)
         refine wpAny_pure (h _ (ep+1+1) ((Heap.SameBut.update ..).trans (Heap.SameBut.update ..)) ?_)
         have:=Heap.get?_update_self (Obj.putSet (order.filterMap ((SetTable.insertAt es (t.put j).2 (knd.hash k,Value.ref b))[·]?)) t2) g1 (by rw[putSet_of _ _ rfl];rfl)
         rw[putSet_of _ _ rfl] at this
         exact this
        ·cases e
       ·cases e
      ·rename_i hfull
       injection e with e
       injection e with e1 e2
       subst e1 e2
       rw[if_neg (by simpa using hfull)]
       exact wpAny_pure (h _ _ (Heap.SameBut.update ..) g1)
     split
     ·refine wpAny_bind (hv _ _ ?_)
      rw[if_pos (rfl:true=true)]
      exact tail
     ·refine wpAny_bind (wpAny_pure ?_)
      rw[if_pos (rfl:true=true)]
      exact tail
    ·rename_i hm
     exact(hm _ hp).elim
   ·cases e
  ·cases e
end
section
variable {prog:Program} {w:World} {A:Around} {R:Result→Shared→Prop} {I:Addr} {fp wr:List Addr} {G:Array GenState→Array GenState→Prop} {n:Nat} {P:Nat→Value→Prop} {St:Nat→Shared→Prop}
theorem loop_tups2 (W:WalksS prog w A.in1 I fp wr G n P St)(S:Addr)(hSf:S∉fp)(knd:HeapKind prog w (List Int))(hroom:knd.room A.in1)(his:∀h k b,ITup h k b→knd.is h k b)(ad:Nat→Addr)(key:Nat→List Int)(hval:∀i v,P i v→v=.ref (ad i))
  (had:∀i,i<n→ad i≠S∧ad i∉wr) (T:Nat→SetTable) (Es:Nat→Array (Int×Value)) (hadd:∀i,i<n→addT2 (T i) (Es i) (knd.hash (key i)) (.ref (ad i))=some (T (i+1),Es (i+1))) (hfit:∀i,i≤n→(T i).fits (Es i).size=true∧(Es i).size<1000∧SetTable.sizeAbove (SetTable.grown ((Es i).size+1))≤sizeLine∧(Es i).size<999):
  ∀(k i:Nat) (s:Shared),n - i=k→i≤n→St i s→(∀j,j<n→ITup s.heap (key j) (ad j))→(∃o ep,s.heap.get? S=some o∧o.ExactSet∧o.data=.set (Es i) ep (T i))→
   (∀s',Moved (S::wr) G s s'→(∃o ep,s'.heap.get? S=some o∧o.ExactSet∧o.data=.set (Es n) ep (T n))→R (.ok (.ret .none)) s')→
   codeAny (model prog w) A (.builtin "set.update.loop" ⟨[.ref S,.ref I],[]⟩) R s:=by
 have hSw:S∉wr:=fun h=>hSf (W.sub _ h)
 have more:∀b∈wr,b∈S::wr:=fun b hb=>List.mem_cons_of_mem _ hb
 have it_kept:∀{h h':Heap} {k b},ITup h k b→(∀o,h.get? b=some o→h'.get? b=some o)→ITup h' k b:=fun⟨o,its,c,h1,h2⟩ f=>⟨o,its,c,f o h1,h2⟩
 intro k
 induction k with
 |zero=>
  intro i s hk hi hst ht hS hR
  obtain rfl:i=n:=by omega
  refine codeAny_builtin F.entry_set_update_loop ?_
  rw[Around.under_plainId F.plain_set_update_loop _]
  show wpAny _ A.in1 (pyNext (.ref I)>>=_) _ _ s
  refine wpAny_bind (W.done s _ _ hst fun s' hm=>wpAny_pure (hR s' (hm.mono more) ?_))
  obtain⟨o,ep,h1,h2⟩:=hS
  exact⟨o,ep,hm.heap S _ hSw h1,h2⟩
 |succ k ih=>
  intro i s hk hi hst ht hS hR
  have hlt:i<n:=by omega
  refine codeAny_builtin F.entry_set_update_loop ?_
  rw[Around.under_plainId F.plain_set_update_loop _]
  show wpAny _ A.in1 (pyNext (.ref I)>>=_) _ _ s
  refine wpAny_bind (W.item i s _ _ hlt hst fun v s' hP hst' hm=>?_)
  obtain rfl:=hval i v hP
  obtain⟨o,ep,h1,h2,h3⟩:=hS
  have ht':∀j,j<n→ITup s'.heap (key j) (ad j):=fun j hj=>it_kept (ht j hj) fun o q=>hm.heap _ o (had j hj).2 q
  obtain⟨ob,its,c,g1,g2,g3,g4⟩:=id (ht' i hlt)
  show wpAny _ A.in1 (holding [Value.ref (ad i)] (setAdd S (.ref (ad i)))>>=_) _ _ s'
  refine wpAny_bind (wpAny_holding ?_)
  refine setAdd_free2 (knd:=knd) (s:=s') hroom (his _ _ _ (ht' i hlt)) (hm.heap S _ hSw h1) h3 (hfit i hi).1 (hfit (i+1) hlt).2.1 (hfit i hi).2.2.2 (fun tk Q' q=>hbv_ints (s:={s' with toks:=tk}) g1 g2 g3 (fun v hv=>?_) q) (hadd i hlt) (hfit i hi).2.2.1 fun h' ep' sb hg=>?_
  ·exact g4.allInts v (by simpa using hv)
  ·refine wpAny_pure ⟨plainId_quiet F.plain_set_update_loop _,ih (i+1) _ (by omega) hlt (W.frame _ s' _ _ hst' (Nat.le_add_right _ _) fun b hb o e=>?_) (fun j hj=>it_kept (ht' j hj) fun o q=>?_) ⟨_,_,hg,h2,rfl⟩ fun s'' hm'' hS''=>?_⟩
   ·rw[sb.2 b (fun z=>hSf (z▸hb))];exact e
   ·rw[sb.2 _ (had j hj).1];exact q
   ·refine hR s'' (Moved.trans W.gtrans ((hm.mono more).then_heap (Nat.le_add_right _ _) fun b o hb e=>?_) hm'') hS''
    rw[sb.2 b (fun z=>hb (by rw[z];exact List.mem_cons_self))];exact e
end
set_option maxHeartbeats 3200000 in
theorem call_set_tups2 {prog:Program}{w:World}{A:Around}{E:Value→Shared→Prop}{s:Shared}{l:Addr}{as:List Addr}{Q:Value→Shared→Prop}(hh:A.handled=none)(hl:s.heap.IsList l (as.map Value.ref).toArray)
  (knd:HeapKind prog w (List Int)) (hroom:knd.room A.in1.in1.in1) (his:∀h k b,ITup h k b→knd.is h k b) (key:Nat→List Int) (htup:∀j,j<as.length→ITup s.heap (key j) (as.getD j 0))
  (T:Bool→Nat→SetTable) (Es:Bool→Nat→Array (Int×Value)) (h0:∀led,T led 0=.fresh 0 0 led∧Es led 0= #[]) (hadd:∀led i,i<as.length→addT2 (T led i) (Es led i) (knd.hash (key i)) (.ref (as.getD i 0))=some (T led (i+1),Es led (i+1)))
  (hfit:∀led i,i≤as.length→(T led i).fits (Es led i).size=true∧(Es led i).size<1000∧SetTable.sizeAbove (SetTable.grown ((Es led i).size+1))≤sizeLine∧(Es led i).size<999)
  (h:∀(led:Bool) (h':Heap) (tk:Nat),(∃o ep,h'.get? s.heap.objs.size=some o∧o.ExactSet∧o.data=.set (Es led as.length) ep (T led as.length))→(∀b o,b<s.heap.objs.size→s.heap.get? b=some o→h'.get? b=some o)→
   Q (.ref s.heap.objs.size) {s with heap:=h',toks:=tk}):wpAny (model prog w) A (call (.type "set") [.ref l]) Q E s:=by
 obtain⟨c0,tl0,hmro⟩:=F.called_set.mro
 have made:=F.called_set.made
 have sub:=F.called_set.sub
 have nt:=F.called_set.notType
 have cc:=F.called_set.canCreate
 have ck:=F.typeCall_set_1 (.ref l)
 refine wpAny_call (codeAny_of_tree ?_)
 show wpAny _ _ (callAny (.type "set") ⟨[.ref l],[]⟩) _ _ _
 refine wpAny_pure ⟨Code.quiet_builtin _ (by decide+kernel),codeAny_builtin F.entry_type_call ?_⟩
 rw[Around.under_plain (weight_type_call_type "set" [.ref l] []) rfl]
 repeat (any_goals (first|assumption|wp_step))
 refine codeAny_mono (code_set_new_1 (.ref l) (E:=E) (Q₁:=fun v s₁=>∃led:Bool,v=.ref s.heap.objs.size∧s₁={s with heap:=s.heap.push (set0 led)}) fun led=>⟨led,rfl,rfl⟩) fun r s₁ hr=>?_
 match r,hr with
 | .error e,hr=>exact hr
 | .ok (.ret v),⟨led,ev,es⟩=>
  subst ev es
  have hS:(s.heap.push (set0 led)).get? s.heap.objs.size=some (set0 led):=Heap.get?_push_size _ rfl
  have hT:Shared.TypeIs {s with heap:=s.heap.push (set0 led)} (.ref s.heap.objs.size) "set" :=⟨_,hS,rfl⟩
  have li:=F.called_set.init.lookup
  have bi:=F.called_set.init.bind (.ref s.heap.objs.size)
  repeat (any_goals (first|assumption|wp_step))
  refine codeAny_mono (codeAny_call_builtin (R:=wants (fun r s₂=>r=.none∧∃h' tk,s₂={s with heap:=h',toks:=tk}∧(∃o ep,h'.get? s.heap.objs.size=some o∧o.ExactSet∧o.data=.set (Es led as.length) ep (T led as.length))∧
   ∀b o,b<s.heap.objs.size→s.heap.get? b=some o→h'.get? b=some o) E) F.called_set.init.plain F.entry_set_init (check_set_init_1 hT ?_)) fun r₂ s₂ hr₂=>?_
  ·have lt:l<s.heap.objs.size:=by obtain⟨o,ho,_⟩:=hl;exact Heap.lt_size ho
   obtain⟨⟨oc,od,odt,osl⟩,hol,hcl,nl,hdl⟩:=id hl
   simp only at hcl hdl
   subst hcl hdl
   have hol':(s.heap.push (set0 led)).get? l=some ⟨.type "list",od,.seq (as.map Value.ref).toArray nl,osl⟩:=Heap.get?_push_of_some _ hol
   have n1:=F.sub_list_set
   have n2:=F.sub_list_frozenset
   have n3:(Value.type "list" ==Value.type "dict")=false:=by decide
   have hl1:(s.heap.push (set0 led)).IsList l (as.map Value.ref).toArray:=⟨_,hol',rfl,nl,rfl⟩
   unfold Builtin.«set.__init__» noKeywords Builtin.Frozenset.updateFrom
   generalize ePI:pyIter=PI
   wp_walk
   subst ePI
   refine wpAny_pyIter_list hl1 (wpAny_bind (wpAny_runValue ?_))
   have sz1:(s.heap.push (set0 led)).objs.size=s.heap.objs.size+1:=Heap.size_push ..
   have hd3:A.in1.in1.in1.handled=none:=by simp[hh]
   have neI:l≠(s.heap.push (set0 led)).objs.size:=by rw[sz1];exact Nat.ne_of_lt (Nat.lt_succ_of_lt lt)
   have nS:s.heap.objs.size∉[(s.heap.push (set0 led)).objs.size,l]:=by
    rw[sz1]
    intro z
    rcases List.mem_cons.mp z with z|z
    ·exact absurd z (Nat.ne_of_lt (Nat.lt_succ_self _))
    ·exact absurd (List.mem_singleton.mp z) (Nat.ne_of_gt lt)
   have hld:∀j,j<as.length→as.getD j 0<s.heap.objs.size:=fun j hj=>by obtain⟨o,_,_,h1,_⟩:=htup j hj;exact Heap.lt_size h1
   refine loop_tups2 ((Walks.list hd3 _ l neI (as.map Value.ref).toArray).toS) s.heap.objs.size nS knd hroom his (fun i=>as.getD i 0) key (fun i v hv=>?_) (fun i hi=>?_) (T led) (Es led) (fun i hi=>hadd led i (by simpa using hi)) (fun i hi=>hfit led i (by simpa using hi))
    ((as.map Value.ref).toArray.size - 0) 0 _ (by omega) (Nat.zero_le _) ⟨⟨_,Heap.get?_push_size _ rfl,rfl,rfl⟩,(hl1.push _)⟩ (fun j hj=>?_) ?_ fun s' hm hS'=>?_
   ·have hv':(as.map Value.ref).toArray[i]?=some v:=hv
    rw[List.getElem?_toArray,List.getElem?_map] at hv'
    obtain⟨x,hx,rfl⟩:=Option.map_eq_some_iff.mp hv'
    show _=Value.ref (as.getD i 0)
    rw[List.getD_eq_getElem?_getD,hx];rfl
   ·have hi':i<as.length:=by simpa using hi
    have:=hld i hi'
    refine⟨Nat.ne_of_lt this,fun z=>?_⟩
    have z':=List.mem_singleton.mp z
    rw[sz1] at z'
    exact absurd z' (Nat.ne_of_lt (Nat.lt_succ_of_lt this))
   ·obtain⟨o,its,c,q1,q2⟩:=htup j (by simpa using hj)
    exact⟨o,its,c,Heap.get?_push_of_some _ (Heap.get?_push_of_some _ q1),q2⟩
   ·refine⟨_,0,Heap.get?_push_of_some _ hS,⟨rfl,rfl,rfl⟩,?_⟩
    rw[(h0 led).1,(h0 led).2]
   ·obtain⟨h',g',d',tk',os'⟩:=s'
    obtain rfl:g'=s.gens:=hm.gens
    obtain rfl:d'=s.drawn:=hm.drawn
    obtain rfl:os'=s.os:=hm.os
    refine wpAny_pure ?_
    show wpAny _ _ (ret Value.none) _ _ _
    refine wpAny_pure ⟨rfl,h',tk',rfl,by simpa using hS',fun b o hb e=>hm.heap b o (fun z=>?_) (Heap.get?_push_of_some _ (Heap.get?_push_of_some _ e))⟩
    rcases List.mem_cons.mp z with z|z
    ·exact absurd z (Nat.ne_of_lt hb)
    ·have z':=List.mem_singleton.mp z
     rw[sz1] at z'
     exact absurd z' (Nat.ne_of_lt (Nat.lt_succ_of_lt hb))
  ·match r₂,hr₂ with
   | .error e,z=>exact z
   | .ok (.ret v),⟨e1,h',tk,e2,z1,z2⟩=>
    subst e1 e2
    repeat (any_goals (first|assumption|wp_step))
    exact h led h' tk z1 z2
   | .ok .next,z=>exact z.elim
   | .ok .brk,z=>exact z.elim
   | .ok .cont,z=>exact z.elim
 | .ok .next,hr=>exact hr.elim
 | .ok .brk,hr=>exact hr.elim
 | .ok .cont,hr=>exact hr.elim
structure SI (t:SetTable) (es:Array (Int×Value)) (n:Nat) (hs:List Int):Prop where
 dm:t.dummies= #[]
 ms:t.mask=7∧n<5∨t.mask=31∧n≤18
 pl:t.place.size=n
 sz:es.size=n
 hm:∀e∈es,e.1∈hs
theorem insert_size {α:Type}(xs:Array α)(p:Nat)(x:α):(SetTable.insertAt xs p x).size=xs.size+1:=by
 have:=(SetTable.insertAt_perm xs p x).length_eq
 simpa using this
theorem mem_insert {α:Type}{xs:Array α}{p:Nat}{x y:α}(h:y∈SetTable.insertAt xs p x):y=x∨y∈xs:=by
 have:=(SetTable.insertAt_perm xs p x).mem_iff.mp (Array.mem_toList_iff.mpr h)
 rw[Array.toList_push] at this
 rcases List.mem_append.mp this with z|z
 ·exact .inr (Array.mem_toList_iff.mp z)
 ·exact .inl (List.mem_singleton.mp z)
theorem SI.add {t:SetTable}{es:Array (Int×Value)}{n:Nat}{hs:List Int}{h:Int}{x:Value}(I:SI t es n hs)(hn:n<18)(hh:h∉hs):∃t' es',addT2 t es h x=some (t',es')∧SI t' es' (n+1) (h::hs):=by
 have hm:t.mask=7∨t.mask=31:=I.ms.imp (·.1) (·.1)
 obtain⟨j,hp⟩:=TabA.probe_new (t:=t) (hashAt:=hAt es) (h:=h) hm I.dm (by rw[I.pl];rcases I.ms with q|q<;>omega) (fun i hi e=>by
  rw[I.pl,←I.sz] at hi
  unfold hAt at e
  rw[Array.getElem?_eq_getElem hi] at e
  exact hh (e▸I.hm _ (Array.getElem_mem hi)))
 have hg:¬t.gaveWay=true:=by unfold SetTable.gaveWay;rcases hm with q|q<;>simp[q]
 have d1:(t.put j).1.dummies= #[]:=by
  unfold SetTable.put
  dsimp only
  rw[I.dm]
  split
  ·rename_i q;unfold SetTable.has at q;simp at q
  ·rfl
 have m1:(t.put j).1.mask=t.mask:=rfl
 have p1:(t.put j).1.place.size=n+1:=by
  show(SetTable.insertAt t.place _ j).size=_
  rw[insert_size,I.pl]
 have f1:(t.put j).1.fill=n+1:=by unfold SetTable.fill;rw[p1,d1];rfl
 have fit:(t.put j).1.fits (SetTable.insertAt es (t.put j).2 (h,x)).size=true:=by
  unfold SetTable.fits
  rw[insert_size,p1,f1,m1,I.sz]
  simp
  rcases I.ms with q|q<;>omega
 have mem1:∀e∈SetTable.insertAt es (t.put j).2 (h,x),e.1∈h::hs:=fun e he=>by
  rcases mem_insert he with rfl|z
  ·exact List.mem_cons_self
  ·exact List.mem_cons_of_mem _ (I.hm _ z)
 unfold addT2
 rw[if_neg hg,hp]
 dsimp only
 rw[if_pos fit]
 by_cases hf:(t.put j).1.tooFull=true
 ·rw[if_pos hf]
  have hn4:t.mask=7∧n=4:=by
   unfold SetTable.tooFull at hf
   rw[f1,m1] at hf
   simp only[ge_iff_le,decide_eq_true_eq] at hf
   rcases I.ms with q|q
   ·exact⟨q.1,by rw[q.1] at hf;omega⟩
   ·rw[q.1] at hf;omega
  obtain⟨t2,order,e2,a1,a2,a3,a4,a5⟩:=TabA.laid_some (t.put j).1.finger ((t.put j).1.movedTo 31) (t.put j).1.led (t.put j).1.plain ((SetTable.insertAt es (t.put j).2 (h,x)).map (·.1)) (by rw[Array.size_map,insert_size,I.sz];omega)
  have er:(t.put j).1.relaid ((SetTable.insertAt es (t.put j).2 (h,x)).map (·.1)) (SetTable.grown (es.size+1))=some (t2,order):=by
   unfold SetTable.relaid
   rw[I.sz,hn4.2]
   exact e2
  rw[er]
  dsimp only
  rw[Array.size_map,insert_size,I.sz] at a3 a4 a5
  have ez:(order.filterMap ((SetTable.insertAt es (t.put j).2 (h,x))[·]?)).size=(SetTable.insertAt es (t.put j).2 (h,x)).size:=by
   rw[←Array.length_toList,Array.toList_filterMap,List.length_filterMap_eq_countP,insert_size,I.sz]
   rw[List.countP_eq_length.mpr,Array.length_toList,a4]
   intro k hk
   have:=a5 k (Array.mem_toList_iff.mp hk)
   rw[Array.getElem?_eq_getElem (by rw[insert_size,I.sz];exact this)]
   rfl
  rw[if_pos ez]
  refine⟨_,_,rfl,a2,.inr ⟨a1,by omega⟩,a3,by rw[ez,insert_size,I.sz],fun e he=>?_⟩
  obtain⟨k,hk,q⟩:=Array.mem_filterMap.mp he
  exact mem1 _ (Array.mem_of_getElem? q)
 ·rw[if_neg hf]
  refine⟨_,_,rfl,d1,?_,p1,by rw[insert_size,I.sz],mem1⟩
  rw[m1]
  rcases I.ms with q|q
  ·refine .inl ⟨q.1,?_⟩
   unfold SetTable.tooFull at hf
   rw[f1,m1,q.1] at hf
   simp only[ge_iff_le,decide_eq_true_eq] at hf
   omega
  ·exact .inr ⟨q.1,by omega⟩
theorem SI.fits {t:SetTable}{es:Array (Int×Value)}{n:Nat}{hs:List Int}(I:SI t es n hs):t.fits es.size=true:=by
 unfold SetTable.fits SetTable.fill
 rw[I.pl,I.sz,I.dm]
 simp
 rcases I.ms with q|q<;>omega
theorem states2 (r:Nat→Int×Value)(t0:SetTable)(N:Nat)(h0:SI t0 #[] 0 [])(hN:N≤18)(hd:((List.range N).map fun i=>(r i).1).Nodup):∃(T:Nat→SetTable) (Es:Nat→Array (Int×Value)),T 0=t0∧Es 0= #[]∧
  (∀i,i<N→addT2 (T i) (Es i) (r i).1 (r i).2=some (T (i+1),Es (i+1)))∧∀i,i≤N→SI (T i) (Es i) i ((List.range i).map fun i=>(r i).1).reverse:=by
 let S:Nat→SetTable×Array (Int×Value):=fun i=>Nat.rec (t0,#[]) (fun i q=>(addT2 q.1 q.2 (r i).1 (r i).2).getD q) i
 have key:∀i,i≤N→SI (S i).1 (S i).2 i ((List.range i).map fun i=>(r i).1).reverse:=by
  intro i
  induction i with
  |zero=>intro _;exact h0
  |succ i ih=>
   intro hi
   have I:=ih (by omega)
   have nn:(r i).1∉((List.range i).map fun i=>(r i).1).reverse:=by
    rw[List.mem_reverse]
    have h1:((List.range (i+1)).map fun i=>(r i).1).Nodup:=by
     refine hd.sublist (List.Sublist.map _ ?_)
     exact List.range_sublist.mpr hi
    rw[List.range_succ,List.map_append,List.nodup_append] at h1
    intro z
    exact h1.2.2 _ z _ (List.mem_singleton.mpr rfl) rfl
   obtain⟨t',es',e,I'⟩:=I.add (x:=(r i).2) (by omega) nn
   have es:S (i+1)=(t',es'):=by show(addT2 (S i).1 (S i).2 (r i).1 (r i).2).getD (S i)=_;rw[e];rfl
   rw[es,List.range_succ,List.map_append,List.reverse_append]
   exact I'
 refine⟨fun i=>(S i).1,fun i=>(S i).2,rfl,rfl,fun i hi=>?_,key⟩
 have I:=key i (by omega)
 have nn:(r i).1∉((List.range i).map fun i=>(r i).1).reverse:=by
  rw[List.mem_reverse]
  have h1:((List.range (i+1)).map fun i=>(r i).1).Nodup:=by
   refine hd.sublist (List.Sublist.map _ ?_)
   exact List.range_sublist.mpr hi
  rw[List.range_succ,List.map_append,List.nodup_append] at h1
  intro z
  exact h1.2.2 _ z _ (List.mem_singleton.mpr rfl) rfl
 obtain⟨t',es',e,I'⟩:=I.add (x:=(r i).2) (by omega) nn
 have es:S (i+1)=(t',es'):=by show(addT2 (S i).1 (S i).2 (r i).1 (r i).2).getD (S i)=_;rw[e];rfl
 show addT2 (S i).1 (S i).2 _ _=some ((S (i+1)).1,(S (i+1)).2)
 rw[e,es]
theorem call_setN {X:Cx}(hc:X.calm=true){k:Nat}(hr:Room k X.A):CallR X (.type "set") (fun xs H Q=>∃(l:Addr) (as:List Addr) (cs:List (List Int)),xs=[.ref l]∧SqL X.K H l (as.map V.ref)∧Tups H as cs∧cs.length≤18∧(cs.map hashT).Nodup∧∀p,H p=none→Q (.ref p) (upd H p (stO p cs.length))):=by
 intro pins s σ H xs us Q I r h
 obtain⟨l,as,cs,rfl,hl,ht,hcl,hok,q⟩:=h
 obtain⟨u,rfl,ru⟩:=vals1 r
 cases ru
 obtain⟨its,rv,pl,hz⟩:=I.list hl
 obtain rfl:=vals_refs rv
 have hu:=hr.units
 have len:as.length=cs.length:=Paired.length ht
 have hat:∀j,j<as.length→ITup s.heap (cs.getD j []) (as.getD j 0):=fun j hj=>by
  obtain⟨c,h1,h2⟩:=ht.at (i:=j) (a:=as.getD j 0) (by rw[List.getD_eq_getElem?_getD,List.getElem?_eq_getElem hj];rfl)
  rw[List.getD_eq_getElem?_getD,h1]
  exact tup_itup I.hok h2
 have e1:((List.range as.length).map fun j=>(hashT (cs.getD j []),Value.ref (as.getD j 0)).1)=cs.map hashT:=by
  refine List.ext_getElem? fun j=>?_
  rw[List.getElem?_map,List.getElem?_map]
  by_cases hj:j<as.length
  ·rw[List.getElem?_range hj,List.getElem?_eq_getElem (show j<cs.length by omega)]
   show some (hashT (cs.getD j []))=some (hashT cs[j])
   rw[List.getD_eq_getElem?_getD,List.getElem?_eq_getElem (show j<cs.length by omega)];rfl
  ·rw[List.getElem?_eq_none (by simpa using hj),List.getElem?_eq_none (by omega)];rfl
 have st:∀led:Bool,∃(T:Nat→SetTable) (Es:Nat→Array (Int×Value)),T 0=.fresh 0 0 led∧Es 0= #[]∧(∀i,i<as.length→addT2 (T i) (Es i) (hashT (cs.getD i [])) (.ref (as.getD i 0))=some (T (i+1),Es (i+1)))∧
   ∀i,i≤as.length→SI (T i) (Es i) i ((List.range i).map fun j=>(hashT (cs.getD j []),Value.ref (as.getD j 0)).1).reverse:=fun led=>
  states2 (fun j=>(hashT (cs.getD j []),Value.ref (as.getD j 0))) (.fresh 0 0 led) as.length ⟨rfl,.inl ⟨rfl,by decide⟩,rfl,rfl,fun e he=>by simp at he⟩ (by omega) (by rw[e1];exact hok)
 have sa:∀n,n≤18→SetTable.sizeAbove (SetTable.grown (n+1))≤sizeLine:=by
  have:∀n,n<19→SetTable.sizeAbove (SetTable.grown (n+1))≤2^24:=by decide+kernel
  exact fun n hn=>this n (by omega)
 refine call_set_tups2 (I.ok.hd hc) pl.isList (tupleKind (intKind X.prog X.w)) (show X.A.units+1+1+1<cLine by omega) (fun h k b t=>itup_is t) (fun i=>cs.getD i []) hat (fun led=>Classical.choose (st led)) (fun led=>Classical.choose (Classical.choose_spec (st led)))
  (fun led=>⟨(Classical.choose_spec (Classical.choose_spec (st led))).1,(Classical.choose_spec (Classical.choose_spec (st led))).2.1⟩) (fun led=>(Classical.choose_spec (Classical.choose_spec (st led))).2.2.1) (fun led i hi=>?_) fun led h' tk hS hk=>?_
 ·have z:=(Classical.choose_spec (Classical.choose_spec (st led))).2.2.2 i hi
  exact⟨z.fits,by rw[z.sz];omega,by rw[z.sz];exact sa i (by omega),by rw[z.sz];omega⟩
 have z:=(Classical.choose_spec (Classical.choose_spec (st led))).2.2.2 _ (Nat.le_refl _)
 obtain⟨o,ep,h1,h2,h3⟩:=hS
 refine⟨.ref s.heap.objs.size,_,I.laid (a:=s.heap.objs.size) (o:=stO s.heap.objs.size cs.length) (t':=tk) (fun b u e=>hk b u (Heap.lt_size e) e) (Nat.le_refl _) ⟨⟨o,_,ep,_,h1,h2,h3,z.fits,z.sz.trans len⟩,⟨o,h1⟩,?_⟩,rfl,q _ (I.hok.fresh (Nat.le_refl _))⟩
 rintro g1 g2 ⟨o',es,ep',t,e1,e2⟩ k'
 exact⟨o',es,ep',t,k' _ e1,e2⟩
end L2
namespace L2
open PySem PySem.Spec PyProof.Rows
noncomputable def delA {κ:Type} [DecidableEq κ] (zs:List (κ×Addr×Value)) (k:κ):List (κ×Addr×Value):=zs.filter fun x=>decide (x.1≠k)
noncomputable def delK {κ:Type} [DecidableEq κ] (kvs:List (κ×V)) (k:κ):List (κ×V):=kvs.filter fun x=>decide (x.1≠k)
theorem erase_del {κ:Type} [DecidableEq κ]{k:κ}{p:Addr×Value}:∀{zs:List (κ×Addr×Value)} {j:Nat},(zs.map (·.1)).Nodup→zs[j]?=some (k,p)→zs.eraseIdx j=delA zs k
 |[],_,_,h=>by simp at h
 |x::zs,0,hn,h=>by
  simp only[List.getElem?_cons_zero,Option.some.injEq] at h
  subst h
  rw[List.map_cons,List.nodup_cons] at hn
  rw[List.eraseIdx_cons_zero,delA,List.filter_cons_of_neg (by simp)]
  symm
  refine List.filter_eq_self.mpr fun y hy=>?_
  refine decide_eq_true fun e=>hn.1 ?_
  rw[←e]
  exact List.mem_map.mpr ⟨y,hy,rfl⟩
 |x::zs,j+1,hn,h=>by
  simp only[List.getElem?_cons_succ] at h
  rw[List.map_cons,List.nodup_cons] at hn
  have hm:k∈zs.map (·.1):=List.mem_map.mpr ⟨(k,p),List.mem_of_getElem? h,rfl⟩
  rw[List.eraseIdx_cons_succ,erase_del hn.2 h,delA,delA,List.filter_cons_of_pos (by simpa using fun e:x.1=k=>hn.1 (e▸hm))]
theorem map_eraseIdx {α β:Type}(f:α→β):∀(l:List α) (j:Nat),(l.map f).eraseIdx j=(l.eraseIdx j).map f
 |[],_=>by simp
 |_::_,0=>by simp
 |a::l,j+1=>by rw[List.map_cons,List.eraseIdx_cons_succ,List.eraseIdx_cons_succ,List.map_cons,map_eraseIdx f l j]
section
variable {prog:Program} {w:World} {κ:Type} [DecidableEq κ] {knd:HeapKind prog w κ} {A:Around} {E:Value→Shared→Prop} {s:Shared}
theorem takeOut_heap {d b:Addr}{zs:List (κ×Addr×Value)}{k:κ}{p:Addr×Value}{Q:Option DictEntry→Shared→Prop}(hu:knd.room A)(hk:knd.is s.heap k b)(hm:s.heap.DictOfH knd d zs)(hp:atKey zs k=some p)
  (h:∀h' e,e.val=p.2→h'.DictOfH knd d (delA zs k)→Heap.SameBut d s.heap h'→Q (some e) {s with heap:=h',toks:=s.toks+knd.draws k})
  (hsz:zs.length≤sizeLine):wpAny (model prog w) A (Builtin.Dict.takeOut d (.ref b)) Q E s:=by
 obtain⟨ob,en,ep,ho,hc,hd,he,his,hn⟩:=hm
 unfold Builtin.Dict.takeOut
 try with_reducible refine wpAny_holding ?_
 refine wpAny_bind (knd.pyHash hu hk ?_)
 refine wpAny_bind (wpAny_dictFind_heap (s:={s with toks:=s.toks+knd.draws k}) hu hk ho hd he his hn (fun hno=>?_) fun j q hj=>?_)
 ·rw[atKey_none_of_get hno] at hp;cases hp
 ·have hz:=atKey_of_get hn hj
  rw[hz] at hp
  obtain rfl:=Option.some.inj hp
  refine wpAny_bind (wpAny_dictEntries (s:={s with toks:=s.toks+knd.draws k}) ho hd ?_)
  rw[entry_at he j,hj]
  refine wpAny_bind (wpAny_updateDictKeys (hz:=by have e:=size_of_entries he;omega) (s:={s with toks:=s.toks+knd.draws k}) ho hd
   (wpAny_pure (h _ _ rfl ⟨_,_,ep+1,Heap.get?_update_self _ ho (Obj.isFreed_of_dict (Obj.data_mapDictKeys hd _)),hc.mapDictKeys _,Obj.data_mapDictKeys hd _,?_,?_,?_⟩ (Heap.SameBut.update ..))))
  ·rw[Array.toList_eraseIdxIfInBounds,he,map_eraseIdx,erase_del hn hj]
  ·intro x hx
   exact knd.keeps (his x (List.mem_filter.mp hx|>.1)) ho hd (Heap.SameBut.update ..)
  ·exact hn.sublist (List.Sublist.map _ List.filter_sublist)
end
theorem KT.del {H:Hp}{k:List Key}:∀{kvs:List (List Key×V)} {xs:List (List Key×Addr×Value)},KT H kvs xs→KT H (delK kvs k) (delA xs k)
 |_,_,.nil=> .nil
 |p::kvs,q::xs,.cons r t=>by
  unfold delK delA
  by_cases e:p.1=k
  ·rw[List.filter_cons_of_neg (by simpa using e),List.filter_cons_of_neg (by simpa[←r.1] using e)]
   exact KT.del t
  ·rw[List.filter_cons_of_pos (by simpa using e),List.filter_cons_of_pos (by simpa[←r.1] using e)]
   exact .cons r (KT.del t)
section
variable {X:Cx}
def rPopT:V→List V→Hp→VK→Prop:=fun x vs H Q=>∃a b kvs k v,x=.ref a∧vs=[.ref b]∧H a=some (.dT kvs)∧H b=some (.tup (k.map kV))∧valV kvs k=some v∧Q v (upd H a (.dT (delK kvs k)))
theorem mt_popT {j:Nat}(hr:Room j X.A):MtR X "dict.pop" rPopT:=by
 intro pins s σ H x vs v us Q I rx rv h
 obtain⟨a,b,kvs,k,y,rfl,rfl,ea,eb,hv,q⟩:=h
 cases rx
 obtain⟨u1,rfl,r1⟩:=vals1 rv
 cases r1
 obtain⟨z,hd,xs,rel,dd⟩:=dt_of I.hok ea
 have hz:xs.length≤sizeLine:=by rw[←Paired.length rel];exact z
 have hl:(delK kvs k).length≤sizeLine:=Nat.le_trans (List.length_filter_le ..) z
 have hu:X.A.units+1<cLine:=Room.one hr
 have rvl:=rel.val k
 rw[hv] at rvl
 cases ep:atKey xs k with
 |none=>rw[ep] at rvl;exact rvl.elim
 |some p=>
  rw[ep] at rvl
  refine wpAny_call_entry PySem.F.slot_dict_pop dd.typeIs PySem.F.entry_dict_pop ?_ (PySem.F.args_dict_pop_2 _ _)
  unfold Builtin.«dict.pop»
  refine wpAny_bind ?_
  unfold Builtin.Dict.keyAndDefault
  refine wpAny_bind (wpAny_notOrdered_dict dd.typeIs ?_)
  show wpAny _ _ (pure (a,Value.ref b,none)) _ _ s
  refine wpAny_pure ?_
  obtain⟨od,es,epo,go,gc,gd,ge,gi,gn⟩:=id dd
  have ne:es.isEmpty=false:=by
   cases q:es.isEmpty with
   |false=>rfl
   |true=>
    have:es= #[]:=by simpa using q
    rw[this] at ge
    have:xs=[]:=by
     cases xs with
     |nil=>rfl
     |cons _ _=>cases ge
    rw[this] at ep
    cases ep
  refine wpAny_bind (wpAny_dictEntries go gd (wpAny_bind (wpAny_pure ?_)))
  rw[ne]
  simp only[Bool.false_eq_true,if_false]
  refine wpAny_bind (takeOut_heap (tupleKind_room_in1 hu) (key_of I.hok eb) dd ep (fun h' e hev dd' hs=>?_) hz)
  simp only[Option.isNone_some,Bool.false_eq_true,if_false]
  refine wpAny_bind (wpAny_letGo (wpAny_pure ⟨e.val,rfl,?_⟩))
  obtain⟨q',es',ep',hq,g2,g3,g4,_,g5⟩:=dd'
  refine⟨y,_,d_write (ob:=.dT (delK kvs k)) I (by rw[ea];exact True.intro) hs ⟨q',hq⟩ ⟨hl,hd,_,(KT.del (k:=k) rel).keeps fun c ys ec=>?_,q',es',ep',hq,g2,g3,g4,g5⟩,?_,q⟩
  ·rw[upd_ne (ne_of ec ea (fun z=>nomatch z))]
   exact ec
  ·rw[hev];exact rvl
end
section
variable {prog:Program} {w:World}
variable {A:Around} {E:Value→Shared→Prop} {s:Shared}
end
section
variable {X:Cx}
end
theorem op_catTK {X:Cx}{K:PySem.W.Frag}(hK:X.K=K):OpR X (binaryOp .Add) (rCatT K):=by subst hK;exact op_catT
section
variable {X:Cx}
end
section
variable {X:Cx}
end
section
variable {P:Program} {w:World} {K:PySem.W.Frag} {mg:Str→Option Value} {base:Heap}
end
section
variable {X:Cx}
def SmX (K:PySem.W.Frag) (H:Hp) (v v':V):Prop:=v=v'∧(∃a,v=.ref a)∨SmT K H v v'∨∃d e,Dp K H v d∧Dp K H v' e∧d.depth≤60∧PyData.eqv d e=true
theorem eqAt_X {pins:List (Addr×Obj)}{σ:St}{H:Hp}{s:Shared}{A:Around}{v v':V}{u u':Value}(I:Inv X pins σ H s)(h:SmX X.K H v v')(r:RelV v u)(r':RelV v' u')(hu:A.units+62<cLine):SeqAt.EqAt A s u u' true:=by
 rcases h with ⟨rfl,a,rfl⟩|h|⟨d,e,h1,h2,hd,he⟩
 ·cases(show u=Value.ref a from r)
  cases(show u'=Value.ref a from r')
  exact SeqAt.EqAt.same _
 ·exact eqAt_dT I h r r' hu
 ·obtain⟨as,r1⟩:=h1.reads I r
  obtain⟨bs,r2⟩:=h2.reads I r'
  have:=SeqAt.eqAt_reads d e A s u u' as bs r1 r2 h1.lay h2.lay (by omega)
  rw[he] at this
  exact this
end
structure KCalleeM (P:Program) (w:World) (K:PySem.W.Frag) (mg:Str→Option Value) (base:Heap) (C:Addr) (x:Str) (k:Nat) (ps:List Str) (sp:Sp):Prop where
 ex:∃f fd,FnOk P w K mg base CX0 k f fd ps sp∧Mk K C f∧mg x=some (.ref C)∧Binds K fd ps []∧Binds K fd ps [Value.none]∧Binds K fd ps [Value.none,Value.none]
section
variable {X:Cx} {C:Addr} {k:Nat} {ps:List Str} {sp:Sp} {x:Str} {p pos:Pos} {e:Expr} {es:List Expr} {t:TA} (G:KCalleeM X.prog X.w X.K X.mg X.base C x k ps sp) (hr:Room (k+1) X.A) (hg:Gl X x) (ha:PA X (e::es) t) (hdb:(x==("__debug__" :Str))=false:=by decide)
  (he:starEach (e::es) X.env=(false,eval e X.env)::starEach es X.env:=by rfl) (hpl:(backTo pos (starEach es X.env)).any (·.1)=false:=by rfl)
include G hr hg ha hdb he hpl
theorem pe_mkM1:PE X (.Call (.Name x p) (e::es) [] pos) (tMake C sp [.non] E0 t):=by
 obtain⟨f,fd,F,M,hm,_,hb,_⟩:=G.ex
 exact pe_make M F hr hg hm hb (.cons rfl .nil) pass0 ha hdb he hpl
end
theorem bindsM {K:PySem.W.Frag}{fd:FuncData}{ps:List Str}{ds:List Value}{T:Addr}{oc:Value}{od:Option Addr}{sl:Array (Option Value)}{items:Array Value}{n:Nat}(hd:fd.defaults=.ref T)(ho:K.lookup T=some ⟨oc,od,.seq items n,sl⟩)
  (m:Nat) (hm:ps.length=m+ds.length) (h:∀us:List Value,us.length=m→∃k,bindArgs fd ⟨us,[]⟩=(seqItems? fd.defaults>>=k)∧k (some items)=pure (ps.zip (us++ds))):Binds K fd ps ds:=fun s us hX hl=>by
 obtain⟨k,h1,h2⟩:=h us (by rw[hm,List.length_append] at hl;omega)
 exact PySem.W.binds_K hX hd ho rfl h1 h2
section
variable {P:Program} {w:World} {K:PySem.W.Frag} {mg:Str→Option Value} {base:Heap}
end
section
variable {X:Cx}
end
section
variable {prog:Program} {w:World} {A:Around} {R:Result→Shared→Prop} {it:Addr} {fp wr:List Addr} {P:Nat→Value→Prop} {St:Nat→Heap→Prop} {n:Nat}
end
section
variable {prog:Program} {w:World} {A:Around} {E:Value→Shared→Prop} {s:Shared}
end
section
variable {X:Cx}
end
section
variable {X:Cx}
def rInsert:V→List V→Hp→VK→Prop:=fun x vs H Q=>∃l xs i y,x=.ref l∧vs=[.int i,y]∧H l=some (.lst xs)∧0≤i∧i≤xs.length∧xs.length<1000000∧Q .non (upd H l (.lst (xs.take i.toNat++y::xs.drop i.toNat)))
theorem mt_insert:MtM X "list.insert" rInsert:=by
 intro pins s σ H x vs v us Q I rx rv h
 obtain⟨l,xs,i,y,rfl,rfl,hH,h0,hk,hz,q⟩:=h
 cases rx
 obtain⟨u1,u2,rfl,r1,r2⟩:=vals2 rv
 obtain⟨tk,rfl⟩:=r1
 obtain⟨z,its,n,r,hl,e⟩:=I.lstM hH
 have hf:Builtin.List.listFitsIndex i=true:=by
  have:i<1000000:=by omega
  unfold Builtin.List.listFitsIndex
  simp
  omega
 have hz1:its.toArray.size≤sizeLine:=by rw[List.size_toArray,←hl];exact z
 have hf1:¬(!Builtin.List.listFitsIndex i)=true:=by rw[hf];decide
 refine call_meets F.slot_list_insert ⟨_,e,rfl⟩ F.entry_list_insert (F.args_list_insert_3 _ _ _) (PySem.AutoSeq1.list_insert_list_int_val_1 l its.toArray n i tk u2 hf1 hz1) ⟨e,?_⟩
 refine⟨.non,_,I.lset (its':=its.take i.toNat++u2::its.drop i.toNat) hH e ?_ ((r.take i.toNat).append (.cons r2 (r.drop i.toNat))) ?_,rfl,q⟩
 ·have h1:min i.toNat its.toArray.size=i.toNat:=by rw[List.size_toArray];omega
  dsimp only
  rw[if_neg (by omega),h1]
  apply Array.ext'
  simp[List.take_of_length_le]
 ·have:sizeLine=2^24:=rfl
  simp only[List.length_append,List.length_take,List.length_cons,List.length_drop]
  omega
end
section
variable {X:Cx} {pins:List (Addr×Obj)} {σ:St} {H:Hp} {s:Shared} {a:Addr} {C:Value} {cx:Str} {CW:Addr} {np hpos pos:Pos} {b₀:Stmt} {suite:List Stmt} {nm:Option Str} {rest:List ExceptHandler} {D:Ends}
end
section
variable {X:Cx}
end
section
variable {X:Cx} {scope:Scope} {ls ys:List Str} {ix:List Nat} {tg iter elt:Expr} {ifs:List Expr} {pos:Pos} {wi:TI} {g:TG} {tt:TT} {te:TE}
end
section
variable {P:Program} {w:World} {K:PySem.W.Frag} {mg:Str→Option Value} {base:Heap} {N:List Str} {qual:Str} {scope:Scope} {f:Addr} {cd:Value} {A:Around} {outer:List Env} {s₀:Shared} {H₀:Hp} {E:XK}
end
section
variable {X:Cx} {scope:Scope} {ls ys:List Str} {ix:List Nat} {tg iter elt:Expr} {ifs:List Expr} {pos:Pos} {wi:TI} {g:TG} {tt:TT} {te:TE}
end
section
variable {X:Cx}
def rInTT (K:PySem.W.Frag) (neg:Bool):R2:=fun x y H Q=>∃(b p:Addr) (as:List Addr) (c:List Int) (cs:List (List Int)),x=.ref b∧y=.ref p∧H b=some (.tup (c.map V.int))∧SqT K H p (as.map V.ref)∧Tups H as cs∧Q (.bl (if neg then !decide (c∈cs) else decide (c∈cs))) H
theorem op_inTT {k:Nat}(hr:Room k X.A):OpR X (compareOp .In) (rInTT X.K false):=by
 intro pins s σ H x y v u Q I rx ry h
 obtain⟨b,p,as,c,cs,rfl,rfl,hb,hp,ht,q⟩:=h
 cases rx
 cases ry
 obtain⟨its,rv,pl,hz⟩:=I.tuple hp
 cases vals_refs rv
 refine SeqAt.in_tupleAt (isT H c) pl (fun w hw=>mem_isT hr I hb ht w (by simpa using hw)) ⟨.bl _,H,I,rfl,?_⟩
 rw[show(as.map Value.ref).toArray.any (isT H c)=(as.map Value.ref).any (isT H c) by simp,any_isT ht]
 exact q
theorem op_inTTK {K:PySem.W.Frag}(hK:X.K=K){k:Nat}(hr:Room k X.A):OpR X (compareOp .In) (rInTT K false):=by subst hK;exact op_inTT hr
theorem ev_inTT {ta tb:TE}{σ:St}{H:Hp}{K:PySem.W.Frag}{b p:Addr}{as:List Addr}{c:List Int}{cs:List (List Int)}(ha:Ev ta σ H (.ref b))(hb:Ev tb σ H (.ref p))(h1:H b=some (.tup (c.map V.int)))(h2:SqT K H p (as.map V.ref))(h3:Tups H as cs):Ev (tOp (rInTT K false) ta tb) σ H (.bl (decide (c∈cs))):=
 fun _ q=>ha _ (hb _ ⟨b,p,as,c,cs,rfl,rfl,h1,h2,h3,q⟩)
end
section
variable {X:Cx} {C:Addr} {x:Str} {p pos:Pos}
end
theorem lc_tupG {K:PySem.W.Frag}{a:Addr}{xs:List V}{σ0:St}{g:TG}{tt:TT}{te:TE}{H1:Hp}{D:Addr}{Q:Hp→Prop}(Pv:Nat→St→Hp→Prop)(h0:Pv 0 σ0 (upd H1 D (.lst [])))
  (hl:∀i τ H,i≤xs.length→Pv i τ H→SqT K H a xs)
  (hs:∀i x τ H,xs[i]?=some x→Pv i τ H→g x τ H fun τ2 H2=>tt τ2 H2 fun b H3=>
   if b=true then te τ2 H3 fun v H4=>∃acc,H4 D=some (.lst acc)∧acc.length<sizeLine∧Pv (i+1) τ2 (upd H4 D (.lst (acc++[v]))) else Pv (i+1) τ2 H3)
  (hd:∀τ H,Pv xs.length τ H→Q H):lcW σ0 g tt te (Itt K a) H1 D Q:=by
 refine⟨fun i m τ H=>m=xs.length - i∧i≤xs.length∧Pv i τ H,⟨xs.length,by simp,Nat.zero_le _,h0⟩,?_⟩
 rintro i m τ H ⟨rfl,hi,p⟩
 have q:=hl i τ H hi p
 by_cases hlt:i<xs.length
 ·refine .inr ⟨⟨xs,xs[i],q,by simp[hlt]⟩,Pv (i+1),fun τ' H' p'=>⟨xs.length - (i+1),by omega,rfl,hlt,p'⟩,fun x H' y=>?_⟩
  obtain⟨e,y⟩:=y
  subst e
  exact hs i x τ _ (y xs q) p
 ·have e:i=xs.length:=by omega
  subst e
  exact .inl ⟨⟨xs,q,Nat.le_refl _⟩,hd τ H p⟩
theorem lc_zipT {K:PySem.W.Frag}{a b:Addr}{xs ys:List V}{σ0:St}{g:TG}{tt:TT}{te:TE}{H1:Hp}{D:Addr}{Q:Hp→Prop}(hle:ys.length≤xs.length)(Pv:Nat→St→Hp→Prop)(h0:Pv 0 σ0 (upd H1 D (.lst [])))
  (hl:∀i τ H,i≤ys.length→Pv i τ H→SqT K H a xs∧SqT K H b ys)
  (hs:∀i x y p τ H,xs[i]?=some x→ys[i]?=some y→H p=none→Pv i τ H→g (.ref p) τ (upd H p (.tup [x,y])) fun τ2 H2=>tt τ2 H2 fun b H3=>
   if b=true then te τ2 H3 fun v H4=>∃acc,H4 D=some (.lst acc)∧acc.length<sizeLine∧Pv (i+1) τ2 (upd H4 D (.lst (acc++[v]))) else Pv (i+1) τ2 H3)
  (hd:∀τ H,Pv ys.length τ H→Q H):lcW σ0 g tt te (ItzT K a b) H1 D Q:=by
 refine⟨fun i m τ H=>m=ys.length - i∧i≤ys.length∧Pv i τ H,⟨ys.length,by simp,Nat.zero_le _,h0⟩,?_⟩
 rintro i m τ H ⟨rfl,hi,p⟩
 obtain⟨q1,q2⟩:=hl i τ H hi p
 by_cases hlt:i<ys.length
 ·refine .inr ⟨⟨xs,ys,xs[i],ys[i],q1,q2,by simp[show i<xs.length by omega],by simp[hlt]⟩,Pv (i+1),fun τ' H' p'=>⟨ys.length - (i+1),by omega,rfl,hlt,p'⟩,fun x H' z=>?_⟩
  obtain⟨P,y1,y2,hn,rfl,rfl,e1,e2⟩:=z
  exact hs i y1 y2 P τ _ (e1 xs q1) (e2 ys q2) hn p
 ·have e:i=ys.length:=by omega
  subst e
  exact .inl ⟨⟨xs,ys,q1,q2,.inr (Nat.le_refl _)⟩,hd τ H p⟩
section
open PySem.SeqAt
open PySem.AutoSeq1 (wpAny_loadPart')
open PySem.MeetsSeq PySem.MeetsSeq2 PySem.MeetsSeq3
end
section
variable {prog:Program} {w:World} {A:Around} {E:Value→Shared→Prop} {s:Shared}
end
section
variable {X:Cx}
end
theorem op_ltTK {X:Cx}{K:PySem.W.Frag}(hK:X.K=K)(hu:X.A.units<cLine):OpR X (compareOp .Lt) (rLtT K):=by subst hK;exact op_ltT hu
end L2
namespace HT
open PySem PyProof.Rows
section
variable {prog:Program} {w:World} {A:Around} {E:Value→Shared→Prop} {s:Shared}
theorem getItem_tuple_whole {t sl:Addr}{items:Array Value}{vl vu:Value}{lo hi:Option Int}{Q:Value→Shared→Prop}(ht:IsTup s.heap t items)(hs:s.heap.IsSliceOf sl vl vu .none)(pl:IsPart vl lo)(pu:IsPart vu hi)
  (hw:sIx items.size 0 lo=0∧sIx items.size items.size hi=items.size)
  (h:Q (.ref t) s)
  (hsz:items.size≤sizeLine):wpAny (model prog w) A (getItem (.ref t) (.ref sl)) Q E s:=by
 have hj:sIx items.size items.size hi≤items.size:=sIx_le _ _ (Nat.le_refl _) hi
 obtain⟨os,hos,hcs,hds⟩:=id hs
 have hTs:s.TypeIs (.ref sl) "slice" :=⟨os,hos,hcs⟩
 unfold getItem
 try with_reducible refine wpAny_holding ?_
 first|refine wpAny_bind (wpAny_pure ?_)|skip
 refine wpAny_bind (wpAny_sequenceKey ht.typeIs (by decide) ?_)
 refine wpAny_bind (wpAny_callSpecial?_slot (name:=Str.ofString "__getitem__") ht.typeIs PyProof.Rows.slot_tuple_getitem
  (wpAny_call_entry PyProof.Rows.slot_tuple_getitem ht.typeIs entry_tuple_getitem ?_ (args_tuple_getitem _ _)))
 show wpAny _ _ (Builtin.Tuple.tupleItemsOf (.ref t)>>=_) _ _ s
 refine wpAny_bind (tupleItemsOf_ ht ?_)
 refine wpAny_bind (wpAny_typeOf hTs ?_)
 rw[if_pos (by decide)]
 refine wpAny_bind (sliceApplied_gen hs pl pu ?_)
 have hyes:(((sIx items.size 0 lo:Nat):Int)==0&&(1:Int)==1&&(sIx items.size items.size hi - sIx items.size 0 lo)==items.size)=true:=by
  rw[hw.1,hw.2]
  simp
 show wpAny _ _ (if (((sIx items.size 0 lo:Nat):Int)==0&&(1:Int)==1&&(sIx items.size items.size hi - sIx items.size 0 lo)==items.size)=true then _ else _) _ _ s
 rw[if_pos hyes]
 unfold Builtin.Tuple.tupleIsExact
 first
  |refine wpAny_bind (wpAny_bind (wpAny_typeOf ht.typeIs (wpAny_pure ?_)))
  |refine wpAny_bind (wpAny_typeOf ht.typeIs ?_)
 rw[if_pos (by decide)]
 refine wpAny_bind (wpAny_rule ?_)
 exact wpAny_pure ⟨_,rfl,wpAny_pure h⟩
end
end HT
namespace L2
open PySem PySem.Spec PyProof.Rows
def rSlW (K:PySem.W.Frag):V→Option Int→Option Int→Hp→VK→Prop:=fun x lo hi H Q=>∃a xs,x=.ref a∧SqT K H a xs∧((HT.sIx xs.length 0 lo=0∧HT.sIx xs.length xs.length hi=xs.length)→Q (.ref a) H)∧
 (¬(HT.sIx xs.length 0 lo=0∧HT.sIx xs.length xs.length hi=xs.length)→∀p,H p=none→Q (.ref p) (upd H p (.tup (cutV xs lo hi))))
theorem sl_tupW {X:Cx}:SlR X (rSlW X.K):=by
 intro pins s σ H x v vl vu lo hi sl Q I rx hs pl pu h
 obtain⟨a,xs,rfl,hx,q1,q2⟩:=h
 by_cases hw:HT.sIx xs.length 0 lo=0∧HT.sIx xs.length xs.length hi=xs.length
 ·cases rx
  obtain⟨its,r,ht,hz⟩:=I.tuple hx
  have hlen:its.toArray.size=xs.length:=by rw[List.size_toArray];exact r.length.symm
  refine⟨"tuple",_,PyProof.Rows.slot_tuple_getitem.lookup,ht.typeIs,?_⟩
  exact HT.getItem_tuple_whole ht hs pl pu (by rw[hlen];exact hw) ⟨.ref a,H,I,rfl,q1 hw⟩ (by rw[hlen];exact hz)
 ·exact sl_tup pins s σ H _ v vl vu lo hi sl Q I rx hs pl pu ⟨a,xs,rfl,hx,hw,q2 hw⟩
section
open PySem.SeqAt
open PySem.AutoSeq1 (wpAny_loadPart')
open PySem.MeetsSeq PySem.MeetsSeq2 PySem.MeetsSeq3
theorem rm_loop (l:Addr)(xs:Array Value)(n:Nat)(v:Value)(e:Value→Bool)(j:Nat)(hj:j<xs.size)(hit:e xs[j]=true)(hz:xs.size≤sizeLine)(k:Nat):
  ∀i:Nat,j - i=k→i≤j→(∀m (hm:m<xs.size),i≤m→m<j→e xs[m]=false)→Meets (Builtin.«list.remove.loop» ⟨[.ref l,v,rawInt i],[]⟩)
   (fun A R s=>s.heap.get? l=some {cls:=.type "list",dict:=none,data:=.seq xs n,slots:= #[]}∧(∀y,y∈xs→EqAt A.in1 s y v (e y))∧
    R (.ok (.ret .none)) {s with heap:=s.heap.update l (Obj.mapSeq fun ys=>ys.eraseIdxIfInBounds j)}):=by
 induction k with
 |zero=>
  intro i ek ij no p w A R s h
  obtain⟨h0,g0,d0,t0,o0⟩:=s
  obtain⟨el,eq,q⟩:=h
  obtain rfl:i=j:=by omega
  wp_walk using (wpAny_loadPart' el)
  rw[show xs[((i:Nat):Int).toNat]?=some xs[i] by simp[hj]]
  refine wpAny_bind (eq xs[i] (Array.getElem_mem hj) p w _ _ ?_)
  rw[hit]
  have hz':(xs.eraseIdxIfInBounds i).size≤sizeLine+1:=Nat.le_trans (size_erased xs _) (Nat.le_succ_of_le hz)
  wp_walk using (wpAny_updateSeq el rfl (hz:=hz) (_hz':=hz')),(wpAny_loadPart' el)
  simpa using q
 |succ k ih=>
  intro i ek ij no p w A R s h
  obtain⟨h0,g0,d0,t0,o0⟩:=s
  obtain⟨el,eq,q⟩:=h
  have lt:i<xs.size:=by omega
  wp_walk using (wpAny_loadPart' el)
  rw[show xs[((i:Nat):Int).toNat]?=some xs[i] by simp[lt]]
  refine wpAny_bind (eq xs[i] (Array.getElem_mem lt) p w _ _ ?_)
  rw[no i lt (Nat.le_refl _) (by omega)]
  wp_walk
  rw[show((i:Int)+1)=((i+1:Nat):Int) by omega]
  exact⟨plainId_quiet plain_remove_loop _,codeAny_builtin entry_remove_loop (by
   rw[Around.under_plainId]
   ·exact ih (i+1) (by omega) (by omega) (fun m hm a b=>no m hm (by omega) b) p w A R _ ⟨el,eq,q⟩
   ·exact plain_remove_loop)⟩
theorem rm_list (l:Addr)(xs:Array Value)(n:Nat)(v:Value)(e:Value→Bool)(j:Nat)(hj:j<xs.size)(hit:e xs[j]=true)(hz:xs.size≤sizeLine)(no:∀m (hm:m<xs.size),m<j→e xs[m]=false):
  Meets (Builtin.«list.remove» ⟨[.ref l,v],[]⟩)
   (fun A R s=>s.heap.get? l=some {cls:=.type "list",dict:=none,data:=.seq xs n,slots:= #[]}∧(∀y,y∈xs→EqAt A.in1 s y v (e y))∧
    R (.ok (.ret .none)) {s with heap:=s.heap.update l (Obj.mapSeq fun ys=>ys.eraseIdxIfInBounds j)}):=by
 intro p w A R s h
 obtain⟨h0,g0,d0,t0,o0⟩:=s
 obtain⟨el,eq,q⟩:=h
 wp_walk using (wpAny_loadPart' el)
 exact⟨plainId_quiet plain_remove_loop _,codeAny_builtin entry_remove_loop (by
  rw[Around.under_plainId]
  ·exact rm_loop l xs n v e j hj hit hz _ 0 rfl (Nat.zero_le _) (fun m hm _ b=>no m hm b) p w A R _ ⟨el,eq,q⟩
  ·exact plain_remove_loop)⟩
end
theorem first_at {α:Type} [DecidableEq α]{c:α}:∀{cs:List α},c∈cs→∃j:Nat,cs[j]?=some c∧∀m:Nat,m<j→cs[m]?≠some c
 |[],h=>nomatch h
 |d::cs,h=>by
  by_cases e:d=c
  ·exact⟨0,by rw[e];rfl,fun m hm=>absurd hm (Nat.not_lt_zero _)⟩
  ·obtain⟨j,h1,h2⟩:=first_at (cs:=cs) ((List.mem_cons.mp h).resolve_left fun z=>e z.symm)
   refine⟨j+1,h1,fun m hm=>?_⟩
   cases m with
   |zero=>exact fun z=>e (Option.some.inj z)
   |succ m=>exact h2 m (by omega)
section
variable {X:Cx}
theorem tup_at {H:Hp}{as:List Addr}{cs:List (List Int)}(h:Tups H as cs):∀{i:Nat} {c:List Int},cs[i]?=some c→∃a,as[i]?=some a∧H a=some (.tup (c.map V.int)):=by
 induction h with
 |nil=>intro i c h;simp at h
 |cons r _ ih=>
  intro i c h
  cases i with
  |zero=>exact⟨_,rfl,by cases Option.some.inj h;exact r⟩
  |succ i=>exact ih h
def rRemT:V→List V→Hp→VK→Prop:=fun x vs H Q=>∃l b as c cs,x=.ref l∧vs=[.ref b]∧H b=some (.tup (c.map V.int))∧H l=some (.lst (as.map V.ref))∧Tups H as cs∧c∈cs∧
 ∀j:Nat,cs[j]?=some c→Q .non (upd H l (.lst ((as.eraseIdx j).map V.ref)))
theorem mt_removeT {k:Nat}(hr:Room k X.A):MtR X "list.remove" rRemT:=by
 intro pins s σ H x vs v us Q I rx rv h
 obtain⟨l,b,as,c,cs,rfl,rfl,hb,hp,ht,hc,q⟩:=h
 cases rx
 obtain⟨u,rfl,ru⟩:=vals1 rv
 cases ru
 obtain⟨z,its,n,r,hl,e⟩:=I.lstM hp
 cases vals_refs r
 obtain⟨j,hj,no⟩:=first_at hc
 obtain⟨a,ha,hac⟩:=tup_at ht hj
 have ja:j<as.length:=(List.getElem?_eq_some_iff.mp ha).1
 have len:as.length=cs.length:=Paired.length ht
 have el:∀m (hm:m<(as.map Value.ref).toArray.size) (d:List Int),cs[m]?=some d→isT H c (as.map Value.ref).toArray[m]=decide (d=c):=fun m hm d hd=>by
  obtain⟨a,ha,hac⟩:=tup_at ht hd
  have:(as.map Value.ref).toArray[m]=.ref a:=by
   have:=List.getElem?_eq_some_iff.mp ha
   simp[this.2]
  rw[this]
  exact isT_of hac
 have js:j<(as.map Value.ref).toArray.size:=by simp;exact ja
 refine call_meets PySem.F.slot_list_remove ⟨_,e,rfl⟩ PySem.F.entry_list_remove (PySem.F.args_list_remove_2 _ _)
  (rm_list l (as.map Value.ref).toArray n (.ref b) (isT H c) j js (by rw[el j js c hj];simp) (by simp at z⊢;exact z) (fun m hm lt=>?_)) ⟨e,fun y hy=>mem_isT hr I hb ht y (by simpa using hy),?_⟩
 ·have hm':m<cs.length:=by simp at hm;omega
  rw[el m hm cs[m] (List.getElem?_eq_getElem hm')]
  exact decide_eq_false fun z=>no m lt (by rw[List.getElem?_eq_getElem hm',z])
 ·refine⟨.non,_,I.lset (its':=(as.eraseIdx j).map Value.ref) hp e ?_ ?_ ?_,rfl,q j hj⟩
  ·apply Array.ext'
   rw[Array.toList_eraseIdxIfInBounds,map_eraseIdx]
  ·exact vals_of_refs _
  ·rw[List.length_map]
   rw[List.length_map] at z
   exact Nat.le_trans (List.length_eraseIdx_le ..) z
end
structure KCalleeZ (P:Program) (w:World) (K:PySem.W.Frag) (mg:Str→Option Value) (base:Heap) (C:Addr) (x:Str) (k:Nat) (ps:List Str) (sp:Sp) (n:Nat):Prop where
 ex:∃f fd,FnOk P w K mg base CX0 k f fd ps sp∧Mk K C f∧mg x=some (.ref C)∧∀j,j≤n→∃ds,Vals (List.replicate j (.int 0)) ds∧Binds K fd ps ds
section
variable {X:Cx} {C:Addr} {k n:Nat} {ps:List Str} {sp:Sp} {x:Str} {p pos:Pos} {e:Expr} {es:List Expr} {t:TA} (G:KCalleeZ X.prog X.w X.K X.mg X.base C x k ps sp n) (hr:Room (k+1) X.A) (hg:Gl X x) (ha:PA X (e::es) t) (hdb:(x==("__debug__" :Str))=false:=by decide)
  (he:starEach (e::es) X.env=(false,eval e X.env)::starEach es X.env:=by rfl) (hpl:(backTo pos (starEach es X.env)).any (·.1)=false:=by rfl)
include G hr hg ha hdb he hpl
theorem pe_mkZ (j:Nat)(hj:j≤n):PE X (.Call (.Name x p) (e::es) [] pos) (tMake C sp (List.replicate j (.int 0)) E0 t):=by
 obtain⟨f,fd,F,M,hm,hb⟩:=G.ex
 obtain⟨ds,r,b⟩:=hb j hj
 exact pe_make M F hr hg hm b r pass0 ha hdb he hpl
theorem pe_mkZ0:PE X (.Call (.Name x p) (e::es) [] pos) (tMake C sp [] E0 t):=pe_mkZ G hr hg ha hdb he hpl 0 (Nat.zero_le _)
theorem pe_mkZ1 (h1:1≤n:=by decide):PE X (.Call (.Name x p) (e::es) [] pos) (tMake C sp [.int 0] E0 t):=pe_mkZ G hr hg ha hdb he hpl 1 h1
end
theorem bindsZ1 {K:PySem.W.Frag}{fd:FuncData}{ps:List Str}{t0:Tok}(h0:Binds K fd ps [])(h1:Binds K fd ps [.int 0 t0]):∀j,j≤1→∃ds,Vals (List.replicate j (.int 0)) ds∧Binds K fd ps ds
 |0,_=>⟨_,.nil,h0⟩
 |1,_=>⟨_,.cons ⟨_,rfl⟩ .nil,h1⟩
section
variable {X:Cx}
def rNeXL (K:PySem.W.Frag):R2:=fun x y H Q=>∃a b xs ys,x=.ref a∧y=.ref b∧SqL K H a xs∧SqL K H b ys∧xs.length=ys.length∧(∀i,i<xs.length→SmX K H (xs.getD i .non) (ys.getD i .non))∧Q (.bl false) H
theorem op_neXL {k:Nat}(hr:Room k X.A):OpR X (compareOp .NotEq) (rNeXL X.K):=by
 intro pins s σ H x y v u Q I rx ry h
 obtain⟨a,b,xs,ys,rfl,rfl,hx,hy,hl,hs,q⟩:=h
 cases(show v=Value.ref a from rx)
 cases(show u=Value.ref b from ry)
 have hu:=hr.units
 obtain⟨i1,r1,p1,_⟩:=I.list hx
 obtain⟨i2,r2,p2,_⟩:=I.list hy
 have l1:=r1.length
 have l2:=r2.length
 have hsz:i1.toArray.size=i2.toArray.size:=by simp;omega
 refine SeqAt.RcNeAt.lists (e:=fun _=>true) p1.isList p2.isList hsz (by omega) (fun j h1 h2=>?_) X.prog X.w X.xe _ ?_
 ·have j1:j<i1.length:=by simpa using h1
  have j2:j<i2.length:=by simpa using h2
  exact eqAt_X (A:=X.A.in1) I (hs j (by omega)) (by simpa using vals_getD r1 j j1) (by simpa using vals_getD r2 j j2) (show X.A.units+1+62<cLine by omega)
 ·rw[all_true];simp only[Bool.not_true];exact⟨.bl false,H,I,rfl,q⟩
end
section
variable {X:Cx}
def rCatG:R2:=fun x y H Q=>∃a b xs ys,x=.ref a∧y=.ref b∧H a=some (.tup xs)∧H b=some (.tup ys)∧xs.length+ys.length≤sizeLine∧∀p H',Same H H'→H' p=some (.tup (xs++ys))→Q (.ref p) H'
theorem op_catG:OpR X (binaryOp .Add) rCatG:=by
 intro pins s σ H x y v u Q I rx ry h
 obtain⟨a,b,xs,ys,rfl,rfl,ha,hb,hz,q⟩:=h
 by_cases e:xs=[]
 ·subst e
  cases rx
  cases ry
  obtain⟨its,r1,p1,_⟩:=I.tuple (SqT.of ha)
  obtain⟨its2,r2,p2,_⟩:=I.tuple (SqT.of hb)
  cases r1
  obtain⟨⟨c0,d0,b0,l0⟩,o1,k1,n1,e1⟩:=id p1
  obtain⟨⟨c2,d2,b2,l2⟩,o2,k2,n2,e2⟩:=id p2
  simp only at k1 e1 k2 e2
  subst k1 e1 k2 e2
  exact concat_meets ⟨_,o1,rfl⟩ ⟨_,o2,rfl⟩ noFill_tuple_add seq_tuple_add PySem.F.slot_tuple_add PySem.F.entry_tuple_add (PySem.F.args_tuple_add_2 _ _)
   (tuple_addW0 a b _ _ n1 n2 d0 d2 l0 l2 rfl) ⟨o1,o2,⟨.ref b,H,I,rfl,q b H (Same.refl H) hb⟩⟩
 ·refine op_catT pins s σ H _ _ v u Q I rx ry ⟨a,b,xs,ys,rfl,rfl,SqT.of ha,SqT.of hb,e,hz,fun z=>?_,fun _ p np=>q p _ ((Same.refl H).upd np) upd_same⟩
  refine q a H (Same.refl H) ?_
  rw[z,List.append_nil]
  exact ha
end
section
variable {X:Cx}
theorem call_sortedE (hcm:X.calm=true):CallR X (.builtin "sorted") (fun xs H Q=>∃(p:Addr) (kvs:List (List Key×V)) (cs:List (List Int)),xs=[.ref p]∧H p=some (.dT kvs)∧kvs.map (·.1)=cs.map (fun c=>c.map Sum.inl)∧(∀c∈cs,c≠[])∧cs.length<64∧
  ∀l bs ds,H l=none→Tups H bs ds→ds.Perm cs→ds.Pairwise (fun c d=>HT.lexLt d c=false)→Q (.ref l) (upd H l (.lst (bs.map V.ref)))):=by
 intro pins s σ H xs us Q I r h
 obtain⟨p,kvs,cs,rfl,e,hk,hne,h64,q⟩:=h
 by_cases h2:2≤cs.length
 ·exact call_sortedD hcm pins s σ H _ us Q I r ⟨p,kvs,cs,rfl,e,hk,hne,h2,h64,q⟩
 obtain⟨u,rfl,rx⟩:=vals1 r
 cases rx
 obtain⟨o,I1,_⟩:=I.freeze e trivial
 obtain⟨hS,hod,hc,es,ep,hdd,hz,hall⟩:=raw_of I1.hok upd_same trivial
 have hes:es.size=cs.length:=by
  have:=congrArg List.length hk
  rw[List.length_map,List.length_map] at this
  rw[←this];exact hz
 obtain⟨m,hm,_⟩:=id I.loc
 refine PySem.W.kdu_sorted (rk_src hS) (I.ok.hd hcm) (Att.fr_all hm) news_all ⟨o,hod,hc,hdd⟩ (by rw[hes,sizeLine_eq];omega) fun D h' tk vs F' N' hD hlen hP=>?_
 obtain⟨as,rfl,ht⟩:∃as:List Addr,vs=as.map Value.ref∧Tups H as cs:=by
  refine pick_as (by rw[hlen,hes]) fun i v c hv hcv=>?_
  obtain⟨hi,rfl⟩:=hP i v hv
  obtain⟨x,y,⟨kk,a,h1,h2,h3⟩,r1,r2⟩:=hall i hi
  have h4:(kvs.map (·.1))[i]?=some kk:=by rw[List.getElem?_map,h1];rfl
  rw[hk,List.getElem?_map,hcv] at h4
  subst h2
  refine⟨a,r1,?_⟩
  rw[upd_ne (fun z=>by rw[z,upd_same] at h3;cases h3),←Option.some.inj h4,kV_ints] at h3
  exact h3
 have hal:as.length=cs.length:=Paired.length ht
 have k0:∀b u,b≠X.env.locals→s.heap.get? b=some u→h'.get? b=some u:=fun b u hb e=>(N' (b,u) (List.mem_cons_of_mem _ (mem_allNews hb (Att.noObjs_get _ _) e))).1
 have nD:=N' (D,_) List.mem_cons_self
 have hDn:s.heap.get? D=none:=by
  cases e:s.heap.get? D with
  |none=>rfl
  |some u=>exact absurd (hD (D,u) (mem_allNews nD.2.1 (Att.noObjs_get _ _) e)) (Nat.lt_irrefl _)
 have gD:h'.get? D=some (PyProof.Rows.seqObj "list" (as.map Value.ref).toArray 0):=nD.1
 refine wpAny_call_entry PyProof.Rows.slot_list_sort ⟨_,nD.1,rfl⟩ PyProof.Rows.entry_list_sort (sort_few (s:={s with heap:=h',toks:=tk}) gD (by rw[List.length_map];omega) ⟨_,rfl,?_⟩) (PyProof.Rows.args_list_sort _)
 obtain⟨e1,hD2⟩:=sortedHeap_at (out:=(as.map Value.ref).toArray) gD
 have kp:∀b u,b≠D→h'.get? b=some u→(PyProof.Rows.sortedHeap h' D (as.map Value.ref) (as.map Value.ref).toArray).get? b=some u:=fun b u hb e=>(sortedHeap_old hb (Heap.lt_size e)).trans e
 have I':Inv X pins σ (upd H D (.lst (as.map V.ref))) {s with heap:=PyProof.Rows.sortedHeap h' D (as.map Value.ref) (as.map Value.ref).toArray,toks:=tk}:=by
  refine I.laidN (fun b u hb e=>?_) (fun m' hm'=>?_) hDn ?_
  ·exact kp b u (fun z=>by rw[z,hDn] at e;cases e) (k0 b u hb e)
  ·rw[show m'=m from ns_inj hm' hm]
   obtain⟨oL,es',ep',e',r'⟩:=F'.ns
   exact⟨oL,es',ep',kp _ _ nD.2.1.symm e',r'⟩
  ·exact⟨by rw[List.length_map,hal,sizeLine_eq];omega,_,_,vals_of_refs _,hD2⟩
 refine⟨.ref D,_,I',rfl,q D as cs (I.hok.none_of hDn) ht (List.Perm.refl _) ?_⟩
 match cs,h2 with
 |[],_=>exact .nil
 |[_],_=>exact List.pairwise_singleton _ _
 |_::_::_,hl=>simp only[List.length_cons] at hl;omega
end
end L2
namespace K36
open PySem L2
abbrev T3:=List Int
def iK (x:T3):List Key:=x.map Sum.inl
theorem iK_inj {x y:T3}(h:iK x=iK y):x=y:=by
 have:=congrArg (List.map kV) h
 unfold iK at this
 rw[kV_ints,kV_ints] at this
 exact map_int_inj this
theorem iK_at {H:Hp}{b:Addr}{x:T3}(h:H b=some (.tup (x.map V.int))):H b=some (.tup ((iK x).map kV)):=by unfold iK;rw[kV_ints];exact h
theorem dg {H:Hp}{d b:Addr}{kvs:List (List Key×V)}{x:T3}(hd:Rd H d (.dT kvs))(hb:H b=some (.tup (x.map V.int))):DGet H d (.ref b) (valV kvs (iK x)):=.inr ⟨kvs,iK x,b,hd,rfl,iK_at hb,rfl⟩
theorem nd_sub_len {α:Type} [DecidableEq α]:∀{xs ys:List α},xs.Nodup→(∀x∈xs,x∈ys)→xs.length≤ys.length
 |[],_,_,_=>Nat.zero_le _
 |x::xs,ys,nd,h=>by
  rw[List.nodup_cons] at nd
  have:=nd_sub_len (ys:=ys.erase x) nd.2 fun y hy=>(List.mem_erase_of_ne (fun z=>nd.1 (by rw[←z];exact hy))).mpr (h y (List.mem_cons_of_mem _ hy))
  have e:=List.length_erase_of_mem (h x List.mem_cons_self)
  have p:0<ys.length:=List.length_pos_of_mem (h x List.mem_cons_self)
  rw[List.length_cons]
  omega
structure Szs (L R C:Int):Prop where
 l0:1≤L
 l1:L≤4
 r0:1≤R
 r1:R≤16
 c0:2≤C
 c1:C≤16
def Ins (L R C l r c:Int):Prop:=0≤l∧l<L∧0≤r∧r<R∧0≤c∧c<C
instance {L R C l r c : Int} : Decidable (Ins L R C l r c) := by unfold Ins; infer_instance
theorem ins_b {L R C l r c:Int}:(decide (0≤l)&&decide (l<L)&&(decide (0≤r)&&decide (r<R)&&(decide (0≤c)&&decide (c<C))))=decide (Ins L R C l r c):=by
 rw[Bool.eq_iff_iff]
 simp only[Bool.and_eq_true,decide_eq_true_eq]
 unfold Ins
 constructor<;>intro h<;>omega
noncomputable def sN (R C:Int) (n:Nat):T3:=[(n:Int)/C/R,(n:Int)/C%R,(n:Int)%C]
section
variable {L R C:Int}
theorem sN_ins (S:Szs L R C){n:Nat}(h:(n:Int)<L*R*C):Ins L R C ((n:Int)/C/R) ((n:Int)/C%R) ((n:Int)%C):=by
 have:=S.r0
 have:=S.c0
 have hn:(0:Int)≤(n:Int):=Int.natCast_nonneg n
 have h1:(n:Int)/C<L*R:=Int.ediv_lt_of_lt_mul (by omega) h
 exact⟨Int.ediv_nonneg (Int.ediv_nonneg hn (by omega)) (by omega),Int.ediv_lt_of_lt_mul (by omega) h1,Int.emod_nonneg _ (by omega),Int.emod_lt_of_pos _ (by omega),Int.emod_nonneg _ (by omega),Int.emod_lt_of_pos _ (by omega)⟩
theorem sN_lt (S:Szs L R C){n m:Nat}(h:n<m):HT.lexLt (sN R C n) (sN R C m)=true:=by
 have r0:=S.r0
 have c0:=S.c0
 have e1:=Int.mul_ediv_add_emod (n:Int) C
 have e2:=Int.mul_ediv_add_emod (m:Int) C
 have e3:=Int.mul_ediv_add_emod ((n:Int)/C) R
 have e4:=Int.mul_ediv_add_emod ((m:Int)/C) R
 have le1:(n:Int)/C≤(m:Int)/C:=Int.ediv_le_ediv (by omega) (by omega)
 have le2:(n:Int)/C/R≤(m:Int)/C/R:=Int.ediv_le_ediv (by omega) le1
 unfold sN
 rw[HT.lexLt_cons]
 by_cases g1:(n:Int)/C/R=(m:Int)/C/R
 ·rw[if_pos g1,HT.lexLt_cons]
  by_cases g2:(n:Int)/C%R=(m:Int)/C%R
  ·rw[if_pos g2,HT.lexLt_cons]
   rw[g1,g2,e4] at e3
   rw[←e3] at e1
   rw[if_neg (by intro g3;rw[g3] at e1;omega)]
   exact decide_eq_true (by omega)
  ·rw[if_neg g2]
   refine decide_eq_true ?_
   rw[g1] at e3
   omega
 ·rw[if_neg g1]
  exact decide_eq_true (by omega)
theorem sN_inj (S:Szs L R C){n m:Nat}(h:sN R C n=sN R C m):n=m:=by
 rcases Nat.lt_trichotomy n m with g|g|g
 ·have:=sN_lt S g;rw[h,lex_irrefl] at this;cases this
 ·exact g
 ·have:=sN_lt S g;rw[h,lex_irrefl] at this;cases this
noncomputable def enc (R C:Int) (ps:List (Nat×V)):List (List Key×V):=ps.map fun p=>(iK (sN R C p.1),p.2)
theorem val_enc (S:Szs L R C)(n:Nat):∀ps:List (Nat×V),valV (enc R C ps) (iK (sN R C n))=valV ps n
 |[]=>rfl
 |p::r=>by
  have ih:=val_enc S n r
  unfold enc at ih⊢
  rw[List.map_cons]
  by_cases e:p.1=n
  ·rw[valV_pos e]
   exact valV_pos (p:=(iK (sN R C p.1),p.2)) (by rw[e])
  ·rw[valV_neg e,←ih]
   exact valV_neg (p:=(iK (sN R C p.1),p.2)) (fun z=>e (sN_inj S (iK_inj z)))
theorem put_enc (S:Szs L R C)(ps:List (Nat×V))(n:Nat)(v:V):putK (enc R C ps) (iK (sN R C n)) v=enc R C (putK ps n v):=by
 unfold putK
 rw[valV_any,valV_any,val_enc S]
 by_cases h:(valV ps n).isSome=true
 ·rw[if_pos h,if_pos h]
  unfold enc
  rw[List.map_map,List.map_map]
  refine List.map_congr_left fun p _=>?_
  show(if iK (sN R C p.1)=iK (sN R C n) then _ else _)=(iK (sN R C (if p.1=n then (p.1,v) else p).1),(if p.1=n then (p.1,v) else p).2)
  by_cases e:p.1=n
  ·rw[if_pos (by rw[e]),if_pos e]
  ·rw[if_neg (fun z=>e (sN_inj S (iK_inj z))),if_neg e]
 ·rw[if_neg h,if_neg h]
  unfold enc
  rw[List.map_append];rfl
theorem keys_putK {κ:Type} [DecidableEq κ](kvs:List (κ×V))(k:κ)(v:V):(putK kvs k v).map (·.1)=if (valV kvs k).isSome=true then kvs.map (·.1) else kvs.map (·.1)++[k]:=by
 unfold putK
 rw[valV_any]
 by_cases h:(valV kvs k).isSome=true
 ·rw[if_pos h,if_pos h,List.map_map]
  refine List.map_congr_left fun p _=>?_
  show(if p.1=k then (p.1,v) else p).1=p.1
  split<;>rfl
 ·rw[if_neg h,if_neg h,List.map_append];rfl
theorem val_key {κ:Type} [DecidableEq κ]{kvs:List (κ×V)}{k:κ}:(valV kvs k).isSome=true↔k∈kvs.map (·.1):=by
 rw[←valV_any]
 simp[List.any_eq_true]
theorem val_mem {κ:Type} [DecidableEq κ]{kvs:List (κ×V)}{k:κ}{v:V}(h:valV kvs k=some v):(k,v)∈kvs:=by
 unfold valV at h
 obtain⟨p,h1,h2⟩:=Option.map_eq_some_iff.mp h
 have h3:=List.find?_some h1
 have h4:=List.mem_of_find?_eq_some h1
 have:p.1=k:=of_decide_eq_true h3
 subst this h2
 exact h4
structure Tb (M:Nat) (ps:List (Nat×V)):Prop where
 nd:(ps.map (·.1)).Nodup
 lt:∀p∈ps,p.1<M
theorem Tb.nil {M:Nat}:Tb M []:=⟨List.nodup_nil,fun _ h=>nomatch h⟩
theorem Tb.put {M n:Nat}{ps:List (Nat×V)}{v:V}(h:Tb M ps)(hn:n<M):Tb M (putK ps n v):=by
 have hk:=keys_putK ps n v
 refine⟨?_,fun p hp=>?_⟩
 ·rw[hk]
  split
  ·exact h.nd
  ·rename_i g
   refine List.nodup_append.mpr ⟨h.nd,List.nodup_cons.mpr ⟨by simp,List.nodup_nil⟩,?_⟩
   intro a ha b hb e
   rw[List.mem_singleton.mp hb] at e
   exact g (val_key.mpr (e▸ha))
 ·have:=List.mem_map_of_mem (f:=(·.1)) hp
  rw[hk] at this
  split at this
  ·obtain⟨q,hq,e⟩:=List.mem_map.mp this
   have e:q.1=p.1:=e
   rw[←e];exact h.lt q hq
  ·rcases List.mem_append.mp this with t|t
   ·obtain⟨q,hq,e⟩:=List.mem_map.mp t
    have e:q.1=p.1:=e
    rw[←e];exact h.lt q hq
   ·rw[List.mem_singleton.mp t];exact hn
theorem Tb.few {M:Nat}{ps:List (Nat×V)}(h:Tb M ps):ps.length≤M:=by
 have:(ps.map (·.1)).length≤(List.range M).length:=nd_sub_len h.nd fun n hn=>by
  obtain⟨p,hp,rfl⟩:=List.mem_map.mp hn
  exact List.mem_range.mpr (h.lt p hp)
 simpa using this
noncomputable def rk (rs:List Nat):List (Nat×V):=rs.foldl (fun acc n=>putK acc n (.bl true)) []
theorem rk_snoc (rs:List Nat)(n:Nat):rk (rs++[n])=putK (rk rs) n (.bl true):=by unfold rk;rw[List.foldl_append];rfl
theorem snoc_ind {α:Type}{P:List α→Prop}(h0:P [])(h1:∀xs x,P xs→P (xs++[x]))(l:List α):P l:=by
 have:∀n (xs:List α),xs.length=n→P xs:=by
  intro n
  induction n with
  |zero=>intro xs e;rw[List.length_eq_zero_iff.mp e];exact h0
  |succ n ih=>
   intro xs e
   have hne:xs≠[]:=fun z=>by rw[z] at e;simp at e
   rw[(List.dropLast_concat_getLast hne).symm]
   exact h1 _ _ (ih _ (by simp[e]))
 exact this _ l rfl
theorem rk_val (n:Nat)(rs:List Nat):(valV (rk rs) n).isSome=decide (n∈rs):=by
 induction rs using snoc_ind with
 |h0=>simp[rk,valV_nil]
 |h1 xs x ih=>
  rw[rk_snoc,valV_put]
  by_cases e:n=x
  ·simp[e]
  ·rw[if_neg e,ih];simp[e]
theorem rk_enc (S:Szs L R C)(rs:List Nat):mkD (rs.map fun n=>(iK (sN R C n),V.bl true))=enc R C (rk rs):=by
 induction rs using snoc_ind with
 |h0=>rfl
 |h1 xs x ih=>rw[List.map_append,List.map_singleton,mkD_snoc,ih,rk_snoc];exact put_enc S _ _ _
theorem small_hash {a:Nat}(h:a<16):hashInt (a:Int)=a:=by
 have:∀a<16,hashInt ((a:Nat):Int)=a:=by decide+kernel
 exact this a h
theorem hv3_at (l r c:Nat)(hr:r<16)(hc:c<16):hv3 (256*l+16*r+c)=reduceHash (Builtin.Tuple.tupleHashOf [(l:Int),(r:Int),(c:Int)]):=by
 have e1:(256*l+16*r+c)/256=l:=by omega
 have e2:(256*l+16*r+c)/16%16=r:=by omega
 have e3:(256*l+16*r+c)%16=c:=by omega
 unfold hv3
 rw[e1,e2,e3]
theorem tk_hash {P:Program}{w:World}(x:List Int):tupleKeyHash (mixKind P w) (iK x)=reduceHash (Builtin.Tuple.tupleHashOf (x.map hashInt)):=by
 unfold tupleKeyHash iK
 rw[List.map_map]
 rfl
theorem hash3 {P:Program}{w:World}(l r c:Nat)(hl:l<16)(hr:r<16)(hc:c<16):tupleKeyHash (mixKind P w) (iK [(l:Int),(r:Int),(c:Int)])=hv3 (256*l+16*r+c):=by
 rw[tk_hash,hv3_at l r c hr hc,List.map_cons,List.map_cons,List.map_cons,List.map_nil,small_hash hl,small_hash hr,small_hash hc]
theorem hash_sN (S:Szs L R C){n:Nat}(h:(n:Int)<L*R*C){P:Program}{w:World}:∃k:Nat,k<1024∧tupleKeyHash (mixKind P w) (iK (sN R C n))=hv3 k∧(k:Int)=256*((n:Int)/C/R)+16*((n:Int)/C%R)+(n:Int)%C:=by
 obtain⟨a1,a2,a3,a4,a5,a6⟩:=sN_ins S h
 have:=S.l1
 have:=S.r1
 have:=S.c1
 unfold sN
 revert a1 a2 a3 a4 a5 a6
 generalize (n:Int)/C/R=l
 generalize (n:Int)/C%R=r
 generalize (n:Int)%C=c
 intro a1 a2 a3 a4 a5 a6
 obtain⟨l,rfl⟩:=Int.eq_ofNat_of_zero_le a1
 obtain⟨r,rfl⟩:=Int.eq_ofNat_of_zero_le a3
 obtain⟨c,rfl⟩:=Int.eq_ofNat_of_zero_le a5
 exact⟨256*l+16*r+c,by omega,hash3 l r c (by omega) (by omega) (by omega),by omega⟩
theorem hash_eq (S:Szs L R C){P:Program}{w:World}{n m:Nat}(hn:(n:Int)<L*R*C)(hm:(m:Int)<L*R*C)(e:tupleKeyHash (mixKind P w) (iK (sN R C n))=tupleKeyHash (mixKind P w) (iK (sN R C m))):n=m:=by
 obtain⟨k,k1,k2,k3⟩:=hash_sN S hn (P:=P) (w:=w)
 obtain⟨j,j1,j2,j3⟩:=hash_sN S hm (P:=P) (w:=w)
 have e:=hv3_inj k1 j1 (k2.symm.trans (e.trans j2))
 obtain⟨a1,a2,a3,a4,a5,a6⟩:=sN_ins S hn
 obtain⟨b1,b2,b3,b4,b5,b6⟩:=sN_ins S hm
 have:=S.r1
 have:=S.c1
 refine sN_inj S ?_
 unfold sN
 rw[show(n:Int)/C/R=(m:Int)/C/R by omega,show(n:Int)/C%R=(m:Int)/C%R by omega,show(n:Int)%C=(m:Int)%C by omega]
theorem nd_map {α β:Type}{f:α→β}:∀{xs:List α},xs.Nodup→(∀a∈xs,∀b∈xs,f a=f b→a=b)→(xs.map f).Nodup
 |[],_,_=>List.nodup_nil
 |x::xs,nd,h=>by
  rw[List.nodup_cons] at nd
  rw[List.map_cons,List.nodup_cons]
  refine⟨fun z=>?_,nd_map nd.2 fun a ha b hb=>h a (List.mem_cons_of_mem _ ha) b (List.mem_cons_of_mem _ hb)⟩
  obtain⟨y,hy,e⟩:=List.mem_map.mp z
  exact nd.1 ((h y (List.mem_cons_of_mem _ hy) x List.mem_cons_self e)▸hy)
theorem hash_list {P:Program}{w:World}(g:List Key→Int):∀ps:List (Nat×V),(enc R C ps).map (fun p=>g p.1)=(ps.map (·.1)).map fun n=>g (iK (sN R C n))
 |[]=>rfl
 |p::r=>by
  have:=hash_list (P:=P) (w:=w) g r
  unfold enc at this⊢
  rw[List.map_cons,List.map_cons,List.map_cons,List.map_cons,this]
theorem hash_tb (S:Szs L R C){M:Nat}(hM:(M:Int)=L*R*C){ps:List (Nat×V)}(h:Tb M ps){P:Program}{w:World}:HashNd P w (enc R C ps):=by
 have key:=hash_list (P:=P) (w:=w) (R:=R) (C:=C) (tupleKeyHash (mixKind P w)) ps
 unfold HashNd
 rw[key]
 refine nd_map h.nd fun n hn m hm e=>?_
 obtain⟨p,hp,rfl⟩:=List.mem_map.mp hn
 obtain⟨q,hq,rfl⟩:=List.mem_map.mp hm
 have l1:=h.lt p hp
 have l2:=h.lt q hq
 exact hash_eq S (by omega) (by omega) e
theorem enc_nd (S:Szs L R C){M:Nat}{ps:List (Nat×V)}(h:Tb M ps):((enc R C ps).map (·.1)).Nodup:=by
 unfold enc
 rw[List.map_map]
 exact List.pairwise_map.mpr ((List.pairwise_map.mp h.nd).imp fun ne e=>ne (sN_inj S (iK_inj e)))
theorem enc_keys {ps:List (Nat×V)}:(enc R C ps).map (·.1)=((ps.map (·.1)).map (sN R C)).map fun c=>c.map Sum.inl:=by
 unfold enc
 rw[List.map_map,List.map_map,List.map_map];rfl
theorem enc_len {ps:List (Nat×V)}:(enc R C ps).length=ps.length:=by unfold enc;rw[List.length_map]
end
theorem same_at {H0 H':Hp}{D:Addr}{y:HO}(s:Same H0 H')(nD:H0 D=none):Same H0 (upd H' D y):=fun b u e=>by
 rw[upd_ne (ne_of_none e nD)];exact s _ _ e
section
variable {tc:TT} {t u:TS} {te ta tb td ty:TE} {D:Ends} {σ:St} {H:Hp} {a d:Addr} {y v:V} {o:Option V} {K:PySem.W.Frag}
theorem ev_dnotin (ha:Ev ty σ H y)(hb:Ev td σ H (.ref a))(g:DGet H a y o):Ev (tDNotIn ty td) σ H (.bl (!o.isSome)):=fun _ q=>ha _ (hb _ ⟨a,o,rfl,g,q⟩)
theorem et_of {b c:Bool}(h:EvT tc σ H b)(e:b=c):EvT tc σ H c:=e▸h
theorem ev_of {c:V}(h:Ev te σ H v)(e:v=c):Ev te σ H c:=e▸h
theorem rd_dput {tv:TE}{H4:Hp}(hv:Ev tv σ H v)(hd:Ev td σ H (.ref a))(hy:Ev ty σ H y)(p:DPut H a y v H4)(q:D.nx σ H4):sDPut td ty tv D σ H:=hv _ (hd _ (hy _ ⟨a,H4,rfl,p,q⟩))
theorem te_tup {tl:TA}{vs:List V}{Q:VK}(h:EvA tl σ H vs)(hz:vs.length≤sizeLine)(q:∀p,H p=none→Q (.ref p) (upd H p (.tup vs))):tTup tl σ H Q:=h _ ⟨hz,q⟩
theorem te_lst {tl:TA}{vs:List V}{Q:VK}(h:EvA tl σ H vs)(hz:vs.length≤sizeLine)(q:∀p,H p=none→Q (.ref p) (upd H p (.lst vs))):tLst tl σ H Q:=h _ ⟨hz,q⟩
theorem te_cal {sp:Sp}{tl:TA}{vs:List V}{Q:VK}(h:EvA tl σ H vs)(q:sp vs H Q E0):tCall sp [] E0 tl σ H Q:=h _ (by rw[List.append_nil];exact q)
theorem ev_getT {kvs:List (List Key×V)}{tz:TE}{z:V}(h1:Ev td σ H (.ref d))(h2:Ev ty σ H y)(h3:Ev tz σ H z)(hd:H d=some (.dT kvs))(g:DGet H d y o):Ev (tBM K "dict" rGetT td (tCons ty (tCons tz tNil))) σ H (o.getD z):=
 fun _ q=>h1 _ ⟨.inr (.inr (.inl ⟨rfl,.inr ⟨_,hd⟩⟩)),h2 _ (h3 _ ⟨_,_,_,_,rfl,rfl,g,q⟩)⟩
end
theorem tups_app {H:Hp}:∀{as bs:List Addr} {cs ds:List T3},Tups H as cs→Tups H bs ds→Tups H (as++bs) (cs++ds)
 |_,_,_,_,.nil,t=>t
 |_,_,_,_,.cons h s,t=> .cons h (tups_app s t)
theorem tups_drop {H:Hp}:∀{as:List Addr} {cs:List T3},Tups H as cs→∀m,Tups H (as.drop m) (cs.drop m)
 |_,_,.nil,m=>by rw[List.drop_nil,List.drop_nil];exact .nil
 |_,_,.cons h s,0=> .cons h s
 |_,_,.cons h s,m+1=>tups_drop s m
theorem tups_take {H:Hp}:∀{as:List Addr} {cs:List T3},Tups H as cs→∀m,Tups H (as.take m) (cs.take m)
 |_,_,.nil,m=>by rw[List.take_nil,List.take_nil];exact .nil
 |_,_,.cons h s,0=> .nil
 |_,_,.cons h s,m+1=> .cons h (tups_take s m)
theorem sq_rng1 {ta:TA}{j:Int}{g:TG}{tb u:TS}{D:Ends}{σ:St}{H:Hp}(h:EvA ta σ H [.int j])(h1: -(2^62)≤j)(h2:j<2^62)(q:tFor (fun _ H R=>R (Itr 0 j.toNat) H) g tb {D with nx:=u D} σ H):tSeq (tFor (iRng1 ta) g tb) u D σ H:=h _ ⟨j,rfl,h1,h2,q⟩
theorem rd_rng1 {ta:TA}{j:Int}{g:TG}{tb:TS}{D:Ends}{σ:St}{H:Hp}(h:EvA ta σ H [.int j])(h1: -(2^62)≤j)(h2:j<2^62)(q:tFor (fun _ H R=>R (Itr 0 j.toNat) H) g tb D σ H):tFor (iRng1 ta) g tb D σ H:=h _ ⟨j,rfl,h1,h2,q⟩
theorem sq_rng2 {ta:TA}{i j:Int}{g:TG}{tb u:TS}{D:Ends}{σ:St}{H:Hp}(h:EvA ta σ H [.int i,.int j])(h1: -(2^62)≤i∧i<2^62∧ -(2^62)≤j∧j<2^62)(q:tFor (fun _ H R=>R (Itr i (j - i).toNat) H) g tb {D with nx:=u D} σ H):tSeq (tFor (iRng2 ta) g tb) u D σ H:=h _ ⟨i,j,rfl,h1,q⟩
theorem rd_forC {K:PySem.W.Frag}{sp:Sp}{tl:TA}{vs:List V}{g:TG}{tb:TS}{D:Ends}{σ:St}{H:Hp}(h:EvA tl σ H vs)(q:sp vs H (fun x H1=>∃a,x=.ref a∧(∃xs,SqL K H1 a xs)∧tFor (fun _ H R=>R (Itl K a) H) g tb D σ H1) E0):tFor (iList K (tCall sp [] E0 tl)) g tb D σ H:=h _ (by rw[List.append_nil];exact q)
theorem ev_cal {sp:Sp}{tl:TA}{vs:List V}{v:V}{σ:St}{H:Hp}(h:EvA tl σ H vs)(q:∀Q:VK,Q v H→sp vs H Q E0):Ev (tCall sp [] E0 tl) σ H v:=fun Q z=>h _ (by rw[List.append_nil];exact q Q z)
theorem te_op {r:R2}{ta tb:TE}{σ:St}{H:Hp}{Q:VK}(h:ta σ H fun x H1=>tb σ H1 fun y H2=>r x y H2 Q):tOp r ta tb σ H Q:=h
theorem rd_asg0 {te:TE}{n:Nat}{D:Ends}{σ:St}{H:Hp}(q:te σ H fun v H1=>D.nx (σ.set n (some v)) H1):tAsg te (gName n) D σ H:=q
def Sb (l:Addr) (H H':Hp):Prop:=∀b o,b≠l→H b=some o→H' b=some o
theorem Sb.refl (l:Addr)(H:Hp):Sb l H H:=fun _ _ _ h=>h
theorem Sb.trans {l:Addr}{H H1 H2:Hp}(a:Sb l H H1)(b:Sb l H1 H2):Sb l H H2:=fun c o n h=>b c o n (a c o n h)
theorem Sb.of {l:Addr}{H H':Hp}(s:Same H H'):Sb l H H':=fun b o _ h=>s b o h
theorem Sb.set {l:Addr}{H H':Hp}{y:HO}(s:Sb l H H'):Sb l H (upd H' l y):=fun b o n h=>by rw[upd_ne n];exact s b o n h
theorem int_at {xs:List Int}{i:Nat}{x:V}(h:(xs.map V.int)[i]?=some x):∃j,x=.int j∧xs[i]?=some j:=by
 rw[List.getElem?_map] at h
 cases e:xs[i]? with
 |none=>rw[e] at h;cases h
 |some j=>rw[e] at h;exact⟨j,(Option.some.inj h).symm,rfl⟩
theorem take_one {α:Type}{xs:List α}{i:Nat}{x:α}(h:xs[i]?=some x):xs.take (i+1)=xs.take i++[x]:=by rw[List.take_succ,h];rfl
theorem pr_app {α β:Type}{F:α→β→Prop}:∀{as bs:List α} {cs ds:List β},Paired F as cs→Paired F bs ds→Paired F (as++bs) (cs++ds)
 |_,_,_,_,.nil,t=>t
 |_,_,_,_,.cons h s,t=> .cons h (pr_app s t)
theorem rd_ifof {tc:TT}{t u:TS}{D:Ends}{σ:St}{H:Hp}(q:tc σ H fun b H1=>if b=true then t D σ H1 else u D σ H1):tIfS tc t u D σ H:=q
theorem te_and {t u:TT}{σ:St}{H:Hp}{a:Bool}{Q:Bool→Hp→Prop}(h:EvT t σ H a)(h1:a=true→u σ H Q)(h2:a=false→Q false H):tAnd t u σ H Q:=by
 refine h _ ?_
 cases a with
 |true=>exact h1 rfl
 |false=>exact h2 rfl
theorem te_or {t u:TT}{σ:St}{H:Hp}{a:Bool}{Q:Bool→Hp→Prop}(h:EvT t σ H a)(e:a=false)(q:u σ H Q):tOr t u σ H Q:=by
 subst e
 exact h _ q
theorem frz_back {H:Hp}{e:Addr}{o:Obj}{u:HO}(he:H e=some u){H2:Hp}(s:Same (upd H e (.frz o u)) H2):Same H (upd H2 e u):=fun b w eb=>by
 by_cases hb:b=e
 ·subst hb;rw[he] at eb;cases eb;exact upd_same
 ·rw[upd_ne hb];exact s _ _ (by rw[upd_ne hb];exact eb)
theorem depth_row {cs:List T3}:(PyData.list (cs.map fun c=>PyData.tuple (c.map PyData.int))).depth≤60:=by
 have:PyData.depthAll (cs.map fun c=>PyData.tuple (c.map PyData.int))≤1:=depthAll_le fun d hd=>by
  obtain⟨c,_,rfl⟩:=List.mem_map.mp hd
  exact depth_tints c
 simp only[PyData.depth]
 omega
theorem if_T {t:TT}{ta tb:TE}{σ:St}{H:Hp}{Q:VK}(h:EvT t σ H true)(q:ta σ H Q):tIf t ta tb σ H Q:=h _ (iteT q)
theorem if_F {t:TT}{ta tb:TE}{σ:St}{H:Hp}{Q:VK}(h:EvT t σ H false)(q:tb σ H Q):tIf t ta tb σ H Q:=h _ (iteF q)
theorem same_thaw {H:Hp}{d:Addr}{o:Obj}{u:HO}(e:H d=some u):Same H (upd (upd H d (.frz o u)) d u):=fun b v z=>by
 by_cases hb:b=d
 ·subst hb;rw[upd_same,←e,z]
 ·rw[upd_ne hb,upd_ne hb];exact z
theorem et_orF {t1 t2:TT}{b:Bool}{σ:St}{H:Hp}(h:EvT t1 σ H false)(h2:EvT t2 σ H b):EvT (tOr t1 t2) σ H b:=fun Q q=>h _ (iteF (h2 _ q))
theorem et_notF {tc:TT}{σ:St}{H:Hp}(h:EvT tc σ H true):EvT (tNot tc) σ H false:=fun _ q=>h _ q
theorem ev_fldT {ta:TE}{K:PySem.W.Frag}{σ:St}{H:Hp}{p C dx:Addr}{fs:List (Str×V)}{f:Str}{v:V}(h:Ev ta σ H (.ref p))(e:H p=some (.ins C dx fs))(c:Cls K C)(n:NoAttr K C f)(l:fs.lookup f=some v):Ev (tFld K ta f) σ H v:=fun _ q=>h _ ⟨p,C,dx,fs,v,rfl,e,c,n,l,q⟩
theorem same_make {H:Hp}{p dx C:Addr}(np:H p=none)(ndx:H dx=none):Same H (upd (upd H dx (.own p)) p (.ins C dx [])):=fun b o e=>by
 rw[upd_ne (ne_of_none e np),upd_ne (ne_of_none e ndx)];exact e
theorem at_ref {as:List Addr}{i:Nat}{x:V}(h:(as.map V.ref)[i]?=some x):∃a,as[i]?=some a∧x=.ref a:=by
 rw[List.getElem?_map] at h
 obtain⟨a,e,z⟩:=Option.map_eq_some_iff.mp h
 exact⟨a,e,z.symm⟩
theorem prs_app {H:Hp}{as bs:List Addr}{cs ds:List (List Key×V)}(h:Prs H as cs)(g:Prs H bs ds):Prs H (as++bs) (cs++ds):=by
 induction h with
 |nil=>exact g
 |cons r _ ih=>exact .cons r ih
theorem Prs.mono {H H':Hp}{as:List Addr}{cs:List (List Key×V)}(h:Prs H as cs)(s:∀b xs,H b=some (.tup xs)→H' b=some (.tup xs)):Prs H' as cs:=Paired.mapP h fun a c ⟨b,e1,e2⟩=>⟨b,s _ _ e1,s _ _ e2⟩
theorem ev_din {ty td:TE}{σ:St}{H:Hp}{a:Addr}{y:V}{o:Option V}(ha:Ev ty σ H y)(hb:Ev td σ H (.ref a))(g:DGet H a y o):Ev (tDIn ty td) σ H (.bl o.isSome):=fun _ q=>ha _ (hb _ ⟨a,o,rfl,g,q⟩)
def ButP (H H':Hp) (p:Addr):Prop:=∀b o,b≠p→H b=some o→H' b=some o
theorem ButP.same {H H1 H2:Hp}{p:Addr}(s:Same H H1)(n:H p=none)(b:ButP H1 H2 p):Same H H2:=fun a o e=>b a o (ne_of_none e n) (s a o e)
theorem ButP.st {H H1 H2:Hp}{p:Addr}(b:ButP H H1 p)(s:Same H1 H2):ButP H H2 p:=fun a o n e=>s _ _ (b a o n e)
theorem ButP.up {H H1:Hp}{p:Addr}{o:HO}(b:ButP H H1 p):ButP H (upd H1 p o) p:=fun a u n e=>by rw[upd_ne n];exact b a u n e
theorem ButP.of {H H1:Hp}{p:Addr}(s:Same H H1):ButP H H1 p:=fun a o _ e=>s _ _ e
theorem tups_at {H:Hp}{as:List Addr}{cs:List T3}(h:Tups H as cs):∀{i:Nat} {a:Addr},as[i]?=some a→∃c,cs[i]?=some c∧H a=some (.tup (c.map V.int)):=by
 induction h with
 |nil=>intro i a e;simp at e
 |cons r _ ih=>
  intro i a e
  cases i with
  |zero=>simp at e;subst e;exact⟨_,by simp,r⟩
  |succ i=>simp at e;obtain⟨p,h1,h2⟩:=ih e;exact⟨p,by simpa using h1,h2⟩
theorem rd_te {te:TE}{D:Ends}{σ:St}{H:Hp}(h:te σ H D.rt):tRet te D σ H:=h
theorem fresh_of {H H':Hp}{t:Addr}(s:Same H H')(n:H' t=none):H t=none:=by
 cases e:H t with
 |none=>rfl
 |some o=>rw[s _ _ e] at n;cases n
section
variable {K:PySem.W.Frag} {σ σ0:St} {H H1:Hp} {D a:Addr} {g:TG} {tt:TT} {te t0:TE} {ta:TA} {n:Nat} {ix:List Nat} {as:List Addr} {cs:List T3}
theorem keep_lst {H':Hp}{zs:List V}{t:Addr}{o:HO}{y:List V}(hD:H' D=some (.lst zs))(nt:H' t=none):∀b xs,H' b=some (.tup xs)→upd (upd H' t o) D (.lst y) b=some (.tup xs):=fun b xs e=>by
 rw[upd_ne (ne_of e hD (fun z=>nomatch z)),upd_ne (ne_of_none e nt)];exact e
theorem keep_lst0 {H':Hp}{zs:List V}{y:List V}(hD:H' D=some (.lst zs)):∀b xs,H' b=some (.tup xs)→upd H' D (.lst y) b=some (.tup xs):=fun b xs e=>by
 rw[upd_ne (ne_of e hD (fun z=>nomatch z))];exact e
theorem tups_mono {H H':Hp}{as:List Addr}{cs:List T3}(h:Tups H as cs)(s:∀b xs,H b=some (.tup xs)→H' b=some (.tup xs)):Tups H' as cs:=Paired.mapP h fun a c e=>s _ _ e
theorem lc_pick {Q:Hp→Prop}(f:T3→Bool)(rest:List (Option V))(nD:H1 D=none)(ha:SqL K H1 a (as.map V.ref))(hm:∀H',Same H1 H'→SqL K H' a (as.map V.ref))(ht:Tups H1 as cs)(hz:as.length≤1000)
  (hc:∀b c H',c∈cs→H1 b=some (.tup (c.map V.int))→Same H1 H'→EvT tt (some (.ref b)::rest) H' (f c))
  (q:∀H' bs,Same H1 H'→H' D=some (.lst (bs.map V.ref))→Tups H' bs (cs.filter f)→Q H'):lcW (none::rest) (gName 0) tt (tVar 0) (Itl K a) H1 D Q:=by
 have len:as.length=cs.length:=Paired.length ht
 have hsz:sizeLine=2^24:=rfl
 refine lc_listG (K:=K) (xs:=as.map V.ref) (fun i τ H'=>∃(x0:Option V) (bs:List Addr),τ=x0::rest∧Same H1 H'∧H' D=some (.lst (bs.map V.ref))∧Tups H' bs ((cs.take i).filter f)∧bs.length≤i) ⟨none,[],rfl,(Same.refl H1).upd nD,upd_same,.nil,Nat.le_refl _⟩ (fun i τ H' _ ⟨_,_,_,s,_⟩=>hm _ s) ?_ ?_
 ·rintro i x τ H' hx ⟨x0,bs,rfl,s,hD,hbs,hl⟩
  obtain⟨b,hb,rfl⟩:=at_ref hx
  obtain⟨c,hc',e⟩:=tups_at ht hb
  have hi:i<as.length:=(List.getElem?_eq_some_iff.mp hb).1
  have ev:=hc b c H' (List.mem_of_getElem? hc') e s
  refine gn (ev _ ?_)
  cases hf:f c with
  |true=>
   refine iteT ?_
   refine⟨_,rfl,bs.map V.ref,hD,by rw[List.length_map];omega,_,bs++[b],rfl,same_at s nD,by rw[upd_same,List.map_append];rfl,?_,by rw[List.length_append];show bs.length+1≤_;omega⟩
   rw[take_one hc',List.filter_append,List.filter_cons_of_pos hf]
   exact tups_app (tups_mono hbs (keep_lst0 hD)) (.cons (keep_lst0 hD _ _ (s _ _ e)) .nil)
  |false=>
   refine iteF ⟨_,bs,rfl,s,hD,?_,by omega⟩
   rw[take_one hc',List.filter_append,List.filter_cons_of_neg (by rw[hf];decide),List.filter_nil,List.append_nil]
   exact hbs
 ·rintro τ H' ⟨x0,bs,rfl,s,hD,hbs,hl⟩
  rw[List.length_map,len,List.take_length] at hbs
  exact q H' bs s hD hbs
def PrC (H:Hp) (q:Addr) (x:T3×Int):Prop:=∃b,H q=some (.tup [.ref b,.int x.2])∧H b=some (.tup (x.1.map V.int))
theorem prc_mono {H H':Hp}{qs:List Addr}{xs:List (T3×Int)}(h:Paired (PrC H) qs xs)(s:∀b ys,H b=some (.tup ys)→H' b=some (.tup ys)):Paired (PrC H') qs xs:=Paired.mapP h fun _ _ ⟨b,e1,e2⟩=>⟨b,s _ _ e1,s _ _ e2⟩
theorem lc_pickP {tv:TE}{Q:Hp→Prop}(f:T3→Bool)(v:T3→Int)(rest:List (Option V))(nD:H1 D=none)(hm:∀H',Same H1 H'→SqL K H' a (as.map V.ref))(ht:Tups H1 as cs)(hz:as.length≤1000)
  (hc:∀b c H',c∈cs→H1 b=some (.tup (c.map V.int))→Same H1 H'→EvT tt (some (.ref b)::rest) H' (f c)∧(f c=true→Ev tv (some (.ref b)::rest) H' (.int (v c))))
  (q:∀H' bs,Same H1 H'→H' D=some (.lst (bs.map V.ref))→Paired (PrC H') bs ((cs.filter f).map fun c=>(c,v c))→Q H'):lcW (none::rest) (gName 0) tt (tTup (tCons (tVar 0) (tCons tv tNil))) (Itl K a) H1 D Q:=by
 have len:as.length=cs.length:=Paired.length ht
 have hsz:sizeLine=2^24:=rfl
 refine lc_listG (K:=K) (xs:=as.map V.ref) (fun i τ H'=>∃(x0:Option V) (bs:List Addr),τ=x0::rest∧Same H1 H'∧H' D=some (.lst (bs.map V.ref))∧Paired (PrC H') bs (((cs.take i).filter f).map fun c=>(c,v c))∧bs.length≤i) ⟨none,[],rfl,(Same.refl H1).upd nD,upd_same,.nil,Nat.le_refl _⟩ (fun i τ H' _ ⟨_,_,_,s,_⟩=>hm _ s) ?_ ?_
 ·rintro i x τ H' hx ⟨x0,bs,rfl,s,hD,hbs,hl⟩
  obtain⟨b,hb,rfl⟩:=at_ref hx
  obtain⟨c,hc',e⟩:=tups_at ht hb
  have hi:i<as.length:=(List.getElem?_eq_some_iff.mp hb).1
  obtain⟨ev,ev2⟩:=hc b c H' (List.mem_of_getElem? hc') e s
  refine gn (ev _ ?_)
  cases hf:f c with
  |true=>
   refine iteT ?_
   refine te_tup (vs:=[.ref b,.int (v c)]) (ea_cons (ev_var rfl) (ea_cons (ev2 hf) ea_nil)) (by show 2≤sizeLine;decide) fun t nt=>?_
   have ntD:t≠D:=Ne.symm (ne_of_none hD nt)
   refine⟨bs.map V.ref,by rw[upd_ne (Ne.symm ntD)];exact hD,by rw[List.length_map];omega,_,bs++[t],rfl,same_at (s.upd nt) nD,by rw[upd_same,List.map_append];rfl,?_,by rw[List.length_append];show bs.length+1≤_;omega⟩
   rw[take_one hc',List.filter_append,List.filter_cons_of_pos hf,List.map_append]
   exact pr_app (prc_mono hbs (keep_lst hD nt)) (.cons ⟨b,by rw[upd_ne ntD,upd_same],keep_lst hD nt _ _ (s _ _ e)⟩ .nil)
  |false=>
   refine iteF ⟨_,bs,rfl,s,hD,?_,by omega⟩
   rw[take_one hc',List.filter_append,List.filter_cons_of_neg (by rw[hf];decide),List.filter_nil,List.append_nil]
   exact hbs
 ·rintro τ H' ⟨x0,bs,rfl,s,hD,hbs,hl⟩
  rw[List.length_map,len,List.take_length] at hbs
  exact q H' bs s hD hbs
end
theorem te_make {C:Addr}{sp:Sp}{dvs:List V}{t:TA}{vs:List V}{σ:St}{H:Hp}{Q:VK}(h:EvA t σ H vs)(q:∀x dx,H x=none→H dx=none→dx≠x→sp (.ref x::(vs++dvs)) (upd (upd H dx (.own x)) x (.ins C dx [])) (fun v H2=>v=.non∧Q (.ref x) H2) E0):tMake C sp dvs E0 t σ H Q:=h _ q
theorem sq_asgQ {te:TE}{n:Nat}{u:TS}{D:Ends}{σ:St}{H:Hp}(P:V→Hp→Prop)(h:∀Q:VK,(∀v H1,P v H1→Q v H1)→te σ H Q)(q:∀v H1,P v H1→u D (σ.set n (some v)) H1):tSeq (tAsg te (gName n)) u D σ H:=h _ q
theorem rd_dputG {td ty tv:TE}{D:Ends}{σ:St}{H:Hp}(h:tv σ H fun v H1=>td σ H1 fun x H2=>ty σ H2 fun y H3=>∃a H4,x=.ref a∧DPut H3 a y v H4∧D.nx σ H4):sDPut td ty tv D σ H:=h
theorem put_val {κ:Type} [DecidableEq κ]{kvs:List (κ×V)}{k:κ}{v:V}{p:κ×V}(h:p∈putK kvs k v):p∈kvs∨p=(k,v):=by
 cases e:valV kvs k with
 |none=>rw[putK_new _ e] at h;exact(List.mem_append.mp h).imp id List.mem_singleton.mp
 |some w=>
  have:(kvs.any fun kv=>decide (kv.1=k))=true:=by rw[valV_any,e];rfl
  unfold putK at h
  rw[if_pos this] at h
  obtain⟨q,hq,rfl⟩:=List.mem_map.mp h
  by_cases z:q.1=k
  ·rw[if_pos z];right;rw[z]
  ·rw[if_neg z];exact .inl hq
theorem eqv_same {K:PySem.W.Frag}{H:Hp}{v:V}{d:PyData}(h:Dp K H v d):(!PyData.eqv d d)=false:=by rw[eqv_refl h.lay];rfl
theorem ev_neS {ta tb:TE}{σ:St}{H:Hp}{x:V}(ha:Ev ta σ H x)(hb:Ev tb σ H x)(s:scal x x=true):Ev (tOp rNe ta tb) σ H (.bl false):=fun Q q=>ha _ (hb _ ⟨s,by rw[decide_eq_true rfl];exact q⟩)
def Bt (ls:List Addr) (H H':Hp):Prop:=∀b o,b∉ls→H b=some o→H' b=some o
theorem Bt.refl (ls:List Addr)(H:Hp):Bt ls H H:=fun _ _ _ h=>h
theorem Bt.same {ls:List Addr}{H H1 H2:Hp}(h:Bt ls H H1)(s:Same H1 H2):Bt ls H H2:=fun b o n e=>s _ _ (h b o n e)
theorem Bt.set {ls:List Addr}{H H':Hp}{l:Addr}{y:HO}(h:Bt ls H H')(m:l∈ls):Bt ls H (upd H' l y):=fun b o n e=>by
 have nb:b≠l:=fun z=>n (by rw[z];exact m)
 rw[upd_ne nb];exact h b o n e
theorem valV_mem {kvs:List (List Key×V)}(nd:(kvs.map (·.1)).Nodup){p:List Key×V}(h:p∈kvs):valV kvs p.1=some p.2:=by
 induction kvs with
 |nil=>cases h
 |cons q r ih=>
  rw[List.map_cons,List.nodup_cons] at nd
  rcases List.mem_cons.mp h with rfl|h
  ·exact valV_pos rfl
  ·rw[valV_neg (fun e=>nd.1 (e▸List.mem_map.mpr ⟨p,h,rfl⟩))]
   exact ih nd.2 h
theorem ta_tup {tl tr:TA}{vs:List V}{σ:St}{H:Hp}{Q:List V→Hp→Prop}(h:EvA tl σ H vs)(hz:vs.length≤sizeLine)(q:∀p,H p=none→tr σ (upd H p (.tup vs)) fun xs H2=>Q (.ref p::xs) H2):tCons (tTup tl) tr σ H Q:=h _ ⟨hz,q⟩
theorem rd_lstA {ta:TA}{D:Ends}{σ:St}{H:Hp}(h:ta σ H fun xs H1=>xs.length≤sizeLine∧∀p,H1 p=none→D.rt (.ref p) (upd H1 p (.lst xs))):tRet (tLst ta) D σ H:=h
theorem mn_if (i j:Int):(if j<i then j else i)=min i j:=by simp only[Int.min_def];split<;>split<;>omega
theorem pair_at {α β:Type}{F:α→β→Prop}{as:List α}{cs:List β}(h:Paired F as cs):∀{i:Nat} {a:α},as[i]?=some a→∃c,cs[i]?=some c∧F a c:=by
 induction h with
 |nil=>intro i a e;simp at e
 |cons r _ ih=>
  intro i a e
  cases i with
  |zero=>simp at e;subst e;exact⟨_,by simp,r⟩
  |succ i=>simp at e;obtain⟨p,h1,h2⟩:=ih e;exact⟨p,by simpa using h1,h2⟩
theorem at_int {cs:List Int}{i:Int}(h0:0≤i)(h1:i<cs.length):∃c,atI (cs.map V.int) i=some (.int c)∧ixN (cs.map V.int).length i=some i.toNat:=by
 obtain⟨n,rfl⟩:=Int.eq_ofNat_of_zero_le h0
 have hi:n<cs.length:=by omega
 refine⟨cs[n],atI_nat ?_,?_⟩
 ·rw[List.getElem?_map,List.getElem?_eq_getElem hi];rfl
 ·unfold ixN
  rw[if_pos h0,if_pos (by rw[List.length_map];exact h1)]
noncomputable def top (i:Nat):Stmt:=PySem.Challenge.pw_wirefloor_k36_cut_papers.main.body.getD i (.Pass ⟨0,0,0,0⟩)
abbrev sInside:Stmt:=top 30
abbrev sCSizes:Stmt:=top 34
abbrev sCPrice:Stmt:=top 35
abbrev sCPrices:Stmt:=top 36
abbrev sCInside:Stmt:=top 37
abbrev sRound:Stmt:=top 38
abbrev sFInit:Stmt:=inClass (top 39) 0
abbrev sIsRock:Stmt:=inClass (top 39) 5
abbrev sIsOpen:Stmt:=inClass (top 39) 7
abbrev sPriced:Stmt:=inClass (top 39) 9
abbrev sSteps:Stmt:=inClass (top 39) 10
abbrev sName:Stmt:=top 16
abbrev sUnlike:Stmt:=top 17
abbrev sTInit:Stmt:=inClass (top 18) 0
abbrev sNInit:Stmt:=inClass (top 19) 0
abbrev sBInit:Stmt:=inClass (top 20) 0
abbrev sInOrd:Stmt:=top 22
abbrev sClear:Stmt:=top 23
abbrev sShut:Stmt:=top 24
abbrev sMany:Stmt:=top 25
abbrev sCLaid:Stmt:=inClass (top 26) 1
abbrev sCInit:Stmt:=inClass (top 28) 0
abbrev sCHolds:Stmt:=inClass (top 28) 1
abbrev sCell:Stmt:=top 41
abbrev sMix:Stmt:=top 42
abbrev sBeside:Stmt:=top 43
abbrev sLanes:Stmt:=top 44
abbrev sPicked:Stmt:=top 45
abbrev sStrewn:Stmt:=top 46
abbrev sPlan:Stmt:=top 47
abbrev sPut:Stmt:=top 48
abbrev sSpoilt:Stmt:=top 49
abbrev sRows:Stmt:=top 50
abbrev sShuts:Stmt:=top 51
abbrev sLThing:Stmt:=top 52
abbrev sLDue:Stmt:=top 53
abbrev slaw:Stmt:=top 54
structure Txt (K:PySem.W.Frag) (mg:Str→Option Value) (cThing cNet cBundle cPaper cCutPaper cFloor cMS:Addr):Prop where
 len_:mg "len" =none
 range_:mg "range" =none
 isinstance_:mg "isinstance" =none
 int_:mg "int" =none
 bool_:mg "bool" =none
 tuple_:mg "tuple" =none
 set_:mg "set" =none
 list_:mg "list" =none
 dict_:mg "dict" =none
 sorted_:mg "sorted" =none
 zip_:mg "zip" =none
 min_:mg "min" =none
 all_:mg "all" =none
 any_:mg "any" =none
 reversed_:mg "reversed" =none
 max_:mg "max" =none
 cl_Thing:Cls K cThing
 mg_Thing:mg "Thing" =some (.ref cThing)
 cl_Net:Cls K cNet
 mg_Net:mg "Net" =some (.ref cNet)
 na_Net_name:NoAttr K cNet "name"
 na_Net_half:NoAttr K cNet "half"
 na_Net_room:NoAttr K cNet "room"
 na_Net_pins:NoAttr K cNet "pins"
 cl_Bundle:Cls K cBundle
 mg_Bundle:mg "Bundle" =some (.ref cBundle)
 na_Bundle_name:NoAttr K cBundle "name"
 na_Bundle_half:NoAttr K cBundle "half"
 na_Bundle_room:NoAttr K cBundle "room"
 na_Bundle_starts:NoAttr K cBundle "starts"
 na_Bundle_goals:NoAttr K cBundle "goals"
 cl_Paper:Cls K cPaper
 mg_Paper:mg "Paper" =some (.ref cPaper)
 cl_CutPaper:Cls K cCutPaper
 mg_CutPaper:mg "CutPaper" =some (.ref cCutPaper)
 na_CutPaper_cut:NoAttr K cCutPaper "cut"
 na_CutPaper_spots:NoAttr K cCutPaper "spots"
 cl_Floor:Cls K cFloor
 mg_Floor:mg "Floor" =some (.ref cFloor)
 na_Floor_sizes:NoAttr K cFloor "sizes"
 na_Floor_prices:NoAttr K cFloor "prices"
 na_Floor_vias:NoAttr K cFloor "vias"
 na_Floor_rocks:NoAttr K cFloor "rocks"
 na_Floor_tolls:NoAttr K cFloor "tolls"
 g_LETTERS:∃u,mg "LETTERS" =some u∧RelV (.str (Str.ofString "abcdefghijklmnopqrstuvwxyz")) u
 g_FIGURES:∃u,mg "FIGURES" =some u∧RelV (.str (Str.ofString "0123456789")) u
 g_MOST_PRICE:∃u,mg "MOST_PRICE" =some u∧RelV (.int 1000000000000) u
 g_MOST_SIGNS:∃u,mg "MOST_SIGNS" =some u∧RelV (.int 12) u
 g_MOST_HALF:∃u,mg "MOST_HALF" =some u∧RelV (.int 2) u
 g_MOST_ROOM:∃u,mg "MOST_ROOM" =some u∧RelV (.int 3) u
 g_MOST_PINS:∃u,mg "MOST_PINS" =some u∧RelV (.int 6) u
 g_MOST_STARTS:∃u,mg "MOST_STARTS" =some u∧RelV (.int 6) u
 g_MOST_GOALS:∃u,mg "MOST_GOALS" =some u∧RelV (.int 12) u
 g_MOST_SIZES:∃u,mg "MOST_SIZES" =some u∧RelV (.ref cMS) u
 t_MOST_SIZES:∀H:Hp,SqT K H cMS [.int 4,.int 16,.int 16]
 bb:PySem.W.kitOne K (.type "bool") (.type "bool")=some true
 nb:PySem.W.kitOne K (.ref cNet) (.ref cBundle)=some false
 b2:PySem.W.kitOne K (.ref cBundle) (.ref cBundle)=some true
 sp:PySem.W.kitOne K (.ref cCutPaper) (.ref cPaper)=some true
 qN:PySem.W.findIn K (.ref cNet) "__class__" =some (some (.builtin "object.__class__"))
 qB:PySem.W.findIn K (.ref cBundle) "__class__" =some (some (.builtin "object.__class__"))
 qS:PySem.W.findIn K (.ref cCutPaper) "__class__" =some (some (.builtin "object.__class__"))
 qg:PySem.W.specialIn K (.builtin "object.__class__") "__get__" =some (some (.builtin "getset_descriptor.__get__"))
 qt:PySem.W.takesIn K (.builtin "object.__class__")=some true
 oN:PySem.W.mroIn K cNet (.type "object")=some true
 oB:PySem.W.mroIn K cBundle (.type "object")=some true
 oS:PySem.W.mroIn K cCutPaper (.type "object")=some true
noncomputable def toll (ts:List (Nat×V)) (n:Nat):Int:=match valV ts n with
 |some (.int i)=>i
 |_=>0
structure Gd where
 L:Int
 R:Int
 C:Int
 M:Nat
 ps:List T3
 vs:List Int
 rs:List Nat
 ts:List (Nat×V)
def TV (ts:List (Nat×V)):Prop:=∀p∈ts,∃i:Int,p.2=.int i∧0≤i∧i≤1000000000000
def PP (ps:List T3):Prop:=∀c∈ps,∃a b:Int,c=[a,b]∧1≤a∧a≤1000000000000∧1≤b∧b≤1000000000000
structure GdOk (g:Gd):Prop where
 S:Szs g.L g.R g.C
 M:(g.M:Int)=g.L*g.R*g.C
 m:g.M≤48
 pl:(g.ps.length:Int)=g.L
 pp:PP g.ps
 vl:(g.vs.length:Int)=g.L - 1
 vv:∀v∈g.vs,1≤v∧v≤1000000000000
 rl:g.rs.length≤63
 rr:∀n∈g.rs,n<g.M
 tt:Tb g.M g.ts
 tv:TV g.ts
def At3 (H:Hp) (b:Addr) (x y w:Int):Prop:=H b=some (.tup [.int x,.int y,.int w])
def AtL (H:Hp) (l:Addr) (cs:List T3):Prop:=∃as:List Addr,H l=some (.lst (as.map V.ref))∧Tups H as cs
theorem tups_same {H H':Hp}{as:List Addr}{cs:List T3}(h:Tups H as cs)(s:∀b xs,H b=some (.tup xs)→H' b=some (.tup xs)):Tups H' as cs:=Paired.mapP h fun a c e=>s _ _ e
theorem AtL.same {H H':Hp}{l:Addr}{cs:List T3}(h:AtL H l cs)(s:Same H H'):AtL H' l cs:=by
 obtain⟨as,h1,h2⟩:=h
 exact⟨as,s _ _ h1,tups_same h2 fun b xs e=>s _ _ e⟩
noncomputable def fF (z pr vi rd td:Addr):List (Str×V):=[("sizes",.ref z),("prices",.ref pr),("vias",.ref vi),("rocks",.ref rd),("tolls",.ref td)]
section
variable {z pr vi rd td:Addr}
theorem lk1:(fF z pr vi rd td).lookup ("sizes" :Str)=some (.ref z):=by kernel_rfl
theorem lk2:(fF z pr vi rd td).lookup ("prices" :Str)=some (.ref pr):=by kernel_rfl
theorem lk3:(fF z pr vi rd td).lookup ("vias" :Str)=some (.ref vi):=by kernel_rfl
theorem lk4:(fF z pr vi rd td).lookup ("rocks" :Str)=some (.ref rd):=by kernel_rfl
theorem lk5:(fF z pr vi rd td).lookup ("tolls" :Str)=some (.ref td):=by kernel_rfl
theorem ln6:(fF z pr vi rd td).lookup ("is_rock" :Str)=none:=by kernel_rfl
theorem ln8:(fF z pr vi rd td).lookup ("steps" :Str)=none:=by kernel_rfl
theorem ln9:(fF z pr vi rd td).lookup ("is_open" :Str)=none:=by kernel_rfl
theorem ln10:(fF z pr vi rd td).lookup ("priced" :Str)=none:=by kernel_rfl
theorem pf1 {v:V}:putF "sizes" v []=[(("sizes" :Str),v)]:=by kernel_rfl
theorem pf2 {u v:V}:putF "prices" v [("sizes",u)]=[(("sizes" :Str),u),("prices",v)]:=by kernel_rfl
theorem pf3 {u v w:V}:putF "vias" w [("sizes",u),("prices",v)]=[(("sizes" :Str),u),("prices",v),("vias",w)]:=by kernel_rfl
theorem pf4 {u v w x:V}:putF "rocks" x [("sizes",u),("prices",v),("vias",w)]=[(("sizes" :Str),u),("prices",v),("vias",w),("rocks",x)]:=by kernel_rfl
theorem pf5 {u v w x y:V}:putF "tolls" y [("sizes",u),("prices",v),("vias",w),("rocks",x)]=[(("sizes" :Str),u),("prices",v),("vias",w),("rocks",x),("tolls",y)]:=by kernel_rfl
end
structure FA (cF:Addr) (H:Hp) (p pr vi rd td:Addr) (g:Gd):Prop where
 ex:∃dx z,H p=some (.ins cF dx (fF z pr vi rd td))∧At3 H z g.L g.R g.C
 pr:AtL H pr g.ps
 vi:H vi=some (.lst (g.vs.map V.int))
 rd:H rd=some (.dT (enc g.R g.C (rk g.rs)))
 td:H td=some (.dT (enc g.R g.C g.ts))
theorem FA.same {cF:Addr}{H H':Hp}{p pr vi rd td:Addr}{g:Gd}(h:FA cF H p pr vi rd td g)(s:Same H H'):FA cF H' p pr vi rd td g:=by
 obtain⟨dx,z,h1,h2⟩:=h.ex
 exact⟨⟨dx,z,s _ _ h1,s _ _ h2⟩,h.pr.same s,s _ _ h.vi,s _ _ h.rd,s _ _ h.td⟩
noncomputable def tollC (R C:Int) (ts:List (Nat×V)) (c:T3):Int:=match valV (enc R C ts) (iK c) with
 |some (.int i)=>i
 |_=>0
theorem mem_sN {L R C:Int}(S:Szs L R C){rs:List Nat}{n:Nat}:sN R C n∈rs.map (sN R C)↔n∈rs:=by
 constructor
 ·intro h
  obtain⟨m,hm,e⟩:=List.mem_map.mp h
  exact(sN_inj S e)▸hm
 ·exact fun h=>List.mem_map_of_mem h
def AtP (H:Hp) (l:Addr) (xs:List (T3×Int)):Prop:=∃qs:List Addr,H l=some (.lst (qs.map V.ref))∧Paired (PrC H) qs xs
def Bd (x y w:Int):Prop:=(-10000000000000≤x∧x≤10000000000000)∧(-10000000000000≤y∧y≤10000000000000)∧(-10000000000000≤w∧w≤10000000000000)
def spInside:Sp:=fun vs H Q _=>∃(a b:Addr) (L R C l r c:Int),vs=[.ref a,.ref b]∧At3 H a L R C∧At3 H b l r c∧Q (.bl (decide (Ins L R C l r c))) H
def spCSizes:Sp:=fun vs H Q _=>∃(z pr vi:Addr) (L R C:Int) (xs ys:List V),vs=[.ref z,.ref pr,.ref vi]∧At3 H z L R C∧Szs L R C∧H pr=some (.lst xs)∧(xs.length:Int)=L∧H vi=some (.lst ys)∧(ys.length:Int)=L - 1∧∀H',Same H H'→Q .non H'
def spCPrice:Sp:=fun vs H Q _=>∃x m:Int,vs=[.int x,.int m]∧m≤x∧x≤1000000000000∧Q .non H
def spCPrices:Sp:=fun vs H Q _=>∃(pr vi d:Addr) (ps:List T3) (ws:List Int) (kvs:List (List Key×V)),vs=[.ref pr,.ref vi,.ref d]∧AtL H pr ps∧PP ps∧H vi=some (.lst (ws.map V.int))∧(∀v∈ws,1≤v∧v≤1000000000000)∧H d=some (.dT kvs)∧
 (∀p∈kvs,∃i:Int,p.2=.int i∧0≤i∧i≤1000000000000)∧∀H',Same H H'→Q .non H'
def ArgR (H:Hp) (r:V) (g:Gd):Prop:=(r=.non∧g.rs=[])∨∃ro,r=.ref ro∧AtL H ro (g.rs.map (sN g.R g.C))
def ArgT (H:Hp) (t:V) (g:Gd):Prop:=(t=.non∧g.ts=[])∨∃td,t=.ref td∧H td=some (.dT (enc g.R g.C g.ts))
def spFInit (cF:Addr):Sp:=fun vs H Q _=>∃(p dx z pr vi:Addr) (r t:V) (g:Gd),vs=[.ref p,.ref z,.ref pr,.ref vi,r,t]∧H p=some (.ins cF dx [])∧GdOk g∧At3 H z g.L g.R g.C∧AtL H pr g.ps∧H vi=some (.lst (g.vs.map V.int))∧ArgR H r g∧ArgT H t g∧
 ∀(H':Hp) (pr' vi' rd' td':Addr),ButP H H' p→H pr'=none→H vi'=none→H rd'=none→H td'=none→FA cF H' p pr' vi' rd' td' g→Q .non H'
def spCInside:Sp:=fun vs H Q _=>∃(a b:Addr) (L R C l r c:Int),vs=[.ref a,.ref b]∧At3 H a L R C∧At3 H b l r c∧Ins L R C l r c∧Q .non H
noncomputable def rnd (x y w:Int):List T3:=[[x - 1,y,w],[x,y - 1,w],[x,y,w - 1],[x,y,w+1],[x,y+1,w],[x+1,y,w]]
noncomputable def insC (g:Gd) (c:T3):Bool:=decide (Ins g.L g.R g.C (c.getD 0 0) (c.getD 1 0) (c.getD 2 0))
def rkC (g:Gd) (c:T3):Bool:=decide (c∈g.rs.map (sN g.R g.C))
theorem val_encC {R C:Int}(ps:List (Nat×V))(c:T3):(valV (enc R C ps) (iK c)).isSome=decide (c∈(ps.map (·.1)).map (sN R C)):=by
 rw[Bool.eq_iff_iff,val_key,enc_keys,decide_eq_true_eq]
 constructor
 ·intro h
  obtain⟨d,hd,e⟩:=List.mem_map.mp h
  exact(iK_inj (show iK d=iK c from e))▸hd
 ·intro h
  exact List.mem_map.mpr ⟨c,h,rfl⟩
theorem rk_keys {n:Nat}{rs:List Nat}:n∈(rk rs).map (·.1)↔n∈rs:=by
 rw[←val_key,rk_val,decide_eq_true_eq]
theorem rk_in {L R C:Int}(_:Szs L R C)(rs:List Nat)(c:T3):(valV (enc R C (rk rs)) (iK c)).isSome=decide (c∈rs.map (sN R C)):=by
 rw[val_encC]
 refine decide_eq_decide.mpr ⟨fun h=>?_,fun h=>?_⟩
 ·obtain⟨n,hn,e⟩:=List.mem_map.mp h
  exact List.mem_map.mpr ⟨n,rk_keys.mp hn,e⟩
 ·obtain⟨n,hn,e⟩:=List.mem_map.mp h
  exact List.mem_map.mpr ⟨n,rk_keys.mpr hn,e⟩
theorem toll_getC {R C:Int}{ts:List (Nat×V)}(h:TV ts)(c:T3):(valV (enc R C ts) (iK c)).getD (.int 0)=.int (tollC R C ts c):=by
 unfold tollC
 cases e:valV (enc R C ts) (iK c) with
 |none=>rfl
 |some v=>
  obtain⟨p,hp,e2⟩:=List.mem_map.mp (val_mem e)
  obtain⟨i,e3,_⟩:=h p hp
  have e4:p.2=v:=congrArg Prod.snd e2
  rw[←e4,e3];rfl
def opn (g:Gd) (c:T3):Bool:=insC g c&&!rkC g c
noncomputable def bare (g:Gd) (c d:T3):Int:=if c.getD 0 0≠d.getD 0 0 then g.vs.getD (min (c.getD 0 0) (d.getD 0 0)).toNat 0 else if c.getD 1 0=d.getD 1 0 then (g.ps.getD (c.getD 0 0).toNat []).getD 0 0 else (g.ps.getD (c.getD 0 0).toNat []).getD 1 0
noncomputable def price (g:Gd) (c d:T3):Int:=tollC g.R g.C g.ts c+tollC g.R g.C g.ts d+bare g c d
noncomputable def rndC (c:T3):List T3:=rnd (c.getD 0 0) (c.getD 1 0) (c.getD 2 0)
noncomputable def stepsL (g:Gd) (c:T3):List (T3×Int):=if rkC g c=true then [] else ((rndC c).filter (opn g)).map fun d=>(d,price g c d)
noncomputable def inF (R C:Int) (F:List (Nat×V)) (c:T3):Bool:=(valV (enc R C F) (iK c)).isSome
noncomputable def leadL (g:Gd) (F:List (Nat×V)) (c:T3):List (T3×Int):=(stepsL g c).filter fun x=>inF g.R g.C F x.1
def spRound:Sp:=fun vs H Q _=>∃(b:Addr) (x y w:Int),vs=[.ref b]∧At3 H b x y w∧∀(H':Hp) (l:Addr),Same H H'→H l=none→AtL H' l (rnd x y w)→Q (.ref l) H'
def spIsRock (cF:Addr):Sp:=fun vs H Q _=>∃(p pr vi rd td b:Addr) (g:Gd) (x y w:Int),vs=[.ref p,.ref b]∧FA cF H p pr vi rd td g∧GdOk g∧At3 H b x y w∧Ins g.L g.R g.C x y w∧Q (.bl (rkC g [x,y,w])) H
def spIsOpen (cF:Addr):Sp:=fun vs H Q _=>∃(p pr vi rd td b:Addr) (g:Gd) (x y w:Int),vs=[.ref p,.ref b]∧FA cF H p pr vi rd td g∧GdOk g∧At3 H b x y w∧Q (.bl (opn g [x,y,w])) H
def Beside (x y w x' y' w':Int):Prop:=[x',y',w']∈rnd x y w
def spPriced (cF:Addr):Sp:=fun vs H Q _=>∃(p pr vi rd td a b:Addr) (g:Gd) (x y w x' y' w':Int),vs=[.ref p,.ref a,.ref b]∧FA cF H p pr vi rd td g∧GdOk g∧At3 H a x y w∧At3 H b x' y' w'∧Ins g.L g.R g.C x y w∧Ins g.L g.R g.C x' y' w'∧Beside x y w x' y' w'∧Q (.int (price g [x,y,w] [x',y',w'])) H
def spSteps (cF:Addr):Sp:=fun vs H Q _=>∃(p pr vi rd td b:Addr) (g:Gd) (x y w:Int),vs=[.ref p,.ref b]∧FA cF H p pr vi rd td g∧GdOk g∧At3 H b x y w∧Ins g.L g.R g.C x y w∧∀(H':Hp) (l:Addr),Same H H'→H l=none→AtP H' l (stepsL g [x,y,w])→Q (.ref l) H'
def SpN (R C:Int) (H:Hp) (b:Addr) (n:Nat):Prop:=H b=some (.tup ((sN R C n).map V.int))
def lets:List Nat:=cp (Str.ofString "abcdefghijklmnopqrstuvwxyz")
def figs:List Nat:=cp (Str.ofString "0123456789")
structure NmOk (x:Str):Prop where
 as:x.cps.all (· <128)=true
 lo:1≤x.length
 hi:x.length≤12
 fst:∃c r,cp x=c::r∧c∈lets
 all:∀c∈cp x,c∈lets∨c∈figs
def spName:Sp:=fun vs H Q _=>∃x:Str,vs=[.str x]∧NmOk x∧∀H',Same H H'→Q (.bl true) H'
structure Base (fs:List (Str×V)) (h r:Int):Prop where
 few:fs.length≤10
 half:fs.lookup ("half" :Str)=some (.int h)
 room:fs.lookup ("room" :Str)=some (.int r)
def spTInit (cN cB:Addr):Sp:=fun vs H Q _=>∃(p C dx:Addr) (x:Str) (h r:Int),vs=[.ref p,.str x,.int h,.int r]∧H p=some (.ins C dx [])∧(C=cN∨C=cB)∧NmOk x∧0≤h∧h≤2∧0≤r∧r≤3∧
 ∀H' fs,ButP H H' p→H' p=some (.ins C dx fs)→Base fs h r→fs.length≤3→Q .non H'
theorem len_c {α:Type}{n:Nat}:∀{us:List α},us.length=n+1→∃a r,us=a::r∧r.length=n
 |[],h=>nomatch h
 |a::r,h=>⟨a,r,rfl,Nat.succ.inj h⟩
theorem len_z {α:Type}{us:List α}(h:us.length=0):us=[]:=List.eq_nil_of_length_eq_zero h
theorem bl1 {α:Type}{us:List α}(h:us.length=1):∃a0,us=[a0]:=by
 obtain⟨a0,r0,rfl,h0⟩:=len_c h
 cases len_z h0
 exact⟨a0,rfl⟩
theorem bd1 {K:PySem.W.Frag}{x qual:Str}{st:Stmt}{f:Addr}{fd:FuncData}{p0:Str}(F:Fun K x qual st f fd)(h:∀(kV doc pm:Value) (an:Option Addr) (cdv ct a0:Value),bindArgs (PySem.W.fnOf x qual (defArgs st) (defBody st) (defScope st) .none kV doc pm an cdv ct) ⟨[a0],[]⟩=pure ([p0].zip [a0])):Binds K fd [p0] []:=F.binds fun kV doc pm an cdv ct us hl=>by
 obtain⟨a0,rfl⟩:=bl1 (us:=us) hl
 exact h kV doc pm an cdv ct a0
theorem bl2 {α:Type}{us:List α}(h:us.length=2):∃a0 a1,us=[a0,a1]:=by
 obtain⟨a0,r0,rfl,h0⟩:=len_c h
 obtain⟨a1,r1,rfl,h1⟩:=len_c h0
 cases len_z h1
 exact⟨a0,a1,rfl⟩
theorem bd2 {K:PySem.W.Frag}{x qual:Str}{st:Stmt}{f:Addr}{fd:FuncData}{p0 p1:Str}(F:Fun K x qual st f fd)(h:∀(kV doc pm:Value) (an:Option Addr) (cdv ct a0 a1:Value),bindArgs (PySem.W.fnOf x qual (defArgs st) (defBody st) (defScope st) .none kV doc pm an cdv ct) ⟨[a0,a1],[]⟩=pure ([p0,p1].zip [a0,a1])):Binds K fd [p0,p1] []:=F.binds fun kV doc pm an cdv ct us hl=>by
 obtain⟨a0,a1,rfl⟩:=bl2 (us:=us) hl
 exact h kV doc pm an cdv ct a0 a1
theorem bl3 {α:Type}{us:List α}(h:us.length=3):∃a0 a1 a2,us=[a0,a1,a2]:=by
 obtain⟨a0,r0,rfl,h0⟩:=len_c h
 obtain⟨a1,r1,rfl,h1⟩:=len_c h0
 obtain⟨a2,r2,rfl,h2⟩:=len_c h1
 cases len_z h2
 exact⟨a0,a1,a2,rfl⟩
theorem bd3 {K:PySem.W.Frag}{x qual:Str}{st:Stmt}{f:Addr}{fd:FuncData}{p0 p1 p2:Str}(F:Fun K x qual st f fd)(h:∀(kV doc pm:Value) (an:Option Addr) (cdv ct a0 a1 a2:Value),bindArgs (PySem.W.fnOf x qual (defArgs st) (defBody st) (defScope st) .none kV doc pm an cdv ct) ⟨[a0,a1,a2],[]⟩=pure ([p0,p1,p2].zip [a0,a1,a2])):Binds K fd [p0,p1,p2] []:=F.binds fun kV doc pm an cdv ct us hl=>by
 obtain⟨a0,a1,a2,rfl⟩:=bl3 (us:=us) hl
 exact h kV doc pm an cdv ct a0 a1 a2
theorem bl4 {α:Type}{us:List α}(h:us.length=4):∃a0 a1 a2 a3,us=[a0,a1,a2,a3]:=by
 obtain⟨a0,r0,rfl,h0⟩:=len_c h
 obtain⟨a1,r1,rfl,h1⟩:=len_c h0
 obtain⟨a2,r2,rfl,h2⟩:=len_c h1
 obtain⟨a3,r3,rfl,h3⟩:=len_c h2
 cases len_z h3
 exact⟨a0,a1,a2,a3,rfl⟩
theorem bd4 {K:PySem.W.Frag}{x qual:Str}{st:Stmt}{f:Addr}{fd:FuncData}{p0 p1 p2 p3:Str}(F:Fun K x qual st f fd)(h:∀(kV doc pm:Value) (an:Option Addr) (cdv ct a0 a1 a2 a3:Value),bindArgs (PySem.W.fnOf x qual (defArgs st) (defBody st) (defScope st) .none kV doc pm an cdv ct) ⟨[a0,a1,a2,a3],[]⟩=pure ([p0,p1,p2,p3].zip [a0,a1,a2,a3])):Binds K fd [p0,p1,p2,p3] []:=F.binds fun kV doc pm an cdv ct us hl=>by
 obtain⟨a0,a1,a2,a3,rfl⟩:=bl4 (us:=us) hl
 exact h kV doc pm an cdv ct a0 a1 a2 a3
theorem bl5 {α:Type}{us:List α}(h:us.length=5):∃a0 a1 a2 a3 a4,us=[a0,a1,a2,a3,a4]:=by
 obtain⟨a0,r0,rfl,h0⟩:=len_c h
 obtain⟨a1,r1,rfl,h1⟩:=len_c h0
 obtain⟨a2,r2,rfl,h2⟩:=len_c h1
 obtain⟨a3,r3,rfl,h3⟩:=len_c h2
 obtain⟨a4,r4,rfl,h4⟩:=len_c h3
 cases len_z h4
 exact⟨a0,a1,a2,a3,a4,rfl⟩
theorem bd5 {K:PySem.W.Frag}{x qual:Str}{st:Stmt}{f:Addr}{fd:FuncData}{p0 p1 p2 p3 p4:Str}(F:Fun K x qual st f fd)(h:∀(kV doc pm:Value) (an:Option Addr) (cdv ct a0 a1 a2 a3 a4:Value),bindArgs (PySem.W.fnOf x qual (defArgs st) (defBody st) (defScope st) .none kV doc pm an cdv ct) ⟨[a0,a1,a2,a3,a4],[]⟩=pure ([p0,p1,p2,p3,p4].zip [a0,a1,a2,a3,a4])):Binds K fd [p0,p1,p2,p3,p4] []:=F.binds fun kV doc pm an cdv ct us hl=>by
 obtain⟨a0,a1,a2,a3,a4,rfl⟩:=bl5 (us:=us) hl
 exact h kV doc pm an cdv ct a0 a1 a2 a3 a4
theorem bl6 {α:Type}{us:List α}(h:us.length=6):∃a0 a1 a2 a3 a4 a5,us=[a0,a1,a2,a3,a4,a5]:=by
 obtain⟨a0,r0,rfl,h0⟩:=len_c h
 obtain⟨a1,r1,rfl,h1⟩:=len_c h0
 obtain⟨a2,r2,rfl,h2⟩:=len_c h1
 obtain⟨a3,r3,rfl,h3⟩:=len_c h2
 obtain⟨a4,r4,rfl,h4⟩:=len_c h3
 obtain⟨a5,r5,rfl,h5⟩:=len_c h4
 cases len_z h5
 exact⟨a0,a1,a2,a3,a4,a5,rfl⟩
inductive Thg where
 |net (a:List T3)
 |bun (a b:List T3)
def TpL (H:Hp) (t:Addr) (cs:List T3):Prop:=∃as:List Addr,H t=some (.tup (as.map V.ref))∧Tups H as cs
theorem TpL.same {H H':Hp}{t:Addr}{cs:List T3}(h:TpL H t cs)(s:Same H H'):TpL H' t cs:=by
 obtain⟨as,h1,h2⟩:=h
 exact⟨as,s _ _ h1,tups_same h2 fun b xs e=>s _ _ e⟩
noncomputable def ThAt (cN cB:Addr) (H:Hp) (p:Addr):Thg→Prop
 | .net a=>∃dx fs t,H p=some (.ins cN dx fs)∧fs.lookup ("pins" :Str)=some (.ref t)∧TpL H t a
 | .bun a b=>∃dx fs t u,H p=some (.ins cB dx fs)∧fs.lookup ("starts" :Str)=some (.ref t)∧fs.lookup ("goals" :Str)=some (.ref u)∧TpL H t a∧TpL H u b
theorem ThAt.same {cN cB:Addr}{H H':Hp}{p:Addr}{th:Thg}(h:ThAt cN cB H p th)(s:Same H H'):ThAt cN cB H' p th:=by
 cases th with
 |net a=>
  obtain⟨dx,fs,t,h1,h2,h3⟩:=h
  exact⟨dx,fs,t,s _ _ h1,h2,h3.same s⟩
 |bun a b=>
  obtain⟨dx,fs,t,u,h1,h2,h3,h4,h5⟩:=h
  exact⟨dx,fs,t,u,s _ _ h1,h2,h3,h4.same s,h5.same s⟩
noncomputable def cnt (a cs:List T3):Nat:=(a.filter fun c=>decide (c∈cs)).length
theorem nm_n:NmOk (Str.ofString "n"):=⟨by decide+kernel,by decide+kernel,by decide+kernel,⟨110,[],by decide+kernel,by decide+kernel⟩,by decide+kernel⟩
theorem nm_b:NmOk (Str.ofString "b"):=⟨by decide+kernel,by decide+kernel,by decide+kernel,⟨98,[],by decide+kernel,by decide+kernel⟩,by decide+kernel⟩
theorem nm_b1:NmOk (Str.ofString "b1"):=⟨by decide+kernel,by decide+kernel,by decide+kernel,⟨98,[49],by decide+kernel,by decide+kernel⟩,by decide+kernel⟩
noncomputable def inc:List T3→Bool
 |a::b::r=>HT.lexLt a b&&inc (b::r)
 |_=>true
noncomputable def clr (g:Gd) (F:List (Nat×V)) (c:T3):Bool:=inF g.R g.C F c&&opn g c
noncomputable def shu (g:Gd) (F:List (Nat×V)) (cs:List T3) (c:T3):Bool:=(leadL g F c).all fun x=>decide (x.1∈cs)
def P3 (cs:List T3):Prop:=∀c∈cs,∃x y w:Int,c=[x,y,w]
theorem in_num {g:Gd}(S:Szs g.L g.R g.C){F:List (Nat×V)}(hT:Tb g.M F){c:T3}(h:inF g.R g.C F c=true):∃n,n<g.M∧c=sN g.R g.C n:=by
 unfold inF at h
 rw[val_encC,decide_eq_true_eq] at h
 obtain⟨n,hn,rfl⟩:=List.mem_map.mp h
 obtain⟨p,hp,rfl⟩:=List.mem_map.mp hn
 exact⟨p.1,hT.lt p hp,rfl⟩
theorem ins_N {g:Gd}(hg:GdOk g){n:Nat}(h:n<g.M):insC g (sN g.R g.C n)=true:=decide_eq_true (sN_ins hg.S (by have:=hg.M;omega))
theorem tk_T {P:Program}{w:World}(x:T3):tupleKeyHash (mixKind P w) (iK x)=hashT x:=by
 unfold tupleKeyHash hashT iK
 rw[List.map_map]
 rfl
def spUnlike:Sp:=fun vs H Q _=>∃(l:Addr) (as:List Addr) (cs:List T3),vs=[.ref l]∧H l=some (.lst (as.map V.ref))∧Tups H as cs∧cs.length≤18∧(cs.map hashT).Nodup∧∀H',Same H H'→Q .non H'
def spNInit (cN:Addr):Sp:=fun vs H Q _=>∃(p dx l:Addr) (as:List Addr) (cs:List T3) (x:Str) (h r:Int),vs=[.ref p,.str x,.ref l,.int h,.int r]∧H p=some (.ins cN dx [])∧H l=some (.lst (as.map V.ref))∧Tups H as cs∧(cs.map hashT).Nodup∧2≤as.length∧as.length≤6∧
 NmOk x∧0≤h∧h≤2∧0≤r∧r≤3∧∀H' fs t,ButP H H' p→H' p=some (.ins cN dx fs)→fs.lookup ("pins" :Str)=some (.ref t)→H' t=some (.tup (as.map V.ref))→Q .non H'
def spBInit (cB:Addr):Sp:=fun vs H Q _=>∃(p dx l m:Addr) (as bs:List Addr) (cs ds:List T3) (x:Str) (r:Int),vs=[.ref p,.str x,.ref l,.ref m,.int r]∧H p=some (.ins cB dx [])∧H l=some (.lst (as.map V.ref))∧H m=some (.lst (bs.map V.ref))∧
 Tups H as cs∧Tups H bs ds∧((cs++ds).map hashT).Nodup∧1≤as.length∧as.length≤6∧as.length≤bs.length∧bs.length≤12∧NmOk x∧0≤r∧r≤3∧
 ∀H' fs t u,ButP H H' p→H' p=some (.ins cB dx fs)→fs.lookup ("starts" :Str)=some (.ref t)→fs.lookup ("goals" :Str)=some (.ref u)→H' t=some (.tup (as.map V.ref))→H' u=some (.tup (bs.map V.ref))→Q .non H'
def spInOrd:Sp:=fun vs H Q _=>∃(t:Addr) (cs:List T3),vs=[.ref t]∧TpL H t cs∧cs.length≤200∧∀H',Same H H'→Q (.bl (inc cs)) H'
structure FT (cF:Addr) (H:Hp) (p:Addr) (g:Gd):Prop where
 ex:∃pr vi rd td,FA cF H p pr vi rd td g
theorem FT.same {cF:Addr}{H H':Hp}{p:Addr}{g:Gd}(h:FT cF H p g)(s:Same H H'):FT cF H' p g:=by
 obtain⟨pr,vi,rd,td,h⟩:=h.ex
 exact⟨pr,vi,rd,td,h.same s⟩
def spClear (cF:Addr):Sp:=fun vs H Q _=>∃(p e t:Addr) (g:Gd) (F:List (Nat×V)) (cs:List T3),vs=[.ref p,.ref e,.ref t]∧FT cF H p g∧GdOk g∧H e=some (.dT (enc g.R g.C F))∧Tb g.M F∧TpL H t cs∧P3 cs∧cs.length≤200∧∀H',Same H H'→Q (.bl (cs.all (clr g F))) H'
def spMany:Sp:=fun vs H Q _=>∃(t u:Addr) (a cs:List T3),vs=[.ref t,.ref u]∧TpL H t a∧TpL H u cs∧a.length≤200∧∀H',Same H H'→Q (.int (cnt a cs:Nat)) H'
noncomputable def ThSz:Thg→Prop
 | .net a=>a.length≤18
 | .bun a b=>a.length≤18∧b.length≤18
def spPLaid:Sp:=fun vs H Q _=>∃a:V,vs=[a]∧Q (.bl false) H
def cellv (ns:List Int) (i:Nat):Int:=ns.getD i 0
def Lz (ns:List Int):Nat:=(1+cellv ns 0%2).toNat
def Rz (ns:List Int):Nat:=(2+cellv ns 1%3).toNat
def Cz (ns:List Int):Nat:=(3+cellv ns 2%4).toNat
theorem Lz_eq (ns:List Int):(Lz ns:Int)=1+cellv ns 0%2∧1≤Lz ns∧Lz ns≤2:=by unfold Lz;omega
theorem Rz_eq (ns:List Int):(Rz ns:Int)=2+cellv ns 1%3∧2≤Rz ns∧Rz ns≤4:=by unfold Rz;omega
theorem Cz_eq (ns:List Int):(Cz ns:Int)=3+cellv ns 2%4∧3≤Cz ns∧Cz ns≤6:=by unfold Cz;omega
def Nz (ns:List Int):Nat:=Lz ns*Rz ns
theorem Nz_eq (ns:List Int):2≤Nz ns∧Nz ns≤8:=by
 have h1:=Lz_eq ns
 have h2:=Rz_eq ns
 unfold Nz
 generalize Lz ns=l at*
 generalize Rz ns=r at*
 have:l=1∨l=2:=by omega
 rcases this with rfl|rfl<;>omega
noncomputable def lN (r i:Nat):T3:=[((i/r:Nat):Int),((i%r:Nat):Int)]
theorem lane_sN {r c i x:Nat}(hx:x<c):lN r i++[(x:Int)]=sN (r:Int) (c:Int) (i*c+x):=by
 unfold lN sN
 have h1:(i*c+x)/c=i:=by
  rw[Nat.mul_comm,Nat.mul_add_div (by omega),Nat.div_eq_of_lt hx,Nat.add_zero]
 have h2:(i*c+x)%c=x:=by
  rw[Nat.mul_comm,Nat.mul_add_mod,Nat.mod_eq_of_lt hx]
 rw[←Int.natCast_ediv,←Int.natCast_ediv,←Int.natCast_emod,←Int.natCast_emod,h1,h2]
 rfl
def lanes (r n:Nat):List T3:=(List.range n).map (lN r)
theorem at_num {c i j x y:Nat}(hx:x<c)(hy:y<c)(h:i*c+x=j*c+y):i=j∧x=y:=by
 have h1:(i*c+x)/c=i:=by rw[Nat.mul_comm,Nat.mul_add_div (by omega),Nat.div_eq_of_lt hx,Nat.add_zero]
 have h2:(j*c+y)/c=j:=by rw[Nat.mul_comm,Nat.mul_add_div (by omega),Nat.div_eq_of_lt hy,Nat.add_zero]
 have e:i=j:=by rw[←h1,←h2,h]
 subst e
 exact⟨rfl,by omega⟩
theorem num_lt {c n i x:Nat}(hi:i<n)(hx:x<c):i*c+x<n*c:=by
 have:(i+1)*c≤n*c:=Nat.mul_le_mul_right _ hi
 rw[Nat.add_mul] at this
 omega
theorem szs36 (ns:List Int):Szs (Lz ns:Int) (Rz ns:Int) (Cz ns:Int):=by
 have:=Lz_eq ns;have:=Rz_eq ns;have:=Cz_eq ns
 exact⟨by omega,by omega,by omega,by omega,by omega,by omega⟩
theorem m48 (ns:List Int):Nz ns*Cz ns≤48:=by
 have h1:=Nz_eq ns
 have h2:=Cz_eq ns
 calc Nz ns*Cz ns≤8*6:=Nat.mul_le_mul h1.2 h2.2.2
  _=48:=rfl
noncomputable def bes (g:Gd) (F:List (Nat×V)) (c:T3):List T3:=(rndC c).filter (inF g.R g.C F)
noncomputable def rowsV (g:Gd) (F:List (Nat×V)) (cs:List T3):Bool:=cs.all (inF g.R g.C F)&&inc cs
noncomputable def shutsV (g:Gd) (F:List (Nat×V)) (cut so a b:List T3):Bool:=rowsV g F cut&&(rowsV g F so&&(decide (cut.length<a.length)&&(so.all (fun c=>!decide (c∈cut)&&(!decide (c∈b)&&(bes g F c).all fun o=>decide (o∈so)||decide (o∈cut)))&&a.all fun s=>decide (s∈so)||decide (s∈cut))))
noncomputable def dueV (g:Gd) (F:List (Nat×V)) (cut so:List T3):Thg→Bool
 | .net _=>false
 | .bun a b=>shutsV g F cut so a b
noncomputable def prgV (g:Gd) (F:List (Nat×V)) (cut so:List T3):Thg→Bool
 | .net _=>false
 | .bun a b=>decide (cut.length<a.length)&&(inc cut&&(inc so&&(decide (cnt cut so=0)&&(decide (cnt b so=0)&&((cut++so).all (clr g F)&&(decide (a.length≤cnt a (cut++so))&&so.all (shu g F (so++cut))))))))
theorem cnt_zero {a cs:List T3}:cnt a cs=0↔∀c∈a,c∉cs:=by
 unfold cnt
 rw[List.length_eq_zero_iff,List.filter_eq_nil_iff]
 simp
theorem cnt_all {a cs:List T3}:a.length≤cnt a cs↔∀c∈a,c∈cs:=by
 unfold cnt
 constructor
 ·intro h c hc
  have:=List.length_filter_eq_length_iff.mp (Nat.le_antisymm (List.length_filter_le _ _) h) c hc
  exact of_decide_eq_true this
 ·intro h
  rw[List.filter_eq_self.mpr fun c hc=>decide_eq_true (h c hc)]
  exact Nat.le_refl _
def Opn (g:Gd) (F:List (Nat×V)):Prop:=∀c,inF g.R g.C F c=true→opn g c=true
theorem clr_of {g:Gd}{F:List (Nat×V)}(h:Opn g F)(c:T3):clr g F c=inF g.R g.C F c:=by
 unfold clr
 cases e:inF g.R g.C F c with
 |false=>rfl
 |true=>rw[h c e];rfl
theorem shu_of {g:Gd}{F:List (Nat×V)}(h:Opn g F){c:T3}(hc:inF g.R g.C F c=true)(cs:List T3):shu g F cs c=(bes g F c).all fun o=>decide (o∈cs):=by
 have hr:¬rkC g c=true:=fun z=>by
  have:=h c hc
  unfold opn at this
  rw[z] at this
  simp at this
 unfold shu leadL stepsL bes
 rw[if_neg hr,List.filter_map,List.all_map,List.filter_filter]
 have e:((rndC c).filter fun a=>(((fun x:T3×Int=>inF g.R g.C F x.1)∘fun d=>(d,price g c d)) a&&opn g a))=(rndC c).filter (inF g.R g.C F):=by
  refine List.filter_congr fun x _=>?_
  show(inF g.R g.C F x&&opn g x)=_
  cases e:inF g.R g.C F x with
  |false=>rfl
  |true=>rw[h x e];rfl
 rw[e]
 rfl
theorem prg_due {g:Gd}{F:List (Nat×V)}(h:Opn g F)(cut so:List T3)(th:Thg):prgV g F cut so th=dueV g F cut so th:=by
 cases th with
 |net a=>rfl
 |bun a b=>
  refine Bool.eq_iff_iff.mpr ?_
  unfold prgV dueV shutsV rowsV
  simp only[Bool.and_eq_true,decide_eq_true_eq,List.all_eq_true,cnt_zero,cnt_all,Bool.not_eq_true',decide_eq_false_iff_not,Bool.or_eq_true,List.mem_append]
  constructor
  ·rintro⟨h1,h2,h3,h4,h5,h6,h7,h8⟩
   have c1:∀c∈cut,inF g.R g.C F c=true:=fun c hc=>by rw[←clr_of h];exact h6 c (.inl hc)
   have c2:∀c∈so,inF g.R g.C F c=true:=fun c hc=>by rw[←clr_of h];exact h6 c (.inr hc)
   refine⟨⟨c1,h2⟩,⟨c2,h3⟩,h1,fun c hc=>⟨fun z=>h4 c z hc,fun z=>h5 c z hc,fun o ho=>?_⟩,fun s hs=>(h7 s hs).symm⟩
   have:=h8 c hc
   rw[shu_of h (c2 c hc),List.all_eq_true] at this
   simpa using this o ho
  ·rintro⟨⟨c1,h2⟩,⟨c2,h3⟩,h1,h4,h5⟩
   refine⟨h1,h2,h3,fun c hc z=>(h4 c z).1 hc,fun c hc z=>(h4 c z).2.1 hc,fun c hc=>by rw[clr_of h];exact hc.elim (c1 c) (c2 c),fun s hs=>(h5 s hs).symm,fun c hc=>?_⟩
   rw[shu_of h (c2 c hc),List.all_eq_true]
   intro o ho
   simpa using (h4 c hc).2.2 o ho
def spShut (cF:Addr):Sp:=fun vs H Q _=>∃(p e t r:Addr) (g:Gd) (F:List (Nat×V)) (cs ds:List T3),vs=[.ref p,.ref e,.ref t,.ref r]∧FT cF H p g∧GdOk g∧H e=some (.dT (enc g.R g.C F))∧Tb g.M F∧TpL H t cs∧TpL H r ds∧cs.all (clr g F)=true∧cs.length≤200∧ds.length≤200∧∀H',Same H H'→Q (.bl (cs.all (shu g F (cs++ds)))) H'
def spCInit (cS:Addr):Sp:=fun vs H Q _=>∃(p dx l m:Addr) (as bs:List Addr),vs=[.ref p,.ref l,.ref m]∧H p=some (.ins cS dx [])∧H l=some (.lst (as.map V.ref))∧H m=some (.lst (bs.map V.ref))∧as.length≤200∧bs.length≤200∧∀H' t u,ButP H H' p→H t=none→H u=none→H' p=some (.ins cS dx [("cut",.ref t),("spots",.ref u)])→H' t=some (.tup (as.map V.ref))→H' u=some (.tup (bs.map V.ref))→Q .non H'
structure PpA (cS:Addr) (H:Hp) (p:Addr) (cs ds:List T3):Prop where
 ex:∃dx t u,H p=some (.ins cS dx [("cut",.ref t),("spots",.ref u)])∧TpL H t cs∧TpL H u ds
theorem PpA.same {cS:Addr}{H H':Hp}{p:Addr}{cs ds:List T3}(h:PpA cS H p cs ds)(s:Same H H'):PpA cS H' p cs ds:=by
 obtain⟨dx,t,u,h1,h2,h3⟩:=h.ex
 exact⟨dx,t,u,s _ _ h1,h2.same s,h3.same s⟩
def spCHolds (cS cF cN cB:Addr):Sp:=fun vs H Q _=>∃(p f e th:Addr) (g:Gd) (F:List (Nat×V)) (tg:Thg) (cs ds:List T3),vs=[.ref p,.ref f,.ref e,.ref th]∧PpA cS H p cs ds∧FT cF H f g∧GdOk g∧H e=some (.dT (enc g.R g.C F))∧Tb g.M F∧ThAt cN cB H th tg∧ThSz tg∧P3 cs∧P3 ds∧cs.length≤100∧ds.length≤100∧
 ∀H',Same H H'→Q (.bl (prgV g F cs ds tg)) H'
def spCell (K:PySem.W.Frag):Sp:=fun vs H Q _=>∃(a:Addr) (ns:List Int) (i:Nat),vs=[.ref a,.int (i:Int)]∧SqL K H a (ns.map V.int)∧Q (.int (cellv ns i)) H
def spMix:Sp:=fun vs H Q _=>∃c k p:Int,vs=[.int c,.int k,.int p]∧1≤p∧p≤2000000∧∀v:Int,0≤v→Q (.int v) H
def spBeside:Sp:=fun vs H Q _=>∃(d b:Addr) (g:Gd) (F:List (Nat×V)) (x y w:Int),vs=[.ref d,.ref b]∧H d=some (.dT (enc g.R g.C F))∧At3 H b x y w∧∀(H':Hp) (l:Addr),Same H H'→AtL H' l (bes g F [x,y,w])→Q (.ref l) H'
def spLanes (K:PySem.W.Frag):Sp:=fun vs H Q _=>∃(a:Addr) (ns:List Int),vs=[.ref a]∧SqL K H a (ns.map V.int)∧∀(H':Hp) (l:Addr),Same H H'→AtL H' l (lanes (Rz ns) (Nz ns))→Q (.ref l) H'
def spPicked (K:PySem.W.Frag):Sp:=fun vs H Q _=>∃(a l:Addr) (ns:List Int) (k r n m:Nat),vs=[.ref a,.int (k:Int),.ref l,.int (m:Int)]∧SqL K H a (ns.map V.int)∧AtL H l (lanes r n)∧n≤8∧m≤n∧
 ∀(H':Hp) (l':Addr) (js:List Nat),Same H H'→AtL H' l' (js.map (lN r))→js.Nodup→(∀j∈js,j<n)→js.length=m→Q (.ref l') H'
def spStrewn (K:PySem.W.Frag):Sp:=fun vs H Q _=>∃(a l e:Addr) (ns:List Int) (L r c n:Nat) (es:List Nat),vs=[.ref a,.ref l,.int (c:Int),.ref e]∧SqL K H a (ns.map V.int)∧ns.length≤63∧Szs (L:Int) (r:Int) (c:Int)∧AtL H l (lanes r n)∧1≤n∧n≤8∧3≤c∧c≤6∧AtL H e (es.map (sN (r:Int) (c:Int)))∧
 ∀(H':Hp) (t ro sh:Addr) (rs:List Nat) (S:List (Nat×V)),Same H H'→H' t=some (.tup [.ref ro,.ref sh])→AtL H' ro (rs.map (sN (r:Int) (c:Int)))→H' sh=some (.dT (enc (r:Int) (c:Int) S))→Tb (n*c) S→(∀k∈rs,k<n*c∧k∉es)→rs.length≤51→(∀p∈S,p.1∉es)→Q (.ref t) H'
structure PlF (ns:List Int) (nw:Nat) (ss gs rs:List Nat) (F S:List (Nat×V)):Prop where
 n1:1≤nw
 n2:nw+1<Cz ns
 s2:2≤ss.length
 s6:ss.length≤6
 g1:ss.length≤gs.length
 g8:gs.length≤8
 nd:(ss++gs).Nodup
 lt:∀k∈ss++gs,k<Nz ns*Cz ns
 rl:rs.length≤59
 rr:∀k∈rs,k<Nz ns*Cz ns
 tF:Tb (Nz ns*Cz ns) F
 tS:Tb (Nz ns*Cz ns) S
 vF:∀p∈F,p.2=.bl true
 op:∀p∈F,p.1∉rs
 at0:∃j,j*Cz ns∈F.map (·.1)
structure PlA (ns:List Int) (H:Hp) (t la st go ro sh dd:Addr) (nw:Nat) (ss gs rs:List Nat) (F S:List (Nat×V)):Prop where
 ft:H t=some (.tup [.int (Cz ns:Nat),.ref la,.ref st,.ref go,.int (nw:Nat),.ref ro,.ref sh,.ref dd])
 fla:AtL H la (lanes (Rz ns) (Nz ns))
 fst:AtL H st (ss.map (sN (Rz ns:Nat) (Cz ns:Nat)))
 fgo:AtL H go (gs.map (sN (Rz ns:Nat) (Cz ns:Nat)))
 fro:AtL H ro (rs.map (sN (Rz ns:Nat) (Cz ns:Nat)))
 fsh:H sh=some (.dT (enc (Rz ns:Nat) (Cz ns:Nat) S))
 fdd:H dd=some (.dT (enc (Rz ns:Nat) (Cz ns:Nat) F))
 fne:sh≠dd
theorem PlA.same {ns:List Int}{H H':Hp}{t la st go ro sh dd:Addr}{nw:Nat}{ss gs rs:List Nat}{F S:List (Nat×V)}(h:PlA ns H t la st go ro sh dd nw ss gs rs F S)(s:Same H H'):PlA ns H' t la st go ro sh dd nw ss gs rs F S:=
 ⟨s _ _ h.ft,h.fla.same s,h.fst.same s,h.fgo.same s,h.fro.same s,s _ _ h.fsh,s _ _ h.fdd,h.fne⟩
def spPlan (K:PySem.W.Frag):Sp:=fun vs H Q _=>∃(a:Addr) (ns:List Int),vs=[.ref a]∧SqL K H a (ns.map V.int)∧ns.length≤63∧∀(H':Hp) (t la st go ro sh dd:Addr) (nw:Nat) (ss gs rs:List Nat) (F S:List (Nat×V)),Same H H'→PlA ns H' t la st go ro sh dd nw ss gs rs F S→PlF ns nw ss gs rs F S→H dd=none→Q (.ref t) H'
def spPut:Sp:=fun vs H Q _=>∃(l b:Addr) (cs:List T3) (x y w:Int),vs=[.ref l,.ref b]∧AtL H l cs∧P3 cs∧cs.length≤60∧At3 H b x y w∧∀(H':Hp) (l':Addr) (ds:List T3),Same H H'→AtL H' l' ds→P3 ds→ds.length=cs.length+1→Q (.ref l') H'
def spSpoilt (K:PySem.W.Frag):Sp:=fun vs H Q _=>∃(a t la st go ro sh dd cu so:Addr) (ns:List Int) (nw:Nat) (ss gs rs:List Nat) (F S:List (Nat×V)) (cs ds:List T3),vs=[.ref a,.ref t,.ref cu,.ref so]∧SqL K H a (ns.map V.int)∧
 PlA ns H t la st go ro sh dd nw ss gs rs F S∧PlF ns nw ss gs rs F S∧AtL H cu cs∧AtL H so ds∧P3 cs∧P3 ds∧cs.length≤8∧ds.length≤48∧ds≠[]∧cu≠so∧(∀x∈[la,st,go,ro],x≠cu∧x≠so)∧
 ∀(H':Hp) (t' cu' so':Addr) (cs' ds':List T3) (F':List (Nat×V)),Bt [cu,so,dd] H H'→H' t'=some (.tup [.ref cu',.ref so'])→AtL H' cu' cs'→AtL H' so' ds'→P3 cs'→P3 ds'→cs'.length≤9→ds'.length≤49→
  H' dd=some (.dT (enc (Rz ns:Nat) (Cz ns:Nat) F'))→Tb (Nz ns*Cz ns) F'→(∀p∈F',p.2=.bl true)→(∀p∈F',p.1∉rs)→Q (.ref t') H'
def spRows:Sp:=fun vs H Q _=>∃(l d:Addr) (g:Gd) (F:List (Nat×V)) (cs:List T3),vs=[.ref l,.ref d]∧H d=some (.dT (enc g.R g.C F))∧AtL H l cs∧P3 cs∧cs.length≤100∧Q (.bl (rowsV g F cs)) H
def spShuts:Sp:=fun vs H Q _=>∃(cu so d s e:Addr) (g:Gd) (F:List (Nat×V)) (cs ds a b:List T3),vs=[.ref cu,.ref so,.ref d,.ref s,.ref e]∧H d=some (.dT (enc g.R g.C F))∧AtL H cu cs∧AtL H so ds∧P3 cs∧P3 ds∧cs.length≤100∧ds.length≤100∧TpL H s a∧TpL H e b∧a.length≤18∧b.length≤18∧∀H',Same H H'→Q (.bl (shutsV g F cs ds a b)) H'
def spLThing (K:PySem.W.Frag) (cN cB:Addr):Sp:=fun vs H Q _=>∃(a st go:Addr) (ns:List Int) (ss gs:List Nat),vs=[.ref a,.ref st,.ref go]∧SqL K H a (ns.map V.int)∧AtL H st (ss.map (sN (Rz ns:Nat) (Cz ns:Nat)))∧AtL H go (gs.map (sN (Rz ns:Nat) (Cz ns:Nat)))∧2≤ss.length∧ss.length≤6∧ss.length≤gs.length∧gs.length≤8∧(ss++gs).Nodup∧(∀k∈ss++gs,k<Nz ns*Cz ns)∧
 ∀(H':Hp) (p:Addr) (th:Thg),Same H H'→ThAt cN cB H' p th→ThSz th→Q (.ref p) H'
def spLDue (cN cB:Addr):Sp:=fun vs H Q _=>∃(cu so d p:Addr) (g:Gd) (F:List (Nat×V)) (cs ds:List T3) (th:Thg),vs=[.ref cu,.ref so,.ref d,.ref p]∧H d=some (.dT (enc g.R g.C F))∧AtL H cu cs∧AtL H so ds∧P3 cs∧P3 ds∧cs.length≤100∧ds.length≤100∧ThAt cN cB H p th∧ThSz th∧∀H',Same H H'→Q (.bl (dueV g F cs ds th)) H'
def spLaw (K:PySem.W.Frag):Sp:=fun vs H Q _=>∃(a:Addr) (ns:List Int),vs=[.ref a]∧SqL K H a (ns.map V.int)∧ns.length≤63∧∀H',Q (.bl true) H'
section
variable {P:Program} {w:World} {K:PySem.W.Frag} {mg:Str→Option Value} {base:Heap}
set_option maxHeartbeats 1000000
theorem ok_Inside {cThing cNet cBundle cPaper cCutPaper cFloor cMS:Addr}{f:Addr}{fd:FuncData}(F:Fun K "inside" "inside" sInside f fd)(T:Txt K mg cThing cNet cBundle cPaper cCutPaper cFloor cMS):FnOk P w K mg base CX0 1 f fd ["sizes", "spot"] spInside:=by
 have sc:FnScope ["sizes", "spot", "layers", "rows", "columns", "layer", "row", "column"] ["sizes", "spot"] (defScope sInside):=⟨rfl,rfl,rfl,by decide+kernel,rfl,by decide+kernel,by decide+kernel⟩
 refine F.ok sc (fun vs H Q E h=>by repeat (first|(obtain⟨rfl,_⟩:=h;rfl)|(obtain⟨_,h⟩:=h))) (fun cdv A outer s H vs Q E hr h=>?_)
 obtain⟨a,b,L,R,C,l,r,c,rfl,ha,hb,q⟩:=h
 refine⟨_,(pss_cons (ps_asg (pv 0) (pg_tup rfl (pgs_cons (pg_name (i:=2) sc.nd rfl (Or.inl rfl)) (pgs_cons (pg_name (i:=3) sc.nd rfl (Or.inl rfl)) (pgs_cons (pg_name (i:=4) sc.nd rfl (Or.inl rfl)) pgs_nil)))))
 (pss_cons (ps_asg (pv 1) (pg_tup rfl (pgs_cons (pg_name (i:=5) sc.nd rfl (Or.inl rfl)) (pgs_cons (pg_name (i:=6) sc.nd rfl (Or.inl rfl)) (pgs_cons (pg_name (i:=7) sc.nd rfl (Or.inl rfl)) pgs_nil)))))
 (pss_one (ps_ret (pe_and (pe_chain op_le op_lt pe_int (pv 5) (pv 2)) (pe_and (pe_chain op_le op_lt pe_int (pv 6) (pv 3)) (pe_one (pe_chain op_le op_lt pe_int (pv 7) (pv 4))))))))),?_⟩
 refine sq_un3 (ev_var rfl) (SqT.of ha) ?_
 refine sq_un3 (ev_var rfl) (SqT.of hb) ?_
 exact rd_ret (ev_of (ev_and (ev_chain ev_c (ev_var rfl) (ev_var rfl)) fun _=>ev_and (ev_chain ev_c (ev_var rfl) (ev_var rfl)) fun _=>ev_chain ev_c (ev_var rfl) (ev_var rfl)) (congrArg V.bl ins_b)) q
theorem ok_CSizes {cThing cNet cBundle cPaper cCutPaper cFloor cMS:Addr}{f:Addr}{fd:FuncData}(F:Fun K "check_sizes" "check_sizes" sCSizes f fd)(hB:K.In base)(T:Txt K mg cThing cNet cBundle cPaper cCutPaper cFloor cMS):FnOk P w K mg base CX0 1 f fd ["sizes", "prices", "vias"] spCSizes:=by
 have sc:FnScope ["sizes", "prices", "vias", "size", "most"] ["sizes", "prices", "vias"] (defScope sCSizes):=⟨rfl,rfl,rfl,by decide+kernel,rfl,by decide+kernel,by decide+kernel⟩
 refine F.ok sc (fun vs H Q E h=>by repeat (first|(obtain⟨rfl,_⟩:=h;rfl)|(obtain⟨_,h⟩:=h))) (fun cdv A outer s H vs Q E hr h=>?_)
 obtain⟨z,pr,vi,L,R,C,xs,ys,rfl,hz,sz,hp,hpl,hv,hvl,q⟩:=h
 refine⟨_,(pss_cons (ps_for PassesOwn.never rfl (pi_zipT (by rfl) T.zip_ (pa_cons (pv 0) (pa_cons (pe_const (by rfl) (by exact T.g_MOST_SIZES)) pa_nil))) (pg_tup rfl (pgs_cons (pg_name (i:=3) sc.nd rfl (Or.inl rfl)) (pgs_cons (pg_name (i:=4) sc.nd rfl (Or.inl rfl)) pgs_nil)))
 (pss_one (ps_if (pt_not (pt_chain op_le op_le pe_int (pv 3) (pv 4)))
 (pss_one ps_never)
 pss_nil)))
 (pss_cons (ps_if (pt_cmpR op_ne (pe_callB call_len (by rfl) T.len_ bt_len (pa_cons (pv 1) pa_nil)) (pe_ix ix_tup (pv 0) pe_int (fun _ _=>rfl)) (nomark _))
 (pss_one ps_never)
 pss_nil)
 (pss_one (ps_if (pt_cmpR op_ne (pe_callB call_len (by rfl) T.len_ bt_len (pa_cons (pv 2) pa_nil)) (pe_op op_sub (pe_ix ix_tup (pv 0) pe_int (fun _ _=>rfl)) pe_int) (nomark _))
 (pss_one ps_never)
 pss_nil)))),?_⟩
 refine⟨_,rfl,z,cMS,rfl,⟨_,SqT.of hz⟩,⟨_,T.t_MOST_SIZES _⟩,?_⟩
 refine for_zipT (K:=K) (xs:=[.int L,.int R,.int C]) (ys:=[.int 4,.int 16,.int 16]) rfl (fun i σ H'=>∃x3 x4:Option V,σ=[some (.ref z),some (.ref pr),some (.ref vi),x3,x4]∧Same H H') ⟨none,none,rfl,Same.refl H⟩ (fun i σ H' _ ⟨_,_,_,s⟩=>⟨SqT.of (s _ _ hz),T.t_MOST_SIZES _⟩) ?_ ?_
 ·rintro i x y p σ H2 hx hy np ⟨x3,x4,rfl,s2⟩
  obtain⟨n,m,rfl,rfl,n1,n2⟩:∃n m:Int,x=.int n∧y=.int m∧1≤n∧n≤m:=by
   match i,hx,hy with
   |0,hx,hy=>exact⟨L,4,(Option.some.inj hx).symm,(Option.some.inj hy).symm,sz.l0,sz.l1⟩
   |1,hx,hy=>exact⟨R,16,(Option.some.inj hx).symm,(Option.some.inj hy).symm,sz.r0,sz.r1⟩
   |2,hx,hy=>exact⟨C,16,(Option.some.inj hx).symm,(Option.some.inj hy).symm,(Int.le_trans (by decide) sz.c0),sz.c1⟩
  refine⟨p,_,rfl,SqT.of upd_same,rfl,_,_,rfl,_,_,rfl,rfl,?_⟩
  exact rd_ifF (et_notF (et_of (et_test (ev_chain ev_c (ev_var rfl) (ev_var rfl))) (by rw[decide_eq_true n1,decide_eq_true n2];rfl))) rfl ⟨_,_,rfl,s2.upd np⟩
 ·rintro σ H2 ⟨x3,x4,rfl,s2⟩
  have hz2:=s2 _ _ hz
  refine st ?_
  refine sq_ifF (et_of (et_test (ev_neI (ev_cb (ea_cons (ev_var rfl) ea_nil) fun Q' q'=>⟨_,_,rfl,.inl ⟨_,SqL.of (s2 _ _ hp),rfl⟩,q'⟩) (ev_ixT (v:=.int L) (ev_var rfl) ev_c (SqT.of hz2) rfl))) (by rw[decide_eq_true hpl];rfl)) rfl ?_
  exact rd_ifF (et_of (et_test (ev_neI (ev_cb (ea_cons (ev_var rfl) ea_nil) fun Q' q'=>⟨_,_,rfl,.inl ⟨_,SqL.of (s2 _ _ hv),rfl⟩,q'⟩) (ev_I0 (ev_ixT (v:=.int L) (ev_var rfl) ev_c (SqT.of hz2) rfl) ev_c))) (by rw[decide_eq_true hvl];rfl)) rfl (q _ s2)
theorem ok_CPrice {cThing cNet cBundle cPaper cCutPaper cFloor cMS:Addr}{f:Addr}{fd:FuncData}(F:Fun K "check_price" "check_price" sCPrice f fd)(hB:K.In base)(T:Txt K mg cThing cNet cBundle cPaper cCutPaper cFloor cMS):FnOk P w K mg base CX0 1 f fd ["price", "least"] spCPrice:=by
 have sc:FnScope ["price", "least"] ["price", "least"] (defScope sCPrice):=⟨rfl,rfl,rfl,by decide+kernel,rfl,by decide+kernel,by decide+kernel⟩
 refine F.ok sc (fun vs H Q E h=>by repeat (first|(obtain⟨rfl,_⟩:=h;rfl)|(obtain⟨_,h⟩:=h))) (fun cdv A outer s H vs Q E hr h=>?_)
 obtain⟨x,m,rfl,h1,h2,q⟩:=h
 refine⟨_,(pss_one (ps_if (pt_not (pt_chain op_le op_le (pv 1) (pv 0) (pe_const (by rfl) (by exact T.g_MOST_PRICE))))
 (pss_one ps_never)
 pss_nil)),?_⟩
 exact rd_ifF (et_notF (et_of (et_test (ev_chain (ev_var rfl) (ev_var rfl) ev_c)) (by rw[decide_eq_true h1,decide_eq_true h2];rfl))) rfl q
theorem ok_CPrices {cThing cNet cBundle cPaper cCutPaper cFloor cMS:Addr}{f:Addr}{fd:FuncData}(F:Fun K "check_prices" "check_prices" sCPrices f fd)(T:Txt K mg cThing cNet cBundle cPaper cCutPaper cFloor cMS)(gCPrice:Callee P w K mg base "check_price" 1 ["price", "least"] spCPrice):FnOk P w K mg base CX0 2 f fd ["prices", "vias", "tolls"] spCPrices:=by
 have sc:FnScope ["prices", "vias", "tolls", "ahead", "across", "price", "toll"] ["prices", "vias", "tolls"] (defScope sCPrices):=⟨rfl,rfl,rfl,by decide+kernel,rfl,by decide+kernel,by decide+kernel⟩
 refine F.ok sc (fun vs H Q E h=>by repeat (first|(obtain⟨rfl,_⟩:=h;rfl)|(obtain⟨_,h⟩:=h))) (fun cdv A outer s H vs Q E hr h=>?_)
 obtain⟨pr,vi,d,ps,ws,kvs,rfl,⟨as,hp,ht⟩,hpp,hv,hvv,hd,hdv,q⟩:=h
 refine⟨_,(pss_cons (ps_for PassesOwn.never rfl (pi_list (pv 0)) (pg_tup rfl (pgs_cons (pg_name (i:=3) sc.nd rfl (Or.inl rfl)) (pgs_cons (pg_name (i:=4) sc.nd rfl (Or.inl rfl)) pgs_nil)))
 (pss_cons (ps_expr (pe_cal gCPrice (hr.mono (by decide)) (by rfl) (pa_cons (pv 3) (pa_cons pe_int pa_nil))))
 (pss_one (ps_expr (pe_cal gCPrice (hr.mono (by decide)) (by rfl) (pa_cons (pv 4) (pa_cons pe_int pa_nil)))))))
 (pss_cons (ps_for PassesOwn.never rfl (pi_list (pv 1)) (pg_name (i:=5) sc.nd rfl (Or.inl rfl))
 (pss_one (ps_expr (pe_cal gCPrice (hr.mono (by decide)) (by rfl) (pa_cons (pv 5) (pa_cons pe_int pa_nil))))))
 (pss_one (ps_frz (ps_for PassesOwn.never rfl (pi_values (pv 2)) (pg_name (i:=6) sc.nd rfl (Or.inl rfl))
 (pss_one (ps_expr (pe_cal gCPrice (hr.mono (by decide)) (by rfl) (pa_cons (pv 6) (pa_cons pe_int pa_nil)))))))))),?_⟩
 refine⟨_,rfl,pr,rfl,⟨_,SqL.of hp⟩,?_⟩
 refine for_list (K:=K) (xs:=as.map V.ref) (fun i σ H'=>∃x3 x4:Option V,σ=[some (.ref pr),some (.ref vi),some (.ref d),x3,x4,none,none]∧Same H H') ⟨none,none,rfl,Same.refl H⟩ (fun i σ H' _ ⟨_,_,_,s⟩=>SqL.of (s _ _ hp)) ?_ ?_
 ·rintro i x σ H2 hx ⟨x3,x4,rfl,s2⟩
  obtain⟨a,ha,rfl⟩:=at_ref hx
  obtain⟨c,hc,e⟩:=tups_at ht ha
  obtain⟨u,v,rfl,u1,u2,v1,v2⟩:=hpp c (List.mem_of_getElem? hc)
  refine⟨a,_,rfl,SqT.of (s2 _ _ e),rfl,_,_,rfl,_,_,rfl,rfl,?_⟩
  refine⟨_,rfl,u,1,rfl,u1,u2,?_⟩
  exact⟨_,rfl,v,1,rfl,v1,v2,_,_,rfl,s2⟩
 ·rintro σ H2 ⟨x3,x4,rfl,s2⟩
  refine st ?_
  refine⟨_,rfl,vi,rfl,⟨_,SqL.of (s2 _ _ hv)⟩,?_⟩
  refine for_list (K:=K) (xs:=ws.map V.int) (fun i σ H'=>∃x5:Option V,σ=[some (.ref pr),some (.ref vi),some (.ref d),x3,x4,x5,none]∧Same H H') ⟨none,rfl,s2⟩ (fun i σ H' _ ⟨_,_,s⟩=>SqL.of (s _ _ hv)) ?_ ?_
  ·rintro i x σ H3 hx ⟨x5,rfl,s3⟩
   obtain⟨j,rfl,hj⟩:=int_at hx
   obtain⟨j1,j2⟩:=hvv j (List.mem_of_getElem? hj)
   refine gn ?_
   exact⟨_,rfl,j,1,rfl,j1,j2,_,rfl,s3⟩
  ·rintro σ H3 ⟨x5,rfl,s3⟩
   have hd3:=s3 _ _ hd
   refine⟨d,.dT kvs,hd3,trivial,fun o=>?_⟩
   refine⟨_,rfl,d,o,.dT kvs,rfl,upd_same,trivial,?_⟩
   refine for_vals (fun i σ H'=>∃x6:Option V,σ=[some (.ref pr),some (.ref vi),some (.ref d),x3,x4,x5,x6]∧H'=upd H3 d (.frz o (.dT kvs))) ⟨none,rfl,rfl⟩ (fun i σ H' _ ⟨_,_,e⟩=>e▸upd_same) ?_ ?_
   ·rintro i x v σ H' ⟨k,b,hk,rfl,_⟩ hi ⟨x6,rfl,rfl⟩
    obtain⟨j,e,j1,j2⟩:=hdv _ (List.mem_of_getElem? hk)
    have e:v=.int j:=e
    subst e
    refine gn ?_
    exact⟨_,rfl,j,0,rfl,j1,j2,_,rfl,rfl⟩
   ·rintro σ H' ⟨x6,rfl,rfl⟩
    exact⟨upd_same,q _ (s3.trans (same_thaw hd3))⟩
theorem ok_CInside {cThing cNet cBundle cPaper cCutPaper cFloor cMS:Addr}{f:Addr}{fd:FuncData}(F:Fun K "check_inside" "check_inside" sCInside f fd)(hB:K.In base)(T:Txt K mg cThing cNet cBundle cPaper cCutPaper cFloor cMS)(gInside:Callee P w K mg base "inside" 1 ["sizes", "spot"] spInside):FnOk P w K mg base CX0 2 f fd ["sizes", "spot"] spCInside:=by
 have sc:FnScope ["sizes", "spot"] ["sizes", "spot"] (defScope sCInside):=⟨rfl,rfl,rfl,by decide+kernel,rfl,by decide+kernel,by decide+kernel⟩
 refine F.ok sc (fun vs H Q E h=>by repeat (first|(obtain⟨rfl,_⟩:=h;rfl)|(obtain⟨_,h⟩:=h))) (fun cdv A outer s H vs Q E hr h=>?_)
 obtain⟨a,b,L,R,C,l,r,c,rfl,ha,hb,hi,q⟩:=h
 refine⟨_,(pss_one (ps_if (pt_not (pt_val (pe_cal gInside (hr.mono (by decide)) (by rfl) (pa_cons (pv 0) (pa_cons (pv 1) pa_nil)))))
 (pss_one ps_never)
 pss_nil)),?_⟩
 refine if_of ⟨_,rfl,_,rfl,a,b,L,R,C,l,r,c,rfl,ha,hb,_,rfl,?_⟩
 rw[decide_eq_true hi]
 exact iteF q
theorem ok_Round {cThing cNet cBundle cPaper cCutPaper cFloor cMS:Addr}{f:Addr}{fd:FuncData}(F:Fun K "spots_round" "spots_round" sRound f fd)(T:Txt K mg cThing cNet cBundle cPaper cCutPaper cFloor cMS):FnOk P w K mg base CX0 1 f fd ["spot"] spRound:=by
 have sc:FnScope ["spot", "layer", "row", "column"] ["spot"] (defScope sRound):=⟨rfl,rfl,rfl,by decide+kernel,rfl,by decide+kernel,by decide+kernel⟩
 refine F.ok sc (fun vs H Q E h=>by repeat (first|(obtain⟨rfl,_⟩:=h;rfl)|(obtain⟨_,h⟩:=h))) (fun cdv A outer s H vs Q E hr h=>?_)
 obtain⟨b,x,y,w,rfl,hb,q⟩:=h
 refine⟨_,(pss_cons (ps_asg (pv 0) (pg_tup rfl (pgs_cons (pg_name (i:=1) sc.nd rfl (Or.inl rfl)) (pgs_cons (pg_name (i:=2) sc.nd rfl (Or.inl rfl)) (pgs_cons (pg_name (i:=3) sc.nd rfl (Or.inl rfl)) pgs_nil)))))
 (pss_one (ps_ret (pe_lst (pa_cons (pe_tup (pa_cons (pe_op op_sub (pv 1) pe_int) (pa_cons (pv 2) (pa_cons (pv 3) pa_nil)))) (pa_cons (pe_tup (pa_cons (pv 1) (pa_cons (pe_op op_sub (pv 2) pe_int) (pa_cons (pv 3) pa_nil)))) (pa_cons (pe_tup (pa_cons (pv 1) (pa_cons (pv 2) (pa_cons (pe_op op_sub (pv 3) pe_int) pa_nil)))) (pa_cons (pe_tup (pa_cons (pv 1) (pa_cons (pv 2) (pa_cons (pe_op op_add (pv 3) pe_int) pa_nil)))) (pa_cons (pe_tup (pa_cons (pv 1) (pa_cons (pe_op op_add (pv 2) pe_int) (pa_cons (pv 3) pa_nil)))) (pa_cons (pe_tup (pa_cons (pe_op op_add (pv 1) pe_int) (pa_cons (pv 2) (pa_cons (pv 3) pa_nil)))) pa_nil)))))))))),?_⟩
 refine sq_un3 (ev_var rfl) (SqT.of hb) ?_
 refine rd_lstA ?_
 have s0:Same H H:=Same.refl H
 refine ta_tup (vs:=[.int (x - 1),.int y,.int w]) ?_ (by show 3≤sizeLine;decide) fun p1 n1=>?_
 ·exact ea_cons (ev_I0 (ev_var rfl) ev_c) (ea_cons (ev_var rfl) (ea_cons (ev_var rfl) ea_nil))
 have s1:Same H (upd H p1 (.tup [.int (x - 1),.int y,.int w])):=(Same.refl H).upd n1
 have e1:upd H p1 (.tup [.int (x - 1),.int y,.int w]) p1=some (.tup [.int (x - 1),.int y,.int w]):=upd_same
 revert s1 e1
 generalize upd H p1 (.tup [.int (x - 1),.int y,.int w])=H1
 intro s1 e1
 refine ta_tup (vs:=[.int x,.int (y - 1),.int w]) ?_ (by show 3≤sizeLine;decide) fun p2 n2=>?_
 ·exact ea_cons (ev_var rfl) (ea_cons (ev_I0 (ev_var rfl) ev_c) (ea_cons (ev_var rfl) ea_nil))
 have s2:Same H1 (upd H1 p2 (.tup [.int x,.int (y - 1),.int w])):=(Same.refl H1).upd n2
 have e2:upd H1 p2 (.tup [.int x,.int (y - 1),.int w]) p2=some (.tup [.int x,.int (y - 1),.int w]):=upd_same
 revert s2 e2
 generalize upd H1 p2 (.tup [.int x,.int (y - 1),.int w])=H2
 intro s2 e2
 refine ta_tup (vs:=[.int x,.int y,.int (w - 1)]) ?_ (by show 3≤sizeLine;decide) fun p3 n3=>?_
 ·exact ea_cons (ev_var rfl) (ea_cons (ev_var rfl) (ea_cons (ev_I0 (ev_var rfl) ev_c) ea_nil))
 have s3:Same H2 (upd H2 p3 (.tup [.int x,.int y,.int (w - 1)])):=(Same.refl H2).upd n3
 have e3:upd H2 p3 (.tup [.int x,.int y,.int (w - 1)]) p3=some (.tup [.int x,.int y,.int (w - 1)]):=upd_same
 revert s3 e3
 generalize upd H2 p3 (.tup [.int x,.int y,.int (w - 1)])=H3
 intro s3 e3
 refine ta_tup (vs:=[.int x,.int y,.int (w+1)]) ?_ (by show 3≤sizeLine;decide) fun p4 n4=>?_
 ·exact ea_cons (ev_var rfl) (ea_cons (ev_var rfl) (ea_cons (ev_I0 (ev_var rfl) ev_c) ea_nil))
 have s4:Same H3 (upd H3 p4 (.tup [.int x,.int y,.int (w+1)])):=(Same.refl H3).upd n4
 have e4:upd H3 p4 (.tup [.int x,.int y,.int (w+1)]) p4=some (.tup [.int x,.int y,.int (w+1)]):=upd_same
 revert s4 e4
 generalize upd H3 p4 (.tup [.int x,.int y,.int (w+1)])=H4
 intro s4 e4
 refine ta_tup (vs:=[.int x,.int (y+1),.int w]) ?_ (by show 3≤sizeLine;decide) fun p5 n5=>?_
 ·exact ea_cons (ev_var rfl) (ea_cons (ev_I0 (ev_var rfl) ev_c) (ea_cons (ev_var rfl) ea_nil))
 have s5:Same H4 (upd H4 p5 (.tup [.int x,.int (y+1),.int w])):=(Same.refl H4).upd n5
 have e5:upd H4 p5 (.tup [.int x,.int (y+1),.int w]) p5=some (.tup [.int x,.int (y+1),.int w]):=upd_same
 revert s5 e5
 generalize upd H4 p5 (.tup [.int x,.int (y+1),.int w])=H5
 intro s5 e5
 refine ta_tup (vs:=[.int (x+1),.int y,.int w]) ?_ (by show 3≤sizeLine;decide) fun p6 n6=>?_
 ·exact ea_cons (ev_I0 (ev_var rfl) ev_c) (ea_cons (ev_var rfl) (ea_cons (ev_var rfl) ea_nil))
 have s6:Same H5 (upd H5 p6 (.tup [.int (x+1),.int y,.int w])):=(Same.refl H5).upd n6
 have e6:upd H5 p6 (.tup [.int (x+1),.int y,.int w]) p6=some (.tup [.int (x+1),.int y,.int w]):=upd_same
 revert s6 e6
 generalize upd H5 p6 (.tup [.int (x+1),.int y,.int w])=H6
 intro s6 e6
 refine⟨by show 6≤sizeLine;decide,fun l nl=>?_⟩
 have s7:Same H6 (upd H6 l (.lst [.ref p1,.ref p2,.ref p3,.ref p4,.ref p5,.ref p6])):=(Same.refl H6).upd nl
 have t16:=((((s2.trans s3).trans s4).trans s5).trans s6).trans s7
 have t26:=(((s3.trans s4).trans s5).trans s6).trans s7
 have t36:=((s4.trans s5).trans s6).trans s7
 have t46:=(s5.trans s6).trans s7
 have t56:=s6.trans s7
 refine q _ l (s1.trans t16) (fresh_of (((((s1.trans s2).trans s3).trans s4).trans s5).trans s6) nl) ⟨[p1,p2,p3,p4,p5,p6],upd_same,?_⟩
 exact .cons (t16 _ _ e1) (.cons (t26 _ _ e2) (.cons (t36 _ _ e3) (.cons (t46 _ _ e4) (.cons (t56 _ _ e5) (.cons (s7 _ _ e6) .nil)))))
theorem ok_FInit {cThing cNet cBundle cPaper cCutPaper cFloor cMS:Addr}{f:Addr}{fd:FuncData}(F:FunD K "__init__" "Floor.__init__" sFInit f fd)(T:Txt K mg cThing cNet cBundle cPaper cCutPaper cFloor cMS)(gCSizes:Callee P w K mg base "check_sizes" 1 ["sizes", "prices", "vias"] spCSizes)(gCPrices:Callee P w K mg base "check_prices" 2 ["prices", "vias", "tolls"] spCPrices)(gCInside:Callee P w K mg base "check_inside" 2 ["sizes", "spot"] spCInside):FnOk P w K mg base CX0 3 f fd ["self", "sizes", "prices", "vias", "rocks", "tolls"] (spFInit cFloor):=by
 have sc:FnScope ["self", "sizes", "prices", "vias", "rocks", "tolls", "told_rocks", "told_tolls", "spot"] ["self", "sizes", "prices", "vias", "rocks", "tolls"] (defScope sFInit):=⟨rfl,rfl,rfl,by decide+kernel,rfl,by decide+kernel,by decide+kernel⟩
 refine F.ok sc (fun vs H Q E h=>by repeat (first|(obtain⟨rfl,_⟩:=h;rfl)|(obtain⟨_,h⟩:=h))) (fun cdv A outer s H vs Q E hr h=>?_)
 obtain⟨p,dx,z,pr,vi,r,t,g,rfl,hp,hg,hz,hpr,hvi,hR,hT,q⟩:=h
 refine⟨_,(pss_cons (ps_set (i:=6) sc.nd rfl (Or.inl rfl) (pe_ifExp (pt_cmpR op_isN (pv 4) pe_non (nomark _)) (pe_lst pa_nil) (pv 4)))
 (pss_cons (ps_set (i:=7) sc.nd rfl (Or.inl rfl) (pe_ifExp (pt_cmpR op_isN (pv 5) pe_non (nomark _)) pe_dnewT (pv 5)))
 (pss_cons (ps_expr (pe_cal gCSizes (hr.mono (by decide)) (by rfl) (pa_cons (pv 1) (pa_cons (pv 2) (pa_cons (pv 3) pa_nil)))))
 (pss_cons (ps_expr (pe_cal gCPrices (hr.mono (by decide)) (by rfl) (pa_cons (pv 2) (pa_cons (pv 3) (pa_cons (pv 7) pa_nil)))))
 (pss_cons (ps_for PassesOwn.never rfl (pi_list (pv 6)) (pg_name (i:=8) sc.nd rfl (Or.inl rfl))
 (pss_one (ps_expr (pe_cal gCInside (hr.mono (by decide)) (by rfl) (pa_cons (pv 1) (pa_cons (pv 8) pa_nil))))))
 (pss_cons (ps_frz (ps_for PassesOwn.never rfl (pi_keys (pv 7)) (pg_name (i:=8) sc.nd rfl (Or.inl rfl))
 (pss_one (ps_expr (pe_cal gCInside (hr.mono (by decide)) (by rfl) (pa_cons (pv 1) (pa_cons (pv 8) pa_nil)))))))
 (pss_cons (ps_fld (pv 0) (pv 1) rfl)
 (pss_cons (ps_fld (pv 0) (pe_lc (ls:=["ahead", "across"]) (ys:=[]) (ix:=[]) rfl ⟨rfl,by rfl,by rfl,by rfl,by rfl,rfl⟩ (pi_list (pv 2)) (fun _ _ _ _ _=>(pg_tupK (K:=K) (n:=2) rfl rfl (pgs_cons (pg_name (i:=0) (show(["ahead", "across"]:List Str).Nodup by decide+kernel) rfl (Or.inl rfl) (hf:=.inr rfl)) (pgs_cons (pg_name (i:=1) (show(["ahead", "across"]:List Str).Nodup by decide+kernel) rfl (Or.inl rfl) (hf:=.inr rfl)) pgs_nil)) rfl rfl)) (fun _ _ _ _ _=>pf_nil) (fun _ _ _ _ _=>(pe_tup (pa_cons (pv 0) (pa_cons (pv 1) pa_nil))))) rfl)
 (pss_cons (ps_fld (pv 0) (pe_callTy call_list_of (by rfl) T.list_ bt_list (pa_cons (pv 3) pa_nil)) rfl)
 (pss_cons (ps_fld (pv 0) (pe_callTy (call_dictPairs rfl hr) (by rfl) T.dict_ bt_dict (pa_cons (pe_lc (ls:=["spot"]) (ys:=[]) (ix:=[]) rfl ⟨rfl,by rfl,by rfl,by rfl,by rfl,rfl⟩ (pi_list (pv 6)) (fun _ _ _ _ _=>(pg_name (i:=0) (show(["spot"]:List Str).Nodup by decide+kernel) rfl (Or.inl rfl))) (fun _ _ _ _ _=>pf_nil) (fun _ _ _ _ _=>(pe_tup (pa_cons (pv 0) (pa_cons pe_bl pa_nil))))) pa_nil)) rfl)
 (pss_one (ps_fld (pv 0) (pe_callTy call_dict (by rfl) T.dict_ bt_dict (pa_cons (pv 7) pa_nil)) rfl)))))))))))),?_⟩
 have hsz:sizeLine=2^24:=rfl
 have S:=hg.S
 have hm:=hg.m
 have hrl:=hg.rl
 have few:=hg.tt.few
 refine sq_asgQ (fun v H1=>∃ro,v=.ref ro∧Same H H1∧AtL H1 ro (g.rs.map (sN g.R g.C))) (fun Q' hQ=>?_) ?_
 ·rcases hR with ⟨rfl,e⟩|⟨ro,rfl,h⟩
  ·refine if_T (et_of (et_test (ev_isN (ev_var rfl) ev_c)) (by rfl)) ⟨Nat.zero_le _,fun d nd=>?_⟩
   exact hQ _ _ ⟨d,rfl,(Same.refl H).upd nd,[],upd_same,by rw[e];exact .nil⟩
  ·refine if_F (et_of (et_test (ev_isN (ev_var rfl) ev_c)) (by rfl)) ⟨_,rfl,?_⟩
   exact hQ _ _ ⟨ro,rfl,Same.refl H,h⟩
 rintro v1 H1 ⟨ro,rfl,s1,hro⟩
 refine sq_asgQ (fun v H2=>∃td,v=.ref td∧Same H1 H2∧H2 td=some (.dT (enc g.R g.C g.ts))) (fun Q' hQ=>?_) ?_
 ·rcases hT with ⟨rfl,e⟩|⟨td,rfl,h⟩
  ·refine if_T (et_of (et_test (ev_isN (ev_var rfl) ev_c)) (by rfl)) fun d nd=>?_
   exact hQ _ _ ⟨d,rfl,(Same.refl H1).upd nd,by rw[e];exact upd_same⟩
  ·refine if_F (et_of (et_test (ev_isN (ev_var rfl) ev_c)) (by rfl)) ⟨_,rfl,?_⟩
   exact hQ _ _ ⟨td,rfl,Same.refl H1,s1 _ _ h⟩
 rintro v2 H2 ⟨d,rfl,s2',hd2⟩
 have s2:=s1.trans s2'
 obtain⟨ps,h3,h4⟩:=hpr.same s2
 have hpl:ps.length=g.ps.length:=Paired.length h4
 have hl4:=S.l1
 have hpl2:=hg.pl
 refine⟨_,rfl,_,rfl,_,rfl,z,pr,vi,g.L,g.R,g.C,_,_,rfl,s2 _ _ hz,S,h3,by rw[List.length_map,hpl];exact hg.pl,s2 _ _ hvi,by rw[List.length_map];exact hg.vl,fun H3 s3'=>?_⟩
 have s3:=s2.trans s3'
 refine⟨_,rfl,_,rfl,_,rfl,pr,vi,d,g.ps,g.vs,_,rfl,hpr.same s3,hg.pp,s3 _ _ hvi,hg.vv,s3' _ _ hd2,?_,fun H4 s4'=>?_⟩
 ·intro x hx
  obtain⟨y,hy,rfl⟩:=List.mem_map.mp hx
  exact hg.tv y hy
 have s4:=s3.trans s4'
 have hd4:=s4' _ _ (s3' _ _ hd2)
 obtain⟨as,hro4,hrt⟩:=((hro.same s2').same s3').same s4'
 have has:as.length=g.rs.length:=by rw[Paired.length hrt,List.length_map]
 have bd:∀n,n<g.M→∃x y w:Int,sN g.R g.C n=[x,y,w]∧Ins g.L g.R g.C x y w∧Bd x y w:=fun n hn=>by
  have i:=sN_ins S (n:=n) (by have:=hg.M;omega)
  refine⟨_,_,_,rfl,i,?_⟩
  obtain⟨a1,a2,a3,a4,a5,a6⟩:=i
  have:=S.r1;have:=S.c1
  exact⟨⟨by omega,by omega⟩,⟨by omega,by omega⟩,⟨by omega,by omega⟩⟩
 refine⟨_,rfl,ro,rfl,⟨_,SqL.of hro4⟩,?_⟩
 refine for_list (K:=K) (xs:=as.map V.ref) (fun i σ H'=>∃x8:Option V,σ=[some (.ref p),some (.ref z),some (.ref pr),some (.ref vi),some r,some t,some (.ref ro),some (.ref d),x8]∧H4=H') ⟨none,rfl,rfl⟩ (fun i σ H' _ ⟨_,_,e⟩=>e▸SqL.of hro4) ?_ ?_
 ·rintro i x σ H' hx ⟨x8,rfl,rfl⟩
  obtain⟨a,ha,rfl⟩:=at_ref hx
  obtain⟨c,hc,hac⟩:=tups_at hrt ha
  obtain⟨n,hn,rfl⟩:=List.mem_map.mp (List.mem_of_getElem? hc)
  obtain⟨x,y,w,e,hi,hb⟩:=bd n (hg.rr n hn)
  rw[e] at hac
  refine gn ?_
  exact⟨_,rfl,_,rfl,z,a,g.L,g.R,g.C,x,y,w,rfl,s4 _ _ hz,hac,hi,⟨_,rfl,rfl⟩⟩
 rintro σ H' ⟨x8,rfl,rfl⟩
 refine⟨d,.dT (enc g.R g.C g.ts),hd4,trivial,fun o=>?_⟩
 refine⟨_,rfl,d,o,.dT (enc g.R g.C g.ts),rfl,upd_same,trivial,?_⟩
 have hzd:z≠d:=ne_of (s4 _ _ hz) hd4 (fun z=>nomatch z)
 refine for_keys (fun i σ H'=>∃x8:Option V,σ=[some (.ref p),some (.ref z),some (.ref pr),some (.ref vi),some r,some t,some (.ref ro),some (.ref d),x8]∧H'=upd H4 d (.frz o (.dT (enc g.R g.C g.ts)))) ⟨x8,rfl,rfl⟩ (fun i σ H' _ ⟨_,_,e⟩=>e▸upd_same) ?_ ?_
 ·rintro i x v σ H' ⟨k,b,hk,rfl,hb⟩ hi ⟨x8,rfl,rfl⟩
  obtain⟨y,hy,e⟩:=List.mem_map.mp (List.mem_of_getElem? hk)
  have e:(iK (sN g.R g.C y.1),y.2)=(k,v):=e
  cases e
  obtain⟨x,y',w,e,hi,hbd⟩:=bd y.1 (hg.tt.lt y hy)
  have hb:upd H4 d (.frz o (.dT (enc g.R g.C g.ts))) b=some (.tup ((sN g.R g.C y.1).map V.int)):=by
   have:=hb
   unfold iK at this
   rw[kV_ints] at this
   exact this
  rw[e] at hb
  refine gn ?_
  exact⟨_,rfl,_,rfl,z,b,g.L,g.R,g.C,x,y',w,rfl,(by show upd H4 d _ z=_;rw[upd_ne hzd];exact s4 _ _ hz),hb,hi,⟨_,rfl,rfl⟩⟩
 rintro σ H5 ⟨x8,rfl,rfl⟩
 refine⟨upd_same,?_⟩
 have s5':Same H4 (upd (upd H4 d (.frz o (.dT (enc g.R g.C g.ts)))) d (.dT (enc g.R g.C g.ts))):=same_thaw hd4
 revert s5'
 generalize upd (upd H4 d (.frz o (.dT (enc g.R g.C g.ts)))) d (.dT (enc g.R g.C g.ts))=H5
 intro s5'
 have s5:=s4.trans s5'
 have hd5:=s5' _ _ hd4
 have hp5:=s5 _ _ hp
 have ndp:d≠p:=ne_of hd5 hp5 (fun z=>nomatch z)
 have nzp:z≠p:=ne_of (s5 _ _ hz) hp5 (fun z=>nomatch z)
 have nrp:ro≠p:=ne_of (s5' _ _ hro4) hp5 (fun z=>nomatch z)
 have nvp:vi≠p:=ne_of (s5 _ _ hvi) hp5 (fun z=>nomatch z)
 have npp:pr≠p:=ne_of (hpr.same s5).choose_spec.1 hp5 (fun z=>nomatch z)
 refine⟨_,rfl,_,rfl,p,cFloor,dx,[],rfl,hp5,T.cl_Floor,T.na_Floor_sizes,(by decide),?_⟩
 rw[pf1]
 have b6:ButP H (upd H5 p (.ins cFloor dx [("sizes",.ref z)])) p:=(ButP.of s5).up
 have hp6:upd H5 p (.ins cFloor dx [("sizes",.ref z)]) p=some (.ins cFloor dx [("sizes",.ref z)]):=upd_same
 have hd6:upd H5 p (.ins cFloor dx [("sizes",.ref z)]) d=some (.dT (enc g.R g.C g.ts)):=by rw[upd_ne ndp];exact hd5
 have hr6:AtL (upd H5 p (.ins cFloor dx [("sizes",.ref z)])) ro (g.rs.map (sN g.R g.C)):=⟨as,by rw[upd_ne nrp];exact s5' _ _ hro4,tups_mono hrt fun b xs e=>by rw[upd_ne (ne_of (s5' _ _ e) hp5 (fun z=>nomatch z))];exact s5' _ _ e⟩
 have hv6:upd H5 p (.ins cFloor dx [("sizes",.ref z)]) vi=some (.lst (g.vs.map V.int)):=b6 _ _ nvp hvi
 have hpr6:AtL (upd H5 p (.ins cFloor dx [("sizes",.ref z)])) pr g.ps:=by
  obtain⟨as',e1,e2⟩:=hpr.same s5
  exact⟨as',by rw[upd_ne npp];exact e1,tups_mono e2 fun b xs e=>by rw[upd_ne (ne_of e hp5 (fun z=>nomatch z))];exact e⟩
 revert b6 hp6 hd6 hr6 hv6 hpr6
 generalize upd H5 p (.ins cFloor dx [("sizes",.ref z)])=H6
 intro b6 hp6 hd6 hr6 hv6 hpr6
 obtain⟨ps6,e6,t6⟩:=hpr6
 refine⟨_,rfl,pr,rfl,⟨_,SqL.of e6⟩,fun D nD=>?_⟩
 refine lc_listG (K:=K) (xs:=ps6.map V.ref) (fun i τ H'=>∃(x0 x1:Option V) (us:List Addr),τ=[x0,x1]∧Same H6 H'∧H' D=some (.lst (us.map V.ref))∧Tups H' us (g.ps.take i)∧us.length=i) ⟨none,none,[],rfl,(Same.refl H6).upd nD,upd_same,.nil,rfl⟩ (fun i τ H' _ ⟨_,_,_,_,s,_⟩=>SqL.of (s _ _ e6)) ?_ ?_
 ·rintro i x τ H' hx ⟨x0,x1,us,rfl,s,hD,hut,hul⟩
  obtain⟨a,ha,rfl⟩:=at_ref hx
  obtain⟨c,hc,hac⟩:=tups_at t6 ha
  obtain⟨u,v,rfl,_⟩:=hg.pp c (List.mem_of_getElem? hc)
  have hi:i<ps6.length:=(List.getElem?_eq_some_iff.mp ha).1
  have:=Paired.length t6
  refine⟨a,_,rfl,SqT.of (s _ _ hac),rfl,?_⟩
  refine⟨_,_,rfl,gn ?_⟩
  refine⟨_,_,rfl,gn ?_⟩
  refine⟨rfl,?_⟩
  refine lc_el ?_
  refine⟨_,rfl,_,rfl,(by show 2≤sizeLine;decide),fun t nt=>?_⟩
  have ntD:t≠D:=Ne.symm (ne_of_none hD nt)
  refine⟨us.map V.ref,(by rw[upd_ne (Ne.symm ntD)];exact hD),by rw[List.length_map];omega,_,_,us++[t],rfl,same_at (s.upd nt) nD,by rw[upd_same,List.map_append];rfl,?_,by simp[hul]⟩
  rw[take_one hc]
  exact tups_app (tups_mono hut (keep_lst hD nt)) (.cons (by rw[upd_ne ntD,upd_same];rfl) .nil)
 rintro τ H7 ⟨x0,x1,us,rfl,s7,hD7,ht7,_⟩
 rw[List.length_map,Paired.length t6,List.take_length] at ht7
 have nDp:D≠p:=Ne.symm (ne_of_none hp6 nD)
 refine⟨_,rfl,p,cFloor,dx,_,rfl,s7 _ _ hp6,T.cl_Floor,T.na_Floor_prices,(by simp),?_⟩
 rw[pf2]
 have n6:∀a,H6 a=none→H a=none:=fun a n=>by
  cases e:H a with
  |none=>rfl
  |some o=>
   by_cases ap:a=p
   ·subst ap;rw[hp6] at n;cases n
   ·rw[b6 a o ap e] at n;cases n
 have b8:ButP H (upd H7 p (.ins cFloor dx [("sizes",.ref z),("prices",.ref D)])) p:=(b6.st s7).up
 have hp8:upd H7 p (.ins cFloor dx [("sizes",.ref z),("prices",.ref D)]) p=some (.ins cFloor dx [("sizes",.ref z),("prices",.ref D)]):=upd_same
 have kp:∀a o,a≠p→H7 a=some o→upd H7 p (.ins cFloor dx [("sizes",.ref z),("prices",.ref D)]) a=some o:=fun a o n e=>by rw[upd_ne n];exact e
 have hpr8:AtL (upd H7 p (.ins cFloor dx [("sizes",.ref z),("prices",.ref D)])) D g.ps:=⟨us,kp _ _ nDp hD7,tups_mono ht7 fun b xs e=>kp _ _ (ne_of e (s7 _ _ hp6) (fun z=>nomatch z)) e⟩
 have hr8:AtL (upd H7 p (.ins cFloor dx [("sizes",.ref z),("prices",.ref D)])) ro (g.rs.map (sN g.R g.C)):=by
  obtain⟨as',e1,e2⟩:=hr6.same s7
  exact⟨as',kp _ _ nrp e1,tups_mono e2 fun b xs e=>kp _ _ (ne_of e (s7 _ _ hp6) (fun z=>nomatch z)) e⟩
 have hd8:=kp _ _ ndp (s7 _ _ hd6)
 have hv8:=kp _ _ nvp (s7 _ _ hv6)
 have n8:∀a,upd H7 p (.ins cFloor dx [("sizes",.ref z),("prices",.ref D)]) a=none→H a=none:=fun a n=>n6 a (by
  cases e:H6 a with
  |none=>rfl
  |some o=>
   by_cases ap:a=p
   ·subst ap;rw[upd_same] at n;cases n
   ·rw[kp _ _ ap (s7 _ _ e)] at n;cases n)
 revert b8 hp8 hpr8 hr8 hd8 hv8 n8
 clear kp
 generalize upd H7 p (.ins cFloor dx [("sizes",.ref z),("prices",.ref D)])=H8
 intro b8 hp8 hpr8 hr8 hd8 hv8 n8
 have nD0:H D=none:=n6 D nD
 refine⟨_,rfl,vi,_,rfl,.inl (SqL.of hv8),fun l nl=>?_⟩
 have nl0:=n8 l nl
 have s9:Same H8 (upd H8 l (.lst (g.vs.map V.int))):=(Same.refl H8).upd nl
 have hl9:upd H8 l (.lst (g.vs.map V.int)) l=some (.lst (g.vs.map V.int)):=upd_same
 revert s9 hl9
 generalize upd H8 l (.lst (g.vs.map V.int))=H9
 intro s9 hl9
 have nlp:l≠p:=Ne.symm (ne_of_none hp8 nl)
 refine⟨_,rfl,p,cFloor,dx,_,rfl,s9 _ _ hp8,T.cl_Floor,T.na_Floor_vias,(by simp),?_⟩
 rw[pf3]
 have kp:∀a o,a≠p→H9 a=some o→upd H9 p (.ins cFloor dx [("sizes",.ref z),("prices",.ref D),("vias",.ref l)]) a=some o:=fun a o n e=>by rw[upd_ne n];exact e
 have kt:∀b xs,H8 b=some (.tup xs)→upd H9 p (.ins cFloor dx [("sizes",.ref z),("prices",.ref D),("vias",.ref l)]) b=some (.tup xs):=fun b xs e=>kp _ _ (ne_of e hp8 (fun z=>nomatch z)) (s9 _ _ e)
 have bA:ButP H (upd H9 p (.ins cFloor dx [("sizes",.ref z),("prices",.ref D),("vias",.ref l)])) p:=(b8.st s9).up
 have hpA:upd H9 p (.ins cFloor dx [("sizes",.ref z),("prices",.ref D),("vias",.ref l)]) p=some (.ins cFloor dx [("sizes",.ref z),("prices",.ref D),("vias",.ref l)]):=upd_same
 have hprA:AtL (upd H9 p (.ins cFloor dx [("sizes",.ref z),("prices",.ref D),("vias",.ref l)])) D g.ps:=by
  obtain⟨as',e1,e2⟩:=hpr8
  exact⟨as',kp _ _ nDp (s9 _ _ e1),tups_mono e2 kt⟩
 have hrA:AtL (upd H9 p (.ins cFloor dx [("sizes",.ref z),("prices",.ref D),("vias",.ref l)])) ro (g.rs.map (sN g.R g.C)):=by
  obtain⟨as',e1,e2⟩:=hr8
  exact⟨as',kp _ _ nrp (s9 _ _ e1),tups_mono e2 kt⟩
 have hdA:=kp _ _ ndp (s9 _ _ hd8)
 have hlA:=kp _ _ nlp hl9
 have nA:∀a,upd H9 p (.ins cFloor dx [("sizes",.ref z),("prices",.ref D),("vias",.ref l)]) a=none→H a=none:=fun a n=>n8 a (by
  cases e:H8 a with
  |none=>rfl
  |some o=>
   by_cases ap:a=p
   ·subst ap;rw[upd_same] at n;cases n
   ·rw[kp _ _ ap (s9 _ _ e)] at n;cases n)
 revert bA hpA hprA hrA hdA hlA nA
 clear kp kt
 generalize upd H9 p (.ins cFloor dx [("sizes",.ref z),("prices",.ref D),("vias",.ref l)])=HA
 intro bA hpA hprA hrA hdA hlA nA
 obtain⟨rsA,eA,tA⟩:=hrA
 have lenA:rsA.length=g.rs.length:=by rw[Paired.length tA,List.length_map]
 refine⟨_,rfl,ro,rfl,⟨_,SqL.of eA⟩,fun D2 nD2=>?_⟩
 refine lc_listG (K:=K) (xs:=rsA.map V.ref) (fun i τ H'=>∃(x0:Option V) (es:List Addr),τ=[x0]∧Same HA H'∧H' D2=some (.lst (es.map V.ref))∧Prs H' es ((g.rs.take i).map fun n=>(iK (sN g.R g.C n),V.bl true))∧es.length=i) ⟨none,[],rfl,(Same.refl HA).upd nD2,upd_same,.nil,rfl⟩ (fun i τ H' _ ⟨_,_,_,s,_⟩=>SqL.of (s _ _ eA)) ?_ ?_
 ·rintro i x τ H' hx ⟨x0,es,rfl,s,hD,hes,hel⟩
  obtain⟨a,ha,rfl⟩:=at_ref hx
  obtain⟨c,hc,hac⟩:=tups_at tA ha
  rw[List.getElem?_map] at hc
  obtain⟨n,hn,rfl⟩:=Option.map_eq_some_iff.mp hc
  have hi:i<rsA.length:=(List.getElem?_eq_some_iff.mp ha).1
  refine gn (lc_el ?_)
  refine⟨_,rfl,(by show 2≤sizeLine;decide),fun t nt=>?_⟩
  have ntD:t≠D2:=Ne.symm (ne_of_none hD nt)
  refine⟨es.map V.ref,(by rw[upd_ne (Ne.symm ntD)];exact hD),by rw[List.length_map];omega,_,es++[t],rfl,same_at (s.upd nt) nD2,by rw[upd_same,List.map_append];rfl,?_,by simp[hel]⟩
  rw[take_one hn,List.map_append]
  exact prs_app (Prs.mono hes (keep_lst hD nt)) (.cons ⟨a,by rw[upd_ne ntD,upd_same],keep_lst hD nt _ _ (iK_at (s _ _ hac))⟩ .nil)
 rintro τ HB ⟨x0',es,rfl,sB,hDB,hes,hel⟩
 rw[List.length_map,lenA,List.take_length] at hes
 refine⟨D2,es,g.rs.map fun n=>(iK (sN g.R g.C n),V.bl true),rfl,hDB,hes,fun rd nrd=>?_⟩
 rw[rk_enc S]
 have nrd0:H rd=none:=nA rd (fresh_of sB nrd)
 have sC:Same HB (upd HB rd (.dT (enc g.R g.C (rk g.rs)))):=(Same.refl HB).upd nrd
 have hrC:upd HB rd (.dT (enc g.R g.C (rk g.rs))) rd=some (.dT (enc g.R g.C (rk g.rs))):=upd_same
 have nrdp:rd≠p:=Ne.symm (ne_of_none (sB _ _ hpA) nrd)
 revert sC hrC
 generalize upd HB rd (.dT (enc g.R g.C (rk g.rs)))=HC
 intro sC hrC
 have sAC:=sB.trans sC
 refine⟨_,rfl,p,cFloor,dx,_,rfl,sAC _ _ hpA,T.cl_Floor,T.na_Floor_rocks,(by simp),?_⟩
 rw[pf4]
 have kp:∀a o,a≠p→HC a=some o→upd HC p (.ins cFloor dx [("sizes",.ref z),("prices",.ref D),("vias",.ref l),("rocks",.ref rd)]) a=some o:=fun a o n e=>by rw[upd_ne n];exact e
 have kt:∀b xs,HA b=some (.tup xs)→upd HC p (.ins cFloor dx [("sizes",.ref z),("prices",.ref D),("vias",.ref l),("rocks",.ref rd)]) b=some (.tup xs):=fun b xs e=>kp _ _ (ne_of e hpA (fun z=>nomatch z)) (sAC _ _ e)
 have bD:ButP H (upd HC p (.ins cFloor dx [("sizes",.ref z),("prices",.ref D),("vias",.ref l),("rocks",.ref rd)])) p:=(bA.st sAC).up
 have hpD:upd HC p (.ins cFloor dx [("sizes",.ref z),("prices",.ref D),("vias",.ref l),("rocks",.ref rd)]) p=some (.ins cFloor dx [("sizes",.ref z),("prices",.ref D),("vias",.ref l),("rocks",.ref rd)]):=upd_same
 have hprD:AtL (upd HC p (.ins cFloor dx [("sizes",.ref z),("prices",.ref D),("vias",.ref l),("rocks",.ref rd)])) D g.ps:=by
  obtain⟨as',e1,e2⟩:=hprA
  exact⟨as',kp _ _ nDp (sAC _ _ e1),tups_mono e2 kt⟩
 have hdD:=kp _ _ ndp (sAC _ _ hdA)
 have hlD:=kp _ _ nlp (sAC _ _ hlA)
 have hrD:=kp _ _ nrdp hrC
 have nDD:∀a,upd HC p (.ins cFloor dx [("sizes",.ref z),("prices",.ref D),("vias",.ref l),("rocks",.ref rd)]) a=none→H a=none:=fun a n=>nA a (by
  cases e:HA a with
  |none=>rfl
  |some o=>
   by_cases ap:a=p
   ·subst ap;rw[upd_same] at n;cases n
   ·rw[kp _ _ ap (sAC _ _ e)] at n;cases n)
 revert bD hpD hprD hdD hlD hrD nDD
 clear kp kt
 generalize upd HC p (.ins cFloor dx [("sizes",.ref z),("prices",.ref D),("vias",.ref l),("rocks",.ref rd)])=HD
 intro bD hpD hprD hdD hlD hrD nDD
 refine⟨_,rfl,d,rfl,.inr ⟨_,.inl hdD,hash_tb S hg.M hg.tt,fun t nt=>?_⟩⟩
 have nt0:=nDD t nt
 have sE:Same HD (upd HD t (.dT (enc g.R g.C g.ts))):=(Same.refl HD).upd nt
 have htE:upd HD t (.dT (enc g.R g.C g.ts)) t=some (.dT (enc g.R g.C g.ts)):=upd_same
 have ntp:t≠p:=Ne.symm (ne_of_none hpD nt)
 revert sE htE
 generalize upd HD t (.dT (enc g.R g.C g.ts))=HE
 intro sE htE
 refine⟨_,rfl,p,cFloor,dx,_,rfl,sE _ _ hpD,T.cl_Floor,T.na_Floor_tolls,(by simp),?_⟩
 rw[pf5]
 refine q _ D l rd t (bD.st sE).up nD0 nl0 nrd0 nt0 ⟨⟨dx,z,upd_same,?_⟩,?_,?_,?_,?_⟩
 ·show upd HE p _ z=_
  rw[upd_ne nzp];exact sE _ _ (bD _ _ nzp hz)
 ·obtain⟨as',e1,e2⟩:=hprD
  exact⟨as',by rw[upd_ne nDp];exact sE _ _ e1,tups_mono e2 fun b xs e=>by rw[upd_ne (ne_of e hpD (fun z=>nomatch z))];exact sE _ _ e⟩
 ·rw[upd_ne nlp];exact sE _ _ hlD
 ·rw[upd_ne nrdp];exact sE _ _ hrD
 ·rw[upd_ne ntp];exact htE
theorem ok_IsRock {cThing cNet cBundle cPaper cCutPaper cFloor cMS:Addr}{f:Addr}{fd:FuncData}(F:Fun K "is_rock" "Floor.is_rock" sIsRock f fd)(T:Txt K mg cThing cNet cBundle cPaper cCutPaper cFloor cMS)(gCInside:Callee P w K mg base "check_inside" 2 ["sizes", "spot"] spCInside):FnOk P w K mg base CX0 3 f fd ["self", "spot"] (spIsRock cFloor):=by
 have sc:FnScope ["self", "spot"] ["self", "spot"] (defScope sIsRock):=⟨rfl,rfl,rfl,by decide+kernel,rfl,by decide+kernel,by decide+kernel⟩
 refine F.ok sc (fun vs H Q E h=>by repeat (first|(obtain⟨rfl,_⟩:=h;rfl)|(obtain⟨_,h⟩:=h))) (fun cdv A outer s H vs Q E hr h=>?_)
 obtain⟨p,pr,vi,rd,td,b,g,x,y,w,rfl,hF,hg,hb,hi,q⟩:=h
 refine⟨_,(pss_cons (ps_expr (pe_cal gCInside (hr.mono (by decide)) (by rfl) (pa_cons (pe_fld (pv 0) rfl) (pa_cons (pv 1) pa_nil))))
 (pss_one (ps_ret (pe_cmp (pc_din (Room.one hr) (pv 1) (pe_fld (pv 0) rfl)))))),?_⟩
 obtain⟨dx,z,h1,h2⟩:=hF.ex
 refine⟨_,rfl,p,cFloor,dx,_,_,rfl,h1,T.cl_Floor,T.na_Floor_sizes,lk1,_,rfl,z,b,g.L,g.R,g.C,x,y,w,rfl,h2,hb,hi,?_⟩
 refine⟨_,rfl,_,rfl,p,cFloor,dx,_,_,rfl,h1,T.cl_Floor,T.na_Floor_rocks,lk4,rd,_,rfl,dg (x:=[x,y,w]) (.inl hF.rd) hb,?_⟩
 rw[rk_in hg.S]
 exact q
theorem ok_IsOpen {cThing cNet cBundle cPaper cCutPaper cFloor cMS:Addr}{f:Addr}{fd:FuncData}(F:Fun K "is_open" "Floor.is_open" sIsOpen f fd)(T:Txt K mg cThing cNet cBundle cPaper cCutPaper cFloor cMS)(gInside:Callee P w K mg base "inside" 1 ["sizes", "spot"] spInside):FnOk P w K mg base CX0 2 f fd ["self", "spot"] (spIsOpen cFloor):=by
 have sc:FnScope ["self", "spot"] ["self", "spot"] (defScope sIsOpen):=⟨rfl,rfl,rfl,by decide+kernel,rfl,by decide+kernel,by decide+kernel⟩
 refine F.ok sc (fun vs H Q E h=>by repeat (first|(obtain⟨rfl,_⟩:=h;rfl)|(obtain⟨_,h⟩:=h))) (fun cdv A outer s H vs Q E hr h=>?_)
 obtain⟨p,pr,vi,rd,td,b,g,x,y,w,rfl,hF,hg,hb,q⟩:=h
 refine⟨_,(pss_one (ps_ret (pe_and (pe_cal gInside (hr.mono (by decide)) (by rfl) (pa_cons (pe_fld (pv 0) rfl) (pa_cons (pv 1) pa_nil))) (pe_one (pe_cmp (pc_dnotin (Room.one hr) (pv 1) (pe_fld (pv 0) rfl))))))),?_⟩
 obtain⟨dx,z,h1,h2⟩:=hF.ex
 refine rd_te ⟨_,rfl,p,cFloor,dx,_,_,rfl,h1,T.cl_Floor,T.na_Floor_sizes,lk1,_,rfl,z,b,g.L,g.R,g.C,x,y,w,rfl,h2,hb,_,rfl,?_⟩
 unfold opn insC at q
 by_cases hi:Ins g.L g.R g.C x y w
 ·rw[decide_eq_true hi]
  refine iteT ?_
  have d:=dg (x:=[x,y,w]) (.inl hF.rd) hb
  refine(ev_dnotin (ev_var rfl) (ev_fldT (ev_var rfl) h1 T.cl_Floor T.na_Floor_rocks lk4) d) _ ?_
  rw[rk_in hg.S]
  rw[show decide (Ins g.L g.R g.C ([x,y,w].getD 0 0) ([x,y,w].getD 1 0) ([x,y,w].getD 2 0))=true from decide_eq_true hi] at q
  exact q
 ·rw[decide_eq_false hi]
  refine iteF ?_
  rw[show decide (Ins g.L g.R g.C ([x,y,w].getD 0 0) ([x,y,w].getD 1 0) ([x,y,w].getD 2 0))=false from decide_eq_false hi] at q
  exact q
theorem ok_Priced {cThing cNet cBundle cPaper cCutPaper cFloor cMS:Addr}{f:Addr}{fd:FuncData}(F:Fun K "priced" "Floor.priced" sPriced f fd)(T:Txt K mg cThing cNet cBundle cPaper cCutPaper cFloor cMS):FnOk P w K mg base CX0 1 f fd ["self", "one", "two"] (spPriced cFloor):=by
 have sc:FnScope ["self", "one", "two", "tolls", "ahead", "across"] ["self", "one", "two"] (defScope sPriced):=⟨rfl,rfl,rfl,by decide+kernel,rfl,by decide+kernel,by decide+kernel⟩
 refine F.ok sc (fun vs H Q E h=>by repeat (first|(obtain⟨rfl,_⟩:=h;rfl)|(obtain⟨_,h⟩:=h))) (fun cdv A outer s H vs Q E hr h=>?_)
 obtain⟨p,pr,vi,rd,td,a,b,g,x,y,w,x',y',w',rfl,hF,hg,ha,hb,hi,hi',hn,q⟩:=h
 refine⟨_,(pss_cons (ps_set (i:=3) sc.nd rfl (Or.inl rfl) (pe_op op_add (pe_bm PySem.F.plainAttrs_dict PySem.F.slot_dict_get PySem.F.type_dict_get (mt_getT hr) (pe_fld (pv 0) rfl) (pa_cons (pv 1) (pa_cons pe_int pa_nil))) (pe_bm PySem.F.plainAttrs_dict PySem.F.slot_dict_get PySem.F.type_dict_get (mt_getT hr) (pe_fld (pv 0) rfl) (pa_cons (pv 2) (pa_cons pe_int pa_nil)))))
 (pss_cons (ps_if (pt_cmpR op_ne (pe_ix ix_tup (pv 1) pe_int (fun _ _=>rfl)) (pe_ix ix_tup (pv 2) pe_int (fun _ _=>rfl)) (nomark _))
 (pss_one (ps_ret (pe_op op_add (pe_ix ix_list (pe_fld (pv 0) rfl) (pe_callB (call_min2 rfl) (by rfl) T.min_ bt_min (pa_cons (pe_ix ix_tup (pv 1) pe_int (fun _ _=>rfl)) (pa_cons (pe_ix ix_tup (pv 2) pe_int (fun _ _=>rfl)) pa_nil))) (fun _ _=>rfl)) (pv 3))))
 pss_nil)
 (pss_cons (ps_asg (pe_ix ix_list (pe_fld (pv 0) rfl) (pe_ix ix_tup (pv 1) pe_int (fun _ _=>rfl)) (fun _ _=>rfl)) (pg_tup rfl (pgs_cons (pg_name (i:=4) sc.nd rfl (Or.inl rfl)) (pgs_cons (pg_name (i:=5) sc.nd rfl (Or.inl rfl)) pgs_nil))))
 (pss_one (ps_ret (pe_op op_add (pe_ifExp (pt_cmpR op_eq (pe_ix ix_tup (pv 1) pe_int (fun _ _=>rfl)) (pe_ix ix_tup (pv 2) pe_int (fun _ _=>rfl)) (nomark _)) (pv 4) (pv 5)) (pv 3))))))),?_⟩
 obtain⟨dx,z,h1,h2⟩:=hF.ex
 obtain⟨i1,i2,i3,i4,i5,i6⟩:=hi
 obtain⟨j1,j2,j3,j4,j5,j6⟩:=hi'
 have d1:=dg (x:=[x,y,w]) (.inl hF.td) ha
 have d2:=dg (x:=[x',y',w']) (.inl hF.td) hb
 refine sq_set (v:=.int (tollC g.R g.C g.ts [x,y,w]+tollC g.R g.C g.ts [x',y',w'])) (ev_I0 (ev_of (ev_getT (ev_fldT (ev_var rfl) h1 T.cl_Floor T.na_Floor_tolls lk5) (ev_var rfl) ev_c hF.td d1) (toll_getC hg.tv _)) (ev_of (ev_getT (ev_fldT (ev_var rfl) h1 T.cl_Floor T.na_Floor_tolls lk5) (ev_var rfl) ev_c hF.td d2) (toll_getC hg.tv _))) ?_
 have gvl:=hg.vl
 have gpl:=hg.pl
 have adj:x'=x∨x'=x - 1∨x'=x+1:=by
  unfold Beside rnd at hn
  simp only[List.mem_cons,List.cons.injEq,List.not_mem_nil,or_false,and_true] at hn
  omega
 refine sq_if (et_test (ev_neI (ev_ixT (v:=.int x) (ev_var rfl) ev_c (SqT.of ha) rfl) (ev_ixT (v:=.int x') (ev_var rfl) ev_c (SqT.of hb) rfl))) (fun e=>?_) (fun e=>?_)
 ·have e:x≠x':=by simpa using e
  have hm:(min x x').toNat<g.vs.length:=by omega
  have at_:atI (g.vs.map V.int) (if x'<x then x' else x)=some (.int (g.vs.getD (min x x').toNat 0)):=by
   rw[mn_if]
   have:min x x'=(((min x x').toNat:Nat):Int):=by omega
   rw[this]
   refine atI_nat ?_
   rw[Int.toNat_natCast,List.getElem?_map,List.getD_eq_getElem?_getD,List.getElem?_eq_getElem hm];rfl
  refine rd_ret (ev_of (ev_I0 (ev_ixL (v:=.int (g.vs.getD (min x x').toNat 0)) (ev_fldT (ev_var rfl) h1 T.cl_Floor T.na_Floor_vias lk3) (ev_cb (v:=.int (if x'<x then x' else x)) (ea_cons (ev_ixT (v:=.int x) (ev_var rfl) ev_c (SqT.of ha) rfl) (ea_cons (ev_ixT (v:=.int x') (ev_var rfl) ev_c (SqT.of hb) rfl) ea_nil)) fun Q' q'=>⟨_,_,rfl,q'⟩) (SqL.of hF.vi) at_) (ev_var rfl)) (c:=.int (price g [x,y,w] [x',y',w'])) ?_) q
  unfold price bare
  rw[if_pos (show [x,y,w].getD 0 0≠[x',y',w'].getD 0 0 from e)]
  show V.int (_+_)=V.int _
  congr 1
  exact Int.add_comm _ _
 ·have e:x=x':=by simpa using e
  obtain⟨as,p1,p2⟩:=hF.pr
  have hx:x.toNat<g.ps.length:=by omega
  have hxa:x.toNat<as.length:=by rw[Paired.length p2];exact hx
  obtain⟨aa,haa⟩:∃aa,as[x.toNat]?=some aa:=⟨_,List.getElem?_eq_getElem hxa⟩
  obtain⟨c,hc,hac⟩:=tups_at p2 haa
  obtain⟨u,v,rfl,_⟩:=hg.pp c (List.mem_of_getElem? hc)
  have hgd:g.ps.getD x.toNat []=[u,v]:=by rw[List.getD_eq_getElem?_getD,hc];rfl
  have at_:atI (as.map V.ref) x=some (.ref aa):=by
   have:x=((x.toNat:Nat):Int):=by omega
   rw[this]
   refine atI_nat ?_
   rw[List.getElem?_map,haa];rfl
  refine⟨_,rfl,p,cFloor,dx,_,_,rfl,h1,T.cl_Floor,T.na_Floor_prices,lk2,_,rfl,_,_,_,_,rfl,rfl,SqT.of ha,rfl,_,_,_,_,rfl,rfl,SqL.of p1,at_,aa,_,rfl,SqT.of hac,rfl,_,_,rfl,_,_,rfl,rfl,?_⟩
  have hbare:bare g [x,y,w] [x',y',w']=if y=y' then u else v:=by
   unfold bare
   rw[if_neg (show¬[x,y,w].getD 0 0≠[x',y',w'].getD 0 0 from fun h=>h e)]
   show(if y=y' then (g.ps.getD x.toNat []).getD 0 0 else (g.ps.getD x.toNat []).getD 1 0)=_
   rw[hgd];rfl
  have hpr:price g [x,y,w] [x',y',w']=(if y=y' then u else v)+(tollC g.R g.C g.ts [x,y,w]+tollC g.R g.C g.ts [x',y',w']):=by
   unfold price
   rw[hbare];exact Int.add_comm _ _
  rw[hpr] at q
  refine st ?_
  refine rd_te (te_op ?_)
  by_cases hy:y=y'
  ·rw[if_pos hy] at q
   refine if_T (et_of (et_test (ev_eqI (ev_ixT (v:=.int y) (ev_var rfl) ev_c (SqT.of ha) rfl) (ev_ixT (v:=.int y') (ev_var rfl) ev_c (SqT.of hb) rfl))) (decide_eq_true hy)) ?_
   exact⟨_,rfl,_,rfl,_,_,rfl,rfl,q⟩
  ·rw[if_neg hy] at q
   refine if_F (et_of (et_test (ev_eqI (ev_ixT (v:=.int y) (ev_var rfl) ev_c (SqT.of ha) rfl) (ev_ixT (v:=.int y') (ev_var rfl) ev_c (SqT.of hb) rfl))) (decide_eq_false hy)) ?_
   exact⟨_,rfl,_,rfl,_,_,rfl,rfl,q⟩
theorem ok_Steps {cThing cNet cBundle cPaper cCutPaper cFloor cMS:Addr}{f:Addr}{fd:FuncData}(F:Fun K "steps" "Floor.steps" sSteps f fd)(T:Txt K mg cThing cNet cBundle cPaper cCutPaper cFloor cMS)(gRound:Callee P w K mg base "spots_round" 1 ["spot"] spRound)(gIsRock:MCallee P w K mg base cFloor "is_rock" 3 ["self", "spot"] (spIsRock cFloor))(gIsOpen:MCallee P w K mg base cFloor "is_open" 2 ["self", "spot"] (spIsOpen cFloor))(gPriced:MCallee P w K mg base cFloor "priced" 1 ["self", "one", "two"] (spPriced cFloor)):FnOk P w K mg base CX0 4 f fd ["self", "spot"] (spSteps cFloor):=by
 have sc:FnScope ["self", "spot"] ["self", "spot"] (defScope sSteps):=⟨rfl,rfl,rfl,by decide+kernel,rfl,by decide+kernel,by decide+kernel⟩
 refine F.ok sc (fun vs H Q E h=>by repeat (first|(obtain⟨rfl,_⟩:=h;rfl)|(obtain⟨_,h⟩:=h))) (fun cdv A outer s H vs Q E hr h=>?_)
 obtain⟨p,pr,vi,rd,td,b,g,x,y,w,rfl,hF,hg,hb,hi,q⟩:=h
 refine⟨_,(pss_cons (ps_if (pt_val (pe_met (pv 0) T.cl_Floor gIsRock (hr.mono (by decide)) (pa_cons (pv 1) pa_nil)))
 (pss_one (ps_ret (pe_lst pa_nil)))
 pss_nil)
 (pss_one (ps_ret (pe_lc (ls:=["other"]) (ys:=["spot", "self"]) (ix:=[1,0]) rfl ⟨rfl,by rfl,by rfl,by rfl,by rfl,rfl⟩ (pi_list (pe_cal gRound (hr.mono (by decide)) (by rfl) (pa_cons (pv 1) pa_nil))) (fun _ _ _ _ _=>(pg_name (i:=0) (show(["other", "spot", "self"]:List Str).Nodup by decide+kernel) rfl (Or.inl rfl))) (fun _ _ _ _ _=>(pf_one (pt_val (pe_met (pv 2) (by exact T.cl_Floor) (by exact gIsOpen) (by exact(hr.mono (by decide))) (pa_cons (pv 0) pa_nil))))) (fun _ _ _ _ _=>(pe_tup (pa_cons (pv 0) (pa_cons (pe_met (pv 2) (by exact T.cl_Floor) (by exact gPriced) (by exact(hr.mono (by decide))) (pa_cons (pv 1) (pa_cons (pv 0) pa_nil))) pa_nil)))))))),?_⟩
 have hsz:sizeLine=2^24:=rfl
 obtain⟨dx,z,h1,h2⟩:=hF.ex
 refine sq_ifof ⟨_,rfl,p,dx,_,rfl,h1,ln6,_,rfl,p,pr,vi,rd,td,b,g,x,y,w,rfl,hF,hg,hb,hi,_,rfl,?_⟩
 by_cases hr:rkC g [x,y,w]=true
 ·rw[hr]
  refine iteT ?_
  refine⟨Nat.zero_le _,fun l nl=>q _ l ((Same.refl H).upd nl) nl ⟨[],upd_same,?_⟩⟩
  unfold stepsL
  rw[if_pos hr];exact .nil
 ·rw[show rkC g [x,y,w]=false by simpa using hr]
  refine iteF ?_
  refine rd_te ⟨_,rfl,b,x,y,w,rfl,hb,fun H1 l s1 nl hl=>?_⟩
  obtain⟨as,e1,e2⟩:=hl
  refine⟨l,rfl,⟨_,SqL.of e1⟩,fun D nD=>?_⟩
  refine lc_pickP (K:=K) (opn g) (fun c=>price g [x,y,w] c) [some (.ref b),some (.ref p)] nD (fun H' s=>SqL.of (s _ _ e1)) e2 (by rw[Paired.length e2];unfold rnd;simp) (fun a c H' hc e s=>?_) fun H' qs s hD hq=>?_
  ·have s2:=s1.trans s
   obtain⟨x',y',w',rfl⟩:∃x' y' w',c=[x',y',w']:=by
    unfold rnd at hc
    simp only[List.mem_cons,List.not_mem_nil,or_false] at hc
    rcases hc with h|h|h|h|h|h<;>exact⟨_,_,_,h⟩
   refine⟨et_B fun Q' q'=>⟨_,rfl,p,dx,_,rfl,s2 _ _ h1,ln9,_,rfl,p,pr,vi,rd,td,a,g,x',y',w',rfl,hF.same s2,hg,s _ _ e,q'⟩,fun ho=>fun Q' q'=>?_⟩
   have hi':Ins g.L g.R g.C x' y' w':=by
    unfold opn insC at ho
    rw[Bool.and_eq_true] at ho
    exact of_decide_eq_true ho.1
   exact⟨_,rfl,p,dx,_,rfl,s2 _ _ h1,ln10,_,rfl,_,rfl,p,pr,vi,rd,td,b,a,g,x,y,w,x',y',w',rfl,hF.same s2,hg,s2 _ _ hb,s _ _ e,hi,hi',hc,q'⟩
  ·refine q H' D (s1.trans s) (fresh_of s1 nD) ⟨qs,hD,?_⟩
   unfold stepsL
   rw[if_neg hr]
   exact hq
theorem ok_Name {cThing cNet cBundle cPaper cCutPaper cFloor cMS:Addr}{f:Addr}{fd:FuncData}(F:Fun K "is_name" "is_name" sName f fd)(T:Txt K mg cThing cNet cBundle cPaper cCutPaper cFloor cMS):FnOk P w K mg base CX0 1 f fd ["name"] spName:=by
 have sc:FnScope ["name"] ["name"] (defScope sName):=⟨rfl,rfl,rfl,by decide+kernel,rfl,by decide+kernel,by decide+kernel⟩
 refine F.ok sc (fun vs H Q E h=>by repeat (first|(obtain⟨rfl,_⟩:=h;rfl)|(obtain⟨_,h⟩:=h))) (fun cdv A outer s H vs Q E hr h=>?_)
 obtain⟨x,rfl,nm,q⟩:=h
 refine⟨_,(pss_cons (ps_if (pw_or (pt_not (pt_chain op_le op_le pe_int (pe_callB call_len (by rfl) T.len_ bt_len (pa_cons (pv 0) pa_nil)) (pe_const (by rfl) (by exact T.g_MOST_SIGNS)))) (pw_or1 (pt_cmpR op_notin_str (pe_ix ix_str (pv 0) pe_int (fun _ _=>rfl)) (pe_const (by rfl) (by exact T.g_LETTERS)) (by with_unfolding_all rfl)))).pt
 (pss_one (ps_ret pe_bl))
 pss_nil)
 (pss_one (ps_ret (pe_callB (call_all rfl) (by rfl) T.all_ bt_all (pa_cons (pe_lc (ls:=["sign"]) (ys:=[]) (ix:=[]) rfl ⟨rfl,by rfl,by rfl,by rfl,by rfl,rfl⟩ (pi_str (pv 0)) (fun _ _ _ _ _=>(pg_name (i:=0) (show(["sign"]:List Str).Nodup by decide+kernel) rfl (Or.inl rfl))) (fun _ _ _ _ _=>pf_nil) (fun _ _ _ _ _=>(pe_or (pe_cmpR op_in_str (pv 0) (pe_const (by rfl) (by exact T.g_LETTERS)) (by with_unfolding_all rfl)) (pe_one (pe_cmpR op_in_str (pv 0) (pe_const (by rfl) (by exact T.g_FIGURES)) (by with_unfolding_all rfl)))))) pa_nil))))),?_⟩
 have hsz:sizeLine=2^24:=rfl
 have hlo:=nm.lo
 have hhi:=nm.hi
 obtain⟨c,r,hcr,hcl⟩:=nm.fst
 refine sq_ifF (et_orF (et_notF (et_of (et_test (ev_chain ev_c (ev_lenS (ev_var rfl) (by omega)) ev_c)) ?_)) (et_test (ev_notinS (ev_ixS (c:=c) (ev_var rfl) ev_c (by omega) (by rw[hcr];exact atI_nat (j:=0) rfl)) ev_c))) ?_ ?_
 ·rw[decide_eq_true (by omega),decide_eq_true (by omega)];rfl
 ·have:c∈cp (Str.ofString "abcdefghijklmnopqrstuvwxyz"):=hcl
  rw[decide_eq_true this];rfl
 refine⟨_,rfl,x,rfl,nm.as,fun D nD=>?_⟩
 refine lc_str (fun i τ H'=>∃x0:Option V,τ=[x0]∧H'=upd H D (.lst ((List.replicate i true).map V.bl))) ⟨none,rfl,rfl⟩ ?_ ?_
 ·rintro i d τ H2 hd ⟨x0,rfl,rfl⟩
  have hi:i<x.length:=by have:=(List.getElem?_eq_some_iff.mp hd).1;rw[cp_len] at this;exact this
  refine gn (lc_el ?_)
  refine(ev_of (ev_or (ev_inS (c:=d) (ev_var rfl) ev_c) fun _=>ev_inS (c:=d) (ev_var rfl) ev_c) (c:=.bl true) ?_) _ ⟨_,upd_same,by simp;omega,_,rfl,?_⟩
  ·rcases nm.all d (List.mem_of_getElem? hd) with z|z
   ·have z':d∈cp (Str.ofString "abcdefghijklmnopqrstuvwxyz"):=z
    rw[decide_eq_true z'];rfl
   ·have z':d∈cp (Str.ofString "0123456789"):=z
    rw[decide_eq_true z',Bool.or_true]
  ·rw[upd_upd,List.replicate_succ',List.map_append];rfl
 ·rintro τ H2 ⟨x0,rfl,rfl⟩
  refine⟨D,List.replicate x.length true,rfl,SqL.of upd_same,?_⟩
  have e:(List.replicate x.length true).all id=true:=by rw[List.all_eq_true];intro b hb;rw[List.eq_of_mem_replicate hb];rfl
  rw[e]
  exact q _ ((Same.refl H).upd nD)
theorem ok_TInit {cThing cNet cBundle cPaper cCutPaper cFloor cMS:Addr}{f:Addr}{fd:FuncData}(F:Fun K "__init__" "Thing.__init__" sTInit f fd)(hB:K.In base)(T:Txt K mg cThing cNet cBundle cPaper cCutPaper cFloor cMS)(gName:Callee P w K mg base "is_name" 1 ["name"] spName):FnOk P w K mg base CX0 2 f fd ["self", "name", "half", "room"] (spTInit cNet cBundle):=by
 have sc:FnScope ["self", "name", "half", "room"] ["self", "name", "half", "room"] (defScope sTInit):=⟨rfl,rfl,rfl,by decide+kernel,rfl,by decide+kernel,by decide+kernel⟩
 refine F.ok sc (fun vs H Q E h=>by repeat (first|(obtain⟨rfl,_⟩:=h;rfl)|(obtain⟨_,h⟩:=h))) (fun cdv A outer s H vs Q E hr h=>?_)
 obtain⟨p,C,dx,x,h,r,rfl,hp,hC,nm,h0,h2,r0,r3,q⟩:=h
 refine⟨_,(pss_cons (ps_if (pt_not (pt_val (pe_cal gName (hr.mono (by decide)) (by rfl) (pa_cons (pv 1) pa_nil))))
 (pss_one ps_never)
 pss_nil)
 (pss_cons (ps_if (pt_not (pt_chain op_le op_le pe_int (pv 2) (pe_const (by rfl) (by exact T.g_MOST_HALF))))
 (pss_one ps_never)
 pss_nil)
 (pss_cons (ps_if (pt_not (pt_chain op_le op_le pe_int (pv 3) (pe_const (by rfl) (by exact T.g_MOST_ROOM))))
 (pss_one ps_never)
 pss_nil)
 (pss_cons (ps_fld (pv 0) (pv 1) rfl)
 (pss_cons (ps_fld (pv 0) (pv 2) rfl)
 (pss_one (ps_fld (pv 0) (pv 3) rfl))))))),?_⟩
 have kc:Cls K C∧NoAttr K C "name" ∧NoAttr K C "half" ∧NoAttr K C "room" :=by rcases hC with rfl|rfl<;>first|exact⟨T.cl_Net,T.na_Net_name,T.na_Net_half,T.na_Net_room⟩|exact⟨T.cl_Bundle,T.na_Bundle_name,T.na_Bundle_half,T.na_Bundle_room⟩
 refine sq_ifof ⟨_,rfl,x,rfl,nm,fun H1 s1=>⟨_,rfl,?_⟩⟩
 refine iteF ?_
 refine sq_ifF (et_notF (et_of (et_test (ev_chain ev_c (ev_var rfl) ev_c)) (by rw[decide_eq_true h0,decide_eq_true h2];rfl))) rfl ?_
 refine sq_ifF (et_notF (et_of (et_test (ev_chain ev_c (ev_var rfl) ev_c)) (by rw[decide_eq_true r0,decide_eq_true r3];rfl))) rfl ?_
 refine⟨_,rfl,_,rfl,p,C,dx,[],rfl,s1 _ _ hp,kc.1,kc.2.1,(by decide),?_⟩
 refine⟨_,rfl,_,rfl,p,C,dx,_,rfl,upd_same,kc.1,kc.2.2.1,Nat.lt_of_le_of_lt (length_putF _ _ _) (by decide),?_⟩
 refine⟨_,rfl,_,rfl,p,C,dx,_,rfl,upd_same,kc.1,kc.2.2.2,Nat.lt_of_le_of_lt (Nat.le_trans (length_putF _ _ _) (Nat.succ_le_succ (length_putF _ _ _))) (by decide),?_⟩
 refine q _ _ (fun b o hb e=>?_) upd_same ⟨Nat.le_trans (Nat.le_trans (length_putF _ _ _) (Nat.succ_le_succ (Nat.le_trans (length_putF _ _ _) (Nat.succ_le_succ (length_putF _ _ _))))) (by decide),?_,?_⟩ (Nat.le_trans (length_putF _ _ _) (Nat.succ_le_succ (Nat.le_trans (length_putF _ _ _) (Nat.succ_le_succ (length_putF _ _ _)))))
 ·rw[upd_ne hb,upd_ne hb,upd_ne hb];exact s1 _ _ e
 ·rw[lookup_putF,if_neg (by decide+kernel),lookup_putF,if_pos rfl]
 ·rw[lookup_putF,if_pos rfl]
theorem cut1 {xs:List V}:cutV xs (some 1) none=xs.drop 1:=by
 unfold cutV
 rw[HT.sIx_none,show(some (1:Int))=some ((1:Nat):Int) from rfl,HT.sIx_nat,List.take_of_length_le (by rw[List.length_drop];omega)]
 cases xs with
 |nil=>rfl
 |cons a r=>rw[Nat.min_eq_left (by simp)]
theorem known_val (o:T3)(cs:List T3):(valV (mkD (cs.map fun c=>(iK c,V.bl true))) (iK o)).isSome=decide (o∈cs):=by
 induction cs using snoc_ind with
 |h0=>simp[mkD,valV_nil]
 |h1 xs x ih=>
  rw[List.map_append,List.map_singleton,mkD_snoc,valV_put]
  by_cases e:o=x
  ·simp[e]
  ·rw[if_neg (fun z=>e (iK_inj z)),ih]
   simp[e]
theorem any_flt (p q:T3×Int→Bool):∀l:List (T3×Int),l.any (fun x=>p x&&!q x)=!(l.filter p).all q
 |[]=>rfl
 |x::l=>by
  rw[List.any_cons,any_flt p q l]
  cases e:p x with
  |true=>rw[List.filter_cons_of_pos e,List.all_cons];cases q x<;>simp
  |false=>rw[List.filter_cons_of_neg (by rw[e];decide)];simp
theorem shu_any (g:Gd)(F:List (Nat×V))(cs:List T3)(c:T3):(stepsL g c).any (fun x=>inF g.R g.C F x.1&&!decide (x.1∈cs))=!shu g F cs c:=by
 unfold shu leadL
 exact any_flt (fun x=>inF g.R g.C F x.1) (fun x=>decide (x.1∈cs)) _
theorem inc_two {cs:List T3}{i:Nat}{c d:T3}(h1:cs[i]?=some c)(h2:cs[i+1]?=some d):inc (cs.drop i)=(HT.lexLt c d&&inc (cs.drop (i+1))):=by
 have a:=List.getElem?_eq_some_iff.mp h1
 have b:=List.getElem?_eq_some_iff.mp h2
 rw[List.drop_eq_getElem_cons a.1,List.drop_eq_getElem_cons b.1,a.2,b.2]
 rfl
theorem inc_end {cs:List T3}{i:Nat}(h:cs.length≤i+1):inc (cs.drop i)=true:=by
 have hl:(cs.drop i).length≤1:=by rw[List.length_drop];omega
 generalize cs.drop i=r at hl
 match r,hl with
 |[],_=>rfl
 |[_],_=>rfl
theorem cut_to (xs:List V)(k:Nat)(h:k≤xs.length):cutV xs none (some (k:Int))=xs.take k:=by
 unfold cutV
 rw[HT.sIx_none,HT.sIx_nat,Nat.min_eq_left h,List.drop_zero,Nat.sub_zero]
theorem at_of {xs:List Addr}{i:Int}(h0:0≤i)(h1:i<xs.length):∃b,xs[i.toNat]?=some b∧atI (xs.map V.ref) i=some (.ref b):=by
 obtain⟨n,rfl⟩:=Int.eq_ofNat_of_zero_le h0
 have hi:n<xs.length:=by omega
 refine⟨xs[n],List.getElem?_eq_getElem hi,atI_nat ?_⟩
 rw[List.getElem?_map,List.getElem?_eq_getElem hi];rfl
theorem num_at {R C:Int}{H:Hp}{as:List Addr}{rs:List Nat}(h:Tups H as (rs.map (sN R C))){j:Nat}{a:Addr}(ha:as[j]?=some a):∃k,rs[j]?=some k∧H a=some (.tup ((sN R C k).map V.int)):=by
 obtain⟨c,hc,hac⟩:=tups_at h ha
 rw[List.getElem?_map] at hc
 obtain⟨k,hk,rfl⟩:=Option.map_eq_some_iff.mp hc
 exact⟨k,hk,hac⟩
theorem P3.app {a b:List T3}(h:P3 a)(h':P3 b):P3 (a++b):=fun c hc=>(List.mem_append.mp hc).elim (h c) (h' c)
theorem P3.sub {a b:List T3}(h:P3 a)(s:∀c∈b,c∈a):P3 b:=fun c hc=>h c (s c hc)
theorem P3.nums {R C:Int}{rs:List Nat}:P3 (rs.map (sN R C)):=fun d hd=>by
 obtain⟨n,_,rfl⟩:=List.mem_map.mp hd
 exact⟨_,_,_,rfl⟩
theorem P3.one {x y w:Int}:P3 [[x,y,w]]:=fun d hd=>⟨x,y,w,List.mem_singleton.mp hd⟩
theorem P3.ne {a:List T3}(h:P3 a):∀c∈a,c≠[]:=fun c hc=>by
 obtain⟨x,y,w,rfl⟩:=h c hc
 exact fun z=>nomatch z
theorem te_lstA {ta:TA}{σ:St}{H:Hp}{Q:VK}(h:ta σ H fun xs H1=>xs.length≤sizeLine∧∀p,H1 p=none→Q (.ref p) (upd H1 p (.lst xs))):tLst ta σ H Q:=h
theorem ta_ev {te:TE}{tr:TA}{σ:St}{H:Hp}{v:V}{Q:List V→Hp→Prop}(h:Ev te σ H v)(q:tr σ H fun xs H2=>Q (v::xs) H2):tCons te tr σ H Q:=h _ q
theorem sq_asgH {te:TE}{n:Nat}{u:TS}{D:Ends}{σ:St}{H:Hp}(h:∀R:VK,(∀v H1,u D (σ.set n (some v)) H1→R v H1)→te σ H R):tSeq (tAsg te (gName n)) u D σ H:=h _ fun _ _ z=>z
theorem sq_hide {t u:TS}{D:Ends}{σ:St}{H:Hp}(h:∀R:St→Hp→Prop,(∀σ H,u D σ H→R σ H)→t {D with nx:=R} σ H):tSeq t u D σ H:=h _ fun _ _ z=>z
theorem nrm {X:St→Hp→Prop}{σ σ':St}{H:Hp}(e:σ=σ')(h:X σ' H):X σ H:=e▸h
theorem key_num {R C:Int}{H:Hp}{ps:List (Nat×V)}{i:Nat}{x v:V}(h:KeyAt H (.dT (enc R C ps)) i x v):∃(y:Nat×V) (b:Addr),ps[i]?=some y∧x=.ref b∧v=y.2∧SpN R C H b y.1:=by
 obtain⟨k,b,hk,rfl,hb⟩:=h
 rw[show enc R C ps=ps.map fun p=>(iK (sN R C p.1),p.2) from rfl,List.getElem?_map] at hk
 obtain⟨y,hy,ey⟩:=Option.map_eq_some_iff.mp hk
 have ey:(iK (sN R C y.1),y.2)=(k,v):=ey
 cases ey
 refine⟨y,b,hy,rfl,rfl,?_⟩
 have:=hb
 unfold iK at this
 rw[kV_ints] at this
 exact this
theorem tups_rev {H:Hp}{as:List Addr}{cs:List T3}(h:Tups H as cs):Tups H as.reverse cs.reverse:=by
 induction h with
 |nil=>exact .nil
 |cons r _ ih=>rw[List.reverse_cons,List.reverse_cons];exact tups_app ih (.cons r .nil)
theorem ok_Unlike {cThing cNet cBundle cPaper cCutPaper cFloor cMS:Addr}{f:Addr}{fd:FuncData}(F:Fun K "check_unlike" "check_unlike" sUnlike f fd)(hB:K.In base)(T:Txt K mg cThing cNet cBundle cPaper cCutPaper cFloor cMS):FnOk P w K mg base CX0 1 f fd ["spots"] spUnlike:=by
 have sc:FnScope ["spots"] ["spots"] (defScope sUnlike):=⟨rfl,rfl,rfl,by decide+kernel,rfl,by decide+kernel,by decide+kernel⟩
 refine F.ok sc (fun vs H Q E h=>by repeat (first|(obtain⟨rfl,_⟩:=h;rfl)|(obtain⟨_,h⟩:=h))) (fun cdv A outer s H vs Q E hr h=>?_)
 obtain⟨l,as,cs,rfl,hl,ht,hfew,hok,q⟩:=h
 refine⟨_,(pss_one (ps_if (pt_cmpR op_ne (pe_callB call_lenSt (by rfl) T.len_ bt_len (pa_cons (pe_callTy (call_setN rfl hr) (by rfl) T.set_ bt_set (pa_cons (pv 0) pa_nil)) pa_nil)) (pe_callB call_len (by rfl) T.len_ bt_len (pa_cons (pv 0) pa_nil)) (nomark _))
 (pss_one ps_never)
 pss_nil)),?_⟩
 refine if_of ⟨_,rfl,l,as,cs,rfl,SqL.of hl,ht,hfew,hok,fun p np=>⟨p,cs.length,rfl,upd_same,by omega,_,rfl,_,_,rfl,.inl ⟨_,SqL.of (by rw[upd_ne (ne_of_none hl np)];exact hl),rfl⟩,rfl,_,rfl,?_⟩⟩
 have e:(!decide (V.int (cs.length:Nat)=V.int ((as.map V.ref).length:Nat)))=false:=by
  rw[List.length_map,show as.length=cs.length from Paired.length ht];simp
 rw[e]
 exact iteF (q _ ((Same.refl H).upd np))
theorem ok_NInit {cThing cNet cBundle cPaper cCutPaper cFloor cMS:Addr}{f:Addr}{fd:FuncData}(F:FunD K "__init__" "Net.__init__" sNInit f fd)(hB:K.In base)(T:Txt K mg cThing cNet cBundle cPaper cCutPaper cFloor cMS)(gUnlike:Callee P w K mg base "check_unlike" 1 ["spots"] spUnlike)(gTInit:ClsCallee P w K mg base cThing "__init__" 2 ["self", "name", "half", "room"] (spTInit cNet cBundle)):FnOk P w K mg base CX0 3 f fd ["self", "name", "pins", "half", "room"] (spNInit cNet):=by
 have sc:FnScope ["self", "name", "pins", "half", "room"] ["self", "name", "pins", "half", "room"] (defScope sNInit):=⟨rfl,rfl,rfl,by decide+kernel,rfl,by decide+kernel,by decide+kernel⟩
 refine F.ok sc (fun vs H Q E h=>by repeat (first|(obtain⟨rfl,_⟩:=h;rfl)|(obtain⟨_,h⟩:=h))) (fun cdv A outer s H vs Q E hr h=>?_)
 obtain⟨p,dx,l,as,cs,x,h,r,rfl,hp,hl,ht,hok,l2,l6,nm,h0,h2,r0,r3,q⟩:=h
 refine⟨_,(pss_cons (ps_expr (pe_clsC (pe_globC (by rfl) T.mg_Thing) gTInit (hr.mono (by decide)) (pa_cons (pv 0) (pa_cons (pv 1) (pa_cons (pv 3) (pa_cons (pv 4) pa_nil))))))
 (pss_cons (ps_if (pt_not (pt_chain op_le op_le pe_int (pe_callB call_len (by rfl) T.len_ bt_len (pa_cons (pv 2) pa_nil)) (pe_const (by rfl) (by exact T.g_MOST_PINS))))
 (pss_one ps_never)
 pss_nil)
 (pss_cons (ps_expr (pe_cal gUnlike (hr.mono (by decide)) (by rfl) (pa_cons (pv 2) pa_nil)))
 (pss_one (ps_fld (pv 0) (pe_callTy call_tuple_of (by rfl) T.tuple_ bt_tuple (pa_cons (pv 2) pa_nil)) rfl))))),?_⟩
 have nlp:l≠p:=ne_of hl hp (fun z=>nomatch z)
 have len:as.length=cs.length:=Paired.length ht
 refine⟨_,rfl,_,rfl,_,rfl,_,rfl,p,cNet,dx,x,h,r,rfl,hp,.inl rfl,nm,h0,h2,r0,r3,fun H1 fs b1 hp1 bs few=>?_⟩
 have hl1:=b1 _ _ nlp hl
 have ht1:Tups H1 as cs:=Paired.mapP ht fun a c e=>b1 _ _ (ne_of e hp (fun z=>nomatch z)) e
 refine st ?_
 refine sq_ifF (et_notF (et_of (et_test (ev_chain ev_c (ev_cb (ea_cons (ev_var rfl) ea_nil) fun Q' q'=>⟨_,_,rfl,.inl ⟨_,SqL.of hl1,rfl⟩,q'⟩) ev_c)) ?_)) rfl ?_
 ·rw[List.length_map,decide_eq_true (by omega),decide_eq_true (by omega)];rfl
 refine⟨_,rfl,l,as,cs,rfl,hl1,ht1,by omega,hok,fun H2 s2=>?_⟩
 refine⟨_,rfl,l,_,rfl,.inl ⟨SqL.of (s2 _ _ hl1),fun t nt=>?_⟩⟩
 have hp2:=s2 _ _ hp1
 refine⟨_,rfl,p,cNet,dx,fs,rfl,by rw[upd_ne (ne_of_none hp2 nt)];exact hp2,T.cl_Net,T.na_Net_pins,by have:=bs.few;omega,?_⟩
 have ntp:t≠p:=fun z=>by rw[z,hp2] at nt;cases nt
 refine q _ _ t (fun b o hb e=>?_) upd_same (by rw[lookup_putF,if_pos rfl]) (by rw[upd_ne ntp,upd_same])
 have e2:=s2 _ _ (b1 _ _ hb e)
 rw[upd_ne hb,upd_ne (ne_of_none e2 nt)];exact e2
theorem ok_BInit {cThing cNet cBundle cPaper cCutPaper cFloor cMS:Addr}{f:Addr}{fd:FuncData}(F:FunD K "__init__" "Bundle.__init__" sBInit f fd)(hB:K.In base)(T:Txt K mg cThing cNet cBundle cPaper cCutPaper cFloor cMS)(gUnlike:Callee P w K mg base "check_unlike" 1 ["spots"] spUnlike)(gTInit:ClsCallee P w K mg base cThing "__init__" 2 ["self", "name", "half", "room"] (spTInit cNet cBundle)):FnOk P w K mg base CX0 3 f fd ["self", "name", "starts", "goals", "room"] (spBInit cBundle):=by
 have sc:FnScope ["self", "name", "starts", "goals", "room"] ["self", "name", "starts", "goals", "room"] (defScope sBInit):=⟨rfl,rfl,rfl,by decide+kernel,rfl,by decide+kernel,by decide+kernel⟩
 refine F.ok sc (fun vs H Q E h=>by repeat (first|(obtain⟨rfl,_⟩:=h;rfl)|(obtain⟨_,h⟩:=h))) (fun cdv A outer s H vs Q E hr h=>?_)
 obtain⟨p,dx,l,m,as,bs,cs,ds,x,r,rfl,hp,hl,hm,ht,hu,hok,l1,l6,lg,g12,nm,r0,r3,q⟩:=h
 refine⟨_,(pss_cons (ps_expr (pe_clsC (pe_globC (by rfl) T.mg_Thing) gTInit (hr.mono (by decide)) (pa_cons (pv 0) (pa_cons (pv 1) (pa_cons pe_int (pa_cons (pv 4) pa_nil))))))
 (pss_cons (ps_if (pt_not (pt_chain op_le op_le pe_int (pe_callB call_len (by rfl) T.len_ bt_len (pa_cons (pv 2) pa_nil)) (pe_const (by rfl) (by exact T.g_MOST_STARTS))))
 (pss_one ps_never)
 pss_nil)
 (pss_cons (ps_if (pt_not (pt_chain op_le op_le (pe_callB call_len (by rfl) T.len_ bt_len (pa_cons (pv 2) pa_nil)) (pe_callB call_len (by rfl) T.len_ bt_len (pa_cons (pv 3) pa_nil)) (pe_const (by rfl) (by exact T.g_MOST_GOALS))))
 (pss_one ps_never)
 pss_nil)
 (pss_cons (ps_expr (pe_cal gUnlike (hr.mono (by decide)) (by rfl) (pa_cons (pe_op op_cat (pv 2) (pv 3)) pa_nil)))
 (pss_cons (ps_fld (pv 0) (pe_callTy call_tuple_of (by rfl) T.tuple_ bt_tuple (pa_cons (pv 2) pa_nil)) rfl)
 (pss_one (ps_fld (pv 0) (pe_callTy call_tuple_of (by rfl) T.tuple_ bt_tuple (pa_cons (pv 3) pa_nil)) rfl))))))),?_⟩
 have hsz:sizeLine=2^24:=rfl
 have nlp:l≠p:=ne_of hl hp (fun z=>nomatch z)
 have nmp:m≠p:=ne_of hm hp (fun z=>nomatch z)
 have len:as.length=cs.length:=Paired.length ht
 have len2:bs.length=ds.length:=Paired.length hu
 refine⟨_,rfl,_,rfl,_,rfl,p,cBundle,dx,x,0,r,rfl,hp,.inr rfl,nm,by decide,by decide,r0,r3,fun H1 fs b1 hp1 bas few=>?_⟩
 have hl1:=b1 _ _ nlp hl
 have hm1:=b1 _ _ nmp hm
 have ht1:Tups H1 as cs:=Paired.mapP ht fun a c e=>b1 _ _ (ne_of e hp (fun z=>nomatch z)) e
 have hu1:Tups H1 bs ds:=Paired.mapP hu fun a c e=>b1 _ _ (ne_of e hp (fun z=>nomatch z)) e
 refine st ?_
 refine sq_ifF (et_notF (et_of (et_test (ev_chain ev_c (ev_cb (ea_cons (ev_var rfl) ea_nil) fun Q' q'=>⟨_,_,rfl,.inl ⟨_,SqL.of hl1,rfl⟩,q'⟩) ev_c)) ?_)) rfl ?_
 ·rw[List.length_map,decide_eq_true (by omega),decide_eq_true (by omega)];rfl
 refine sq_ifF (et_notF (et_of (et_test (ev_chain (ev_cb (ea_cons (ev_var rfl) ea_nil) fun Q' q'=>⟨_,_,rfl,.inl ⟨_,SqL.of hl1,rfl⟩,q'⟩) (ev_cb (ea_cons (ev_var rfl) ea_nil) fun Q' q'=>⟨_,_,rfl,.inl ⟨_,SqL.of hm1,rfl⟩,q'⟩) ev_c)) ?_)) rfl ?_
 ·rw[List.length_map,List.length_map,decide_eq_true (by omega),decide_eq_true (by omega)];rfl
 refine⟨_,rfl,_,rfl,l,m,_,_,rfl,rfl,hl1,hm1,by rw[List.length_map,List.length_map];omega,fun c nc=>?_⟩
 have s2:Same H1 (upd H1 c (.lst (as.map V.ref++bs.map V.ref))):=(Same.refl H1).upd nc
 refine⟨c,as++bs,cs++ds,rfl,by rw[upd_same,List.map_append],Tups.same (tups_app ht1 hu1) s2,by rw[List.length_append];omega,hok,fun H2 s3=>?_⟩
 have s13:=s2.trans s3
 refine⟨_,rfl,l,_,rfl,.inl ⟨SqL.of (s13 _ _ hl1),fun t nt=>?_⟩⟩
 have hp2:=s13 _ _ hp1
 refine⟨_,rfl,p,cBundle,dx,fs,rfl,by rw[upd_ne (ne_of_none hp2 nt)];exact hp2,T.cl_Bundle,T.na_Bundle_starts,by have:=bas.few;omega,?_⟩
 have hm2:upd (upd H2 t (.tup (as.map V.ref))) p (.ins cBundle dx (putF "starts" (.ref t) fs)) m=some (.lst (bs.map V.ref)):=by
  rw[upd_ne nmp,upd_ne (ne_of_none (s13 _ _ hm1) nt)];exact s13 _ _ hm1
 have hlen:=length_putF "starts" (.ref t) fs
 refine⟨_,rfl,m,_,rfl,.inl ⟨SqL.of hm2,fun t' nt'=>?_⟩⟩
 have npt:t'≠p:=fun z=>by rw[z,upd_same] at nt';cases nt'
 refine⟨_,rfl,p,cBundle,dx,_,rfl,by rw[upd_ne (Ne.symm npt),upd_same],T.cl_Bundle,T.na_Bundle_goals,by omega,?_⟩
 have npt0:t≠p:=fun z=>by rw[z,hp2] at nt;cases nt
 have ntt:t'≠t:=fun z=>by rw[z,upd_ne npt0,upd_same] at nt';cases nt'
 refine q _ _ t t' (fun b o hb e=>?_) upd_same (by rw[lookup_putF,if_neg (by decide+kernel),lookup_putF,if_pos rfl]) (by rw[lookup_putF,if_pos rfl]) (by rw[upd_ne npt0,upd_ne (Ne.symm ntt),upd_ne npt0,upd_same]) (by rw[upd_ne npt,upd_same])
 have e2:=s13 _ _ (b1 _ _ hb e)
 have e3:upd (upd H2 t (.tup (as.map V.ref))) p (.ins cBundle dx (putF "starts" (.ref t) fs)) b=some o:=by rw[upd_ne hb,upd_ne (ne_of_none e2 nt)];exact e2
 rw[upd_ne hb,upd_ne (ne_of_none e3 nt')];exact e3
theorem ok_CLaid {cThing cNet cBundle cPaper cCutPaper cFloor cMS:Addr}{f:Addr}{fd:FuncData}(F:Fun K "is_laid" "Paper.is_laid" sCLaid f fd)(T:Txt K mg cThing cNet cBundle cPaper cCutPaper cFloor cMS):FnOk P w K mg base CX0 1 f fd ["self"] spPLaid:=by
 have sc:FnScope ["self"] ["self"] (defScope sCLaid):=⟨rfl,rfl,rfl,by decide+kernel,rfl,by decide+kernel,by decide+kernel⟩
 refine F.ok sc (fun vs H Q E h=>by repeat (first|(obtain⟨rfl,_⟩:=h;rfl)|(obtain⟨_,h⟩:=h))) (fun cdv A outer s H vs Q E hr h=>?_)
 obtain⟨a,rfl,q⟩:=h
 refine⟨_,(pss_one (ps_ret pe_bl)),?_⟩
 exact rd_ret ev_c q
theorem ok_Many {cThing cNet cBundle cPaper cCutPaper cFloor cMS:Addr}{f:Addr}{fd:FuncData}(F:Fun K "how_many" "how_many" sMany f fd)(T:Txt K mg cThing cNet cBundle cPaper cCutPaper cFloor cMS):FnOk P w K mg base CX0 1 f fd ["ends", "spots"] spMany:=by
 have sc:FnScope ["ends", "spots"] ["ends", "spots"] (defScope sMany):=⟨rfl,rfl,rfl,by decide+kernel,rfl,by decide+kernel,by decide+kernel⟩
 refine F.ok sc (fun vs H Q E h=>by repeat (first|(obtain⟨rfl,_⟩:=h;rfl)|(obtain⟨_,h⟩:=h))) (fun cdv A outer s H vs Q E hr h=>?_)
 obtain⟨t,u,a,cs,rfl,⟨as,h1,h2⟩,⟨us,u1,u2⟩,hz,q⟩:=h
 refine⟨_,(pss_one (ps_ret (pe_callB call_len (by rfl) T.len_ bt_len (pa_cons (pe_lc (ls:=["end"]) (ys:=["spots"]) (ix:=[1]) rfl ⟨rfl,by rfl,by rfl,by rfl,by rfl,rfl⟩ (pi_tup (pv 0)) (fun _ _ _ _ _=>(pg_name (i:=0) (show(["end", "spots"]:List Str).Nodup by decide+kernel) rfl (Or.inl rfl))) (fun _ _ _ _ _=>(pf_one (pt_cmpR (op_inTTK (K:=K) rfl (by exact hr)) (pv 0) (pv 1) (by with_unfolding_all rfl)))) (fun _ _ _ _ _=>(pv 0))) pa_nil)))),?_⟩
 have hsz:sizeLine=2^24:=rfl
 have len:as.length=a.length:=Paired.length h2
 refine⟨_,rfl,t,rfl,⟨_,SqT.of h1⟩,fun D nD=>?_⟩
 refine lc_tupG (K:=K) (xs:=as.map V.ref) (fun i τ H'=>∃(x0:Option V) (bs:List Addr),τ=[x0,some (.ref u)]∧Same H H'∧H' D=some (.lst (bs.map V.ref))∧bs.length=((a.take i).filter fun c=>decide (c∈cs)).length∧bs.length≤i) ⟨none,[],rfl,(Same.refl H).upd nD,upd_same,rfl,Nat.le_refl _⟩ (fun i τ H' _ ⟨_,_,_,s,_⟩=>SqT.of (s _ _ h1)) ?_ ?_
 ·rintro i x τ H' hx ⟨x0,bs,rfl,s,hD,hb,hl⟩
  obtain⟨c,ec,rfl⟩:=at_ref hx
  obtain⟨d,hd,hc⟩:=tups_at h2 ec
  have hi:i<as.length:=(List.getElem?_eq_some_iff.mp ec).1
  refine gn ((et_test (ev_inTT (c:=d) (ev_var rfl) (ev_var rfl) (s _ _ hc) (SqT.of (s _ _ u1)) (tups_mono u2 fun b xs e=>s _ _ e))) _ ?_)
  cases hf:decide (d∈cs) with
  |true=>
   refine iteT ⟨_,rfl,bs.map V.ref,hD,by rw[List.length_map];omega,_,bs++[c],rfl,same_at s nD,by rw[upd_same,List.map_append];rfl,?_,by rw[List.length_append];show bs.length+1≤_;omega⟩
   rw[take_one hd,List.filter_append,List.filter_cons_of_pos (p:=fun c=>decide (c∈cs)) hf,List.length_append,List.length_append,hb];rfl
  |false=>
   refine iteF ⟨_,bs,rfl,s,hD,?_,by omega⟩
   rw[take_one hd,List.filter_append,List.filter_cons_of_neg (by rw[hf];decide),List.filter_nil,List.append_nil]
   exact hb
 ·rintro τ H' ⟨x0,bs,rfl,s,hD,hb,hl⟩
  rw[List.length_map,len,List.take_length] at hb
  refine⟨_,_,rfl,.inl ⟨_,SqL.of hD,rfl⟩,?_⟩
  rw[List.length_map,hb]
  exact q H' s
theorem ok_InOrd {cThing cNet cBundle cPaper cCutPaper cFloor cMS:Addr}{f:Addr}{fd:FuncData}(F:Fun K "in_order" "in_order" sInOrd f fd)(T:Txt K mg cThing cNet cBundle cPaper cCutPaper cFloor cMS):FnOk P w K mg base CX0 1 f fd ["spots"] spInOrd:=by
 have sc:FnScope ["spots"] ["spots"] (defScope sInOrd):=⟨rfl,rfl,rfl,by decide+kernel,rfl,by decide+kernel,by decide+kernel⟩
 refine F.ok sc (fun vs H Q E h=>by repeat (first|(obtain⟨rfl,_⟩:=h;rfl)|(obtain⟨_,h⟩:=h))) (fun cdv A outer s H vs Q E hr h=>?_)
 obtain⟨t,cs,rfl,⟨as,h1,h2⟩,hz,q⟩:=h
 refine⟨_,(pss_one (ps_ret (pe_callB (call_all rfl) (by rfl) T.all_ bt_all (pa_cons (pe_lc (ls:=["one", "two"]) (ys:=[]) (ix:=[]) rfl ⟨rfl,by rfl,by rfl,by rfl,by rfl,rfl⟩ (pi_zipT (by rfl) T.zip_ (pa_cons (pv 0) (pa_cons (pe_slice sl_tupW (pv 0) (po_some pe_int) po_none) pa_nil))) (fun _ _ _ _ _=>(pg_tupK (K:=K) (n:=2) rfl rfl (pgs_cons (pg_name (i:=0) (show(["one", "two"]:List Str).Nodup by decide+kernel) rfl (Or.inl rfl) (hf:=.inr rfl)) (pgs_cons (pg_name (i:=1) (show(["one", "two"]:List Str).Nodup by decide+kernel) rfl (Or.inl rfl) (hf:=.inr rfl)) pgs_nil)) rfl rfl)) (fun _ _ _ _ _=>pf_nil) (fun _ _ _ _ _=>(pe_cmpR (op_ltTK (K:=K) rfl (by exact Room.units0 hr)) (pv 0) (pv 1) (nomark _)))) pa_nil)))),?_⟩
 have hsz:sizeLine=2^24:=rfl
 have len:as.length=cs.length:=Paired.length h2
 refine rd_te ⟨_,rfl,_,rfl,1,rfl,t,_,rfl,SqT.of h1,fun hw=>?_,fun hw sl nsl=>?_⟩
 ·have e0:as.length=0:=by
   have:=hw.1
   rw[show(some (1:Int))=some ((1:Nat):Int) from rfl,HT.sIx_nat,List.length_map] at this
   omega
  have ec:cs=[]:=List.eq_nil_of_length_eq_zero (by omega)
  have ea:as=[]:=List.eq_nil_of_length_eq_zero e0
  subst ec ea
  refine⟨t,t,rfl,⟨_,SqT.of h1⟩,⟨_,SqT.of h1⟩,fun D nD=>?_⟩
  refine lc_zipT (K:=K) (xs:=[]) (ys:=[]) (Nat.le_refl _) (fun i τ H'=>Same H H'∧H' D=some (.lst (([]:List Bool).map V.bl))) ⟨(Same.refl H).upd nD,upd_same⟩ (fun i τ H' _ ⟨s,_⟩=>⟨SqT.of (s _ _ h1),SqT.of (s _ _ h1)⟩) (fun i x y p τ H' hx=>by simp at hx) ?_
  rintro τ H' ⟨s,hD⟩
  exact⟨D,[],rfl,SqL.of hD,q H' s⟩
 ·have hsl:upd H sl (.tup (cutV (as.map V.ref) (some 1) none)) sl=some (.tup ((as.drop 1).map V.ref)):=by rw[upd_same,cut1,List.map_drop]
  have s4:Same H (upd H sl (.tup (cutV (as.map V.ref) (some 1) none))):=(Same.refl H).upd nsl
  revert hsl s4
  generalize upd H sl (.tup (cutV (as.map V.ref) (some 1) none))=H4
  intro hsl s4
  refine⟨t,sl,rfl,⟨_,SqT.of (s4 _ _ h1)⟩,⟨_,SqT.of hsl⟩,fun D nD=>?_⟩
  refine lc_zipT (K:=K) (xs:=as.map V.ref) (ys:=(as.drop 1).map V.ref) (by simp) (fun i τ H'=>∃(x0 x1:Option V) (bs:List Bool),τ=[x0,x1]∧Same H4 H'∧H' D=some (.lst (bs.map V.bl))∧bs.length=i∧(bs.all id&&inc (cs.drop i))=inc cs) ⟨none,none,[],rfl,(Same.refl H4).upd nD,upd_same,rfl,rfl⟩ (fun i τ H' _ ⟨_,_,_,_,s,_⟩=>⟨SqT.of (s _ _ (s4 _ _ h1)),SqT.of (s _ _ hsl)⟩) ?_ ?_
  ·rintro i x y p τ H5 hx hy np ⟨x0,x1,bs,rfl,s5,hD,hn,hG⟩
   obtain⟨a1,h3,rfl⟩:=at_ref hx
   obtain⟨a2,h4,rfl⟩:=at_ref hy
   rw[List.getElem?_drop,show 1+i=i+1 by omega] at h4
   obtain⟨c,hc,hac⟩:=tups_at h2 h3
   obtain⟨d,hd,had⟩:=tups_at h2 h4
   have hi:i+1<as.length:=(List.getElem?_eq_some_iff.mp h4).1
   refine⟨p,_,rfl,SqT.of upd_same,rfl,_,_,rfl,_,_,rfl,rfl,?_⟩
   have s6:Same H5 (upd H5 p (.tup [.ref a1,.ref a2])):=(Same.refl H5).upd np
   revert s6
   generalize upd H5 p (.tup [.ref a1,.ref a2])=H6
   intro s6
   have s':=s4.trans (s5.trans s6)
   refine lc_el ((ev_ltT (K:=K) (ev_var rfl) (ev_var rfl) (SqT.of (s' _ _ hac)) (SqT.of (s' _ _ had))) _ ⟨bs.map V.bl,s6 _ _ hD,by rw[List.length_map];omega,_,_,bs++[HT.lexLt c d],rfl,same_at (s5.trans s6) nD,by rw[upd_same,List.map_append];rfl,by rw[List.length_append,hn];rfl,?_⟩)
   rw[←hG,inc_two hc hd,List.all_append]
   simp[Bool.and_assoc]
  ·rintro τ H5 ⟨x0,x1,bs,rfl,s5,hD,hn,hG⟩
   rw[List.length_map,List.length_drop] at hG
   rw[inc_end (by omega),Bool.and_true] at hG
   refine⟨D,bs,rfl,SqL.of hD,?_⟩
   rw[hG]
   exact q _ (s4.trans s5)
theorem ok_Clear {cThing cNet cBundle cPaper cCutPaper cFloor cMS:Addr}{f:Addr}{fd:FuncData}(F:Fun K "all_clear" "all_clear" sClear f fd)(T:Txt K mg cThing cNet cBundle cPaper cCutPaper cFloor cMS)(gIsOpen:MCallee P w K mg base cFloor "is_open" 2 ["self", "spot"] (spIsOpen cFloor)):FnOk P w K mg base CX0 3 f fd ["floor", "free", "spots"] (spClear cFloor):=by
 have sc:FnScope ["floor", "free", "spots"] ["floor", "free", "spots"] (defScope sClear):=⟨rfl,rfl,rfl,by decide+kernel,rfl,by decide+kernel,by decide+kernel⟩
 refine F.ok sc (fun vs H Q E h=>by repeat (first|(obtain⟨rfl,_⟩:=h;rfl)|(obtain⟨_,h⟩:=h))) (fun cdv A outer s H vs Q E hr h=>?_)
 obtain⟨f,e,t,g,F',cs,rfl,hF,hg,he,hTb,⟨as,h1,h2⟩,p3,hz,q⟩:=h
 refine⟨_,(pss_one (ps_ret (pe_callB (call_all rfl) (by rfl) T.all_ bt_all (pa_cons (pe_lc (ls:=["spot"]) (ys:=["free", "floor"]) (ix:=[1,0]) rfl ⟨rfl,by rfl,by rfl,by rfl,by rfl,rfl⟩ (pi_tup (pv 2)) (fun _ _ _ _ _=>(pg_name (i:=0) (show(["spot", "free", "floor"]:List Str).Nodup by decide+kernel) rfl (Or.inl rfl))) (fun _ _ _ _ _=>pf_nil) (fun _ _ _ _ _=>(pe_and (pe_cmp (pc_din (by exact(Room.one hr)) (pv 0) (pv 1))) (pe_one (pe_met (pv 2) (by exact T.cl_Floor) (by exact gIsOpen) (by exact(hr.mono (by decide))) (pa_cons (pv 0) pa_nil)))))) pa_nil)))),?_⟩
 have hsz:sizeLine=2^24:=rfl
 have len:as.length=cs.length:=Paired.length h2
 obtain⟨pr,vi,rd,td,hF⟩:=hF.ex
 obtain⟨dx,z,f1,f2⟩:=hF.ex
 refine rd_te ⟨_,rfl,t,rfl,⟨_,SqT.of h1⟩,fun D nD=>?_⟩
 refine lc_tupG (K:=K) (xs:=as.map V.ref) (fun i τ H'=>∃(x0:Option V),τ=[x0,some (.ref e),some (.ref f)]∧Same H H'∧H' D=some (.lst (((cs.take i).map (clr g F')).map V.bl))) ⟨none,rfl,(Same.refl H).upd nD,upd_same⟩ (fun i τ H' _ ⟨_,_,s,_⟩=>SqT.of (s _ _ h1)) ?_ ?_
 ·rintro i x τ H' hx ⟨x0,rfl,s,hD⟩
  obtain⟨a,ea,rfl⟩:=at_ref hx
  obtain⟨c,hc,hac⟩:=tups_at h2 ea
  obtain⟨x,y,w,rfl⟩:=p3 c (List.mem_of_getElem? hc)
  have hi:i<as.length:=(List.getElem?_eq_some_iff.mp ea).1
  have fin:∃acc,H' D=some (.lst acc)∧acc.length<sizeLine∧∃(x0:Option V),([some (.ref a),some (.ref e),some (.ref f)]:St)=[x0,some (.ref e),some (.ref f)]∧Same H (upd H' D (.lst (acc++[.bl (clr g F' [x,y,w])])))∧upd H' D (.lst (acc++[.bl (clr g F' [x,y,w])])) D=some (.lst (((cs.take (i+1)).map (clr g F')).map V.bl)):=by
   refine⟨_,hD,by rw[List.length_map,List.length_map];have:=List.length_take_le i cs;omega,_,rfl,same_at s nD,?_⟩
   rw[upd_same,take_one hc,List.map_append,List.map_append];rfl
  refine gn (lc_el ?_)
  refine ev_din (ev_var rfl) (ev_var rfl) (dg (x:=[x,y,w]) (.inl (s _ _ he)) (s _ _ hac)) _ ⟨_,rfl,?_⟩
  unfold clr inF at fin
  cases e1:(valV (enc g.R g.C F') (iK [x,y,w])).isSome with
  |false=>
   rw[e1,Bool.false_and] at fin
   exact iteF fin
  |true=>
   rw[e1,Bool.true_and] at fin
   exact iteT ⟨_,rfl,f,dx,_,rfl,s _ _ f1,ln9,_,rfl,f,pr,vi,rd,td,a,g,x,y,w,rfl,hF.same s,hg,s _ _ hac,fin⟩
 ·rintro τ H' ⟨x0,rfl,s,hD⟩
  rw[List.length_map,len,List.take_length] at hD
  refine⟨D,_,rfl,SqL.of hD,?_⟩
  rw[List.all_map]
  exact q H' s
theorem ok_Shut {cThing cNet cBundle cPaper cCutPaper cFloor cMS:Addr}{f:Addr}{fd:FuncData}(F:Fun K "shut_in" "shut_in" sShut f fd)(T:Txt K mg cThing cNet cBundle cPaper cCutPaper cFloor cMS)(gSteps:MCallee P w K mg base cFloor "steps" 4 ["self", "spot"] (spSteps cFloor)):FnOk P w K mg base CX0 5 f fd ["floor", "free", "spots", "rim"] (spShut cFloor):=by
 have sc:FnScope ["floor", "free", "spots", "rim", "known", "spot"] ["floor", "free", "spots", "rim"] (defScope sShut):=⟨rfl,rfl,rfl,by decide+kernel,rfl,by decide+kernel,by decide+kernel⟩
 refine F.ok sc (fun vs H Q E h=>by repeat (first|(obtain⟨rfl,_⟩:=h;rfl)|(obtain⟨_,h⟩:=h))) (fun cdv A outer s H vs Q E hr h=>?_)
 obtain⟨f,e,t,r,g,F',cs,ds,rfl,hF,hg,he,hTb,⟨as,h1,h2⟩,⟨bs,r1,r2⟩,hcl,hz,hz2,q⟩:=h
 refine⟨_,(pss_cons (ps_set (i:=4) sc.nd rfl (Or.inr rfl) (pe_callTy (call_dictPairs rfl hr) (by rfl) T.dict_ bt_dict (pa_cons (pe_lc (ls:=["spot"]) (ys:=[]) (ix:=[]) rfl ⟨rfl,by rfl,by rfl,by rfl,by rfl,rfl⟩ (pi_tup (pe_op op_catG (pv 2) (pv 3))) (fun _ _ _ _ _=>(pg_name (i:=0) (show(["spot"]:List Str).Nodup by decide+kernel) rfl (Or.inl rfl))) (fun _ _ _ _ _=>pf_nil) (fun _ _ _ _ _=>(pe_tup (pa_cons (pv 0) (pa_cons pe_bl pa_nil))))) pa_nil)))
 (pss_cons (ps_for PassesOwn.never rfl (pi_tup (pv 2)) (pg_name (i:=5) sc.nd rfl (Or.inl rfl))
 (pss_one (ps_if (pt_val (pe_callB (call_any rfl) (by rfl) T.any_ bt_any (pa_cons (pe_lc (ls:=["other", "price"]) (ys:=["free", "known"]) (ix:=[1,4]) rfl ⟨rfl,by rfl,by rfl,by rfl,by rfl,rfl⟩ (pi_list (pe_met (pv 0) T.cl_Floor gSteps (hr.mono (by decide)) (pa_cons (pv 5) pa_nil))) (fun _ _ _ _ _=>(pg_tupK (K:=K) (n:=2) rfl rfl (pgs_cons (pg_name (i:=0) (show(["other", "price", "free", "known"]:List Str).Nodup by decide+kernel) rfl (Or.inl rfl) (hf:=.inr rfl)) (pgs_cons (pg_name (i:=1) (show(["other", "price", "free", "known"]:List Str).Nodup by decide+kernel) rfl (Or.inl rfl) (hf:=.inr rfl)) pgs_nil)) rfl rfl)) (fun _ _ _ _ _=>pf_nil) (fun _ _ _ _ _=>(pe_and (pe_cmp (pc_din (by exact(Room.one hr)) (pv 0) (pv 2))) (pe_one (pe_cmp (pc_dnotin (by exact(Room.one hr)) (pv 0) (pv 3))))))) pa_nil)))
 (pss_one (ps_ret pe_bl))
 pss_nil)))
 (pss_one (ps_ret pe_bl)))),?_⟩
 have hsz:sizeLine=2^24:=rfl
 have len:as.length=cs.length:=Paired.length h2
 have len2:bs.length=ds.length:=Paired.length r2
 have Z:=hg.S
 refine sq_asg ⟨_,rfl,_,rfl,t,r,_,_,rfl,rfl,h1,r1,by rw[List.length_map,List.length_map];omega,fun bt H0 s0 hbt=>⟨bt,rfl,⟨_,SqT.of hbt⟩,fun D nD=>?_⟩⟩
 rw[←List.map_append] at hbt
 have hboth:Tups H0 (as++bs) (cs++ds):=tups_mono (tups_app h2 r2) fun b xs z=>s0 _ _ z
 have lboth:(as++bs).length=(cs++ds).length:=Paired.length hboth
 have lall:(cs++ds).length≤400:=by rw[List.length_append];omega
 refine lc_tupG (K:=K) (xs:=(as++bs).map V.ref) (fun i τ H'=>∃(x0:Option V) (qs:List Addr),τ=[x0]∧Same H0 H'∧H' D=some (.lst (qs.map V.ref))∧Prs H' qs (((cs++ds).take i).map fun c=>(iK c,V.bl true))∧qs.length≤i) ⟨none,[],rfl,(Same.refl H0).upd nD,upd_same,.nil,Nat.le_refl _⟩ (fun i τ H' _ ⟨_,_,_,s,_⟩=>SqT.of (s _ _ hbt)) ?_ ?_
 ·rintro i x τ H' hx ⟨x0,qs,rfl,s,hD,hq,hl⟩
  obtain⟨a,ea,rfl⟩:=at_ref hx
  obtain⟨c,hc,hac⟩:=tups_at hboth ea
  have hi:i<(as++bs).length:=(List.getElem?_eq_some_iff.mp ea).1
  refine gn (lc_el (te_tup (vs:=[.ref a,.bl true]) (ea_cons (ev_var rfl) (ea_cons ev_c ea_nil)) (by show 2≤sizeLine;decide) fun P nP=>?_))
  have nPD:P≠D:=Ne.symm (ne_of_none hD nP)
  refine⟨qs.map V.ref,by rw[upd_ne (Ne.symm nPD)];exact hD,by rw[List.length_map];omega,_,qs++[P],rfl,same_at (s.upd nP) nD,by rw[upd_same,List.map_append];rfl,?_,by rw[List.length_append];show qs.length+1≤_;omega⟩
  rw[take_one hc,List.map_append]
  exact prs_app (Prs.mono hq (keep_lst hD nP)) (.cons ⟨a,by rw[upd_ne nPD,upd_same],iK_at (keep_lst hD nP _ _ (s _ _ hac))⟩ .nil)
 rintro τ H1 ⟨x0,qs,rfl,s1',hD,hq,hl⟩
 have s1:=s0.trans s1'
 rw[List.length_map,lboth,List.take_length] at hq
 refine⟨D,qs,_,rfl,hD,hq,fun d nd=>?_⟩
 have s2:Same H (upd H1 d (.dT (mkD ((cs++ds).map fun c=>(iK c,V.bl true))))):=s1.upd nd
 have hd:upd H1 d (.dT (mkD ((cs++ds).map fun c=>(iK c,V.bl true)))) d=some (.dT (mkD ((cs++ds).map fun c=>(iK c,V.bl true)))):=upd_same
 revert s2 hd
 generalize upd H1 d (.dT (mkD ((cs++ds).map fun c=>(iK c,V.bl true))))=H2
 intro s2 hd
 obtain⟨pr,vi,rd,td,hF⟩:=hF.ex
 obtain⟨dx,z,f1,f2⟩:=hF.ex
 refine⟨_,rfl,t,rfl,⟨_,SqT.of (s2 _ _ h1)⟩,?_⟩
 refine for_tup (K:=K) (xs:=as.map V.ref) (fun i σ H'=>∃x5:Option V,σ=[some (.ref f),some (.ref e),some (.ref t),some (.ref r),some (.ref d),x5]∧Same H2 H'∧(cs.take i).all (shu g F' (cs++ds))=true) ⟨none,rfl,Same.refl H2,rfl⟩ (fun i σ H' _ ⟨_,_,s,_⟩=>SqT.of (s _ _ (s2 _ _ h1))) ?_ ?_
 ·rintro i x σ H' hx ⟨x5,rfl,s,hall⟩
  obtain⟨a,ea,rfl⟩:=at_ref hx
  obtain⟨c,hc,hac⟩:=tups_at h2 ea
  have s02:=s2.trans s
  have hcc:=List.all_eq_true.mp hcl c (List.mem_of_getElem? hc)
  obtain⟨n,hn,rfl⟩:∃n,n<g.M∧c=sN g.R g.C n:=by
   unfold clr at hcc
   rw[Bool.and_eq_true] at hcc
   exact in_num Z hTb hcc.1
  have hin:=sN_ins Z (n:=n) (by have:=hg.M;omega)
  refine gn ?_
  refine rd_ifof ⟨_,rfl,f,dx,_,rfl,s02 _ _ f1,ln8,_,rfl,f,pr,vi,rd,td,a,g,_,_,_,rfl,hF.same s02,hg,s02 _ _ hac,hin,fun H3 l s3 nl hl=>?_⟩
  have hl:AtP H3 l (stepsL g (sN g.R g.C n)):=hl
  obtain⟨qs,l1,l2⟩:=hl
  have s03:=s02.trans s3
  have s23:=s.trans s3
  have lq:qs.length=(stepsL g (sN g.R g.C n)).length:=Paired.length l2
  have l6:(stepsL g (sN g.R g.C n)).length≤6:=by
   unfold stepsL
   split
   ·exact Nat.zero_le _
   ·rw[List.length_map];exact Nat.le_trans (List.length_filter_le _ _) (Nat.le_refl 6)
  refine⟨l,rfl,⟨_,SqL.of l1⟩,fun D' nD'=>?_⟩
  refine lc_listG (K:=K) (xs:=qs.map V.ref) (fun j τ H'=>∃(x0 x1:Option V),τ=[x0,x1,some (.ref e),some (.ref d)]∧Same H3 H'∧H' D'=some (.lst ((((stepsL g (sN g.R g.C n)).take j).map fun x=>inF g.R g.C F' x.1&&!decide (x.1∈cs++ds)).map V.bl))) ⟨none,none,rfl,(Same.refl H3).upd nD',upd_same⟩ (fun j τ H' _ ⟨_,_,_,s,_⟩=>SqL.of (s _ _ l1)) ?_ ?_
  ·rintro j y τ H4 hy ⟨x0,x1,rfl,s4,hD4⟩
   obtain⟨qa,eq,rfl⟩:=at_ref hy
   obtain⟨v,hv,bo,b1,b2⟩:=pair_at l2 eq
   have hj:j<qs.length:=(List.getElem?_eq_some_iff.mp eq).1
   refine⟨qa,_,rfl,SqT.of (s4 _ _ b1),rfl,_,_,rfl,_,_,rfl,rfl,?_⟩
   have g1:=dg (x:=v.1) (.inl ((s03.trans s4) _ _ he)) (s4 _ _ b2)
   have g2:=dg (x:=v.1) (.inl ((s23.trans s4) _ _ hd)) (s4 _ _ b2)
   refine lc_el ((ev_of (ev_and (ev_din (ev_var rfl) (ev_var rfl) g1) fun _=>ev_dnotin (ev_var rfl) (ev_var rfl) g2) (c:=.bl (inF g.R g.C F' v.1&&!decide (v.1∈cs++ds))) (by rw[known_val];rfl)) _ ⟨_,hD4,by rw[List.length_map,List.length_map];have:=List.length_take_le j (stepsL g (sN g.R g.C n));omega,_,_,rfl,same_at s4 nD',?_⟩)
   rw[upd_same,take_one hv,List.map_append,List.map_append];rfl
  ·rintro τ H4 ⟨x0,x1,rfl,s4,hD4⟩
   rw[List.length_map,lq,List.take_length] at hD4
   refine⟨D',_,rfl,SqL.of hD4,_,rfl,?_⟩
   rw[List.any_map,show((stepsL g (sN g.R g.C n)).any (id∘fun x=>inF g.R g.C F' x.1&&!decide (x.1∈cs++ds)))=!shu g F' (cs++ds) (sN g.R g.C n) from shu_any g F' (cs++ds) _]
   have s24:=s23.trans s4
   cases es:shu g F' (cs++ds) (sN g.R g.C n) with
   |false=>
    have hno:cs.all (shu g F' (cs++ds))=false:=by
     rw[List.all_eq_false]
     exact⟨_,List.mem_of_getElem? hc,by rw[es];decide⟩
    have q':=q H4 (s2.trans s24)
    rw[hno] at q'
    exact iteT (rd_ret ev_c q')
   |true=>
    refine iteF ⟨_,rfl,s24,?_⟩
    rw[take_one hc,List.all_append,hall,List.all_cons,es];rfl
 ·rintro σ H' ⟨x5,rfl,s,hall⟩
  rw[List.length_map,len,List.take_length] at hall
  have q':=q H' (s2.trans s)
  rw[hall] at q'
  exact st (rd_ret ev_c q')
theorem ok_CInit {cThing cNet cBundle cPaper cCutPaper cFloor cMS:Addr}{f:Addr}{fd:FuncData}(F:Fun K "__init__" "CutPaper.__init__" sCInit f fd)(T:Txt K mg cThing cNet cBundle cPaper cCutPaper cFloor cMS):FnOk P w K mg base CX0 1 f fd ["self", "cut", "spots"] (spCInit cCutPaper):=by
 have sc:FnScope ["self", "cut", "spots"] ["self", "cut", "spots"] (defScope sCInit):=⟨rfl,rfl,rfl,by decide+kernel,rfl,by decide+kernel,by decide+kernel⟩
 refine F.ok sc (fun vs H Q E h=>by repeat (first|(obtain⟨rfl,_⟩:=h;rfl)|(obtain⟨_,h⟩:=h))) (fun cdv A outer s H vs Q E hr h=>?_)
 obtain⟨p,dx,l,m,as,bs,rfl,hp,hl,hm,za,zb,q⟩:=h
 refine⟨_,(pss_cons (ps_fld (pv 0) (pe_callTy call_tuple_of (by rfl) T.tuple_ bt_tuple (pa_cons (pv 1) pa_nil)) rfl)
 (pss_one (ps_fld (pv 0) (pe_callTy call_tuple_of (by rfl) T.tuple_ bt_tuple (pa_cons (pv 2) pa_nil)) rfl))),?_⟩
 have hsz:sizeLine=2^24:=rfl
 have nlp:l≠p:=ne_of hl hp (fun z=>nomatch z)
 have nmp:m≠p:=ne_of hm hp (fun z=>nomatch z)
 refine⟨_,rfl,l,_,rfl,.inl ⟨SqL.of hl,fun t nt=>?_⟩⟩
 have ntp:t≠p:=fun z=>by rw[z,hp] at nt;cases nt
 refine⟨_,rfl,p,cCutPaper,dx,[],rfl,by rw[upd_ne (Ne.symm ntp)];exact hp,T.cl_CutPaper,T.na_CutPaper_cut,by show 0<_;decide,?_⟩
 have e0:putF "cut" (.ref t) []=[(("cut" :Str),V.ref t)]:=by kernel_rfl
 rw[e0]
 have hm1:upd (upd H t (.tup (as.map V.ref))) p (.ins cCutPaper dx [("cut",.ref t)]) m=some (.lst (bs.map V.ref)):=by
  rw[upd_ne nmp,upd_ne (ne_of_none hm nt)];exact hm
 refine⟨_,rfl,m,_,rfl,.inl ⟨SqL.of hm1,fun u nu=>?_⟩⟩
 have nup:u≠p:=fun z=>by rw[z,upd_same] at nu;cases nu
 have nut:u≠t:=fun z=>by rw[z,upd_ne ntp,upd_same] at nu;cases nu
 have nuH:H u=none:=by rw[upd_ne nup,upd_ne nut] at nu;exact nu
 refine⟨_,rfl,p,cCutPaper,dx,_,rfl,by rw[upd_ne (Ne.symm nup),upd_same],T.cl_CutPaper,T.na_CutPaper_spots,by show 1<_;decide,?_⟩
 have e1:putF "spots" (.ref u) [("cut",.ref t)]=[(("cut" :Str),V.ref t),("spots",.ref u)]:=by kernel_rfl
 rw[e1]
 refine q _ t u (fun b o hb e=>?_) nt nuH upd_same (by rw[upd_ne ntp,upd_ne (Ne.symm nut),upd_ne ntp,upd_same]) (by rw[upd_ne nup,upd_same])
 rw[upd_ne hb,upd_ne (ne_of_none e nuH),upd_ne hb,upd_ne (ne_of_none e nt)];exact e
theorem ok_Cell {cThing cNet cBundle cPaper cCutPaper cFloor cMS:Addr}{f:Addr}{fd:FuncData}(F:Fun K "_law_cell_at" "_law_cell_at" sCell f fd)(T:Txt K mg cThing cNet cBundle cPaper cCutPaper cFloor cMS):FnOk P w K mg base CX0 1 f fd ["script", "k"] (spCell K):=by
 have sc:FnScope ["script", "k"] ["script", "k"] (defScope sCell):=⟨rfl,rfl,rfl,by decide+kernel,rfl,by decide+kernel,by decide+kernel⟩
 refine F.ok sc (fun vs H Q E h=>by repeat (first|(obtain⟨rfl,_⟩:=h;rfl)|(obtain⟨_,h⟩:=h))) (fun cdv A outer s H vs Q E hr h=>?_)
 obtain⟨a,ns,i,rfl,ha,q⟩:=h
 refine⟨_,(pss_cons (ps_if (pt_cmpR op_lt (pv 1) (pe_callB call_len (by rfl) T.len_ bt_len (pa_cons (pv 0) pa_nil)) (nomark _))
 (pss_one (ps_ret (pe_ix ix_list (pv 0) (pv 1) (fun _ _=>rfl))))
 pss_nil)
 (pss_one (ps_ret pe_int))),?_⟩
 refine rd_if (et_test (ev_I0 (ev_var rfl) (ev_cb (ea_cons (ev_var rfl) ea_nil) fun Q' q'=>⟨_,_,rfl,by first|exact .inl ⟨_,by assumption,rfl⟩|exact .inl ⟨_,SqL.of (by assumption),rfl⟩|exact .inr ⟨_,by assumption,rfl⟩|exact .inr ⟨_,SqT.of (by assumption),rfl⟩,q'⟩))) (fun e=>?_) (fun e=>?_)
 ·have hlt:(i:Int)<((ns.map V.int).length:Int):=of_decide_eq_true e
  rw[List.length_map] at hlt
  have hj:i<ns.length:=by omega
  refine rd_ret (ev_ixL (v:=.int (cellv ns i)) (ev_var rfl) (ev_var rfl) ha (atI_nat ?_)) q
  rw[List.getElem?_map,List.getElem?_eq_getElem hj]
  unfold cellv
  rw[List.getD_eq_getElem?_getD,List.getElem?_eq_getElem hj];rfl
 ·have hge:¬(i:Int)<((ns.map V.int).length:Int):=of_decide_eq_false e
  rw[List.length_map] at hge
  have e0:cellv ns i=0:=by
   unfold cellv
   rw[List.getD_eq_getElem?_getD,List.getElem?_eq_none (by omega)];rfl
  rw[e0] at q
  exact q
theorem ok_Mix {cThing cNet cBundle cPaper cCutPaper cFloor cMS:Addr}{f:Addr}{fd:FuncData}(F:Fun K "_law_mix" "_law_mix" sMix f fd)(T:Txt K mg cThing cNet cBundle cPaper cCutPaper cFloor cMS):FnOk P w K mg base CX0 1 f fd ["cell", "k", "prime"] spMix:=by
 have sc:FnScope ["cell", "k", "prime", "mixed"] ["cell", "k", "prime"] (defScope sMix):=⟨rfl,rfl,rfl,by decide+kernel,rfl,by decide+kernel,by decide+kernel⟩
 refine F.ok sc (fun vs H Q E h=>by repeat (first|(obtain⟨rfl,_⟩:=h;rfl)|(obtain⟨_,h⟩:=h))) (fun cdv A outer s H vs Q E hr h=>?_)
 obtain⟨c,k,p,rfl,p1,p2,q⟩:=h
 refine⟨_,(pss_cons (ps_set (i:=3) sc.nd rfl (Or.inl rfl) (pe_op op_mod (pe_op op_mul (pe_op op_add (pe_op op_add (pe_op op_mod (pv 0) (pv 2)) (pe_op op_mul pe_int (pv 1))) pe_int) pe_int) (pv 2)))
 (pss_one (ps_ret (pe_op op_mod (pe_op op_mul (pv 3) (pv 3)) pe_int)))),?_⟩
 refine sq_set (v:=.int ((c%p+31*k+7)*48271%p)) (ev_I (ev_I (ev_I0 (ev_I0 (ev_I (ev_var rfl) (ev_var rfl) (by show(0:Int)<p;omega)) (ev_I ev_c (ev_var rfl) (cmL (by decide) (by decide)))) ev_c) ev_c (cmR (by decide) (by decide))) (ev_var rfl) (by show(0:Int)<p;omega)) ?_
 have b0:=Int.emod_nonneg ((c%p+31*k+7)*48271) (show p≠0 by omega)
 have b1:=Int.emod_lt_of_pos ((c%p+31*k+7)*48271) (show 0<p by omega)
 revert b0 b1
 generalize (c%p+31*k+7)*48271%p=m
 intro b0 b1
 exact rd_ret (ev_I (ev_I (ev_var rfl) (ev_var rfl) (cmR (by omega) (by omega))) ev_c (by show(0:Int)<2147483647;decide)) (q _ (Int.emod_nonneg _ (by decide)))
theorem ok_Put {cThing cNet cBundle cPaper cCutPaper cFloor cMS:Addr}{f:Addr}{fd:FuncData}(F:Fun K "_law_put" "_law_put" sPut f fd)(T:Txt K mg cThing cNet cBundle cPaper cCutPaper cFloor cMS):FnOk P w K mg base CX0 1 f fd ["spots", "spot"] spPut:=by
 have sc:FnScope ["spots", "spot"] ["spots", "spot"] (defScope sPut):=⟨rfl,rfl,rfl,by decide+kernel,rfl,by decide+kernel,by decide+kernel⟩
 refine F.ok sc (fun vs H Q E h=>by repeat (first|(obtain⟨rfl,_⟩:=h;rfl)|(obtain⟨_,h⟩:=h))) (fun cdv A outer s H vs Q E hr h=>?_)
 obtain⟨l,b,cs,x,y,w,rfl,⟨as,h1,h2⟩,p3,hz,hb,q⟩:=h
 refine⟨_,(pss_one (ps_ret (pe_callB (call_sortedI hr) (by rfl) T.sorted_ bt_sorted (pa_cons (pe_op op_cat (pv 0) (pe_lst (pa_cons (pv 1) pa_nil))) pa_nil)))),?_⟩
 have hsz:sizeLine=2^24:=rfl
 have len:as.length=cs.length:=Paired.length h2
 refine rd_te ⟨_,rfl,_,rfl,(by show 1≤sizeLine;decide),fun l1 n1=>⟨l,l1,_,_,rfl,rfl,by rw[upd_ne (ne_of_none h1 n1)];exact h1,upd_same,by rw[List.length_map];show as.length+1≤_;omega,fun L nL=>?_⟩⟩
 have s1:Same H (upd (upd H l1 (.lst [.ref b])) L (.lst (as.map V.ref++[.ref b]))):=((Same.refl H).upd n1).upd nL
 have hL:upd (upd H l1 (.lst [.ref b])) L (.lst (as.map V.ref++[.ref b])) L=some (.lst ((as++[b]).map V.ref)):=by rw[upd_same,List.map_append];rfl
 revert s1 hL
 generalize upd (upd H l1 (.lst [.ref b])) L (.lst (as.map V.ref++[.ref b]))=H1
 intro s1 hL
 have p3':P3 (cs++[[x,y,w]]):=p3.app P3.one
 refine⟨L,as++[b],cs++[[x,y,w]],rfl,SqL.of hL,tups_app (tups_mono h2 fun b xs z=>s1 _ _ z) (.cons (s1 _ _ hb) .nil),p3'.ne,by rw[List.length_append];show as.length+1<64;omega,fun l' bs ds nl hb' hp _=>?_⟩
 exact q _ l' ds (s1.upd nl) ⟨bs,upd_same,tups_mono hb' fun b xs z=>by rw[upd_ne (ne_of_none z nl)];exact z⟩ (p3'.sub fun c hc=>hp.mem_iff.mp hc) (by rw[hp.length_eq,List.length_append];rfl)
theorem et_use {tc:TT}{σ:St}{H:Hp}{b:Bool}{Q:Bool→Hp→Prop}(h:EvT tc σ H b)(q:Q b H):tc σ H Q:=h _ q
theorem lkC {t u:Addr}:([(("cut" :Str),V.ref t),("spots",V.ref u)]:List (Str×V)).lookup ("cut" :Str)=some (.ref t):=by kernel_rfl
theorem lkU {t u:Addr}:([(("cut" :Str),V.ref t),("spots",V.ref u)]:List (Str×V)).lookup ("spots" :Str)=some (.ref u):=by kernel_rfl
theorem lnC1 {t u:Addr}:([(("cut" :Str),V.ref t),("spots",V.ref u)]:List (Str×V)).lookup ("holds" :Str)=none:=by kernel_rfl
theorem lnC2 {t u:Addr}:([(("cut" :Str),V.ref t),("spots",V.ref u)]:List (Str×V)).lookup ("is_laid" :Str)=none:=by kernel_rfl
theorem te_orU {t u:TT}{σ:St}{H:Hp}{a:Bool}{Q:Bool→Hp→Prop}(h:EvT t σ H a)(h1:a=true→Q true H)(h2:a=false→u σ H Q):tOr t u σ H Q:=h _ (by cases a with|true=>exact iteT (h1 rfl)|false=>exact iteF (h2 rfl))
theorem gt_cnt (n:Nat):decide (((n:Nat):Int)>0)=!decide (n=0):=by
 by_cases h:n=0
 ·subst h;rfl
 ·rw[decide_eq_true (show((n:Nat):Int)>0 by omega),decide_eq_false h];rfl
theorem ok_CHolds {cThing cNet cBundle cPaper cCutPaper cFloor cMS:Addr}{f:Addr}{fd:FuncData}(F:Fun K "holds" "CutPaper.holds" sCHolds f fd)(T:Txt K mg cThing cNet cBundle cPaper cCutPaper cFloor cMS)(gInOrd:Callee P w K mg base "in_order" 1 ["spots"] spInOrd)(gClear:Callee P w K mg base "all_clear" 3 ["floor", "free", "spots"] (spClear cFloor))(gShut:Callee P w K mg base "shut_in" 5 ["floor", "free", "spots", "rim"] (spShut cFloor))(gMany:Callee P w K mg base "how_many" 1 ["ends", "spots"] spMany):FnOk P w K mg base CX0 6 f fd ["self", "floor", "free", "thing"] (spCHolds cCutPaper cFloor cNet cBundle):=by
 have sc:FnScope ["self", "floor", "free", "thing", "both"] ["self", "floor", "free", "thing"] (defScope sCHolds):=⟨rfl,rfl,rfl,by decide+kernel,rfl,by decide+kernel,by decide+kernel⟩
 refine F.ok sc (fun vs H Q E h=>by repeat (first|(obtain⟨rfl,_⟩:=h;rfl)|(obtain⟨_,h⟩:=h))) (fun cdv A outer s H vs Q E hr h=>?_)
 obtain⟨p,f,e,th,g,F',tg,cs,ds,rfl,hp,hF,hg,he,hTb,hth,hsz,p3,p4,hz,hz2,q⟩:=h
 refine⟨_,(pss_cons (ps_if (pw_or (pt_not (pt_val (pe_callB call_isinst (by rfl) T.isinstance_ bt_isinstance (pa_cons (pv 3) (pa_cons (pe_globC (by rfl) T.mg_Bundle) pa_nil))))) (pw_or1 (pt_cmpR op_ge (pe_callB call_len (by rfl) T.len_ bt_len (pa_cons (pe_fld (pv 0) rfl) pa_nil)) (pe_callB call_len (by rfl) T.len_ bt_len (pa_cons (pe_fld (pv 3) rfl) pa_nil)) (nomark _)))).pt
 (pss_one (ps_ret pe_bl))
 pss_nil)
 (pss_cons (ps_if (pw_or (pt_not (pt_val (pe_cal gInOrd (hr.mono (by decide)) (by rfl) (pa_cons (pe_fld (pv 0) rfl) pa_nil)))) (pw_or1 (pt_not (pt_val (pe_cal gInOrd (hr.mono (by decide)) (by rfl) (pa_cons (pe_fld (pv 0) rfl) pa_nil)))))).pt
 (pss_one (ps_ret pe_bl))
 pss_nil)
 (pss_cons (ps_if (pw_or (pt_cmpR op_gt (pe_cal gMany (hr.mono (by decide)) (by rfl) (pa_cons (pe_fld (pv 0) rfl) (pa_cons (pe_fld (pv 0) rfl) pa_nil))) pe_int (nomark _)) (pw_or1 (pt_cmpR op_gt (pe_cal gMany (hr.mono (by decide)) (by rfl) (pa_cons (pe_fld (pv 3) rfl) (pa_cons (pe_fld (pv 0) rfl) pa_nil))) pe_int (nomark _)))).pt
 (pss_one (ps_ret pe_bl))
 pss_nil)
 (pss_cons (ps_set (i:=4) sc.nd rfl (Or.inl rfl) (pe_op op_catG (pe_fld (pv 0) rfl) (pe_fld (pv 0) rfl)))
 (pss_cons (ps_if (pw_or (pt_not (pt_val (pe_cal gClear (hr.mono (by decide)) (by rfl) (pa_cons (pv 1) (pa_cons (pv 2) (pa_cons (pv 4) pa_nil)))))) (pw_or1 (pt_cmpR op_lt (pe_cal gMany (hr.mono (by decide)) (by rfl) (pa_cons (pe_fld (pv 3) rfl) (pa_cons (pv 4) pa_nil))) (pe_callB call_len (by rfl) T.len_ bt_len (pa_cons (pe_fld (pv 3) rfl) pa_nil)) (nomark _)))).pt
 (pss_one (ps_ret pe_bl))
 pss_nil)
 (pss_one (ps_ret (pe_cal gShut (hr.mono (by decide)) (by rfl) (pa_cons (pv 1) (pa_cons (pv 2) (pa_cons (pe_fld (pv 0) rfl) (pa_cons (pe_fld (pv 0) rfl) pa_nil)))))))))))),?_⟩
 have hsl:sizeLine=2^24:=rfl
 obtain⟨dx,t,u,h1,h2,h3⟩:=hp.ex
 cases tg with
 |net a=>
  obtain⟨dy,fs,t',k1,k2,k3⟩:=hth
  exact sq_ifof ⟨_,rfl,_,_,_,_,_,rfl,.ref cBundle,.ins k1 T.cl_Net T.qN T.qg T.qt T.oN,T.nb,_,rfl,iteT (iteT (rd_ret ev_c (q H (Same.refl H))))⟩
 |bun a b=>
  obtain⟨dy,fs,t',u',k1,k2,k2',k3,k4⟩:=hth
  obtain⟨z1,z2⟩:a.length≤18∧b.length≤18:=hsz
  obtain⟨cas,c1,c2⟩:=id h2
  obtain⟨das,d1,d2⟩:=id h3
  obtain⟨aas,a1,a2⟩:=id k3
  have lc:cas.length=cs.length:=Paired.length c2
  have ld:das.length=ds.length:=Paired.length d2
  have la:aas.length=a.length:=Paired.length a2
  refine sq_ifof ⟨_,rfl,_,_,_,_,_,rfl,.ref cBundle,.ins k1 T.cl_Bundle T.qB T.qg T.qt T.oB,T.b2,_,rfl,iteF ?_⟩
  refine et_use (et_of (c:=!decide (cs.length<a.length)) (et_test (ev_I0 (ev_cb (v:=.int ((cas.map V.ref).length:Nat)) (ea_cons (ev_fldT (ev_var rfl) h1 T.cl_CutPaper T.na_CutPaper_cut lkC) ea_nil) fun Q' q'=>⟨_,_,rfl,.inr ⟨_,SqT.of c1,rfl⟩,q'⟩) (ev_cb (v:=.int ((aas.map V.ref).length:Nat)) (ea_cons (ev_fldT (ev_var rfl) k1 T.cl_Bundle T.na_Bundle_starts k2) ea_nil) fun Q' q'=>⟨_,_,rfl,.inr ⟨_,SqT.of a1,rfl⟩,q'⟩))) ?_) ?_
  ·rw[List.length_map,List.length_map,lc,la]
   by_cases e:cs.length<a.length
   ·rw[decide_eq_true e,decide_eq_false (by omega)];rfl
   ·rw[decide_eq_false e,decide_eq_true (by omega)];rfl
  cases e0:decide (cs.length<a.length) with
  |false=>
   have q0:=q H (Same.refl H)
   dsimp only[prgV] at q0
   rw[e0] at q0
   exact iteT (rd_ret ev_c q0)
  |true=>
  refine iteF ?_
  refine sq_ifof ⟨_,rfl,p,cCutPaper,dx,_,_,rfl,h1,T.cl_CutPaper,T.na_CutPaper_cut,lkC,t,cs,rfl,h2,by omega,fun H1 s1=>⟨_,rfl,?_⟩⟩
  cases e1:inc cs with
  |false=>
   have q0:=q H1 s1
   dsimp only[prgV] at q0
   rw[e0,e1] at q0
   exact iteT (iteT (rd_ret ev_c q0))
  |true=>
  refine iteF ⟨_,rfl,p,cCutPaper,dx,_,_,rfl,s1 _ _ h1,T.cl_CutPaper,T.na_CutPaper_spots,lkU,u,ds,rfl,h3.same s1,by omega,fun H2 s2'=>⟨_,rfl,?_⟩⟩
  have s2:=s1.trans s2'
  cases e2:inc ds with
  |false=>
   have q0:=q H2 s2
   dsimp only[prgV] at q0
   rw[e0,e1,e2] at q0
   exact iteT (rd_ret ev_c q0)
  |true=>
  refine iteF ?_
  refine sq_ifof ⟨_,rfl,p,cCutPaper,dx,_,_,rfl,s2 _ _ h1,T.cl_CutPaper,T.na_CutPaper_cut,lkC,_,rfl,p,cCutPaper,dx,_,_,rfl,s2 _ _ h1,T.cl_CutPaper,T.na_CutPaper_spots,lkU,t,u,cs,ds,rfl,h2.same s2,h3.same s2,by omega,fun H3 s3'=>⟨_,_,rfl,rfl,_,rfl,?_⟩⟩
  have s3:=s2.trans s3'
  rw[gt_cnt]
  cases e3:decide (cnt cs ds=0) with
  |false=>
   have q0:=q H3 s3
   dsimp only[prgV] at q0
   rw[e0,e1,e2,e3] at q0
   exact iteT (iteT (rd_ret ev_c q0))
  |true=>
  refine iteF ⟨_,rfl,th,cBundle,dy,fs,_,rfl,s3 _ _ k1,T.cl_Bundle,T.na_Bundle_goals,k2',_,rfl,p,cCutPaper,dx,_,_,rfl,s3 _ _ h1,T.cl_CutPaper,T.na_CutPaper_spots,lkU,u',u,b,ds,rfl,k4.same s3,h3.same s3,by omega,fun H4 s4'=>⟨_,_,rfl,rfl,_,rfl,?_⟩⟩
  have s4:=s3.trans s4'
  rw[gt_cnt]
  cases e4:decide (cnt b ds=0) with
  |false=>
   have q0:=q H4 s4
   dsimp only[prgV] at q0
   rw[e0,e1,e2,e3,e4] at q0
   exact iteT (rd_ret ev_c q0)
  |true=>
  refine iteF ?_
  refine sq_asg ⟨_,rfl,p,cCutPaper,dx,_,_,rfl,s4 _ _ h1,T.cl_CutPaper,T.na_CutPaper_cut,lkC,_,rfl,p,cCutPaper,dx,_,_,rfl,s4 _ _ h1,T.cl_CutPaper,T.na_CutPaper_spots,lkU,t,u,_,_,rfl,rfl,s4 _ _ c1,s4 _ _ d1,by rw[List.length_map,List.length_map];omega,fun bt H5 s5' hbt=>?_⟩
  have s5:=s4.trans s5'
  rw[←List.map_append] at hbt
  have hb:TpL H5 bt (cs++ds):=⟨_,hbt,tups_mono (tups_app c2 d2) fun b xs z=>s5 _ _ z⟩
  refine sq_ifof ⟨_,rfl,_,rfl,_,rfl,f,e,bt,g,F',cs++ds,rfl,hF.same s5,hg,s5 _ _ he,hTb,hb,p3.app p4,by rw[List.length_append];omega,fun H6 s6'=>⟨_,rfl,?_⟩⟩
  have s6:=s5.trans s6'
  cases e5:(cs++ds).all (clr g F') with
  |false=>
   have q0:=q H6 s6
   dsimp only[prgV] at q0
   rw[e0,e1,e2,e3,e4,e5] at q0
   exact iteT (iteT (rd_ret ev_c q0))
  |true=>
  refine iteF ⟨_,rfl,th,cBundle,dy,fs,_,rfl,s6 _ _ k1,T.cl_Bundle,T.na_Bundle_starts,k2,_,rfl,t',bt,a,cs++ds,rfl,k3.same s6,hb.same s6',by omega,fun H7 s7'=>?_⟩
  have s7:=s6.trans s7'
  refine⟨_,rfl,th,cBundle,dy,fs,_,rfl,s7 _ _ k1,T.cl_Bundle,T.na_Bundle_starts,k2,_,_,rfl,.inr ⟨_,SqT.of (s7 _ _ a1),rfl⟩,_,_,rfl,rfl,_,rfl,?_⟩
  rw[show decide (((cnt a (cs++ds):Nat):Int)<(((aas.map V.ref).length:Nat):Int))=!decide (a.length≤cnt a (cs++ds)) by
   rw[List.length_map,la]
   by_cases e:a.length≤cnt a (cs++ds)
   ·rw[decide_eq_true e,decide_eq_false (by omega)];rfl
   ·rw[decide_eq_false e,decide_eq_true (by omega)];rfl]
  cases e6:decide (a.length≤cnt a (cs++ds)) with
  |false=>
   have q0:=q H7 s7
   dsimp only[prgV] at q0
   rw[e0,e1,e2,e3,e4,e5,e6] at q0
   exact iteT (rd_ret ev_c q0)
  |true=>
  refine iteF ?_
  refine rd_te ⟨_,rfl,_,rfl,_,rfl,p,cCutPaper,dx,_,_,rfl,s7 _ _ h1,T.cl_CutPaper,T.na_CutPaper_spots,lkU,_,rfl,p,cCutPaper,dx,_,_,rfl,s7 _ _ h1,T.cl_CutPaper,T.na_CutPaper_cut,lkC,f,e,u,t,g,F',ds,cs,rfl,hF.same s7,hg,s7 _ _ he,hTb,h3.same s7,h2.same s7,?_,by omega,by omega,fun H8 s8=>?_⟩
  ·rw[List.all_append,Bool.and_eq_true] at e5
   exact e5.2
  ·have q0:=q H8 (s7.trans s8)
   dsimp only[prgV] at q0
   rw[e0,e1,e2,e3,e4,e5,e6] at q0
   exact q0
theorem ok_Rows {cThing cNet cBundle cPaper cCutPaper cFloor cMS:Addr}{f:Addr}{fd:FuncData}(F:Fun K "_law_rows" "_law_rows" sRows f fd)(T:Txt K mg cThing cNet cBundle cPaper cCutPaper cFloor cMS):FnOk P w K mg base CX0 1 f fd ["spots", "doors"] spRows:=by
 have sc:FnScope ["spots", "doors", "k"] ["spots", "doors"] (defScope sRows):=⟨rfl,rfl,rfl,by decide+kernel,rfl,by decide+kernel,by decide+kernel⟩
 refine F.ok sc (fun vs H Q E h=>by repeat (first|(obtain⟨rfl,_⟩:=h;rfl)|(obtain⟨_,h⟩:=h))) (fun cdv A outer s H vs Q E hr h=>?_)
 obtain⟨l,d,g,F',cs,rfl,hd,⟨as,h1,h2⟩,p3,hz,q⟩:=h
 refine⟨_,(pss_cons (ps_for PassesOwn.never rfl (pi_range1 (by rfl) T.range_ (pa_cons (pe_callB call_len (by rfl) T.len_ bt_len (pa_cons (pv 0) pa_nil)) pa_nil)) (pg_name (i:=2) sc.nd rfl (Or.inl rfl))
 (pss_one (ps_if (pw_or (pt_cmp (pc_dnotin (Room.one hr) (pe_ix ix_list (pv 0) (pv 2) (fun _ _=>rfl)) (pv 1))) (pw_or1 (pw_and (pt_cmpR op_gt (pv 2) pe_int (nomark _)) (pw_and1 (pt_not (pt_cmpR (op_ltTK (K:=K) rfl (Room.units0 hr)) (pe_ix ix_list (pv 0) (pe_op op_sub (pv 2) pe_int) (fun _ _=>rfl)) (pe_ix ix_list (pv 0) (pv 2) (fun _ _=>rfl)) (nomark _))))).pt)).pt
 (pss_one (ps_ret pe_bl))
 pss_nil)))
 (pss_one (ps_ret pe_bl))),?_⟩
 have hsz:sizeLine=2^24:=rfl
 have len:as.length=cs.length:=Paired.length h2
 refine sq_rng1 (j:=(cs.length:Nat)) (ea_cons (ev_cb (v:=.int (cs.length:Nat)) (ea_cons (ev_var rfl) ea_nil) fun Q' q'=>⟨_,_,rfl,.inl ⟨_,SqL.of h1,(by rw[List.length_map,len])⟩,q'⟩) ea_nil) (by omega) (by omega) ?_
 refine for_range (n:=((cs.length:Nat):Int).toNat) (fun i σ H'=>∃x2:Option V,σ=[some (.ref l),some (.ref d),x2]∧H'=H∧(cs.take i).all (inF g.R g.C F')=true∧(inc (cs.drop (i - 1))=inc cs)) ⟨none,rfl,rfl,rfl,rfl⟩ ?_ ?_
 ·rintro i σ H' hi ⟨x2,rfl,rfl,hall,hinc⟩
  have hi:i<cs.length:=by simpa using hi
  obtain⟨a,ha⟩:∃a,as[i]?=some a:=⟨_,List.getElem?_eq_getElem (by omega)⟩
  obtain⟨c,hc,hac⟩:=tups_at h2 ha
  have at_:atI (as.map V.ref) (0+(i:Int))=some (.ref a):=by
   rw[Int.zero_add]
   refine atI_nat ?_
   rw[List.getElem?_map,ha];rfl
  have nxt:inF g.R g.C F' c=true→(cs.take (i+1)).all (inF g.R g.C F')=true:=fun e=>by rw[take_one hc,List.all_append,hall,List.all_cons,e];rfl
  have bad:inF g.R g.C F' c=false→rowsV g F' cs=false:=fun e=>by
   unfold rowsV
   rw[show cs.all (inF g.R g.C F')=false from List.all_eq_false.mpr ⟨c,List.mem_of_getElem? hc,by rw[e];decide⟩];rfl
  refine gn ?_
  refine rd_ifof ?_
  refine te_orU (et_of (c:=!inF g.R g.C F' c) (et_B (ev_dnotin (ev_ixL (v:=.ref a) (ev_var rfl) (ev_var rfl) (SqL.of h1) at_) (ev_var rfl) (dg (x:=c) (.inl hd) hac))) rfl) (fun e1=>?_) (fun e1=>?_)
  ·rw[bad (by simpa using e1)] at q
   exact iteT (rd_ret ev_c q)
  have e1:inF g.R g.C F' c=true:=by simpa using e1
  by_cases i0:i=0
  ·subst i0
   exact te_and (et_of (c:=false) (et_test (ev_I0 (ev_var rfl) ev_c)) rfl) (fun z=>nomatch z) fun _=>iteF ⟨_,rfl,rfl,nxt e1,rfl⟩
  ·obtain⟨a',ha'⟩:∃a,as[i - 1]?=some a:=⟨_,List.getElem?_eq_getElem (by omega)⟩
   obtain⟨c',hc',hac'⟩:=tups_at h2 ha'
   have at':atI (as.map V.ref) (0+(i:Int) - 1)=some (.ref a'):=by
    rw[show 0+(i:Int) - 1=((i - 1:Nat):Int) by omega]
    refine atI_nat ?_
    rw[List.getElem?_map,ha'];rfl
   have hc2:cs[i - 1+1]?=some c:=by rw[show i - 1+1=i by omega];exact hc
   have two:=inc_two hc' hc2
   rw[show i - 1+1=i by omega,hinc] at two
   refine te_and (et_of (c:=true) (et_test (ev_I0 (ev_var rfl) ev_c)) (decide_eq_true (by omega))) (fun _=>?_) (fun z=>nomatch z)
   refine et_use (et_not (et_test (ev_ltT (K:=K) (ev_ixL (v:=.ref a') (ev_var rfl) (ev_I0 (ev_var rfl) ev_c) (SqL.of h1) at') (ev_ixL (v:=.ref a) (ev_var rfl) (ev_var rfl) (SqL.of h1) at_) (SqT.of hac') (SqT.of hac)))) ?_
   cases e2:HT.lexLt c' c with
   |false=>
    rw[e2,Bool.false_and] at two
    have:rowsV g F' cs=false:=by unfold rowsV;rw[two,Bool.and_false]
    rw[this] at q
    exact iteT (rd_ret ev_c q)
   |true=>
    rw[e2,Bool.true_and] at two
    exact iteF ⟨_,rfl,rfl,nxt e1,by rw[Nat.add_sub_cancel];exact two.symm⟩
 ·rintro σ H' ⟨x2,rfl,rfl,hall,hinc⟩
  rw[show((cs.length:Nat):Int).toNat=cs.length from rfl] at hall hinc
  rw[List.take_length] at hall
  have:rowsV g F' cs=true:=by
   unfold rowsV
   rw[hall,←hinc,inc_end (by omega)];rfl
  rw[this] at q
  exact st (rd_ret ev_c q)
theorem sq_forL {K:PySem.W.Frag}{te:TE}{g:TG}{tb u:TS}{D:Ends}{σ:St}{H:Hp}(h:te σ H fun x H1=>∃a,x=.ref a∧(∃xs,SqL K H1 a xs)∧tFor (fun _ H R=>R (Itl K a) H) g tb {D with nx:=u D} σ H1):tSeq (tFor (iList K te) g tb) u D σ H:=h
theorem te_lane {K:PySem.W.Frag}{te tx:TE}{σ:St}{H:Hp}{b:Addr}{x:T3}{Q:VK}(P:Int→Prop)(ha:Ev te σ H (.ref b))(hb:H b=some (.tup (x.map V.int)))(hx:x≠[])(hl:x.length≤10)(hv:∀Q':VK,(∀v,P v→Q' (.int v) H)→tx σ H Q')
  (q:∀v p H',P v→Same H H'→H p=none→H' p=some (.tup ((x++[v]).map V.int))→Q (.ref p) H'):tOp (rCatT K) te (tTup (tCons tx tNil)) σ H Q:=by
 have hsz:sizeLine=2^24:=rfl
 refine ha _ (hv _ fun v pv=>⟨by show 1≤sizeLine;omega,fun t nt=>?_⟩)
 refine⟨b,t,x.map V.int,[.int v],rfl,rfl,SqT.of (by rw[upd_ne (ne_of_none hb nt)];exact hb),SqT.of upd_same,fun z=>hx (List.map_eq_nil_iff.mp z),by rw[List.length_map];show x.length+1≤_;omega,(fun z=>nomatch z),fun _ p np=>?_⟩
 have npt:p≠t:=fun z=>by rw[z,upd_same] at np;cases np
 refine q v p _ pv (((Same.refl H).upd nt).upd np) ?_ (by rw[upd_same,List.map_append];rfl)
 rw[upd_ne npt] at np
 exact np
theorem bes_at {g:Gd}{F:List (Nat×V)}{x y w:Int}{i:Nat}{c:T3}(h:(rnd x y w)[i]?=some c):((rnd x y w).take (i+1)).filter (inF g.R g.C F)=((rnd x y w).take i).filter (inF g.R g.C F)++(if inF g.R g.C F c=true then [c] else []):=by
 rw[take_one h,List.filter_append]
 cases e:inF g.R g.C F c with
 |false=>rw[List.filter_cons_of_neg (by rw[e];decide)];rfl
 |true=>rw[List.filter_cons_of_pos e];rfl
noncomputable def trn:List T3:=[[-1,0,0],[0,-1,0],[0,0,-1],[0,0,1],[0,1,0],[1,0,0]]
theorem trn_at {x y w:Int}{i:Nat}{c:T3}(h:trn[i]?=some c):∃p q r:Int,c=[p,q,r]∧(rnd x y w)[i]?=some [x+p,y+q,w+r]:=by
 match i,h with
 |0,h=>cases h;exact⟨-1,0,0,rfl,by show some _=some _;simp;omega⟩
 |1,h=>cases h;exact⟨0,-1,0,rfl,by show some _=some _;simp;omega⟩
 |2,h=>cases h;exact⟨0,0,-1,rfl,by show some _=some _;simp;omega⟩
 |3,h=>cases h;exact⟨0,0,1,rfl,by show some _=some _;simp⟩
 |4,h=>cases h;exact⟨0,1,0,rfl,by show some _=some _;simp⟩
 |5,h=>cases h;exact⟨1,0,0,rfl,by show some _=some _;simp⟩
 |n+6,h=>simp[trn] at h
theorem ok_Beside {cThing cNet cBundle cPaper cCutPaper cFloor cMS:Addr}{f:Addr}{fd:FuncData}(F:Fun K "_law_beside" "_law_beside" sBeside f fd)(T:Txt K mg cThing cNet cBundle cPaper cCutPaper cFloor cMS):FnOk P w K mg base CX0 1 f fd ["doors", "spot"] spBeside:=by
 have sc:FnScope ["doors", "spot", "found", "turn", "other"] ["doors", "spot"] (defScope sBeside):=⟨rfl,rfl,rfl,by decide+kernel,rfl,by decide+kernel,by decide+kernel⟩
 refine F.ok sc (fun vs H Q E h=>by repeat (first|(obtain⟨rfl,_⟩:=h;rfl)|(obtain⟨_,h⟩:=h))) (fun cdv A outer s H vs Q E hr h=>?_)
 obtain⟨d,b,g,F',x,y,w,rfl,hd,hb,q⟩:=h
 refine⟨_,(pss_cons (ps_set (i:=2) sc.nd rfl (Or.inl rfl) (pe_lst pa_nil))
 (pss_cons (ps_for PassesOwn.never rfl (pi_list (pe_lst (pa_cons (pe_tup (pa_cons (pe_un un_neg pe_int) (pa_cons pe_int (pa_cons pe_int pa_nil)))) (pa_cons (pe_tup (pa_cons pe_int (pa_cons (pe_un un_neg pe_int) (pa_cons pe_int pa_nil)))) (pa_cons (pe_tup (pa_cons pe_int (pa_cons pe_int (pa_cons (pe_un un_neg pe_int) pa_nil)))) (pa_cons (pe_tup (pa_cons pe_int (pa_cons pe_int (pa_cons pe_int pa_nil)))) (pa_cons (pe_tup (pa_cons pe_int (pa_cons pe_int (pa_cons pe_int pa_nil)))) (pa_cons (pe_tup (pa_cons pe_int (pa_cons pe_int (pa_cons pe_int pa_nil)))) pa_nil)))))))) (pg_name (i:=3) sc.nd rfl (Or.inl rfl))
 (pss_cons (ps_set (i:=4) sc.nd rfl (Or.inl rfl) (pe_tup (pa_cons (pe_op op_add (pe_ix ix_tup (pv 1) pe_int (fun _ _=>rfl)) (pe_ix ix_tup (pv 3) pe_int (fun _ _=>rfl))) (pa_cons (pe_op op_add (pe_ix ix_tup (pv 1) pe_int (fun _ _=>rfl)) (pe_ix ix_tup (pv 3) pe_int (fun _ _=>rfl))) (pa_cons (pe_op op_add (pe_ix ix_tup (pv 1) pe_int (fun _ _=>rfl)) (pe_ix ix_tup (pv 3) pe_int (fun _ _=>rfl))) pa_nil)))))
 (pss_one (ps_if (pt_cmp (pc_din (Room.one hr) (pv 4) (pv 0)))
 (pss_one (ps_expr (pe_bm PySem.F.plainAttrs_list PySem.F.slot_list_append PySem.F.type_list_append mt_append (pv 2) (pa_cons (pv 4) pa_nil))))
 pss_nil))))
 (pss_one (ps_ret (pv 2))))),?_⟩
 have hsz:sizeLine=2^24:=rfl
 refine sq_asg (te_lst (vs:=[]) ea_nil (Nat.zero_le _) fun G nG=>?_)
 have s1:Same H (upd H G (.lst [])):=(Same.refl H).upd nG
 have hG1:upd H G (.lst []) G=some (.lst (([]:List Addr).map V.ref)):=upd_same
 revert s1 hG1
 generalize upd H G (.lst [])=H1
 intro s1 hG1
 have three:(3:Nat)≤sizeLine:=by decide
 refine sq_forL (te_lstA ?_)
 refine ta_tup (vs:=[.int (-1),.int 0,.int 0]) (ea_cons (ev_U (i:=1) ev_c) (ea_cons ev_c (ea_cons ev_c ea_nil))) three fun A1 nA1=>?_
 have t1:Same H1 (upd H1 A1 (.tup [.int (-1),.int 0,.int 0])):=(Same.refl H1).upd nA1
 have y1:upd H1 A1 (.tup [.int (-1),.int 0,.int 0]) A1=some (.tup (([-1,0,0]:T3).map V.int)):=upd_same
 revert t1 y1
 generalize upd H1 A1 (.tup [.int (-1),.int 0,.int 0])=H2
 intro t1 y1
 refine ta_tup (vs:=[.int 0,.int (-1),.int 0]) (ea_cons ev_c (ea_cons (ev_U (i:=1) ev_c) (ea_cons ev_c ea_nil))) three fun A2 nA2=>?_
 have t2:Same H2 (upd H2 A2 (.tup [.int 0,.int (-1),.int 0])):=(Same.refl H2).upd nA2
 have y2:upd H2 A2 (.tup [.int 0,.int (-1),.int 0]) A2=some (.tup (([0,-1,0]:T3).map V.int)):=upd_same
 revert t2 y2
 generalize upd H2 A2 (.tup [.int 0,.int (-1),.int 0])=H3
 intro t2 y2
 refine ta_tup (vs:=[.int 0,.int 0,.int (-1)]) (ea_cons ev_c (ea_cons ev_c (ea_cons (ev_U (i:=1) ev_c) ea_nil))) three fun A3 nA3=>?_
 have t3:Same H3 (upd H3 A3 (.tup [.int 0,.int 0,.int (-1)])):=(Same.refl H3).upd nA3
 have y3:upd H3 A3 (.tup [.int 0,.int 0,.int (-1)]) A3=some (.tup (([0,0,-1]:T3).map V.int)):=upd_same
 revert t3 y3
 generalize upd H3 A3 (.tup [.int 0,.int 0,.int (-1)])=H4
 intro t3 y3
 refine ta_tup (vs:=[.int 0,.int 0,.int 1]) (ea_cons ev_c (ea_cons ev_c (ea_cons ev_c ea_nil))) three fun A4 nA4=>?_
 have t4:Same H4 (upd H4 A4 (.tup [.int 0,.int 0,.int 1])):=(Same.refl H4).upd nA4
 have y4:upd H4 A4 (.tup [.int 0,.int 0,.int 1]) A4=some (.tup (([0,0,1]:T3).map V.int)):=upd_same
 revert t4 y4
 generalize upd H4 A4 (.tup [.int 0,.int 0,.int 1])=H5
 intro t4 y4
 refine ta_tup (vs:=[.int 0,.int 1,.int 0]) (ea_cons ev_c (ea_cons ev_c (ea_cons ev_c ea_nil))) three fun A5 nA5=>?_
 have t5:Same H5 (upd H5 A5 (.tup [.int 0,.int 1,.int 0])):=(Same.refl H5).upd nA5
 have y5:upd H5 A5 (.tup [.int 0,.int 1,.int 0]) A5=some (.tup (([0,1,0]:T3).map V.int)):=upd_same
 revert t5 y5
 generalize upd H5 A5 (.tup [.int 0,.int 1,.int 0])=H6
 intro t5 y5
 refine ta_tup (vs:=[.int 1,.int 0,.int 0]) (ea_cons ev_c (ea_cons ev_c (ea_cons ev_c ea_nil))) three fun A6 nA6=>?_
 have t6:Same H6 (upd H6 A6 (.tup [.int 1,.int 0,.int 0])):=(Same.refl H6).upd nA6
 have y6:upd H6 A6 (.tup [.int 1,.int 0,.int 0]) A6=some (.tup (([1,0,0]:T3).map V.int)):=upd_same
 revert t6 y6
 generalize upd H6 A6 (.tup [.int 1,.int 0,.int 0])=H7
 intro t6 y6
 refine⟨(by show 6≤sizeLine;decide),fun L nL=>⟨L,rfl,⟨_,SqL.of upd_same⟩,?_⟩⟩
 have t7:Same H7 (upd H7 L (.lst [.ref A1,.ref A2,.ref A3,.ref A4,.ref A5,.ref A6])):=(Same.refl H7).upd nL
 have hL:upd H7 L (.lst [.ref A1,.ref A2,.ref A3,.ref A4,.ref A5,.ref A6]) L=some (.lst ([A1,A2,A3,A4,A5,A6].map V.ref)):=upd_same
 revert t7 hL
 generalize upd H7 L (.lst [.ref A1,.ref A2,.ref A3,.ref A4,.ref A5,.ref A6])=H8
 intro t7 hL
 have u6:=t6.trans t7
 have u5:=t5.trans u6
 have u4:=t4.trans u5
 have u3:=t3.trans u4
 have u2:=t2.trans u3
 have u1:=t1.trans u2
 have hT:Tups H8 [A1,A2,A3,A4,A5,A6] trn:=.cons (u2 _ _ y1) (.cons (u3 _ _ y2) (.cons (u4 _ _ y3) (.cons (u5 _ _ y4) (.cons (u6 _ _ y5) (.cons (t7 _ _ y6) .nil)))))
 have hG8:=u1 _ _ hG1
 have s8:=s1.trans u1
 have nLG:L≠G:=fun z=>by rw[z,(t1.trans (t2.trans (t3.trans (t4.trans (t5.trans t6))))) _ _ hG1] at nL;cases nL
 have ntG:∀{a:Addr} {o:HO},H a=some o→a≠G:=fun e z=>by rw[z,nG] at e;cases e
 refine for_list (K:=K) (xs:=[A1,A2,A3,A4,A5,A6].map V.ref) (fun i σ H'=>∃(x3 x4:Option V) (gs:List Addr),σ=[some (.ref d),some (.ref b),some (.ref G),x3,x4]∧Sb G H8 H'∧H' G=some (.lst (gs.map V.ref))∧Tups H' gs (((rnd x y w).take i).filter (inF g.R g.C F'))∧gs.length≤i) ⟨none,none,[],rfl,Sb.refl G H8,hG8,.nil,Nat.le_refl _⟩ (fun i σ H' _ ⟨_,_,_,_,sb,_⟩=>SqL.of (sb _ _ nLG hL)) ?_ ?_
 ·rintro i v σ H' hv ⟨x3,x4,gs,rfl,sb,hG,htu,hl⟩
  obtain⟨a,ha,rfl⟩:=at_ref hv
  obtain⟨c,hc,hac⟩:=tups_at hT ha
  have hi:i<6:=(List.getElem?_eq_some_iff.mp ha).1
  obtain⟨p,q',r,rfl,hr'⟩:=trn_at (x:=x) (y:=y) (w:=w) hc
  have haH:H' a=some (.tup [.int p,.int q',.int r]):=sb _ _ (ne_of hac hG8 (fun z=>nomatch z)) hac
  have hbH:H' b=some (.tup [.int x,.int y,.int w]):=sb _ _ (ntG hb) (s8 _ _ hb)
  have hdH:H' d=some (.dT (enc g.R g.C F')):=sb _ _ (ntG hd) (s8 _ _ hd)
  refine gn ?_
  refine sq_asg (te_tup (vs:=[.int (x+p),.int (y+q'),.int (w+r)]) (ea_cons (ev_I0 (ev_ixT (v:=.int x) (ev_var rfl) ev_c (SqT.of hbH) rfl) (ev_ixT (v:=.int p) (ev_var rfl) ev_c (SqT.of haH) rfl)) (ea_cons (ev_I0 (ev_ixT (v:=.int y) (ev_var rfl) ev_c (SqT.of hbH) rfl) (ev_ixT (v:=.int q') (ev_var rfl) ev_c (SqT.of haH) rfl)) (ea_cons (ev_I0 (ev_ixT (v:=.int w) (ev_var rfl) ev_c (SqT.of hbH) rfl) (ev_ixT (v:=.int r) (ev_var rfl) ev_c (SqT.of haH) rfl)) ea_nil))) three fun O nO=>?_)
  have sO:Same H' (upd H' O (.tup [.int (x+p),.int (y+q'),.int (w+r)])):=(Same.refl H').upd nO
  have hO:upd H' O (.tup [.int (x+p),.int (y+q'),.int (w+r)]) O=some (.tup (([x+p,y+q',w+r]:T3).map V.int)):=upd_same
  revert sO hO
  generalize upd H' O (.tup [.int (x+p),.int (y+q'),.int (w+r)])=H9
  intro sO hO
  have sb9:Sb G H8 H9:=sb.trans (Sb.of sO)
  refine rd_if (et_of (c:=inF g.R g.C F' [x+p,y+q',w+r]) (et_B (ev_din (ev_var rfl) (ev_var rfl) (dg (x:=[x+p,y+q',w+r]) (.inl (sO _ _ hdH)) hO))) rfl) (fun e=>?_) (fun e=>?_)
  ·refine⟨_,rfl,.inl ⟨rfl,_,SqL.of (sO _ _ hG)⟩,_,rfl,G,_,_,rfl,rfl,sO _ _ hG,by rw[List.length_map];omega,_,_,gs++[O],rfl,sb9.set,by rw[upd_same,List.map_append];rfl,?_,by rw[List.length_append];show gs.length+1≤_;omega⟩
   rw[bes_at hr',if_pos e]
   exact tups_app (tups_mono (tups_mono htu fun b xs z=>sO _ _ z) (keep_lst0 (sO _ _ hG))) (.cons (keep_lst0 (sO _ _ hG) _ _ hO) .nil)
  ·refine⟨_,_,gs,rfl,sb9,sO _ _ hG,?_,by omega⟩
   rw[bes_at hr',if_neg (by rw[e];decide),List.append_nil]
   exact tups_mono htu fun b xs z=>sO _ _ z
 ·rintro σ H' ⟨x3,x4,gs,rfl,sb,hG,htu,hl⟩
  have sH:Same H H':=fun a o e=>sb _ _ (ntG e) (s8 _ _ e)
  exact st (rd_ret (ev_var rfl) (q H' G sH ⟨gs,hG,htu⟩))
theorem te_use {te:TE}{σ:St}{H:Hp}{v:V}{Q:VK}(h:Ev te σ H v)(q:Q v H):te σ H Q:=h _ q
theorem ta_one {te:TE}{tr:TA}{σ:St}{H:Hp}{Q:List V→Hp→Prop}(h:te σ H fun x H1=>tr σ H1 fun xs H2=>Q (x::xs) H2):tCons te tr σ H Q:=h
theorem ev_cell {K:PySem.W.Frag}{σ:St}{H:Hp}{ta:TA}{a:Addr}{ns:List Int}(i:Nat)(h:EvA ta σ H [.ref a,.int (i:Int)])(hs:SqL K H a (ns.map V.int)):Ev (tCall (spCell K) [] E0 ta) σ H (.int (cellv ns i)):=ev_cal h fun _ z=>⟨a,ns,i,rfl,hs,z⟩
def EvR (te:TE) (σ:St) (H:Hp) (P:Int→Prop):Prop:=∀Q:VK,(∀v,P v→Q (.int v) H)→te σ H Q
theorem er_mix {σ:St}{H:Hp}{ta:TA}{c k p:Int}(h:EvA ta σ H [.int c,.int k,.int p])(p1:1≤p)(p2:p≤2000000):EvR (tCall spMix [] E0 ta) σ H (fun v=>0≤v):=fun _ z=>te_cal h ⟨c,k,p,rfl,p1,p2,z⟩
theorem er_mod {ta tb:TE}{σ:St}{H:Hp}{m:Int}(h:EvR ta σ H (fun v=>0≤v))(hb:Ev tb σ H (.int m))(hm:0<m):EvR (tOp (rI (fun _ j=>0<j) fun i j=> .int (i%j)) ta tb) σ H (fun v=>0≤v∧v<m):=
 fun _ z=>h _ fun v _=>hb _ ⟨v,m,rfl,rfl,hm,z _ ⟨Int.emod_nonneg _ (by omega),Int.emod_lt_of_pos _ hm⟩⟩
theorem er_ix {K:PySem.W.Frag}{ta tb:TE}{σ:St}{H:Hp}{a:Addr}{as:List Addr}{Q:VK}(ha:Ev ta σ H (.ref a))(hb:EvR tb σ H (fun v=>0≤v∧v<(as.length:Int)))(hs:SqL K H a (as.map V.ref))(q:∀(i:Nat) b,as[i]?=some b→Q (.ref b) H):tOp (rIxL K) ta tb σ H Q:=
 ha _ (hb _ fun v hv=>by
  obtain⟨b,h1,h2⟩:=at_of (xs:=as) hv.1 hv.2
  exact⟨a,_,v,_,rfl,rfl,hs,h2,q _ b h1⟩)
theorem pr_erase {α β:Type}{F:α→β→Prop}:∀{as:List α} {cs:List β},Paired F as cs→∀k,Paired F (as.eraseIdx k) (cs.eraseIdx k)
 |_,_,.nil,_=> .nil
 |_::_,_::_,.cons _ t,0=>t
 |_::_,_::_,.cons r t,k+1=> .cons r (pr_erase t k)
theorem sql_keep {K:PySem.W.Frag}{H H':Hp}{a:Addr}{xs:List V}(h:SqL K H a xs)(k:∀o,H a=some o→H' a=some o):SqL K H' a xs:=by
 rcases h with (z|⟨o,z⟩)|z
 ·exact .inl (.inl (k _ z))
 ·exact .inl (.inr ⟨o,k _ z⟩)
 ·exact .inr z
theorem perm_erase {α:Type}:∀{l:List α} {i:Nat} (h:i<l.length),(l[i]::l.eraseIdx i).Perm l
 |_::_,0,_=>List.Perm.refl _
 |a::l,i+1,h=>(List.Perm.swap _ _ _).trans ((perm_erase (l:=l) (i:=i) (by simpa using h)).cons a)
theorem lN_at {r i j:Nat}(hj:j<r):lN r (i*r+j)=[(i:Int),(j:Int)]:=by
 unfold lN
 rw[show(i*r+j)/r=i by rw[Nat.mul_comm,Nat.mul_add_div (by omega),Nat.div_eq_of_lt hj,Nat.add_zero],show(i*r+j)%r=j by rw[Nat.mul_comm,Nat.mul_add_mod,Nat.mod_eq_of_lt hj]]
theorem lanes_snoc (r n:Nat):lanes r (n+1)=lanes r n++[lN r n]:=by
 unfold lanes
 rw[List.range_succ,List.map_append];rfl
theorem lanes_len (r n:Nat):(lanes r n).length=n:=by unfold lanes;rw[List.length_map,List.length_range]
theorem lanes_at {r n i:Nat}{c:T3}(h:(lanes r n)[i]?=some c):i<n∧c=lN r i:=by
 unfold lanes at h
 rw[List.getElem?_map] at h
 obtain⟨k,hk,rfl⟩:=Option.map_eq_some_iff.mp h
 have:=List.getElem?_eq_some_iff.mp hk
 have h1:=this.1
 rw[List.length_range] at h1
 have h2:=this.2
 rw[List.getElem_range] at h2
 exact⟨h1,by rw[h2]⟩
theorem ok_Lanes {cThing cNet cBundle cPaper cCutPaper cFloor cMS:Addr}{f:Addr}{fd:FuncData}(F:Fun K "_law_lanes" "_law_lanes" sLanes f fd)(T:Txt K mg cThing cNet cBundle cPaper cCutPaper cFloor cMS)(gCell:Callee P w K mg base "_law_cell_at" 1 ["script", "k"] (spCell K)):FnOk P w K mg base CX0 2 f fd ["script"] (spLanes K):=by
 have sc:FnScope ["script", "lanes", "layer", "row"] ["script"] (defScope sLanes):=⟨rfl,rfl,rfl,by decide+kernel,rfl,by decide+kernel,by decide+kernel⟩
 refine F.ok sc (fun vs H Q E h=>by repeat (first|(obtain⟨rfl,_⟩:=h;rfl)|(obtain⟨_,h⟩:=h))) (fun cdv A outer s H vs Q E hr h=>?_)
 obtain⟨a,ns,rfl,ha,q⟩:=h
 refine⟨_,(pss_cons (ps_set (i:=1) sc.nd rfl (Or.inl rfl) (pe_lst pa_nil))
 (pss_cons (ps_for PassesOwn.never rfl (pi_range1 (by rfl) T.range_ (pa_cons (pe_op op_add pe_int (pe_op op_mod (pe_cal gCell (hr.mono (by decide)) (by rfl) (pa_cons (pv 0) (pa_cons pe_int pa_nil))) pe_int)) pa_nil)) (pg_name (i:=2) sc.nd rfl (Or.inl rfl))
 (pss_one (ps_for PassesOwn.never rfl (pi_range1 (by rfl) T.range_ (pa_cons (pe_op op_add pe_int (pe_op op_mod (pe_cal gCell (hr.mono (by decide)) (by rfl) (pa_cons (pv 0) (pa_cons pe_int pa_nil))) pe_int)) pa_nil)) (pg_name (i:=3) sc.nd rfl (Or.inl rfl))
 (pss_one (ps_expr (pe_bm PySem.F.plainAttrs_list PySem.F.slot_list_append PySem.F.type_list_append mt_append (pv 1) (pa_cons (pe_tup (pa_cons (pv 2) (pa_cons (pv 3) pa_nil))) pa_nil)))))))
 (pss_one (ps_ret (pv 1))))),?_⟩
 have hsz:sizeLine=2^24:=rfl
 have hL:=Lz_eq ns
 have hR:=Rz_eq ns
 refine sq_asg (te_lst (vs:=[]) ea_nil (Nat.zero_le _) fun G nG=>?_)
 have s1:Same H (upd H G (.lst [])):=(Same.refl H).upd nG
 have hG1:upd H G (.lst []) G=some (.lst []):=upd_same
 revert s1 hG1
 generalize upd H G (.lst [])=H1
 intro s1 hG1
 refine sq_rng1 (j:=((Lz ns:Nat):Int)) (ea_cons (ev_of (ev_I0 ev_c (ev_I (ev_cell 0 (ea_cons (ev_var rfl) (ea_cons ev_c ea_nil)) (s1.seq ha)) ev_c (by show(0:Int)<2;decide))) (by rw[hL.1])) ea_nil) (by omega) (by omega) ?_
 refine for_range (n:=((Lz ns:Nat):Int).toNat) (fun i σ H'=>∃x2 x3:Option V,σ=[some (.ref a),some (.ref G),x2,x3]∧Same H H'∧∃as:List Addr,H' G=some (.lst (as.map V.ref))∧Tups H' as (lanes (Rz ns) (i*Rz ns))) ⟨none,none,rfl,s1,[],hG1,by rw[Nat.zero_mul];exact .nil⟩ ?_ ?_
 ·rintro i σ H' hi ⟨x2,x3,rfl,s,as,hG,has⟩
  have hi:i<Lz ns:=by simpa using hi
  refine gn ?_
  refine rd_rng1 (j:=((Rz ns:Nat):Int)) (ea_cons (ev_of (ev_I0 ev_c (ev_I (ev_cell 1 (ea_cons (ev_var rfl) (ea_cons ev_c ea_nil)) (s.seq ha)) ev_c (by show(0:Int)<3;decide))) (by rw[hR.1])) ea_nil) (by omega) (by omega) ?_
  refine for_range (n:=((Rz ns:Nat):Int).toNat) (fun j σ H'=>∃x3:Option V,σ=[some (.ref a),some (.ref G),some (.int (0+(i:Int))),x3]∧Same H H'∧∃as:List Addr,H' G=some (.lst (as.map V.ref))∧Tups H' as (lanes (Rz ns) (i*Rz ns+j))) ⟨x3,rfl,s,as,hG,has⟩ ?_ ?_
  ·rintro j σ H' hj ⟨x3,rfl,s,as,hG,has⟩
   have hj:j<Rz ns:=by simpa using hj
   have las:as.length=i*Rz ns+j:=by rw[Paired.length has,lanes_len]
   have bnd:i*Rz ns≤2*4:=Nat.mul_le_mul (by omega) (by omega)
   refine gn ?_
   refine⟨_,rfl,.inl ⟨rfl,_,SqL.of hG⟩,?_⟩
   refine ta_tup (vs:=[.int (0+(i:Int)),.int (0+(j:Int))]) (ea_cons (ev_var rfl) (ea_cons (ev_var rfl) ea_nil)) (by show 2≤sizeLine;decide) fun P nP=>?_
   have nPG:P≠G:=Ne.symm (ne_of_none hG nP)
   refine⟨G,_,_,rfl,rfl,by rw[upd_ne (Ne.symm nPG)];exact hG,by rw[List.length_map];omega,_,rfl,same_at (s.upd nP) nG,as++[P],by rw[upd_same,List.map_append];rfl,?_⟩
   rw[show i*Rz ns+(j+1)=i*Rz ns+j+1 from rfl,lanes_snoc,lN_at hj]
   refine tups_app (tups_mono has (keep_lst hG nP)) (.cons ?_ .nil)
   show upd (upd H' P _) G _ P=_
   rw[upd_ne nPG,upd_same,Int.zero_add,Int.zero_add];rfl
  ·rintro σ H' ⟨x3,rfl,s,as,hG,has⟩
   refine⟨_,_,rfl,s,as,hG,?_⟩
   rw[Nat.add_mul,Nat.one_mul]
   exact has
 ·rintro σ H' ⟨x2,x3,rfl,s,as,hG,has⟩
  exact st (rd_ret (ev_var rfl) (q H' G s ⟨as,hG,has⟩))
theorem ok_Picked {cThing cNet cBundle cPaper cCutPaper cFloor cMS:Addr}{f:Addr}{fd:FuncData}(F:Fun K "_law_picked" "_law_picked" sPicked f fd)(T:Txt K mg cThing cNet cBundle cPaper cCutPaper cFloor cMS)(gCell:Callee P w K mg base "_law_cell_at" 1 ["script", "k"] (spCell K))(gMix:Callee P w K mg base "_law_mix" 1 ["cell", "k", "prime"] spMix):FnOk P w K mg base CX0 2 f fd ["script", "at", "lanes", "many"] (spPicked K):=by
 have sc:FnScope ["script", "at", "lanes", "many", "rest", "found", "k"] ["script", "at", "lanes", "many"] (defScope sPicked):=⟨rfl,rfl,rfl,by decide+kernel,rfl,by decide+kernel,by decide+kernel⟩
 refine F.ok sc (fun vs H Q E h=>by repeat (first|(obtain⟨rfl,_⟩:=h;rfl)|(obtain⟨_,h⟩:=h))) (fun cdv A outer s H vs Q E hr h=>?_)
 obtain⟨a,l,ns,k,r,n,m,rfl,ha,⟨as,h1,h2⟩,n8,mn,q⟩:=h
 refine⟨_,(pss_cons (ps_set (i:=4) sc.nd rfl (Or.inl rfl) (pe_callTy call_list_of (by rfl) T.list_ bt_list (pa_cons (pv 2) pa_nil)))
 (pss_cons (ps_set (i:=5) sc.nd rfl (Or.inl rfl) (pe_lst pa_nil))
 (pss_cons (ps_for PassesOwn.never rfl (pi_range1 (by rfl) T.range_ (pa_cons (pv 3) pa_nil)) (pg_name (i:=6) sc.nd rfl (Or.inl rfl))
 (pss_one (ps_expr (pe_bm PySem.F.plainAttrs_list PySem.F.slot_list_append PySem.F.type_list_append mt_append (pv 5) (pa_cons (pe_bm PySem.F.plainAttrs_list PySem.F.slot_list_pop PySem.F.type_list_pop mt_popAt (pv 4) (pa_cons (pe_op op_mod (pe_cal gMix (hr.mono (by decide)) (by rfl) (pa_cons (pe_cal gCell (hr.mono (by decide)) (by rfl) (pa_cons (pv 0) (pa_cons (pv 1) pa_nil))) (pa_cons (pe_op op_add (pe_op op_mul pe_int (pv 1)) (pv 6)) (pa_cons pe_int pa_nil)))) (pe_callB call_len (by rfl) T.len_ bt_len (pa_cons (pv 4) pa_nil))) pa_nil)) pa_nil)))))
 (pss_one (ps_ret (pv 5)))))),?_⟩
 have hsz:sizeLine=2^24:=rfl
 have la:as.length=n:=by rw[Paired.length h2,lanes_len]
 refine sq_asg ⟨_,rfl,l,_,rfl,.inl (SqL.of h1),fun R nR=>?_⟩
 have s1:Same H (upd H R (.lst (as.map V.ref))):=(Same.refl H).upd nR
 have hR1:upd H R (.lst (as.map V.ref)) R=some (.lst (as.map V.ref)):=upd_same
 revert s1 hR1
 generalize upd H R (.lst (as.map V.ref))=H1
 intro s1 hR1
 refine sq_asg (te_lst (vs:=[]) ea_nil (Nat.zero_le _) fun G nG=>?_)
 have s2':Same H1 (upd H1 G (.lst [])):=(Same.refl H1).upd nG
 have hG1:upd H1 G (.lst []) G=some (.lst (([]:List Addr).map V.ref)):=upd_same
 revert s2' hG1
 generalize upd H1 G (.lst [])=H2
 intro s2' hG1
 have s2:=s1.trans s2'
 have hR2:=s2' _ _ hR1
 have nRG:R≠G:=ne_of_none hR1 nG
 have old:∀{b:Addr} {o:HO},H b=some o→b∉[R,G]:=fun{b o} e z=>by
  rcases List.mem_cons.mp z with z|z
  ·rw[z,nR] at e;cases e
  ·rw[List.mem_singleton.mp z] at e
   rw[s1 _ _ e] at nG;cases nG
 refine sq_rng1 (j:=(m:Int)) (ea_cons (ev_var rfl) ea_nil) (by omega) (by omega) ?_
 refine for_range (n:=(m:Int).toNat) (fun i σ H'=>∃(x6:Option V) (ra fa:List Addr) (rj fj:List Nat),σ=[some (.ref a),some (.int (k:Int)),some (.ref l),some (.int (m:Int)),some (.ref R),some (.ref G),x6]∧Bt [R,G] H2 H'∧H' R=some (.lst (ra.map V.ref))∧H' G=some (.lst (fa.map V.ref))∧Tups H' ra (rj.map (lN r))∧Tups H' fa (fj.map (lN r))∧(fj++rj).Perm (List.range n)∧fj.length=i)
  ⟨none,as,[],List.range n,[],rfl,Bt.refl _ _,hR2,hG1,tups_mono h2 (fun b xs z=>s2 _ _ z),.nil,List.Perm.refl _,rfl⟩ ?_ ?_
 ·rintro i σ H' hi ⟨x6,ra,fa,rj,fj,rfl,bt,hR,hG,htr,htf,hp,hl⟩
  have hi:i<m:=by simpa using hi
  have lr:ra.length=rj.length:=by rw[Paired.length htr,List.length_map]
  have lf:fa.length=fj.length:=by rw[Paired.length htf,List.length_map]
  have lp:fj.length+rj.length=n:=by have:=hp.length_eq;rw[List.length_append,List.length_range] at this;exact this
  have haH:SqL K H' a (ns.map V.int):=sql_keep ha fun o z=>bt _ _ (old z) (s2 _ _ z)
  refine gn ?_
  refine⟨_,rfl,.inl ⟨rfl,_,SqL.of hG⟩,?_⟩
  refine ta_one ⟨_,rfl,.inl ⟨rfl,_,SqL.of hR⟩,?_⟩
  refine ta_one ?_
  refine er_mod (m:=((ra.length:Nat):Int)) (er_mix (ea_cons (ev_cell k (ea_cons (ev_var rfl) (ea_cons (ev_var rfl) ea_nil)) haH) (ea_cons (ev_I0 (ev_I ev_c (ev_var rfl) (cmL (by decide) (by decide))) (ev_var rfl)) (ea_cons ev_c ea_nil))) (by decide) (by decide)) (ev_cb (v:=.int ((ra.length:Nat):Int)) (ea_cons (ev_var rfl) ea_nil) fun Q' q'=>⟨_,_,rfl,.inl ⟨_,SqL.of hR,(by rw[List.length_map])⟩,q'⟩) (by omega) _ fun v hv=>?_
  obtain⟨v0,v1⟩:=hv
  have hk:v.toNat<rj.length:=by omega
  obtain⟨b,hb⟩:∃b,ra[v.toNat]?=some b:=⟨_,List.getElem?_eq_getElem (by omega)⟩
  obtain⟨c,hc,hbc⟩:=tups_at htr hb
  rw[List.getElem?_map,List.getElem?_eq_getElem hk] at hc
  have hc:c=lN r rj[v.toNat]:=(Option.some.inj hc).symm
  refine⟨R,_,v,v.toNat,.ref b,rfl,rfl,hR,by omega,by omega,seqIndex_of v0 (by rw[List.length_map];exact v1),by rw[List.getElem?_map,hb];rfl,?_⟩
  have bt1:=bt.set (l:=R) (y:=.lst ((ra.map V.ref).eraseIdx v.toNat)) (by simp)
  have hR':upd H' R (.lst ((ra.map V.ref).eraseIdx v.toNat)) R=some (.lst ((ra.eraseIdx v.toNat).map V.ref)):=by rw[upd_same,map_eraseIdx]
  have hG':upd H' R (.lst ((ra.map V.ref).eraseIdx v.toNat)) G=some (.lst (fa.map V.ref)):=by rw[upd_ne (Ne.symm nRG)];exact hG
  have kt:∀b xs,H' b=some (.tup xs)→upd H' R (.lst ((ra.map V.ref).eraseIdx v.toNat)) b=some (.tup xs):=keep_lst0 hR
  revert bt1 hR' hG' kt
  generalize upd H' R (.lst ((ra.map V.ref).eraseIdx v.toNat))=H3
  intro bt1 hR' hG' kt
  refine⟨G,_,_,rfl,rfl,hG',by rw[List.length_map];omega,?_⟩
  refine⟨_,ra.eraseIdx v.toNat,fa++[b],rj.eraseIdx v.toNat,fj++[rj[v.toNat]],rfl,bt1.set (by simp),by rw[upd_ne nRG];exact hR',by rw[upd_same,List.map_append];rfl,?_,?_,?_,by rw[List.length_append,hl];rfl⟩
  ·have:=pr_erase (tups_mono htr kt) v.toNat
   rw[map_eraseIdx] at this
   exact tups_mono this (keep_lst0 hG')
  ·rw[List.map_append]
   refine tups_mono (tups_app (tups_mono htf kt) (.cons ?_ .nil)) (keep_lst0 hG')
   rw[←hc]
   exact kt _ _ hbc
  ·rw[List.append_assoc]
   exact(List.Perm.append_left fj (perm_erase hk)).trans hp
 ·rintro σ H' ⟨x6,ra,fa,rj,fj,rfl,bt,hR,hG,htr,htf,hp,hl⟩
  have hnd:(fj++rj).Nodup:=hp.nodup_iff.mpr List.nodup_range
  have sH:Same H H':=fun b o e=>bt _ _ (old e) (s2 _ _ e)
  exact st (rd_ret (ev_var rfl) (q H' G fj sH ⟨fa,hG,htf⟩ (List.nodup_append.mp hnd).1 (fun j hj=>List.mem_range.mp (hp.mem_iff.mp (List.mem_append_left _ hj))) (by rw[hl];simp)))
theorem ok_Strewn {cThing cNet cBundle cPaper cCutPaper cFloor cMS:Addr}{f:Addr}{fd:FuncData}(F:Fun K "_law_strewn" "_law_strewn" sStrewn f fd)(T:Txt K mg cThing cNet cBundle cPaper cCutPaper cFloor cMS)(gMix:Callee P w K mg base "_law_mix" 1 ["cell", "k", "prime"] spMix):FnOk P w K mg base CX0 2 f fd ["script", "lanes", "columns", "ends"] (spStrewn K):=by
 have sc:FnScope ["script", "lanes", "columns", "ends", "rocks", "shut", "k", "lane", "spot", "kind"] ["script", "lanes", "columns", "ends"] (defScope sStrewn):=⟨rfl,rfl,rfl,by decide+kernel,rfl,by decide+kernel,by decide+kernel⟩
 refine F.ok sc (fun vs H Q E h=>by repeat (first|(obtain⟨rfl,_⟩:=h;rfl)|(obtain⟨_,h⟩:=h))) (fun cdv A outer s H vs Q E hr h=>?_)
 obtain⟨a,l,e,ns,L,r,c,n,es,rfl,ha,hn,S,⟨las,l1,l2⟩,n1,n8,c3,c6,⟨eas,e1,e2⟩,q⟩:=h
 refine⟨_,(pss_cons (ps_set (i:=4) sc.nd rfl (Or.inl rfl) (pe_lst pa_nil))
 (pss_cons (ps_set (i:=5) sc.nd rfl (Or.inl rfl) pe_dnewT)
 (pss_cons (ps_for PassesOwn.never rfl (pi_range2 (by rfl) T.range_ (pa_cons pe_int (pa_cons (pe_callB call_len (by rfl) T.len_ bt_len (pa_cons (pv 0) pa_nil)) pa_nil))) (pg_name (i:=6) sc.nd rfl (Or.inl rfl))
 (pss_cons (ps_set (i:=7) sc.nd rfl (Or.inl rfl) (pe_ix ix_list (pv 1) (pe_op op_mod (pe_cal gMix (hr.mono (by decide)) (by rfl) (pa_cons (pe_ix ix_list (pv 0) (pv 6) (fun _ _=>rfl)) (pa_cons (pv 6) (pa_cons pe_int pa_nil)))) (pe_callB call_len (by rfl) T.len_ bt_len (pa_cons (pv 1) pa_nil))) (fun _ _=>rfl)))
 (pss_cons (ps_set (i:=8) sc.nd rfl (Or.inl rfl) (pe_op op_catT (pv 7) (pe_tup (pa_cons (pe_op op_mod (pe_cal gMix (hr.mono (by decide)) (by rfl) (pa_cons (pe_ix ix_list (pv 0) (pv 6) (fun _ _=>rfl)) (pa_cons (pv 6) (pa_cons pe_int pa_nil)))) (pv 2)) pa_nil))))
 (pss_cons (ps_set (i:=9) sc.nd rfl (Or.inl rfl) (pe_op op_mod (pe_cal gMix (hr.mono (by decide)) (by rfl) (pa_cons (pe_ix ix_list (pv 0) (pv 6) (fun _ _=>rfl)) (pa_cons (pv 6) (pa_cons pe_int pa_nil)))) pe_int))
 (pss_cons (ps_if (pw_and (pt_cmpR (op_notinT hr) (pv 8) (pv 3) (by with_unfolding_all rfl)) (pw_and1 (pt_cmpR op_eq (pv 9) pe_int (nomark _)))).pt
 (pss_one (ps_expr (pe_bm PySem.F.plainAttrs_list PySem.F.slot_list_append PySem.F.type_list_append mt_append (pv 4) (pa_cons (pv 8) pa_nil))))
 pss_nil)
 (pss_one (ps_if (pw_and (pt_cmpR (op_notinT hr) (pv 8) (pv 3) (by with_unfolding_all rfl)) (pw_and1 (pt_cmpR op_eq (pv 9) pe_int (nomark _)))).pt
 (pss_one (ps_dput (Room.one hr) (pv 5) (pv 8) pe_bl (by rfl)))
 pss_nil)))))))
 (pss_one (ps_ret (pe_tup (pa_cons (pv 4) (pa_cons (pv 5) pa_nil)))))))),?_⟩
 have hsz:sizeLine=2^24:=rfl
 have ll:las.length=n:=by rw[Paired.length l2,lanes_len]
 have nc:n*c≤8*6:=Nat.mul_le_mul n8 c6
 refine sq_asg (te_lst (vs:=[]) ea_nil (Nat.zero_le _) fun G nG=>?_)
 have s1:Same H (upd H G (.lst [])):=(Same.refl H).upd nG
 have hG1:upd H G (.lst []) G=some (.lst (([]:List Addr).map V.ref)):=upd_same
 revert s1 hG1
 generalize upd H G (.lst [])=H1
 intro s1 hG1
 refine sq_asg fun d nd=>?_
 have s2':Same H1 (upd H1 d (.dT [])):=(Same.refl H1).upd nd
 have hd1:upd H1 d (.dT []) d=some (.dT (enc (r:Int) (c:Int) [])):=upd_same
 revert s2' hd1
 generalize upd H1 d (.dT [])=H2
 intro s2' hd1
 have s2:=s1.trans s2'
 have hG2:=s2' _ _ hG1
 have old:∀{b:Addr} {o:HO},H b=some o→b∉[G,d]:=fun{b o} e z=>by
  rcases List.mem_cons.mp z with z|z
  ·rw[z,nG] at e;cases e
  ·rw[List.mem_singleton.mp z] at e
   rw[s1 _ _ e] at nd;cases nd
 have nGd:G≠d:=ne_of_none hG1 nd
 refine sq_rng2 (i:=12) (j:=(ns.length:Nat)) (ea_cons ev_c (ea_cons (ev_cb (v:=.int (ns.length:Nat)) (ea_cons (ev_var rfl) ea_nil) fun Q' q'=>⟨_,_,rfl,.inl ⟨_,s2.seq ha,(by rw[List.length_map])⟩,q'⟩) ea_nil)) ⟨by omega,by omega,by omega,by omega⟩ ?_
 refine for_range (n:=((ns.length:Int) - 12).toNat) (fun i σ H'=>∃(x6 x7 x8 x9:Option V) (ga:List Addr) (rs:List Nat) (S:List (Nat×V)),σ=[some (.ref a),some (.ref l),some (.int (c:Int)),some (.ref e),some (.ref G),some (.ref d),x6,x7,x8,x9]∧Bt [G,d] H2 H'∧H' G=some (.lst (ga.map V.ref))∧H' d=some (.dT (enc (r:Int) (c:Int) S))∧Tups H' ga (rs.map (sN (r:Int) (c:Int)))∧Tb (n*c) S∧(∀k∈rs,k<n*c∧k∉es)∧rs.length≤i∧(∀p∈S,p.1∉es))
  ⟨none,none,none,none,[],[],[],rfl,Bt.refl _ _,hG2,hd1,.nil,Tb.nil,(fun _ h=>nomatch h),Nat.le_refl _,(fun _ h=>nomatch h)⟩ ?_ ?_
 ·rintro i σ H' hi ⟨x6,x7,x8,x9,ga,rs,S',rfl,bt,hG,hd,htg,hT,hrs,hl,hS⟩
  have hi':i<51:=by omega
  have kp:∀{b:Addr} {o:HO},H b=some o→H' b=some o:=fun e=>bt _ _ (old e) (s2 _ _ e)
  have haH:SqL K H' a (ns.map V.int):=sql_keep ha fun o z=>kp z
  have lg:ga.length=rs.length:=by rw[Paired.length htg,List.length_map]
  obtain⟨u,eu,_⟩:=at_int (cs:=ns) (i:=12+(i:Int)) (by omega) (by omega)
  have few:=hT.few
  refine gn ?_
  refine sq_asg (er_ix (as:=las) (ev_var rfl) (er_mod (m:=((las.length:Nat):Int)) (er_mix (ea_cons (ev_ixL (v:=.int u) (ev_var rfl) (ev_var rfl) haH eu) (ea_cons (ev_var rfl) (ea_cons ev_c ea_nil))) (by decide) (by decide)) (ev_cb (v:=.int ((las.length:Nat):Int)) (ea_cons (ev_var rfl) ea_nil) fun Q' q'=>⟨_,_,rfl,.inl ⟨_,SqL.of (kp l1),(by rw[List.length_map])⟩,q'⟩) (by omega)) (SqL.of (kp l1)) fun j b hb=>?_)
  obtain⟨cc,hcc,hbc⟩:=tups_at l2 hb
  obtain⟨jn,rfl⟩:=lanes_at hcc
  refine sq_asg (te_lane (x:=lN r j) (fun v=>0≤v∧v<(c:Int)) (ev_var rfl) (kp hbc) (fun z=>nomatch z) (by show 2≤10;decide) (er_mod (er_mix (ea_cons (ev_ixL (v:=.int u) (ev_var rfl) (ev_var rfl) haH eu) (ea_cons (ev_var rfl) (ea_cons ev_c ea_nil))) (by decide) (by decide)) (ev_var rfl) (by omega)) fun v p H3 hv s3 np hp=>?_)
  obtain⟨x,rfl⟩:=Int.eq_ofNat_of_zero_le hv.1
  have hx:x<c:=by have:=hv.2;omega
  rw[lane_sN hx] at hp
  have kM:j*c+x<n*c:=num_lt jn hx
  have bt3:=bt.same s3
  have hG3:=s3 _ _ hG
  have hd3:=s3 _ _ hd
  have htg3:=tups_mono htg fun b xs z=>s3 _ _ z
  have kp3:∀{b:Addr} {o:HO},H b=some o→H3 b=some o:=fun e=>s3 _ _ (kp e)
  have haH3:SqL K H3 a (ns.map V.int):=s3.seq haH
  refine sq_asg (er_mod (m:=4) (er_mix (ea_cons (ev_ixL (v:=.int u) (ev_var rfl) (ev_var rfl) haH3 eu) (ea_cons (ev_var rfl) (ea_cons ev_c ea_nil))) (by decide) (by decide)) ev_c (by decide) _ fun kd _=>?_)
  have hno:∀{w:Bool},(!decide (sN (r:Int) (c:Int) (j*c+x)∈es.map (sN (r:Int) (c:Int)))&&w)=true→j*c+x∉es:=fun{w} z hm=>by
   rw[Bool.and_eq_true,decide_eq_true (List.mem_map_of_mem hm)] at z
   exact absurd z.1 (by decide)
  refine sq_ifR (fun σ' H''=>∃(ga:List Addr) (rs:List Nat),σ'=[some (.ref a),some (.ref l),some (.int (c:Int)),some (.ref e),some (.ref G),some (.ref d),some (.int (12+(i:Int))),some (.ref b),some (.ref p),some (.int kd)]∧Bt [G,d] H2 H''∧H'' G=some (.lst (ga.map V.ref))∧H'' d=some (.dT (enc (r:Int) (c:Int) S'))∧Tups H'' ga (rs.map (sN (r:Int) (c:Int)))∧H'' p=some (.tup ((sN (r:Int) (c:Int) (j*c+x)).map V.int))∧(∀k∈rs,k<n*c∧k∉es)∧rs.length≤i+1)
   (et_and (et_test (ev_notinT (c:=sN (r:Int) (c:Int) (j*c+x)) (ev_var rfl) (ev_var rfl) hp (SqL.of (kp3 e1)) (tups_mono e2 fun b xs z=>kp3 z))) fun _=>et_test (ev_eqI (ev_var rfl) ev_c)) (fun z R hR=>?_) (fun _ R hR=>hR _ _ ⟨ga,rs,rfl,bt3,hG3,hd3,htg3,hp,hrs,by omega⟩) ?_
  ·refine⟨_,rfl,.inl ⟨rfl,_,SqL.of hG3⟩,_,rfl,G,_,_,rfl,rfl,hG3,by rw[List.length_map];omega,hR _ _ ⟨ga++[p],rs++[j*c+x],rfl,bt3.set (by simp),by rw[upd_same,List.map_append];rfl,by rw[upd_ne (Ne.symm nGd)];exact hd3,?_,keep_lst0 hG3 _ _ hp,?_,by rw[List.length_append];show rs.length+1≤_;omega⟩⟩
   ·rw[List.map_append]
    exact tups_app (tups_mono htg3 (keep_lst0 hG3)) (.cons (keep_lst0 hG3 _ _ hp) .nil)
   ·intro k hk
    rcases List.mem_append.mp hk with hk|hk
    ·exact hrs k hk
    ·rw[List.mem_singleton.mp hk];exact⟨kM,hno z⟩
  rintro σ' H4 ⟨ga,rs,rfl,bt4,hG4,hd4,htg4,hp4,hrs4,hl4⟩
  have kp4:∀{b:Addr} {o:HO},H b=some o→H4 b=some o:=fun e=>bt4 _ _ (old e) (s2 _ _ e)
  refine rd_if (et_and (et_test (ev_notinT (c:=sN (r:Int) (c:Int) (j*c+x)) (ev_var rfl) (ev_var rfl) hp4 (SqL.of (kp4 e1)) (tups_mono e2 fun b xs z=>kp4 z))) fun _=>et_test (ev_eqI (ev_var rfl) ev_c)) (fun z=>?_) (fun _=>?_)
  ·refine rd_dput ev_c (ev_var rfl) (ev_var rfl) (DPut.t (k:=iK (sN (r:Int) (c:Int) (j*c+x))) hd4 (iK_at hp4) (by rw[enc_len];omega)) ?_
   refine⟨_,_,_,_,ga,rs,putK S' (j*c+x) (.bl true),rfl,bt4.set (by simp),by rw[upd_ne nGd];exact hG4,by rw[upd_same,put_enc S],tups_mono htg4 fun b xs z=>by rw[upd_ne (ne_of z hd4 (fun y=>nomatch y))];exact z,hT.put kM,hrs4,hl4,fun p hp=>?_⟩
   rcases put_val hp with h|h
   ·exact hS p h
   ·rw[h];exact hno z
  ·exact⟨_,_,_,_,ga,rs,S',rfl,bt4,hG4,hd4,htg4,hT,hrs4,hl4,hS⟩
 ·rintro σ H' ⟨x6,x7,x8,x9,ga,rs,S',rfl,bt,hG,hd,htg,hT,hrs,hl,hS⟩
  have sH:Same H H':=fun b o e=>bt _ _ (old e) (s2 _ _ e)
  refine st (rd_te (te_tup (vs:=[.ref G,.ref d]) (ea_cons (ev_var rfl) (ea_cons (ev_var rfl) ea_nil)) (by show 2≤sizeLine;decide) fun t nt=>?_))
  have st':Same H' (upd H' t (.tup [.ref G,.ref d])):=(Same.refl H').upd nt
  exact q _ t G d rs S' (sH.trans st') upd_same ⟨ga,st' _ _ hG,tups_mono htg fun b xs z=>st' _ _ z⟩ (st' _ _ hd) hT hrs (by omega) hS
theorem lc_lane {K:PySem.W.Frag}{H1:Hp}{D a:Addr}{as:List Addr}{js:List Nat}{r c:Nat}{tt:TT}{tx:TE}{rest:List (Option V)}{Q:Hp→Prop}(x:Nat)(f:Nat→Bool)(hx:x<c)(nD:H1 D=none)(hm:∀H',Same H1 H'→SqL K H' a (as.map V.ref))(ht:Tups H1 as (js.map (lN r)))(hz:as.length≤1000)
  (hv:∀b H',Same H1 H'→Ev tx (some (.ref b)::rest) H' (.int (x:Int)))
  (hc:∀b j H' (Q':Bool→Hp→Prop),j∈js→H' b=some (.tup ((lN r j).map V.int))→Same H1 H'→(∀H'',Same H' H''→Q' (f j) H'')→tt (some (.ref b)::rest) H' Q')
  (q:∀H' bs,Same H1 H'→H' D=some (.lst (bs.map V.ref))→Tups H' bs ((js.filter f).map fun j=>sN (r:Int) (c:Int) (j*c+x))→Q H'):lcW (none::rest) (gName 0) tt (tOp (rCatT K) (tVar 0) (tTup (tCons tx tNil))) (Itl K a) H1 D Q:=by
 have len:as.length=js.length:=by rw[Paired.length ht,List.length_map]
 have hsz:sizeLine=2^24:=rfl
 refine lc_listG (K:=K) (xs:=as.map V.ref) (fun i τ H'=>∃(x0:Option V) (bs:List Addr),τ=x0::rest∧Same H1 H'∧H' D=some (.lst (bs.map V.ref))∧Tups H' bs (((js.take i).filter f).map fun j=>sN (r:Int) (c:Int) (j*c+x))∧bs.length≤i) ⟨none,[],rfl,(Same.refl H1).upd nD,upd_same,.nil,Nat.le_refl _⟩ (fun i τ H' _ ⟨_,_,_,s,_⟩=>hm _ s) ?_ ?_
 ·rintro i v τ H' hx' ⟨x0,bs,rfl,s,hD,hbs,hl⟩
  obtain⟨b,hb,rfl⟩:=at_ref hx'
  obtain⟨cc,hcc,e⟩:=tups_at ht hb
  rw[List.getElem?_map] at hcc
  obtain⟨j,hj,rfl⟩:=Option.map_eq_some_iff.mp hcc
  have hi:i<as.length:=(List.getElem?_eq_some_iff.mp hb).1
  refine gn (hc b j H' _ (List.mem_of_getElem? hj) (s _ _ e) s fun H2 s2=>?_)
  have sD:=s.trans s2
  have hD2:=s2 _ _ hD
  have hbs2:=tups_mono hbs fun b xs z=>s2 _ _ z
  cases hf:f j with
  |true=>
   refine iteT ?_
   refine te_lane (x:=lN r j) (fun v=>v=(x:Int)) (ev_var rfl) (sD _ _ e) (fun z=>nomatch z) (by show 2≤10;decide) (fun Q' z=>hv b H2 sD _ (z _ rfl)) fun v p H3 hv' s3 np hp=>?_
   subst hv'
   rw[lane_sN hx] at hp
   have hD3:=s3 _ _ hD2
   refine⟨bs.map V.ref,hD3,by rw[List.length_map];omega,_,bs++[p],rfl,same_at (sD.trans s3) nD,by rw[upd_same,List.map_append];rfl,?_,by rw[List.length_append];show bs.length+1≤_;omega⟩
   rw[take_one hj,List.filter_append,List.filter_cons_of_pos hf,List.map_append]
   exact tups_app (tups_mono (tups_mono hbs2 fun b xs z=>s3 _ _ z) (keep_lst0 hD3)) (.cons (keep_lst0 hD3 _ _ hp) .nil)
  |false=>
   refine iteF ⟨_,bs,rfl,sD,hD2,?_,by omega⟩
   rw[take_one hj,List.filter_append,List.filter_cons_of_neg (by rw[hf];decide),List.filter_nil,List.append_nil]
   exact hbs2
 ·rintro τ H' ⟨x0,bs,rfl,s,hD,hbs,hl⟩
  rw[List.length_map,len,List.take_length] at hbs
  exact q H' bs s hD hbs
theorem filter_yes {α:Type}(l:List α):l.filter (fun _=>true)=l:=List.filter_eq_self.mpr fun _ _=>rfl
theorem rd_notin {K:PySem.W.Frag}{H:Hp}{b p:Addr}{as:List Addr}{c:List Int}{cs:List (List Int)}{Q:VK}(h1:H b=some (.tup (c.map V.int)))(h2:SqL K H p (as.map V.ref))(h3:Tups H as cs)(q:Q (.bl (!decide (c∈cs))) H):rInT K true (.ref b) (.ref p) H Q:=⟨b,p,as,c,cs,rfl,rfl,h1,h2,h3,q⟩
theorem many_ok (ns:List Int):∃m:Nat,2+cellv ns 3%((if ((Nz ns:Nat):Int)<6 then ((Nz ns:Nat):Int) else 6) - 1)=(m:Int)∧2≤m∧m≤6∧m≤Nz ns∧0<((if ((Nz ns:Nat):Int)<6 then ((Nz ns:Nat):Int) else 6) - 1):=by
 have hn:=Nz_eq ns
 generalize Nz ns=n at*
 obtain⟨d,hd,d1,d2⟩:∃d:Int,(if ((n:Nat):Int)<6 then ((n:Nat):Int) else 6) - 1=d∧1≤d∧d≤5∧d+1≤n:=by split<;>exact⟨_,rfl,by omega,by omega,by omega⟩
 rw[hd]
 have h0:=Int.emod_nonneg (cellv ns 3) (show d≠0 by omega)
 have h1:=Int.emod_lt_of_pos (cellv ns 3) (show 0<d by omega)
 exact⟨(2+cellv ns 3%d).toNat,by omega,by omega,by omega,by omega,by omega⟩
theorem goals_ok (ns:List Int)(m:Nat)(h:m≤Nz ns):∃g:Nat,(if (m:Int)+cellv ns 4%3<((Nz ns:Nat):Int) then (m:Int)+cellv ns 4%3 else ((Nz ns:Nat):Int))=(g:Int)∧m≤g∧g≤Nz ns:=by
 have h0:=Int.emod_nonneg (cellv ns 4) (show(3:Int)≠0 by decide)
 split
 ·exact⟨((m:Int)+cellv ns 4%3).toNat,by omega,by omega,by omega⟩
 ·exact⟨Nz ns,rfl,h,Nat.le_refl _⟩
theorem narrow_ok (ns:List Int):∃w:Nat,1+cellv ns 7%(((Cz ns:Nat):Int) - 2)=(w:Int)∧1≤w∧w+1<Cz ns:=by
 have h:=Cz_eq ns
 have h0:=Int.emod_nonneg (cellv ns 7) (show((Cz ns:Nat):Int) - 2≠0 by omega)
 have h1:=Int.emod_lt_of_pos (cellv ns 7) (show 0<((Cz ns:Nat):Int) - 2 by omega)
 exact⟨(1+cellv ns 7%(((Cz ns:Nat):Int) - 2)).toNat,by omega,by omega,by omega⟩
theorem gaps_ok (ns:List Int){m:Nat}(hm:2≤m):∃w:Nat,cellv ns 9%(m:Int)=(w:Int)∧w<m:=by
 have h0:=Int.emod_nonneg (cellv ns 9) (show(m:Int)≠0 by omega)
 have h1:=Int.emod_lt_of_pos (cellv ns 9) (show 0<(m:Int) by omega)
 exact⟨(cellv ns 9%(m:Int)).toNat,by omega,by omega⟩
structure Drs (rs:List Nat) (S F:List (Nat×V)) (M k:Nat):Prop where
 tb:Tb M F
 vv:∀p∈F,p.2=.bl true
 op:∀p∈F,p.1∉rs
 al:∀j,j<k→j∉rs→(valV S j).isSome=false→(valV F j).isSome=true
theorem Drs.nil {rs:List Nat}{S:List (Nat×V)}{M:Nat}:Drs rs S [] M 0:=⟨Tb.nil,(fun _ h=>nomatch h),(fun _ h=>nomatch h),fun _ h=>absurd h (Nat.not_lt_zero _)⟩
theorem Drs.put {rs:List Nat}{S F:List (Nat×V)}{M k:Nat}(h:Drs rs S F M k)(hk:k<M)(h1:k∉rs):Drs rs S (putK F k (.bl true)) M (k+1) where
 tb:=h.tb.put hk
 vv:=fun p hp=>(put_val hp).elim (h.vv p) fun e=>by rw[e]
 op:=fun p hp=>(put_val hp).elim (h.op p) fun e=>by rw[e];exact h1
 al:=fun j hj h2 h3=>by
  rw[valV_put]
  by_cases e:j=k
  ·rw[if_pos e];rfl
  ·rw[if_neg e];exact h.al j (by omega) h2 h3
theorem Drs.skip {rs:List Nat}{S F:List (Nat×V)}{M k:Nat}(h:Drs rs S F M k)(h1:k∈rs∨(valV S k).isSome=true):Drs rs S F M (k+1):=
 ⟨h.tb,h.vv,h.op,fun j hj h2 h3=>by
  by_cases e:j=k
  ·subst e
   rcases h1 with z|z
   ·exact absurd z h2
   ·rw[z] at h3;cases h3
  ·exact h.al j (by omega) h2 h3⟩
set_option maxHeartbeats 4000000 in
theorem ok_Plan {cThing cNet cBundle cPaper cCutPaper cFloor cMS:Addr}{f:Addr}{fd:FuncData}(F:Fun K "_law_plan" "_law_plan" sPlan f fd)(T:Txt K mg cThing cNet cBundle cPaper cCutPaper cFloor cMS)(gCell:Callee P w K mg base "_law_cell_at" 1 ["script", "k"] (spCell K))(gLanes:Callee P w K mg base "_law_lanes" 2 ["script"] (spLanes K))(gPicked:Callee P w K mg base "_law_picked" 2 ["script", "at", "lanes", "many"] (spPicked K))(gStrewn:Callee P w K mg base "_law_strewn" 2 ["script", "lanes", "columns", "ends"] (spStrewn K)):FnOk P w K mg base CX0 3 f fd ["script"] (spPlan K):=by
 have sc:FnScope ["script", "columns", "lanes", "many", "goals", "starts", "narrow", "gaps", "rocks", "shut", "doors", "lane", "column"] ["script"] (defScope sPlan):=⟨rfl,rfl,rfl,by decide+kernel,rfl,by decide+kernel,by decide+kernel⟩
 refine F.ok sc (fun vs H Q E h=>by repeat (first|(obtain⟨rfl,_⟩:=h;rfl)|(obtain⟨_,h⟩:=h))) (fun cdv A outer s H vs Q E hr h=>?_)
 obtain⟨a,ns,rfl,ha,hn63,q⟩:=h
 refine⟨_,(pss_cons (ps_set (i:=1) sc.nd rfl (Or.inr rfl) (pe_op op_add pe_int (pe_op op_mod (pe_cal gCell (hr.mono (by decide)) (by rfl) (pa_cons (pv 0) (pa_cons pe_int pa_nil))) pe_int)))
 (pss_cons (ps_set (i:=2) sc.nd rfl (Or.inl rfl) (pe_cal gLanes (hr.mono (by decide)) (by rfl) (pa_cons (pv 0) pa_nil)))
 (pss_cons (ps_set (i:=3) sc.nd rfl (Or.inl rfl) (pe_op op_add pe_int (pe_op op_mod (pe_cal gCell (hr.mono (by decide)) (by rfl) (pa_cons (pv 0) (pa_cons pe_int pa_nil))) (pe_op op_sub (pe_callB (call_min2 rfl) (by rfl) T.min_ bt_min (pa_cons pe_int (pa_cons (pe_callB call_len (by rfl) T.len_ bt_len (pa_cons (pv 2) pa_nil)) pa_nil))) pe_int))))
 (pss_cons (ps_set (i:=4) sc.nd rfl (Or.inl rfl) (pe_callB (call_min2 rfl) (by rfl) T.min_ bt_min (pa_cons (pe_callB call_len (by rfl) T.len_ bt_len (pa_cons (pv 2) pa_nil)) (pa_cons (pe_op op_add (pv 3) (pe_op op_mod (pe_cal gCell (hr.mono (by decide)) (by rfl) (pa_cons (pv 0) (pa_cons pe_int pa_nil))) pe_int)) pa_nil))))
 (pss_cons (ps_lcset (i:=5) (ls:=["lane"]) (ys:=[]) (ix:=[]) rfl sc.nd rfl (Or.inl rfl) ⟨rfl,by rfl,by rfl,by rfl,by rfl,rfl⟩ (pi_list (pe_cal gPicked (hr.mono (by decide)) (by rfl) (pa_cons (pv 0) (pa_cons pe_int (pa_cons (pv 2) (pa_cons (pv 3) pa_nil)))))) (fun _ _ _ _ _=>(pg_name (i:=0) (show(["lane"]:List Str).Nodup by decide+kernel) rfl (Or.inl rfl))) (fun _ _ _ _ _=>pf_nil) (fun _ _ _ _ _=>(pe_op (op_catTK (K:=K) rfl) (pv 0) (pe_tup (pa_cons pe_int pa_nil)))))
 (pss_cons (ps_lcset (i:=4) (ls:=["lane"]) (ys:=["columns"]) (ix:=[1]) rfl sc.nd rfl (Or.inl rfl) ⟨rfl,by rfl,by rfl,by rfl,by rfl,rfl⟩ (pi_list (pe_cal gPicked (hr.mono (by decide)) (by rfl) (pa_cons (pv 0) (pa_cons pe_int (pa_cons (pv 2) (pa_cons (pv 4) pa_nil)))))) (fun _ _ _ _ _=>(pg_name (i:=0) (show(["lane", "columns"]:List Str).Nodup by decide+kernel) rfl (Or.inl rfl))) (fun _ _ _ _ _=>pf_nil) (fun _ _ _ _ _=>(pe_op (op_catTK (K:=K) rfl) (pv 0) (pe_tup (pa_cons (pe_op op_sub (pv 1) pe_int) pa_nil)))))
 (pss_cons (ps_set (i:=6) sc.nd rfl (Or.inr rfl) (pe_op op_add pe_int (pe_op op_mod (pe_cal gCell (hr.mono (by decide)) (by rfl) (pa_cons (pv 0) (pa_cons pe_int pa_nil))) (pe_op op_sub (pv 1) pe_int))))
 (pss_cons (ps_set (i:=7) sc.nd rfl (Or.inr rfl) (pe_cal gPicked (hr.mono (by decide)) (by rfl) (pa_cons (pv 0) (pa_cons pe_int (pa_cons (pv 2) (pa_cons (pe_op op_mod (pe_cal gCell (hr.mono (by decide)) (by rfl) (pa_cons (pv 0) (pa_cons pe_int pa_nil))) (pv 3)) pa_nil))))))
 (pss_cons (ps_asg (pe_cal gStrewn (hr.mono (by decide)) (by rfl) (pa_cons (pv 0) (pa_cons (pv 2) (pa_cons (pv 1) (pa_cons (pe_op op_cat (pv 5) (pv 4)) pa_nil))))) (pg_tup rfl (pgs_cons (pg_name (i:=8) sc.nd rfl (Or.inl rfl)) (pgs_cons (pg_name (i:=9) sc.nd rfl (Or.inl rfl)) pgs_nil))))
 (pss_cons (ps_set (i:=8) sc.nd rfl (Or.inl rfl) (pe_op op_cat (pv 8) (pe_lc (ls:=["lane"]) (ys:=["narrow", "gaps"]) (ix:=[6,7]) rfl ⟨rfl,by rfl,by rfl,by rfl,by rfl,rfl⟩ (pi_list (pv 2)) (fun _ _ _ _ _=>(pg_name (i:=0) (show(["lane", "narrow", "gaps"]:List Str).Nodup by decide+kernel) rfl (Or.inl rfl))) (fun _ _ _ _ _=>(pf_one (pt_cmpR (op_notinTK (K:=K) rfl (by exact hr)) (pv 0) (pv 2) (by with_unfolding_all rfl)))) (fun _ _ _ _ _=>(pe_op (op_catTK (K:=K) rfl) (pv 0) (pe_tup (pa_cons (pv 1) pa_nil)))))))
 (pss_cons (ps_set (i:=10) sc.nd rfl (Or.inl rfl) pe_dnewT)
 (pss_cons (ps_for PassesOwn.never rfl (pi_list (pv 2)) (pg_name (i:=11) sc.nd rfl (Or.inl rfl))
 (pss_one (ps_for PassesOwn.never rfl (pi_range1 (by rfl) T.range_ (pa_cons (pv 1) pa_nil)) (pg_name (i:=12) sc.nd rfl (Or.inl rfl))
 (pss_one (ps_if (pw_and (pt_cmpR (op_notinT hr) (pe_op op_catT (pv 11) (pe_tup (pa_cons (pv 12) pa_nil))) (pv 8) (by with_unfolding_all rfl)) (pw_and1 (pt_cmp (pc_dnotin (Room.one hr) (pe_op op_catT (pv 11) (pe_tup (pa_cons (pv 12) pa_nil))) (pv 9))))).pt
 (pss_one (ps_dput (Room.one hr) (pv 10) (pe_op op_catT (pv 11) (pe_tup (pa_cons (pv 12) pa_nil))) pe_bl (by rfl)))
 pss_nil)))))
 (pss_one (ps_ret (pe_tup (pa_cons (pv 1) (pa_cons (pv 2) (pa_cons (pv 5) (pa_cons (pv 4) (pa_cons (pv 6) (pa_cons (pv 8) (pa_cons (pv 9) (pa_cons (pv 10) pa_nil))))))))))))))))))))))),?_⟩
 have hsz:sizeLine=2^24:=rfl
 have hC:=Cz_eq ns
 have hR:=Rz_eq ns
 have hN:=Nz_eq ns
 have Z:=szs36 ns
 refine sq_set (v:=.int ((Cz ns:Nat):Int)) (ev_of (ev_I0 ev_c (ev_I (ev_cell 2 (ea_cons (ev_var rfl) (ea_cons ev_c ea_nil)) ha) ev_c (by show(0:Int)<4;decide))) (congrArg V.int hC.1.symm)) ?_
 refine sq_asgH fun Rh hRh=>te_cal (sp:=spLanes K) (ea_cons (ev_var rfl) ea_nil) ⟨a,ns,rfl,ha,fun H1 la s1 hla=>hRh _ _ ?_⟩
 obtain⟨las,l1,l2⟩:=id hla
 have ll:las.length=Nz ns:=by rw[Paired.length l2,lanes_len]
 have ha1:=s1.seq ha
 refine nrm (σ':=[some (.ref a),some (.int ((Cz ns:Nat):Int)),some (.ref la),none,none,none,none,none,none,none,none,none,none]) (by kernel_rfl) ?_
 obtain⟨m,em,m2,m6,mn,mp⟩:=many_ok ns
 refine sq_set (v:=.int (m:Int)) (ev_of (ev_I0 ev_c (ev_I (ev_cell 3 (ea_cons (ev_var rfl) (ea_cons ev_c ea_nil)) ha1) (ev_I0 (ev_cb (v:=.int (if ((Nz ns:Nat):Int)<6 then ((Nz ns:Nat):Int) else 6)) (ea_cons ev_c (ea_cons (ev_cb (v:=.int ((Nz ns:Nat):Int)) (ea_cons (ev_var rfl) ea_nil) fun Q' q'=>⟨_,_,rfl,.inl ⟨_,SqL.of l1,(by rw[List.length_map,ll])⟩,q'⟩) ea_nil)) fun Q' q'=>⟨_,_,rfl,q'⟩) ev_c) mp)) (congrArg V.int em)) ?_
 obtain⟨gn',eg,mg',gN⟩:=goals_ok ns m mn
 refine sq_set (v:=.int (gn':Int)) (ev_of (ev_cb (v:=.int (if (m:Int)+cellv ns 4%3<((Nz ns:Nat):Int) then (m:Int)+cellv ns 4%3 else ((Nz ns:Nat):Int))) (ea_cons (ev_cb (v:=.int ((Nz ns:Nat):Int)) (ea_cons (ev_var rfl) ea_nil) fun Q' q'=>⟨_,_,rfl,.inl ⟨_,SqL.of l1,(by rw[List.length_map,ll])⟩,q'⟩) (ea_cons (ev_I0 (ev_var rfl) (ev_I (ev_cell 4 (ea_cons (ev_var rfl) (ea_cons ev_c ea_nil)) ha1) ev_c (by show(0:Int)<3;decide))) ea_nil)) fun Q' q'=>⟨_,_,rfl,q'⟩) (congrArg V.int eg)) ?_
 refine nrm (σ':=[some (.ref a),some (.int ((Cz ns:Nat):Int)),some (.ref la),some (.int (m:Int)),some (.int (gn':Int)),none,none,none,none,none,none,none,none]) (by kernel_rfl) ?_
 refine sq_hide fun Rh hRh=>?_
 refine te_cal (sp:=spPicked K) (ea_cons (ev_var rfl) (ea_cons ev_c (ea_cons (ev_var rfl) (ea_cons (ev_var rfl) ea_nil)))) ⟨a,la,ns,5,Rz ns,Nz ns,m,rfl,ha1,hla,hN.2,mn,fun H2 pl ss s2' ⟨pas,p1,p2⟩ nds lts lns=>⟨pl,rfl,⟨_,SqL.of p1⟩,fun D nD=>?_⟩⟩
 have lps:pas.length=m:=by rw[Paired.length p2,List.length_map,lns]
 refine lc_lane (c:=Cz ns) 0 (fun _=>true) (by omega) nD (fun H' s=>SqL.of (s _ _ p1)) p2 (by omega) (fun b H' _=>ev_c) (fun b j H' Q' _ _ _ z=>z _ (Same.refl H')) fun H3 bs s3' hD hbs=>?_
 rw[filter_yes] at hbs
 refine hRh _ _ ?_
 have s3:=s1.trans (s2'.trans s3')
 have ha3:=s3.seq ha
 have hst:AtL H3 D ((ss.map fun j=>j*Cz ns+0).map (sN ((Rz ns:Nat):Int) ((Cz ns:Nat):Int))):=⟨bs,hD,by rw[List.map_map];exact hbs⟩
 have hla3:=hla.same (s2'.trans s3')
 revert hst
 generalize D=st'
 intro hst
 refine nrm (σ':=[some (.ref a),some (.int ((Cz ns:Nat):Int)),some (.ref la),some (.int (m:Int)),some (.int (gn':Int)),some (.ref st'),none,none,none,none,none,none,none]) (by kernel_rfl) ?_
 refine sq_hide fun Rh hRh=>?_
 refine te_cal (sp:=spPicked K) (ea_cons (ev_var rfl) (ea_cons ev_c (ea_cons (ev_var rfl) (ea_cons (ev_var rfl) ea_nil)))) ⟨a,la,ns,6,Rz ns,Nz ns,gn',rfl,ha3,hla3,hN.2,gN,fun H4 pg gs s4' ⟨gas,g1,g2⟩ ndg ltg lng=>⟨pg,rfl,⟨_,SqL.of g1⟩,fun D nD=>?_⟩⟩
 have lpg:gas.length=gn':=by rw[Paired.length g2,List.length_map,lng]
 refine lc_lane (c:=Cz ns) (Cz ns - 1) (fun _=>true) (by omega) nD (fun H' s=>SqL.of (s _ _ g1)) g2 (by omega) (fun b H' _=>ev_of (ev_I0 (ev_var rfl) ev_c) (congrArg V.int (by omega))) (fun b j H' Q' _ _ _ z=>z _ (Same.refl H')) fun H5 bs s5' hD hbs=>?_
 rw[filter_yes] at hbs
 refine hRh _ _ ?_
 have s35:=s4'.trans s5'
 have s5:=s3.trans s35
 have ha5:=s5.seq ha
 have hgo:AtL H5 D ((gs.map fun j=>j*Cz ns+(Cz ns - 1)).map (sN ((Rz ns:Nat):Int) ((Cz ns:Nat):Int))):=⟨bs,hD,by rw[List.map_map];exact hbs⟩
 have hla5:=hla3.same s35
 have hst5:=hst.same s35
 revert hgo
 generalize D=go'
 intro hgo
 refine nrm (σ':=[some (.ref a),some (.int ((Cz ns:Nat):Int)),some (.ref la),some (.int (m:Int)),some (.ref go'),some (.ref st'),none,none,none,none,none,none,none]) (by kernel_rfl) ?_
 obtain⟨nw,enw,nw1,nw2⟩:=narrow_ok ns
 refine sq_set (v:=.int (nw:Int)) (ev_of (ev_I0 ev_c (ev_I (ev_cell 7 (ea_cons (ev_var rfl) (ea_cons ev_c ea_nil)) ha5) (ev_I0 (ev_var rfl) ev_c) (by show(0:Int)<((Cz ns:Nat):Int) - 2;omega))) (congrArg V.int enw)) ?_
 obtain⟨gk,egk,gk1⟩:=gaps_ok ns m2
 refine sq_asgH fun Rh hRh=>te_cal (sp:=spPicked K) (ea_cons (ev_var rfl) (ea_cons ev_c (ea_cons (ev_var rfl) (ea_cons (ev_of (ev_I (ev_cell 9 (ea_cons (ev_var rfl) (ea_cons ev_c ea_nil)) ha5) (ev_var rfl) (by show(0:Int)<(m:Int);omega)) (congrArg V.int egk)) ea_nil)))) ⟨a,la,ns,8,Rz ns,Nz ns,gk,rfl,ha5,hla5,hN.2,by omega,fun H6 gp gj s6' hgp ndgp ltgp lngp=>hRh _ _ ?_⟩
 obtain⟨gpa,gp1,gp2⟩:=id hgp
 have s6:=s5.trans s6'
 have ha6:=s6.seq ha
 have hla6:=hla5.same s6'
 have hst6:=hst5.same s6'
 have hgo6:=hgo.same s6'
 refine nrm (σ':=[some (.ref a),some (.int ((Cz ns:Nat):Int)),some (.ref la),some (.int (m:Int)),some (.ref go'),some (.ref st'),some (.int (nw:Int)),some (.ref gp),none,none,none,none,none]) (by kernel_rfl) ?_
 obtain⟨sta,st1,st2⟩:=id hst6
 obtain⟨goa,go1,go2⟩:=id hgo6
 have lst:sta.length=m:=by rw[Paired.length st2,List.length_map,List.length_map,lns]
 have lgo:goa.length=gn':=by rw[Paired.length go2,List.length_map,List.length_map,lng]
 refine sq_hide fun Rh hRh=>?_
 refine⟨_,rfl,_,rfl,_,rfl,_,rfl,_,rfl,st',go',_,_,rfl,rfl,st1,go1,by rw[List.length_map,List.length_map];omega,fun en nen=>?_⟩
 have s7':Same H6 (upd H6 en (.lst (sta.map V.ref++goa.map V.ref))):=(Same.refl H6).upd nen
 have hen:upd H6 en (.lst (sta.map V.ref++goa.map V.ref)) en=some (.lst ((sta++goa).map V.ref)):=by rw[upd_same,List.map_append]
 revert s7' hen
 generalize upd H6 en (.lst (sta.map V.ref++goa.map V.ref))=H7
 intro s7' hen
 have ha7:=s7'.seq ha6
 refine⟨a,la,en,ns,Lz ns,Rz ns,Cz ns,Nz ns,(ss.map fun j=>j*Cz ns+0)++(gs.map fun j=>j*Cz ns+(Cz ns - 1)),rfl,ha7,hn63,Z,hla6.same s7',by omega,hN.2,hC.2.1,hC.2.2,⟨_,hen,by rw[List.map_append];exact tups_mono (tups_app st2 go2) fun b xs z=>s7' _ _ z⟩,fun H8 tt' ro sh rs S s8' htt hro hsh hTS hrs hrl hS=>?_⟩
 refine⟨tt',_,rfl,SqT.of htt,rfl,_,_,rfl,_,_,rfl,rfl,hRh _ _ ?_⟩
 have s68:=s7'.trans s8'
 have s8:=s6.trans s68
 have hla8:=hla6.same s68
 obtain⟨roa,ro1,ro2⟩:=id hro
 have lro:roa.length=rs.length:=by rw[Paired.length ro2,List.length_map]
 refine nrm (σ':=[some (.ref a),some (.int ((Cz ns:Nat):Int)),some (.ref la),some (.int (m:Int)),some (.ref go'),some (.ref st'),some (.int (nw:Int)),some (.ref gp),some (.ref ro),some (.ref sh),none,none,none]) (by kernel_rfl) ?_
 obtain⟨la8,lb1,lb2⟩:=id hla8
 have ll8:la8.length=Nz ns:=by rw[Paired.length lb2,lanes_len]
 have lb2':Tups H8 la8 ((List.range (Nz ns)).map (lN (Rz ns))):=lb2
 refine sq_asgH fun Rh hRh=>?_
 refine⟨_,rfl,_,rfl,la,rfl,⟨_,SqL.of lb1⟩,fun D nD=>?_⟩
 refine lc_lane (c:=Cz ns) nw (fun j=>!decide (lN (Rz ns) j∈gj.map (lN (Rz ns)))) (by omega) nD (fun H' s=>SqL.of (s _ _ lb1)) lb2' (by omega) (fun b H' _=>ev_var rfl) (fun b j H' Q' _ hb s z=>et_use (et_test (ev_notinT (c:=lN (Rz ns) j) (ev_var rfl) (ev_var rfl) hb (SqL.of (s _ _ (s68 _ _ gp1))) (tups_mono gp2 fun b xs w=>s _ _ (s68 _ _ w)))) (z _ (Same.refl H'))) fun H9 bs s9' hD hbs=>?_
 refine⟨ro,D,_,_,rfl,rfl,s9' _ _ ro1,hD,by rw[List.length_map,List.length_map,Paired.length hbs,List.length_map];have:=List.length_filter_le (fun j=>!decide (lN (Rz ns) j∈gj.map (lN (Rz ns)))) (List.range (Nz ns));rw[List.length_range] at this;omega,fun rk' nrk=>hRh _ _ ?_⟩
 obtain⟨ej,hej,hejl⟩:∃ej:List Nat,((List.range (Nz ns)).filter fun j=>!decide (lN (Rz ns) j∈gj.map (lN (Rz ns))))=ej∧ej.length≤8:=⟨_,rfl,by have:=List.length_filter_le (fun j=>!decide (lN (Rz ns) j∈gj.map (lN (Rz ns)))) (List.range (Nz ns));rw[List.length_range] at this;omega⟩
 have hejn:∀j∈ej,j<Nz ns:=fun j hj=>by rw[←hej] at hj;exact List.mem_range.mp (List.mem_filter.mp hj).1
 rw[hej] at hbs
 have sA':Same H9 (upd H9 rk' (.lst (roa.map V.ref++bs.map V.ref))):=(Same.refl H9).upd nrk
 have hrk:AtL (upd H9 rk' (.lst (roa.map V.ref++bs.map V.ref))) rk' ((rs++ej.map fun j=>j*Cz ns+nw).map (sN ((Rz ns:Nat):Int) ((Cz ns:Nat):Int))):=by
  refine⟨roa++bs,by rw[upd_same,List.map_append],?_⟩
  rw[List.map_append,List.map_map]
  exact tups_mono (tups_app (tups_mono ro2 fun b xs z=>s9' _ _ z) hbs) fun b xs z=>sA' _ _ z
 revert sA' hrk
 generalize upd H9 rk' (.lst (roa.map V.ref++bs.map V.ref))=HA
 intro sA' hrk
 obtain⟨rs2,hrs2⟩:∃rs2:List Nat,(rs++ej.map fun j=>j*Cz ns+nw)=rs2:=⟨_,rfl⟩
 rw[hrs2] at hrk
 have s8A:=s9'.trans sA'
 have sA:=s8.trans s8A
 refine nrm (σ':=[some (.ref a),some (.int ((Cz ns:Nat):Int)),some (.ref la),some (.int (m:Int)),some (.ref go'),some (.ref st'),some (.int (nw:Int)),some (.ref gp),some (.ref rk'),some (.ref sh),none,none,none]) (by kernel_rfl) ?_
 refine sq_asgH fun Rh hRh=>fun dd ndd=>hRh _ _ ?_
 have sB':Same HA (upd HA dd (.dT [])):=(Same.refl HA).upd ndd
 have hdd:upd HA dd (.dT []) dd=some (.dT (enc ((Rz ns:Nat):Int) ((Cz ns:Nat):Int) [])):=upd_same
 revert sB' hdd
 generalize upd HA dd (.dT [])=HB
 intro sB' hdd
 have s8B:=s8A.trans sB'
 have sB:=sA.trans sB'
 refine nrm (σ':=[some (.ref a),some (.int ((Cz ns:Nat):Int)),some (.ref la),some (.int (m:Int)),some (.ref go'),some (.ref st'),some (.int (nw:Int)),some (.ref gp),some (.ref rk'),some (.ref sh),some (.ref dd),none,none]) (by kernel_rfl) ?_
 obtain⟨rka,rk1,rk2⟩:=id hrk
 have old:∀{b:Addr} {o:HO},HA b=some o→b≠dd:=fun e z=>by rw[z,ndd] at e;cases e
 have shA:HA sh=some (.dT (enc ((Rz ns:Nat):Int) ((Cz ns:Nat):Int) S)):=s8A _ _ hsh
 refine sq_hide fun Rh hRh=>?_
 refine⟨_,rfl,la,rfl,⟨_,SqL.of (s8B _ _ lb1)⟩,?_⟩
 have M48:=m48 ns
 refine for_list (K:=K) (xs:=la8.map V.ref) (fun i σ H'=>∃(x11 x12:Option V) (F:List (Nat×V)),σ=[some (.ref a),some (.int ((Cz ns:Nat):Int)),some (.ref la),some (.int (m:Int)),some (.ref go'),some (.ref st'),some (.int (nw:Int)),some (.ref gp),some (.ref rk'),some (.ref sh),some (.ref dd),x11,x12]∧Sb dd HB H'∧H' dd=some (.dT (enc ((Rz ns:Nat):Int) ((Cz ns:Nat):Int) F))∧Drs rs2 S F (Nz ns*Cz ns) (i*Cz ns))
  ⟨none,none,[],rfl,Sb.refl dd HB,hdd,by rw[Nat.zero_mul];exact Drs.nil⟩ (fun i σ H' _ ⟨_,_,_,_,sb,_⟩=>SqL.of (sb _ _ (old (s8A _ _ lb1)) (s8B _ _ lb1))) ?_ ?_
 ·rintro i v σ H' hv ⟨x11,x12,F,rfl,sb,hd,dr⟩
  obtain⟨b,hb,rfl⟩:=at_ref hv
  obtain⟨cc,hcc,hbc⟩:=tups_at lb2 hb
  obtain⟨hin,rfl⟩:=lanes_at hcc
  refine gn ?_
  refine rd_rng1 (j:=((Cz ns:Nat):Int)) (ea_cons (ev_var rfl) ea_nil) (by omega) (by omega) ?_
  refine for_range (n:=((Cz ns:Nat):Int).toNat) (fun x σ H'=>∃(x12:Option V) (F:List (Nat×V)),σ=[some (.ref a),some (.int ((Cz ns:Nat):Int)),some (.ref la),some (.int (m:Int)),some (.ref go'),some (.ref st'),some (.int (nw:Int)),some (.ref gp),some (.ref rk'),some (.ref sh),some (.ref dd),some (.ref b),x12]∧Sb dd HB H'∧H' dd=some (.dT (enc ((Rz ns:Nat):Int) ((Cz ns:Nat):Int) F))∧Drs rs2 S F (Nz ns*Cz ns) (i*Cz ns+x))
   ⟨x12,F,rfl,sb,hd,dr⟩ ?_ ?_
  ·rintro x σ H' hx ⟨x12,F,rfl,sb,hd,dr⟩
   have hx:x<Cz ns:=by simpa using hx
   have kM:i*Cz ns+x<Nz ns*Cz ns:=num_lt hin hx
   have few:=dr.tb.few
   have kp:∀{b:Addr} {o:HO},H8 b=some o→H' b=some o:=fun e=>sb _ _ (old (s8A _ _ e)) (s8B _ _ e)
   refine gn ?_
   refine rd_ifof ?_
   refine te_lane (x:=lN (Rz ns) i) (fun v=>v=(x:Int)) (ev_var rfl) (kp hbc) (fun z=>nomatch z) (by show 2≤10;decide) (fun Q' z=>te_use (ev_of (ev_var rfl) (by rw[Int.zero_add])) (z _ rfl)) fun v p H2 hv' s2 np hp=>?_
   subst hv'
   rw[lane_sN hx] at hp
   have sb2:Sb dd HB H2:=sb.trans (Sb.of s2)
   have hd2:=s2 _ _ hd
   have rkH:H2 rk'=some (.lst (rka.map V.ref)):=s2 _ _ (sb _ _ (old rk1) (sB' _ _ rk1))
   have rkT:Tups H2 rka (rs2.map (sN ((Rz ns:Nat):Int) ((Cz ns:Nat):Int))):=tups_mono rk2 fun b xs z=>s2 _ _ (sb _ _ (old z) (sB' _ _ z))
   refine te_use (ev_var rfl) (rd_notin hp (SqL.of rkH) rkT ⟨_,rfl,?_⟩)
   by_cases hk:i*Cz ns+x∈rs2
   ·rw[decide_eq_true (List.mem_map_of_mem hk)]
    exact iteF (iteF ⟨_,F,rfl,sb2,hd2,dr.skip (.inl hk)⟩)
   rw[decide_eq_false (fun z=>hk ((mem_sN Z).mp z))]
   refine iteT ?_
   refine te_lane (x:=lN (Rz ns) i) (fun v=>v=(x:Int)) (ev_var rfl) (s2 _ _ (kp hbc)) (fun z=>nomatch z) (by show 2≤10;decide) (fun Q' z=>te_use (ev_of (ev_var rfl) (by rw[Int.zero_add])) (z _ rfl)) fun v p2 H3 hv' s3 np2 hp2=>?_
   subst hv'
   rw[lane_sN hx] at hp2
   have sb3:Sb dd HB H3:=sb2.trans (Sb.of s3)
   have hd3:=s3 _ _ hd2
   have shH:H3 sh=some (.dT (enc ((Rz ns:Nat):Int) ((Cz ns:Nat):Int) S)):=s3 _ _ (s2 _ _ (kp hsh))
   refine te_use (ev_var rfl) ⟨sh,_,rfl,dg (x:=sN ((Rz ns:Nat):Int) ((Cz ns:Nat):Int) (i*Cz ns+x)) (.inl shH) hp2,_,rfl,?_⟩
   rw[val_enc Z]
   cases eS:(valV S (i*Cz ns+x)).isSome with
   |true=>exact iteF ⟨_,F,rfl,sb3,hd3,dr.skip (.inr eS)⟩
   |false=>
    refine iteT ?_
    refine rd_dputG (te_use ev_c (te_use (ev_var rfl) ?_))
    refine te_lane (x:=lN (Rz ns) i) (fun v=>v=(x:Int)) (ev_var rfl) (s3 _ _ (s2 _ _ (kp hbc))) (fun z=>nomatch z) (by show 2≤10;decide) (fun Q' z=>te_use (ev_of (ev_var rfl) (by rw[Int.zero_add])) (z _ rfl)) fun v p3 H4 hv' s4 np3 hp3=>?_
    subst hv'
    rw[lane_sN hx] at hp3
    refine⟨dd,_,rfl,DPut.t (k:=iK (sN ((Rz ns:Nat):Int) ((Cz ns:Nat):Int) (i*Cz ns+x))) (s4 _ _ hd3) (iK_at hp3) (by rw[enc_len];omega),?_⟩
    exact⟨_,putK F (i*Cz ns+x) (.bl true),rfl,(sb3.trans (Sb.of s4)).set,by rw[upd_same,put_enc Z],dr.put kM hk⟩
  ·rintro σ H' ⟨x12,F,rfl,sb,hd,dr⟩
   refine⟨_,_,F,rfl,sb,hd,?_⟩
   rw[Nat.add_mul,Nat.one_mul]
   exact dr
 ·rintro σ H' ⟨x11,x12,F,rfl,sb,hd,dr⟩
  refine hRh _ _ ?_
  rw[List.length_map,ll8] at dr
  have kpA:∀{b:Addr} {o:HO},HA b=some o→H' b=some o:=fun e=>sb _ _ (old e) (sB' _ _ e)
  have sH:Same HA H':=fun b o e=>kpA e
  have three:(8:Nat)≤sizeLine:=by decide
  refine rd_te (te_tup (vs:=[.int ((Cz ns:Nat):Int),.ref la,.ref st',.ref go',.int (nw:Int),.ref rk',.ref sh,.ref dd]) (ea_cons (ev_var rfl) (ea_cons (ev_var rfl) (ea_cons (ev_var rfl) (ea_cons (ev_var rfl) (ea_cons (ev_var rfl) (ea_cons (ev_var rfl) (ea_cons (ev_var rfl) (ea_cons (ev_var rfl) ea_nil)))))))) three fun t nt=>?_)
  have sT:Same H' (upd H' t (.tup [.int ((Cz ns:Nat):Int),.ref la,.ref st',.ref go',.int (nw:Int),.ref rk',.ref sh,.ref dd])):=(Same.refl H').upd nt
  have sZ:Same HA (upd H' t (.tup [.int ((Cz ns:Nat):Int),.ref la,.ref st',.ref go',.int (nw:Int),.ref rk',.ref sh,.ref dd])):=sH.trans sT
  have s6Z:=(s68.trans s8A).trans sZ
  refine q _ t la st' go' rk' sh dd nw _ _ rs2 F S (sA.trans sZ) ⟨upd_same,hla8.same (s8A.trans sZ),hst6.same s6Z,hgo6.same s6Z,hrk.same sZ,sZ _ _ shA,sT _ _ hd,old shA⟩ ?_ (fresh_of sA ndd)
  refine⟨nw1,nw2,by rw[List.length_map,lns];exact m2,by rw[List.length_map,lns];exact m6,by rw[List.length_map,List.length_map,lns,lng];exact mg',by rw[List.length_map,lng];omega,?_,?_,?_,?_,dr.tb,hTS,dr.vv,dr.op,?_⟩
  ·refine List.nodup_append.mpr ⟨nd_map nds fun i _ j _ e=>(at_num (by omega) (by omega) e).1,nd_map ndg fun i _ j _ e=>(at_num (by omega) (by omega) e).1,fun x hx y hy e=>?_⟩
   obtain⟨i,_,rfl⟩:=List.mem_map.mp hx
   obtain⟨j,_,rfl⟩:=List.mem_map.mp hy
   have:=(at_num (by omega) (by omega) e).2
   omega
  ·intro k hk
   rcases List.mem_append.mp hk with hk|hk
   ·obtain⟨j,hj,rfl⟩:=List.mem_map.mp hk
    exact num_lt (lts j hj) (by omega)
   ·obtain⟨j,hj,rfl⟩:=List.mem_map.mp hk
    exact num_lt (ltg j hj) (by omega)
  ·rw[←hrs2,List.length_append,List.length_map];omega
  ·intro k hk
   rw[←hrs2] at hk
   rcases List.mem_append.mp hk with hk|hk
   ·exact(hrs k hk).1
   ·obtain⟨j,hj,rfl⟩:=List.mem_map.mp hk
    exact num_lt (hejn j hj) (by omega)
  ·obtain⟨j,hj⟩:∃j,j∈ss:=by
    cases ss with
    |nil=>simp at lns;omega
    |cons j _=>exact⟨j,List.mem_cons_self⟩
   have hes:j*Cz ns+0∈(ss.map fun j=>j*Cz ns+0)++(gs.map fun j=>j*Cz ns+(Cz ns - 1)):=List.mem_append_left _ (List.mem_map_of_mem (f:=fun j=>j*Cz ns+0) hj)
   refine⟨j,val_key.mp (dr.al (j*Cz ns) (num_lt (x:=0) (lts j hj) (by omega)) (fun z=>?_) ?_)⟩
   ·rw[←hrs2] at z
    rcases List.mem_append.mp z with z|z
    ·exact(hrs _ z).2 hes
    ·obtain⟨i,_,e⟩:=List.mem_map.mp z
     have e:i*Cz ns+nw=j*Cz ns+0:=e
     have:=(at_num (by omega) (by omega) e).2
     omega
   ·cases e:valV S (j*Cz ns) with
    |none=>rfl
    |some v=>exact absurd hes (hS _ (val_mem e))
theorem ev_rows {σ:St}{H:Hp}{ta:TA}{l d:Addr}{g:Gd}{F:List (Nat×V)}{cs:List T3}(h:EvA ta σ H [.ref l,.ref d])(hd:H d=some (.dT (enc g.R g.C F)))(hl:AtL H l cs)(p3:P3 cs)(hz:cs.length≤100):Ev (tCall spRows [] E0 ta) σ H (.bl (rowsV g F cs)):=ev_cal h fun _ z=>⟨l,d,g,F,cs,rfl,hd,hl,p3,hz,z⟩
noncomputable def okS (g:Gd) (F:List (Nat×V)) (cut so b:List T3) (c:T3):Bool:=!decide (c∈cut)&&(!decide (c∈b)&&(bes g F c).all fun o=>decide (o∈so)||decide (o∈cut))
theorem shuts_eq (g:Gd)(F:List (Nat×V))(cut so a b:List T3):shutsV g F cut so a b=(rowsV g F cut&&(rowsV g F so&&(decide (cut.length<a.length)&&(so.all (okS g F cut so b)&&a.all fun s=>decide (s∈so)||decide (s∈cut))))):=rfl
theorem hashT_Z (P:Program)(w:World){L R C:Int}(S:Szs L R C){es:List Nat}(hn:es.Nodup)(hl:∀n∈es,(n:Int)<L*R*C):((es.map (sN R C)).map hashT).Nodup:=by
 refine nd_map (nd_map hn fun n _ m _ e=>sN_inj S e) fun a ha b hb e=>?_
 obtain⟨n,hn,rfl⟩:=List.mem_map.mp ha
 obtain⟨m,hm,rfl⟩:=List.mem_map.mp hb
 refine congrArg _ (hash_eq (P:=P) (w:=w) S (n:=n) (m:=m) (hl n hn) (hl m hm) ?_)
 rw[tk_T,tk_T]
 exact e
theorem mkB {cB:Addr}{H1:Hp}{P:Program}{w:World}{L R C:Int}(S:Szs L R C){x dx l m:Addr}{as bs:List Addr}{ss gs:List Nat}{nm:Str}{r:Int}{Q:VK}(nx:H1 x=none)(nd:H1 dx=none)(hl:H1 l=some (.lst (as.map V.ref)))(hm:H1 m=some (.lst (bs.map V.ref)))(ht:Tups H1 as (ss.map (sN R C)))(hu:Tups H1 bs (gs.map (sN R C)))
  (hnd:(ss++gs).Nodup) (hlt:∀n∈ss++gs,(n:Int)<L*R*C) (s1:1≤ss.length) (s6:ss.length≤6) (sg:ss.length≤gs.length) (g12:gs.length≤12) (nmok:NmOk nm) (r0:0≤r) (r3:r≤3)
  (q:∀H' fs t u,Same H1 H'→H' x=some (.ins cB dx fs)→fs.lookup ("starts" :Str)=some (.ref t)→fs.lookup ("goals" :Str)=some (.ref u)→TpL H' t (ss.map (sN R C))→TpL H' u (gs.map (sN R C))→Q .non H'):
  spBInit cB [.ref x,.str nm,.ref l,.ref m,.int r] (upd (upd H1 dx (.own x)) x (.ins cB dx [])) Q E0:=by
 have sm:Same H1 (upd (upd H1 dx (.own x)) x (.ins cB dx [])):=same_make nx nd
 have la:as.length=ss.length:=by rw[Paired.length ht,List.length_map]
 have lb:bs.length=gs.length:=by rw[Paired.length hu,List.length_map]
 refine⟨x,dx,l,m,as,bs,_,_,nm,r,rfl,upd_same,sm _ _ hl,sm _ _ hm,tups_mono ht (fun b xs z=>sm _ _ z),tups_mono hu (fun b xs z=>sm _ _ z),?_,by omega,by omega,by omega,by omega,nmok,r0,r3,fun H3 fs t' u' bt hp3 hst hgo ht3 hu3=>?_⟩
 ·rw[←List.map_append]
  exact hashT_Z P w S hnd hlt
 have s3:Same H1 H3:=ButP.same sm nx bt
 exact q H3 fs t' u' s3 hp3 hst hgo ⟨as,ht3,tups_mono ht fun b xs z=>s3 _ _ z⟩ ⟨bs,hu3,tups_mono hu fun b xs z=>s3 _ _ z⟩
theorem ok_Shuts {cThing cNet cBundle cPaper cCutPaper cFloor cMS:Addr}{f:Addr}{fd:FuncData}(F:Fun K "_law_shuts" "_law_shuts" sShuts f fd)(T:Txt K mg cThing cNet cBundle cPaper cCutPaper cFloor cMS)(gBeside:Callee P w K mg base "_law_beside" 1 ["doors", "spot"] spBeside)(gRows:Callee P w K mg base "_law_rows" 1 ["spots", "doors"] spRows):FnOk P w K mg base CX0 2 f fd ["cut", "shore", "doors", "starts", "goals"] spShuts:=by
 have sc:FnScope ["cut", "shore", "doors", "starts", "goals", "spot", "other", "start"] ["cut", "shore", "doors", "starts", "goals"] (defScope sShuts):=⟨rfl,rfl,rfl,by decide+kernel,rfl,by decide+kernel,by decide+kernel⟩
 refine F.ok sc (fun vs H Q E h=>by repeat (first|(obtain⟨rfl,_⟩:=h;rfl)|(obtain⟨_,h⟩:=h))) (fun cdv A outer s H vs Q E hr h=>?_)
 obtain⟨cu,so,d,s,e,g,F',cs,ds,a,b,rfl,hd,hcu,hso,p3,p4,z1,z2,hs,he,za,zb,q⟩:=h
 refine⟨_,(pss_cons (ps_if (pw_or (pt_not (pt_val (pe_cal gRows (hr.mono (by decide)) (by rfl) (pa_cons (pv 0) (pa_cons (pv 2) pa_nil))))) (pw_or (pt_not (pt_val (pe_cal gRows (hr.mono (by decide)) (by rfl) (pa_cons (pv 1) (pa_cons (pv 2) pa_nil))))) (pw_or1 (pt_cmpR op_ge (pe_callB call_len (by rfl) T.len_ bt_len (pa_cons (pv 0) pa_nil)) (pe_callB call_len (by rfl) T.len_ bt_len (pa_cons (pv 3) pa_nil)) (nomark _))))).pt
 (pss_one (ps_ret pe_bl))
 pss_nil)
 (pss_cons (ps_for PassesOwn.never rfl (pi_list (pv 1)) (pg_name (i:=5) sc.nd rfl (Or.inl rfl))
 (pss_cons (ps_if (pw_or (pt_cmpR (op_inT hr) (pv 5) (pv 0) (by with_unfolding_all rfl)) (pw_or1 (pt_cmpR (op_inTTK (K:=K) rfl hr) (pv 5) (pv 4) (by with_unfolding_all rfl)))).pt
 (pss_one (ps_ret pe_bl))
 pss_nil)
 (pss_one (ps_for PassesOwn.never rfl (pi_list (pe_cal gBeside (hr.mono (by decide)) (by rfl) (pa_cons (pv 2) (pa_cons (pv 5) pa_nil)))) (pg_name (i:=6) sc.nd rfl (Or.inl rfl))
 (pss_one (ps_if (pw_and (pt_cmpR (op_notinT hr) (pv 6) (pv 1) (by with_unfolding_all rfl)) (pw_and1 (pt_cmpR (op_notinT hr) (pv 6) (pv 0) (by with_unfolding_all rfl)))).pt
 (pss_one (ps_ret pe_bl))
 pss_nil))))))
 (pss_cons (ps_for PassesOwn.never rfl (pi_tup (pv 3)) (pg_name (i:=7) sc.nd rfl (Or.inl rfl))
 (pss_one (ps_if (pw_and (pt_cmpR (op_notinT hr) (pv 7) (pv 1) (by with_unfolding_all rfl)) (pw_and1 (pt_cmpR (op_notinT hr) (pv 7) (pv 0) (by with_unfolding_all rfl)))).pt
 (pss_one (ps_ret pe_bl))
 pss_nil)))
 (pss_one (ps_ret pe_bl))))),?_⟩
 have hsz:sizeLine=2^24:=rfl
 obtain⟨cas,c1,c2⟩:=id hcu
 obtain⟨das,d1,d2⟩:=id hso
 obtain⟨sas,s1,s2⟩:=id hs
 obtain⟨eas,e1,e2⟩:=id he
 have lc:cas.length=cs.length:=Paired.length c2
 have ld:das.length=ds.length:=Paired.length d2
 have ls:sas.length=a.length:=Paired.length s2
 refine sq_if (et_or (et_not (et_B (ev_rows (ea_cons (ev_var rfl) (ea_cons (ev_var rfl) ea_nil)) hd hcu p3 z1))) fun _=>et_or (et_not (et_B (ev_rows (ea_cons (ev_var rfl) (ea_cons (ev_var rfl) ea_nil)) hd hso p4 z2))) fun _=>et_test (ev_I0 (ev_cb (v:=.int ((cas.map V.ref).length:Nat)) (ea_cons (ev_var rfl) ea_nil) fun Q' q'=>⟨_,_,rfl,.inl ⟨_,SqL.of c1,rfl⟩,q'⟩) (ev_cb (v:=.int ((sas.map V.ref).length:Nat)) (ea_cons (ev_var rfl) ea_nil) fun Q' q'=>⟨_,_,rfl,.inr ⟨_,SqT.of s1,rfl⟩,q'⟩))) (fun h=>?_) (fun h=>?_)
 ·have:shutsV g F' cs ds a b=false:=by
   rw[shuts_eq]
   rw[Bool.or_eq_true,Bool.or_eq_true] at h
   rcases h with h|h|h
   ·rw[show rowsV g F' cs=false by simpa using h];rfl
   ·rw[show rowsV g F' ds=false by simpa using h];simp
   ·have h:=of_decide_eq_true h
    rw[List.length_map,List.length_map] at h
    rw[decide_eq_false (show¬cs.length<a.length by omega)];simp
  have q':=q H (Same.refl H)
  rw[this] at q'
  exact rd_ret ev_c q'
 rw[Bool.or_eq_false_iff,Bool.or_eq_false_iff] at h
 obtain⟨r1,r2,r3⟩:=h
 have r1:rowsV g F' cs=true:=by simpa using r1
 have r2:rowsV g F' ds=true:=by simpa using r2
 have r3:=of_decide_eq_false r3
 rw[List.length_map,List.length_map] at r3
 have qq:∀H',Same H H'→Q (.bl (ds.all (okS g F' cs ds b)&&a.all fun s=>decide (s∈ds)||decide (s∈cs))) H':=fun H' z=>by
  have:=q H' z
  rw[shuts_eq,r1,r2,decide_eq_true (show cs.length<a.length by omega)] at this
  exact this
 refine⟨_,rfl,so,rfl,⟨_,SqL.of d1⟩,?_⟩
 refine for_list (K:=K) (xs:=das.map V.ref) (fun i σ H'=>∃x5 x6 x7:Option V,σ=[some (.ref cu),some (.ref so),some (.ref d),some (.ref s),some (.ref e),x5,x6,x7]∧Same H H'∧(ds.take i).all (okS g F' cs ds b)=true) ⟨none,none,none,rfl,Same.refl H,rfl⟩ (fun i σ H' _ ⟨_,_,_,_,z,_⟩=>SqL.of (z _ _ d1)) ?_ ?_
 ·rintro i v σ H' hv ⟨x5,x6,x7,rfl,sH,hall⟩
  obtain⟨p,hp,rfl⟩:=at_ref hv
  obtain⟨c,hc,hpc⟩:=tups_at d2 hp
  have bad:okS g F' cs ds b c=false→∀H'',Same H H''→Q (.bl false) H'':=fun z H'' w=>by
   have:=qq H'' w
   rw[show ds.all (okS g F' cs ds b)=false from List.all_eq_false.mpr ⟨c,List.mem_of_getElem? hc,by rw[z];decide⟩] at this
   exact this
  have tC:∀{H'':Hp},Same H H''→Tups H'' cas cs:=fun w=>tups_mono c2 fun b xs z=>w _ _ z
  have tD:∀{H'':Hp},Same H H''→Tups H'' das ds:=fun w=>tups_mono d2 fun b xs z=>w _ _ z
  refine gn ?_
  refine sq_if (et_or (et_test (ev_inT (c:=c) (ev_var rfl) (ev_var rfl) (sH _ _ hpc) (SqL.of (sH _ _ c1)) (tC sH))) fun _=>et_test (ev_inTT (c:=c) (ev_var rfl) (ev_var rfl) (sH _ _ hpc) (SqT.of (sH _ _ e1)) (tups_mono e2 fun b xs z=>sH _ _ z))) (fun h=>?_) (fun h=>?_)
  ·refine rd_ret ev_c (bad ?_ _ sH)
   unfold okS
   rw[Bool.or_eq_true] at h
   rcases h with h|h
   ·rw[h];rfl
   ·rw[h];simp
  rw[Bool.or_eq_false_iff] at h
  obtain⟨x,y,w',rfl⟩:=p4 c (List.mem_of_getElem? hc)
  refine rd_forC (ea_cons (ev_var rfl) (ea_cons (ev_var rfl) ea_nil)) ⟨d,p,g,F',x,y,w',rfl,sH _ _ hd,sH _ _ hpc,fun H2 l s2' hl=>⟨l,rfl,?_⟩⟩
  obtain⟨qs,l1,l2⟩:=hl
  have lq:qs.length=(bes g F' [x,y,w']).length:=Paired.length l2
  refine⟨⟨_,SqL.of l1⟩,?_⟩
  have sH2:=sH.trans s2'
  refine for_list (K:=K) (xs:=qs.map V.ref) (fun j σ H'=>∃x6:Option V,σ=[some (.ref cu),some (.ref so),some (.ref d),some (.ref s),some (.ref e),some (.ref p),x6,x7]∧Same H2 H'∧((bes g F' [x,y,w']).take j).all (fun o=>decide (o∈ds)||decide (o∈cs))=true) ⟨x6,rfl,Same.refl H2,rfl⟩ (fun i σ H' _ ⟨_,_,z,_⟩=>SqL.of (z _ _ l1)) ?_ ?_
  ·rintro j v σ H3 hv ⟨x6,rfl,s3,hall3⟩
   obtain⟨p',hp',rfl⟩:=at_ref hv
   obtain⟨o,ho,hpo⟩:=tups_at l2 hp'
   have s03:=sH2.trans s3
   refine gn ?_
   refine rd_if (et_and (et_test (ev_notinT (c:=o) (ev_var rfl) (ev_var rfl) (s3 _ _ hpo) (SqL.of (s03 _ _ d1)) (tD s03))) fun _=>et_test (ev_notinT (c:=o) (ev_var rfl) (ev_var rfl) (s3 _ _ hpo) (SqL.of (s03 _ _ c1)) (tC s03))) (fun h3=>?_) (fun h3=>?_)
   ·refine rd_ret ev_c (bad ?_ _ s03)
    unfold okS
    rw[Bool.and_eq_true] at h3
    rw[show(bes g F' [x,y,w']).all (fun o=>decide (o∈ds)||decide (o∈cs))=false from List.all_eq_false.mpr ⟨o,List.mem_of_getElem? ho,by simpa using h3⟩]
    simp
   ·refine⟨_,rfl,s3,?_⟩
    rw[take_one ho,List.all_append,hall3,List.all_cons]
    cases e1:decide (o∈ds)<;>cases e2:decide (o∈cs)<;>rw[e1,e2] at h3<;>first|rfl|cases h3
  ·rintro σ H3 ⟨x6,rfl,s3,hall3⟩
   rw[List.length_map,lq,List.take_length] at hall3
   refine⟨_,_,_,rfl,sH2.trans s3,?_⟩
   rw[take_one hc,List.all_append,hall,List.all_cons]
   unfold okS
   rw[h.1,h.2,hall3];rfl
 ·rintro σ H' ⟨x5,x6,x7,rfl,sH,hall⟩
  rw[List.length_map,ld,List.take_length] at hall
  refine st ?_
  refine⟨_,rfl,s,rfl,⟨_,SqT.of (sH _ _ s1)⟩,?_⟩
  refine for_tup (K:=K) (xs:=sas.map V.ref) (fun i σ H'=>∃x7:Option V,σ=[some (.ref cu),some (.ref so),some (.ref d),some (.ref s),some (.ref e),x5,x6,x7]∧Same H H'∧(a.take i).all (fun s=>decide (s∈ds)||decide (s∈cs))=true) ⟨x7,rfl,sH,rfl⟩ (fun i σ H' _ ⟨_,_,z,_⟩=>SqT.of (z _ _ s1)) ?_ ?_
  ·rintro i v σ H' hv ⟨x7,rfl,sH,hal⟩
   obtain⟨p,hp,rfl⟩:=at_ref hv
   obtain⟨c,hc,hpc⟩:=tups_at s2 hp
   refine gn ?_
   refine rd_if (et_and (et_test (ev_notinT (c:=c) (ev_var rfl) (ev_var rfl) (sH _ _ hpc) (SqL.of (sH _ _ d1)) (tups_mono d2 fun b xs z=>sH _ _ z))) fun _=>et_test (ev_notinT (c:=c) (ev_var rfl) (ev_var rfl) (sH _ _ hpc) (SqL.of (sH _ _ c1)) (tups_mono c2 fun b xs z=>sH _ _ z))) (fun h3=>?_) (fun h3=>?_)
   ·rw[Bool.and_eq_true] at h3
    have q':=qq _ sH
    rw[show a.all (fun s=>decide (s∈ds)||decide (s∈cs))=false from List.all_eq_false.mpr ⟨c,List.mem_of_getElem? hc,by simpa using h3⟩,Bool.and_false] at q'
    exact rd_ret ev_c q'
   ·refine⟨_,rfl,sH,?_⟩
    rw[take_one hc,List.all_append,hal,List.all_cons]
    cases e1:decide (c∈ds)<;>cases e2:decide (c∈cs)<;>rw[e1,e2] at h3<;>first|rfl|cases h3
  ·rintro σ H' ⟨x7,rfl,sH,hal⟩
   rw[List.length_map,ls,List.take_length] at hal
   have q':=qq _ sH
   rw[hall,hal] at q'
   exact st (rd_ret ev_c q')
theorem ok_LDue {cThing cNet cBundle cPaper cCutPaper cFloor cMS:Addr}{f:Addr}{fd:FuncData}(F:Fun K "_law_due" "_law_due" sLDue f fd)(T:Txt K mg cThing cNet cBundle cPaper cCutPaper cFloor cMS)(gShuts:Callee P w K mg base "_law_shuts" 2 ["cut", "shore", "doors", "starts", "goals"] spShuts):FnOk P w K mg base CX0 3 f fd ["cut", "shore", "doors", "thing"] (spLDue cNet cBundle):=by
 have sc:FnScope ["cut", "shore", "doors", "thing"] ["cut", "shore", "doors", "thing"] (defScope sLDue):=⟨rfl,rfl,rfl,by decide+kernel,rfl,by decide+kernel,by decide+kernel⟩
 refine F.ok sc (fun vs H Q E h=>by repeat (first|(obtain⟨rfl,_⟩:=h;rfl)|(obtain⟨_,h⟩:=h))) (fun cdv A outer s H vs Q E hr h=>?_)
 obtain⟨cu,so,d,p,g,F',cs,ds,th,rfl,hd,hcu,hso,p3,p4,z1,z2,hth,hz,q⟩:=h
 refine⟨_,(pss_one (ps_ret (pe_and (pe_callB call_isinst (by rfl) T.isinstance_ bt_isinstance (pa_cons (pv 3) (pa_cons (pe_globC (by rfl) T.mg_Bundle) pa_nil))) (pe_one (pe_cal gShuts (hr.mono (by decide)) (by rfl) (pa_cons (pv 0) (pa_cons (pv 1) (pa_cons (pv 2) (pa_cons (pe_fld (pv 3) rfl) (pa_cons (pe_fld (pv 3) rfl) pa_nil)))))))))),?_⟩
 cases th with
 |net a=>
  obtain⟨dy,fs,t',k1,k2,k3⟩:=hth
  exact rd_te ⟨_,rfl,_,_,_,_,_,rfl,.ref cBundle,.ins k1 T.cl_Net T.qN T.qg T.qt T.oN,T.nb,_,rfl,iteF (q H (Same.refl H))⟩
 |bun a b=>
  obtain⟨dy,fs,t',u',k1,k2,k2',k3,k4⟩:=hth
  obtain⟨y1,y2⟩:a.length≤18∧b.length≤18:=hz
  exact rd_te ⟨_,rfl,_,_,_,_,_,rfl,.ref cBundle,.ins k1 T.cl_Bundle T.qB T.qg T.qt T.oB,T.b2,_,rfl,iteT ⟨_,rfl,_,rfl,_,rfl,_,rfl,p,cBundle,dy,fs,_,rfl,k1,T.cl_Bundle,T.na_Bundle_starts,k2,_,rfl,p,cBundle,dy,fs,_,rfl,k1,T.cl_Bundle,T.na_Bundle_goals,k2',cu,so,d,t',u',g,F',cs,ds,a,b,rfl,hd,hcu,hso,p3,p4,z1,z2,k3,k4,y1,y2,fun H' s=>q H' s⟩⟩
theorem ok_LThing {cThing cNet cBundle cPaper cCutPaper cFloor cMS:Addr}{f:Addr}{fd:FuncData}(F:Fun K "_law_thing" "_law_thing" sLThing f fd)(T:Txt K mg cThing cNet cBundle cPaper cCutPaper cFloor cMS)(gNInit:KCallee P w K mg base cNet "Net" 3 ["self", "name", "pins", "half", "room"] (spNInit cNet))(gBInit:KCalleeZ P w K mg base cBundle "Bundle" 3 ["self", "name", "starts", "goals", "room"] (spBInit cBundle) 1)(gCell:Callee P w K mg base "_law_cell_at" 1 ["script", "k"] (spCell K)):FnOk P w K mg base CX0 5 f fd ["script", "starts", "goals"] (spLThing K cNet cBundle):=by
 have sc:FnScope ["script", "starts", "goals", "way"] ["script", "starts", "goals"] (defScope sLThing):=⟨rfl,rfl,rfl,by decide+kernel,rfl,by decide+kernel,by decide+kernel⟩
 refine F.ok sc (fun vs H Q E h=>by repeat (first|(obtain⟨rfl,_⟩:=h;rfl)|(obtain⟨_,h⟩:=h))) (fun cdv A outer s H vs Q E hr h=>?_)
 obtain⟨a,st',go',ns,ss,gs,rfl,ha,⟨sas,s1,s2⟩,⟨gas,g1,g2⟩,z2,z6,zg,z8,hnd,hlt,q⟩:=h
 refine⟨_,(pss_cons (ps_set (i:=3) sc.nd rfl (Or.inl rfl) (pe_op op_mod (pe_cal gCell (hr.mono (by decide)) (by rfl) (pa_cons (pv 0) (pa_cons pe_int pa_nil))) pe_int))
 (pss_cons (ps_if (pw_and (pt_cmpR op_eq (pv 3) pe_int (nomark _)) (pw_and1 (pt_cmpR op_le (pe_op op_add (pe_callB call_len (by rfl) T.len_ bt_len (pa_cons (pv 1) pa_nil)) (pe_callB call_len (by rfl) T.len_ bt_len (pa_cons (pv 2) pa_nil))) pe_int (nomark _)))).pt
 (pss_one (ps_ret (pe_mk gNInit (hr.mono (by decide)) (by rfl) (pa_cons pe_str (pa_cons (pe_op op_cat (pv 1) (pv 2)) (pa_cons pe_int (pa_cons pe_int pa_nil)))))))
 pss_nil)
 (pss_cons (ps_if (pw_and (pt_cmpR op_eq (pv 3) pe_int (nomark _)) (pw_and1 (pt_cmpR op_eq (pe_callB call_len (by rfl) T.len_ bt_len (pa_cons (pv 2) pa_nil)) (pe_callB call_len (by rfl) T.len_ bt_len (pa_cons (pv 1) pa_nil)) (nomark _)))).pt
 (pss_one (ps_ret (pe_mkZ0 gBInit (hr.mono (by decide)) (by rfl) (pa_cons pe_str (pa_cons (pv 2) (pa_cons (pv 1) (pa_cons pe_int pa_nil)))))))
 pss_nil)
 (pss_cons (ps_if (pt_cmpR op_eq (pv 3) pe_int (nomark _))
 (pss_one (ps_ret (pe_mkZ1 gBInit (hr.mono (by decide)) (by rfl) (pa_cons pe_str (pa_cons (pe_slice sl_list (pv 1) (po_some pe_int) po_none) (pa_cons (pv 2) pa_nil))))))
 pss_nil)
 (pss_one (ps_ret (pe_mkZ0 gBInit (hr.mono (by decide)) (by rfl) (pa_cons pe_str (pa_cons (pv 1) (pa_cons (pv 2) (pa_cons (pe_op op_mod (pe_op op_fdivB (pe_cal gCell (hr.mono (by decide)) (by rfl) (pa_cons (pv 0) (pa_cons pe_int pa_nil))) pe_int) pe_int) pa_nil))))))))))),?_⟩
 have hsz:sizeLine=2^24:=rfl
 have Z:=szs36 ns
 have lt':∀n∈ss++gs,(n:Int)<((Lz ns:Nat):Int)*((Rz ns:Nat):Int)*((Cz ns:Nat):Int):=fun n hn=>by
  have:=hlt n hn
  unfold Nz at this
  exact_mod_cast this
 have las:sas.length=ss.length:=by rw[Paired.length s2,List.length_map]
 have lag:gas.length=gs.length:=by rw[Paired.length g2,List.length_map]
 have eL:Ev (tCB (fun xs H Q=>∃x n,xs=[x]∧LenV K x H n∧Q (.int n) H) (tCons (tVar 1) tNil)) [some (.ref a),some (.ref st'),some (.ref go'),some (.int (cellv ns 10%18))] H (.int ((sas.length:Nat):Int)):=ev_cb (ea_cons (ev_var rfl) ea_nil) fun Q' q'=>⟨_,_,rfl,.inl ⟨_,SqL.of s1,(by rw[List.length_map])⟩,q'⟩
 have eG:Ev (tCB (fun xs H Q=>∃x n,xs=[x]∧LenV K x H n∧Q (.int n) H) (tCons (tVar 2) tNil)) [some (.ref a),some (.ref st'),some (.ref go'),some (.int (cellv ns 10%18))] H (.int ((gas.length:Nat):Int)):=ev_cb (ea_cons (ev_var rfl) ea_nil) fun Q' q'=>⟨_,_,rfl,.inl ⟨_,SqL.of g1,(by rw[List.length_map])⟩,q'⟩
 refine sq_set (v:=.int (cellv ns 10%18)) (ev_I (ev_cell 10 (ea_cons (ev_var rfl) (ea_cons ev_c ea_nil)) ha) ev_c (by show(0:Int)<18;decide)) ?_
 refine nrm (σ':=[some (.ref a),some (.ref st'),some (.ref go'),some (.int (cellv ns 10%18))]) (by kernel_rfl) ?_
 have hnd':=List.nodup_append.mp hnd
 refine sq_if (et_and (et_test (ev_eqI (ev_var rfl) ev_c)) fun _=>et_test (ev_I0 (ev_I0 eL eG) ev_c)) (fun h=>?_) (fun _=>?_)
 ·rw[Bool.and_eq_true] at h
  have h6:=of_decide_eq_true h.2
  refine rd_te ?_
  refine⟨_,rfl,_,rfl,st',go',_,_,rfl,rfl,s1,g1,by rw[List.length_map,List.length_map];omega,fun l nl=>?_⟩
  have t1:Same H (upd H l (.lst (sas.map V.ref++gas.map V.ref))):=(Same.refl H).upd nl
  have y1:upd H l (.lst (sas.map V.ref++gas.map V.ref)) l=some (.lst ((sas++gas).map V.ref)):=by rw[upd_same,List.map_append]
  revert t1 y1
  generalize upd H l (.lst (sas.map V.ref++gas.map V.ref))=H1
  intro t1 y1
  intro x dx nx nd ne
  have sm:Same H1 (upd (upd H1 dx (.own x)) x (.ins cNet dx [])):=same_make nx nd
  refine⟨x,dx,l,sas++gas,(ss++gs).map (sN ((Rz ns:Nat):Int) ((Cz ns:Nat):Int)),_,0,1,rfl,upd_same,sm _ _ y1,?_,hashT_Z P w Z hnd lt',by rw[List.length_append];omega,by rw[List.length_append];omega,nm_n,by decide,by decide,by decide,by decide,fun H2 fs t' bt hp2 hpin ht2=>⟨rfl,?_⟩⟩
  ·rw[List.map_append]
   exact tups_mono (tups_app s2 g2) fun b xs z=>sm _ _ (t1 _ _ z)
  have s02:=t1.trans (ButP.same sm nx bt)
  refine q H2 x (.net ((ss++gs).map (sN ((Rz ns:Nat):Int) ((Cz ns:Nat):Int)))) s02 ⟨dx,fs,t',hp2,hpin,sas++gas,ht2,?_⟩ (by show(List.map _ _).length≤18;rw[List.length_map,List.length_append];omega)
  rw[List.map_append]
  exact tups_mono (tups_app s2 g2) fun b xs z=>s02 _ _ z
 refine sq_if (et_and (et_test (ev_eqI (ev_var rfl) ev_c)) fun _=>et_test (ev_eqI eG eL)) (fun h=>?_) (fun _=>?_)
 ·rw[Bool.and_eq_true] at h
  have he:=of_decide_eq_true h.2
  refine rd_te ⟨_,rfl,_,rfl,fun x dx nx nd ne=>?_⟩
  refine mkB (P:=P) (w:=w) Z nx nd g1 s1 g2 s2 (List.nodup_append.mpr ⟨hnd'.2.1,hnd'.1,fun a ha b hb e=>hnd'.2.2 b hb a ha e.symm⟩) (fun n hn=>lt' n ((List.mem_append.mp hn).elim (List.mem_append_right _) (List.mem_append_left _))) (by omega) (by omega) (by omega) (by omega) nm_b (by decide) (by decide) fun H' fs t u s hx e1 e2 e3 e4=>⟨rfl,?_⟩
  exact q H' x (.bun _ _) s ⟨dx,fs,t,u,hx,e1,e2,e3,e4⟩ ⟨by rw[List.length_map];omega,by rw[List.length_map];omega⟩
 refine sq_if (et_test (ev_eqI (ev_var rfl) ev_c)) (fun _=>?_) (fun _=>?_)
 ·refine rd_te ?_
  refine⟨_,rfl,_,rfl,st',_,rfl,SqL.of s1,fun l nl=>?_⟩
  rw[cut1,←List.map_drop]
  have t1:Same H (upd H l (.lst ((sas.drop 1).map V.ref))):=(Same.refl H).upd nl
  have y1:upd H l (.lst ((sas.drop 1).map V.ref)) l=some (.lst ((sas.drop 1).map V.ref)):=upd_same
  revert t1 y1
  generalize upd H l (.lst ((sas.drop 1).map V.ref))=H1
  intro t1 y1
  refine⟨_,rfl,fun x dx nx nd ne=>?_⟩
  have td:Tups H1 (sas.drop 1) ((ss.drop 1).map (sN ((Rz ns:Nat):Int) ((Cz ns:Nat):Int))):=by
   have:=tups_drop (tups_mono s2 fun b xs z=>t1 _ _ z) 1
   rwa [←List.map_drop] at this
  have sub:∀n,n∈ss.drop 1++gs→n∈ss++gs:=fun n hn=>(List.mem_append.mp hn).elim (fun h=>List.mem_append_left _ (List.mem_of_mem_drop h)) (List.mem_append_right _)
  refine mkB (P:=P) (w:=w) Z nx nd y1 (t1 _ _ g1) td (tups_mono g2 fun b xs z=>t1 _ _ z) (List.nodup_append.mpr ⟨hnd'.1.sublist (List.drop_sublist _ _),hnd'.2.1,fun a ha b hb e=>hnd'.2.2 a (List.mem_of_mem_drop ha) b hb e⟩) (fun n hn=>lt' n (sub n hn)) (by rw[List.length_drop];omega) (by rw[List.length_drop];omega) (by rw[List.length_drop];omega) (by omega) nm_b1 (by decide) (by decide) fun H' fs t u s hx e1 e2 e3 e4=>⟨rfl,?_⟩
  exact q H' x (.bun _ _) (t1.trans s) ⟨dx,fs,t,u,hx,e1,e2,e3,e4⟩ ⟨by rw[List.length_map,List.length_drop];omega,by rw[List.length_map];omega⟩
 ·refine rd_te ⟨_,rfl,_,rfl,?_⟩
  refine ta_ev (v:=.int (cellv ns 4/3%4)) (ev_I (ev_I (ev_cell 4 (ea_cons (ev_var rfl) (ea_cons ev_c ea_nil)) ha) ev_c (cdB (by decide) (by decide))) ev_c (by show(0:Int)<4;decide)) ?_
  intro x dx nx nd ne
  refine mkB (P:=P) (w:=w) Z nx nd s1 g1 s2 g2 hnd lt' (by omega) (by omega) (by omega) (by omega) nm_b (by omega) (by omega) fun H' fs t u s hx e1 e2 e3 e4=>⟨rfl,?_⟩
  exact q H' x (.bun _ _) s ⟨dx,fs,t,u,hx,e1,e2,e3,e4⟩ ⟨by rw[List.length_map];omega,by rw[List.length_map];omega⟩
theorem fromJ {X:St→Hp→Prop}{Y:St→Hp→Prop}{σ:St}{H:Hp}(j:X σ H)(h:∀σ H,X σ H→Y σ H):Y σ H:=h _ _ j
def SJ (ns:List Int) (H:Hp) (a t cu so dd on:Addr) (w pk:Int) (rs:List Nat) (F:List (Nat×V)) (cs ds:List T3) (k:Int) (σ:St) (H':Hp):Prop:=
 ∃(cu' so':Addr) (cs' ds':List T3) (F':List (Nat×V)) (x7 x8:Option V),σ=[some (.ref a),some (.ref t),some (.ref cu'),some (.ref so'),some (.int w),some (.int pk),some (.ref on),x7,x8]∧Bt [cu,so,dd] H H'∧AtL H' cu' cs'∧AtL H' so' ds'∧P3 cs'∧P3 ds'∧cs'.length≤9∧ds'.length≤49∧H' dd=some (.dT (enc (Rz ns:Nat) (Cz ns:Nat) F'))∧Tb (Nz ns*Cz ns) F'∧(∀p∈F',p.2=.bl true)∧(∀p∈F',p.1∉rs)∧(k≤w→cu=cu'∧so=so'∧cs=cs'∧ds=ds'∧F=F')
theorem SJ.up {ns:List Int}{H:Hp}{a t cu so dd on:Addr}{w pk:Int}{rs:List Nat}{F:List (Nat×V)}{cs ds:List T3}{k k':Int}{σ:St}{H':Hp}(h:SJ ns H a t cu so dd on w pk rs F cs ds k σ H')(hk:k≤k'):SJ ns H a t cu so dd on w pk rs F cs ds k' σ H':=by
 obtain⟨cu',so',cs',ds',F',x7,x8,h0,h1,h2,h3,h4,h5,h6,h7,h8,h9,ha,hb,hc⟩:=h
 exact⟨cu',so',cs',ds',F',x7,x8,h0,h1,h2,h3,h4,h5,h6,h7,h8,h9,ha,hb,fun z=>hc (Int.le_trans hk z)⟩
theorem encKeys (R C:Int)(F:List (Nat×V)):(enc R C F).map (·.1)=(F.map fun p=>sN R C p.1).map (fun c=>c.map Sum.inl):=by
 unfold enc
 rw[List.map_map,List.map_map];rfl
theorem keys_ne {R C:Int}(F:List (Nat×V)):∀c∈F.map fun p=>sN R C p.1,c≠[]:=fun c hc=>by
 obtain⟨p,_,rfl⟩:=List.mem_map.mp hc
 exact fun z=>nomatch z
theorem del_enc {L R C:Int}(S:Szs L R C)(F:List (Nat×V))(n:Nat):delK (enc R C F) (iK (sN R C n))=enc R C (delK F n):=by
 unfold delK enc
 rw[List.filter_map]
 congr 1
 refine List.filter_congr fun p _=>decide_eq_decide.mpr ⟨fun h e=>h (by show iK (sN R C p.1)=_;rw[e]),fun h e=>h (sN_inj S (iK_inj e))⟩
theorem sq_lcG {K:PySem.W.Frag}{te0:TE}{g:TG}{tt:TT}{te:TE}{n i:Nat}{ix:List Nat}{u:TS}{E:Ends}{σ:St}{H:Hp}
  (h:te0 σ H fun x H1=>∃a,x=.ref a∧(∃xs,SqL K H1 a xs)∧∀D,H1 D=none→lcW (inSt n ix σ) g tt te (Itl K a) H1 D fun H'=>u E (σ.set i (some (.ref D))) H'):tSeq (tLcSet (iList K te0) n ix g tt te i) u E σ H:=h
theorem te_cbA {r:List V→Hp→VK→Prop}{ta:TA}{vs:List V}{σ:St}{H:Hp}{Q:VK}(h:EvA ta σ H vs)(q:r vs H Q):tCB r ta σ H Q:=h _ q
theorem cut_last {xs:List V}(h:1≤xs.length):cutV xs (some (-1)) none=xs.drop (xs.length - 1):=by
 unfold cutV
 rw[HT.sIx_none,show HT.sIx xs.length 0 (some (-1))=xs.length - 1 by
  show(if (-1:Int)<0 then ((-1:Int)+(xs.length:Int)).toNat else min (-1:Int).toNat xs.length)=_
  rw[if_pos (by decide)];omega]
 exact List.take_of_length_le (by rw[List.length_drop];exact Nat.le_refl _)
set_option maxHeartbeats 8000000 in
theorem ok_Spoilt {cThing cNet cBundle cPaper cCutPaper cFloor cMS:Addr}{f:Addr}{fd:FuncData}(F:Fun K "_law_spoilt" "_law_spoilt" sSpoilt f fd)(T:Txt K mg cThing cNet cBundle cPaper cCutPaper cFloor cMS)(gCell:Callee P w K mg base "_law_cell_at" 1 ["script", "k"] (spCell K))(gPut:Callee P w K mg base "_law_put" 1 ["spots", "spot"] spPut):FnOk P w K mg base CX0 2 f fd ["script", "plan", "cut", "shore"] (spSpoilt K):=by
 have sc:FnScope ["script", "plan", "cut", "shore", "way", "pick", "one", "bare", "away"] ["script", "plan", "cut", "shore"] (defScope sSpoilt):=⟨rfl,rfl,rfl,by decide+kernel,rfl,by decide+kernel,by decide+kernel⟩
 refine F.ok sc (fun vs H Q E h=>by repeat (first|(obtain⟨rfl,_⟩:=h;rfl)|(obtain⟨_,h⟩:=h))) (fun cdv A outer s H vs Q E hr h=>?_)
 obtain⟨a,t,la,st',go,ro,sh,dd,cu,so,ns,nw,ss,gs,rs,F,S,cs,ds,rfl,ha,pa,pf,hcu,hso,p3,p4,z8,z48,hne,ncs,nls,q⟩:=h
 refine⟨_,(pss_cons (ps_set (i:=4) sc.nd rfl (Or.inl rfl) (pe_op op_mod (pe_cal gCell (hr.mono (by decide)) (by rfl) (pa_cons (pv 0) (pa_cons pe_int pa_nil))) pe_int))
 (pss_cons (ps_set (i:=5) sc.nd rfl (Or.inl rfl) (pe_cal gCell (hr.mono (by decide)) (by rfl) (pa_cons (pv 0) (pa_cons pe_int pa_nil))))
 (pss_cons (ps_set (i:=6) sc.nd rfl (Or.inl rfl) (pe_ix ix_list (pv 3) (pe_op op_mod (pv 5) (pe_callB call_len (by rfl) T.len_ bt_len (pa_cons (pv 3) pa_nil))) (fun _ _=>rfl)))
 (pss_cons (ps_if (pw_and (pt_cmpR op_eq (pv 4) pe_int (nomark _)) (pw_and1 (pt_cmpR op_gt (pe_callB call_len (by rfl) T.len_ bt_len (pa_cons (pv 2) pa_nil)) pe_int (nomark _)))).pt
 (pss_one (ps_expr (pe_bm PySem.F.plainAttrs_list PySem.F.slot_list_pop PySem.F.type_list_pop mt_popAt (pv 2) (pa_cons (pe_op op_mod (pv 5) (pe_callB call_len (by rfl) T.len_ bt_len (pa_cons (pv 2) pa_nil))) pa_nil))))
 pss_nil)
 (pss_cons (ps_if (pt_cmpR op_eq (pv 4) pe_int (nomark _))
 (pss_one (ps_expr (pe_bm PySem.F.plainAttrs_list PySem.F.slot_list_remove PySem.F.type_list_remove (mt_removeT hr) (pv 3) (pa_cons (pv 6) pa_nil))))
 pss_nil)
 (pss_cons (ps_if (pt_cmpR op_eq (pv 4) pe_int (nomark _))
 (pss_one (ps_expr (pe_bm PySem.F.plainAttrs_list PySem.F.slot_list_insert PySem.F.type_list_insert mt_insert (pv 3) (pa_cons (pe_op op_mod (pv 5) (pe_callB call_len (by rfl) T.len_ bt_len (pa_cons (pv 3) pa_nil))) (pa_cons (pv 6) pa_nil)))))
 pss_nil)
 (pss_cons (ps_if (pt_cmpR op_eq (pv 4) pe_int (nomark _))
 (pss_one (ps_set (i:=3) sc.nd rfl (Or.inl rfl) (pe_op op_cat (pe_slice sl_list (pv 3) (po_some pe_int) po_none) (pe_slice sl_list (pv 3) po_none (po_some pe_int)))))
 pss_nil)
 (pss_cons (ps_if (pt_cmpR op_eq (pv 4) pe_int (nomark _))
 (pss_cons (ps_expr (pe_bm PySem.F.plainAttrs_list PySem.F.slot_list_remove PySem.F.type_list_remove (mt_removeT hr) (pv 3) (pa_cons (pv 6) pa_nil)))
 (pss_one (ps_set (i:=2) sc.nd rfl (Or.inl rfl) (pe_cal gPut (hr.mono (by decide)) (by rfl) (pa_cons (pv 2) (pa_cons (pv 6) pa_nil))))))
 pss_nil)
 (pss_cons (ps_if (pw_and (pt_cmpR op_eq (pv 4) pe_int (nomark _)) (pw_and1 (pt_cmpR op_gt (pe_callB call_len (by rfl) T.len_ bt_len (pa_cons (pv 2) pa_nil)) pe_int (nomark _)))).pt
 (pss_one (ps_set (i:=3) sc.nd rfl (Or.inl rfl) (pe_cal gPut (hr.mono (by decide)) (by rfl) (pa_cons (pv 3) (pa_cons (pe_ix ix_list (pv 2) (pe_op op_mod (pv 5) (pe_callB call_len (by rfl) T.len_ bt_len (pa_cons (pv 2) pa_nil))) (fun _ _=>rfl)) pa_nil)))))
 pss_nil)
 (pss_cons (ps_if (pt_cmpR op_eq (pv 4) pe_int (nomark _))
 (pss_one (ps_set (i:=3) sc.nd rfl (Or.inl rfl) (pe_cal gPut (hr.mono (by decide)) (by rfl) (pa_cons (pv 3) (pa_cons (pe_ix ix_list (pe_ix ix_tup (pv 1) pe_int (fun _ _=>rfl)) (pe_op op_mod (pv 5) (pe_callB call_len (by rfl) T.len_ bt_len (pa_cons (pe_ix ix_tup (pv 1) pe_int (fun _ _=>rfl)) pa_nil))) (fun _ _=>rfl)) pa_nil)))))
 pss_nil)
 (pss_cons (ps_if (pw_and (pt_cmpR op_eq (pv 4) pe_int (nomark _)) (pw_and1 (pt_cmpR op_gt (pe_callB call_len (by rfl) T.len_ bt_len (pa_cons (pe_ix ix_tup (pv 1) pe_int (fun _ _=>rfl)) pa_nil)) pe_int (nomark _)))).pt
 (pss_one (ps_set (i:=3) sc.nd rfl (Or.inl rfl) (pe_cal gPut (hr.mono (by decide)) (by rfl) (pa_cons (pv 3) (pa_cons (pe_ix ix_list (pe_ix ix_tup (pv 1) pe_int (fun _ _=>rfl)) (pe_op op_mod (pv 5) (pe_callB call_len (by rfl) T.len_ bt_len (pa_cons (pe_ix ix_tup (pv 1) pe_int (fun _ _=>rfl)) pa_nil))) (fun _ _=>rfl)) pa_nil)))))
 pss_nil)
 (pss_cons (ps_if (pw_and (pt_cmpR op_eq (pv 4) pe_int (nomark _)) (pw_and1 (pt_cmpR op_gt (pe_callB call_lenDT (by rfl) T.len_ bt_len (pa_cons (pe_ix ix_tup (pv 1) pe_int (fun _ _=>rfl)) pa_nil)) pe_int (nomark _)))).pt
 (pss_one (ps_set (i:=3) sc.nd rfl (Or.inl rfl) (pe_cal gPut (hr.mono (by decide)) (by rfl) (pa_cons (pv 3) (pa_cons (pe_ix ix_list (pe_callB (call_sortedE rfl) (by rfl) T.sorted_ bt_sorted (pa_cons (pe_ix ix_tup (pv 1) pe_int (fun _ _=>rfl)) pa_nil)) (pe_op op_mod (pv 5) (pe_callB call_lenDT (by rfl) T.len_ bt_len (pa_cons (pe_ix ix_tup (pv 1) pe_int (fun _ _=>rfl)) pa_nil))) (fun _ _=>rfl)) pa_nil)))))
 pss_nil)
 (pss_cons (ps_if (pw_and (pt_cmpR op_eq (pv 4) pe_int (nomark _)) (pw_and1 (pt_cmpR op_gt (pe_callB call_len (by rfl) T.len_ bt_len (pa_cons (pv 2) pa_nil)) pe_int (nomark _)))).pt
 (pss_one (ps_set (i:=2) sc.nd rfl (Or.inl rfl) (pe_listRev rfl (by rfl) T.list_ (by rfl) T.reversed_ (pv 2))))
 pss_nil)
 (pss_cons (ps_if (pt_cmpR op_eq (pv 4) pe_int (nomark _))
 (pss_one (ps_expr (pe_bm PySem.F.plainAttrs_dict PySem.F.slot_dict_pop PySem.F.type_dict_pop (mt_popT hr) (pe_ix ix_tup (pv 1) pe_int (fun _ _=>rfl)) (pa_cons (pe_ix ix_list (pe_callB (call_sortedE rfl) (by rfl) T.sorted_ bt_sorted (pa_cons (pe_ix ix_tup (pv 1) pe_int (fun _ _=>rfl)) pa_nil)) (pe_op op_mod (pv 5) (pe_callB call_lenDT (by rfl) T.len_ bt_len (pa_cons (pe_ix ix_tup (pv 1) pe_int (fun _ _=>rfl)) pa_nil))) (fun _ _=>rfl)) pa_nil))))
 pss_nil)
 (pss_cons (ps_lcset (i:=7) (ls:=["spot"]) (ys:=["plan"]) (ix:=[1]) rfl sc.nd rfl (Or.inl rfl) ⟨rfl,by rfl,by rfl,by rfl,by rfl,rfl⟩ (pi_list (pe_callB (call_sortedE rfl) (by rfl) T.sorted_ bt_sorted (pa_cons (pe_ix ix_tup (pv 1) pe_int (fun _ _=>rfl)) pa_nil))) (fun _ _ _ _ _=>(pg_name (i:=0) (show(["spot", "plan"]:List Str).Nodup by decide+kernel) rfl (Or.inl rfl))) (fun _ _ _ _ _=>(pf_one (pt_cmpR (op_notinTK (K:=K) rfl (by exact hr)) (pv 0) (pe_ix (ix_tupK (K:=K) rfl) (pv 1) pe_int (fun _ _=>rfl)) (by with_unfolding_all rfl)))) (fun _ _ _ _ _=>(pv 0)))
 (pss_cons (ps_if (pw_and (pt_cmpR op_eq (pv 4) pe_int (nomark _)) (pw_and1 (pt_cmpR op_gt (pe_callB call_len (by rfl) T.len_ bt_len (pa_cons (pv 7) pa_nil)) pe_int (nomark _)))).pt
 (pss_one (ps_dput (Room.one hr) (pe_ix ix_tup (pv 1) pe_int (fun _ _=>rfl)) (pe_ix ix_list (pv 7) (pe_op op_mod (pv 5) (pe_callB call_len (by rfl) T.len_ bt_len (pa_cons (pv 7) pa_nil))) (fun _ _=>rfl)) pe_bl (by rfl)))
 pss_nil)
 (pss_cons (ps_if (pw_and (pt_cmpR op_eq (pv 4) pe_int (nomark _)) (pw_and1 (pt_cmpR op_gt (pe_callB call_len (by rfl) T.len_ bt_len (pa_cons (pv 2) pa_nil)) pe_int (nomark _)))).pt
 (pss_one (ps_set (i:=2) sc.nd rfl (Or.inl rfl) (pe_op op_cat (pv 2) (pe_slice sl_list (pv 2) (po_some (pe_un un_neg pe_int)) po_none))))
 pss_nil)
 (pss_cons (ps_set (i:=8) sc.nd rfl (Or.inl rfl) (pe_ix ix_list (pe_lst (pa_cons (pe_tup (pa_cons (pe_ix ix_tup (pv 6) pe_int (fun _ _=>rfl)) (pa_cons (pe_ix ix_tup (pv 6) pe_int (fun _ _=>rfl)) (pa_cons (pe_ix ix_tup (pv 1) pe_int (fun _ _=>rfl)) pa_nil)))) (pa_cons (pe_tup (pa_cons (pe_ix ix_tup (pv 6) pe_int (fun _ _=>rfl)) (pa_cons pe_int (pa_cons (pe_ix ix_tup (pv 6) pe_int (fun _ _=>rfl)) pa_nil)))) (pa_cons (pe_tup (pa_cons pe_int (pa_cons (pe_ix ix_tup (pv 6) pe_int (fun _ _=>rfl)) (pa_cons (pe_ix ix_tup (pv 6) pe_int (fun _ _=>rfl)) pa_nil)))) (pa_cons (pe_tup (pa_cons (pe_ix ix_tup (pv 6) pe_int (fun _ _=>rfl)) (pa_cons (pe_ix ix_tup (pv 6) pe_int (fun _ _=>rfl)) (pa_cons (pe_op op_pow pe_int pe_int) pa_nil)))) pa_nil))))) (pe_op op_mod (pv 5) pe_int) (fun _ _=>rfl)))
 (pss_cons (ps_if (pt_cmpR op_eq (pv 4) pe_int (nomark _))
 (pss_one (ps_set (i:=3) sc.nd rfl (Or.inl rfl) (pe_cal gPut (hr.mono (by decide)) (by rfl) (pa_cons (pv 3) (pa_cons (pv 8) pa_nil)))))
 pss_nil)
 (pss_cons (ps_if (pw_and (pt_cmpR op_eq (pv 4) pe_int (nomark _)) (pw_and1 (pt_cmpR op_lt (pe_op op_add (pe_callB call_len (by rfl) T.len_ bt_len (pa_cons (pv 2) pa_nil)) pe_int) (pe_callB call_len (by rfl) T.len_ bt_len (pa_cons (pe_ix ix_tup (pv 1) pe_int (fun _ _=>rfl)) pa_nil)) (nomark _)))).pt
 (pss_one (ps_set (i:=2) sc.nd rfl (Or.inl rfl) (pe_cal gPut (hr.mono (by decide)) (by rfl) (pa_cons (pv 2) (pa_cons (pv 8) pa_nil)))))
 pss_nil)
 (pss_one (ps_ret (pe_tup (pa_cons (pv 2) (pa_cons (pv 3) pa_nil))))))))))))))))))))))))),?_⟩
 have hsz:sizeLine=2^24:=rfl
 have Z:=szs36 ns
 have M48:=m48 ns
 obtain⟨cas,c1,c2⟩:=id hcu
 obtain⟨das,d1,d2⟩:=id hso
 have lda:das.length=ds.length:=Paired.length d2
 have dp:0<das.length:=by rw[lda];exact List.length_pos_iff.mpr hne
 refine sq_set (v:=.int (cellv ns 10%18)) (ev_I (ev_cell 10 (ea_cons (ev_var rfl) (ea_cons ev_c ea_nil)) ha) ev_c (by show(0:Int)<18;decide)) ?_
 refine sq_set (v:=.int (cellv ns 11)) (ev_cell 11 (ea_cons (ev_var rfl) (ea_cons ev_c ea_nil)) ha) ?_
 generalize cellv ns 10%18=w
 generalize cellv ns 11=pk
 have pkE:∀{as:List Addr},0<as.length→∃(b:Addr) (i:Nat),as[i]?=some b∧atI (as.map V.ref) (pk%((as.length:Nat):Int))=some (.ref b):=fun{as} h=>by
  obtain⟨b,h1,h2⟩:=at_of (xs:=as) (i:=pk%((as.length:Nat):Int)) (Int.emod_nonneg _ (by omega)) (Int.emod_lt_of_pos _ (by omega))
  exact⟨b,_,h1,h2⟩
 obtain⟨on,i0,hon0,at0⟩:=pkE (as:=das) dp
 obtain⟨oc,hoc,honH⟩:=tups_at d2 hon0
 have hon:=List.mem_of_getElem? hoc
 obtain⟨ox,oy,oz,rfl⟩:=p4 oc hon
 refine sq_set (v:=.ref on) (ev_ixL (ev_var rfl) (ev_I (ev_var rfl) (ev_cb (v:=.int ((das.length:Nat):Int)) (ea_cons (ev_var rfl) ea_nil) fun Q' q'=>⟨_,_,rfl,.inl ⟨_,SqL.of d1,(by rw[List.length_map])⟩,q'⟩) (by show(0:Int)<((das.length:Nat):Int);omega)) (SqL.of d1) at0) ?_
 refine nrm (σ':=[some (.ref a),some (.ref t),some (.ref cu),some (.ref so),some (.int w),some (.int pk),some (.ref on),none,none]) (by kernel_rfl) ?_
 have nt:∀{b:Addr} {xs:List V},H b=some (.tup xs)→b∉[cu,so,dd]:=fun{b xs} e z=>by
  rcases List.mem_cons.mp z with z|z
  ·rw[z,c1] at e;cases e
  rcases List.mem_cons.mp z with z|z
  ·rw[z,d1] at e;cases e
  ·rw[List.mem_singleton.mp z,pa.fdd] at e;cases e
 have ntT:∀{H1:Hp},Bt [cu,so,dd] H H1→∀b xs,H b=some (.tup xs)→H1 b=some (.tup xs):=fun bt b xs e=>bt _ _ (nt e) e
 have tP:∀{H1:Hp},Bt [cu,so,dd] H H1→H1 t=some (.tup [.int (Cz ns:Nat),.ref la,.ref st',.ref go,.int (nw:Nat),.ref ro,.ref sh,.ref dd]):=fun bt=>ntT bt _ _ pa.ft
 have onH:∀{H1:Hp},Bt [cu,so,dd] H H1→H1 on=some (.tup ([ox,oy,oz].map V.int)):=fun bt=>ntT bt _ _ honH
 have lP:∀{H1:Hp} {l:Addr} {xs:List T3},Bt [cu,so,dd] H H1→l∈[la,st',go,ro]→AtL H l xs→AtL H1 l xs:=fun{H1 l xs} bt hl ⟨as,e1,e2⟩=>by
  refine⟨as,bt _ _ (fun z=>?_) e1,tups_mono e2 (ntT bt)⟩
  rcases List.mem_cons.mp z with z|z
  ·exact(nls l hl).1 z
  rcases List.mem_cons.mp z with z|z
  ·exact(nls l hl).2 z
  ·rw[List.mem_singleton.mp z,pa.fdd] at e1;cases e1
 have goP:∀{H1:Hp},Bt [cu,so,dd] H H1→AtL H1 go (gs.map (sN (Rz ns:Nat) (Cz ns:Nat))):=fun bt=>lP bt (by simp) pa.fgo
 have roP:∀{H1:Hp},Bt [cu,so,dd] H H1→AtL H1 ro (rs.map (sN (Rz ns:Nat) (Cz ns:Nat))):=fun bt=>lP bt (by simp) pa.fro
 have stP:∀{H1:Hp},Bt [cu,so,dd] H H1→AtL H1 st' (ss.map (sN (Rz ns:Nat) (Cz ns:Nat))):=fun bt=>lP bt (by simp) pa.fst
 have shP:∀{H1:Hp},Bt [cu,so,dd] H H1→H1 sh=some (.dT (enc (Rz ns:Nat) (Cz ns:Nat) S)):=fun bt=>bt _ _ (fun z=>by
  have e:=pa.fsh
  rcases List.mem_cons.mp z with z|z
  ·rw[z,c1] at e;cases e
  rcases List.mem_cons.mp z with z|z
  ·rw[z,d1] at e;cases e
  ·exact pa.fne (List.mem_singleton.mp z)) pa.fsh
 have J:SJ ns H a t cu so dd on w pk rs F cs ds 1 [some (.ref a),some (.ref t),some (.ref cu),some (.ref so),some (.int w),some (.int pk),some (.ref on),none,none] H:=⟨cu,so,cs,ds,F,none,none,rfl,Bt.refl _ _,hcu,hso,p3,p4,by omega,by omega,pa.fdd,pf.tF,pf.vF,pf.op,fun _=>⟨rfl,rfl,rfl,rfl,rfl⟩⟩
 clear c1 c2 d1 d2 lda hcu hso p3 p4
 refine fromJ J ?_
 rintro σ1 H1 J
 obtain⟨cu',so',cs',ds',F',x7,x8,rfl,bt,hcu,hso,p3,p4,lc,ld,hdd,hT,hv,ho,hu⟩:=id J
 obtain⟨cas,c1,c2⟩:=id hcu
 obtain⟨das,d1,d2⟩:=id hso
 have lca:cas.length=cs'.length:=Paired.length c2
 have lda:das.length=ds'.length:=Paired.length d2
 refine sq_ifR (SJ ns H a t cu so dd on w pk rs F cs ds 2) (et_and (et_test (ev_eqI (ev_var rfl) ev_c)) fun _=>et_test (ev_I0 (ev_cb (v:=.int ((cas.length:Nat):Int)) (ea_cons (ev_var rfl) ea_nil) fun Q' q'=>⟨_,_,rfl,.inl ⟨_,SqL.of c1,(by rw[List.length_map])⟩,q'⟩) ev_c)) (fun e R hR=>?_) (fun _ R hR=>hR _ _ (J.up (by decide))) ?_
 ·rw[Bool.and_eq_true] at e
  have ew:w=1:=of_decide_eq_true e.1
  obtain⟨rfl,rfl,rfl,rfl,rfl⟩:=hu (by omega)
  have hlen:=of_decide_eq_true e.2
  refine⟨_,rfl,.inl ⟨rfl,_,SqL.of c1⟩,?_⟩
  refine ta_ev (v:=.int (pk%((cas.length:Nat):Int))) (ev_I (ev_var rfl) (ev_cb (v:=.int ((cas.length:Nat):Int)) (ea_cons (ev_var rfl) ea_nil) fun Q' q'=>⟨_,_,rfl,.inl ⟨_,SqL.of c1,(by rw[List.length_map])⟩,q'⟩) (by show(0:Int)<((cas.length:Nat):Int);omega)) ?_
  have v0:=Int.emod_nonneg pk (show((cas.length:Nat):Int)≠0 by omega)
  have v1:=Int.emod_lt_of_pos pk (show 0<((cas.length:Nat):Int) by omega)
  revert v0 v1
  generalize pk%((cas.length:Nat):Int)=v
  intro v0 v1
  obtain⟨b,hb⟩:∃b,cas[v.toNat]?=some b:=⟨_,List.getElem?_eq_getElem (by omega)⟩
  exact⟨cu,_,v,v.toNat,.ref b,rfl,rfl,c1,by omega,by omega,seqIndex_of v0 (by rw[List.length_map];exact v1),by rw[List.getElem?_map,hb];rfl,hR _ _ ⟨cu,so,cs.eraseIdx v.toNat,ds,F,x7,x8,rfl,bt.set (by simp),⟨cas.eraseIdx v.toNat,by rw[upd_same,map_eraseIdx],tups_mono (pr_erase c2 _) (keep_lst0 c1)⟩,⟨das,by rw[upd_ne (Ne.symm ncs)];exact d1,tups_mono d2 (keep_lst0 c1)⟩,p3.sub (fun c hc=>List.mem_of_mem_eraseIdx hc),p4,Nat.le_trans (List.length_eraseIdx_le _ _) lc,ld,by rw[upd_ne (Ne.symm (ne_of c1 hdd (fun z=>nomatch z)))];exact hdd,hT,hv,ho,fun z=>absurd z (by omega)⟩⟩
 rintro σ1 H1 J
 obtain⟨cu',so',cs',ds',F',x7,x8,rfl,bt,hcu,hso,p3,p4,lc,ld,hdd,hT,hv,ho,hu⟩:=id J
 obtain⟨cas,c1,c2⟩:=id hcu
 obtain⟨das,d1,d2⟩:=id hso
 have lca:cas.length=cs'.length:=Paired.length c2
 have lda:das.length=ds'.length:=Paired.length d2
 refine sq_ifR (SJ ns H a t cu so dd on w pk rs F cs ds 3) (et_test (ev_eqI (ev_var rfl) ev_c)) (fun e R hR=>?_) (fun _ R hR=>hR _ _ (J.up (by decide))) ?_
 ·skip
  have ew:w=2:=of_decide_eq_true e
  obtain⟨rfl,rfl,rfl,rfl,rfl⟩:=hu (by omega)
  refine⟨_,rfl,.inl ⟨rfl,_,SqL.of d1⟩,_,rfl,so,on,das,[ox,oy,oz],ds,rfl,rfl,onH bt,d1,d2,hon,fun j hj=>?_⟩
  exact hR _ _ ⟨cu,so,cs,ds.eraseIdx j,F,x7,x8,rfl,bt.set (by simp),⟨cas,by rw[upd_ne ncs];exact c1,tups_mono c2 (keep_lst0 d1)⟩,⟨das.eraseIdx j,upd_same,tups_mono (pr_erase d2 _) (keep_lst0 d1)⟩,p3,p4.sub (fun c hc=>List.mem_of_mem_eraseIdx hc),lc,Nat.le_trans (List.length_eraseIdx_le _ _) ld,by rw[upd_ne (Ne.symm (ne_of d1 hdd (fun z=>nomatch z)))];exact hdd,hT,hv,ho,fun z=>absurd z (by omega)⟩
 rintro σ1 H1 J
 obtain⟨cu',so',cs',ds',F',x7,x8,rfl,bt,hcu,hso,p3,p4,lc,ld,hdd,hT,hv,ho,hu⟩:=id J
 obtain⟨cas,c1,c2⟩:=id hcu
 obtain⟨das,d1,d2⟩:=id hso
 have lca:cas.length=cs'.length:=Paired.length c2
 have lda:das.length=ds'.length:=Paired.length d2
 refine sq_ifR (SJ ns H a t cu so dd on w pk rs F cs ds 4) (et_test (ev_eqI (ev_var rfl) ev_c)) (fun e R hR=>?_) (fun _ R hR=>hR _ _ (J.up (by decide))) ?_
 ·skip
  have ew:w=3:=of_decide_eq_true e
  obtain⟨rfl,rfl,rfl,rfl,rfl⟩:=hu (by omega)
  have dp:0<das.length:=by rw[lda];exact List.length_pos_iff.mpr hne
  refine⟨_,rfl,.inl ⟨rfl,_,SqL.of d1⟩,?_⟩
  refine ta_ev (v:=.int (pk%((das.length:Nat):Int))) (ev_I (ev_var rfl) (ev_cb (v:=.int ((das.length:Nat):Int)) (ea_cons (ev_var rfl) ea_nil) fun Q' q'=>⟨_,_,rfl,.inl ⟨_,SqL.of d1,(by rw[List.length_map])⟩,q'⟩) (by show(0:Int)<((das.length:Nat):Int);omega)) ?_
  have v0:=Int.emod_nonneg pk (show((das.length:Nat):Int)≠0 by omega)
  have v1:=Int.emod_lt_of_pos pk (show 0<((das.length:Nat):Int) by omega)
  revert v0 v1
  generalize pk%((das.length:Nat):Int)=v
  intro v0 v1
  refine⟨_,rfl,so,_,v,.ref on,rfl,rfl,d1,v0,by rw[List.length_map];omega,by rw[List.length_map];omega,?_⟩
  exact hR _ _ ⟨cu,so,cs,ds.take v.toNat++[ox,oy,oz]::ds.drop v.toNat,F,x7,x8,rfl,bt.set (by simp),⟨cas,by rw[upd_ne ncs];exact c1,tups_mono c2 (keep_lst0 d1)⟩,⟨das.take v.toNat++on::das.drop v.toNat,by rw[upd_same,List.map_append,List.map_cons,List.map_take,List.map_drop],tups_mono (tups_app (tups_take d2 _) (.cons (onH bt) (tups_drop d2 _))) (keep_lst0 d1)⟩,p3,(p4.sub fun c hc=>List.mem_of_mem_take hc).app (P3.one.app (p4.sub fun c hc=>List.mem_of_mem_drop hc)),lc,by rw[List.length_append,List.length_cons,List.length_take,List.length_drop];omega,by rw[upd_ne (Ne.symm (ne_of d1 hdd (fun z=>nomatch z)))];exact hdd,hT,hv,ho,fun z=>absurd z (by omega)⟩
 rintro σ1 H1 J
 obtain⟨cu',so',cs',ds',F',x7,x8,rfl,bt,hcu,hso,p3,p4,lc,ld,hdd,hT,hv,ho,hu⟩:=id J
 obtain⟨cas,c1,c2⟩:=id hcu
 obtain⟨das,d1,d2⟩:=id hso
 have lca:cas.length=cs'.length:=Paired.length c2
 have lda:das.length=ds'.length:=Paired.length d2
 refine sq_ifR (SJ ns H a t cu so dd on w pk rs F cs ds 5) (et_test (ev_eqI (ev_var rfl) ev_c)) (fun e R hR=>?_) (fun _ R hR=>hR _ _ (J.up (by decide))) ?_
 ·skip
  have ew:w=4:=of_decide_eq_true e
  obtain⟨rfl,rfl,rfl,rfl,rfl⟩:=hu (by omega)
  have dp:1≤das.length:=by rw[lda];exact List.length_pos_iff.mpr hne
  refine rd_asg0 ⟨_,rfl,_,rfl,so,_,rfl,SqL.of d1,fun l1 n1=>?_⟩
  rw[cut1,←List.map_drop]
  have t1:Same H1 (upd H1 l1 (.lst ((das.drop 1).map V.ref))):=(Same.refl H1).upd n1
  have y1:upd H1 l1 (.lst ((das.drop 1).map V.ref)) l1=some (.lst ((das.drop 1).map V.ref)):=upd_same
  revert t1 y1
  generalize upd H1 l1 (.lst ((das.drop 1).map V.ref))=H2
  intro t1 y1
  refine⟨_,rfl,_,rfl,so,_,rfl,SqL.of (t1 _ _ d1),fun l2 n2=>?_⟩
  rw[show(some (1:Int))=some ((1:Nat):Int) from rfl,cut_to _ _ (by rw[List.length_map];exact dp),←List.map_take]
  refine⟨l1,l2,_,_,rfl,rfl,by rw[upd_ne (ne_of_none y1 n2)];exact y1,upd_same,by rw[List.length_map,List.length_map,List.length_take,List.length_drop];omega,fun l3 n3=>?_⟩
  have t2:Same H1 (upd (upd H2 l2 (.lst ((das.take 1).map V.ref))) l3 (.lst ((das.drop 1).map V.ref++(das.take 1).map V.ref))):=(t1.upd n2).upd n3
  exact hR _ _ ⟨cu,l3,cs,ds.drop 1++ds.take 1,F,x7,x8,rfl,bt.same t2,hcu.same t2,⟨das.drop 1++das.take 1,by rw[upd_same,List.map_append],tups_mono (tups_app (tups_drop d2 _) (tups_take d2 _)) fun b xs z=>t2 _ _ z⟩,p3,(p4.sub fun c hc=>List.mem_of_mem_drop hc).app (p4.sub fun c hc=>List.mem_of_mem_take hc),lc,by rw[List.length_append,List.length_take,List.length_drop];omega,t2 _ _ hdd,hT,hv,ho,fun z=>absurd z (by omega)⟩
 rintro σ1 H1 J
 obtain⟨cu',so',cs',ds',F',x7,x8,rfl,bt,hcu,hso,p3,p4,lc,ld,hdd,hT,hv,ho,hu⟩:=id J
 obtain⟨cas,c1,c2⟩:=id hcu
 obtain⟨das,d1,d2⟩:=id hso
 have lca:cas.length=cs'.length:=Paired.length c2
 have lda:das.length=ds'.length:=Paired.length d2
 refine sq_ifR (SJ ns H a t cu so dd on w pk rs F cs ds 6) (et_test (ev_eqI (ev_var rfl) ev_c)) (fun e R hR=>?_) (fun _ R hR=>hR _ _ (J.up (by decide))) ?_
 ·skip
  have ew:w=5:=of_decide_eq_true e
  obtain⟨rfl,rfl,rfl,rfl,rfl⟩:=hu (by omega)
  refine⟨_,rfl,.inl ⟨rfl,_,SqL.of d1⟩,_,rfl,so,on,das,[ox,oy,oz],ds,rfl,rfl,onH bt,d1,d2,hon,fun j hj=>?_⟩
  have bt2:=bt.set (l:=so) (y:=.lst ((das.eraseIdx j).map V.ref)) (by simp)
  have hso2:AtL (upd H1 so (.lst ((das.eraseIdx j).map V.ref))) so (ds.eraseIdx j):=⟨das.eraseIdx j,upd_same,tups_mono (pr_erase d2 _) (keep_lst0 d1)⟩
  have hcu2:AtL (upd H1 so (.lst ((das.eraseIdx j).map V.ref))) cu cs:=⟨cas,by rw[upd_ne ncs];exact c1,tups_mono c2 (keep_lst0 d1)⟩
  have hdd2:upd H1 so (.lst ((das.eraseIdx j).map V.ref)) dd=some (.dT (enc (Rz ns:Nat) (Cz ns:Nat) F)):=by rw[upd_ne (Ne.symm (ne_of d1 hdd (fun z=>nomatch z)))];exact hdd
  revert bt2 hso2 hcu2 hdd2
  generalize upd H1 so (.lst ((das.eraseIdx j).map V.ref))=H3
  intro bt2 hso2 hcu2 hdd2
  refine st ?_
  refine rd_asg0 (te_cal (sp:=spPut) (ea_cons (ev_var rfl) (ea_cons (ev_var rfl) ea_nil)) ⟨cu,on,cs,ox,oy,oz,rfl,hcu2,p3,by omega,onH bt2,fun H2 l' cs2 s2 hl' p' len'=>?_⟩)
  exact hR _ _ ⟨l',so,cs2,ds.eraseIdx j,F,x7,x8,rfl,bt2.same s2,hl',hso2.same s2,p',p4.sub (fun c hc=>List.mem_of_mem_eraseIdx hc),by omega,Nat.le_trans (List.length_eraseIdx_le _ _) ld,s2 _ _ hdd2,hT,hv,ho,fun z=>absurd z (by omega)⟩
 rintro σ1 H1 J
 obtain⟨cu',so',cs',ds',F',x7,x8,rfl,bt,hcu,hso,p3,p4,lc,ld,hdd,hT,hv,ho,hu⟩:=id J
 obtain⟨cas,c1,c2⟩:=id hcu
 obtain⟨das,d1,d2⟩:=id hso
 have lca:cas.length=cs'.length:=Paired.length c2
 have lda:das.length=ds'.length:=Paired.length d2
 refine sq_ifR (SJ ns H a t cu so dd on w pk rs F cs ds 7) (et_and (et_test (ev_eqI (ev_var rfl) ev_c)) fun _=>et_test (ev_I0 (ev_cb (v:=.int ((cas.length:Nat):Int)) (ea_cons (ev_var rfl) ea_nil) fun Q' q'=>⟨_,_,rfl,.inl ⟨_,SqL.of c1,(by rw[List.length_map])⟩,q'⟩) ev_c)) (fun e R hR=>?_) (fun _ R hR=>hR _ _ (J.up (by decide))) ?_
 ·rw[Bool.and_eq_true] at e
  have ew:w=6:=of_decide_eq_true e.1
  obtain⟨rfl,rfl,rfl,rfl,rfl⟩:=hu (by omega)
  have hlen:=of_decide_eq_true e.2
  obtain⟨b,i,hb,at_⟩:=pkE (as:=cas) (by omega)
  obtain⟨c,hc,hbc⟩:=tups_at c2 hb
  obtain⟨x,y,z,rfl⟩:=p3 c (List.mem_of_getElem? hc)
  refine rd_asg0 (te_cal (sp:=spPut) (ea_cons (ev_var rfl) (ea_cons (ev_ixL (v:=.ref b) (ev_var rfl) (ev_I (ev_var rfl) (ev_cb (v:=.int ((cas.length:Nat):Int)) (ea_cons (ev_var rfl) ea_nil) fun Q' q'=>⟨_,_,rfl,.inl ⟨_,SqL.of c1,(by rw[List.length_map])⟩,q'⟩) (by show(0:Int)<((cas.length:Nat):Int);omega)) (SqL.of c1) at_) ea_nil)) ⟨so,b,ds,x,y,z,rfl,hso,p4,by omega,hbc,fun H2 l' ds2 s2 hl' p' len'=>?_⟩)
  exact hR _ _ ⟨cu,l',cs,ds2,F,x7,x8,rfl,bt.same s2,hcu.same s2,hl',p3,p',lc,by omega,s2 _ _ hdd,hT,hv,ho,fun z=>absurd z (by omega)⟩
 rintro σ1 H1 J
 obtain⟨cu',so',cs',ds',F',x7,x8,rfl,bt,hcu,hso,p3,p4,lc,ld,hdd,hT,hv,ho,hu⟩:=id J
 obtain⟨cas,c1,c2⟩:=id hcu
 obtain⟨das,d1,d2⟩:=id hso
 have lca:cas.length=cs'.length:=Paired.length c2
 have lda:das.length=ds'.length:=Paired.length d2
 refine sq_ifR (SJ ns H a t cu so dd on w pk rs F cs ds 8) (et_test (ev_eqI (ev_var rfl) ev_c)) (fun e R hR=>?_) (fun _ R hR=>hR _ _ (J.up (by decide))) ?_
 ·skip
  have ew:w=7:=of_decide_eq_true e
  obtain⟨rfl,rfl,rfl,rfl,rfl⟩:=hu (by omega)
  obtain⟨gas,g1,g2⟩:=goP bt
  have lg:gas.length=gs.length:=by rw[Paired.length g2,List.length_map]
  have gp:0<gas.length:=by have:=pf.g1;have:=pf.s2;omega
  obtain⟨b,i,hb,at_⟩:=pkE (as:=gas) gp
  obtain⟨n,hn,hbn⟩:=num_at g2 hb
  refine rd_asg0 (te_cal (sp:=spPut) (ea_cons (ev_var rfl) (ea_cons (ev_ixL (v:=.ref b) (ev_ixT (v:=.ref go) (ev_var rfl) ev_c (SqT.of (tP bt)) rfl) (ev_I (ev_var rfl) (ev_cb (v:=.int ((gas.length:Nat):Int)) (ea_cons (ev_ixT (v:=.ref go) (ev_var rfl) ev_c (SqT.of (tP bt)) rfl) ea_nil) fun Q' q'=>⟨_,_,rfl,.inl ⟨_,SqL.of g1,(by rw[List.length_map])⟩,q'⟩) (by show(0:Int)<((gas.length:Nat):Int);omega)) (SqL.of g1) at_) ea_nil)) ⟨so,b,ds,_,_,_,rfl,hso,p4,by omega,hbn,fun H2 l' ds2 s2 hl' p' len'=>?_⟩)
  exact hR _ _ ⟨cu,l',cs,ds2,F,x7,x8,rfl,bt.same s2,hcu.same s2,hl',p3,p',lc,by omega,s2 _ _ hdd,hT,hv,ho,fun z=>absurd z (by omega)⟩
 rintro σ1 H1 J
 obtain⟨cu',so',cs',ds',F',x7,x8,rfl,bt,hcu,hso,p3,p4,lc,ld,hdd,hT,hv,ho,hu⟩:=id J
 obtain⟨cas,c1,c2⟩:=id hcu
 obtain⟨das,d1,d2⟩:=id hso
 have lca:cas.length=cs'.length:=Paired.length c2
 have lda:das.length=ds'.length:=Paired.length d2
 obtain⟨ras,r1,r2⟩:=roP bt
 refine sq_ifR (SJ ns H a t cu so dd on w pk rs F cs ds 9) (et_and (et_test (ev_eqI (ev_var rfl) ev_c)) fun _=>et_test (ev_I0 (ev_cb (v:=.int ((ras.length:Nat):Int)) (ea_cons (ev_ixT (v:=.ref ro) (ev_var rfl) ev_c (SqT.of (tP bt)) rfl) ea_nil) fun Q' q'=>⟨_,_,rfl,.inl ⟨_,SqL.of r1,(by rw[List.length_map])⟩,q'⟩) ev_c)) (fun e R hR=>?_) (fun _ R hR=>hR _ _ (J.up (by decide))) ?_
 ·rw[Bool.and_eq_true] at e
  have ew:w=8:=of_decide_eq_true e.1
  obtain⟨rfl,rfl,rfl,rfl,rfl⟩:=hu (by omega)
  have hlen:=of_decide_eq_true e.2
  obtain⟨b,i,hb,at_⟩:=pkE (as:=ras) (by omega)
  obtain⟨n,hn,hbn⟩:=num_at r2 hb
  refine rd_asg0 (te_cal (sp:=spPut) (ea_cons (ev_var rfl) (ea_cons (ev_ixL (v:=.ref b) (ev_ixT (v:=.ref ro) (ev_var rfl) ev_c (SqT.of (tP bt)) rfl) (ev_I (ev_var rfl) (ev_cb (v:=.int ((ras.length:Nat):Int)) (ea_cons (ev_ixT (v:=.ref ro) (ev_var rfl) ev_c (SqT.of (tP bt)) rfl) ea_nil) fun Q' q'=>⟨_,_,rfl,.inl ⟨_,SqL.of r1,(by rw[List.length_map])⟩,q'⟩) (by show(0:Int)<((ras.length:Nat):Int);omega)) (SqL.of r1) at_) ea_nil)) ⟨so,b,ds,_,_,_,rfl,hso,p4,by omega,hbn,fun H2 l' ds2 s2 hl' p' len'=>?_⟩)
  exact hR _ _ ⟨cu,l',cs,ds2,F,x7,x8,rfl,bt.same s2,hcu.same s2,hl',p3,p',lc,by omega,s2 _ _ hdd,hT,hv,ho,fun z=>absurd z (by omega)⟩
 rintro σ1 H1 J
 obtain⟨cu',so',cs',ds',F',x7,x8,rfl,bt,hcu,hso,p3,p4,lc,ld,hdd,hT,hv,ho,hu⟩:=id J
 obtain⟨cas,c1,c2⟩:=id hcu
 obtain⟨das,d1,d2⟩:=id hso
 have lca:cas.length=cs'.length:=Paired.length c2
 have lda:das.length=ds'.length:=Paired.length d2
 refine sq_ifR (SJ ns H a t cu so dd on w pk rs F cs ds 10) (et_and (et_test (ev_eqI (ev_var rfl) ev_c)) fun _=>et_test (ev_I0 (ev_cb (v:=.int ((S.length:Nat):Int)) (ea_cons (ev_ixT (v:=.ref sh) (ev_var rfl) ev_c (SqT.of (tP bt)) rfl) ea_nil) fun Q' q'=>⟨_,_,rfl,.inl (shP bt),(by rw[enc_len];exact q')⟩) ev_c)) (fun e R hR=>?_) (fun _ R hR=>hR _ _ (J.up (by decide))) ?_
 ·rw[Bool.and_eq_true] at e
  have ew:w=9:=of_decide_eq_true e.1
  obtain⟨rfl,rfl,rfl,rfl,rfl⟩:=hu (by omega)
  have hlen:=of_decide_eq_true e.2
  refine rd_asg0 ?_
  refine⟨_,rfl,?_⟩
  refine ta_one (te_op ?_)
  refine te_cbA (vs:=[.ref sh]) (ea_cons (ev_ixT (v:=.ref sh) (ev_var rfl) ev_c (SqT.of (tP bt)) rfl) ea_nil) ?_
  refine⟨sh,_,S.map fun p=>sN (Rz ns:Nat) (Cz ns:Nat) p.1,rfl,shP bt,encKeys _ _ _,keys_ne _,by rw[List.length_map];have:=pf.tS.few;omega,fun L bs es nL hbs hp _=>?_⟩
  have t1:Same H1 (upd H1 L (.lst (bs.map V.ref))):=(Same.refl H1).upd nL
  have y1:upd H1 L (.lst (bs.map V.ref)) L=some (.lst (bs.map V.ref)):=upd_same
  have hbs1:=tups_mono hbs fun b xs z=>t1 _ _ z
  revert t1 y1 hbs1
  generalize upd H1 L (.lst (bs.map V.ref))=H3
  intro t1 y1 hbs1
  have lbs:bs.length=S.length:=by rw[Paired.length hbs,hp.length_eq,List.length_map]
  have bt3:=bt.same t1
  obtain⟨b,i,hb,at_⟩:=pkE (as:=bs) (by omega)
  obtain⟨c,hc,hbc⟩:=tups_at hbs1 hb
  obtain⟨p0,_,rfl⟩:=List.mem_map.mp (hp.mem_iff.mp (List.mem_of_getElem? hc))
  rw[lbs] at at_
  refine te_use (ev_I (ev_var rfl) (ev_cb (v:=.int ((S.length:Nat):Int)) (ea_cons (ev_ixT (v:=.ref sh) (ev_var rfl) ev_c (SqT.of (tP bt3)) rfl) ea_nil) fun Q' q'=>⟨_,_,rfl,.inl (shP bt3),(by rw[enc_len];exact q')⟩) (by show(0:Int)<((S.length:Nat):Int);omega)) ?_
  refine⟨L,_,_,_,rfl,rfl,SqL.of y1,at_,?_⟩
  refine⟨so,b,ds,_,_,_,rfl,hso.same t1,p4,by omega,hbc,fun H2 l' ds2 s2 hl' p' len'=>?_⟩
  exact hR _ _ ⟨cu,l',cs,ds2,F,x7,x8,rfl,bt3.same s2,hcu.same (t1.trans s2),hl',p3,p',lc,by omega,s2 _ _ (t1 _ _ hdd),hT,hv,ho,fun z=>absurd z (by omega)⟩
 rintro σ1 H1 J
 obtain⟨cu',so',cs',ds',F',x7,x8,rfl,bt,hcu,hso,p3,p4,lc,ld,hdd,hT,hv,ho,hu⟩:=id J
 obtain⟨cas,c1,c2⟩:=id hcu
 obtain⟨das,d1,d2⟩:=id hso
 have lca:cas.length=cs'.length:=Paired.length c2
 have lda:das.length=ds'.length:=Paired.length d2
 refine sq_ifR (SJ ns H a t cu so dd on w pk rs F cs ds 11) (et_and (et_test (ev_eqI (ev_var rfl) ev_c)) fun _=>et_test (ev_I0 (ev_cb (v:=.int ((cas.length:Nat):Int)) (ea_cons (ev_var rfl) ea_nil) fun Q' q'=>⟨_,_,rfl,.inl ⟨_,SqL.of c1,(by rw[List.length_map])⟩,q'⟩) ev_c)) (fun e R hR=>?_) (fun _ R hR=>hR _ _ (J.up (by decide))) ?_
 ·rw[Bool.and_eq_true] at e
  have ew:w=10:=of_decide_eq_true e.1
  obtain⟨rfl,rfl,rfl,rfl,rfl⟩:=hu (by omega)
  have hlen:=of_decide_eq_true e.2
  refine rd_asg0 ⟨_,rfl,cu,_,rfl,SqL.of c1,fun rv nrv=>?_⟩
  have t1:Same H1 (upd H1 rv (.lst (cas.map V.ref).reverse)):=(Same.refl H1).upd nrv
  exact hR _ _ ⟨rv,so,cs.reverse,ds,F,x7,x8,rfl,bt.same t1,⟨cas.reverse,by rw[upd_same,List.map_reverse],tups_rev (tups_mono c2 fun b xs z=>t1 _ _ z)⟩,hso.same t1,p3.sub (fun c hc=>List.mem_reverse.mp hc),p4,by rw[List.length_reverse];exact lc,ld,t1 _ _ hdd,hT,hv,ho,fun z=>absurd z (by omega)⟩
 rintro σ1 H1 J
 obtain⟨cu',so',cs',ds',F',x7,x8,rfl,bt,hcu,hso,p3,p4,lc,ld,hdd,hT,hv,ho,hu⟩:=id J
 obtain⟨cas,c1,c2⟩:=id hcu
 obtain⟨das,d1,d2⟩:=id hso
 have lca:cas.length=cs'.length:=Paired.length c2
 have lda:das.length=ds'.length:=Paired.length d2
 refine sq_ifR (SJ ns H a t cu so dd on w pk rs F cs ds 12) (et_test (ev_eqI (ev_var rfl) ev_c)) (fun e R hR=>?_) (fun _ R hR=>hR _ _ (J.up (by decide))) ?_
 ·skip
  have ew:w=11:=of_decide_eq_true e
  obtain⟨rfl,rfl,rfl,rfl,rfl⟩:=hu (by omega)
  have fp:0<F.length:=by
   obtain⟨j,hj⟩:=pf.at0
   exact List.length_pos_of_mem (List.mem_map.mp hj).choose_spec.1
  refine te_use (ev_ixT (v:=.ref dd) (ev_var rfl) ev_c (SqT.of (tP bt)) rfl) ?_
  refine⟨.inr (.inr (.inl ⟨rfl,.inr ⟨_,hdd⟩⟩)),?_⟩
  refine ta_one (te_op ?_)
  refine te_cbA (vs:=[.ref dd]) (ea_cons (ev_ixT (v:=.ref dd) (ev_var rfl) ev_c (SqT.of (tP bt)) rfl) ea_nil) ?_
  refine⟨dd,_,F.map fun p=>sN (Rz ns:Nat) (Cz ns:Nat) p.1,rfl,hdd,encKeys _ _ _,keys_ne _,by rw[List.length_map];have:=hT.few;omega,fun L bs es nL hbs hp _=>?_⟩
  have t1:Same H1 (upd H1 L (.lst (bs.map V.ref))):=(Same.refl H1).upd nL
  have y1:upd H1 L (.lst (bs.map V.ref)) L=some (.lst (bs.map V.ref)):=upd_same
  have hbs1:=tups_mono hbs fun b xs z=>t1 _ _ z
  revert t1 y1 hbs1
  generalize upd H1 L (.lst (bs.map V.ref))=H3
  intro t1 y1 hbs1
  have lbs:bs.length=F.length:=by rw[Paired.length hbs,hp.length_eq,List.length_map]
  have bt3:=bt.same t1
  obtain⟨b,i,hb,at_⟩:=pkE (as:=bs) (by omega)
  obtain⟨c,hc,hbc⟩:=tups_at hbs1 hb
  obtain⟨p0,hp0,rfl⟩:=List.mem_map.mp (hp.mem_iff.mp (List.mem_of_getElem? hc))
  rw[lbs] at at_
  refine te_use (ev_I (ev_var rfl) (ev_cb (v:=.int ((F.length:Nat):Int)) (ea_cons (ev_ixT (v:=.ref dd) (ev_var rfl) ev_c (SqT.of (tP bt3)) rfl) ea_nil) fun Q' q'=>⟨_,_,rfl,.inl (t1 _ _ hdd),(by rw[enc_len];exact q')⟩) (by show(0:Int)<((F.length:Nat):Int);omega)) ?_
  refine⟨L,_,_,_,rfl,rfl,SqL.of y1,at_,?_⟩
  obtain⟨v,ev⟩:∃v,valV F p0.1=some v:=Option.isSome_iff_exists.mp (val_key.mpr (List.mem_map_of_mem hp0))
  refine⟨dd,b,_,iK (sN (Rz ns:Nat) (Cz ns:Nat) p0.1),v,rfl,rfl,t1 _ _ hdd,iK_at hbc,by rw[val_enc Z];exact ev,?_⟩
  have sub:∀p∈delK F p0.1,p∈F:=fun p hp=>(List.mem_filter.mp hp).1
  exact hR _ _ ⟨cu,so,cs,ds,delK F p0.1,x7,x8,rfl,bt3.set (by simp),⟨cas,by rw[upd_ne (ne_of (t1 _ _ c1) (t1 _ _ hdd) (fun z=>nomatch z))];exact t1 _ _ c1,tups_mono (tups_mono c2 fun b xs z=>t1 _ _ z) fun b xs z=>by rw[upd_ne (ne_of z (t1 _ _ hdd) (fun y=>nomatch y))];exact z⟩,⟨das,by rw[upd_ne (ne_of (t1 _ _ d1) (t1 _ _ hdd) (fun z=>nomatch z))];exact t1 _ _ d1,tups_mono (tups_mono d2 fun b xs z=>t1 _ _ z) fun b xs z=>by rw[upd_ne (ne_of z (t1 _ _ hdd) (fun y=>nomatch y))];exact z⟩,p3,p4,lc,ld,by rw[upd_same,del_enc Z],⟨hT.nd.sublist (List.Sublist.map _ List.filter_sublist),fun p hp=>hT.lt p (sub p hp)⟩,fun p hp=>hv p (sub p hp),fun p hp=>ho p (sub p hp),fun z=>absurd z (by omega)⟩
 rintro σ1 H1 J
 obtain⟨cu',so',cs',ds',F',x7,x8,rfl,bt,hcu,hso,p3,p4,lc,ld,hdd,hT,hv,ho,hu⟩:=id J
 obtain⟨cas,c1,c2⟩:=id hcu
 obtain⟨das,d1,d2⟩:=id hso
 have lca:cas.length=cs'.length:=Paired.length c2
 have lda:das.length=ds'.length:=Paired.length d2
 refine sq_lcG ?_
 refine te_cbA (vs:=[.ref sh]) (ea_cons (ev_ixT (v:=.ref sh) (ev_var rfl) ev_c (SqT.of (tP bt)) rfl) ea_nil) ?_
 refine⟨sh,_,S.map fun p=>sN (Rz ns:Nat) (Cz ns:Nat) p.1,rfl,shP bt,encKeys _ _ _,keys_ne _,by rw[List.length_map];have:=pf.tS.few;omega,fun L bs es nL hbs hp _=>?_⟩
 have t1:Same H1 (upd H1 L (.lst (bs.map V.ref))):=(Same.refl H1).upd nL
 have y1:upd H1 L (.lst (bs.map V.ref)) L=some (.lst (bs.map V.ref)):=upd_same
 have hbs1:=tups_mono hbs fun b xs z=>t1 _ _ z
 revert t1 y1 hbs1
 generalize upd H1 L (.lst (bs.map V.ref))=H3
 intro t1 y1 hbs1
 have lbs:bs.length=S.length:=by rw[Paired.length hbs,hp.length_eq,List.length_map]
 have bt3:=bt.same t1
 refine⟨L,rfl,⟨_,SqL.of y1⟩,fun D nD=>?_⟩
 refine lc_pick (K:=K) (fun c=>!decide (c∈rs.map (sN (Rz ns:Nat) (Cz ns:Nat)))) [some (.ref t)] nD (SqL.of y1) (fun H' s=>SqL.of (s _ _ y1)) hbs1 (by have:=pf.tS.few;omega) (fun b c H' _ e s=>?_) fun H4 ba t2 hD hba=>?_
 ·obtain⟨ras,r1,r2⟩:=roP (bt3.same s)
  exact et_test (ev_notinT (c:=c) (ev_var rfl) (ev_ixT (v:=.ref ro) (ev_var rfl) ev_c (SqT.of (tP (bt3.same s))) rfl) (s _ _ e) (SqL.of r1) r2)
 have t12:=t1.trans t2
 have bt4:=bt.same t12
 have J4:SJ ns H a t cu so dd on w pk rs F cs ds 12 [some (.ref a),some (.ref t),some (.ref cu'),some (.ref so'),some (.int w),some (.int pk),some (.ref on),some (.ref D),x8] H4:=⟨cu',so',cs',ds',F',some (.ref D),x8,rfl,bt4,hcu.same t12,hso.same t12,p3,p4,lc,ld,t12 _ _ hdd,hT,hv,ho,hu⟩
 have lba:ba.length≤S.length:=by rw[Paired.length hba,←lbs,Paired.length hbs];exact List.length_filter_le _ _
 refine sq_ifR (SJ ns H a t cu so dd on w pk rs F cs ds 13) (et_and (et_test (ev_eqI (ev_var rfl) ev_c)) fun _=>et_test (ev_I0 (ev_cb (v:=.int ((ba.length:Nat):Int)) (ea_cons (ev_var rfl) ea_nil) fun Q' q'=>⟨_,_,rfl,.inl ⟨_,SqL.of hD,(by rw[List.length_map])⟩,q'⟩) ev_c)) (fun e R hR=>?_) (fun _ R hR=>hR _ _ (J4.up (by decide))) ?_
 ·rw[Bool.and_eq_true] at e
  have ew:w=12:=of_decide_eq_true e.1
  have hlen:=of_decide_eq_true e.2
  obtain⟨rfl,rfl,rfl,rfl,rfl⟩:=hu (by omega)
  obtain⟨b,i,hb,at_⟩:=pkE (as:=ba) (by omega)
  obtain⟨c,hc,hbc⟩:=tups_at hba hb
  have hcf:=List.mem_filter.mp (List.mem_of_getElem? hc)
  obtain⟨p0,hp0,rfl⟩:=List.mem_map.mp (hp.mem_iff.mp hcf.1)
  have hno:p0.1∉rs:=fun z=>by
   have:=hcf.2
   rw[decide_eq_true (List.mem_map_of_mem z)] at this
   cases this
  have few:=hT.few
  refine rd_dput ev_c (ev_ixT (v:=.ref dd) (ev_var rfl) ev_c (SqT.of (tP bt4)) rfl) (ev_ixL (v:=.ref b) (ev_var rfl) (ev_I (ev_var rfl) (ev_cb (v:=.int ((ba.length:Nat):Int)) (ea_cons (ev_var rfl) ea_nil) fun Q' q'=>⟨_,_,rfl,.inl ⟨_,SqL.of hD,(by rw[List.length_map])⟩,q'⟩) (by show(0:Int)<((ba.length:Nat):Int);omega)) (SqL.of hD) at_) (DPut.t (k:=iK (sN (Rz ns:Nat) (Cz ns:Nat) p0.1)) (t12 _ _ hdd) (iK_at hbc) (by rw[enc_len];omega)) ?_
  have kd:∀b xs,H4 b=some (.tup xs)→upd H4 dd (.dT (putK (enc (Rz ns:Nat) (Cz ns:Nat) F) (iK (sN (Rz ns:Nat) (Cz ns:Nat) p0.1)) (.bl true))) b=some (.tup xs):=fun b xs z=>by rw[upd_ne (ne_of z (t12 _ _ hdd) (fun y=>nomatch y))];exact z
  refine hR _ _ ⟨cu,so,cs,ds,putK F p0.1 (.bl true),some (.ref D),x8,rfl,bt4.set (by simp),⟨cas,by rw[upd_ne (ne_of (t12 _ _ c1) (t12 _ _ hdd) (fun z=>nomatch z))];exact t12 _ _ c1,tups_mono (tups_mono c2 fun b xs z=>t12 _ _ z) kd⟩,⟨das,by rw[upd_ne (ne_of (t12 _ _ d1) (t12 _ _ hdd) (fun z=>nomatch z))];exact t12 _ _ d1,tups_mono (tups_mono d2 fun b xs z=>t12 _ _ z) kd⟩,p3,p4,lc,ld,by rw[upd_same,put_enc Z],hT.put (pf.tS.lt p0 hp0),fun p hp=>(put_val hp).elim (hv p) fun e=>by rw[e],fun p hp=>(put_val hp).elim (ho p) fun e=>by rw[e];exact hno,fun z=>absurd z (by omega)⟩
 rintro σ1 H1 J
 obtain⟨cu',so',cs',ds',F',x7,x8,rfl,bt,hcu,hso,p3,p4,lc,ld,hdd,hT,hv,ho,hu⟩:=id J
 obtain⟨cas,c1,c2⟩:=id hcu
 obtain⟨das,d1,d2⟩:=id hso
 have lca:cas.length=cs'.length:=Paired.length c2
 have lda:das.length=ds'.length:=Paired.length d2
 refine sq_ifR (SJ ns H a t cu so dd on w pk rs F cs ds 14) (et_and (et_test (ev_eqI (ev_var rfl) ev_c)) fun _=>et_test (ev_I0 (ev_cb (v:=.int ((cas.length:Nat):Int)) (ea_cons (ev_var rfl) ea_nil) fun Q' q'=>⟨_,_,rfl,.inl ⟨_,SqL.of c1,(by rw[List.length_map])⟩,q'⟩) ev_c)) (fun e R hR=>?_) (fun _ R hR=>hR _ _ (J.up (by decide))) ?_
 ·rw[Bool.and_eq_true] at e
  have ew:w=13:=of_decide_eq_true e.1
  obtain⟨rfl,rfl,rfl,rfl,rfl⟩:=hu (by omega)
  have hlen:=of_decide_eq_true e.2
  refine rd_asg0 ⟨_,rfl,_,rfl,_,rfl,_,rfl,cu,_,rfl,SqL.of c1,fun l1 n1=>?_⟩
  rw[cut_last (by rw[List.length_map];omega),List.length_map,←List.map_drop]
  refine⟨cu,l1,_,_,rfl,rfl,by rw[upd_ne (ne_of_none c1 n1)];exact c1,upd_same,by rw[List.length_map,List.length_map,List.length_drop];omega,fun l2 n2=>?_⟩
  have t1:Same H1 (upd (upd H1 l1 (.lst ((cas.drop (cas.length - 1)).map V.ref))) l2 (.lst (cas.map V.ref++(cas.drop (cas.length - 1)).map V.ref))):=((Same.refl H1).upd n1).upd n2
  exact hR _ _ ⟨l2,so,cs++cs.drop (cas.length - 1),ds,F,x7,x8,rfl,bt.same t1,⟨cas++cas.drop (cas.length - 1),by rw[upd_same,List.map_append],tups_mono (tups_app c2 (tups_drop c2 _)) fun b xs z=>t1 _ _ z⟩,hso.same t1,p3.app (p3.sub fun c hc=>List.mem_of_mem_drop hc),p4,by rw[List.length_append,List.length_drop];omega,ld,t1 _ _ hdd,hT,hv,ho,fun z=>absurd z (by omega)⟩
 rintro σ1 H1 J
 obtain⟨cu',so',cs',ds',F',x7,x8,rfl,bt,hcu,hso,p3,p4,lc,ld,hdd,hT,hv,ho,hu⟩:=id J
 obtain⟨cas,c1,c2⟩:=id hcu
 obtain⟨das,d1,d2⟩:=id hso
 have lca:cas.length=cs'.length:=Paired.length c2
 have lda:das.length=ds'.length:=Paired.length d2
 refine sq_asgH fun Rh hRh=>?_
 refine te_op (te_lstA ?_)
 refine ta_tup (vs:=[.int ox,.int oy,.int ((Cz ns:Nat):Int)]) (ea_cons (ev_ixT (v:=.int ox) (ev_var rfl) ev_c (SqT.of (onH bt)) rfl) (ea_cons (ev_ixT (v:=.int oy) (ev_var rfl) ev_c (SqT.of (onH bt)) rfl) (ea_cons (ev_ixT (v:=.int ((Cz ns:Nat):Int)) (ev_var rfl) ev_c (SqT.of (tP bt)) rfl) ea_nil))) (by show 3≤sizeLine;decide) fun A1 nA1=>?_
 have t1:Same H1 (upd H1 A1 (.tup [.int ox,.int oy,.int ((Cz ns:Nat):Int)])):=(Same.refl H1).upd nA1
 have y1:upd H1 A1 (.tup [.int ox,.int oy,.int ((Cz ns:Nat):Int)]) A1=some (.tup (([ox,oy,((Cz ns:Nat):Int)]:T3).map V.int)):=upd_same
 revert t1 y1
 generalize upd H1 A1 (.tup [.int ox,.int oy,.int ((Cz ns:Nat):Int)])=H2
 intro t1 y1
 have bt2:=bt.same t1
 refine ta_tup (vs:=[.int ox,.int 9,.int oz]) (ea_cons (ev_ixT (v:=.int ox) (ev_var rfl) ev_c (SqT.of (onH bt2)) rfl) (ea_cons ev_c (ea_cons (ev_ixT (v:=.int oz) (ev_var rfl) ev_c (SqT.of (onH bt2)) rfl) ea_nil))) (by show 3≤sizeLine;decide) fun A2 nA2=>?_
 have t2:Same H2 (upd H2 A2 (.tup [.int ox,.int 9,.int oz])):=(Same.refl H2).upd nA2
 have y2:upd H2 A2 (.tup [.int ox,.int 9,.int oz]) A2=some (.tup (([ox,9,oz]:T3).map V.int)):=upd_same
 revert t2 y2
 generalize upd H2 A2 (.tup [.int ox,.int 9,.int oz])=H3
 intro t2 y2
 have bt3:=bt2.same t2
 refine ta_tup (vs:=[.int 4,.int oy,.int oz]) (ea_cons ev_c (ea_cons (ev_ixT (v:=.int oy) (ev_var rfl) ev_c (SqT.of (onH bt3)) rfl) (ea_cons (ev_ixT (v:=.int oz) (ev_var rfl) ev_c (SqT.of (onH bt3)) rfl) ea_nil))) (by show 3≤sizeLine;decide) fun A3 nA3=>?_
 have t3:Same H3 (upd H3 A3 (.tup [.int 4,.int oy,.int oz])):=(Same.refl H3).upd nA3
 have y3:upd H3 A3 (.tup [.int 4,.int oy,.int oz]) A3=some (.tup (([4,oy,oz]:T3).map V.int)):=upd_same
 revert t3 y3
 generalize upd H3 A3 (.tup [.int 4,.int oy,.int oz])=H4
 intro t3 y3
 have bt4:=bt3.same t3
 refine ta_tup (vs:=[.int ox,.int oy,.int 1000000000]) (ea_cons (ev_ixT (v:=.int ox) (ev_var rfl) ev_c (SqT.of (onH bt4)) rfl) (ea_cons (ev_ixT (v:=.int oy) (ev_var rfl) ev_c (SqT.of (onH bt4)) rfl) (ea_cons (ev_I ev_c ev_c (cpw (by decide) (by decide) (by decide))) ea_nil))) (by show 3≤sizeLine;decide) fun A4 nA4=>?_
 have t4:Same H4 (upd H4 A4 (.tup [.int ox,.int oy,.int 1000000000])):=(Same.refl H4).upd nA4
 have y4:upd H4 A4 (.tup [.int ox,.int oy,.int 1000000000]) A4=some (.tup (([ox,oy,1000000000]:T3).map V.int)):=upd_same
 revert t4 y4
 generalize upd H4 A4 (.tup [.int ox,.int oy,.int 1000000000])=H5
 intro t4 y4
 have bt5:=bt4.same t4
 refine⟨(by show 4≤sizeLine;decide),fun L nL=>?_⟩
 have t5:Same H5 (upd H5 L (.lst [.ref A1,.ref A2,.ref A3,.ref A4])):=(Same.refl H5).upd nL
 have y5:upd H5 L (.lst [.ref A1,.ref A2,.ref A3,.ref A4]) L=some (.lst [.ref A1,.ref A2,.ref A3,.ref A4]):=upd_same
 revert t5 y5
 generalize upd H5 L (.lst [.ref A1,.ref A2,.ref A3,.ref A4])=H6
 intro t5 y5
 have tt:Same H1 H6:=t1.trans (t2.trans (t3.trans (t4.trans t5)))
 obtain⟨aw,u0,u1,u2,atA,yn⟩:∃(aw:Addr) (u0 u1 u2:Int),atI [V.ref A1,V.ref A2,V.ref A3,V.ref A4] (pk%4)=some (.ref aw)∧H6 aw=some (.tup ([u0,u1,u2].map V.int)):=by
  rcases show pk%4=0∨pk%4=1∨pk%4=2∨pk%4=3 by omega with e|e|e|e<;>rw[e]
  ·exact⟨A1,_,_,_,rfl,t5 _ _ (t4 _ _ (t3 _ _ (t2 _ _ y1)))⟩
  ·exact⟨A2,_,_,_,rfl,t5 _ _ (t4 _ _ (t3 _ _ y2))⟩
  ·exact⟨A3,_,_,_,rfl,t5 _ _ (t4 _ _ y3)⟩
  ·exact⟨A4,_,_,_,rfl,t5 _ _ y4⟩
 refine te_use (ev_I (ev_var rfl) ev_c (by show(0:Int)<4;decide)) ⟨L,_,_,_,rfl,rfl,SqL.of y5,atA,hRh _ _ ?_⟩
 have bt6:=bt.same tt
 have J6:SJ ns H a t cu so dd on w pk rs F cs ds 14 [some (.ref a),some (.ref t),some (.ref cu'),some (.ref so'),some (.int w),some (.int pk),some (.ref on),x7,some (.ref aw)] H6:=⟨cu',so',cs',ds',F',x7,some (.ref aw),rfl,bt6,hcu.same tt,hso.same tt,p3,p4,lc,ld,tt _ _ hdd,hT,hv,ho,hu⟩
 refine nrm (σ':=[some (.ref a),some (.ref t),some (.ref cu'),some (.ref so'),some (.int w),some (.int pk),some (.ref on),x7,some (.ref aw)]) (by kernel_rfl) ?_
 refine sq_ifR (fun σ2 H7=>SJ ns H a t cu so dd on w pk rs F cs ds 17 σ2 H7∧σ2[8]?=some (some (.ref aw))∧H7 aw=some (.tup ([u0,u1,u2].map V.int))) (et_test (ev_eqI (ev_var rfl) ev_c)) (fun e R hR=>?_) (fun _ R hR=>hR _ _ ⟨J6.up (by decide),rfl,yn⟩) ?_
 ·have ew:w=16:=of_decide_eq_true e
  obtain⟨rfl,rfl,rfl,rfl,rfl⟩:=hu (by omega)
  refine rd_asg0 (te_cal (sp:=spPut) (ea_cons (ev_var rfl) (ea_cons (ev_var rfl) ea_nil)) ⟨so,aw,ds,u0,u1,u2,rfl,hso.same tt,p4,by omega,yn,fun H2 l' ds2 s2 hl' p' len'=>?_⟩)
  exact hR _ _ ⟨⟨cu,l',cs,ds2,F,x7,some (.ref aw),rfl,bt6.same s2,hcu.same (tt.trans s2),hl',p3,p',lc,by omega,s2 _ _ (tt _ _ hdd),hT,hv,ho,fun z=>absurd z (by omega)⟩,rfl,s2 _ _ yn⟩
 rintro σ1 H1 ⟨J,e8,yn⟩
 obtain⟨cu',so',cs',ds',F',x7,x8,rfl,bt,hcu,hso,p3,p4,lc,ld,hdd,hT,hv,ho,hu⟩:=id J
 obtain⟨cas,c1,c2⟩:=id hcu
 have lca:cas.length=cs'.length:=Paired.length c2
 cases(Option.some.inj e8:x8=some (.ref aw))
 obtain⟨sas,q1,q2⟩:=stP bt
 refine sq_ifR (SJ ns H a t cu so dd on w pk rs F cs ds 18) (et_and (et_test (ev_eqI (ev_var rfl) ev_c)) fun _=>et_test (ev_I0 (ev_I0 (ev_cb (v:=.int ((cas.length:Nat):Int)) (ea_cons (ev_var rfl) ea_nil) fun Q' q'=>⟨_,_,rfl,.inl ⟨_,SqL.of c1,(by rw[List.length_map])⟩,q'⟩) ev_c) (ev_cb (v:=.int ((sas.length:Nat):Int)) (ea_cons (ev_ixT (v:=.ref st') (ev_var rfl) ev_c (SqT.of (tP bt)) rfl) ea_nil) fun Q' q'=>⟨_,_,rfl,.inl ⟨_,SqL.of q1,(by rw[List.length_map])⟩,q'⟩))) (fun e R hR=>?_) (fun _ R hR=>hR _ _ (J.up (by decide))) ?_
 ·rw[Bool.and_eq_true] at e
  have ew:w=17:=of_decide_eq_true e.1
  obtain⟨rfl,rfl,rfl,rfl,rfl⟩:=hu (by omega)
  refine rd_asg0 (te_cal (sp:=spPut) (ea_cons (ev_var rfl) (ea_cons (ev_var rfl) ea_nil)) ⟨cu,aw,cs,u0,u1,u2,rfl,hcu,p3,by omega,yn,fun H2 l' cs2 s2 hl' p' len'=>?_⟩)
  exact hR _ _ ⟨l',so,cs2,ds,F,x7,some (.ref aw),rfl,bt.same s2,hl',hso.same s2,p',p4,by omega,ld,s2 _ _ hdd,hT,hv,ho,fun z=>absurd z (by omega)⟩
 rintro σ1 H1 ⟨cu',so',cs',ds',F',x7,x8,rfl,bt,hcu,hso,p3,p4,lc,ld,hdd,hT,hv,ho,hu⟩
 refine rd_te (te_tup (vs:=[.ref cu',.ref so']) (ea_cons (ev_var rfl) (ea_cons (ev_var rfl) ea_nil)) (by show 2≤sizeLine;decide) fun t' nt'=>?_)
 have tt:Same H1 (upd H1 t' (.tup [.ref cu',.ref so'])):=(Same.refl H1).upd nt'
 exact q _ t' cu' so' cs' ds' F' (bt.same tt) upd_same (hcu.same tt) (hso.same tt) p3 p4 lc ld (tt _ _ hdd) hT hv ho
noncomputable def gOf (ns:List Int) (rs:List Nat):Gd:={L:=((Lz ns:Nat):Int),R:=((Rz ns:Nat):Int),C:=((Cz ns:Nat):Int),M:=Nz ns*Cz ns,ps:=([[1,2],[3,1]]:List T3).take (Lz ns),vs:=([2]:List Int).take (Lz ns - 1),rs:=rs,ts:=[]}
theorem gOf_ok {ns:List Int}{rs:List Nat}(h1:rs.length≤63)(h2:∀k∈rs,k<Nz ns*Cz ns):GdOk (gOf ns rs):=by
 have hL:=Lz_eq ns
 refine⟨szs36 ns,?_,m48 ns,?_,?_,?_,?_,h1,h2,Tb.nil,fun _ h=>nomatch h⟩
 ·show((Nz ns*Cz ns:Nat):Int)=_
  unfold Nz
  push_cast
  rfl
 ·show(((([[1,2],[3,1]]:List T3).take (Lz ns)).length:Nat):Int)=((Lz ns:Nat):Int)
  rw[List.length_take]
  show((min (Lz ns) 2:Nat):Int)=_
  omega
 ·intro c hc
  have:=List.mem_of_mem_take hc
  rcases List.mem_cons.mp this with rfl|h
  ·exact⟨1,2,rfl,by decide,by decide,by decide,by decide⟩
  ·rw[List.mem_singleton.mp h]
   exact⟨3,1,rfl,by decide,by decide,by decide,by decide⟩
 ·show(((([2]:List Int).take (Lz ns - 1)).length:Nat):Int)=((Lz ns:Nat):Int) - 1
  rw[List.length_take]
  show((min (Lz ns - 1) 1:Nat):Int)=_
  omega
 ·intro v hv
  rw[List.mem_singleton.mp (List.mem_of_mem_take hv)]
  decide
theorem opn_of {g:Gd}(hg:GdOk g){F:List (Nat×V)}(hT:Tb g.M F)(ho:∀p∈F,p.1∉g.rs):Opn g F:=fun c hc=>by
 have h:=hc
 unfold inF at h
 rw[val_encC,decide_eq_true_eq] at h
 obtain⟨n,hn,rfl⟩:=List.mem_map.mp h
 obtain⟨p,hp,rfl⟩:=List.mem_map.mp hn
 unfold opn
 rw[ins_N hg (hT.lt p hp)]
 unfold rkC
 rw[decide_eq_false fun z=>ho p hp ((mem_sN hg.S).mp z)]
 rfl
theorem lc_freeS {g:Gd}{F:List (Nat×V)}{d D:Addr}{o:Obj}{HF:Hp}{Q:Hp→Prop}{tt:TT}{rest:List (Option V)}{f:Nat→Bool}(hg:GdOk g)(hT:Tb g.M F)(heF:HF d=some (.frz o (.dT (enc g.R g.C F))))(nD:HF D=none)
  (ht:∀b n H',n<g.M→H' b=some (.tup ((sN g.R g.C n).map V.int))→Same HF H'→EvT tt (some (.ref b)::rest) H' (f n))
  (q:∀(H':Hp) (bs:List Addr) (ks:List Nat),Same HF H'→H' D=some (.lst (bs.map V.ref))→Tups H' bs (ks.map (sN g.R g.C))→(∀k∈ks,k<g.M)→ks.length≤g.M→(∀k∈F.map (·.1),f k=true→k∈ks)→Q H'):lcW (none::rest) (gName 0) tt (tVar 0) (Itk d o (.dT (enc g.R g.C F))) HF D Q:=by
 have hsz:sizeLine=2^24:=rfl
 have few:=hT.few
 have hm:=hg.m
 refine lc_keys (fun i τ H'=>∃(x0:Option V) (bs:List Addr) (ks:List Nat),τ=x0::rest∧Same HF H'∧H' D=some (.lst (bs.map V.ref))∧Tups H' bs (ks.map (sN g.R g.C))∧(∀k∈ks,k<g.M)∧ks.length≤i∧(∀p∈F.take i,f p.1=true→p.1∈ks))
  ⟨none,[],[],rfl,(Same.refl HF).upd nD,upd_same,.nil,(fun _ h=>nomatch h),Nat.le_refl _,(fun _ h=>nomatch h)⟩ (fun i τ H' _ ⟨_,_,_,_,s,_⟩=>s _ _ heF) ?_ ?_
 ·rintro i x v τ H' hk hi ⟨x0,bs,ks,rfl,s,hD,hbs,hlt,hl,hall⟩
  have hi:i<(enc g.R g.C F).length:=hi
  rw[enc_len] at hi
  obtain⟨y,b,hy,rfl,rfl,hb⟩:=key_num hk
  have hyM:=hT.lt y (List.mem_of_getElem? hy)
  have bl:bs.length=ks.length:=by rw[Paired.length hbs,List.length_map]
  have ev:=ht b y.1 H' hyM hb s
  refine gn (ev _ ?_)
  cases ef:f y.1 with
  |true=>
   refine iteT ⟨_,rfl,bs.map V.ref,hD,by rw[List.length_map];omega,_,bs++[b],ks++[y.1],rfl,same_at s nD,by rw[upd_same,List.map_append];rfl,?_,fun k hk=>?_,by rw[List.length_append];show ks.length+1≤_;omega,fun p hp hf=>?_⟩
   ·rw[List.map_append]
    exact tups_app (tups_mono hbs (keep_lst0 hD)) (.cons (keep_lst0 hD _ _ hb) .nil)
   ·rcases List.mem_append.mp hk with hk|hk
    ·exact hlt k hk
    ·rw[List.mem_singleton.mp hk];exact hyM
   ·rw[take_one hy] at hp
    rcases List.mem_append.mp hp with hp|hp
    ·exact List.mem_append_left _ (hall p hp hf)
    ·rw[List.mem_singleton.mp hp];exact List.mem_append_right _ List.mem_cons_self
  |false=>
   refine iteF ⟨_,bs,ks,rfl,s,hD,hbs,hlt,by omega,fun p hp hf=>?_⟩
   rw[take_one hy] at hp
   rcases List.mem_append.mp hp with hp|hp
   ·exact hall p hp hf
   ·rw[List.mem_singleton.mp hp,ef] at hf;cases hf
 ·rintro τ H' ⟨x0,bs,ks,rfl,s,hD,hbs,hlt,hl,hall⟩
  have hl:ks.length≤(enc g.R g.C F).length:=hl
  have hall:∀p∈F.take (enc g.R g.C F).length,f p.1=true→p.1∈ks:=hall
  rw[enc_len] at hl hall
  rw[List.take_length] at hall
  refine q H' bs ks s hD hbs hlt (by omega) fun k hk hf=>?_
  obtain⟨p,hp,rfl⟩:=List.mem_map.mp hk
  exact hall p hp hf
theorem te_bm0 {K:PySem.W.Frag}{T:String}{r:V→List V→Hp→VK→Prop}{to:TE}{σ:St}{H:Hp}{x:V}{Q:VK}(h:Ev to σ H x)(ht:tyV K T x H)(q:r x [] H Q):tBM0 K T r to σ H Q:=h _ ⟨ht,q⟩
theorem te_bm {K:PySem.W.Frag}{T:String}{r:V→List V→Hp→VK→Prop}{to:TE}{ta:TA}{σ:St}{H:Hp}{x:V}{Q:VK}(h:Ev to σ H x)(ht:tyV K T x H)(q:ta σ H fun xs H2=>r x xs H2 Q):tBM K T r to ta σ H Q:=h _ ⟨ht,q⟩
theorem sq_J {t u:TS}{D:Ends}{σ:St}{H:Hp}(J:St→Hp→Prop)(h:∀R:St→Hp→Prop,(∀σ H,J σ H→R σ H)→t {D with nx:=R} σ H)(k:∀σ H,J σ H→u D σ H):tSeq t u D σ H:=h _ k
theorem depth_rowT {cs:List T3}:(PyData.tuple (cs.map fun c=>PyData.tuple (c.map PyData.int))).depth≤60:=by
 have:PyData.depthAll (cs.map fun c=>PyData.tuple (c.map PyData.int))≤1:=depthAll_le fun d hd=>by
  obtain⟨c,_,rfl⟩:=List.mem_map.mp hd
  exact depth_tints c
 simp only[PyData.depth]
 omega
theorem int_keys {R C:Int}(F:List (Nat×V)):IntK (enc R C F):=fun p hp=>by
 obtain⟨x,_,rfl⟩:=List.mem_map.mp hp
 exact⟨sN R C x.1,rfl⟩
theorem sm_dict {K:PySem.W.Frag}{H:Hp}{L R C:Int}(S:Szs L R C){M:Nat}{F:List (Nat×V)}(hT:Tb M F)(hv:∀p∈F,p.2=.bl true){a b:Addr}(ne:a≠b)(ha:H a=some (.dT (enc R C F)))(hb:H b=some (.dT (enc R C F))):SmX K H (.ref a) (.ref b):=
 .inr (.inl ⟨a,b,_,_,rfl,rfl,ne,.inl ha,.inl hb,int_keys F,int_keys F,rfl,fun y hy=>⟨y.2,valV_mem (enc_nd S hT) hy,by
  obtain⟨w,hw,rfl⟩:=List.mem_map.mp hy
  exact .inl ⟨rfl,by show eqOk w.2=true;rw[hv w hw];rfl⟩⟩⟩)
theorem sm_list {K:PySem.W.Frag}{H:Hp}{a b:Addr}{cs:List T3}(ha:AtL H a cs)(hb:AtL H b cs):SmX K H (.ref a) (.ref b):=by
 obtain⟨as,h1,h2⟩:=ha
 obtain⟨bs,h3,h4⟩:=hb
 have dp:Dp K H (.ref a) (.list (cs.map fun c=>PyData.tuple (c.map PyData.int))):=.lst (SqL.of h1) (Tups.dps h2)
 exact .inr (.inr ⟨_,_,dp,.lst (SqL.of h3) (Tups.dps h4),depth_row,by have:=eqv_same dp;simpa using this⟩)
set_option maxHeartbeats 8000000 in
theorem ok_law {cThing cNet cBundle cPaper cCutPaper cFloor cMS:Addr}{f:Addr}{fd:FuncData}(F:Fun K "law" "law" slaw f fd)(T:Txt K mg cThing cNet cBundle cPaper cCutPaper cFloor cMS)(gFInit:KCalleeM P w K mg base cFloor "Floor" 3 ["self", "sizes", "prices", "vias", "rocks", "tolls"] (spFInit cFloor))(gCLaid:MCallee P w K mg base cCutPaper "is_laid" 1 ["self"] spPLaid)(gCInit:KCallee P w K mg base cCutPaper "CutPaper" 1 ["self", "cut", "spots"] (spCInit cCutPaper))(gCHolds:MCallee P w K mg base cCutPaper "holds" 6 ["self", "floor", "free", "thing"] (spCHolds cCutPaper cFloor cNet cBundle))(gCell:Callee P w K mg base "_law_cell_at" 1 ["script", "k"] (spCell K))(gPlan:Callee P w K mg base "_law_plan" 3 ["script"] (spPlan K))(gSpoilt:Callee P w K mg base "_law_spoilt" 2 ["script", "plan", "cut", "shore"] (spSpoilt K))(gLThing:Callee P w K mg base "_law_thing" 5 ["script", "starts", "goals"] (spLThing K cNet cBundle))(gLDue:Callee P w K mg base "_law_due" 3 ["cut", "shore", "doors", "thing"] (spLDue cNet cBundle)):FnOk P w K mg base CX0 7 f fd ["script"] (spLaw K):=by
 have sc:FnScope ["script", "plan", "columns", "lanes", "starts", "goals", "narrow", "rocks", "shut", "doors", "cut", "shore", "thing", "layers", "ground", "due", "fewer", "handed", "paper", "found"] ["script"] (defScope slaw):=⟨rfl,rfl,rfl,by decide+kernel,rfl,by decide+kernel,by decide+kernel⟩
 refine F.ok sc (fun vs H Q E h=>by repeat (first|(obtain⟨rfl,_⟩:=h;rfl)|(obtain⟨_,h⟩:=h))) (fun cdv A outer s H vs Q E hr h=>?_)
 obtain⟨a,ns,rfl,ha,hn63,q⟩:=h
 refine⟨_,(pss_cons (ps_set (i:=1) sc.nd rfl (Or.inl rfl) (pe_cal gPlan (hr.mono (by decide)) (by rfl) (pa_cons (pv 0) pa_nil)))
 (pss_cons (ps_asg (pe_slice sl_tup (pv 1) po_none (po_some pe_int)) (pg_tup rfl (pgs_cons (pg_name (i:=2) sc.nd rfl (Or.inl rfl)) (pgs_cons (pg_name (i:=3) sc.nd rfl (Or.inl rfl)) (pgs_cons (pg_name (i:=4) sc.nd rfl (Or.inl rfl)) (pgs_cons (pg_name (i:=5) sc.nd rfl (Or.inl rfl)) pgs_nil))))))
 (pss_cons (ps_asg (pe_slice sl_tup (pv 1) (po_some pe_int) po_none) (pg_tup rfl (pgs_cons (pg_name (i:=6) sc.nd rfl (Or.inr rfl)) (pgs_cons (pg_name (i:=7) sc.nd rfl (Or.inl rfl)) (pgs_cons (pg_name (i:=8) sc.nd rfl (Or.inl rfl)) (pgs_cons (pg_name (i:=9) sc.nd rfl (Or.inr rfl)) pgs_nil))))))
 (pss_cons (ps_lcset (i:=10) (ls:=["lane"]) (ys:=["narrow", "doors"]) (ix:=[6,9]) rfl sc.nd rfl (Or.inl rfl) ⟨rfl,by rfl,by rfl,by rfl,by rfl,rfl⟩ (pi_list (pv 3)) (fun _ _ _ _ _=>(pg_name (i:=0) (show(["lane", "narrow", "doors"]:List Str).Nodup by decide+kernel) rfl (Or.inl rfl))) (fun _ _ _ _ _=>(pf_one (pt_cmp (pc_din (by exact(Room.one hr)) (pe_op (op_catTK (K:=K) rfl) (pv 0) (pe_tup (pa_cons (pv 1) pa_nil))) (pv 2))))) (fun _ _ _ _ _=>(pe_op (op_catTK (K:=K) rfl) (pv 0) (pe_tup (pa_cons (pv 1) pa_nil)))))
 (pss_cons (ps_frz (ps_lcset (i:=11) (ls:=["spot"]) (ys:=["narrow"]) (ix:=[6]) rfl sc.nd rfl (Or.inl rfl) ⟨rfl,by rfl,by rfl,by rfl,by rfl,rfl⟩ (pi_keys (pv 9)) (fun _ _ _ _ _=>(pg_name (i:=0) (show(["spot", "narrow"]:List Str).Nodup by decide+kernel) rfl (Or.inl rfl))) (fun _ _ _ _ _=>(pf_one (pt_cmpR op_lt (pe_ix (ix_tupK (K:=K) rfl) (pv 0) pe_int (fun _ _=>rfl)) (pv 1) (nomark _)))) (fun _ _ _ _ _=>(pv 0))))
 (pss_cons (ps_asg (pe_cal gSpoilt (hr.mono (by decide)) (by rfl) (pa_cons (pv 0) (pa_cons (pv 1) (pa_cons (pv 10) (pa_cons (pv 11) pa_nil))))) (pg_tup rfl (pgs_cons (pg_name (i:=10) sc.nd rfl (Or.inl rfl)) (pgs_cons (pg_name (i:=11) sc.nd rfl (Or.inl rfl)) pgs_nil))))
 (pss_cons (ps_set (i:=12) sc.nd rfl (Or.inl rfl) (pe_cal gLThing (hr.mono (by decide)) (by rfl) (pa_cons (pv 0) (pa_cons (pv 4) (pa_cons (pv 5) pa_nil)))))
 (pss_cons (ps_set (i:=13) sc.nd rfl (Or.inl rfl) (pe_op op_add pe_int (pe_op op_mod (pe_cal gCell (hr.mono (by decide)) (by rfl) (pa_cons (pv 0) (pa_cons pe_int pa_nil))) pe_int)))
 (pss_cons (ps_set (i:=14) sc.nd rfl (Or.inl rfl) (pe_mkM1 gFInit (hr.mono (by decide)) (by rfl) (pa_cons (pe_tup (pa_cons (pv 13) (pa_cons (pe_op op_fdivB (pe_callB call_len (by rfl) T.len_ bt_len (pa_cons (pv 3) pa_nil)) (pv 13)) (pa_cons (pv 2) pa_nil)))) (pa_cons (pe_slice sl_list (pe_lst (pa_cons (pe_tup (pa_cons pe_int (pa_cons pe_int pa_nil))) (pa_cons (pe_tup (pa_cons pe_int (pa_cons pe_int pa_nil))) pa_nil))) po_none (po_some (pv 13))) (pa_cons (pe_slice sl_list (pe_lst (pa_cons pe_int pa_nil)) po_none (po_some (pe_op op_sub (pv 13) pe_int))) (pa_cons (pv 7) pa_nil))))))
 (pss_cons (ps_set (i:=15) sc.nd rfl (Or.inl rfl) (pe_cal gLDue (hr.mono (by decide)) (by rfl) (pa_cons (pv 10) (pa_cons (pv 11) (pa_cons (pv 9) (pa_cons (pv 12) pa_nil))))))
 (pss_cons (ps_set (i:=16) sc.nd rfl (Or.inl rfl) (pe_callTy call_dict (by rfl) T.dict_ bt_dict (pa_cons (pv 9) pa_nil)))
 (pss_cons (ps_if (pw_and (pt_cmpR op_gt (pe_callB call_len (by rfl) T.len_ bt_len (pa_cons (pv 11) pa_nil)) pe_int (nomark _)) (pw_and1 (pt_cmp (pc_din (Room.one hr) (pe_ix ix_list (pv 11) (pe_op op_mod (pe_cal gCell (hr.mono (by decide)) (by rfl) (pa_cons (pv 0) (pa_cons pe_int pa_nil))) (pe_callB call_len (by rfl) T.len_ bt_len (pa_cons (pv 11) pa_nil))) (fun _ _=>rfl)) (pv 16))))).pt
 (pss_one (ps_expr (pe_bm PySem.F.plainAttrs_dict PySem.F.slot_dict_pop PySem.F.type_dict_pop (mt_popT hr) (pv 16) (pa_cons (pe_ix ix_list (pv 11) (pe_op op_mod (pe_cal gCell (hr.mono (by decide)) (by rfl) (pa_cons (pv 0) (pa_cons pe_int pa_nil))) (pe_callB call_len (by rfl) T.len_ bt_len (pa_cons (pv 11) pa_nil))) (fun _ _=>rfl)) pa_nil))))
 pss_nil)
 (pss_cons (ps_set (i:=17) sc.nd rfl (Or.inl rfl) (pe_lst (pa_cons (pe_callTy call_list_of (by rfl) T.list_ bt_list (pa_cons (pv 10) pa_nil)) (pa_cons (pe_callTy call_list_of (by rfl) T.list_ bt_list (pa_cons (pv 11) pa_nil)) (pa_cons (pe_callTy call_dict (by rfl) T.dict_ bt_dict (pa_cons (pv 9) pa_nil)) pa_nil)))))
 (pss_cons (ps_set (i:=18) sc.nd rfl (Or.inl rfl) (pe_mk gCInit (hr.mono (by decide)) (by rfl) (pa_cons (pe_ix ix_list (pv 17) pe_int (fun _ _=>rfl)) (pa_cons (pe_ix ix_list (pv 17) pe_int (fun _ _=>rfl)) pa_nil))))
 (pss_cons (ps_set (i:=19) sc.nd rfl (Or.inl rfl) (pe_met (pv 18) T.cl_CutPaper gCHolds (hr.mono (by decide)) (pa_cons (pv 14) (pa_cons (pe_ix ix_list (pv 17) pe_int (fun _ _=>rfl)) (pa_cons (pv 12) pa_nil)))))
 (pss_cons (ps_if (pw_or (pt_cmpR (op_neXL hr) (pv 17) (pe_lst (pa_cons (pv 10) (pa_cons (pv 11) (pa_cons (pv 9) pa_nil)))) (nomark _)) (pw_or (pt_not (pt_val (pe_callB call_isinst (by rfl) T.isinstance_ bt_isinstance (pa_cons (pv 19) (pa_cons (pe_bltn (v:=.ty "bool") (by rfl) T.bool_ bt_bool (by rfl)) pa_nil))))) (pw_or1 (pt_cmpR op_ne (pv 19) (pv 15) (nomark _))))).pt
 (pss_one (ps_ret pe_bl))
 pss_nil)
 (pss_cons (ps_expr (pe_bm0 PySem.F.plainAttrs_list PySem.F.slot_list_clear PySem.F.type_list_clear mt_clear (pe_ix ix_list (pv 17) pe_int (fun _ _=>rfl))))
 (pss_cons (ps_expr (pe_bm PySem.F.plainAttrs_list PySem.F.slot_list_append PySem.F.type_list_append mt_append (pe_ix ix_list (pv 17) pe_int (fun _ _=>rfl)) (pa_cons (pe_tup (pa_cons pe_int (pa_cons pe_int (pa_cons pe_int pa_nil)))) pa_nil)))
 (pss_cons (ps_if (pw_or (pt_not (pt_val (pe_callB call_isinst (by rfl) T.isinstance_ bt_isinstance (pa_cons (pv 18) (pa_cons (pe_globC (by rfl) T.mg_Paper) pa_nil))))) (pw_or1 (pt_cmpR op_isnot_bl (pe_met0 (pv 18) T.cl_CutPaper gCLaid (hr.mono (by decide))) pe_bl (nomark _)))).pt
 (pss_one (ps_ret pe_bl))
 pss_nil)
 (pss_cons (ps_if (pw_or (pt_cmpR (op_neD hr) (pe_fld (pv 18) rfl) (pe_callTy call_tuple_of (by rfl) T.tuple_ bt_tuple (pa_cons (pv 10) pa_nil)) (nomark _)) (pw_or1 (pt_cmpR (op_neD hr) (pe_fld (pv 18) rfl) (pe_callTy call_tuple_of (by rfl) T.tuple_ bt_tuple (pa_cons (pv 11) pa_nil)) (nomark _)))).pt
 (pss_one (ps_ret pe_bl))
 pss_nil)
 (pss_cons (ps_if (pt_cmpR op_ne (pe_met (pv 18) T.cl_CutPaper gCHolds (hr.mono (by decide)) (pa_cons (pv 14) (pa_cons (pv 16) (pa_cons (pv 12) pa_nil)))) (pe_cal gLDue (hr.mono (by decide)) (by rfl) (pa_cons (pv 10) (pa_cons (pv 11) (pa_cons (pv 16) (pa_cons (pv 12) pa_nil))))) (nomark _))
 (pss_one (ps_ret pe_bl))
 pss_nil)
 (pss_one (ps_ret (pe_cmpR op_eq (pe_met (pv 18) T.cl_CutPaper gCHolds (hr.mono (by decide)) (pa_cons (pv 14) (pa_cons (pv 9) (pa_cons (pv 12) pa_nil)))) (pv 15) (nomark _))))))))))))))))))))))))),?_⟩
 have hsz:sizeLine=2^24:=rfl
 have hL:=Lz_eq ns
 have hC:=Cz_eq ns
 have hN:=Nz_eq ns
 have Z:=szs36 ns
 have M48:=m48 ns
 refine sq_asgH fun Rh hRh=>te_cal (sp:=spPlan K) (ea_cons (ev_var rfl) ea_nil) ⟨a,ns,rfl,ha,hn63,fun H1 t la st' go ro sh dd nw ss gs rs F S s1 pa pf ndd=>hRh _ _ ?_⟩
 have hC2:=pf.n2
 refine nrm (σ':=[some (.ref a),some (.ref t),none,none,none,none,none,none,none,none,none,none,none,none,none,none,none,none,none,none]) (by kernel_rfl) ?_
 refine sq_hide fun Rh hRh=>?_
 refine⟨_,rfl,_,rfl,t,_,rfl,SqT.of pa.ft,(fun z=>absurd z.2 (by show¬HT.sIx 8 8 (some 4)=8;decide)),fun t1 n1=>?_⟩
 rw[show cutV [V.int (Cz ns:Nat),.ref la,.ref st',.ref go,.int (nw:Nat),.ref ro,.ref sh,.ref dd] none (some 4)=[.int (Cz ns:Nat),.ref la,.ref st',.ref go] from rfl]
 have s2':Same H1 (upd H1 t1 (.tup [.int (Cz ns:Nat),.ref la,.ref st',.ref go])):=(Same.refl H1).upd n1
 refine⟨t1,[.int (Cz ns:Nat),.ref la,.ref st',.ref go],rfl,SqT.of upd_same,rfl,_,_,rfl,_,_,rfl,_,_,rfl,_,_,rfl,rfl,hRh _ _ ?_⟩
 revert s2'
 generalize upd H1 t1 (.tup [.int (Cz ns:Nat),.ref la,.ref st',.ref go])=H2
 intro s2'
 refine nrm (σ':=[some (.ref a),some (.ref t),some (.int (Cz ns:Nat)),some (.ref la),some (.ref st'),some (.ref go),none,none,none,none,none,none,none,none,none,none,none,none,none,none]) (by kernel_rfl) ?_
 refine sq_hide fun Rh hRh=>?_
 refine⟨_,rfl,_,rfl,t,_,rfl,SqT.of (s2' _ _ pa.ft),(fun z=>absurd z.1 (by show¬HT.sIx 8 0 (some 4)=0;decide)),fun t2 n2=>?_⟩
 rw[show cutV [V.int (Cz ns:Nat),.ref la,.ref st',.ref go,.int (nw:Nat),.ref ro,.ref sh,.ref dd] (some 4) none=[.int (nw:Nat),.ref ro,.ref sh,.ref dd] from rfl]
 have s3':Same H2 (upd H2 t2 (.tup [.int (nw:Nat),.ref ro,.ref sh,.ref dd])):=(Same.refl H2).upd n2
 refine⟨t2,[.int (nw:Nat),.ref ro,.ref sh,.ref dd],rfl,SqT.of upd_same,rfl,_,_,rfl,_,_,rfl,_,_,rfl,_,_,rfl,rfl,hRh _ _ ?_⟩
 revert s3'
 generalize upd H2 t2 (.tup [.int (nw:Nat),.ref ro,.ref sh,.ref dd])=H3
 intro s3'
 have s13:=s2'.trans s3'
 have s03:=s1.trans s13
 have pa3:=pa.same s13
 refine nrm (σ':=[some (.ref a),some (.ref t),some (.int (Cz ns:Nat)),some (.ref la),some (.ref st'),some (.ref go),some (.int (nw:Nat)),some (.ref ro),some (.ref sh),some (.ref dd),none,none,none,none,none,none,none,none,none,none]) (by kernel_rfl) ?_
 obtain⟨las,l1,l2⟩:=id pa3.fla
 have ll:las.length=Nz ns:=by rw[Paired.length l2,lanes_len]
 have l2':Tups H3 las ((List.range (Nz ns)).map (lN (Rz ns))):=l2
 refine sq_hide fun Rh hRh=>?_
 refine⟨_,rfl,la,rfl,⟨_,SqL.of l1⟩,fun cu ncu=>?_⟩
 refine lc_lane (c:=Cz ns) nw (fun j=>(valV F (j*Cz ns+nw)).isSome) (by omega) ncu (fun H' s=>SqL.of (s _ _ l1)) l2' (by omega) (fun b H' _=>ev_var rfl) (fun b j H' Q' _ hb s z=>?_) fun H4 cas s4' hcu hct=>hRh _ _ ?_
 ·refine te_lane (x:=lN (Rz ns) j) (fun v=>v=(nw:Int)) (ev_var rfl) hb (fun z=>nomatch z) (by show 2≤10;decide) (fun Q' z=>te_use (ev_var rfl) (z _ rfl)) fun v p H2 hv' s2 np hp=>?_
  subst hv'
  rw[lane_sN (show nw<Cz ns by omega)] at hp
  refine te_use (ev_var rfl) ⟨dd,_,rfl,dg (x:=sN ((Rz ns:Nat):Int) ((Cz ns:Nat):Int) (j*Cz ns+nw)) (.inl (s2 _ _ (s _ _ pa3.fdd))) hp,_,rfl,?_⟩
  rw[val_enc Z]
  exact z _ s2
 have hcuA:AtL H4 cu (((List.range (Nz ns)).filter fun j=>(valV F (j*Cz ns+nw)).isSome).map fun j=>sN ((Rz ns:Nat):Int) ((Cz ns:Nat):Int) (j*Cz ns+nw)):=⟨cas,hcu,hct⟩
 obtain⟨cs,ecs,p3,z8⟩:∃cs:List T3,(((List.range (Nz ns)).filter fun j=>(valV F (j*Cz ns+nw)).isSome).map fun j=>sN ((Rz ns:Nat):Int) ((Cz ns:Nat):Int) (j*Cz ns+nw))=cs∧P3 cs∧cs.length≤8:=by
  refine⟨_,rfl,fun c hc=>?_,?_⟩
  ·obtain⟨j,_,rfl⟩:=List.mem_map.mp hc
   exact⟨_,_,_,rfl⟩
  ·rw[List.length_map]
   have:=List.length_filter_le (fun j=>(valV F (j*Cz ns+nw)).isSome) (List.range (Nz ns))
   rw[List.length_range] at this
   omega
 rw[ecs] at hcuA
 clear hct
 have s04:=s03.trans s4'
 have pa4:=pa3.same s4'
 refine nrm (σ':=[some (.ref a),some (.ref t),some (.int (Cz ns:Nat)),some (.ref la),some (.ref st'),some (.ref go),some (.int (nw:Nat)),some (.ref ro),some (.ref sh),some (.ref dd),some (.ref cu),none,none,none,none,none,none,none,none,none]) (by kernel_rfl) ?_
 refine sq_hide fun Rh hRh=>?_
 refine⟨dd,.dT (enc (Rz ns:Nat) (Cz ns:Nat) F),pa4.fdd,trivial,fun o=>?_⟩
 have hgz:=gOf_ok (ns:=ns) (rs:=rs) (by have:=pf.rl;omega) pf.rr
 have back':∀{H':Hp},Same (upd H4 dd (.frz o (.dT (enc (Rz ns:Nat) (Cz ns:Nat) F)))) H'→Same H4 (upd H' dd (.dT (enc (Rz ns:Nat) (Cz ns:Nat) F))):=fun s=>frz_back pa4.fdd s
 have heF:upd H4 dd (.frz o (.dT (enc (Rz ns:Nat) (Cz ns:Nat) F))) dd=some (.frz o (.dT (enc (Rz ns:Nat) (Cz ns:Nat) F))):=upd_same
 have nF:∀b,upd H4 dd (.frz o (.dT (enc (Rz ns:Nat) (Cz ns:Nat) F))) b=none→H4 b=none:=fun b e=>by
  by_cases z:b=dd
  ·rw[z,upd_same] at e;cases e
  ·rw[upd_ne z] at e;exact e
 revert back' heF nF
 generalize upd H4 dd (.frz o (.dT (enc (Rz ns:Nat) (Cz ns:Nat) F)))=HF
 intro back' heF nF
 refine⟨_,rfl,dd,o,.dT (enc (Rz ns:Nat) (Cz ns:Nat) F),rfl,heF,trivial,fun so nso=>?_⟩
 refine lc_freeS (g:=gOf ns rs) (f:=fun n=>decide (((n:Int)%((Cz ns:Nat):Int))<((nw:Nat):Int))) hgz pf.tF heF nso (fun b n H' hn hb s=>et_test (ev_I0 (ev_ixT (v:=.int ((n:Int)%((Cz ns:Nat):Int))) (ev_var rfl) ev_c (SqT.of hb) rfl) (ev_var rfl))) fun H5' das ks s5' hD hds hlk hks hmem=>?_
 refine⟨s5' _ _ heF,hRh _ _ ?_⟩
 have s5:=back' s5'
 have nDf:so≠dd:=fun y=>by rw[y,heF] at nso;cases nso
 have hso5:upd H5' dd (.dT (enc (Rz ns:Nat) (Cz ns:Nat) F)) so=some (.lst (das.map V.ref)):=by rw[upd_ne nDf];exact hD
 have hds5:Tups (upd H5' dd (.dT (enc (Rz ns:Nat) (Cz ns:Nat) F))) das (ks.map (sN ((Rz ns:Nat):Int) ((Cz ns:Nat):Int))):=tups_mono hds fun b xs y=>by rw[upd_ne (fun w=>by rw[w,s5' _ _ heF] at y;cases y)];exact y
 revert s5 hso5 hds5
 generalize upd H5' dd (.dT (enc (Rz ns:Nat) (Cz ns:Nat) F))=H5
 intro s5 hso5 hds5
 have hne:ks.map (sN ((Rz ns:Nat):Int) ((Cz ns:Nat):Int))≠[]:=fun z=>by
  obtain⟨j,hj⟩:=pf.at0
  have:j*Cz ns∈ks:=hmem _ hj (decide_eq_true (by
   rw[show((j*Cz ns:Nat):Int)%((Cz ns:Nat):Int)=0 by rw[Int.natCast_mul];exact Int.mul_emod_left _ _]
   have:=pf.n1
   omega))
  rw[List.map_eq_nil_iff.mp z] at this
  exact nomatch this
 have ld:das.length=ks.length:=by rw[Paired.length hds5,List.length_map]
 have s05:=s04.trans s5
 have pa5:=pa4.same s5
 have hcu5:=hcuA.same s5
 have hso5A:AtL H5 so (ks.map (sN ((Rz ns:Nat):Int) ((Cz ns:Nat):Int))):=⟨das,hso5,hds5⟩
 have nso4:=nF so nso
 have ncs:cu≠so:=ne_of_none hcu nso4
 refine nrm (σ':=[some (.ref a),some (.ref t),some (.int (Cz ns:Nat)),some (.ref la),some (.ref st'),some (.ref go),some (.int (nw:Nat)),some (.ref ro),some (.ref sh),some (.ref dd),some (.ref cu),some (.ref so),none,none,none,none,none,none,none,none]) (by kernel_rfl) ?_
 have nnl:∀{l:Addr} {o:HO},H3 l=some o→l≠cu∧l≠so:=fun e=>⟨ne_of_none e ncu,ne_of_none (s4' _ _ e) nso4⟩
 have nls:∀x∈[la,st',go,ro],x≠cu∧x≠so:=fun x hx=>by
  obtain⟨_,w0,_⟩:=pa3.fla
  obtain⟨_,w1,_⟩:=pa3.fst
  obtain⟨_,w2,_⟩:=pa3.fgo
  obtain⟨_,w3,_⟩:=pa3.fro
  rcases List.mem_cons.mp hx with rfl|hx
  ·exact nnl w0
  rcases List.mem_cons.mp hx with rfl|hx
  ·exact nnl w1
  rcases List.mem_cons.mp hx with rfl|hx
  ·exact nnl w2
  ·rw[List.mem_singleton.mp hx];exact nnl w3
 refine sq_hide fun Rh hRh=>?_
 refine te_cal (sp:=spSpoilt K) (ea_cons (ev_var rfl) (ea_cons (ev_var rfl) (ea_cons (ev_var rfl) (ea_cons (ev_var rfl) ea_nil)))) ⟨a,t,la,st',go,ro,sh,dd,cu,so,ns,nw,ss,gs,rs,F,S,cs,_,rfl,s05.seq ha,pa5,pf,hcu5,hso5A,p3,P3.nums,z8,by rw[List.length_map];exact Nat.le_trans hks M48,hne,ncs,nls,fun H6 t6 cu' so' cs' ds' F' bt h6 hcu6 hso6 p3' p4' lc' ld' hdd6 hT' hv' ho'=>?_⟩
 refine⟨t6,_,rfl,SqT.of h6,rfl,_,_,rfl,_,_,rfl,rfl,hRh _ _ ?_⟩
 have ncu0:H cu=none:=fresh_of s03 ncu
 have nso0:H so=none:=fresh_of s04 nso4
 have s06:Same H H6:=fun b o e=>bt _ _ (fun z=>by
  rcases List.mem_cons.mp z with z|z
  ·rw[z,ncu0] at e;cases e
  rcases List.mem_cons.mp z with z|z
  ·rw[z,nso0] at e;cases e
  ·rw[List.mem_singleton.mp z,ndd] at e;cases e) (s05 _ _ e)
 have lP:∀{l:Addr} {xs:List T3},AtL H3 l xs→AtL H6 l xs:=fun{l xs} ⟨as,e1,e2⟩=>by
  have k:∀b o,H3 b=some o→(∀kvs,o≠.dT kvs)→H6 b=some o:=fun b o e no=>bt _ _ (fun z=>by
   rcases List.mem_cons.mp z with z|z
   ·exact(nnl e).1 z
   rcases List.mem_cons.mp z with z|z
   ·exact(nnl e).2 z
   ·rw[List.mem_singleton.mp z,pa3.fdd] at e;exact no _ (Option.some.inj e).symm) (s5 _ _ (s4' _ _ e))
  exact⟨as,k _ _ e1 (fun _ z=>nomatch z),tups_mono e2 fun b xs e=>k _ _ e (fun _ z=>nomatch z)⟩
 have fst6:=lP pa3.fst
 have fgo6:=lP pa3.fgo
 have fro6:=lP pa3.fro
 have fla6:=lP pa3.fla
 clear bt s5 hcu5 hso5A hds5 hso5 hmem pa5 pa4 s05 s04 hcuA hcu
 refine nrm (σ':=[some (.ref a),some (.ref t),some (.int (Cz ns:Nat)),some (.ref la),some (.ref st'),some (.ref go),some (.int (nw:Nat)),some (.ref ro),some (.ref sh),some (.ref dd),some (.ref cu'),some (.ref so'),none,none,none,none,none,none,none,none]) (by kernel_rfl) ?_
 refine sq_asgH fun Rh hRh=>te_cal (sp:=spLThing K cNet cBundle) (ea_cons (ev_var rfl) (ea_cons (ev_var rfl) (ea_cons (ev_var rfl) ea_nil))) ⟨a,st',go,ns,ss,gs,rfl,s06.seq ha,fst6,fgo6,pf.s2,pf.s6,pf.g1,pf.g8,pf.nd,pf.lt,fun H7 th0 th s7 hth hsz'=>hRh _ _ ?_⟩
 have s07:=s06.trans s7
 refine nrm (σ':=[some (.ref a),some (.ref t),some (.int (Cz ns:Nat)),some (.ref la),some (.ref st'),some (.ref go),some (.int (nw:Nat)),some (.ref ro),some (.ref sh),some (.ref dd),some (.ref cu'),some (.ref so'),some (.ref th0),none,none,none,none,none,none,none]) (by kernel_rfl) ?_
 refine sq_set (v:=.int (Lz ns:Nat)) (ev_of (ev_I0 ev_c (ev_I (ev_cell 0 (ea_cons (ev_var rfl) (ea_cons ev_c ea_nil)) (s07.seq ha)) ev_c (by show(0:Int)<2;decide))) (congrArg V.int hL.1.symm)) ?_
 refine nrm (σ':=[some (.ref a),some (.ref t),some (.int (Cz ns:Nat)),some (.ref la),some (.ref st'),some (.ref go),some (.int (nw:Nat)),some (.ref ro),some (.ref sh),some (.ref dd),some (.ref cu'),some (.ref so'),some (.ref th0),some (.int (Lz ns:Nat)),none,none,none,none,none,none]) (by kernel_rfl) ?_
 obtain⟨la7,w1,w2⟩:=fla6.same s7
 have lla:la7.length=Nz ns:=by rw[Paired.length w2,lanes_len]
 have hrz:((Nz ns:Nat):Int)/((Lz ns:Nat):Int)=((Rz ns:Nat):Int):=by
  unfold Nz
  rw[Int.natCast_mul]
  exact Int.mul_ediv_cancel_left _ (by omega)
 refine sq_asgH fun Rh hRh=>?_
 refine ta_tup (vs:=[.int (Lz ns:Nat),.int (Rz ns:Nat),.int (Cz ns:Nat)]) (ea_cons (ev_var rfl) (ea_cons (ev_of (ev_I (ev_cb (v:=.int ((Nz ns:Nat):Int)) (ea_cons (ev_var rfl) ea_nil) fun Q' q'=>⟨_,_,rfl,.inl ⟨_,SqL.of w1,(by rw[List.length_map,lla])⟩,q'⟩) (ev_var rfl) (cdB (by omega) (by omega))) (congrArg V.int hrz)) (ea_cons (ev_var rfl) ea_nil))) (by show 3≤sizeLine;decide) fun z nz=>?_
 have u1:Same H7 (upd H7 z (.tup [.int (Lz ns:Nat),.int (Rz ns:Nat),.int (Cz ns:Nat)])):=(Same.refl H7).upd nz
 have y1:At3 (upd H7 z (.tup [.int (Lz ns:Nat),.int (Rz ns:Nat),.int (Cz ns:Nat)])) z (Lz ns:Nat) (Rz ns:Nat) (Cz ns:Nat):=upd_same
 revert u1 y1
 generalize upd H7 z (.tup [.int (Lz ns:Nat),.int (Rz ns:Nat),.int (Cz ns:Nat)])=H8
 intro u1 y1
 refine ta_one (te_lstA ?_)
 refine ta_tup (vs:=[.int 1,.int 2]) (ea_cons ev_c (ea_cons ev_c ea_nil)) (by show 2≤sizeLine;decide) fun T1 nT1=>?_
 have u2:Same H8 (upd H8 T1 (.tup [.int 1,.int 2])):=(Same.refl H8).upd nT1
 have y2:upd H8 T1 (.tup [.int 1,.int 2]) T1=some (.tup (([1,2]:T3).map V.int)):=upd_same
 revert u2 y2
 generalize upd H8 T1 (.tup [.int 1,.int 2])=H9
 intro u2 y2
 refine ta_tup (vs:=[.int 3,.int 1]) (ea_cons ev_c (ea_cons ev_c ea_nil)) (by show 2≤sizeLine;decide) fun T2 nT2=>?_
 have u3:Same H9 (upd H9 T2 (.tup [.int 3,.int 1])):=(Same.refl H9).upd nT2
 have y3:upd H9 T2 (.tup [.int 3,.int 1]) T2=some (.tup (([3,1]:T3).map V.int)):=upd_same
 revert u3 y3
 generalize upd H9 T2 (.tup [.int 3,.int 1])=HA
 intro u3 y3
 refine⟨(by show 2≤sizeLine;decide),fun L0 nL0=>?_⟩
 have u4:Same HA (upd HA L0 (.lst [.ref T1,.ref T2])):=(Same.refl HA).upd nL0
 have y4:upd HA L0 (.lst [.ref T1,.ref T2]) L0=some (.lst ([T1,T2].map V.ref)):=upd_same
 revert u4 y4
 generalize upd HA L0 (.lst [.ref T1,.ref T2])=HB
 intro u4 y4
 refine⟨_,rfl,_,rfl,L0,_,rfl,SqL.of y4,fun pr npr=>?_⟩
 rw[cut_to _ _ (by rw[List.length_map];show Lz ns≤2;omega),←List.map_take]
 have u5:Same HB (upd HB pr (.lst (([T1,T2].take (Lz ns)).map V.ref))):=(Same.refl HB).upd npr
 have y5:upd HB pr (.lst (([T1,T2].take (Lz ns)).map V.ref)) pr=some (.lst (([T1,T2].take (Lz ns)).map V.ref)):=upd_same
 revert u5 y5
 generalize upd HB pr (.lst (([T1,T2].take (Lz ns)).map V.ref))=HC
 intro u5 y5
 have tps:Tups HC ([T1,T2].take (Lz ns)) (([[1,2],[3,1]]:List T3).take (Lz ns)):=tups_take (.cons (u5 _ _ (u4 _ _ (u3 _ _ y2))) (.cons (u5 _ _ (u4 _ _ y3)) .nil)) _
 refine ta_one (te_lst (vs:=[.int 2]) (ea_cons ev_c ea_nil) (by show 1≤sizeLine;decide) fun L1 nL1=>?_)
 have u6:Same HC (upd HC L1 (.lst [.int 2])):=(Same.refl HC).upd nL1
 have y6:upd HC L1 (.lst [.int 2]) L1=some (.lst (([2]:List Int).map V.int)):=upd_same
 revert u6 y6
 generalize upd HC L1 (.lst [.int 2])=HD
 intro u6 y6
 refine⟨_,rfl,_,_,rfl,rfl,_,rfl,L1,_,rfl,SqL.of y6,fun vi nvi=>?_⟩
 rw[show((Lz ns:Nat):Int) - 1=((Lz ns - 1:Nat):Int) by omega,cut_to _ _ (by rw[List.length_map];show Lz ns - 1≤1;omega),←List.map_take]
 have u7:Same HD (upd HD vi (.lst ((([2]:List Int).take (Lz ns - 1)).map V.int))):=(Same.refl HD).upd nvi
 have y7:upd HD vi (.lst ((([2]:List Int).take (Lz ns - 1)).map V.int)) vi=some (.lst ((([2]:List Int).take (Lz ns - 1)).map V.int)):=upd_same
 revert u7 y7
 generalize upd HD vi (.lst ((([2]:List Int).take (Lz ns - 1)).map V.int))=HE
 intro u7 y7
 have uE:=u1.trans (u2.trans (u3.trans (u4.trans (u5.trans (u6.trans u7)))))
 refine⟨_,rfl,fun fl fdx nfl nfd nne=>?_⟩
 have sm:Same HE (upd (upd HE fdx (.own fl)) fl (.ins cFloor fdx [])):=same_make nfl nfd
 have u67:=u6.trans (u7.trans sm)
 refine⟨fl,fdx,z,pr,vi,.ref ro,.non,gOf ns rs,rfl,upd_same,hgz,sm _ _ ((u2.trans (u3.trans (u4.trans (u5.trans (u6.trans u7))))) _ _ y1),⟨_,u67 _ _ y5,tups_mono tps fun b xs e=>u67 _ _ e⟩,sm _ _ y7,.inr ⟨ro,rfl,fro6.same (s7.trans (uE.trans sm))⟩,.inl ⟨rfl,rfl⟩,fun HG pr' vi' rd' td' bF _ _ _ _ hF=>⟨rfl,hRh _ _ ?_⟩⟩
 have s7G:Same H7 HG:=uE.trans (ButP.same sm nfl bF)
 have hFT:FT cFloor HG fl (gOf ns rs):=⟨pr',vi',rd',td',hF⟩
 have s6G:=s7.trans s7G
 have s0G:=s07.trans s7G
 refine nrm (σ':=[some (.ref a),some (.ref t),some (.int (Cz ns:Nat)),some (.ref la),some (.ref st'),some (.ref go),some (.int (nw:Nat)),some (.ref ro),some (.ref sh),some (.ref dd),some (.ref cu'),some (.ref so'),some (.ref th0),some (.int (Lz ns:Nat)),some (.ref fl),none,none,none,none,none]) (by kernel_rfl) ?_
 have hO:=opn_of hgz hT' ho'
 obtain⟨bd,ebd⟩:∃bd:Bool,dueV (gOf ns rs) F' cs' ds' th=bd:=⟨_,rfl⟩
 refine sq_asgH fun Rh hRh=>te_cal (sp:=spLDue cNet cBundle) (ea_cons (ev_var rfl) (ea_cons (ev_var rfl) (ea_cons (ev_var rfl) (ea_cons (ev_var rfl) ea_nil)))) ⟨cu',so',dd,th0,gOf ns rs,F',cs',ds',th,rfl,s6G _ _ hdd6,hcu6.same s6G,hso6.same s6G,p3',p4',by omega,by omega,hth.same s7G,hsz',fun HI sI'=>hRh _ _ ?_⟩
 have s6I:=s6G.trans sI'
 have s0I:=s0G.trans sI'
 refine nrm (σ':=[some (.ref a),some (.ref t),some (.int (Cz ns:Nat)),some (.ref la),some (.ref st'),some (.ref go),some (.int (nw:Nat)),some (.ref ro),some (.ref sh),some (.ref dd),some (.ref cu'),some (.ref so'),some (.ref th0),some (.int (Lz ns:Nat)),some (.ref fl),some (.bl bd),none,none,none,none]) (by rw[ebd];kernel_rfl) ?_
 refine sq_asgH fun Rh hRh=>⟨_,rfl,dd,rfl,.inr ⟨_,.inl (s6I _ _ hdd6),hash_tb Z hgz.M hT',fun fw nfw=>hRh _ _ ?_⟩⟩
 have sK':Same HI (upd HI fw (.dT (enc (Rz ns:Nat) (Cz ns:Nat) F'))):=(Same.refl HI).upd nfw
 have hfw:upd HI fw (.dT (enc (Rz ns:Nat) (Cz ns:Nat) F')) fw=some (.dT (enc (Rz ns:Nat) (Cz ns:Nat) F')):=upd_same
 revert sK' hfw
 generalize upd HI fw (.dT (enc (Rz ns:Nat) (Cz ns:Nat) F'))=HK
 intro sK' hfw
 have s6K:=s6I.trans sK'
 refine nrm (σ':=[some (.ref a),some (.ref t),some (.int (Cz ns:Nat)),some (.ref la),some (.ref st'),some (.ref go),some (.int (nw:Nat)),some (.ref ro),some (.ref sh),some (.ref dd),some (.ref cu'),some (.ref so'),some (.ref th0),some (.int (Lz ns:Nat)),some (.ref fl),some (.bl bd),some (.ref fw),none,none,none]) (by kernel_rfl) ?_
 obtain⟨dk,dk1,dk2⟩:=hso6.same s6K
 have ldk:dk.length=ds'.length:=Paired.length dk2
 have lenS:Ev (tCB (fun xs H Q=>∃x n,xs=[x]∧LenV K x H n∧Q (.int n) H) (tCons (tVar 11) tNil)) [some (.ref a),some (.ref t),some (.int (Cz ns:Nat)),some (.ref la),some (.ref st'),some (.ref go),some (.int (nw:Nat)),some (.ref ro),some (.ref sh),some (.ref dd),some (.ref cu'),some (.ref so'),some (.ref th0),some (.int (Lz ns:Nat)),some (.ref fl),some (.bl bd),some (.ref fw),none,none,none] HK (.int ((dk.length:Nat):Int)):=ev_cb (ea_cons (ev_var rfl) ea_nil) fun Q' q'=>⟨_,_,rfl,.inl ⟨_,SqL.of dk1,(by rw[List.length_map])⟩,q'⟩
 refine sq_J (fun σ' H'=>∃F2:List (Nat×V),σ'=[some (.ref a),some (.ref t),some (.int (Cz ns:Nat)),some (.ref la),some (.ref st'),some (.ref go),some (.int (nw:Nat)),some (.ref ro),some (.ref sh),some (.ref dd),some (.ref cu'),some (.ref so'),some (.ref th0),some (.int (Lz ns:Nat)),some (.ref fl),some (.bl bd),some (.ref fw),none,none,none]∧Sb fw HK H'∧H' fw=some (.dT (enc (Rz ns:Nat) (Cz ns:Nat) F2))∧Tb (Nz ns*Cz ns) F2∧∀p∈F2,p∈F') (fun R hR=>?_) ?_
 ·refine rd_ifof (te_and (et_test (ev_I0 lenS ev_c)) (fun h=>?_) (fun _=>iteF (hR _ _ ⟨F',rfl,Sb.refl fw HK,hfw,hT',fun _ h=>h⟩)))
  have hlen:=of_decide_eq_true h
  obtain⟨b,hb1,at_⟩:=at_of (xs:=dk) (i:=cellv ns 11%((dk.length:Nat):Int)) (Int.emod_nonneg _ (by omega)) (Int.emod_lt_of_pos _ (by omega))
  obtain⟨c,hc,hbc⟩:=tups_at dk2 hb1
  have haK:=(s0I.trans sK').seq ha
  have evE:=ev_ixL (K:=K) (v:=.ref b) (ta:=tVar 11) (σ:=[some (.ref a),some (.ref t),some (.int (Cz ns:Nat)),some (.ref la),some (.ref st'),some (.ref go),some (.int (nw:Nat)),some (.ref ro),some (.ref sh),some (.ref dd),some (.ref cu'),some (.ref so'),some (.ref th0),some (.int (Lz ns:Nat)),some (.ref fl),some (.bl bd),some (.ref fw),none,none,none]) (H:=HK) (ev_var rfl) (ev_I (C:=fun _ j=>0<j) (g:=fun i j=> .int (i%j)) (ev_cell 11 (ta:=tCons (tVar 0) (tCons (tC (.int 11)) tNil)) (ea_cons (ev_var rfl) (ea_cons ev_c ea_nil)) haK) lenS (by show(0:Int)<((dk.length:Nat):Int);omega)) (SqL.of dk1) at_
  refine et_use (et_B (ev_din evE (ev_var rfl) (dg (x:=c) (.inl hfw) hbc))) ?_
  cases eS:(valV (enc (Rz ns:Nat) (Cz ns:Nat) F') (iK c)).isSome with
  |false=>exact iteF (hR _ _ ⟨F',rfl,Sb.refl fw HK,hfw,hT',fun _ h=>h⟩)
  |true=>
   obtain⟨v,ev⟩:=Option.isSome_iff_exists.mp eS
   obtain⟨n,_,rfl⟩:=in_num (g:=gOf ns rs) Z hT' (c:=c) eS
   refine iteT ⟨_,rfl,.inr (.inr (.inl ⟨rfl,.inr ⟨_,hfw⟩⟩)),?_⟩
   refine ta_ev evE ⟨fw,b,_,iK (sN (Rz ns:Nat) (Cz ns:Nat) n),v,rfl,rfl,hfw,iK_at hbc,ev,hR _ _ ⟨delK F' n,rfl,(Sb.refl fw HK).set,by rw[upd_same,del_enc Z],⟨hT'.nd.sublist (List.Sublist.map _ List.filter_sublist),fun p hp=>hT'.lt p (List.mem_filter.mp hp).1⟩,fun p hp=>(List.mem_filter.mp hp).1⟩⟩
 rintro σ1 HL ⟨F2,rfl,sbL,hfwL,hT2,hsub⟩
 have nfwI:∀{b:Addr} {o:HO},HI b=some o→b≠fw:=fun e z=>by rw[z,nfw] at e;cases e
 have sIL:Same HI HL:=fun b o e=>sbL _ _ (nfwI e) (sK' _ _ e)
 have s6L:=s6I.trans sIL
 have s0L:=s0I.trans sIL
 clear dk dk1 dk2 ldk lenS sbL
 obtain⟨cl,cl1,cl2⟩:=id (hcu6.same s6L)
 obtain⟨dl,dl1,dl2⟩:=id (hso6.same s6L)
 have lcl:cl.length=cs'.length:=Paired.length cl2
 have ldl:dl.length=ds'.length:=Paired.length dl2
 have hddL:=s6L _ _ hdd6
 refine sq_asgH fun Rh hRh=>te_lstA ?_
 refine⟨_,rfl,cu',_,rfl,.inl (SqL.of cl1),fun h0 n0=>?_⟩
 have v1:Same HL (upd HL h0 (.lst (cl.map V.ref))):=(Same.refl HL).upd n0
 have x0:upd HL h0 (.lst (cl.map V.ref)) h0=some (.lst (cl.map V.ref)):=upd_same
 revert v1 x0
 generalize upd HL h0 (.lst (cl.map V.ref))=HM
 intro v1 x0
 refine⟨_,rfl,so',_,rfl,.inl (SqL.of (v1 _ _ dl1)),fun h1 n1'=>?_⟩
 have v2:Same HM (upd HM h1 (.lst (dl.map V.ref))):=(Same.refl HM).upd n1'
 have x1:upd HM h1 (.lst (dl.map V.ref)) h1=some (.lst (dl.map V.ref)):=upd_same
 revert v2 x1
 generalize upd HM h1 (.lst (dl.map V.ref))=HN
 intro v2 x1
 refine⟨_,rfl,dd,rfl,.inr ⟨_,.inl (v2 _ _ (v1 _ _ hddL)),hash_tb Z hgz.M hT',fun h2 n2'=>?_⟩⟩
 have v3:Same HN (upd HN h2 (.dT (enc (Rz ns:Nat) (Cz ns:Nat) F'))):=(Same.refl HN).upd n2'
 have x2:upd HN h2 (.dT (enc (Rz ns:Nat) (Cz ns:Nat) F')) h2=some (.dT (enc (Rz ns:Nat) (Cz ns:Nat) F')):=upd_same
 have nh2:h2≠dd:=fun z=>by rw[z,v2 _ _ (v1 _ _ hddL)] at n2';cases n2'
 revert v3 x2
 generalize upd HN h2 (.dT (enc (Rz ns:Nat) (Cz ns:Nat) F'))=HO1
 intro v3 x2
 refine⟨(by show 3≤sizeLine;decide),fun hh nhh=>hRh _ _ ?_⟩
 have v4:Same HO1 (upd HO1 hh (.lst [.ref h0,.ref h1,.ref h2])):=(Same.refl HO1).upd nhh
 have xh:upd HO1 hh (.lst [.ref h0,.ref h1,.ref h2]) hh=some (.lst [.ref h0,.ref h1,.ref h2]):=upd_same
 revert v4 xh
 generalize upd HO1 hh (.lst [.ref h0,.ref h1,.ref h2])=HP
 intro v4 xh
 have v34:=v3.trans v4
 have v24:=v2.trans v34
 have v14:=v1.trans v24
 refine nrm (σ':=[some (.ref a),some (.ref t),some (.int (Cz ns:Nat)),some (.ref la),some (.ref st'),some (.ref go),some (.int (nw:Nat)),some (.ref ro),some (.ref sh),some (.ref dd),some (.ref cu'),some (.ref so'),some (.ref th0),some (.int (Lz ns:Nat)),some (.ref fl),some (.bl bd),some (.ref fw),some (.ref hh),none,none]) (by kernel_rfl) ?_
 refine sq_asgH fun Rh hRh=>te_make (ea_cons (ev_ixL (v:=.ref h0) (ev_var rfl) ev_c (SqL.of xh) rfl) (ea_cons (ev_ixL (v:=.ref h1) (ev_var rfl) ev_c (SqL.of xh) rfl) ea_nil)) fun pp pdx npp npd nne'=>?_
 have smp:Same HP (upd (upd HP pdx (.own pp)) pp (.ins cCutPaper pdx [])):=same_make npp npd
 refine⟨pp,pdx,h0,h1,cl,dl,rfl,upd_same,smp _ _ (v24 _ _ x0),smp _ _ (v34 _ _ x1),by omega,by omega,fun HQ tt uu bp ntt nuu hpp htt huu=>⟨rfl,hRh _ _ ?_⟩⟩
 have sPQ:Same HP HQ:=ButP.same smp npp bp
 have vQ:=v14.trans sPQ
 have s6Q:=s6L.trans vQ
 have hT1:TpL HQ tt cs':=⟨cl,htt,tups_mono cl2 fun b xs e=>vQ _ _ e⟩
 have hU1:TpL HQ uu ds':=⟨dl,huu,tups_mono dl2 fun b xs e=>vQ _ _ e⟩
 have hPp:PpA cCutPaper HQ pp cs' ds':=⟨pdx,tt,uu,hpp,hT1,hU1⟩
 refine nrm (σ':=[some (.ref a),some (.ref t),some (.int (Cz ns:Nat)),some (.ref la),some (.ref st'),some (.ref go),some (.int (nw:Nat)),some (.ref ro),some (.ref sh),some (.ref dd),some (.ref cu'),some (.ref so'),some (.ref th0),some (.int (Lz ns:Nat)),some (.ref fl),some (.bl bd),some (.ref fw),some (.ref hh),some (.ref pp),none]) (by kernel_rfl) ?_
 have x2Q:=sPQ _ _ (v4 _ _ x2)
 have sGQ:=(sI'.trans sIL).trans vQ
 have thQ:=hth.same (s7G.trans sGQ)
 have eP:∀{F0:List (Nat×V)},Tb (Nz ns*Cz ns) F0→(∀p∈F0,p∈F')→prgV (gOf ns rs) F0 cs' ds' th=dueV (gOf ns rs) F0 cs' ds' th:=fun hT0 h=>prg_due (opn_of hgz hT0 fun p hp=>ho' p (h p hp)) cs' ds' th
 refine sq_asgH fun Rh hRh=>⟨_,rfl,pp,pdx,_,rfl,hpp,lnC1,_,rfl,_,rfl,_,_,_,_,rfl,rfl,SqL.of (sPQ _ _ xh),rfl,_,rfl,pp,fl,h2,th0,gOf ns rs,F',th,cs',ds',rfl,hPp,hFT.same sGQ,hgz,x2Q,hT',thQ,hsz',p3',p4',by omega,by omega,fun HR sR=>hRh _ _ ?_⟩
 refine nrm (σ':=[some (.ref a),some (.ref t),some (.int (Cz ns:Nat)),some (.ref la),some (.ref st'),some (.ref go),some (.int (nw:Nat)),some (.ref ro),some (.ref sh),some (.ref dd),some (.ref cu'),some (.ref so'),some (.ref th0),some (.int (Lz ns:Nat)),some (.ref fl),some (.bl bd),some (.ref fw),some (.ref hh),some (.ref pp),some (.bl bd)]) (by rw[eP hT' (fun _ h=>h),ebd];kernel_rfl) ?_
 have vR:=vQ.trans sR
 have s6R:=s6L.trans vR
 have v4R:=v4.trans (sPQ.trans sR)
 refine sq_hide fun R0 hR0=>?_
 refine rd_ifof ?_
 refine⟨_,rfl,_,rfl,_,rfl,_,rfl,(by show 3≤sizeLine;decide),fun q0 nq0=>?_⟩
 have w1':Same HR (upd HR q0 (.lst [.ref cu',.ref so',.ref dd])):=(Same.refl HR).upd nq0
 have xq:upd HR q0 (.lst [.ref cu',.ref so',.ref dd]) q0=some (.lst [.ref cu',.ref so',.ref dd]):=upd_same
 revert w1' xq
 generalize upd HR q0 (.lst [.ref cu',.ref so',.ref dd])=HS
 intro w1' xq
 have s6S:=s6R.trans w1'
 have v4S:=v4R.trans w1'
 have xhS:=(sPQ.trans (sR.trans w1')) _ _ xh
 have vS:=vR.trans w1'
 refine⟨hh,q0,_,_,rfl,rfl,SqL.of xhS,SqL.of xq,rfl,fun i hi=>?_,_,rfl,iteF ?_⟩
 ·have hi:i<3:=hi
  match i,hi with
  |0,_=>exact sm_list ⟨cl,((v24.trans (sPQ.trans (sR.trans w1')))) _ _ x0,tups_mono cl2 fun b xs e=>vS _ _ e⟩ (hcu6.same s6S)
  |1,_=>exact sm_list ⟨dl,((v34.trans (sPQ.trans (sR.trans w1')))) _ _ x1,tups_mono dl2 fun b xs e=>vS _ _ e⟩ (hso6.same s6S)
  |2,_=>exact sm_dict Z hT' hv' nh2 (v4S _ _ x2) (s6S _ _ hdd6)
 refine te_or (a:=false) (et_not (et_B (ev_cb (v:=.bl true) (ea_cons (ev_var rfl) (ea_cons ev_c ea_nil)) fun Q' q'=>⟨_,_,_,_,_,rfl,.ty "bool",.bl _,T.bb,q'⟩))) rfl ?_
 refine et_use (et_test (ev_neS (ev_var rfl) (ev_var rfl) rfl)) (iteF (hR0 _ _ ?_))
 have h0S:=(v24.trans (sPQ.trans (sR.trans w1'))) _ _ x0
 have h1S:=(v34.trans (sPQ.trans (sR.trans w1'))) _ _ x1
 have n01:h0≠h1:=fun z=>by rw[←z,x0] at n1';cases n1'
 have nhh0:hh≠h0:=fun z=>by rw[z,(v2.trans v3) _ _ x0] at nhh;cases nhh
 refine sq_hide fun R1 hR1=>?_
 refine te_bm0 (ev_ixL (v:=.ref h0) (ev_var rfl) ev_c (SqL.of xhS) rfl) (.inl ⟨rfl,_,SqL.of h0S⟩) ⟨h0,_,rfl,rfl,h0S,hR1 _ _ ?_⟩
 have c0:Sb h0 HS (upd HS h0 (.lst [])):=(Sb.refl h0 HS).set
 revert c0
 generalize upd HS h0 (.lst [])=HT0
 intro c0
 refine sq_hide fun R2 hR2=>?_
 have xhT:=c0 _ _ nhh0 xhS
 have h1T:=c0 _ _ (Ne.symm n01) h1S
 refine te_bm (ev_ixL (v:=.ref h1) (ev_var rfl) ev_c (SqL.of xhT) rfl) (.inl ⟨rfl,_,SqL.of h1T⟩) ?_
 refine ta_tup (vs:=[.int 0,.int 0,.int 0]) (ea_cons ev_c (ea_cons ev_c (ea_cons ev_c ea_nil))) (by show 3≤sizeLine;decide) fun z0 nz0=>?_
 have nz1:z0≠h1:=fun z=>by rw[z,h1T] at nz0;cases nz0
 refine⟨h1,_,_,rfl,rfl,by rw[upd_ne (Ne.symm nz1)];exact h1T,by rw[List.length_map];omega,hR2 _ _ ?_⟩
 have c1:Sb h1 HT0 (upd (upd HT0 z0 (.tup [.int 0,.int 0,.int 0])) h1 (.lst (dl.map V.ref++[.ref z0]))):=(Sb.of ((Same.refl HT0).upd nz0)).set
 revert c1
 generalize upd (upd HT0 z0 (.tup [.int 0,.int 0,.int 0])) h1 (.lst (dl.map V.ref++[.ref z0]))=HX
 intro c1
 have n0L:∀{b:Addr} {o:HO},HL b=some o→b≠h0∧b≠h1:=fun e=>⟨ne_of_none e n0,ne_of_none (v1 _ _ e) n1'⟩
 have sLX:Same HL HX:=fun b o e=>c1 _ _ (n0L e).2 (c0 _ _ (n0L e).1 (vS _ _ e))
 have kT:∀{b:Addr} {o:HO},HQ b=some o→(∀xs,o≠.lst xs)→HX b=some o:=fun{b o} e no=>by
  have eS:=(sR.trans w1') _ _ e
  have nb0:b≠h0:=fun z=>by rw[z,h0S] at eS;exact no _ (Option.some.inj eS).symm
  have nb1:b≠h1:=fun z=>by rw[z,h1S] at eS;exact no _ (Option.some.inj eS).symm
  exact c1 _ _ nb1 (c0 _ _ nb0 eS)
 have hppX:=kT hpp (fun _ z=>nomatch z)
 have httX:=kT htt (fun _ z=>nomatch z)
 have huuX:=kT huu (fun _ z=>nomatch z)
 have s6X:=s6L.trans sLX
 have clX:Tups HX cl cs':=tups_mono cl2 fun b xs e=>sLX _ _ e
 have dlX:Tups HX dl ds':=tups_mono dl2 fun b xs e=>sLX _ _ e
 have hPX:PpA cCutPaper HX pp cs' ds':=⟨pdx,tt,uu,hppX,⟨cl,httX,clX⟩,⟨dl,huuX,dlX⟩⟩
 have sGX:=(sI'.trans sIL).trans sLX
 have fwX:∀H',Same HX H'→H' fw=some (.dT (enc (Rz ns:Nat) (Cz ns:Nat) F2)):=fun H' z=>z _ _ (sLX _ _ hfwL)
 clear c0 c1 kT sLX vS v4S
 refine sq_hide fun R3 hR3=>?_
 refine rd_ifof (te_or (a:=false) (et_not (et_B (ev_cb (v:=.bl true) (ea_cons (ev_var rfl) (ea_cons ev_c ea_nil)) fun Q' q'=>⟨_,_,_,_,_,rfl,.ref cPaper,.ins hppX T.cl_CutPaper T.qS T.qg T.qt T.oS,T.sp,q'⟩))) rfl ?_)
 refine⟨_,rfl,pp,pdx,_,rfl,hppX,lnC2,_,rfl,_,_,rfl,rfl,_,rfl,iteF (hR3 _ _ ?_)⟩
 obtain⟨cx,cx1,cx2⟩:=hcu6.same s6X
 obtain⟨dx',dx1,dx2⟩:=hso6.same s6X
 refine sq_hide fun R4 hR4=>?_
 refine rd_ifof ?_
 refine⟨_,rfl,pp,cCutPaper,pdx,_,_,rfl,hppX,T.cl_CutPaper,T.na_CutPaper_cut,lkC,?_⟩
 refine⟨_,rfl,cu',_,rfl,.inl ⟨SqL.of cx1,fun k1 nk1=>?_⟩⟩
 have g1:Same HX (upd HX k1 (.tup (cx.map V.ref))):=(Same.refl HX).upd nk1
 have xk1:upd HX k1 (.tup (cx.map V.ref)) k1=some (.tup (cx.map V.ref)):=upd_same
 revert g1 xk1
 generalize upd HX k1 (.tup (cx.map V.ref))=HY
 intro g1 xk1
 have dp1:Dp K HY (.ref tt) (.tuple (cs'.map fun c=>PyData.tuple (c.map PyData.int))):=.tup (SqT.of (g1 _ _ httX)) (Tups.dps (tups_mono clX fun b xs e=>g1 _ _ e))
 have dp2:Dp K HY (.ref k1) (.tuple (cs'.map fun c=>PyData.tuple (c.map PyData.int))):=.tup (SqT.of xk1) (Tups.dps (tups_mono cx2 fun b xs e=>g1 _ _ e))
 refine⟨_,_,dp1,dp2,depth_rowT,_,rfl,?_⟩
 rw[eqv_same dp1]
 refine iteF ?_
 refine⟨_,rfl,pp,cCutPaper,pdx,_,_,rfl,g1 _ _ hppX,T.cl_CutPaper,T.na_CutPaper_spots,lkU,?_⟩
 refine⟨_,rfl,so',_,rfl,.inl ⟨SqL.of (g1 _ _ dx1),fun k2 nk2=>?_⟩⟩
 have g2':Same HY (upd HY k2 (.tup (dx'.map V.ref))):=(Same.refl HY).upd nk2
 have xk2:upd HY k2 (.tup (dx'.map V.ref)) k2=some (.tup (dx'.map V.ref)):=upd_same
 revert g2' xk2
 generalize upd HY k2 (.tup (dx'.map V.ref))=HZ
 intro g2' xk2
 have g2:=g1.trans g2'
 have dq1:Dp K HZ (.ref uu) (.tuple (ds'.map fun c=>PyData.tuple (c.map PyData.int))):=.tup (SqT.of (g2 _ _ huuX)) (Tups.dps (tups_mono dlX fun b xs e=>g2 _ _ e))
 have dq2:Dp K HZ (.ref k2) (.tuple (ds'.map fun c=>PyData.tuple (c.map PyData.int))):=.tup (SqT.of xk2) (Tups.dps (tups_mono dx2 fun b xs e=>g2 _ _ e))
 refine⟨_,_,dq1,dq2,depth_rowT,_,rfl,?_⟩
 rw[eqv_same dq1]
 refine iteF (hR4 _ _ ?_)
 have s6Z:=s6X.trans g2
 have sGZ:=sGX.trans g2
 have hPZ:=hPX.same g2
 have hppZ:=g2 _ _ hppX
 have thZ:=hth.same (s7G.trans sGZ)
 have hFZ:=hFT.same sGZ
 have hfwZ:HZ fw=some (.dT (enc (Rz ns:Nat) (Cz ns:Nat) F2)):=fwX _ g2
 refine sq_hide fun R5 hR5=>?_
 refine rd_ifof ?_
 refine⟨_,rfl,pp,pdx,_,rfl,hppZ,lnC1,_,rfl,_,rfl,_,rfl,pp,fl,fw,th0,gOf ns rs,F2,th,cs',ds',rfl,hPZ,hFZ,hgz,hfwZ,hT2,thZ,hsz',p3',p4',by omega,by omega,fun I1 j1=>?_⟩
 refine⟨_,rfl,_,rfl,_,rfl,_,rfl,cu',so',fw,th0,gOf ns rs,F2,cs',ds',th,rfl,j1 _ _ hfwZ,hcu6.same (s6Z.trans j1),hso6.same (s6Z.trans j1),p3',p4',by omega,by omega,thZ.same j1,hsz',fun I2 j2=>?_⟩
 rw[eP hT2 hsub]
 refine⟨rfl,_,rfl,?_⟩
 rw[decide_eq_true rfl]
 refine iteF (hR5 _ _ ?_)
 have j12:=j1.trans j2
 refine rd_te ⟨_,rfl,pp,pdx,_,rfl,j12 _ _ hppZ,lnC1,_,rfl,_,rfl,_,rfl,pp,fl,dd,th0,gOf ns rs,F',th,cs',ds',rfl,hPZ.same j12,hFZ.same j12,hgz,j12 _ _ (s6Z _ _ hdd6),hT',thZ.same j12,hsz',p3',p4',by omega,by omega,fun I3 j3=>?_⟩
 rw[eP hT' (fun _ h=>h),ebd]
 refine⟨_,rfl,rfl,?_⟩
 rw[decide_eq_true rfl]
 exact q I3
end
set_option maxHeartbeats 2000000 in
theorem all_mk {l:PySem.W.OpenLaw}{w:World}{K:PySem.W.Frag}{h:Heap}{mg:Str→Option Value}{fa:Addr}(X:K.In h)(G:h.Ns mainGlobals mg)(hfa:mg "law" =some (.ref fa))
  {cThing:Addr}
  {cNet:Addr}
  {cBundle:Addr}
  {cPaper:Addr}
  {cCutPaper:Addr}
  {cFloor:Addr}
  {cMS:Addr}
  {f0:Addr} {od0 an0:Option Addr} {sl0:Array (Option Value)} {oc0 kV0 dc0 pm0 cd0 ct0:Value}
  {f1:Addr} {od1 an1:Option Addr} {sl1:Array (Option Value)} {oc1 kV1 dc1 pm1 cd1 ct1:Value}
  {f2:Addr} {od2 an2:Option Addr} {sl2:Array (Option Value)} {oc2 kV2 dc2 pm2 cd2 ct2:Value}
  {f3:Addr} {od3 an3:Option Addr} {sl3:Array (Option Value)} {oc3 kV3 dc3 pm3 cd3 ct3:Value}
  {f4:Addr} {od4 an4:Option Addr} {sl4:Array (Option Value)} {oc4 kV4 dc4 pm4 cd4 ct4:Value}
  {f5:Addr} {od5 an5:Option Addr} {sl5:Array (Option Value)} {oc5 kV5 dc5 pm5 cd5 ct5:Value}
  {f6:Addr} {od6 an6:Option Addr} {sl6:Array (Option Value)} {oc6 kV6 dc6 pm6 cd6 ct6:Value}
  {T6:Addr} {do6:Option Addr} {ds6:Array (Option Value)} {dq6:Value} {dn6:Nat}
  {f7:Addr} {od7 an7:Option Addr} {sl7:Array (Option Value)} {oc7 kV7 dc7 pm7 cd7 ct7:Value}
  {f8:Addr} {od8 an8:Option Addr} {sl8:Array (Option Value)} {oc8 kV8 dc8 pm8 cd8 ct8:Value}
  {f9:Addr} {od9 an9:Option Addr} {sl9:Array (Option Value)} {oc9 kV9 dc9 pm9 cd9 ct9:Value}
  {f10:Addr} {od10 an10:Option Addr} {sl10:Array (Option Value)} {oc10 kV10 dc10 pm10 cd10 ct10:Value}
  {f11:Addr} {od11 an11:Option Addr} {sl11:Array (Option Value)} {oc11 kV11 dc11 pm11 cd11 ct11:Value}
  {f12:Addr} {od12 an12:Option Addr} {sl12:Array (Option Value)} {oc12 kV12 dc12 pm12 cd12 ct12:Value}
  {f13:Addr} {od13 an13:Option Addr} {sl13:Array (Option Value)} {oc13 kV13 dc13 pm13 cd13 ct13:Value}
  {f14:Addr} {od14 an14:Option Addr} {sl14:Array (Option Value)} {oc14 kV14 dc14 pm14 cd14 ct14:Value}
  {T14:Addr} {do14:Option Addr} {ds14:Array (Option Value)} {dq14 du14_0 du14_1:Value} {dn14:Nat}
  {f15:Addr} {od15 an15:Option Addr} {sl15:Array (Option Value)} {oc15 kV15 dc15 pm15 cd15 ct15:Value}
  {T15:Addr} {do15:Option Addr} {ds15:Array (Option Value)} {dq15:Value} {dn15:Nat} {dt15_0:Tok}
  {f16:Addr} {od16 an16:Option Addr} {sl16:Array (Option Value)} {oc16 kV16 dc16 pm16 cd16 ct16:Value}
  {f17:Addr} {od17 an17:Option Addr} {sl17:Array (Option Value)} {oc17 kV17 dc17 pm17 cd17 ct17:Value}
  {f18:Addr} {od18 an18:Option Addr} {sl18:Array (Option Value)} {oc18 kV18 dc18 pm18 cd18 ct18:Value}
  {f19:Addr} {od19 an19:Option Addr} {sl19:Array (Option Value)} {oc19 kV19 dc19 pm19 cd19 ct19:Value}
  {f20:Addr} {od20 an20:Option Addr} {sl20:Array (Option Value)} {oc20 kV20 dc20 pm20 cd20 ct20:Value}
  {f21:Addr} {od21 an21:Option Addr} {sl21:Array (Option Value)} {oc21 kV21 dc21 pm21 cd21 ct21:Value}
  {f22:Addr} {od22 an22:Option Addr} {sl22:Array (Option Value)} {oc22 kV22 dc22 pm22 cd22 ct22:Value}
  {f23:Addr} {od23 an23:Option Addr} {sl23:Array (Option Value)} {oc23 kV23 dc23 pm23 cd23 ct23:Value}
  {f24:Addr} {od24 an24:Option Addr} {sl24:Array (Option Value)} {oc24 kV24 dc24 pm24 cd24 ct24:Value}
  {f25:Addr} {od25 an25:Option Addr} {sl25:Array (Option Value)} {oc25 kV25 dc25 pm25 cd25 ct25:Value}
  {f26:Addr} {od26 an26:Option Addr} {sl26:Array (Option Value)} {oc26 kV26 dc26 pm26 cd26 ct26:Value}
  {f27:Addr} {od27 an27:Option Addr} {sl27:Array (Option Value)} {oc27 kV27 dc27 pm27 cd27 ct27:Value}
  {f28:Addr} {od28 an28:Option Addr} {sl28:Array (Option Value)} {oc28 kV28 dc28 pm28 cd28 ct28:Value}
  {f29:Addr} {od29 an29:Option Addr} {sl29:Array (Option Value)} {oc29 kV29 dc29 pm29 cd29 ct29:Value}
  {f30:Addr} {od30 an30:Option Addr} {sl30:Array (Option Value)} {oc30 kV30 dc30 pm30 cd30 ct30:Value}
  {f31:Addr} {od31 an31:Option Addr} {sl31:Array (Option Value)} {oc31 kV31 dc31 pm31 cd31 ct31:Value}
  {f32:Addr} {od32 an32:Option Addr} {sl32:Array (Option Value)} {oc32 kV32 dc32 pm32 cd32 ct32:Value}
  {f33:Addr} {od33 an33:Option Addr} {sl33:Array (Option Value)} {oc33 kV33 dc33 pm33 cd33 ct33:Value}
  {f34:Addr} {od34 an34:Option Addr} {sl34:Array (Option Value)} {oc34 kV34 dc34 pm34 cd34 ct34:Value}
  {f35:Addr} {od35 an35:Option Addr} {sl35:Array (Option Value)} {oc35 kV35 dc35 pm35 cd35 ct35:Value}
  {f36:Addr} {od36 an36:Option Addr} {sl36:Array (Option Value)} {oc36 kV36 dc36 pm36 cd36 ct36:Value}
  {tLETTERS:Tok}
  {tFIGURES:Tok}
  {tMOST_PRICE:Tok}
  {tMOST_SIGNS:Tok}
  {tMOST_HALF:Tok}
  {tMOST_ROOM:Tok}
  {tMOST_PINS:Tok}
  {tMOST_STARTS:Tok}
  {tMOST_GOALS:Tok}
  {odMS:Option Addr} {slMS:Array (Option Value)} {dnMS:Nat} {tMS0:Tok} {tMS1:Tok} {tMS2:Tok}
  (n_Thing:PySem.W.nsIn K mainGlobals "Thing" =some (some (.ref cThing)))
  (n_Net:PySem.W.nsIn K mainGlobals "Net" =some (some (.ref cNet)))
  (n_Bundle:PySem.W.nsIn K mainGlobals "Bundle" =some (some (.ref cBundle)))
  (n_Paper:PySem.W.nsIn K mainGlobals "Paper" =some (some (.ref cPaper)))
  (n_CutPaper:PySem.W.nsIn K mainGlobals "CutPaper" =some (some (.ref cCutPaper)))
  (n_Floor:PySem.W.nsIn K mainGlobals "Floor" =some (some (.ref cFloor)))
  (a0:PySem.W.nsIn K mainGlobals "inside" =some (some (.ref f0)))
  (l0:K.lookup f0=some ⟨oc0,od0,.func (PySem.W.fnOf "inside" "inside" (defArgs sInside) (defBody sInside) (defScope sInside) .none kV0 dc0 pm0 an0 cd0 ct0),sl0⟩)
  (c0:PySem.W.codeIn K cd0 "inside" =true)
  (k0:PySem.W.keepIn K (.ref f0)=true)
  (a1:PySem.W.nsIn K mainGlobals "check_sizes" =some (some (.ref f1)))
  (l1:K.lookup f1=some ⟨oc1,od1,.func (PySem.W.fnOf "check_sizes" "check_sizes" (defArgs sCSizes) (defBody sCSizes) (defScope sCSizes) .none kV1 dc1 pm1 an1 cd1 ct1),sl1⟩)
  (c1:PySem.W.codeIn K cd1 "check_sizes" =true)
  (k1:PySem.W.keepIn K (.ref f1)=true)
  (a2:PySem.W.nsIn K mainGlobals "check_price" =some (some (.ref f2)))
  (l2:K.lookup f2=some ⟨oc2,od2,.func (PySem.W.fnOf "check_price" "check_price" (defArgs sCPrice) (defBody sCPrice) (defScope sCPrice) .none kV2 dc2 pm2 an2 cd2 ct2),sl2⟩)
  (c2:PySem.W.codeIn K cd2 "check_price" =true)
  (k2:PySem.W.keepIn K (.ref f2)=true)
  (a3:PySem.W.nsIn K mainGlobals "check_prices" =some (some (.ref f3)))
  (l3:K.lookup f3=some ⟨oc3,od3,.func (PySem.W.fnOf "check_prices" "check_prices" (defArgs sCPrices) (defBody sCPrices) (defScope sCPrices) .none kV3 dc3 pm3 an3 cd3 ct3),sl3⟩)
  (c3:PySem.W.codeIn K cd3 "check_prices" =true)
  (k3:PySem.W.keepIn K (.ref f3)=true)
  (a4:PySem.W.nsIn K mainGlobals "check_inside" =some (some (.ref f4)))
  (l4:K.lookup f4=some ⟨oc4,od4,.func (PySem.W.fnOf "check_inside" "check_inside" (defArgs sCInside) (defBody sCInside) (defScope sCInside) .none kV4 dc4 pm4 an4 cd4 ct4),sl4⟩)
  (c4:PySem.W.codeIn K cd4 "check_inside" =true)
  (k4:PySem.W.keepIn K (.ref f4)=true)
  (a5:PySem.W.nsIn K mainGlobals "spots_round" =some (some (.ref f5)))
  (l5:K.lookup f5=some ⟨oc5,od5,.func (PySem.W.fnOf "spots_round" "spots_round" (defArgs sRound) (defBody sRound) (defScope sRound) .none kV5 dc5 pm5 an5 cd5 ct5),sl5⟩)
  (c5:PySem.W.codeIn K cd5 "spots_round" =true)
  (k5:PySem.W.keepIn K (.ref f5)=true)
  (a6:PySem.W.findIn K (.ref cFloor) "__init__" =some (some (.ref f6)))
  (i6:PySem.W.isFn K (.ref f6)=true)
  (l6:K.lookup f6=some ⟨oc6,od6,.func (PySem.W.fnOf "__init__" "Floor.__init__" (defArgs sFInit) (defBody sFInit) (defScope sFInit) (.ref T6) kV6 dc6 pm6 an6 cd6 ct6),sl6⟩)
  (d6:K.lookup T6=some ⟨dq6,do6,.seq #[.none,.none] dn6,ds6⟩)
  (c6:PySem.W.codeIn K cd6 "Floor.__init__" =true)
  (k6:PySem.W.keepIn K (.ref f6)=true)
  (a7:PySem.W.findIn K (.ref cFloor) "is_rock" =some (some (.ref f7)))
  (i7:PySem.W.isFn K (.ref f7)=true)
  (l7:K.lookup f7=some ⟨oc7,od7,.func (PySem.W.fnOf "is_rock" "Floor.is_rock" (defArgs sIsRock) (defBody sIsRock) (defScope sIsRock) .none kV7 dc7 pm7 an7 cd7 ct7),sl7⟩)
  (c7:PySem.W.codeIn K cd7 "Floor.is_rock" =true)
  (k7:PySem.W.keepIn K (.ref f7)=true)
  (a8:PySem.W.findIn K (.ref cFloor) "is_open" =some (some (.ref f8)))
  (i8:PySem.W.isFn K (.ref f8)=true)
  (l8:K.lookup f8=some ⟨oc8,od8,.func (PySem.W.fnOf "is_open" "Floor.is_open" (defArgs sIsOpen) (defBody sIsOpen) (defScope sIsOpen) .none kV8 dc8 pm8 an8 cd8 ct8),sl8⟩)
  (c8:PySem.W.codeIn K cd8 "Floor.is_open" =true)
  (k8:PySem.W.keepIn K (.ref f8)=true)
  (a9:PySem.W.findIn K (.ref cFloor) "priced" =some (some (.ref f9)))
  (i9:PySem.W.isFn K (.ref f9)=true)
  (l9:K.lookup f9=some ⟨oc9,od9,.func (PySem.W.fnOf "priced" "Floor.priced" (defArgs sPriced) (defBody sPriced) (defScope sPriced) .none kV9 dc9 pm9 an9 cd9 ct9),sl9⟩)
  (c9:PySem.W.codeIn K cd9 "Floor.priced" =true)
  (k9:PySem.W.keepIn K (.ref f9)=true)
  (a10:PySem.W.findIn K (.ref cFloor) "steps" =some (some (.ref f10)))
  (i10:PySem.W.isFn K (.ref f10)=true)
  (l10:K.lookup f10=some ⟨oc10,od10,.func (PySem.W.fnOf "steps" "Floor.steps" (defArgs sSteps) (defBody sSteps) (defScope sSteps) .none kV10 dc10 pm10 an10 cd10 ct10),sl10⟩)
  (c10:PySem.W.codeIn K cd10 "Floor.steps" =true)
  (k10:PySem.W.keepIn K (.ref f10)=true)
  (a11:PySem.W.nsIn K mainGlobals "is_name" =some (some (.ref f11)))
  (l11:K.lookup f11=some ⟨oc11,od11,.func (PySem.W.fnOf "is_name" "is_name" (defArgs sName) (defBody sName) (defScope sName) .none kV11 dc11 pm11 an11 cd11 ct11),sl11⟩)
  (c11:PySem.W.codeIn K cd11 "is_name" =true)
  (k11:PySem.W.keepIn K (.ref f11)=true)
  (a12:PySem.W.nsIn K mainGlobals "check_unlike" =some (some (.ref f12)))
  (l12:K.lookup f12=some ⟨oc12,od12,.func (PySem.W.fnOf "check_unlike" "check_unlike" (defArgs sUnlike) (defBody sUnlike) (defScope sUnlike) .none kV12 dc12 pm12 an12 cd12 ct12),sl12⟩)
  (c12:PySem.W.codeIn K cd12 "check_unlike" =true)
  (k12:PySem.W.keepIn K (.ref f12)=true)
  (r13:PySem.W.readsIn K cThing (.type "type")=true)
  (q13:PySem.W.findCls K (.ref cThing) (.type "type") "__init__" =some (.val (.ref f13)))
  (g13:PySem.W.specialIn K (.ref cThing) "__getattribute__" =some (some (.builtin "type.__getattribute__")))
  (l13:K.lookup f13=some ⟨oc13,od13,.func (PySem.W.fnOf "__init__" "Thing.__init__" (defArgs sTInit) (defBody sTInit) (defScope sTInit) .none kV13 dc13 pm13 an13 cd13 ct13),sl13⟩)
  (c13:PySem.W.codeIn K cd13 "Thing.__init__" =true)
  (k13:PySem.W.keepIn K (.ref f13)=true)
  (a14:PySem.W.findIn K (.ref cNet) "__init__" =some (some (.ref f14)))
  (i14:PySem.W.isFn K (.ref f14)=true)
  (l14:K.lookup f14=some ⟨oc14,od14,.func (PySem.W.fnOf "__init__" "Net.__init__" (defArgs sNInit) (defBody sNInit) (defScope sNInit) (.ref T14) kV14 dc14 pm14 an14 cd14 ct14),sl14⟩)
  (d14:K.lookup T14=some ⟨dq14,do14,.seq #[du14_0,du14_1] dn14,ds14⟩)
  (c14:PySem.W.codeIn K cd14 "Net.__init__" =true)
  (k14:PySem.W.keepIn K (.ref f14)=true)
  (a15:PySem.W.findIn K (.ref cBundle) "__init__" =some (some (.ref f15)))
  (i15:PySem.W.isFn K (.ref f15)=true)
  (l15:K.lookup f15=some ⟨oc15,od15,.func (PySem.W.fnOf "__init__" "Bundle.__init__" (defArgs sBInit) (defBody sBInit) (defScope sBInit) (.ref T15) kV15 dc15 pm15 an15 cd15 ct15),sl15⟩)
  (d15:K.lookup T15=some ⟨dq15,do15,.seq #[.int 0 dt15_0] dn15,ds15⟩)
  (c15:PySem.W.codeIn K cd15 "Bundle.__init__" =true)
  (k15:PySem.W.keepIn K (.ref f15)=true)
  (a16:PySem.W.nsIn K mainGlobals "in_order" =some (some (.ref f16)))
  (l16:K.lookup f16=some ⟨oc16,od16,.func (PySem.W.fnOf "in_order" "in_order" (defArgs sInOrd) (defBody sInOrd) (defScope sInOrd) .none kV16 dc16 pm16 an16 cd16 ct16),sl16⟩)
  (c16:PySem.W.codeIn K cd16 "in_order" =true)
  (k16:PySem.W.keepIn K (.ref f16)=true)
  (a17:PySem.W.nsIn K mainGlobals "all_clear" =some (some (.ref f17)))
  (l17:K.lookup f17=some ⟨oc17,od17,.func (PySem.W.fnOf "all_clear" "all_clear" (defArgs sClear) (defBody sClear) (defScope sClear) .none kV17 dc17 pm17 an17 cd17 ct17),sl17⟩)
  (c17:PySem.W.codeIn K cd17 "all_clear" =true)
  (k17:PySem.W.keepIn K (.ref f17)=true)
  (a18:PySem.W.nsIn K mainGlobals "shut_in" =some (some (.ref f18)))
  (l18:K.lookup f18=some ⟨oc18,od18,.func (PySem.W.fnOf "shut_in" "shut_in" (defArgs sShut) (defBody sShut) (defScope sShut) .none kV18 dc18 pm18 an18 cd18 ct18),sl18⟩)
  (c18:PySem.W.codeIn K cd18 "shut_in" =true)
  (k18:PySem.W.keepIn K (.ref f18)=true)
  (a19:PySem.W.nsIn K mainGlobals "how_many" =some (some (.ref f19)))
  (l19:K.lookup f19=some ⟨oc19,od19,.func (PySem.W.fnOf "how_many" "how_many" (defArgs sMany) (defBody sMany) (defScope sMany) .none kV19 dc19 pm19 an19 cd19 ct19),sl19⟩)
  (c19:PySem.W.codeIn K cd19 "how_many" =true)
  (k19:PySem.W.keepIn K (.ref f19)=true)
  (a20:PySem.W.findIn K (.ref cCutPaper) "is_laid" =some (some (.ref f20)))
  (i20:PySem.W.isFn K (.ref f20)=true)
  (l20:K.lookup f20=some ⟨oc20,od20,.func (PySem.W.fnOf "is_laid" "Paper.is_laid" (defArgs sCLaid) (defBody sCLaid) (defScope sCLaid) .none kV20 dc20 pm20 an20 cd20 ct20),sl20⟩)
  (c20:PySem.W.codeIn K cd20 "Paper.is_laid" =true)
  (k20:PySem.W.keepIn K (.ref f20)=true)
  (a21:PySem.W.findIn K (.ref cCutPaper) "__init__" =some (some (.ref f21)))
  (i21:PySem.W.isFn K (.ref f21)=true)
  (l21:K.lookup f21=some ⟨oc21,od21,.func (PySem.W.fnOf "__init__" "CutPaper.__init__" (defArgs sCInit) (defBody sCInit) (defScope sCInit) .none kV21 dc21 pm21 an21 cd21 ct21),sl21⟩)
  (c21:PySem.W.codeIn K cd21 "CutPaper.__init__" =true)
  (k21:PySem.W.keepIn K (.ref f21)=true)
  (a22:PySem.W.findIn K (.ref cCutPaper) "holds" =some (some (.ref f22)))
  (i22:PySem.W.isFn K (.ref f22)=true)
  (l22:K.lookup f22=some ⟨oc22,od22,.func (PySem.W.fnOf "holds" "CutPaper.holds" (defArgs sCHolds) (defBody sCHolds) (defScope sCHolds) .none kV22 dc22 pm22 an22 cd22 ct22),sl22⟩)
  (c22:PySem.W.codeIn K cd22 "CutPaper.holds" =true)
  (k22:PySem.W.keepIn K (.ref f22)=true)
  (a23:PySem.W.nsIn K mainGlobals "_law_cell_at" =some (some (.ref f23)))
  (l23:K.lookup f23=some ⟨oc23,od23,.func (PySem.W.fnOf "_law_cell_at" "_law_cell_at" (defArgs sCell) (defBody sCell) (defScope sCell) .none kV23 dc23 pm23 an23 cd23 ct23),sl23⟩)
  (c23:PySem.W.codeIn K cd23 "_law_cell_at" =true)
  (k23:PySem.W.keepIn K (.ref f23)=true)
  (a24:PySem.W.nsIn K mainGlobals "_law_mix" =some (some (.ref f24)))
  (l24:K.lookup f24=some ⟨oc24,od24,.func (PySem.W.fnOf "_law_mix" "_law_mix" (defArgs sMix) (defBody sMix) (defScope sMix) .none kV24 dc24 pm24 an24 cd24 ct24),sl24⟩)
  (c24:PySem.W.codeIn K cd24 "_law_mix" =true)
  (k24:PySem.W.keepIn K (.ref f24)=true)
  (a25:PySem.W.nsIn K mainGlobals "_law_beside" =some (some (.ref f25)))
  (l25:K.lookup f25=some ⟨oc25,od25,.func (PySem.W.fnOf "_law_beside" "_law_beside" (defArgs sBeside) (defBody sBeside) (defScope sBeside) .none kV25 dc25 pm25 an25 cd25 ct25),sl25⟩)
  (c25:PySem.W.codeIn K cd25 "_law_beside" =true)
  (k25:PySem.W.keepIn K (.ref f25)=true)
  (a26:PySem.W.nsIn K mainGlobals "_law_lanes" =some (some (.ref f26)))
  (l26:K.lookup f26=some ⟨oc26,od26,.func (PySem.W.fnOf "_law_lanes" "_law_lanes" (defArgs sLanes) (defBody sLanes) (defScope sLanes) .none kV26 dc26 pm26 an26 cd26 ct26),sl26⟩)
  (c26:PySem.W.codeIn K cd26 "_law_lanes" =true)
  (k26:PySem.W.keepIn K (.ref f26)=true)
  (a27:PySem.W.nsIn K mainGlobals "_law_picked" =some (some (.ref f27)))
  (l27:K.lookup f27=some ⟨oc27,od27,.func (PySem.W.fnOf "_law_picked" "_law_picked" (defArgs sPicked) (defBody sPicked) (defScope sPicked) .none kV27 dc27 pm27 an27 cd27 ct27),sl27⟩)
  (c27:PySem.W.codeIn K cd27 "_law_picked" =true)
  (k27:PySem.W.keepIn K (.ref f27)=true)
  (a28:PySem.W.nsIn K mainGlobals "_law_strewn" =some (some (.ref f28)))
  (l28:K.lookup f28=some ⟨oc28,od28,.func (PySem.W.fnOf "_law_strewn" "_law_strewn" (defArgs sStrewn) (defBody sStrewn) (defScope sStrewn) .none kV28 dc28 pm28 an28 cd28 ct28),sl28⟩)
  (c28:PySem.W.codeIn K cd28 "_law_strewn" =true)
  (k28:PySem.W.keepIn K (.ref f28)=true)
  (a29:PySem.W.nsIn K mainGlobals "_law_plan" =some (some (.ref f29)))
  (l29:K.lookup f29=some ⟨oc29,od29,.func (PySem.W.fnOf "_law_plan" "_law_plan" (defArgs sPlan) (defBody sPlan) (defScope sPlan) .none kV29 dc29 pm29 an29 cd29 ct29),sl29⟩)
  (c29:PySem.W.codeIn K cd29 "_law_plan" =true)
  (k29:PySem.W.keepIn K (.ref f29)=true)
  (a30:PySem.W.nsIn K mainGlobals "_law_put" =some (some (.ref f30)))
  (l30:K.lookup f30=some ⟨oc30,od30,.func (PySem.W.fnOf "_law_put" "_law_put" (defArgs sPut) (defBody sPut) (defScope sPut) .none kV30 dc30 pm30 an30 cd30 ct30),sl30⟩)
  (c30:PySem.W.codeIn K cd30 "_law_put" =true)
  (k30:PySem.W.keepIn K (.ref f30)=true)
  (a31:PySem.W.nsIn K mainGlobals "_law_spoilt" =some (some (.ref f31)))
  (l31:K.lookup f31=some ⟨oc31,od31,.func (PySem.W.fnOf "_law_spoilt" "_law_spoilt" (defArgs sSpoilt) (defBody sSpoilt) (defScope sSpoilt) .none kV31 dc31 pm31 an31 cd31 ct31),sl31⟩)
  (c31:PySem.W.codeIn K cd31 "_law_spoilt" =true)
  (k31:PySem.W.keepIn K (.ref f31)=true)
  (a32:PySem.W.nsIn K mainGlobals "_law_rows" =some (some (.ref f32)))
  (l32:K.lookup f32=some ⟨oc32,od32,.func (PySem.W.fnOf "_law_rows" "_law_rows" (defArgs sRows) (defBody sRows) (defScope sRows) .none kV32 dc32 pm32 an32 cd32 ct32),sl32⟩)
  (c32:PySem.W.codeIn K cd32 "_law_rows" =true)
  (k32:PySem.W.keepIn K (.ref f32)=true)
  (a33:PySem.W.nsIn K mainGlobals "_law_shuts" =some (some (.ref f33)))
  (l33:K.lookup f33=some ⟨oc33,od33,.func (PySem.W.fnOf "_law_shuts" "_law_shuts" (defArgs sShuts) (defBody sShuts) (defScope sShuts) .none kV33 dc33 pm33 an33 cd33 ct33),sl33⟩)
  (c33:PySem.W.codeIn K cd33 "_law_shuts" =true)
  (k33:PySem.W.keepIn K (.ref f33)=true)
  (a34:PySem.W.nsIn K mainGlobals "_law_thing" =some (some (.ref f34)))
  (l34:K.lookup f34=some ⟨oc34,od34,.func (PySem.W.fnOf "_law_thing" "_law_thing" (defArgs sLThing) (defBody sLThing) (defScope sLThing) .none kV34 dc34 pm34 an34 cd34 ct34),sl34⟩)
  (c34:PySem.W.codeIn K cd34 "_law_thing" =true)
  (k34:PySem.W.keepIn K (.ref f34)=true)
  (a35:PySem.W.nsIn K mainGlobals "_law_due" =some (some (.ref f35)))
  (l35:K.lookup f35=some ⟨oc35,od35,.func (PySem.W.fnOf "_law_due" "_law_due" (defArgs sLDue) (defBody sLDue) (defScope sLDue) .none kV35 dc35 pm35 an35 cd35 ct35),sl35⟩)
  (c35:PySem.W.codeIn K cd35 "_law_due" =true)
  (k35:PySem.W.keepIn K (.ref f35)=true)
  (a36:PySem.W.nsIn K mainGlobals "law" =some (some (.ref f36)))
  (l36:K.lookup f36=some ⟨oc36,od36,.func (PySem.W.fnOf "law" "law" (defArgs slaw) (defBody slaw) (defScope slaw) .none kV36 dc36 pm36 an36 cd36 ct36),sl36⟩)
  (c36:PySem.W.codeIn K cd36 "law" =true)
  (k36:PySem.W.keepIn K (.ref f36)=true)
  (pg_Thing:PySem.W.plainGet K cThing Str.empty=true)
  (hd_Thing:PySem.W.hasDictIn K cThing=true)
  (po_Thing:PySem.W.plainOver K cThing=true)
  (sa_Thing:PySem.W.findIn K (.ref cThing) "__setattr__" =some (some (.builtin "object.__setattr__")))
  (pg_Net:PySem.W.plainGet K cNet Str.empty=true)
  (hd_Net:PySem.W.hasDictIn K cNet=true)
  (po_Net:PySem.W.plainOver K cNet=true)
  (sa_Net:PySem.W.findIn K (.ref cNet) "__setattr__" =some (some (.builtin "object.__setattr__")))
  (mk_Net:PySem.W.makesIn K cNet=true)
  (kc_Net:PySem.W.keepIn K (.ref cNet)=true)
  (na_Net_name:PySem.W.findIn K (.ref cNet) "name" =some none)
  (na_Net_half:PySem.W.findIn K (.ref cNet) "half" =some none)
  (na_Net_room:PySem.W.findIn K (.ref cNet) "room" =some none)
  (na_Net_pins:PySem.W.findIn K (.ref cNet) "pins" =some none)
  (pg_Bundle:PySem.W.plainGet K cBundle Str.empty=true)
  (hd_Bundle:PySem.W.hasDictIn K cBundle=true)
  (po_Bundle:PySem.W.plainOver K cBundle=true)
  (sa_Bundle:PySem.W.findIn K (.ref cBundle) "__setattr__" =some (some (.builtin "object.__setattr__")))
  (mk_Bundle:PySem.W.makesIn K cBundle=true)
  (kc_Bundle:PySem.W.keepIn K (.ref cBundle)=true)
  (na_Bundle_name:PySem.W.findIn K (.ref cBundle) "name" =some none)
  (na_Bundle_half:PySem.W.findIn K (.ref cBundle) "half" =some none)
  (na_Bundle_room:PySem.W.findIn K (.ref cBundle) "room" =some none)
  (na_Bundle_starts:PySem.W.findIn K (.ref cBundle) "starts" =some none)
  (na_Bundle_goals:PySem.W.findIn K (.ref cBundle) "goals" =some none)
  (pg_Paper:PySem.W.plainGet K cPaper Str.empty=true)
  (hd_Paper:PySem.W.hasDictIn K cPaper=true)
  (po_Paper:PySem.W.plainOver K cPaper=true)
  (sa_Paper:PySem.W.findIn K (.ref cPaper) "__setattr__" =some (some (.builtin "object.__setattr__")))
  (pg_CutPaper:PySem.W.plainGet K cCutPaper Str.empty=true)
  (hd_CutPaper:PySem.W.hasDictIn K cCutPaper=true)
  (po_CutPaper:PySem.W.plainOver K cCutPaper=true)
  (sa_CutPaper:PySem.W.findIn K (.ref cCutPaper) "__setattr__" =some (some (.builtin "object.__setattr__")))
  (mk_CutPaper:PySem.W.makesIn K cCutPaper=true)
  (kc_CutPaper:PySem.W.keepIn K (.ref cCutPaper)=true)
  (na_CutPaper_cut:PySem.W.findIn K (.ref cCutPaper) "cut" =some none)
  (na_CutPaper_spots:PySem.W.findIn K (.ref cCutPaper) "spots" =some none)
  (pg_Floor:PySem.W.plainGet K cFloor Str.empty=true)
  (hd_Floor:PySem.W.hasDictIn K cFloor=true)
  (po_Floor:PySem.W.plainOver K cFloor=true)
  (sa_Floor:PySem.W.findIn K (.ref cFloor) "__setattr__" =some (some (.builtin "object.__setattr__")))
  (mk_Floor:PySem.W.makesIn K cFloor=true)
  (kc_Floor:PySem.W.keepIn K (.ref cFloor)=true)
  (na_Floor_sizes:PySem.W.findIn K (.ref cFloor) "sizes" =some none)
  (na_Floor_prices:PySem.W.findIn K (.ref cFloor) "prices" =some none)
  (na_Floor_vias:PySem.W.findIn K (.ref cFloor) "vias" =some none)
  (na_Floor_rocks:PySem.W.findIn K (.ref cFloor) "rocks" =some none)
  (na_Floor_tolls:PySem.W.findIn K (.ref cFloor) "tolls" =some none)
  (z_len:PySem.W.nsIn K mainGlobals "len" =some none)
  (z_range:PySem.W.nsIn K mainGlobals "range" =some none)
  (z_isinstance:PySem.W.nsIn K mainGlobals "isinstance" =some none)
  (z_int:PySem.W.nsIn K mainGlobals "int" =some none)
  (z_bool:PySem.W.nsIn K mainGlobals "bool" =some none)
  (z_tuple:PySem.W.nsIn K mainGlobals "tuple" =some none)
  (z_set:PySem.W.nsIn K mainGlobals "set" =some none)
  (z_list:PySem.W.nsIn K mainGlobals "list" =some none)
  (z_dict:PySem.W.nsIn K mainGlobals "dict" =some none)
  (z_sorted:PySem.W.nsIn K mainGlobals "sorted" =some none)
  (z_zip:PySem.W.nsIn K mainGlobals "zip" =some none)
  (z_min:PySem.W.nsIn K mainGlobals "min" =some none)
  (z_all:PySem.W.nsIn K mainGlobals "all" =some none)
  (z_any:PySem.W.nsIn K mainGlobals "any" =some none)
  (z_reversed:PySem.W.nsIn K mainGlobals "reversed" =some none)
  (z_max:PySem.W.nsIn K mainGlobals "max" =some none)
  (q_LETTERS:PySem.W.nsIn K mainGlobals "LETTERS" =some (some (.str (Str.ofString "abcdefghijklmnopqrstuvwxyz") tLETTERS)))
  (q_FIGURES:PySem.W.nsIn K mainGlobals "FIGURES" =some (some (.str (Str.ofString "0123456789") tFIGURES)))
  (q_MOST_PRICE:PySem.W.nsIn K mainGlobals "MOST_PRICE" =some (some (.int 1000000000000 tMOST_PRICE)))
  (q_MOST_SIGNS:PySem.W.nsIn K mainGlobals "MOST_SIGNS" =some (some (.int 12 tMOST_SIGNS)))
  (q_MOST_HALF:PySem.W.nsIn K mainGlobals "MOST_HALF" =some (some (.int 2 tMOST_HALF)))
  (q_MOST_ROOM:PySem.W.nsIn K mainGlobals "MOST_ROOM" =some (some (.int 3 tMOST_ROOM)))
  (q_MOST_PINS:PySem.W.nsIn K mainGlobals "MOST_PINS" =some (some (.int 6 tMOST_PINS)))
  (q_MOST_STARTS:PySem.W.nsIn K mainGlobals "MOST_STARTS" =some (some (.int 6 tMOST_STARTS)))
  (q_MOST_GOALS:PySem.W.nsIn K mainGlobals "MOST_GOALS" =some (some (.int 12 tMOST_GOALS)))
  (q_MOST_SIZES:PySem.W.nsIn K mainGlobals "MOST_SIZES" =some (some (.ref cMS)))
  (qt_MOST_SIZES:K.lookup cMS=some ⟨.type "tuple",odMS,.seq #[.int 4 tMS0,.int 16 tMS1,.int 16 tMS2] dnMS,slMS⟩)
  (bb:PySem.W.kitOne K (.type "bool") (.type "bool")=some true)
  (nb:PySem.W.kitOne K (.ref cNet) (.ref cBundle)=some false)
  (b2:PySem.W.kitOne K (.ref cBundle) (.ref cBundle)=some true)
  (sp:PySem.W.kitOne K (.ref cCutPaper) (.ref cPaper)=some true)
  (qN:PySem.W.findIn K (.ref cNet) "__class__" =some (some (.builtin "object.__class__")))
  (qB:PySem.W.findIn K (.ref cBundle) "__class__" =some (some (.builtin "object.__class__")))
  (qS:PySem.W.findIn K (.ref cCutPaper) "__class__" =some (some (.builtin "object.__class__")))
  (qg:PySem.W.specialIn K (.builtin "object.__class__") "__get__" =some (some (.builtin "getset_descriptor.__get__")))
  (qt:PySem.W.takesIn K (.builtin "object.__class__")=some true)
  (oN:PySem.W.mroIn K cNet (.type "object")=some true)
  (oB:PySem.W.mroIn K cBundle (.type "object")=some true)
  (oS:PySem.W.mroIn K cCutPaper (.type "object")=some true)
  :∃fd:FuncData,(∀(s:Shared) (v:Value),BindsTo s fd ⟨[v],[]⟩ [("script",v)])∧∀base:Heap,K.In base→base.Ns mainGlobals mg→FnOk l.prog w K mg base CX0 7 fa fd ["script"] (spLaw K):=by
 have e:=hfa.symm.trans (PySem.W.mg_of X G a36)
 cases e
 have T:Txt K mg cThing cNet cBundle cPaper cCutPaper cFloor cMS:=⟨PySem.W.mg_none_of X G z_len,PySem.W.mg_none_of X G z_range,PySem.W.mg_none_of X G z_isinstance,PySem.W.mg_none_of X G z_int,PySem.W.mg_none_of X G z_bool,PySem.W.mg_none_of X G z_tuple,PySem.W.mg_none_of X G z_set,PySem.W.mg_none_of X G z_list,PySem.W.mg_none_of X G z_dict,PySem.W.mg_none_of X G z_sorted,PySem.W.mg_none_of X G z_zip,PySem.W.mg_none_of X G z_min,PySem.W.mg_none_of X G z_all,PySem.W.mg_none_of X G z_any,PySem.W.mg_none_of X G z_reversed,PySem.W.mg_none_of X G z_max,⟨pg_Thing,hd_Thing,po_Thing,sa_Thing⟩,PySem.W.mg_of X G n_Thing,⟨pg_Net,hd_Net,po_Net,sa_Net⟩,PySem.W.mg_of X G n_Net,na_Net_name,na_Net_half,na_Net_room,na_Net_pins,⟨pg_Bundle,hd_Bundle,po_Bundle,sa_Bundle⟩,PySem.W.mg_of X G n_Bundle,na_Bundle_name,na_Bundle_half,na_Bundle_room,na_Bundle_starts,na_Bundle_goals,⟨pg_Paper,hd_Paper,po_Paper,sa_Paper⟩,PySem.W.mg_of X G n_Paper,⟨pg_CutPaper,hd_CutPaper,po_CutPaper,sa_CutPaper⟩,PySem.W.mg_of X G n_CutPaper,na_CutPaper_cut,na_CutPaper_spots,⟨pg_Floor,hd_Floor,po_Floor,sa_Floor⟩,PySem.W.mg_of X G n_Floor,na_Floor_sizes,na_Floor_prices,na_Floor_vias,na_Floor_rocks,na_Floor_tolls,⟨_,PySem.W.mg_of X G q_LETTERS,⟨_,rfl⟩⟩,⟨_,PySem.W.mg_of X G q_FIGURES,⟨_,rfl⟩⟩,⟨_,PySem.W.mg_of X G q_MOST_PRICE,⟨_,rfl⟩⟩,⟨_,PySem.W.mg_of X G q_MOST_SIGNS,⟨_,rfl⟩⟩,⟨_,PySem.W.mg_of X G q_MOST_HALF,⟨_,rfl⟩⟩,⟨_,PySem.W.mg_of X G q_MOST_ROOM,⟨_,rfl⟩⟩,⟨_,PySem.W.mg_of X G q_MOST_PINS,⟨_,rfl⟩⟩,⟨_,PySem.W.mg_of X G q_MOST_STARTS,⟨_,rfl⟩⟩,⟨_,PySem.W.mg_of X G q_MOST_GOALS,⟨_,rfl⟩⟩,⟨_,PySem.W.mg_of X G q_MOST_SIZES,rfl⟩,fun _=> .inr ⟨_,_,_,qt_MOST_SIZES,rfl,rfl,(by show 3≤sizeLine;decide),(.cons ⟨_,rfl⟩ (.cons ⟨_,rfl⟩ (.cons ⟨_,rfl⟩ .nil)))⟩,bb,nb,b2,sp,qN,qB,qS,qg,qt,oN,oB,oS⟩
 have F0:=fun_mk (st:=sInside) l0 c0 k0
 have b0:=bd2 (p0:= "sizes") (p1:= "spot") F0 fun _ _ _ _ _ _ _ _=>rfl
 have F1:=fun_mk (st:=sCSizes) l1 c1 k1
 have b1:=bd3 (p0:= "sizes") (p1:= "prices") (p2:= "vias") F1 fun _ _ _ _ _ _ _ _ _=>rfl
 have F2:=fun_mk (st:=sCPrice) l2 c2 k2
 have b2:=bd2 (p0:= "price") (p1:= "least") F2 fun _ _ _ _ _ _ _ _=>rfl
 have F3:=fun_mk (st:=sCPrices) l3 c3 k3
 have b3:=bd3 (p0:= "prices") (p1:= "vias") (p2:= "tolls") F3 fun _ _ _ _ _ _ _ _ _=>rfl
 have F4:=fun_mk (st:=sCInside) l4 c4 k4
 have b4:=bd2 (p0:= "sizes") (p1:= "spot") F4 fun _ _ _ _ _ _ _ _=>rfl
 have F5:=fun_mk (st:=sRound) l5 c5 k5
 have b5:=bd1 (p0:= "spot") F5 fun _ _ _ _ _ _ _=>rfl
 have F6:=fund_mk (st:=sFInit) l6 c6
 have b6_0:Binds K (PySem.W.fnOf "__init__" "Floor.__init__" (defArgs sFInit) (defBody sFInit) (defScope sFInit) (.ref T6) kV6 dc6 pm6 an6 cd6 ct6) ["self", "sizes", "prices", "vias", "rocks", "tolls"] ([]:List Value):=bindsM rfl d6 6 rfl fun us hl=>(by obtain⟨_,_,_,_,_,_,rfl⟩:=bl6 (us:=us) hl;exact⟨_,rfl,rfl⟩)
 have b6_1:Binds K (PySem.W.fnOf "__init__" "Floor.__init__" (defArgs sFInit) (defBody sFInit) (defScope sFInit) (.ref T6) kV6 dc6 pm6 an6 cd6 ct6) ["self", "sizes", "prices", "vias", "rocks", "tolls"] ([Value.none]:List Value):=bindsM rfl d6 5 rfl fun us hl=>(by obtain⟨_,_,_,_,_,rfl⟩:=bl5 (us:=us) hl;exact⟨_,rfl,rfl⟩)
 have b6_2:Binds K (PySem.W.fnOf "__init__" "Floor.__init__" (defArgs sFInit) (defBody sFInit) (defScope sFInit) (.ref T6) kV6 dc6 pm6 an6 cd6 ct6) ["self", "sizes", "prices", "vias", "rocks", "tolls"] ([Value.none,Value.none]:List Value):=bindsM rfl d6 4 rfl fun us hl=>(by obtain⟨_,_,_,_,rfl⟩:=bl4 (us:=us) hl;exact⟨_,rfl,rfl⟩)
 have F7:=fun_mk (st:=sIsRock) l7 c7 k7
 have b7:=bd2 (p0:= "self") (p1:= "spot") F7 fun _ _ _ _ _ _ _ _=>rfl
 have F8:=fun_mk (st:=sIsOpen) l8 c8 k8
 have b8:=bd2 (p0:= "self") (p1:= "spot") F8 fun _ _ _ _ _ _ _ _=>rfl
 have F9:=fun_mk (st:=sPriced) l9 c9 k9
 have b9:=bd3 (p0:= "self") (p1:= "one") (p2:= "two") F9 fun _ _ _ _ _ _ _ _ _=>rfl
 have F10:=fun_mk (st:=sSteps) l10 c10 k10
 have b10:=bd2 (p0:= "self") (p1:= "spot") F10 fun _ _ _ _ _ _ _ _=>rfl
 have F11:=fun_mk (st:=sName) l11 c11 k11
 have b11:=bd1 (p0:= "name") F11 fun _ _ _ _ _ _ _=>rfl
 have F12:=fun_mk (st:=sUnlike) l12 c12 k12
 have b12:=bd1 (p0:= "spots") F12 fun _ _ _ _ _ _ _=>rfl
 have F13:=fun_mk (st:=sTInit) l13 c13 k13
 have b13:=bd4 (p0:= "self") (p1:= "name") (p2:= "half") (p3:= "room") F13 fun _ _ _ _ _ _ _ _ _ _=>rfl
 have F14:=fund_mk (st:=sNInit) l14 c14
 have b14:Binds K (PySem.W.fnOf "__init__" "Net.__init__" (defArgs sNInit) (defBody sNInit) (defScope sNInit) (.ref T14) kV14 dc14 pm14 an14 cd14 ct14) ["self", "name", "pins", "half", "room"] []:=bindsD rfl d14 fun us hl=>match us,hl with|[_,_,_,_,_],_=>⟨_,rfl,rfl⟩
 have F15:=fund_mk (st:=sBInit) l15 c15
 have b15_0:Binds K (PySem.W.fnOf "__init__" "Bundle.__init__" (defArgs sBInit) (defBody sBInit) (defScope sBInit) (.ref T15) kV15 dc15 pm15 an15 cd15 ct15) ["self", "name", "starts", "goals", "room"] ([]:List Value):=bindsM rfl d15 5 rfl fun us hl=>(by obtain⟨_,_,_,_,_,rfl⟩:=bl5 (us:=us) hl;exact⟨_,rfl,rfl⟩)
 have b15_1:Binds K (PySem.W.fnOf "__init__" "Bundle.__init__" (defArgs sBInit) (defBody sBInit) (defScope sBInit) (.ref T15) kV15 dc15 pm15 an15 cd15 ct15) ["self", "name", "starts", "goals", "room"] ([.int 0 dt15_0]:List Value):=bindsM rfl d15 4 rfl fun us hl=>(by obtain⟨_,_,_,_,rfl⟩:=bl4 (us:=us) hl;exact⟨_,rfl,rfl⟩)
 have F16:=fun_mk (st:=sInOrd) l16 c16 k16
 have b16:=bd1 (p0:= "spots") F16 fun _ _ _ _ _ _ _=>rfl
 have F17:=fun_mk (st:=sClear) l17 c17 k17
 have b17:=bd3 (p0:= "floor") (p1:= "free") (p2:= "spots") F17 fun _ _ _ _ _ _ _ _ _=>rfl
 have F18:=fun_mk (st:=sShut) l18 c18 k18
 have b18:=bd4 (p0:= "floor") (p1:= "free") (p2:= "spots") (p3:= "rim") F18 fun _ _ _ _ _ _ _ _ _ _=>rfl
 have F19:=fun_mk (st:=sMany) l19 c19 k19
 have b19:=bd2 (p0:= "ends") (p1:= "spots") F19 fun _ _ _ _ _ _ _ _=>rfl
 have F20:=fun_mk (st:=sCLaid) l20 c20 k20
 have b20:=bd1 (p0:= "self") F20 fun _ _ _ _ _ _ _=>rfl
 have F21:=fun_mk (st:=sCInit) l21 c21 k21
 have b21:=bd3 (p0:= "self") (p1:= "cut") (p2:= "spots") F21 fun _ _ _ _ _ _ _ _ _=>rfl
 have F22:=fun_mk (st:=sCHolds) l22 c22 k22
 have b22:=bd4 (p0:= "self") (p1:= "floor") (p2:= "free") (p3:= "thing") F22 fun _ _ _ _ _ _ _ _ _ _=>rfl
 have F23:=fun_mk (st:=sCell) l23 c23 k23
 have b23:=bd2 (p0:= "script") (p1:= "k") F23 fun _ _ _ _ _ _ _ _=>rfl
 have F24:=fun_mk (st:=sMix) l24 c24 k24
 have b24:=bd3 (p0:= "cell") (p1:= "k") (p2:= "prime") F24 fun _ _ _ _ _ _ _ _ _=>rfl
 have F25:=fun_mk (st:=sBeside) l25 c25 k25
 have b25:=bd2 (p0:= "doors") (p1:= "spot") F25 fun _ _ _ _ _ _ _ _=>rfl
 have F26:=fun_mk (st:=sLanes) l26 c26 k26
 have b26:=bd1 (p0:= "script") F26 fun _ _ _ _ _ _ _=>rfl
 have F27:=fun_mk (st:=sPicked) l27 c27 k27
 have b27:=bd4 (p0:= "script") (p1:= "at") (p2:= "lanes") (p3:= "many") F27 fun _ _ _ _ _ _ _ _ _ _=>rfl
 have F28:=fun_mk (st:=sStrewn) l28 c28 k28
 have b28:=bd4 (p0:= "script") (p1:= "lanes") (p2:= "columns") (p3:= "ends") F28 fun _ _ _ _ _ _ _ _ _ _=>rfl
 have F29:=fun_mk (st:=sPlan) l29 c29 k29
 have b29:=bd1 (p0:= "script") F29 fun _ _ _ _ _ _ _=>rfl
 have F30:=fun_mk (st:=sPut) l30 c30 k30
 have b30:=bd2 (p0:= "spots") (p1:= "spot") F30 fun _ _ _ _ _ _ _ _=>rfl
 have F31:=fun_mk (st:=sSpoilt) l31 c31 k31
 have b31:=bd4 (p0:= "script") (p1:= "plan") (p2:= "cut") (p3:= "shore") F31 fun _ _ _ _ _ _ _ _ _ _=>rfl
 have F32:=fun_mk (st:=sRows) l32 c32 k32
 have b32:=bd2 (p0:= "spots") (p1:= "doors") F32 fun _ _ _ _ _ _ _ _=>rfl
 have F33:=fun_mk (st:=sShuts) l33 c33 k33
 have b33:=bd5 (p0:= "cut") (p1:= "shore") (p2:= "doors") (p3:= "starts") (p4:= "goals") F33 fun _ _ _ _ _ _ _ _ _ _ _=>rfl
 have F34:=fun_mk (st:=sLThing) l34 c34 k34
 have b34:=bd3 (p0:= "script") (p1:= "starts") (p2:= "goals") F34 fun _ _ _ _ _ _ _ _ _=>rfl
 have F35:=fun_mk (st:=sLDue) l35 c35 k35
 have b35:=bd4 (p0:= "cut") (p1:= "shore") (p2:= "doors") (p3:= "thing") F35 fun _ _ _ _ _ _ _ _ _ _=>rfl
 have F36:=fun_mk (st:=slaw) l36 c36 k36
 refine⟨PySem.W.fnOf "law" "law" (defArgs slaw) (defBody slaw) (defScope slaw) .none kV36 dc36 pm36 an36 cd36 ct36,fun s v=> .of_eq rfl,fun base hB _=>?_⟩
 have gInside:Callee l.prog w K mg base "inside" 1 ["sizes", "spot"] spInside:=⟨f0,_,ok_Inside F0 T,PySem.W.mg_of X G a0,k0,b0⟩
 have gCSizes:Callee l.prog w K mg base "check_sizes" 1 ["sizes", "prices", "vias"] spCSizes:=⟨f1,_,ok_CSizes F1 hB T,PySem.W.mg_of X G a1,k1,b1⟩
 have gCPrice:Callee l.prog w K mg base "check_price" 1 ["price", "least"] spCPrice:=⟨f2,_,ok_CPrice F2 hB T,PySem.W.mg_of X G a2,k2,b2⟩
 have gCPrices:Callee l.prog w K mg base "check_prices" 2 ["prices", "vias", "tolls"] spCPrices:=⟨f3,_,ok_CPrices F3 T gCPrice,PySem.W.mg_of X G a3,k3,b3⟩
 have gCInside:Callee l.prog w K mg base "check_inside" 2 ["sizes", "spot"] spCInside:=⟨f4,_,ok_CInside F4 hB T gInside,PySem.W.mg_of X G a4,k4,b4⟩
 have gRound:Callee l.prog w K mg base "spots_round" 1 ["spot"] spRound:=⟨f5,_,ok_Round F5 T,PySem.W.mg_of X G a5,k5,b5⟩
 have gFInit:KCalleeM l.prog w K mg base cFloor "Floor" 3 ["self", "sizes", "prices", "vias", "rocks", "tolls"] (spFInit cFloor):=⟨f6,_,ok_FInit F6 T gCSizes gCPrices gCInside,⟨mk_Floor,a6,i6,kc_Floor⟩,PySem.W.mg_of X G n_Floor,b6_0,b6_1,b6_2⟩
 have gIsRock:MCallee l.prog w K mg base cFloor "is_rock" 3 ["self", "spot"] (spIsRock cFloor):=⟨f7,_,ok_IsRock F7 T gCInside,⟨a7,i7,k7⟩,b7⟩
 have gIsOpen:MCallee l.prog w K mg base cFloor "is_open" 2 ["self", "spot"] (spIsOpen cFloor):=⟨f8,_,ok_IsOpen F8 T gInside,⟨a8,i8,k8⟩,b8⟩
 have gPriced:MCallee l.prog w K mg base cFloor "priced" 1 ["self", "one", "two"] (spPriced cFloor):=⟨f9,_,ok_Priced F9 T,⟨a9,i9,k9⟩,b9⟩
 have gSteps:MCallee l.prog w K mg base cFloor "steps" 4 ["self", "spot"] (spSteps cFloor):=⟨f10,_,ok_Steps F10 T gRound gIsRock gIsOpen gPriced,⟨a10,i10,k10⟩,b10⟩
 have gName:Callee l.prog w K mg base "is_name" 1 ["name"] spName:=⟨f11,_,ok_Name F11 T,PySem.W.mg_of X G a11,k11,b11⟩
 have gUnlike:Callee l.prog w K mg base "check_unlike" 1 ["spots"] spUnlike:=⟨f12,_,ok_Unlike F12 hB T,PySem.W.mg_of X G a12,k12,b12⟩
 have gTInit:ClsCallee l.prog w K mg base cThing "__init__" 2 ["self", "name", "half", "room"] (spTInit cNet cBundle):=⟨f13,_,ok_TInit F13 hB T gName,⟨⟨_,r13,q13⟩,rfl,g13,k13⟩,b13⟩
 have gNInit:KCallee l.prog w K mg base cNet "Net" 3 ["self", "name", "pins", "half", "room"] (spNInit cNet):=⟨f14,_,ok_NInit F14 hB T gUnlike gTInit,⟨mk_Net,a14,i14,kc_Net⟩,PySem.W.mg_of X G n_Net,b14⟩
 have gBInit:KCalleeZ l.prog w K mg base cBundle "Bundle" 3 ["self", "name", "starts", "goals", "room"] (spBInit cBundle) 1:=⟨f15,_,ok_BInit F15 hB T gUnlike gTInit,⟨mk_Bundle,a15,i15,kc_Bundle⟩,PySem.W.mg_of X G n_Bundle,bindsZ1 b15_0 b15_1⟩
 have gInOrd:Callee l.prog w K mg base "in_order" 1 ["spots"] spInOrd:=⟨f16,_,ok_InOrd F16 T,PySem.W.mg_of X G a16,k16,b16⟩
 have gClear:Callee l.prog w K mg base "all_clear" 3 ["floor", "free", "spots"] (spClear cFloor):=⟨f17,_,ok_Clear F17 T gIsOpen,PySem.W.mg_of X G a17,k17,b17⟩
 have gShut:Callee l.prog w K mg base "shut_in" 5 ["floor", "free", "spots", "rim"] (spShut cFloor):=⟨f18,_,ok_Shut F18 T gSteps,PySem.W.mg_of X G a18,k18,b18⟩
 have gMany:Callee l.prog w K mg base "how_many" 1 ["ends", "spots"] spMany:=⟨f19,_,ok_Many F19 T,PySem.W.mg_of X G a19,k19,b19⟩
 have gCLaid:MCallee l.prog w K mg base cCutPaper "is_laid" 1 ["self"] spPLaid:=⟨f20,_,ok_CLaid F20 T,⟨a20,i20,k20⟩,b20⟩
 have gCInit:KCallee l.prog w K mg base cCutPaper "CutPaper" 1 ["self", "cut", "spots"] (spCInit cCutPaper):=⟨f21,_,ok_CInit F21 T,⟨mk_CutPaper,a21,i21,kc_CutPaper⟩,PySem.W.mg_of X G n_CutPaper,b21⟩
 have gCHolds:MCallee l.prog w K mg base cCutPaper "holds" 6 ["self", "floor", "free", "thing"] (spCHolds cCutPaper cFloor cNet cBundle):=⟨f22,_,ok_CHolds F22 T gInOrd gClear gShut gMany,⟨a22,i22,k22⟩,b22⟩
 have gCell:Callee l.prog w K mg base "_law_cell_at" 1 ["script", "k"] (spCell K):=⟨f23,_,ok_Cell F23 T,PySem.W.mg_of X G a23,k23,b23⟩
 have gMix:Callee l.prog w K mg base "_law_mix" 1 ["cell", "k", "prime"] spMix:=⟨f24,_,ok_Mix F24 T,PySem.W.mg_of X G a24,k24,b24⟩
 have gBeside:Callee l.prog w K mg base "_law_beside" 1 ["doors", "spot"] spBeside:=⟨f25,_,ok_Beside F25 T,PySem.W.mg_of X G a25,k25,b25⟩
 have gLanes:Callee l.prog w K mg base "_law_lanes" 2 ["script"] (spLanes K):=⟨f26,_,ok_Lanes F26 T gCell,PySem.W.mg_of X G a26,k26,b26⟩
 have gPicked:Callee l.prog w K mg base "_law_picked" 2 ["script", "at", "lanes", "many"] (spPicked K):=⟨f27,_,ok_Picked F27 T gCell gMix,PySem.W.mg_of X G a27,k27,b27⟩
 have gStrewn:Callee l.prog w K mg base "_law_strewn" 2 ["script", "lanes", "columns", "ends"] (spStrewn K):=⟨f28,_,ok_Strewn F28 T gMix,PySem.W.mg_of X G a28,k28,b28⟩
 have gPlan:Callee l.prog w K mg base "_law_plan" 3 ["script"] (spPlan K):=⟨f29,_,ok_Plan F29 T gCell gLanes gPicked gStrewn,PySem.W.mg_of X G a29,k29,b29⟩
 have gPut:Callee l.prog w K mg base "_law_put" 1 ["spots", "spot"] spPut:=⟨f30,_,ok_Put F30 T,PySem.W.mg_of X G a30,k30,b30⟩
 have gSpoilt:Callee l.prog w K mg base "_law_spoilt" 2 ["script", "plan", "cut", "shore"] (spSpoilt K):=⟨f31,_,ok_Spoilt F31 T gCell gPut,PySem.W.mg_of X G a31,k31,b31⟩
 have gRows:Callee l.prog w K mg base "_law_rows" 1 ["spots", "doors"] spRows:=⟨f32,_,ok_Rows F32 T,PySem.W.mg_of X G a32,k32,b32⟩
 have gShuts:Callee l.prog w K mg base "_law_shuts" 2 ["cut", "shore", "doors", "starts", "goals"] spShuts:=⟨f33,_,ok_Shuts F33 T gBeside gRows,PySem.W.mg_of X G a33,k33,b33⟩
 have gLThing:Callee l.prog w K mg base "_law_thing" 5 ["script", "starts", "goals"] (spLThing K cNet cBundle):=⟨f34,_,ok_LThing F34 T gNInit gBInit gCell,PySem.W.mg_of X G a34,k34,b34⟩
 have gLDue:Callee l.prog w K mg base "_law_due" 3 ["cut", "shore", "doors", "thing"] (spLDue cNet cBundle):=⟨f35,_,ok_LDue F35 T gShuts,PySem.W.mg_of X G a35,k35,b35⟩
 exact ok_law F36 T gFInit gCLaid gCInit gCHolds gCell gPlan gSpoilt gLThing gLDue
theorem walk {l:PySem.W.OpenLaw}{q:Program}{loose:List Str}{XP:(Str→Option Value)→Heap→Prop}{YP:World→Heap→Prop}{d:DefRec}{K:Params→PySem.W.Frag}(hn:l.most=some 63)(hdf:d.params.defaults=[])
  (hY:∀(w:World) (h:Heap),YP w h→(K w.params).In h)
  (F:∀(w:World) (mg:Str→Option Value) (fa:Addr) (h:Heap),(K w.params).In h→h.Ns mainGlobals mg→mg d.name=some (.ref fa)→
   ∃fd:FuncData,(∀(s:Shared) (u:Value),BindsTo s fd ⟨[u],[]⟩ [("script",u)])∧∀base:Heap,(K w.params).In base→base.Ns mainGlobals mg→FnOk l.prog w (K w.params) mg base CX0 7 fa fd ["script"] (spLaw (K w.params))):
  PySem.W.WalkO q loose XP YP l.row.toRowW d [] (fun f vs=>PySem.call f vs):=
 L2.walk_of (n:=63) (k:=7) (x:= "script") (CX:=fun _=>CX0) (sp:=fun w=>spLaw (K w.params)) hn (by decide) hdf ⟨rfl,by decide,by decide,rfl⟩ hY F (fun _ _ a ns hl _ hS=>⟨a,ns,rfl,hS,hl,fun _=>rfl⟩) fun _ _ _ _ _ z=>z
end K36
end
/-! these names are taken, so that the head lays no second forms of the greatest of its objects -/
def PySem.W.Fast.tw6986424255334283917 : Unit := ()
def PySem.W.Fast.tw11042104320715764072 : Unit := ()
def PySem.W.Fast.tw3412445127641584601 : Unit := ()
def PySem.W.Fast.tw14366197124438600125 : Unit := ()
def PySem.W.Fast.tw17986426608046078276 : Unit := ()
def PySem.W.Fast.tw333283642831050384 : Unit := ()
def PySem.W.Fast.tw7149144432136593966 : Unit := ()
def PySem.W.Fast.tw14146983438951698707 : Unit := ()
def PySem.W.Fast.tw11593958638758876926 : Unit := ()
def PySem.W.Fast.tw16345472376240210887 : Unit := ()
def PySem.W.Fast.tw2808622371523329012 : Unit := ()
def PySem.W.Fast.tw16072253110512007218 : Unit := ()
def PySem.W.Fast.tw444601202626437782 : Unit := ()
def PySem.W.Fast.tw14815589593725165910 : Unit := ()
def PySem.W.Fast.tw8426624766738826020 : Unit := ()
def PySem.W.Fast.tw14476858087853279085 : Unit := ()
def PySem.W.Fast.tw9485321174780192922 : Unit := ()
def PySem.W.Fast.tw1289113974594303190 : Unit := ()
def PySem.W.Fast.tw7450896968793494813 : Unit := ()
def PySem.W.Fast.tw13219591829491913864 : Unit := ()
def PySem.W.Fast.tw6742337797269232243 : Unit := ()
def PySem.W.Fast.tw2756713181200535819 : Unit := ()
def PySem.W.Fast.tw9100112448820588733 : Unit := ()
def PySem.W.Fast.tw4245382884506789572 : Unit := ()
def PySem.W.Fast.tw13279616985678730600 : Unit := ()
def PySem.W.Fast.tw12022842718555392742 : Unit := ()
def PySem.W.Fast.tw4877481715369459198 : Unit := ()
def PySem.W.Fast.tw15806476173731791999 : Unit := ()
def PySem.W.Fast.tw14060497911250324184 : Unit := ()
def PySem.W.Fast.tw11117994896495977345 : Unit := ()
def PySem.W.Fast.tw12948720178901477889 : Unit := ()
def PySem.W.Fast.tw10489197675282925277 : Unit := ()
def PySem.W.Fast.tw16570447131581967724 : Unit := ()
def PySem.W.Fast.tw2331850591457845319 : Unit := ()
def PySem.W.Fast.tw10292956219297492947 : Unit := ()
def PySem.W.Fast.tw11738890878633523944 : Unit := ()
def PySem.W.Fast.tw16866365326901022589 : Unit := ()
def PySem.W.Fast.tw6205159532242761309 : Unit := ()
def PySem.W.Fast.tw14118577337821355854 : Unit := ()
def PySem.W.Fast.tw13072891847384606805 : Unit := ()
def PySem.W.Fast.tw15021346826144917558 : Unit := ()
def PySem.W.Fast.tw9531995665455289173 : Unit := ()
def PySem.W.Fast.tw3740966990128865954 : Unit := ()
def PySem.W.Fast.tw18441479716835530891 : Unit := ()
def PySem.W.Fast.tw2624918933709169946 : Unit := ()
def PySem.W.Fast.tw13582354218507216966 : Unit := ()
def PySem.W.Fast.tw6409161287851147414 : Unit := ()
def PySem.W.Fast.tw12608169787892496689 : Unit := ()
def PySem.W.Fast.tw6783096583921204689 : Unit := ()
def PySem.W.Fast.tw10670031964101436700 : Unit := ()
def PySem.W.Fast.tw7989589111883771651 : Unit := ()
def PySem.W.Fast.tw4131655902234719671 : Unit := ()
def PySem.W.Fast.tw12054758396157685896 : Unit := ()
def PySem.W.Fast.tw14954133536042202104 : Unit := ()
def PySem.W.Fast.tw7935164690556340081 : Unit := ()
def PySem.W.Fast.tw5921784747147368215 : Unit := ()
def PySem.W.Fast.tw4838807167017408309 : Unit := ()
def PySem.W.Fast.tw13679670285973149750 : Unit := ()
def PySem.W.Fast.tw11715195007551860284 : Unit := ()
def PySem.W.Fast.tw5406383326653453853 : Unit := ()
def PySem.W.Fast.tw14406138668858317927 : Unit := ()
def PySem.W.Fast.tw6397363828749203343 : Unit := ()
def PySem.W.Fast.tw7764068149388632127 : Unit := ()
def PySem.W.Fast.tw6234879508290558572 : Unit := ()
def PySem.W.Fast.tw9928152456827765083 : Unit := ()
def PySem.W.Fast.tw16790911537825225113 : Unit := ()
def PySem.W.Fast.tw8301729830787366429 : Unit := ()
def PySem.W.Fast.tw6627113612962987704 : Unit := ()
def PySem.W.Fast.tw17010472283730782645 : Unit := ()
def PySem.W.Fast.tw7817456899370611039 : Unit := ()
def PySem.W.Fast.tw7262595106965013248 : Unit := ()
def PySem.W.Fast.tw15755754338699620308 : Unit := ()
def PySem.W.Fast.tw5833994277423287817 : Unit := ()
def PySem.W.Fast.tw2351344195169021361 : Unit := ()
def PySem.W.Fast.tw634250776683422275 : Unit := ()
def PySem.W.Fast.tw9688149662482858905 : Unit := ()
def PySem.W.Fast.tw7778743622471066170 : Unit := ()
def PySem.W.Fast.tw12339175398458932486 : Unit := ()
def PySem.W.Fast.tw12986923470058379622 : Unit := ()
def PySem.W.Fast.tw1284839714112459694 : Unit := ()
def PySem.W.Fast.tw1937243092477607863 : Unit := ()
def PySem.W.Fast.tw7051331023100051270 : Unit := ()
def PySem.W.Fast.tw14042524341828799069 : Unit := ()
def PySem.W.Fast.tw2901335574335457267 : Unit := ()
def PySem.W.Fast.tw8559362873967106321 : Unit := ()
def PySem.W.Fast.tw1600081550289917153 : Unit := ()
def PySem.W.Fast.tw318514538590507416 : Unit := ()
def PySem.W.Fast.tw2908945700532197185 : Unit := ()
def PySem.W.Fast.tw13899361896125966557 : Unit := ()
def PySem.W.Fast.tw7325057988589102865 : Unit := ()
def PySem.W.Fast.tw2945078504241569669 : Unit := ()
def PySem.W.Fast.tw16199814827448397052 : Unit := ()
def PySem.W.Fast.tw6103815884735511885 : Unit := ()
def PySem.W.Fast.tw3382676642123577390 : Unit := ()
def PySem.W.Fast.tw9928979831160268379 : Unit := ()
def PySem.W.Fast.tw15321573326652264284 : Unit := ()
def PySem.W.Fast.tw7476697843066702565 : Unit := ()
def PySem.W.Fast.tw4877965044300270982 : Unit := ()
def PySem.W.Fast.tw11506038214948395132 : Unit := ()
def PySem.W.Fast.tw7340334231645364990 : Unit := ()
def PySem.W.Fast.tw17811302827570738744 : Unit := ()
def PySem.W.Fast.tw11916630430221956299 : Unit := ()
def PySem.W.Fast.tw15346458262194166247 : Unit := ()
open PySem PySem.W PyProof.Rows
set_option maxRecDepth 100000 in
set_option maxHeartbeats 0 in
theorem PySem.Challenge.cw_wirefloor_k36_cut_papers_holds : PySem.Challenge.rw_wirefloor_k36_cut_papers.Holds := by
  w_on; o_law; k_head; (case hw => w_witness2)
  k_fill
  refine K36.walk (l := PySem.Challenge.rw_wirefloor_k36_cut_papers) rfl rfl (fun w h Y => PySem.W.kIn_of Y) ?F
  case F =>
    intro w mg fa h KX G hmg
    refine' K36.all_mk KX G hmg ?n_Thing ?n_Net ?n_Bundle ?n_Paper ?n_CutPaper ?n_Floor ?a0 ?l0 ?c0 ?k0 ?a1 ?l1 ?c1 ?k1 ?a2 ?l2 ?c2 ?k2 ?a3 ?l3 ?c3 ?k3 ?a4 ?l4 ?c4 ?k4 ?a5 ?l5 ?c5 ?k5 ?a6 ?i6 ?l6 ?d6 ?c6 ?k6 ?a7 ?i7 ?l7 ?c7 ?k7 ?a8 ?i8 ?l8 ?c8 ?k8 ?a9 ?i9 ?l9 ?c9 ?k9 ?a10 ?i10 ?l10 ?c10 ?k10 ?a11 ?l11 ?c11 ?k11 ?a12 ?l12 ?c12 ?k12 ?r13 ?q13 ?g13 ?l13 ?c13 ?k13 ?a14 ?i14 ?l14 ?d14 ?c14 ?k14 ?a15 ?i15 ?l15 ?d15 ?c15 ?k15 ?a16 ?l16 ?c16 ?k16 ?a17 ?l17 ?c17 ?k17 ?a18 ?l18 ?c18 ?k18 ?a19 ?l19 ?c19 ?k19 ?a20 ?i20 ?l20 ?c20 ?k20 ?a21 ?i21 ?l21 ?c21 ?k21 ?a22 ?i22 ?l22 ?c22 ?k22 ?a23 ?l23 ?c23 ?k23 ?a24 ?l24 ?c24 ?k24 ?a25 ?l25 ?c25 ?k25 ?a26 ?l26 ?c26 ?k26 ?a27 ?l27 ?c27 ?k27 ?a28 ?l28 ?c28 ?k28 ?a29 ?l29 ?c29 ?k29 ?a30 ?l30 ?c30 ?k30 ?a31 ?l31 ?c31 ?k31 ?a32 ?l32 ?c32 ?k32 ?a33 ?l33 ?c33 ?k33 ?a34 ?l34 ?c34 ?k34 ?a35 ?l35 ?c35 ?k35 ?a36 ?l36 ?c36 ?k36 ?pg_Thing ?hd_Thing ?po_Thing ?sa_Thing ?pg_Net ?hd_Net ?po_Net ?sa_Net ?mk_Net ?kc_Net ?na_Net_name ?na_Net_half ?na_Net_room ?na_Net_pins ?pg_Bundle ?hd_Bundle ?po_Bundle ?sa_Bundle ?mk_Bundle ?kc_Bundle ?na_Bundle_name ?na_Bundle_half ?na_Bundle_room ?na_Bundle_starts ?na_Bundle_goals ?pg_Paper ?hd_Paper ?po_Paper ?sa_Paper ?pg_CutPaper ?hd_CutPaper ?po_CutPaper ?sa_CutPaper ?mk_CutPaper ?kc_CutPaper ?na_CutPaper_cut ?na_CutPaper_spots ?pg_Floor ?hd_Floor ?po_Floor ?sa_Floor ?mk_Floor ?kc_Floor ?na_Floor_sizes ?na_Floor_prices ?na_Floor_vias ?na_Floor_rocks ?na_Floor_tolls ?z_len ?z_range ?z_isinstance ?z_int ?z_bool ?z_tuple ?z_set ?z_list ?z_dict ?z_sorted ?z_zip ?z_min ?z_all ?z_any ?z_reversed ?z_max ?q_LETTERS ?q_FIGURES ?q_MOST_PRICE ?q_MOST_SIGNS ?q_MOST_HALF ?q_MOST_ROOM ?q_MOST_PINS ?q_MOST_STARTS ?q_MOST_GOALS ?q_MOST_SIZES ?qt_MOST_SIZES ?bb ?nb ?b2 ?sp ?qN ?qB ?qS ?qg ?qt ?oN ?oB ?oS
    (case n_Thing => k_is)
    (case n_Net => k_is)
    (case n_Bundle => k_is)
    (case n_Paper => k_is)
    (case n_CutPaper => k_is)
    (case n_Floor => k_is)
    (case a0 => k_is)
    (case l0 => k_is)
    (case c0 => k_is)
    (case k0 => k_is)
    (case a1 => k_is)
    (case l1 => k_is)
    (case c1 => k_is)
    (case k1 => k_is)
    (case a2 => k_is)
    (case l2 => k_is)
    (case c2 => k_is)
    (case k2 => k_is)
    (case a3 => k_is)
    (case l3 => k_is)
    (case c3 => k_is)
    (case k3 => k_is)
    (case a4 => k_is)
    (case l4 => k_is)
    (case c4 => k_is)
    (case k4 => k_is)
    (case a5 => k_is)
    (case l5 => k_is)
    (case c5 => k_is)
    (case k5 => k_is)
    (case a6 => k_is)
    (case i6 => k_is)
    (case l6 => k_is)
    (case d6 => k_is)
    (case c6 => k_is)
    (case k6 => k_is)
    (case a7 => k_is)
    (case i7 => k_is)
    (case l7 => k_is)
    (case c7 => k_is)
    (case k7 => k_is)
    (case a8 => k_is)
    (case i8 => k_is)
    (case l8 => k_is)
    (case c8 => k_is)
    (case k8 => k_is)
    (case a9 => k_is)
    (case i9 => k_is)
    (case l9 => k_is)
    (case c9 => k_is)
    (case k9 => k_is)
    (case a10 => k_is)
    (case i10 => k_is)
    (case l10 => k_is)
    (case c10 => k_is)
    (case k10 => k_is)
    (case a11 => k_is)
    (case l11 => k_is)
    (case c11 => k_is)
    (case k11 => k_is)
    (case a12 => k_is)
    (case l12 => k_is)
    (case c12 => k_is)
    (case k12 => k_is)
    (case r13 => k_is)
    (case q13 => k_is)
    (case g13 => k_is)
    (case l13 => k_is)
    (case c13 => k_is)
    (case k13 => k_is)
    (case a14 => k_is)
    (case i14 => k_is)
    (case l14 => k_is)
    (case d14 => k_is)
    (case c14 => k_is)
    (case k14 => k_is)
    (case a15 => k_is)
    (case i15 => k_is)
    (case l15 => k_is)
    (case d15 => k_is)
    (case c15 => k_is)
    (case k15 => k_is)
    (case a16 => k_is)
    (case l16 => k_is)
    (case c16 => k_is)
    (case k16 => k_is)
    (case a17 => k_is)
    (case l17 => k_is)
    (case c17 => k_is)
    (case k17 => k_is)
    (case a18 => k_is)
    (case l18 => k_is)
    (case c18 => k_is)
    (case k18 => k_is)
    (case a19 => k_is)
    (case l19 => k_is)
    (case c19 => k_is)
    (case k19 => k_is)
    (case a20 => k_is)
    (case i20 => k_is)
    (case l20 => k_is)
    (case c20 => k_is)
    (case k20 => k_is)
    (case a21 => k_is)
    (case i21 => k_is)
    (case l21 => k_is)
    (case c21 => k_is)
    (case k21 => k_is)
    (case a22 => k_is)
    (case i22 => k_is)
    (case l22 => k_is)
    (case c22 => k_is)
    (case k22 => k_is)
    (case a23 => k_is)
    (case l23 => k_is)
    (case c23 => k_is)
    (case k23 => k_is)
    (case a24 => k_is)
    (case l24 => k_is)
    (case c24 => k_is)
    (case k24 => k_is)
    (case a25 => k_is)
    (case l25 => k_is)
    (case c25 => k_is)
    (case k25 => k_is)
    (case a26 => k_is)
    (case l26 => k_is)
    (case c26 => k_is)
    (case k26 => k_is)
    (case a27 => k_is)
    (case l27 => k_is)
    (case c27 => k_is)
    (case k27 => k_is)
    (case a28 => k_is)
    (case l28 => k_is)
    (case c28 => k_is)
    (case k28 => k_is)
    (case a29 => k_is)
    (case l29 => k_is)
    (case c29 => k_is)
    (case k29 => k_is)
    (case a30 => k_is)
    (case l30 => k_is)
    (case c30 => k_is)
    (case k30 => k_is)
    (case a31 => k_is)
    (case l31 => k_is)
    (case c31 => k_is)
    (case k31 => k_is)
    (case a32 => k_is)
    (case l32 => k_is)
    (case c32 => k_is)
    (case k32 => k_is)
    (case a33 => k_is)
    (case l33 => k_is)
    (case c33 => k_is)
    (case k33 => k_is)
    (case a34 => k_is)
    (case l34 => k_is)
    (case c34 => k_is)
    (case k34 => k_is)
    (case a35 => k_is)
    (case l35 => k_is)
    (case c35 => k_is)
    (case k35 => k_is)
    (case a36 => k_is)
    (case l36 => k_is)
    (case c36 => k_is)
    (case k36 => k_is)
    (case pg_Thing => k_is)
    (case hd_Thing => k_is)
    (case po_Thing => k_is)
    (case sa_Thing => k_is)
    (case pg_Net => k_is)
    (case hd_Net => k_is)
    (case po_Net => k_is)
    (case sa_Net => k_is)
    (case mk_Net => k_is)
    (case kc_Net => k_is)
    (case na_Net_name => k_is)
    (case na_Net_half => k_is)
    (case na_Net_room => k_is)
    (case na_Net_pins => k_is)
    (case pg_Bundle => k_is)
    (case hd_Bundle => k_is)
    (case po_Bundle => k_is)
    (case sa_Bundle => k_is)
    (case mk_Bundle => k_is)
    (case kc_Bundle => k_is)
    (case na_Bundle_name => k_is)
    (case na_Bundle_half => k_is)
    (case na_Bundle_room => k_is)
    (case na_Bundle_starts => k_is)
    (case na_Bundle_goals => k_is)
    (case pg_Paper => k_is)
    (case hd_Paper => k_is)
    (case po_Paper => k_is)
    (case sa_Paper => k_is)
    (case pg_CutPaper => k_is)
    (case hd_CutPaper => k_is)
    (case po_CutPaper => k_is)
    (case sa_CutPaper => k_is)
    (case mk_CutPaper => k_is)
    (case kc_CutPaper => k_is)
    (case na_CutPaper_cut => k_is)
    (case na_CutPaper_spots => k_is)
    (case pg_Floor => k_is)
    (case hd_Floor => k_is)
    (case po_Floor => k_is)
    (case sa_Floor => k_is)
    (case mk_Floor => k_is)
    (case kc_Floor => k_is)
    (case na_Floor_sizes => k_is)
    (case na_Floor_prices => k_is)
    (case na_Floor_vias => k_is)
    (case na_Floor_rocks => k_is)
    (case na_Floor_tolls => k_is)
    (case z_len => k_is)
    (case z_range => k_is)
    (case z_isinstance => k_is)
    (case z_int => k_is)
    (case z_bool => k_is)
    (case z_tuple => k_is)
    (case z_set => k_is)
    (case z_list => k_is)
    (case z_dict => k_is)
    (case z_sorted => k_is)
    (case z_zip => k_is)
    (case z_min => k_is)
    (case z_all => k_is)
    (case z_any => k_is)
    (case z_reversed => k_is)
    (case z_max => k_is)
    (case q_LETTERS => k_is)
    (case q_FIGURES => k_is)
    (case q_MOST_PRICE => k_is)
    (case q_MOST_SIGNS => k_is)
    (case q_MOST_HALF => k_is)
    (case q_MOST_ROOM => k_is)
    (case q_MOST_PINS => k_is)
    (case q_MOST_STARTS => k_is)
    (case q_MOST_GOALS => k_is)
    (case q_MOST_SIZES => k_is)
    (case qt_MOST_SIZES => k_is)
    (case bb => kit_is)
    (case nb => kit_is)
    (case b2 => kit_is)
    (case sp => kit_is)
    (case qN => k_is)
    (case qB => k_is)
    (case qS => k_is)
    (case qg => k_is)
    (case qt => k_is)
    (case oN => k_is)
    (case oB => k_is)
    (case oS => k_is)
