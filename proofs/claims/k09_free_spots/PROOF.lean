import PyProof.Rows.All
import Wide.All
import OpenK.AllK
import Wide.FinOn
import Lean
import PyProof.EqAt
import PyProof.EqKinds
import PyProof.TupleCall
import OpenK.KRaise
import OpenK.KOwn
import KE.KTryMore
import KE.RegKTryMore
import PyProof.ExcArgsOwn
import KE.KIntText
import KE.KSortTup
import KE.KDictOf
import KE.KRevIter
import KE.KEqDict
import PyProof.Rows.SetFrom
import PyProof.TupleKey
import PyProof.Rows.SetObj
import PyProof.SetRoads
import PyProof.IsiH_list
import PyProof.ZipIter
import PyProof.Rows.TupIter
import PyProof.DictValues
import PyProof.DictWalks
import KE.KDictSum
import KE.KNest
import KE.KLam
import KE.KNestM
import KE.KDictList
import KE.KDictLaws
import PyProof.Rows.SetFrom
import PyProof.TupleKey
import PyProof.Rows.SetObj
import PyProof.SetRoads
import PyProof.StrLawsRepr
import PyProof.ReprStr
import PyProof.FString
import PyProof.EnumMake
import PySem.Challenge.RW_wirefloor_k09_free_spots
set_option Elab.async false
set_option linter.all false
set_option maxRecDepth 100000
noncomputable section
namespace L2
open PySem PySem.Spec PyProof.Rows
abbrev Key:=Sum Int Str
noncomputable def keyIs:Key→Value→Bool
 | .inl k,v=>Value.isInt k v
 | .inr x,v=>Value.isStrOf x v
noncomputable def keyH (w:World):Key→Int
 | .inl k=>hashInt k
 | .inr x=>hashStr w x
theorem keyIs_shape:∀{k:Key} {v:Value},keyIs k v=true→(∃i t,k=Sum.inl i∧v=Value.int i t)∨(∃x t,k=Sum.inr x∧v=Value.str x t)
 | .inl i,v,h=>by
  obtain⟨t,e⟩:=Value.isInt_shape (k:=i) (v:=v) h
  exact .inl ⟨i,t,rfl,e⟩
 | .inr x,v,h=>by
  obtain⟨t,e⟩:=Value.isStrOf_shape (x:=x) (v:=v) h
  exact .inr ⟨x,t,rfl,e⟩
theorem keyIs_int (i:Int)(t:Tok):keyIs (.inl i) (.int i t)=true:=by simp[keyIs,Value.isInt]
theorem keyIs_str (x:Str)(t:Tok):keyIs (.inr x) (.str x t)=true:=by simp[keyIs,Value.isStrOf]
theorem key_ll (a b:Int):decide ((Sum.inl a:Key)=Sum.inl b)=(a==b):=by
 by_cases e:a=b
 ·subst e;simp
 ·have h:¬(Sum.inl a:Key)=Sum.inl b:=fun q=>e (Sum.inl.inj q)
  rw[decide_eq_false h]
  exact(beq_eq_false_iff_ne.mpr e).symm
theorem key_rr (a b:Str):decide ((Sum.inr a:Key)=Sum.inr b)=decide (a=b):=by
 by_cases e:a=b
 ·subst e;simp
 ·have h:¬(Sum.inr a:Key)=Sum.inr b:=fun q=>e (Sum.inr.inj q)
  rw[decide_eq_false h,decide_eq_false e]
theorem key_lr (a:Int)(b:Str):decide ((Sum.inl a:Key)=Sum.inr b)=false:=decide_eq_false (fun q=>nomatch q)
theorem key_rl (a:Str)(b:Int):decide ((Sum.inr a:Key)=Sum.inl b)=false:=decide_eq_false (fun q=>nomatch q)
noncomputable def mixKind (prog:Program) (w:World):PySem.KeyKind prog w Key where
 is:=keyIs
 hash:=keyH w
 inj:=fun v a b ha hb=>by
  rcases keyIs_shape ha with ⟨i,t,rfl,rfl⟩|⟨x,t,rfl,rfl⟩
  ·rcases keyIs_shape hb with ⟨j,u,rfl,e⟩|⟨y,u,rfl,e⟩
   ·injection e with e1 _;rw[e1]
   ·exact nomatch e
  ·rcases keyIs_shape hb with ⟨j,u,rfl,e⟩|⟨y,u,rfl,e⟩
   ·exact nomatch e
   ·injection e with e1 _;rw[e1]
 byValue:=fun k v h=>by
  rcases keyIs_shape h with ⟨i,t,rfl,rfl⟩|⟨x,t,rfl,rfl⟩<;>rfl
 pyHash:=fun hv h=>by
  rcases keyIs_shape hv with ⟨i,t,rfl,rfl⟩|⟨x,t,rfl,rfl⟩
  ·exact wpAny_pyHash_int h
  ·exact wpAny_pyHash_str h
 eqBool:=fun hu hv h=>by
  rcases keyIs_shape hu with ⟨i,t,rfl,rfl⟩|⟨x,t,rfl,rfl⟩
  ·rcases keyIs_shape hv with ⟨j,u,rfl,rfl⟩|⟨y,u,rfl,rfl⟩
   ·rw[key_ll] at h;exact wpAny_eqBool_int h
   ·rw[key_lr] at h;exact SeqAt.EqAt.int_str i t y u _ _ _ _ h
  ·rcases keyIs_shape hv with ⟨j,u,rfl,rfl⟩|⟨y,u,rfl,rfl⟩
   ·rw[key_rl] at h;exact SeqAt.EqAt.str_int x t j u _ _ _ _ h
   ·rw[key_rr] at h;exact wpAny_eqBool_str h
 «strs»:=fun k x t v h=>by
  rcases keyIs_shape h with ⟨i,u,rfl,e⟩|⟨y,u,rfl,e⟩
  ·exact nomatch e
  ·injection e with e1 _
   subst e1
   cases v<;>rfl
theorem mixKind_int (prog:Program)(w:World)(i:Int)(t:Tok):(mixKind prog w).is (.inl i) (.int i t)=true:=keyIs_int i t
theorem mixKind_str (prog:Program)(w:World)(x:Str)(t:Tok):(mixKind prog w).is (.inr x) (.str x t)=true:=keyIs_str x t
inductive V where
 |non|bl (b:Bool)|int (i:Int)|str (x:Str)|byt (b:Array UInt8)|flt (b:UInt64)|ref (a:Addr)|ty (n:String)
 deriving DecidableEq
noncomputable def RelV:V→Value→Prop
 | .non,u=>u=Value.none
 | .bl b,u=>u=Value.bool b
 | .int i,u=>∃t,u=Value.int i t
 | .str x,u=>∃t,u=Value.str x t
 | .byt b,u=>∃t,u=Value.bytes b t
 | .flt b,u=>∃t,u=Value.float b t
 | .ref a,u=>u=Value.ref a
 | .ty n,u=>u=Value.type n
abbrev Vals:List V→List Value→Prop:=Paired RelV
theorem Vals.length {xs:List V}{us:List Value}(r:Vals xs us):xs.length=us.length:=Paired.length r
theorem Vals.get:∀{xs:List V} {us:List Value} {i:Nat} {x:V},Vals xs us→xs[i]?=some x→∃u,us[i]?=some u∧RelV x u
 |_,_,_,_,.nil,e=>by simp at e
 |_,_,0,_,.cons r _,e=>by simp at e;subst e;exact⟨_,rfl,r⟩
 |_,_,i+1,x,.cons _ t,e=>by
  obtain⟨u,h1,h2⟩:=Vals.get (i:=i) (x:=x) t (by simpa using e)
  exact⟨u,by simpa using h1,h2⟩
theorem Vals.set {x:V}{u:Value}(r:RelV x u):∀{xs:List V} {us:List Value} (i:Nat),Vals xs us→Vals (xs.set i x) (us.set i u)
 |_,_,_,.nil=> .nil
 |_,_,0,.cons _ t=> .cons r t
 |_,_,i+1,.cons q t=> .cons q (Vals.set r i t)
theorem Vals.append:∀{xs ys:List V} {us ws:List Value},Vals xs us→Vals ys ws→Vals (xs++ys) (us++ws)
 |_,_,_,_,.nil,s=>s
 |_,_,_,_,.cons r t,s=> .cons r (Vals.append t s)
noncomputable def RelO:Option V→Option Value→Prop
 |some v,some u=>RelV v u
 |none,none=>True
 |_,_=>False
def KV {κ:Type}:List (κ×V)→List (κ×Value)→Prop:=Paired fun(p:κ×V) (q:κ×Value)=>p.1=q.1∧RelV p.2 q.2
def kV:Key→V
 | .inl i=> .int i
 | .inr x=> .str x
inductive HO where
 |lst (xs:List V)
 |tup (xs:List V)
 |dK (kvs:List (Key×V))|dT (kvs:List (List Key×V))
 |set (S:Int→Bool) (n:Nat)
 |ins (C dx:Addr) (fs:List (Str×V))
 |own (x:Addr)
 |xd (fs:List (Str×V))
 |met (f x:Addr)
 |rng (lo hi:Int)
 |frz (o:Obj) (u:HO)
 |tbl (ps:Array Value)
 |ext (φ:Heap→Prop)
abbrev Hp:=Addr→Option HO
noncomputable def upd (H:Hp) (a:Addr) (o:HO):Hp:=fun b=>if b=a then some o else H b
theorem upd_same {H:Hp}{a:Addr}{o:HO}:upd H a o a=some o:=by unfold upd;rw[if_pos rfl]
theorem upd_ne {H:Hp}{a b:Addr}{o:HO}(h:b≠a):upd H a o b=H b:=by unfold upd;rw[if_neg h]
theorem upd_upd {H:Hp}{a:Addr}{o u:HO}:upd (upd H a o) a u=upd H a u:=by
 funext b;unfold upd;split<;>rfl
theorem ne_of {H:Hp}{a b:Addr}{o u:HO}(h:H a=some o)(h':H b=some u)(d:o≠u):a≠b:=by
 intro e;subst e;rw[h] at h';exact d (Option.some.inj h')
theorem ne_of_none {H:Hp}{a b:Addr}{o:HO}(h:H a=some o)(h':H b=none):a≠b:=by
 intro e;subst e;rw[h] at h';cases h'
section
variable (P:Program) (w:World)
noncomputable def ObjOk (H:Hp) (h:Heap) (a:Addr):HO→Prop
 | .lst xs=>xs.length≤sizeLine∧∃(its:List Value) (n:Nat),Vals xs its∧h.get? a=some {cls:=.type "list",data:=.seq its.toArray n}
 | .tup xs=>xs.length≤sizeLine∧∃its:List Value,Vals xs its∧IsTup h a its.toArray
 | .dK kvs=>kvs.length≤sizeLine∧(a==sysModules)=false∧∃vs,KV kvs vs∧h.DictOf (mixKind P w) a vs
 | .dT kvs=>kvs.length≤sizeLine∧(a==sysModules)=false∧∃xs:List (List Key×Addr×Value),
   Paired (fun(p:List Key×V) (q:List Key×Addr×Value)=>p.1=q.1∧H q.2.1=some (.tup (p.1.map kV))∧RelV p.2 q.2.2) kvs xs∧
   ∃o es ep,h.get? a=some o∧o.ExactDict∧o.data=.dict es ep∧es.toList=xs.map (entryOfKey (tupleKind (mixKind P w)))∧(xs.map (·.1)).Nodup
 | .set S n=>h.SetOf (intKind P w) a S n
 | .ins C dx fs=>H dx=some (.own a)∧fs.length≤1000∧dx≠a∧h.get? a=some (PySem.W.instObj C dx)∧
   ∃mA,h.Ns1 dx mA∧(∀f,RelO (fs.lookup f) (mA f))∧PySem.Within mA (fs.map (·.1))
 | .own _=>∃o,h.get? a=some o
 | .xd fs=>∃mA,h.Ns1 a mA∧∀f,RelO (fs.lookup f) (mA f)
 | .rng lo hi=>∃t u v,h.get? a=some {cls:=.type "range",data:=.fields #[.int lo t,.int hi u,.int 1 v]}
 | .frz o u=>h.get? a=some o∧ObjOk H h a u
 | .tbl ps=>h.get? a=some {cls:=.none,data:=.fields ps}
 | .met f x=>h.get? a=some (PySem.W.methodObj (.ref f) (.ref x))
 | .ext φ=>φ h∧(∃o,h.get? a=some o)∧∀h1 h2:Heap,φ h1→(∀o,h1.get? a=some o→h2.get? a=some o)→φ h2
def HOk (H:Hp) (h:Heap):Prop:=∀a o,H a=some o→ObjOk P w H h a o
end
section
variable {P:Program} {w:World} {H H':Hp} {h h':Heap} {a:Addr} {o:HO}
theorem ObjOk.lt (x:ObjOk P w H h a o):a<h.objs.size:=by
 cases o with
 |lst xs=>obtain⟨_,_,_,_,e⟩:=x;exact Heap.lt_size e
 |tup xs=>obtain⟨_,_,_,p⟩:=x;exact p.lt
 |dK kvs=>obtain⟨_,_,_,_,o,_,_,e,_⟩:=x;exact Heap.lt_size e
 |dT kvs=>obtain⟨_,_,_,_,o,_,_,e,_⟩:=x;exact Heap.lt_size e
 |set S n=>obtain⟨o,_,_,_,e,_⟩:=x;exact Heap.lt_size e
 |ins C dx fs=>obtain⟨_,_,_,e,_⟩:=x;exact Heap.lt_size e
 |own y=>obtain⟨_,e⟩:=x;exact Heap.lt_size e
 |xd fs=>obtain⟨_,⟨_,_,_,e,_⟩,_⟩:=x;exact Heap.lt_size e
 |rng lo hi=>obtain⟨_,_,_,e⟩:=x;exact Heap.lt_size e
 |frz ob u=>obtain⟨e,_⟩:=x;exact Heap.lt_size e
 |tbl ps=>exact Heap.lt_size (show h.get? a=some _ from x)
 |met f y=>exact Heap.lt_size (show h.get? a=some _ from x)
 |ext φ=>obtain⟨_,⟨_,e⟩,_⟩:=x;exact Heap.lt_size e
theorem Paired.mapP {α β:Type}{F G:α→β→Prop}:∀{l₁:List α} {l₂:List β},Paired F l₁ l₂→(∀a b,F a b→G a b)→Paired G l₁ l₂
 |_,_,.nil,_=> .nil
 |_,_,.cons r t,f=> .cons (f _ _ r) (Paired.mapP t f)
theorem ObjOk.stay (x:ObjOk P w H h a o)(k:∀b u,(b=a∨H b=some (.own a))→h.get? b=some u→h'.get? b=some u)
  (ho:∀b,H b=some (.own a)→H' b=some (.own a)) (ht:∀b xs,H b=some (.tup xs)→H' b=some (.tup xs)):ObjOk P w H' h' a o:=by
 induction o with
 |lst xs=>obtain⟨z,its,n,r,e⟩:=x;exact⟨z,its,n,r,k _ _ (.inl rfl) e⟩
 |tup xs=>obtain⟨z,its,r,ob,e,c⟩:=x;exact⟨z,its,r,ob,k _ _ (.inl rfl) e,c⟩
 |dK kvs=>obtain⟨z,y,vs,r,ob,es,ep,e,c⟩:=x;exact⟨z,y,vs,r,ob,es,ep,k _ _ (.inl rfl) e,c⟩
 |dT kvs=>
  obtain⟨z,y,xs,r,ob,es,ep,e,c⟩:=x
  exact⟨z,y,xs,Paired.mapP r fun p q z=>⟨z.1,ht _ _ z.2.1,z.2.2⟩,ob,es,ep,k _ _ (.inl rfl) e,c⟩
 |set S n=>obtain⟨ob,es,ep,t,e,c⟩:=x;exact⟨ob,es,ep,t,k _ _ (.inl rfl) e,c⟩
 |ins C dx fs=>
  obtain⟨d,z,ne,e,mA,⟨od,es,ep,e2,c⟩,r⟩:=x
  exact⟨ho _ d,z,ne,k _ _ (.inl rfl) e,mA,⟨od,es,ep,k _ _ (.inr d) e2,c⟩,r⟩
 |own y=>obtain⟨ob,e⟩:=x;exact⟨ob,k _ _ (.inl rfl) e⟩
 |xd fs=>obtain⟨mA,⟨od,es,ep,e,c⟩,r⟩:=x;exact⟨mA,⟨od,es,ep,k _ _ (.inl rfl) e,c⟩,r⟩
 |rng lo hi=>obtain⟨t,u,v,e⟩:=x;exact⟨t,u,v,k _ _ (.inl rfl) e⟩
 |frz ob u ih=>obtain⟨e,q⟩:=x;exact⟨k _ _ (.inl rfl) e,ih q⟩
 |tbl ps=>
  have e:h.get? a=some {cls:=.none,data:=.fields ps}:=x
  show h'.get? a=some {cls:=.none,data:=.fields ps}
  exact k a _ (.inl rfl) e
 |met f y=>
  have e:h.get? a=some (PySem.W.methodObj (.ref f) (.ref y)):=x
  show h'.get? a=some (PySem.W.methodObj (.ref f) (.ref y))
  exact k a _ (.inl rfl) e
 |ext φ=>obtain⟨p,⟨o,e⟩,st⟩:=x;exact⟨st _ _ p fun o q=>k _ _ (.inl rfl) q,⟨o,k _ _ (.inl rfl) e⟩,st⟩
theorem HOk.lt (x:HOk P w H h)(e:H a=some o):a<h.objs.size:=(x a o e).lt
theorem HOk.fresh (x:HOk P w H h)(e:h.objs.size≤a):H a=none:=by
 cases q:H a with
 |none=>rfl
 |some u=>exact absurd (Nat.lt_of_lt_of_le (x.lt q) e) (Nat.lt_irrefl _)
theorem HOk.kept (x:HOk P w H h)(k:∀b u,h.get? b=some u→h'.get? b=some u):HOk P w H h':=fun a o e=>
 (x a o e).stay (fun b u _ q=>k b u q) (fun _ q=>q) fun _ _ q=>q
theorem HOk.laid (x:HOk P w H h)(k:∀b u,h.get? b=some u→h'.get? b=some u)(hp:h.objs.size≤a)(new:ObjOk P w (upd H a o) h' a o):HOk P w (upd H a o) h':=fun b u e=>by
 have hn:=x.fresh hp
 by_cases hb:b=a
 ·subst hb;rw[upd_same] at e;cases e;exact new
 ·rw[upd_ne hb] at e
  exact(x b u e).stay (fun c v _ q=>k c v q) (fun c q=>by rw[upd_ne (ne_of_none q hn)];exact q) fun c xs q=>by rw[upd_ne (ne_of_none q hn)];exact q
end
def Rd (H:Hp) (a:Addr) (u:HO):Prop:=H a=some u∨∃o,H a=some (.frz o u)
theorem Rd.ok {P:Program}{w:World}{H:Hp}{h:Heap}{a:Addr}{u:HO}(r:Rd H a u)(x:HOk P w H h):ObjOk P w H h a u:=by
 rcases r with r|⟨o,r⟩
 ·exact x a u r
 ·obtain⟨_,q⟩:=x a _ r
  exact q
noncomputable def Mut:Option HO→Prop
 |some (.lst _)=>True
 |some (.dK _)=>True
 |some (.dT _)=>True
 |some (.set _ _)=>True
 |some (.ins _ _ _)=>True
 |some (.ext _)=>True
 |_=>False
section
variable {P:Program} {w:World} {H:Hp} {h h':Heap} {x e:Addr} {o':HO}
theorem HOk.write (ok:HOk P w H h)(mu:Mut (H x))(he:e=x∨H e=some (.own x))(k:∀b u,b≠e→h.get? b=some u→h'.get? b=some u)(heo:∃u,h'.get? e=some u)
  (new:ObjOk P w (upd H x o') h' x o'):HOk P w (upd H x o') h':=fun b u q=>by
 have nown:∀c y,H c=some (.own y)→c≠x:=fun c y r z=>by subst z;rw[r] at mu;exact mu
 have ntup:∀c xs,H c=some (.tup xs)→c≠x:=fun c xs r z=>by subst z;rw[r] at mu;exact mu
 by_cases hb:b=x
 ·subst hb;rw[upd_same] at q;cases q;exact new
 ·rw[upd_ne hb] at q
  by_cases hbe:b=e
  ·have q':H b=some (.own x):=by
    rcases he with z|z
    ·exact absurd (hbe.trans z) hb
    ·rw[hbe];exact z
   rw[q] at q';cases q'
   obtain⟨v,hv⟩:=heo
   exact⟨v,by rw[hbe];exact hv⟩
  ·refine(ok b u q).stay (fun c v hc r=>k c v ?_ r) (fun c r=>by rw[upd_ne (nown c b r)];exact r) fun c xs r=>by rw[upd_ne (ntup c xs r)];exact r
   rcases hc with rfl|hc
   ·exact hbe
   ·rintro rfl
    rcases he with z|z
    ·exact nown c b hc z
    ·rw[hc] at z;cases z;exact hb rfl
end
structure Un (fs ex:List Addr) (H H':Hp) (h h':Heap):Prop where
 keep:∀b o,h.get? b=some o→H b=none→b∉fs→b∉ex→h'.get? b=some o
 slot:∀b o,h.get? b=some o→H b=none→b∈fs→b∉ex→∃sl,h'.get? b=some {o with slots:=sl}
 free:∀b o,h.get? b=some o→H b=none→b∉ex→H' b=none
 there:∀b o,h.get? b=some o→b∉ex→∃o',h'.get? b=some o'
 tups:∀b xs,H b=some (.tup xs)→H' b=some (.tup xs)
 frzs:∀b o u,H b=some (.frz o u)→H' b=some (.frz o u)
 tbls:∀b ps,H b=some (.tbl ps)→∃more,H' b=some (.tbl (ps++more))
section
variable {fs fs' ex ex':List Addr} {H H1 H2:Hp} {h h1 h2 h':Heap} {a x e:Addr} {o:HO}
theorem Un.any (u:Un fs ex H H1 h h1){b:Addr}{ob:Obj}(q:h.get? b=some ob)(n:H b=none)(hx:b∉ex):∃sl,h1.get? b=some {ob with slots:=sl}:=by
 by_cases hb:b∈fs
 ·exact u.slot b ob q n hb hx
 ·exact⟨ob.slots,u.keep b ob q n hb hx⟩
theorem Un.kept (k:∀b u,h.get? b=some u→h'.get? b=some u):Un fs ex H H h h':=
 ⟨fun b ob q _ _ _=>k b ob q,fun b ob q _ _ _=>⟨ob.slots,k b ob q⟩,fun _ _ _ n _=>n,fun b ob q _=>⟨ob,k b ob q⟩,fun _ _ q=>q,fun _ _ _ q=>q,fun _ ps q=>⟨#[],by rw[q];simp⟩⟩
theorem Un.refl:Un fs ex H H h h:=Un.kept fun _ _ q=>q
theorem Un.laid (k:∀b u,h.get? b=some u→h'.get? b=some u)(hp:h.objs.size≤a)(hn:H a=none):Un fs ex H (upd H a o) h h' where
 keep:=fun b u q _ _ _=>k b u q
 slot:=fun b u q _ _ _=>⟨u.slots,k b u q⟩
 free:=fun b u q n _=>by rw[upd_ne (Nat.ne_of_lt (Nat.lt_of_lt_of_le (Heap.lt_size q) hp))];exact n
 there:=fun b u q _=>⟨u,k b u q⟩
 tups:=fun b xs q=>by rw[upd_ne (ne_of_none q hn)];exact q
 frzs:=fun b u xs q=>by rw[upd_ne (ne_of_none q hn)];exact q
 tbls:=fun b ps q=>⟨#[],by rw[upd_ne (ne_of_none q hn),q];simp⟩
theorem Un.write (mu:Mut (H x))(he:e=x∨H e=some (.own x))(k:∀b u,b≠e→h.get? b=some u→h'.get? b=some u)(heo:∃u,h'.get? e=some u):Un fs ex H (upd H x o) h h':=by
 have hx:∀b,H b=none→b≠x:=fun b n z=>by subst z;rw[n] at mu;exact mu
 have hb:∀b,H b=none→b≠e:=fun b n z=>by
  subst z
  rcases he with r|r
  ·exact hx b n r
  ·rw[n] at r;cases r
 have hm:∀b u,H b=some u→¬Mut (some u)→b≠x:=fun b u q nm z=>by subst z;rw[q] at mu;exact nm mu
 refine⟨fun b u q n _ _=>k b u (hb b n) q,fun b u q n _ _=>⟨u.slots,k b u (hb b n) q⟩,fun b u q n _=>by rw[upd_ne (hx b n)];exact n,fun b u q _=>?_,
  fun b xs q=>by rw[upd_ne (hm b _ q fun z=>z)];exact q,fun b u xs q=>by rw[upd_ne (hm b _ q fun z=>z)];exact q,fun b ps q=>⟨#[],by rw[upd_ne (hm b _ q fun z=>z),q];simp⟩⟩
 by_cases hbe:b=e
 ·subst hbe;exact heo
 ·exact⟨u,k b u hbe q⟩
end
noncomputable def trk (h:Heap) (H:Hp):List Addr:=(List.range h.objs.size).filter fun a=>(H a).isSome
def hidT (h:Heap) (H:Hp):Heap:=PySem.W.hideAll h (trk h H)
theorem hidT_size (h:Heap)(H:Hp):(hidT h H).objs.size=h.objs.size:=PySem.W.hideAll_size _ _
theorem hidT_get {h:Heap}{H:Hp}{b:Addr}{o:Obj}(e:h.get? b=some o)(n:H b=none):(hidT h H).get? b=some o:=
 PySem.W.hideAll_get _ e fun hm=>by
  have q:(H b).isSome=true:=(List.mem_filter.mp hm).2
  rw[n] at q;simp at q
theorem of_hidT {h:Heap}{H:Hp}{b:Addr}{o:Obj}(e:(hidT h H).get? b=some o):h.get? b=some o∧H b=none:=by
 have e':h.get? b=some o:=PySem.W.of_hideAll (trk h H) e
 refine⟨e',?_⟩
 cases q:H b with
 |none=>rfl
 |some x=>
  have hm:b∈trk h H:=List.mem_filter.mpr ⟨List.mem_range.mpr (Heap.lt_size e'),by simp[q]⟩
  have z:(hidT h H).get? b=none:=PySem.W.hideAll_none (trk h H) hm
  rw[z] at e;cases e
noncomputable def allNews (g h:Heap) (L:Addr):List (Addr×Obj):=(List.range h.objs.size).filterMap fun a=>if a=L∨(g.get? a).isSome=true then none else (h.get? a).map fun o=>(a,o)
theorem mem_allNews {g h:Heap}{L a:Addr}{o:Obj}(h1:a≠L)(h2:g.get? a=none)(h3:h.get? a=some o):(a,o)∈allNews g h L:=
 List.mem_filterMap.mpr ⟨a,List.mem_range.mpr (Heap.lt_size h3),by simp[h1,h2,h3]⟩
theorem of_mem_allNews {g h:Heap}{L:Addr}{p:Addr×Obj}(hp:p∈allNews g h L):p.1≠L∧g.get? p.1=none∧h.get? p.1=some p.2:=by
 obtain⟨b,_,e⟩:=List.mem_filterMap.mp hp
 split at e
 ·cases e
 ·rename_i hn
  cases q:h.get? b with
  |none=>rw[q] at e;simp at e
  |some u=>
   rw[q] at e
   simp only[Option.map_some,Option.some.injEq] at e
   subst e
   refine⟨fun z=>hn (.inl z),?_,q⟩
   show g.get? b=none
   cases r:g.get? b with
   |none=>rfl
   |some v=>exact(hn (.inr (by simp[r]))).elim
noncomputable def rest (g h:Heap) (L d:Addr):List (Addr×Obj):=(allNews g h L).filter fun p=>decide (p.1≠d)
theorem news_all {g h:Heap}{L:Addr}:News g L h (allNews g h L):=fun p hp=>let ⟨a,b,c⟩:=of_mem_allNews hp;⟨c,a,b⟩
structure Mod (K:PySem.W.Frag) (mg:Str→Option Value) (base:Heap):Prop where
 kin:K.In base
 glob:base.Ns mainGlobals mg
 blt:∃mb,base.Ns builtinsNs mb∧∀x:Str,x≠ "__name__" →mb x=bootBuiltins x
 nolimit:base.NoLimit
structure Cx where
 prog:Program
 w:World
 K:PySem.W.Frag
 mg:Str→Option Value
 base:Heap
 A:Around
 N:List Str
 s₀:Shared
 H₀:Hp
 env:Env
 outer:List Env
 stack:List Env
 ex:List Addr
 fn:Str→Bool
 calm:Bool
 pn:List (Addr×Obj)
 xe:Value→Shared→Prop
def frs (l:List Env):List Addr:=l.filterMap (·.frame)
abbrev Cx.fs (X:Cx):List Addr:=frs X.outer
def Vis (sc:Scope) (x:Str):Prop:=sc.names.lookup x=some .local∨sc.names.lookup x=some .cell∨sc.names.lookup x=some .free
def Loc (sc:Scope) (x:Str):Prop:=sc.names.lookup x=some .local∨sc.names.lookup x=some .cell
def Look (env:Env) (h:Heap) (m:Str→Option Value) (x:Str) (u:Value):Prop:=
 (env.kindOf x=some .local∧m x=some u)∨((env.kindOf x=some .cell∨env.kindOf x=some .free)∧∃c,env.cells.lookup x=some c∧h.IsCell c (some u))
structure Cx.Ok (X:Cx):Prop where
 mod:Mod X.K X.mg X.base
 kind:X.env.scope.kind=.function
 glob:X.env.globals=mainGlobals
 blt:X.env.builtins=builtinsNs
 above:X.s₀.heap.objs.size≤X.env.locals
 inj:∀x y c,X.env.cells.lookup x=some c→X.env.cells.lookup y=some c→x=y
 has:∀x,(X.env.kindOf x=some .cell∨X.env.kindOf x=some .free)→∃c,X.env.cells.lookup x=some c
 cab:∀x c,X.fn x=true→X.env.cells.lookup x=some c→X.s₀.heap.objs.size≤c
 hd:X.calm=true→X.A.handled=none
 frames:X.A.frames=some X.stack
 stk:X.stack=X.outer∨(X.stack=X.env::X.outer∧X.env.frame=some X.env.locals)
 exf:∀b∈X.ex,b≠X.env.locals∧∀x c,X.env.cells.lookup x=some c→c≠b
 bs:∀b o,X.base.get? b=some o→X.s₀.heap.get? b=some o∧X.H₀ b=none
 bsz:X.base.objs.size≤X.s₀.heap.objs.size
 noex:∀b o,X.base.get? b=some o→b∉X.ex
 exfs:∀b∈X.ex,b∉X.fs
 funs:X.s₀.heap.FunFrames X.base X.outer
 frf:∀b∈X.fs,X.H₀ b=none
structure Inv (X:Cx) (pins:List (Addr×Obj)) (σ:List (Option V)) (H:Hp) (s:Shared):Prop where
 ok:X.Ok
 os:s.os=X.s₀.os
 bare:AllBare s.gens
 base:Un X.fs X.ex X.H₀ H X.s₀.heap s.heap
 loc:∃m,s.heap.Ns X.env.locals m∧∀(i:Nat) (x:Str) (v:V),X.N[i]?=some x→σ[i]?=some (some v)→Vis X.env.scope x→∃u,RelV v u∧Look X.env s.heap m x u
 cell:∀x c,X.env.cells.lookup x=some c→∃v,s.heap.IsCell c v
 free:H X.env.locals=none
 freeC:∀x c,X.env.cells.lookup x=some c→H c=none
 pin:∀p∈X.pn++pins,s.heap.get? p.1=some p.2∧H p.1=none∧p.1≠X.env.locals∧p.1∉X.fs∧∀v,p.2.data≠.cell v
 hok:HOk X.prog X.w H s.heap
 len:σ.length=X.N.length
section
variable {X:Cx} {pins:List (Addr×Obj)} {σ:List (Option V)} {H H':Hp} {s:Shared} {h':Heap}
theorem Cx.Ok.nofr (ok:X.Ok){b:Addr}{o:Obj}(e:X.base.get? b=some o):b∉X.fs:=fun hb=>by
 have:=(ok.funs.mem hb).1
 rw[e] at this;cases this
theorem Inv.bs (I:Inv X pins σ H s):∀b o,X.base.get? b=some o→s.heap.get? b=some o∧H b=none:=fun b o e=>
 ⟨I.base.keep b o (I.ok.bs b o e).1 (I.ok.bs b o e).2 (I.ok.nofr e) (I.ok.noex b o e),I.base.free b o (I.ok.bs b o e).1 (I.ok.bs b o e).2 (I.ok.noex b o e)⟩
theorem Inv.bk (I:Inv X pins σ H s):∀b o,X.base.get? b=some o→s.heap.get? b=some o:=fun b o e=>(I.bs b o e).1
theorem Inv.mod (I:Inv X pins σ H s):Mod X.K X.mg X.base:=I.ok.mod
theorem Inv.kIn (I:Inv X pins σ H s):X.K.In s.heap:=I.ok.mod.kin.keeps I.bk
theorem Inv.lt (I:Inv X pins σ H s):X.env.locals<s.heap.objs.size:=let ⟨_,hn,_⟩:=I.loc;hn.lt
theorem Inv.sz (I:Inv X pins σ H s):X.s₀.heap.objs.size≤s.heap.objs.size:=Nat.le_trans I.ok.above (Nat.le_of_lt I.lt)
theorem Inv.nofs (I:Inv X pins σ H s){a:Addr}(h:s.heap.objs.size≤a):a∉X.fs:=fun hb=>by
 obtain⟨_,o,ho,_⟩:=I.ok.funs.mem hb
 exact absurd (Nat.lt_of_lt_of_le (Heap.lt_size ho) (Nat.le_trans I.sz h)) (Nat.lt_irrefl _)
theorem Inv.cne (I:Inv X pins σ H s):∀x c,X.env.cells.lookup x=some c→c≠X.env.locals:=fun x c e z=>by
 obtain⟨v,o,ho,hd⟩:=I.cell x c e
 obtain⟨m,⟨o',es,ep,ho',hd',_⟩,_⟩:=I.loc
 rw[z,ho'] at ho;cases ho;rw[hd'] at hd;cases hd
theorem Inv.funs (I:Inv X pins σ H s):s.heap.FunFrames X.base X.outer:=by
 have all:∀(l:List Env),(∀b∈frs l,b∈X.fs)→X.s₀.heap.FunFrames X.base l→s.heap.FunFrames X.base l:=by
  intro l
  induction l with
  |nil=>intro _ _;trivial
  |cons env r ih=>
   intro hs hl
   obtain⟨hk,⟨L,o,hf,hn,ho,hd⟩,hr⟩:=hl
   have hL:L∈X.fs:=hs L (by unfold frs;rw[List.filterMap_cons,hf];exact List.mem_cons_self)
   obtain⟨sl,e⟩:=I.base.slot L o ho (I.ok.frf L hL) hL fun z=>I.ok.exfs L z hL
   exact⟨hk,⟨L,_,hf,hn,e,hd⟩,ih (fun b hb=>hs b (by unfold frs;rw[List.filterMap_cons,hf];exact List.mem_cons_of_mem _ hb)) hr⟩
 exact all X.outer (fun _ hb=>hb) I.ok.funs
theorem Inv.stack (I:Inv X pins σ H s):s.heap.FunFrames X.base X.stack:=by
 rcases I.ok.stk with e|⟨e,hf⟩
 ·rw[e];exact I.funs
 ·rw[e]
  obtain⟨m,hn,_⟩:=I.loc
  refine .cons (by rw[I.ok.kind];decide) hf hn ?_ I.funs
  exact Heap.get?_none_of_le (Nat.le_trans I.ok.bsz I.ok.above)
theorem Inv.stkSub (I:Inv X pins σ H s):∀b∈frs X.stack,b∈X.env.locals::X.fs:=fun b hb=>by
 rcases I.ok.stk with e|⟨e,hf⟩
 ·rw[e] at hb;exact List.mem_cons_of_mem _ hb
 ·rw[e] at hb
  unfold frs at hb
  rw[List.filterMap_cons,hf] at hb
  exact hb
theorem Inv.stkFree (I:Inv X pins σ H s):∀b∈frs X.stack,H b=none:=fun b hb=>by
 rcases List.mem_cons.mp (I.stkSub b hb) with e|hb
 ·rw[e];exact I.free
 ·obtain⟨_,o,ho,_⟩:=I.ok.funs.mem hb
  exact I.base.free b o ho (I.ok.frf b hb) fun z=>I.ok.exfs b z hb
theorem Inv.step {g':Array GenState}{t':Nat}{d':Drawn}{ch:List Addr}(I:Inv X pins σ H s)
  (hch:∀b∈ch,(b∈X.ex∨X.s₀.heap.objs.size≤b)∧b≠X.env.locals∧(∀x c,X.env.cells.lookup x=some c→c≠b)∧∀p∈X.pn++pins,p.1≠b)
  (keep:∀b o,b≠X.env.locals→b∉X.fs→b∉ch→s.heap.get? b=some o→H b=none→h'.get? b=some o)
  (slot:∀b o,b≠X.env.locals→b∈X.fs→b∉ch→s.heap.get? b=some o→H b=none→∃sl,h'.get? b=some {o with slots:=sl}) (free:∀b o,b∉ch→s.heap.get? b=some o→H b=none→H' b=none)
  (there:∀b o,b∉ch→s.heap.get? b=some o→∃o',h'.get? b=some o')
  (tups:∀b xs,H b=some (.tup xs)→H' b=some (.tup xs)) (frzs:∀b o u,H b=some (.frz o u)→H' b=some (.frz o u)) (tbls:∀b ps,H b=some (.tbl ps)→∃more,H' b=some (.tbl (ps++more)))
  (ns:∀m,s.heap.Ns X.env.locals m→h'.Ns X.env.locals m) (hok:HOk X.prog X.w H' h') (hg:AllBare g'):
  Inv X pins σ H' {s with heap:=h',gens:=g',drawn:=d',toks:=t'}:=by
 have neL:∀b o,X.s₀.heap.get? b=some o→b≠X.env.locals:=fun b o e=>Nat.ne_of_lt (Nat.lt_of_lt_of_le (Heap.lt_size e) I.ok.above)
 have neC:∀b o,X.s₀.heap.get? b=some o→b∉X.ex→b∉ch:=fun b o e hx hb=>by
  rcases(hch b hb).1 with z|z
  ·exact hx z
  ·exact absurd (Nat.lt_of_lt_of_le (Heap.lt_size e) z) (Nat.lt_irrefl _)
 have cellK:∀x c,X.env.cells.lookup x=some c→∀v,s.heap.IsCell c v→h'.IsCell c v:=fun x c e v ⟨o,ho,hd⟩=>by
  have nch:c∉ch:=fun z=>(hch c z).2.2.1 x c e rfl
  by_cases hc:c∈X.fs
  ·obtain⟨sl,q⟩:=slot c o (I.cne x c e) hc nch ho (I.freeC x c e)
   exact⟨_,q,hd⟩
  ·exact⟨o,keep c o (I.cne x c e) hc nch ho (I.freeC x c e),hd⟩
 refine⟨I.ok,I.os,hg,⟨fun b o e n hb hx=>?_,fun b o e n hb hx=>?_,fun b o e n hx=>?_,fun b o e hx=>?_,fun b xs e=>tups b xs (I.base.tups b xs e),fun b o xs e=>frzs b o xs (I.base.frzs b o xs e),fun b ps e=>?_⟩,?_,fun x c e=>?_,?_,fun x c e=>?_,fun p hp=>?_,hok,I.len⟩
 ·exact keep b o (neL b o e) hb (neC b o e hx) (I.base.keep b o e n hb hx) (I.base.free b o e n hx)
 ·obtain⟨sl,e1⟩:=I.base.slot b o e n hb hx
  obtain⟨sl',e2⟩:=slot b _ (neL b o e) hb (neC b o e hx) e1 (I.base.free b o e n hx)
  exact⟨sl',e2⟩
 ·obtain⟨o',e1⟩:=I.base.there b o e hx
  exact free b o' (neC b o e hx) e1 (I.base.free b o e n hx)
 ·obtain⟨o',e1⟩:=I.base.there b o e hx
  exact there b o' (neC b o e hx) e1
 ·obtain⟨m1,e1⟩:=I.base.tbls b ps e
  obtain⟨m2,e2⟩:=tbls b _ e1
  exact⟨m1++m2,by rw[e2,Array.append_assoc]⟩
 ·obtain⟨m,hn,hl⟩:=I.loc
  refine⟨m,ns m hn,fun i x v e1 e2 e3=>?_⟩
  obtain⟨u,r,l⟩:=hl i x v e1 e2 e3
  refine⟨u,r,?_⟩
  rcases l with l|⟨k,c,e,z⟩
  ·exact .inl l
  ·exact .inr ⟨k,c,e,cellK x c e _ z⟩
 ·obtain⟨v,z⟩:=I.cell x c e
  exact⟨v,cellK x c e v z⟩
 ·obtain⟨m,⟨o,_,_,ho,_⟩,_⟩:=I.loc
  exact free _ o (fun z=>(hch _ z).2.1 rfl) ho I.free
 ·obtain⟨v,o,ho,hd⟩:=I.cell x c e
  exact free c o (fun z=>(hch c z).2.2.1 x c e rfl) ho (I.freeC x c e)
 ·obtain⟨e,n,ne,nf,d⟩:=I.pin p hp
  have nch:p.1∉ch:=fun z=>(hch p.1 z).2.2.2 p hp rfl
  exact⟨keep p.1 p.2 ne nf nch e n,free p.1 p.2 nch e n,ne,nf,d⟩
theorem Inv.un {t':Nat}(I:Inv X pins σ H s)(u:Un X.fs [] H H' s.heap h')(hok:HOk X.prog X.w H' h'):Inv X pins σ H' {s with heap:=h',toks:=t'}:=by
 obtain⟨m,⟨o,es,ep,ho,r⟩,_⟩:=id I.loc
 obtain⟨sl,hL⟩:=u.any ho I.free (by simp)
 exact I.step (g':=s.gens) (d':=s.drawn) (ch:=[]) (fun _ z=>nomatch z) (fun b o _ hb _ e n=>u.keep b o e n hb (by simp)) (fun b o _ hb _ e n=>u.slot b o e n hb (by simp)) (fun b o _ e n=>u.free b o e n (by simp)) (fun b o _ e=>u.there b o e (by simp)) u.tups u.frzs u.tbls (fun m' hm=>by
  obtain⟨o',es',ep',ho',r'⟩:=hm
  rw[ho] at ho';cases ho'
  exact⟨_,es',ep',hL,r'⟩) hok I.bare
theorem Inv.call {g':Array GenState}{t':Nat}{d':Drawn}{ch:List Addr}(I:Inv X pins σ H s)(u:Un (frs X.stack) ch H H' s.heap h')(hok:HOk X.prog X.w H' h')(hg:AllBare g')
  (hch:∀b∈ch,(b∈X.ex∨X.s₀.heap.objs.size≤b)∧b≠X.env.locals∧(∀x c,X.env.cells.lookup x=some c→c≠b)∧∀p∈X.pn++pins,p.1≠b):
  Inv X pins σ H' {s with heap:=h',gens:=g',drawn:=d',toks:=t'}:=by
 obtain⟨m,⟨o,es,ep,ho,r⟩,_⟩:=id I.loc
 obtain⟨sl,hL⟩:=u.any ho I.free fun z=>(hch _ z).2.1 rfl
 exact I.step (ch:=ch) hch (fun b o hL hb hc e n=>u.keep b o e n (fun z=>(List.mem_cons.mp (I.stkSub b z)).elim hL hb) hc) (fun b o _ _ hc e n=>u.any e n hc) (fun b o hc e n=>u.free b o e n hc) (fun b o hc e=>u.there b o e hc) u.tups u.frzs u.tbls (fun m' hm=>by
  obtain⟨o',es',ep',ho',r'⟩:=hm
  rw[ho] at ho';cases ho'
  exact⟨_,es',ep',hL,r'⟩) hok hg
theorem Inv.turned {t':Nat}{it:Addr}(I:Inv X pins σ H s)(k:∀b o,b≠it→s.heap.get? b=some o→h'.get? b=some o)(hn:H it=none)(hL:it≠X.env.locals)
  (h1:it∈X.ex∨X.s₀.heap.objs.size≤it) (h2:∀x c,X.env.cells.lookup x=some c→c≠it) (h3:∀p∈X.pn++pins,p.1≠it):Inv X pins σ H {s with heap:=h',toks:=t'}:=by
 have nit:∀b u,H b=some u→b≠it:=fun b u e z=>by rw[z,hn] at e;cases e
 refine I.step (g':=s.gens) (d':=s.drawn) (ch:=[it]) (fun b hb=>?_) (fun b o _ _ hc e _=>k b o (fun z=>hc (by simp[z])) e) (fun b o _ _ hc e _=>⟨o.slots,k b o (fun z=>hc (by simp[z])) e⟩) (fun _ _ _ _ n=>n)
  (fun b o hc e=>⟨o,k b o (fun z=>hc (by simp[z])) e⟩) (fun _ _ e=>e) (fun _ _ _ e=>e) (fun b ps e=>⟨#[],by rw[e];simp⟩) (fun m hm=>?_) (fun b u e=>?_) I.bare
 ·have e:b=it:=by simpa using hb
  subst e
  exact⟨h1,hL,h2,h3⟩
 ·obtain⟨o,es,ep,ho,r⟩:=hm
  exact⟨o,es,ep,k _ o (Ne.symm hL) ho,r⟩
 ·refine(I.hok b u e).stay (fun c v hc q=>k c v ?_ q) (fun _ q=>q) fun _ _ q=>q
  rcases hc with z|z
  ·rw[z];exact nit b u e
  ·exact nit c _ z
theorem Inv.tok (I:Inv X pins σ H s)(t:Nat):Inv X pins σ H {s with toks:=t}:=I.un (h':=s.heap) (t':=t) Un.refl I.hok
theorem Inv.kept {t':Nat}(I:Inv X pins σ H s)(k:∀b u,s.heap.get? b=some u→h'.get? b=some u):Inv X pins σ H {s with heap:=h',toks:=t'}:=I.un (Un.kept k) (I.hok.kept k)
theorem Inv.laid {a:Addr}{o:HO}{t':Nat}(I:Inv X pins σ H s)(k:∀b u,s.heap.get? b=some u→h'.get? b=some u)(hp:s.heap.objs.size≤a)(new:ObjOk X.prog X.w (upd H a o) h' a o):
  Inv X pins σ (upd H a o) {s with heap:=h',toks:=t'}:=I.un (Un.laid k hp (I.hok.fresh hp)) (I.hok.laid k hp new)
theorem Inv.write {x e:Addr}{o:HO}{t':Nat}(I:Inv X pins σ H s)(mu:Mut (H x))(he:e=x∨H e=some (.own x))(k:∀b u,b≠e→s.heap.get? b=some u→h'.get? b=some u)(heo:∃u,h'.get? e=some u)
  (new:ObjOk X.prog X.w (upd H x o) h' x o):Inv X pins σ (upd H x o) {s with heap:=h',toks:=t'}:=I.un (Un.write mu he k heo) (I.hok.write mu he k heo new)
theorem Inv.pins_of {pins':List (Addr×Obj)}(I:Inv X pins σ H s)(h:∀p∈pins',s.heap.get? p.1=some p.2∧H p.1=none∧p.1≠X.env.locals∧p.1∉X.fs∧∀v,p.2.data≠.cell v):Inv X pins' σ H s:=
 ⟨I.ok,I.os,I.bare,I.base,I.loc,I.cell,I.free,I.freeC,fun p hp=>(List.mem_append.mp hp).elim (fun z=>I.pin p (List.mem_append_left _ z)) (h p),I.hok,I.len⟩
theorem nodup_ix {N:List Str}(hN:N.Nodup){i j:Nat}{x:Str}(a:N[i]?=some x)(b:N[j]?=some x):i=j:=by
 obtain⟨h1,e1⟩:=List.getElem?_eq_some_iff.mp a
 obtain⟨h2,e2⟩:=List.getElem?_eq_some_iff.mp b
 exact(List.getElem_inj hN).mp (e1.trans e2.symm)
theorem store_ok2 {M:Model}{A:Around}{E:Value→Shared→Prop}{i:Nat}{x:Str}{v:V}{u:Value}{Q:Unit→Shared→Prop}(I:Inv X pins σ H s)(hN:X.N.Nodup)(hi:X.N[i]?=some x)(hx:Loc X.env.scope x)(r:RelV v u)
  (h:∀s',Inv X pins (σ.set i (some v)) H s'→(∃a,Heap.SameBut a s.heap s'.heap∧(a=X.env.locals∨X.env.cells.lookup x=some a))→Q () s') (hf:X.fn x=true∨X.env.scope.names.lookup x=some .local:=by first|exact .inl rfl|exact .inr rfl|assumption):wpAny M A (storeName X.env x u) Q E s:=by
 obtain⟨m,hn,hl⟩:=id I.loc
 have hcls:(X.env.scope.kind==.class||(X.env.scope.kind==.module&&X.env.locals !=X.env.globals))=false:=by rw[I.ok.kind];rfl
 have hiσ:i<σ.length:=by rw[I.len];exact(List.getElem?_eq_some_iff.mp hi).1
 have cne:=I.cne
 have tracked:∀{a:Addr} {h':Heap},(∃o,s.heap.get? a=some o∧H a=none)→Heap.SameBut a s.heap h'→HOk X.prog X.w H h':=fun{a h'} ha hs b ob e=>by
  obtain⟨_,_,hfree⟩:=ha
  refine(I.hok b ob e).stay (fun c w' hc q=>(hs.2 c ?_).trans q) (fun _ q=>q) fun _ _ q=>q
  rintro rfl
  rcases hc with rfl|hc
  ·rw[hfree] at e;cases e
  ·rw[hfree] at hc;cases hc
 rcases hx with hk|hk
 ·refine wpAny_storeName_local hk hn (fun h' hn' hs=>?_) hcls
  obtain⟨oL,_,_,hoL,_⟩:=id hn
  refine h _ ⟨I.ok,I.os,I.bare,⟨fun b o e n hb hx=>?_,fun b o e n hb hx=>?_,I.base.free,fun b o e hx=>?_,I.base.tups,I.base.frzs,I.base.tbls⟩,⟨_,hn',fun j y v' e1 e2 e3=>?_⟩,fun y c e=>?_,I.free,I.freeC,fun p hp=>?_,tracked ⟨oL,hoL,I.free⟩ hs,by simpa using I.len⟩ ⟨_,hs,.inl rfl⟩
  ·exact(hs.2 b (Nat.ne_of_lt (Nat.lt_of_lt_of_le (Heap.lt_size e) I.ok.above))).trans (I.base.keep b o e n hb hx)
  ·obtain⟨sl,e1⟩:=I.base.slot b o e n hb hx
   exact⟨sl,(hs.2 b (Nat.ne_of_lt (Nat.lt_of_lt_of_le (Heap.lt_size e) I.ok.above))).trans e1⟩
  ·obtain⟨o',e1⟩:=I.base.there b o e hx
   exact⟨o',(hs.2 b (Nat.ne_of_lt (Nat.lt_of_lt_of_le (Heap.lt_size e) I.ok.above))).trans e1⟩
  ·by_cases hj:j=i
   ·subst hj
    rw[hi] at e1;cases e1
    rw[List.getElem?_set_self hiσ] at e2
    cases e2
    exact⟨u,r,.inl ⟨hk,by simp⟩⟩
   ·rw[List.getElem?_set_ne (Ne.symm hj)] at e2
    obtain⟨u',r',q⟩:=hl j y v' e1 e2 e3
    refine⟨u',r',?_⟩
    rcases q with ⟨k,e⟩|⟨k,c,e,z⟩
    ·refine .inl ⟨k,?_⟩
     have:y≠x:=fun e=>hj (nodup_ix hN e1 (e▸hi))
     simp[this,e]
    ·exact .inr ⟨k,c,e,z.sameBut hs (cne y c e)⟩
  ·obtain⟨w',z⟩:=I.cell y c e
   exact⟨w',z.sameBut hs (cne y c e)⟩
  ·obtain⟨e,n,ne,nf,d⟩:=I.pin p hp
   exact⟨(hs.2 p.1 ne).trans e,n,ne,nf,d⟩
 ·have hfn:X.fn x=true:=by
   rcases hf with z|z
   ·exact z
   ·rw[z] at hk;cases hk
  obtain⟨c,hc⟩:=I.ok.has x (.inl hk)
  obtain⟨w',z⟩:=I.cell x c hc
  refine wpAny_storeName_cell I.ok.kind hk hc z (fun h' hc' hs=>?_)
  obtain⟨oc,hoc,hocd⟩:=id z
  refine h {s with heap:=h'} ⟨I.ok,I.os,I.bare,⟨fun b o e n hb hx=>?_,fun b o e n hb hx=>?_,I.base.free,fun b o e hx=>?_,I.base.tups,I.base.frzs,I.base.tbls⟩,⟨m,hn.sameBut hs (Ne.symm (cne x c hc)),fun j y v' e1 e2 e3=>?_⟩,fun y c' e=>?_,I.free,I.freeC,fun p hp=>?_,tracked ⟨oc,hoc,I.freeC x c hc⟩ hs,by simpa using I.len⟩ ⟨c,hs,.inr hc⟩
  ·exact(hs.2 b (Nat.ne_of_lt (Nat.lt_of_lt_of_le (Heap.lt_size e) (I.ok.cab x c hfn hc)))).trans (I.base.keep b o e n hb hx)
  ·obtain⟨sl,e1⟩:=I.base.slot b o e n hb hx
   exact⟨sl,(hs.2 b (Nat.ne_of_lt (Nat.lt_of_lt_of_le (Heap.lt_size e) (I.ok.cab x c hfn hc)))).trans e1⟩
  ·obtain⟨o',e1⟩:=I.base.there b o e hx
   exact⟨o',(hs.2 b (Nat.ne_of_lt (Nat.lt_of_lt_of_le (Heap.lt_size e) (I.ok.cab x c hfn hc)))).trans e1⟩
  ·by_cases hj:j=i
   ·subst hj
    rw[hi] at e1;cases e1
    rw[List.getElem?_set_self hiσ] at e2
    cases e2
    exact⟨u,r,.inr ⟨.inl hk,c,hc,hc'⟩⟩
   ·rw[List.getElem?_set_ne (Ne.symm hj)] at e2
    obtain⟨u',r',q⟩:=hl j y v' e1 e2 e3
    refine⟨u',r',?_⟩
    rcases q with q|⟨k,c',e,z'⟩
    ·exact .inl q
    ·refine .inr ⟨k,c',e,z'.sameBut hs ?_⟩
     rintro rfl
     exact hj (nodup_ix hN e1 (I.ok.inj _ _ _ e hc▸hi))
  ·by_cases hcc:c'=c
   ·subst hcc;exact⟨_,hc'⟩
   ·obtain⟨w2,z2⟩:=I.cell y c' e
    exact⟨w2,z2.sameBut hs hcc⟩
  ·obtain⟨e,n,ne,nf,d⟩:=I.pin p hp
   refine⟨(hs.2 p.1 ?_).trans e,n,ne,nf,d⟩
   intro q
   rw[q,hoc] at e
   have q':oc=p.2:=Option.some.inj e
   exact d w' (by rw[←q'];exact hocd)
theorem store_ok {M:Model}{A:Around}{E:Value→Shared→Prop}{i:Nat}{x:Str}{v:V}{u:Value}{Q:Unit→Shared→Prop}(I:Inv X pins σ H s)(hN:X.N.Nodup)(hi:X.N[i]?=some x)(hx:Loc X.env.scope x)(r:RelV v u)
  (h:∀s',Inv X pins (σ.set i (some v)) H s'→Q () s') (hf:X.fn x=true∨X.env.scope.names.lookup x=some .local:=by first|exact .inl rfl|exact .inr rfl|assumption):wpAny M A (storeName X.env x u) Q E s:=
 store_ok2 I hN hi hx r (fun s' I' _=>h s' I') hf
theorem Inv.call' {s':Shared}{ch:List Addr}(I:Inv X pins σ H s)(ho:s'.os=s.os)(u:Un (frs X.stack) ch H H' s.heap s'.heap)(hok:HOk X.prog X.w H' s'.heap)(hg:AllBare s'.gens)
  (hch:∀b∈ch,(b∈X.ex∨X.s₀.heap.objs.size≤b)∧b≠X.env.locals∧(∀x c,X.env.cells.lookup x=some c→c≠b)∧∀p∈X.pn++pins,p.1≠b):Inv X pins σ H' s':=by
 obtain⟨h',g',d',t',o'⟩:=s'
 have e:o'=s.os:=ho
 subst e
 exact I.call (g':=g') (t':=t') (d':=d') u hok hg hch
end
abbrev XK:=Value→Option Addr→Hp→Prop
abbrev St:=List (Option V)
abbrev VK:=V→Hp→Prop
abbrev TE:=St→Hp→VK→Prop
abbrev TT:=St→Hp→(Bool→Hp→Prop)→Prop
abbrev TA:=St→Hp→(List V→Hp→Prop)→Prop
structure Ends where
 nx:St→Hp→Prop
 rt:VK
 bk:St→Hp→Prop:=fun _ _=>False
 ct:St→Hp→Prop:=fun _ _=>False
abbrev TS:=Ends→St→Hp→Prop
def EP (X:Cx) (pins:List (Addr×Obj)) (σ:St) (Q:VK) (u:Value) (s':Shared):Prop:=∃v H',Inv X pins σ H' s'∧RelV v u∧Q v H'
def TP (X:Cx) (pins:List (Addr×Obj)) (σ:St) (Q:Bool→Hp→Prop) (b:Bool) (s':Shared):Prop:=∃H',Inv X pins σ H' s'∧Q b H'
def AP (X:Cx) (pins:List (Addr×Obj)) (σ:St) (Q:List V→Hp→Prop) (us:List Value) (s':Shared):Prop:=∃vs H',Inv X pins σ H' s'∧Vals vs us∧Q vs H'
def SP (X:Cx) (pins:List (Addr×Obj)) (D:Ends) (f:Flow) (s':Shared):Prop:=
 match f with
 | .next=>∃σ' H',Inv X pins σ' H' s'∧D.nx σ' H'
 | .brk=>∃σ' H',Inv X pins σ' H' s'∧D.bk σ' H'
 | .cont=>∃σ' H',Inv X pins σ' H' s'∧D.ct σ' H'
 | .ret u=>∃v σ' H',Inv X pins σ' H' s'∧RelV v u∧D.rt v H'
def PE (X:Cx) (e:Expr) (t:TE):Prop:=
 ∀(pins:List (Addr×Obj)) (s:Shared) (σ:St) (H:Hp) (Q:VK),Inv X pins σ H s→t σ H Q→wpAny (model X.prog X.w) X.A (eval e X.env) (EP X pins σ Q) X.xe s
def PT (X:Cx) (e:Expr) (t:TT):Prop:=
 ∀(pins:List (Addr×Obj)) (s:Shared) (σ:St) (H:Hp) (Q:Bool→Hp→Prop),Inv X pins σ H s→t σ H Q→wpAny (model X.prog X.w) X.A (isTrue e X.env (eval e X.env)) (TP X pins σ Q) X.xe s
def PW (X:Cx) (e:Expr) (t:TT):Prop:=
 ∀(whole:Sem Value) (pins:List (Addr×Obj)) (s:Shared) (σ:St) (H:Hp) (Q:Bool→Hp→Prop),Inv X pins σ H s→t σ H Q→wpAny (model X.prog X.w) X.A (isTrue e X.env whole) (TP X pins σ Q) X.xe s
theorem PW.pt {X:Cx}{e:Expr}{t:TT}(h:PW X e t):PT X e t:=h _
def PA (X:Cx) (es:List Expr) (t:TA):Prop:=
 ∀(pos:Pos) (pins:List (Addr×Obj)) (s:Shared) (σ:St) (H:Hp) (Q:List V→Hp→Prop),Inv X pins σ H s→t σ H Q→wpAny (model X.prog X.w) X.A (spliced (backTo pos (starEach es X.env))) (AP X pins σ Q) X.xe s
def PS (X:Cx) (st:Stmt) (t:TS):Prop:=
 ∀(pins:List (Addr×Obj)) (s:Shared) (σ:St) (H:Hp) (D:Ends),Inv X pins σ H s→t D σ H→wpAny (model X.prog X.w) X.A (exec st X.env) (SP X pins D) X.xe s
def PSs (X:Cx) (st:List Stmt) (t:TS):Prop:=
 ∀(pins:List (Addr×Obj)) (s:Shared) (σ:St) (H:Hp) (D:Ends),Inv X pins σ H s→t D σ H→wpAny (model X.prog X.w) X.A (execs st X.env) (SP X pins D) X.xe s
theorem thn {α:Type}{t:Sem α}{Q Q':α→Shared→Prop}{M:Model}{A:Around}{E:Value→Shared→Prop}{s:Shared}(h:wpAny M A t Q E s)(hQ:∀a s,Q a s→Q' a s):wpAny M A t Q' E s:=wpAny_mono h hQ fun _ _ x=>x
section
variable {X:Cx}
def tVar (i:Nat):TE:=fun σ H Q=>∃v,σ[i]?=some (some v)∧Q v H
def tC (v:V):TE:=fun _ H Q=>Q v H
theorem pe_var {i:Nat}{x:Str}{pos:Pos}(hN:X.N[i]?=some x)(hv:Vis X.env.scope x)(hd:(x==("__debug__" :Str))=false:=by decide)(hcd:(x==("__classdict__" :Str))=false:=by decide):PE X (.Name x pos) (tVar i):=by
 intro pins s σ H Q I h
 obtain⟨v,e,h⟩:=h
 obtain⟨m,hn,hl⟩:=I.loc
 obtain⟨u,r,l⟩:=hl i x v hN e hv
 have fin:EP X pins σ Q u s:=⟨v,H,I,r,h⟩
 rcases l with ⟨hk,hm⟩|⟨hk,c,hc,hcell⟩
 ·exact wpAny_Name (wpAny_loadName_local I.ok.kind hk hn hm fin) hd
 ·rcases hk with hk|hk
  ·exact wpAny_Name (wpAny_loadName_cell I.ok.kind hk hc hcell fin) hd
  ·exact wpAny_Name (wpAny_loadName_free I.ok.kind hk hc hcell fin hcd) hd
theorem pe_int {i j pos}:PE X (.Constant (.int i) j pos) (tC (.int i)):=fun _ _ _ H _ I h=>wpAny_Constant_int ⟨.int i,H,I.tok _,⟨_,rfl⟩,h⟩
theorem pe_bl {b j pos}:PE X (.Constant (.bool b) j pos) (tC (.bl b)):=fun _ _ _ H _ I h=>Constant_bool ⟨.bl b,H,I,rfl,h⟩
theorem pe_non {j pos}:PE X (.Constant .none j pos) (tC .non):=fun _ _ _ H _ I h=>Constant_none ⟨.non,H,I,rfl,h⟩
theorem pe_str {x j pos}:PE X (.Constant (.str x) j pos) (tC (.str x)):=fun _ _ _ H _ I h=>Calls.Constant_str ⟨.str x,H,I.tok _,⟨_,rfl⟩,h⟩
def Gl (X:Cx) (x:Str):Prop:=X.env.kindOf x=some .globalImplicit
theorem ld_glob {E:Value→Shared→Prop}{pins:List (Addr×Obj)}{s:Shared}{σ:St}{H:Hp}{x:Str}{u:Value}{pos:Pos}{Q:Value→Shared→Prop}(I:Inv X pins σ H s)(hg:Gl X x)(hm:X.mg x=some u)(h:Q u s)
  (hd:(x==("__debug__" :Str))=false:=by decide):wpAny (model X.prog X.w) X.A (eval (.Name x pos) X.env) Q E s:=
 Calls.Name_function_global I.ok.kind hg (Calls.loadGlobal_global (by rw[I.ok.glob];exact I.mod.glob.keeps I.bk) hm h) hd
theorem ld_blt {E:Value→Shared→Prop}{pins:List (Addr×Obj)}{s:Shared}{σ:St}{H:Hp}{x:Str}{u:Value}{pos:Pos}{Q:Value→Shared→Prop}(I:Inv X pins σ H s)(hg:Gl X x)(hm:X.mg x=none)(hv:bootBuiltins x=some u)(h:Q u s)
  (hn:x≠ "__name__" :=by decide) (hd:(x==("__debug__" :Str))=false:=by decide):wpAny (model X.prog X.w) X.A (eval (.Name x pos) X.env) Q E s:=by
 obtain⟨mb,h1,h2⟩:=I.mod.blt
 exact Calls.Name_function_global I.ok.kind hg (Calls.loadGlobal_builtin (by rw[I.ok.glob];exact I.mod.glob.keeps I.bk) hm (by rw[I.ok.blt];exact h1.keeps I.bk) ((h2 x hn).trans hv) h) hd
theorem pe_glob {x:Str}{v:V}{u:Value}{pos:Pos}(hg:Gl X x)(hm:X.mg x=some u)(r:RelV v u)(hd:(x==("__debug__" :Str))=false:=by decide):PE X (.Name x pos) (tC v):=
 fun _ _ _ H _ I h=>ld_glob I hg hm ⟨v,H,I,r,h⟩ hd
theorem pe_bltn {x:Str}{v:V}{u:Value}{pos:Pos}(hg:Gl X x)(hm:X.mg x=none)(hv:bootBuiltins x=some u)(r:RelV v u)(hn:x≠ "__name__" :=by decide)(hd:(x==("__debug__" :Str))=false:=by decide):PE X (.Name x pos) (tC v):=
 fun _ _ _ H _ I h=>ld_blt I hg hm hv ⟨v,H,I,r,h⟩ hn hd
variable {a b:Expr} {ta tb:TE} {pos:Pos}
def PC (X:Cx) (op:CmpOp) (a b:Expr) (t:TE):Prop:=
 ∀(pins:List (Addr×Obj)) (s:Shared) (σ:St) (H:Hp) (Q:VK),Inv X pins σ H s→t σ H Q→
  wpAny (model X.prog X.w) X.A (eval a X.env) (fun v s₁=>wpAny (model X.prog X.w) X.A (eval b X.env) (fun u s₂=>wpAny (model X.prog X.w) X.A (compareOp op v u) (EP X pins σ Q) X.xe s₂) X.xe s₁) X.xe s
theorem nobehind (b:Expr){op:CmpOp}(h:op≠.In)(h2:op≠.NotIn):behindInMarks op b=false:=by
 have e1:(op==CmpOp.In)=false:=by cases op<;>first|rfl|exact absurd rfl h
 have e2:(op==CmpOp.NotIn)=false:=by cases op<;>first|rfl|exact absurd rfl h2
 cases b<;>simp[behindInMarks,e1,e2]
def tB (t:TE):TT:=fun σ H Q=>t σ H fun x H1=>∃c,x=.bl c∧Q c H1
theorem pe_cmp {op:CmpOp}{t:TE}(h:PC X op a b t)(h1:behindInMarks op b=false:=by first|exact nobehind _ (by decide) (by decide)|rfl):PE X (.Compare a [op] [b] pos) t:=fun pins s σ H Q I hw=>wpAny_Compare1 (h pins s σ H Q I hw) h1
theorem pt_cmp {op:CmpOp}{t:TE}(h:PC X op a b t)(h1:behindInMarks op b=false:=by first|exact nobehind _ (by decide) (by decide)|rfl):PT X (.Compare a [op] [b] pos) (tB t):=by
 intro pins s σ H Q I hw
 refine wpAny_isTrue_Compare1 (thn (h pins s σ H _ I hw) fun v s1 h1=>thn h1 fun u s2 h2=>thn h2 fun c s3 ⟨x,H1,I1,r1,q1⟩=>?_) h1
 obtain⟨d,rfl,q⟩:=q1
 cases r1
 exact wpAny_truthy_bool ⟨H1,I1,q⟩
theorem pt_val {e:Expr}{t:TE}(h:PE X e t)(he:∀whole,isTrue e X.env whole=(do let v←whole;standAt e.pos;holding [v] (truthy v)):=by intro _;rfl):PT X e (tB t):=by
 intro pins s σ H Q I hw
 refine isTrue_plain (thn (h pins s σ H _ I hw) fun v s1 ⟨x,H1,I1,r1,q1⟩=>?_) (he _)
 obtain⟨d,rfl,q⟩:=q1
 cases r1
 exact wpAny_truthy_bool ⟨H1,I1,q⟩
variable {tA tB':TT} {rest:List Expr}
def tAnd (t u:TT):TT:=fun σ H Q=>t σ H fun c H1=>if c=true then u σ H1 Q else Q false H1
def tOr (t u:TT):TT:=fun σ H Q=>t σ H fun c H1=>if c=true then Q true H1 else u σ H1 Q
def tNot (t:TT):TT:=fun σ H Q=>t σ H fun c H1=>Q (!c) H1
theorem pw_and1 (ha:PT X a tA):PW X (.BoolOp .And [a] pos) tA:=by
 intro wh pins s σ H Q I h
 refine isTrue_and (thn (ha pins s σ H Q I h) fun c s1 e=>?_)
 cases c with
 |true=>exact isTrue_and_nil e
 |false=>exact e
theorem pw_or1 (ha:PT X a tA):PW X (.BoolOp .Or [a] pos) tA:=by
 intro wh pins s σ H Q I h
 refine isTrue_or (thn (ha pins s σ H Q I h) fun c s1 e=>?_)
 cases c with
 |false=>exact isTrue_or_nil e
 |true=>exact e
theorem pw_and (ha:PT X a tA)(hb:PW X (.BoolOp .And (b::rest) pos) tB'):PW X (.BoolOp .And (a::b::rest) pos) (tAnd tA tB'):=by
 intro wh pins s σ H Q I h
 refine isTrue_and (thn (ha pins s σ H _ I h) fun c s1 ⟨H1,I1,q1⟩=>?_)
 cases c with
 |true=>exact hb wh pins s1 σ H1 Q I1 q1
 |false=>exact⟨H1,I1,q1⟩
theorem pw_or (ha:PT X a tA)(hb:PW X (.BoolOp .Or (b::rest) pos) tB'):PW X (.BoolOp .Or (a::b::rest) pos) (tOr tA tB'):=by
 intro wh pins s σ H Q I h
 refine isTrue_or (thn (ha pins s σ H _ I h) fun c s1 ⟨H1,I1,q1⟩=>?_)
 cases c with
 |true=>exact⟨H1,I1,q1⟩
 |false=>exact hb wh pins s1 σ H1 Q I1 q1
theorem pt_not (ha:PT X a tA):PT X (.UnaryOp .Not a pos) (tNot tA):=by
 intro pins s σ H Q I h
 exact isTrue_not (ha pins s σ H (fun c H1=>Q (!c) H1) I h)
def tAndV (ta tb:TE):TE:=fun σ H Q=>ta σ H fun x H1=>∃c,x=.bl c∧if c=true then tb σ H1 Q else Q (.bl false) H1
def tOrV (ta tb:TE):TE:=fun σ H Q=>ta σ H fun x H1=>∃c,x=.bl c∧if c=true then Q (.bl true) H1 else tb σ H1 Q
def tNotV (ta:TE):TE:=fun σ H Q=>ta σ H fun x H1=>∃c,x=.bl c∧Q (.bl (!c)) H1
theorem pe_one {op}{t:TE}(h:PE X a t):PE X (.BoolOp op [a] pos) t:=fun pins s σ H Q I hw=>BoolOp_one (h pins s σ H Q I hw)
theorem pe_and (ha:PE X a ta)(hb:PE X (.BoolOp .And (b::rest) pos) tb):PE X (.BoolOp .And (a::b::rest) pos) (tAndV ta tb):=by
 intro pins s σ H Q I h
 refine BoolOp_and (thn (ha pins s σ H _ I h) fun v s1 ⟨x,H1,I1,r1,q1⟩=>?_)
 obtain⟨c,rfl,q1⟩:=q1
 cases r1
 refine wpAny_truthy_bool ?_
 cases c with
 |true=>exact hb pins s1 σ H1 Q I1 q1
 |false=>exact⟨.bl false,H1,I1,rfl,q1⟩
theorem pe_or (ha:PE X a ta)(hb:PE X (.BoolOp .Or (b::rest) pos) tb):PE X (.BoolOp .Or (a::b::rest) pos) (tOrV ta tb):=by
 intro pins s σ H Q I h
 refine BoolOp_or (thn (ha pins s σ H _ I h) fun v s1 ⟨x,H1,I1,r1,q1⟩=>?_)
 obtain⟨c,rfl,q1⟩:=q1
 cases r1
 refine wpAny_truthy_bool ?_
 cases c with
 |false=>exact hb pins s1 σ H1 Q I1 q1
 |true=>exact⟨.bl true,H1,I1,rfl,q1⟩
theorem pe_not (ha:PE X a ta):PE X (.UnaryOp .Not a pos) (tNotV ta):=by
 intro pins s σ H Q I h
 refine UnaryOp_ (thn (ha pins s σ H _ I h) fun v s1 ⟨x,H1,I1,r1,q1⟩=>?_)
 obtain⟨c,rfl,q1⟩:=q1
 cases r1
 exact not_of (wpAny_truthy_bool ⟨.bl (!c),H1,I1,rfl,q1⟩)
def tIf (t:TT) (ta tb:TE):TE:=fun σ H Q=>t σ H fun c H1=>if c=true then ta σ H1 Q else tb σ H1 Q
theorem pe_ifExp {c:Expr}(hc:PT X c tA)(ha:PE X a ta)(hb:PE X b tb):PE X (.IfExp c a b pos) (tIf tA ta tb):=by
 intro pins s σ H Q I h
 refine wpAny_IfExp (thn (hc pins s σ H _ I h) fun d s1 ⟨H1,I1,q1⟩=>?_)
 cases d with
 |true=>exact ha pins s1 σ H1 Q I1 q1
 |false=>exact hb pins s1 σ H1 Q I1 q1
end
def SqL (K:PySem.W.Frag) (H:Hp) (a:Addr) (xs:List V):Prop:=
 Rd H a (.lst xs)∨
  ∃(o:Obj) (its:Array Value) (n:Nat),K.lookup a=some o∧o.cls=.type "list" ∧o.dict=none∧o.data=.seq its n∧its.size≤sizeLine∧Vals xs its.toList
def SqT (K:PySem.W.Frag) (H:Hp) (a:Addr) (xs:List V):Prop:=
 Rd H a (.tup xs)∨
  ∃(o:Obj) (its:Array Value) (n:Nat),K.lookup a=some o∧o.cls=.type "tuple" ∧o.data=.seq its n∧its.size≤sizeLine∧Vals xs its.toList
noncomputable def absV:Value→Option V
 | .none=>some .non
 | .bool b=>some (.bl b)
 | .int i _=>some (.int i)
 | .str x _=>some (.str x)
 | .bytes b _=>some (.byt b)
 | .float b _=>some (.flt b)
 | .ref a=>some (.ref a)
 | .type n=>some (.ty n)
 |_=>none
theorem RelV.abs {x:V}{u:Value}(r:RelV x u):absV u=some x:=by
 cases x with
 |non=>cases r;rfl
 |bl _=>cases r;rfl
 |int _=>obtain⟨t,rfl⟩:=r;rfl
 |str _=>obtain⟨t,rfl⟩:=r;rfl
 |byt _=>obtain⟨t,rfl⟩:=r;rfl
 |flt _=>obtain⟨t,rfl⟩:=r;rfl
 |ref _=>cases r;rfl
 |ty _=>cases r;rfl
theorem RelV.inj {x y:V}{u:Value}(r:RelV x u)(q:RelV y u):x=y:=Option.some.inj (r.abs.symm.trans q.abs)
theorem Vals.inj:∀{xs ys:List V} {us:List Value},Vals xs us→Vals ys us→xs=ys
 |_,_,_,.nil,.nil=>rfl
 |_,_,_,.cons r t,.cons r' t'=>by rw[r.inj r',Vals.inj t t']
section
variable {X:Cx} {pins:List (Addr×Obj)} {σ:St} {H:Hp} {s:Shared} {a:Addr} {xs ys:List V}
theorem SqL.of {K:PySem.W.Frag}(h:H a=some (.lst xs)):SqL K H a xs:=.inl (.inl h)
theorem SqT.of {K:PySem.W.Frag}(h:H a=some (.tup xs)):SqT K H a xs:=.inl (.inl h)
theorem Inv.list (I:Inv X pins σ H s)(h:SqL X.K H a xs):∃its:List Value,Vals xs its∧PlainL s.heap a its.toArray∧xs.length≤sizeLine:=by
 rcases h with h|⟨o,its,n,hk,hc,hd,hs,hz,r⟩
 ·obtain⟨z,its,n,r,e⟩:=h.ok I.hok
  exact⟨its,r,⟨_,n,e,rfl,rfl,rfl⟩,z⟩
 ·refine⟨its.toList,r,⟨o,n,I.kIn a o hk,hc,hd,by simpa using hs⟩,?_⟩
  have e:=r.length
  simp only[Array.length_toList] at e
  omega
theorem Inv.tuple (I:Inv X pins σ H s)(h:SqT X.K H a xs):∃its:List Value,Vals xs its∧IsTup s.heap a its.toArray∧xs.length≤sizeLine:=by
 rcases h with h|⟨o,its,n,hk,hc,hs,hz,r⟩
 ·obtain⟨z,its,r,p⟩:=h.ok I.hok
  exact⟨its,r,p,z⟩
 ·refine⟨its.toList,r,⟨o,I.kIn a o hk,hc,n,by simpa using hs⟩,?_⟩
  have e:=r.length
  simp only[Array.length_toList] at e
  omega
theorem Inv.list_inj (I:Inv X pins σ H s)(h:SqL X.K H a xs)(h':SqL X.K H a ys):xs=ys:=by
 obtain⟨its,r,⟨o,n,e,_,_,d⟩,_⟩:=I.list h
 obtain⟨its',r',⟨o',n',e',_,_,d'⟩,_⟩:=I.list h'
 rw[e] at e';cases e'
 rw[d] at d'
 injection d' with d1 _
 have:its=its':=by simpa using congrArg Array.toList d1
 subst this
 exact r.inj r'
theorem Inv.tuple_inj (I:Inv X pins σ H s)(h:SqT X.K H a xs)(h':SqT X.K H a ys):xs=ys:=by
 obtain⟨its,r,⟨o,e,_,n,d⟩,_⟩:=I.tuple h
 obtain⟨its',r',⟨o',e',_,n',d'⟩,_⟩:=I.tuple h'
 rw[e] at e';cases e'
 rw[d] at d'
 injection d' with d1 _
 have:its=its':=by simpa using congrArg Array.toList d1
 subst this
 exact r.inj r'
end
abbrev Cx.wish (X:Cx) (E:Value→Shared→Prop):Cx:={X with xe:=E}
abbrev Cx.nox (X:Cx):Cx:=X.wish fun _ _=>False
theorem Cx.Ok.wish {X:Cx}(ok:X.Ok)(E:Value→Shared→Prop):(X.wish E).Ok:=
 ⟨ok.mod,ok.kind,ok.glob,ok.blt,ok.above,ok.inj,ok.has,ok.cab,ok.hd,ok.frames,ok.stk,ok.exf,ok.bs,ok.bsz,ok.noex,ok.exfs,ok.funs,ok.frf⟩
theorem Cx.Ok.unwish {X:Cx}{E:Value→Shared→Prop}(ok:(X.wish E).Ok):X.Ok:=
 ⟨ok.mod,ok.kind,ok.glob,ok.blt,ok.above,ok.inj,ok.has,ok.cab,ok.hd,ok.frames,ok.stk,ok.exf,ok.bs,ok.bsz,ok.noex,ok.exfs,ok.funs,ok.frf⟩
section
variable {X:Cx} {pins:List (Addr×Obj)} {σ:St} {H:Hp} {s:Shared} {E:Value→Shared→Prop}
theorem Inv.wish (I:Inv X pins σ H s)(E:Value→Shared→Prop):Inv (X.wish E) pins σ H s:=⟨I.ok.wish E,I.os,I.bare,I.base,I.loc,I.cell,I.free,I.freeC,I.pin,I.hok,I.len⟩
theorem Inv.unwish (I:Inv (X.wish E) pins σ H s):Inv X pins σ H s:=⟨I.ok.unwish,I.os,I.bare,I.base,I.loc,I.cell,I.free,I.freeC,I.pin,I.hok,I.len⟩
theorem SP.unwish {D:Ends}{f:Flow}{s':Shared}(h:SP (X.wish E) pins D f s'):SP X pins D f s':=by
 cases f with
 |next=>obtain⟨σ',H',I,q⟩:=h;exact⟨σ',H',I.unwish,q⟩
 |brk=>obtain⟨σ',H',I,q⟩:=h;exact⟨σ',H',I.unwish,q⟩
 |cont=>obtain⟨σ',H',I,q⟩:=h;exact⟨σ',H',I.unwish,q⟩
 |ret u=>obtain⟨v,σ',H',I,r,q⟩:=h;exact⟨v,σ',H',I.unwish,r,q⟩
theorem PSs.nox {st:List Stmt}{t:TS}(h:PSs X.nox st t):PSs X st t:=fun pins s σ H D I hw=>
 wpAny_mono (h pins s σ H D (I.wish _) hw) (fun _ _ q=>q.unwish) fun _ _ z=>False.elim z
end
section
variable {X:Cx} {st:Stmt} {rest:List Stmt} {t u:TS} {e:Expr} {te:TE} {pos:Pos}
def tNext:TS:=fun D σ H=>D.nx σ H
def tSeq (t u:TS):TS:=fun D σ H=>t {D with nx:=u D} σ H
theorem pss_nil:PSs X [] tNext:=fun _ _ σ H _ I h=>wpAny_execs_nil ⟨σ,H,I,h⟩
theorem pss_cons (h1:PS X st t)(h2:PSs X rest u):PSs X (st::rest) (tSeq t u):=by
 intro pins s σ H D I h
 refine wpAny_execs_cons (thn (h1 pins s σ H {D with nx:=u D} I h) fun f s1 q=>?_)
 cases f with
 |next=>
  obtain⟨σ',H',I',q⟩:=q
  exact h2 pins s1 σ' H' D I' q
 |ret v=>exact q
 |brk=>exact q
 |cont=>exact q
theorem pss_one (h1:PS X st t):PSs X [st] t:=by
 intro pins s σ H D I h
 refine wpAny_execs_cons (thn (h1 pins s σ H D I h) fun f s1 q=>?_)
 cases f with
 |next=>exact wpAny_execs_nil q
 |ret v=>exact q
 |brk=>exact q
 |cont=>exact q
theorem Inv.quiet {pins:List (Addr×Obj)}{σ:St}{H:Hp}{s:Shared}(I:Inv X pins σ H s):interactive X.env=false:=by simp[interactive,I.ok.kind]
def tDrop (te:TE):TS:=fun D σ H=>te σ H fun _ H1=>D.nx σ H1
theorem ps_expr (he:PE X e te)(hs:swapsWith e none pos.line X.env=pure false:=by rfl):PS X (.Expr e pos) (tDrop te):=by
 intro pins s σ H D I h
 exact wpAny_Expr_any (thn (he pins s σ H _ I h) fun v s1 ⟨x,H1,I1,r1,q1⟩=>⟨σ,H1,I1,q1⟩) I.quiet hs
def tRet (te:TE):TS:=fun D σ H=>te σ H D.rt
theorem ps_ret (he:PE X e te):PS X (.Return (some e) pos) (tRet te):=by
 intro pins s σ H D I h
 exact wpAny_Return_some (thn (he pins s σ H _ I h) fun v s1 ⟨x,H1,I1,r1,q1⟩=>⟨x,σ,H1,I1,r1,q1⟩)
def tIfS (c:TT) (t u:TS):TS:=fun D σ H=>c σ H fun b H1=>if b=true then t D σ H1 else u D σ H1
theorem ps_if {c:Expr}{a b:List Stmt}{tc:TT}(hc:PT X c tc)(ha:PSs X a t)(hb:PSs X b u):PS X (.If c a b pos) (tIfS tc t u):=by
 intro pins s σ H D I h
 refine wpAny_If (thn (hc pins s σ H _ I h) fun d s1 ⟨H1,I1,q1⟩=>?_)
 cases d with
 |true=>exact ha pins s1 σ H1 D I1 q1
 |false=>exact hb pins s1 σ H1 D I1 q1
def tNever:TS:=fun _ _ _=>False
theorem ps_never:PS X st tNever:=fun _ _ _ _ _ _ h=>h.elim
end
abbrev TG:=V→St→Hp→(St→Hp→Prop)→Prop
abbrev TGs:=List V→St→Hp→(St→Hp→Prop)→Prop
def PG (X:Cx) (target:Expr) (t:TG):Prop:=
 ∀(pins:List (Addr×Obj)) (s:Shared) (σ:St) (H:Hp) (v:V) (u:Value) (Q:St→Hp→Prop),Inv X pins σ H s→RelV v u→t v σ H Q→
  wpAny (model X.prog X.w) X.A (assign target X.env u) (fun _ s'=>∃σ' H',Inv X pins σ' H' s'∧Q σ' H') X.xe s
def PGs (X:Cx) (ts:List Expr) (t:TGs):Prop:=
 ∀(pins:List (Addr×Obj)) (s:Shared) (σ:St) (H:Hp) (vs:List V) (us:List Value) (Q:St→Hp→Prop),Inv X pins σ H s→Vals vs us→t vs σ H Q→
  wpAny (model X.prog X.w) X.A (assignInOrder ((assignEach ts X.env).map (·.2)) us) (fun _ s'=>∃σ' H',Inv X pins σ' H' s'∧Q σ' H') X.xe s
abbrev TSet:=V→V→V→Hp→(Hp→Prop)→Prop
def PSet (X:Cx) (t:TSet):Prop:=
 ∀(pins:List (Addr×Obj)) (s:Shared) (σ:St) (H:Hp) (o i v:V) (ov iv u:Value) (Q:Hp→Prop),Inv X pins σ H s→RelV o ov→RelV i iv→RelV v u→t o i v H Q→
  wpAny (model X.prog X.w) X.A (setItem ov iv u) (fun _ s'=>∃H',Inv X pins σ H' s'∧Q H') X.xe s
section
variable {X:Cx} {pos:Pos}
def gName (i:Nat):TG:=fun v σ H Q=>Q (σ.set i (some v)) H
theorem pg_name {i:Nat}{x:Str}(hN:X.N.Nodup)(hi:X.N[i]?=some x)(hx:Loc X.env.scope x)(hf:X.fn x=true∨X.env.scope.names.lookup x=some .local:=by first|exact .inl rfl|exact .inr rfl|assumption):PG X (.Name x pos) (gName i):=by
 intro pins s σ H v u Q I r h
 exact wpAny_assign_Name (store_ok I hN hi hx r (fun s' I'=>⟨_,H,I',h⟩) hf)
def gNil:TGs:=fun vs σ H Q=>vs=[]∧Q σ H
noncomputable def gCons (t:TG) (u:TGs):TGs:=fun vs σ H Q=>∃v r,vs=v::r∧t v σ H fun σ' H'=>u r σ' H' Q
theorem pgs_nil:PGs X [] gNil:=by
 intro pins s σ H vs us Q I r h
 obtain⟨e,h⟩:=h
 subst e
 cases r
 exact assignInOrder_nil ⟨σ,H,I,h⟩
theorem pgs_cons {e:Expr}{es:List Expr}{t:TG}{u:TGs}(h1:PG X e t)(h2:PGs X es u)
  (hs:(assignEach (e::es) X.env).map (·.2)=assign e X.env::(assignEach es X.env).map (·.2):=by rfl):PGs X (e::es) (gCons t u):=by
 intro pins s σ H vs us Q I r h
 obtain⟨v,vr,e1,h⟩:=h
 subst e1
 cases r with
 |cons r rr=>
  rw[hs]
  refine assignInOrder_cons (thn (h1 pins s σ H _ _ _ I r h) fun _ s1 ⟨σ1,H1,I1,q1⟩=>?_)
  exact h2 pins s1 σ1 H1 _ _ Q I1 rr q1
def gTup (K:PySem.W.Frag) (n:Nat) (t:TGs):TG:=fun v σ H Q=>∃a xs,v=.ref a∧SqT K H a xs∧xs.length=n∧t xs σ H Q
theorem pg_tup {es:List Expr}{k:Nat}{t:TGs}{n:Nat}(hc:X.calm=true)(h:PGs X es t)
  (hn:(assignEach es X.env).length=n:=by rfl) (hst:(assignEach es X.env).findIdx? (·.1)=none:=by rfl):PG X (.Tuple es k pos) (gTup X.K n t):=by
 intro pins s σ H v u Q I r hw
 obtain⟨a,xs,e1,hq,hl,hw⟩:=hw
 subst e1
 cases r
 obtain⟨its,rv,ht,hz⟩:=I.tuple hq
 refine assign_Tuple_tuple (I.ok.hd hc) ht (by simp[hn,←hl,rv.length]) hst fun h' hx=>?_
 have I1:Inv X pins σ H {s with heap:=h'}:=I.kept (t':=s.toks) fun b o e=>hx b o (Nat.ne_of_lt (Heap.lt_size e)) e
 exact h pins _ σ H xs _ Q I1 (by simpa using rv) hw
def gSub (to ti:TE) (t:TSet):TG:=fun v σ H Q=>to σ H fun o H1=>ti σ H1 fun i H2=>t o i v H2 fun H3=>Q σ H3
theorem pg_sub {o i:Expr}{to ti:TE}{t:TSet}(ho:PE X o to)(hi:PE X i ti)(hs:PSet X t)
  (ha:∀v,assign (.Subscript o i pos) X.env v=(do
   let ov←holding [v] (eval o X.env)
   let iv←holding [v,ov] (eval i X.env)
   standAt pos
   holding [v,ov,iv] (setItem ov iv v)
   release [v,ov,iv] []):=by intro _;rfl):PG X (.Subscript o i pos) (gSub to ti t):=by
 intro pins s σ H v u Q I r h
 rw[ha]
 refine wpAny_bind (wpAny_holding (thn (ho pins s σ H _ I h) fun ov s1 ⟨x,H1,I1,r1,q1⟩=>?_))
 refine wpAny_bind (wpAny_holding (thn (hi pins s1 σ H1 _ I1 q1) fun iv s2 ⟨y,H2,I2,r2,q2⟩=>?_))
 refine wpAny_bind (wpAny_standAt (wpAny_bind (wpAny_holding (thn (hs pins s2 σ H2 x y v ov iv u _ I2 r1 r2 r q2) fun _ s3 ⟨H3,I3,q3⟩=>?_))))
 exact wpAny_release ⟨σ,H3,I3,q3⟩
def tAsg (te:TE) (g:TG):TS:=fun D σ H=>te σ H fun x H1=>g x σ H1 D.nx
theorem ps_asg {tg e:Expr}{te:TE}{g:TG}(he:PE X e te)(hg:PG X tg g)(hs:swapsWithSole [tg] e pos.line X.env=pure false:=by rfl)(hw:swappedStores [tg] e X.env=pure none:=by rfl)
  (h1:(assignEach [tg] X.env).map (·.2)=[assign tg X.env]:=by rfl):PS X (.Assign [tg] e pos) (tAsg te g):=by
 intro pins s σ H D I h
 refine wpAny_Assign_stores (thn (he pins s σ H _ I h) fun v s1 ⟨x,H1,I1,r1,q1⟩=>?_) hs hw
 rw[h1]
 exact thn (hg pins s1 σ H1 x v _ I1 r1 q1) fun _ s2 q=>q
theorem ps_set {i:Nat}{x:Str}{e:Expr}{te:TE}{pos':Pos}(hN:X.N.Nodup)(hi:X.N[i]?=some x)(hx:Loc X.env.scope x)(he:PE X e te)(hs:swapsWith e (some (.Name x pos')) pos.line X.env=pure false:=by rfl)(hf:X.fn x=true∨X.env.scope.names.lookup x=some .local:=by first|exact .inl rfl|exact .inr rfl|assumption):
  PS X (.Assign [.Name x pos'] e pos) (tAsg te (gName i)):=by
 intro pins s σ H D I h
 refine wpAny_Assign_Name (thn (he pins s σ H _ I h) fun v s1 ⟨y,H1,I1,r1,q1⟩=>?_) hs
 exact store_ok I1 hN hi hx r1 (fun s2 I2=>⟨_,H1,I2,q1⟩) hf
end
section
variable {X:Cx} {pos:Pos}
end
structure It where
 go:Nat→Hp→Prop
 yld:Nat→Hp→V→Hp→Prop
 stop:Nat→Hp→Prop
def FpOk (X:Cx) (pins:List (Addr×Obj)) (H:Hp) (b:Addr):Prop:=
 H b=none∧b≠X.env.locals∧b∉X.fs∧(b∈X.ex∨X.s₀.heap.objs.size≤b)∧(∀x c,X.env.cells.lookup x=some c→c≠b)∧∀p∈X.pn++pins,p.1≠b
theorem Inv.fpOk {X:Cx}{pins:List (Addr×Obj)}{σ:St}{H H':Hp}{s:Shared}{b:Addr}(I:Inv X pins σ H s)(hb:s.heap.objs.size≤b)(hn:H' b=none):FpOk X pins H' b:=by
 refine⟨hn,Nat.ne_of_gt (Nat.lt_of_lt_of_le I.lt hb),I.nofs hb,.inr (Nat.le_trans I.sz hb),fun x c e z=>?_,fun p hp z=>?_⟩
 ·obtain⟨v,q⟩:=I.cell x c e
  exact absurd (Nat.lt_of_lt_of_le q.lt (by rw[z];exact hb)) (Nat.lt_irrefl _)
 ·exact absurd (Nat.lt_of_lt_of_le (Heap.lt_size (I.pin p hp).1) (by rw[z];exact hb)) (Nat.lt_irrefl _)
structure Turn (P:Program) (w:World) (K:PySem.W.Frag) (tg:Expr) (J:It) (fp:List Addr) (it:Addr) (tn:Nat→Heap→Prop):Prop where
 mem:it∈fp
 obj:∀i h,tn i h→∀b∈fp,∃o,h.get? b=some o∧∀v,o.data≠.cell v
 keep:∀i h h',tn i h→(∀b∈fp,∀o,h.get? b=some o→h'.get? b=some o)→tn i h'
 item:∀(X:Cx),X.prog=P→X.w=w→X.K=K→X.calm=true→∀(i:Nat) (pins:List (Addr×Obj)) (s:Shared) (σ:St) (H:Hp) (E:Value→Shared→Prop),Inv X pins σ H s→(∀b∈fp,FpOk X pins H b)→tn i s.heap→J.go i H→
  wpAny (model P w) X.A (pyNext (.ref it)) (fun r s1=>∃u,r=some u∧
   wpAny (model P w) X.A (letOwnedTupleGo tg (.ref it) u) (fun _ s2=>∃x H',Inv X pins σ H' s2∧RelV x u∧J.yld i H x H'∧tn (i+1) s2.heap∧∀b∈fp,H' b=none) E s1) E s
 done:∀(X:Cx),X.prog=P→X.w=w→X.K=K→X.calm=true→∀(i:Nat) (pins:List (Addr×Obj)) (s:Shared) (σ:St) (H:Hp) (E:Value→Shared→Prop),Inv X pins σ H s→(∀b∈fp,FpOk X pins H b)→tn i s.heap→J.stop i H→
  wpAny (model P w) X.A (pyNext (.ref it)) (fun r s1=>r=none∧Inv X pins σ H s1) E s
 self:∀(A:Around) (i:Nat) (s:Shared) (Q:Value→Shared→Prop) (E:Value→Shared→Prop),tn i s.heap→Q (.ref it) s→wpAny (model P w) A (pyIter (.ref it)) Q E s
abbrev TI:=St→Hp→(It→Hp→Prop)→Prop
def PIE (X:Cx) (pins:List (Addr×Obj)) (σ:St) (tg:Expr) (R:It→Hp→Prop) (itv:Value) (s2:Shared):Prop:=
 ∃(it:Addr) (fp:List Addr) (tn:Nat→Heap→Prop) (J:It) (H':Hp),itv=.ref it∧Inv X pins σ H' s2∧Turn X.prog X.w X.K tg J fp it tn∧tn 0 s2.heap∧(∀b∈fp,FpOk X pins H' b)∧R J H'
def PI (X:Cx) (tg iter:Expr) (wi:TI):Prop:=
 ∀(pins:List (Addr×Obj)) (s:Shared) (σ:St) (H:Hp) (R:It→Hp→Prop),Inv X pins σ H s→wi σ H R→
  wpAny (model X.prog X.w) X.A (eval iter X.env) (fun v s1=>wpAny (model X.prog X.w) X.A (pyIter v) (PIE X pins σ tg R) X.xe s1) X.xe s
theorem go_of {M:Model}{A:Around}{E:Value→Shared→Prop}{s:Shared}{tg:Expr}{it:Addr}{u:Value}{o:Obj}{n:String}{vs:Array Value}{Q:Unit→Shared→Prop}(ho:s.heap.get? it=some o)(hc:o.cls=.type n)(hd:o.data=.fields vs)
  (hn:["enumerate", "zip", "dict_itemiterator", "dict_reverseitemiterator", "odict_iterator", "itertools.zip_longest", "itertools.pairwise"].contains n=false) (hQ:Q () s):wpAny M A (letOwnedTupleGo tg (.ref it) u) Q E s:=by
 unfold letOwnedTupleGo
 cases tg<;>first
  |exact wpAny_pure hQ
  |(cases u<;>first
    |exact wpAny_pure hQ
    |(refine wpAny_bind (wpAny_load ho ?_)
      rw[hc,hd]
      show wpAny M A (if (["enumerate", "zip", "dict_itemiterator", "dict_reverseitemiterator", "odict_iterator", "itertools.zip_longest", "itertools.pairwise"].contains n&&vs[0]?==some (rawInt _))=true then _ else _) Q E s
      rw[if_neg (by intro h;rw[hn,Bool.false_and] at h;cases h)]
      exact wpAny_pure hQ))
noncomputable def Itl (K:PySem.W.Frag) (a:Addr):It:=
 ⟨fun i H=>∃xs x,SqL K H a xs∧xs[i]?=some x,fun i H x H'=>H'=H∧∀xs,SqL K H a xs→xs[i]?=some x,fun i H=>∃xs,SqL K H a xs∧xs.length≤i⟩
noncomputable def Itr (lo:Int) (n:Nat):It:=⟨fun i _=>i<n,fun i H x H'=>H'=H∧x=.int (lo+i),fun i _=>n≤i⟩
theorem turn_list {P:Program}{w:World}{K:PySem.W.Frag}{tg:Expr}(a it:Addr):Turn P w K tg (Itl K a) [it] it (fun i h=>h.IsListIter it a i) where
 mem:=by simp
 obj:=fun i h st b hb=>by
  have e:b=it:=by simpa using hb
  subst e
  obtain⟨o,e,c,d⟩:=st
  exact⟨o,e,fun v z=>by rw[d] at z;cases z⟩
 keep:=fun i h h' st k=>st.at fun o e=>k it (by simp) o e
 item:=by
  intro X hP hw hK hc i pins s σ H E I hf st hg
  subst hP hw hK
  obtain⟨xs,x,hq,hx⟩:=hg
  obtain⟨its,rv,p,hz⟩:=I.list hq
  obtain⟨u,hu,ru⟩:=rv.get hx
  obtain⟨f0,f1,f2,f3,f4,f5⟩:=hf it (by simp)
  refine wpAny_pyNext_list_item st p.isList (x:=u) (by simpa using hu) fun h' st' sb=>?_
  have I1:Inv X pins σ H {s with heap:=h'}:=I.turned (t':=s.toks) (fun b o hb e=>(sb.2 b hb).trans e) f0 f1 f3 f4 f5
  obtain⟨o,e,c,d⟩:=id st'
  exact⟨u,rfl,go_of (s:={s with heap:=h'}) e c d (by decide) ⟨x,H,I1,ru,⟨rfl,fun ys hy=>by rw[I.list_inj hy hq];exact hx⟩,st',fun b hb=>(hf b hb).1⟩⟩
 done:=by
  intro X hP hw hK hc i pins s σ H E I hf st hg
  subst hP hw hK
  obtain⟨xs,hq,hx⟩:=hg
  obtain⟨its,rv,p,hz⟩:=I.list hq
  obtain⟨f0,f1,f2,f3,f4,f5⟩:=hf it (by simp)
  have hl:=rv.length
  exact wpAny_pyNext_list_end (I.ok.hd hc) st p.isList (by simp;omega) fun h' eb=>⟨rfl,I.turned (t':=s.toks) (fun b o hb e=>eb b o hb e) f0 f1 f3 f4 f5⟩
 self:=fun _ _ _ _ _ st h=>wpAny_pyIter_listiter st h
theorem turn_range {P:Program}{w:World}{K:PySem.W.Frag}{tg:Expr}(it:Addr)(lo:Int)(n:Nat):Turn P w K tg (Itr lo n) [it] it (fun i h=>IsRangeIter h it (lo+(i:Nat)*1) ((n:Int) - (i:Nat)) 1) where
 mem:=by simp
 obj:=fun i h st b hb=>by
  have e:b=it:=by simpa using hb
  subst e
  exact⟨_,st,fun v z=>by
   have z':Data.fields _=Data.cell v:=z
   cases z'⟩
 keep:=fun i h h' st k=>k it (by simp) _ st
 item:=by
  intro X hP hw hK hc i pins s σ H E I hf st hg
  subst hP hw hK
  obtain⟨f0,f1,f2,f3,f4,f5⟩:=hf it (by simp)
  have W:=Walks.range (prog:=X.prog) (w:=X.w) (I.ok.hd hc) it lo 1 n
  refine W.item i s _ _ hg st fun v h' tk hv st' kk=>?_
  obtain⟨t,rfl⟩:=hv
  have I1:Inv X pins σ H {s with heap:=h',toks:=tk}:=I.turned (fun b o hb e=>kk b o (by simpa using hb) e) f0 f1 f3 f4 f5
  refine⟨_,rfl,go_of (s:={s with heap:=h',toks:=tk}) (n:= "range_iterator") st' rfl rfl (by decide) ⟨.int (lo+i),H,I1,⟨t,?_⟩,⟨rfl,rfl⟩,st',fun b hb=>(hf b hb).1⟩⟩
  rw[Int.mul_one]
 done:=by
  intro X hP hw hK hc i pins s σ H E I hf st hg
  subst hP hw hK
  obtain⟨f0,f1,f2,f3,f4,f5⟩:=hf it (by simp)
  exact wpAny_pyNext_range_end (I.ok.hd hc) st (by have:n≤i:=hg;omega) fun h' eb=>⟨rfl,I.turned (t':=s.toks) (fun b o hb e=>eb b o hb e) f0 f1 f3 f4 f5⟩
 self:=fun _ _ _ _ _ st h=>wpAny_pyIter_rangeiter st h
section
variable {X:Cx} {tg:Expr}
def iList (K:PySem.W.Frag) (tl:TE):TI:=fun σ H R=>tl σ H fun x H1=>∃a,x=.ref a∧(∃xs,SqL K H1 a xs)∧R (Itl K a) H1
theorem pi_list {l:Expr}{tl:TE}(hl:PE X l tl):PI X tg l (iList X.K tl):=by
 intro pins s σ H R I h
 refine thn (hl pins s σ H _ I h) fun v s1 ⟨x,H1,I1,r1,q1⟩=>?_
 obtain⟨a,e,⟨xs,hq⟩,q⟩:=q1
 subst e
 cases r1
 obtain⟨its,rv,p,hz⟩:=I1.list hq
 refine wpAny_pyIter_list p.isList ?_
 refine⟨s1.heap.objs.size,[s1.heap.objs.size],_,_,H1,rfl,I1.kept (t':=s1.toks) fun b o e=>Heap.get?_push_of_some _ e,turn_list a _,⟨_,Heap.get?_push_size _ rfl,rfl,rfl⟩,fun b hb=>?_,q⟩
 have e:b=s1.heap.objs.size:=by simpa using hb
 subst e
 exact I1.fpOk (Nat.le_refl _) (I1.hok.fresh (Nat.le_refl _))
theorem range_it {pins:List (Addr×Obj)}{σ:St}{H:Hp}{s:Shared}{R:It→Hp→Prop}{E:Value→Shared→Prop}{lo hi:Int}{t u v:Tok}{tk:Nat}(I:Inv X pins σ H s)(h1: -(2^62)≤lo)(h2:lo<2^62)(h3: -(2^62)≤hi)(h4:hi<2^62)
  (q:R (Itr lo (hi - lo).toNat) H):wpAny (model X.prog X.w) X.A (pyIter (.ref s.heap.objs.size)) (PIE X pins σ tg R) E {s with heap:=s.heap.push {cls:=.type "range",data:=.fields #[.int lo t,.int hi u,.int 1 v]},toks:=tk}:=by
 refine wpAny_pyIter_range (IsRange.new ..) (small_one h1 h2 h3 h4) ?_
 have I1:Inv X pins σ H {s with heap:=s.heap.push {cls:=.type "range",data:=.fields #[.int lo t,.int hi u,.int 1 v]},toks:=tk}:=I.kept fun b o e=>Heap.get?_push_of_some _ e
 refine⟨(s.heap.push {cls:=.type "range",data:=.fields #[.int lo t,.int hi u,.int 1 v]}).objs.size,[(s.heap.push {cls:=.type "range",data:=.fields #[.int lo t,.int hi u,.int 1 v]}).objs.size],_,_,H,rfl,
  I1.kept (t':=tk) fun b o e=>Heap.get?_push_of_some _ e,turn_range _ lo (hi - lo).toNat,?_,fun b hb=>?_,q⟩
 ·have e1:lo+((0:Nat):Int)*1=lo:=by simp
  have e2:(((hi - lo).toNat:Nat):Int) - ((0:Nat):Int)=Builtin.Range.rangeSize lo hi 1:=by rw[rangeSize_one];split<;>omega
  show IsRangeIter _ _ (lo+((0:Nat):Int)*1) ((((hi - lo).toNat:Nat):Int) - ((0:Nat):Int)) 1
  rw[e1,e2]
  exact Heap.get?_push_size _ rfl
 ·have e:b=(s.heap.push {cls:=.type "range",data:=.fields #[.int lo t,.int hi u,.int 1 v]}).objs.size:=by simpa using hb
  subst e
  exact I1.fpOk (Nat.le_refl _) (I1.hok.fresh (Nat.le_refl _))
def iRng1 (ta:TA):TI:=fun σ H R=>ta σ H fun vs H1=>∃j:Int,vs=[.int j]∧ -(2^62)≤j∧j<2^62∧R (Itr 0 j.toNat) H1
def iRng2 (ta:TA):TI:=fun σ H R=>ta σ H fun vs H1=>∃i j:Int,vs=[.int i,.int j]∧(-(2^62)≤i∧i<2^62∧ -(2^62)≤j∧j<2^62)∧R (Itr i (j - i).toNat) H1
theorem pi_range1 {a:Expr}{ta:TA}{p pos:Pos}(hg:Gl X "range")(hm:X.mg "range" =none)(ha:PA X [a] ta)(hs:starEach [a] X.env=[(false,eval a X.env)]:=by rfl):PI X tg (.Call (.Name "range" p) [a] [] pos) (iRng1 ta):=by
 intro pins s σ H R I h
 refine Call_ (ld_blt I hg hm boot_range (PyProof.Rows.callWith_type1 (thn (ha pos pins s σ H _ I h) fun us s1 ⟨vs,H1,I1,r1,q1⟩=>?_) hs rfl))
 obtain⟨j,e,q1,q2,q⟩:=q1
 subst e
 cases r1 with
 |cons r rr=>
  cases rr
  obtain⟨t,rfl⟩:=r
  exact call_range_1 (range_it I1 (by omega) (by omega) q1 q2 (by simpa using q))
theorem pi_range2 {a b:Expr}{ta:TA}{p pos:Pos}(hg:Gl X "range")(hm:X.mg "range" =none)(ha:PA X [a,b] ta)(hs:starEach [a,b] X.env=[(false,eval a X.env),(false,eval b X.env)]:=by rfl)(hs2:starEach [b] X.env=[(false,eval b X.env)]:=by rfl):
  PI X tg (.Call (.Name "range" p) [a,b] [] pos) (iRng2 ta):=by
 intro pins s σ H R I h
 refine Call_ (ld_blt I hg hm boot_range (PyProof.Rows.callWith_type1 (thn (ha pos pins s σ H _ I h) fun us s1 ⟨vs,H1,I1,r1,q1⟩=>?_) (by rw[hs,hs2]) (by rw[hs2];rfl)))
 obtain⟨i,j,e,⟨q1,q2,q3,q4⟩,q⟩:=q1
 subst e
 cases r1 with
 |cons r rr=>
  cases rr with
  |cons r' rr=>
   cases rr
   obtain⟨t,rfl⟩:=r
   obtain⟨t',rfl⟩:=r'
   exact call_range_2 (range_it I1 q1 q2 q3 q4 q)
def tFor (wi:TI) (g:TG) (tb:TS):TS:=fun D σ H=>wi σ H fun J H1=>∃W:Nat→Nat→St→Hp→Prop,(∃m,W 0 m σ H1)∧∀i m σ H,W i m σ H→
 (J.stop i H∧D.nx σ H)∨(J.go i H∧∃N:St→Hp→Prop,(∀σ' H',N σ' H'→∃m',m'<m∧W (i+1) m' σ' H')∧∀x H',J.yld i H x H'→g x σ H' fun σ2 H2=>tb {D with nx:=N,ct:=N,bk:=D.nx} σ2 H2)
noncomputable def pinsAt (fp:List Addr) (h:Heap):List (Addr×Obj):=fp.filterMap fun b=>(h.get? b).map fun o=>(b,o)
theorem mem_pinsAt {fp:List Addr}{h:Heap}{b:Addr}{o:Obj}(hb:b∈fp)(e:h.get? b=some o):(b,o)∈pinsAt fp h:=List.mem_filterMap.mpr ⟨b,hb,by rw[e];rfl⟩
theorem of_pinsAt {fp:List Addr}{h:Heap}{p:Addr×Obj}(hp:p∈pinsAt fp h):p.1∈fp∧h.get? p.1=some p.2:=by
 obtain⟨b,hb,e⟩:=List.mem_filterMap.mp hp
 cases q:h.get? b with
 |none=>rw[q] at e;cases e
 |some o=>
  rw[q] at e
  have e':(b,o)=p:=Option.some.inj e
  subst e'
  exact⟨hb,q⟩
theorem Inv.pinned {pins:List (Addr×Obj)}{σ:St}{H:Hp}{s:Shared}{fp:List Addr}(I:Inv X pins σ H s)(hf:∀b∈fp,FpOk X pins H b)(ho:∀b∈fp,∃o,s.heap.get? b=some o∧∀v,o.data≠.cell v):Inv X (pins++pinsAt fp s.heap) σ H s:=
 I.pins_of fun p hp=>(List.mem_append.mp hp).elim (fun z=>I.pin p (List.mem_append_right _ z)) fun z=>by
  obtain⟨hb,e⟩:=of_pinsAt z
  obtain⟨f0,f1,f2,_⟩:=hf p.1 hb
  obtain⟨o,e',d⟩:=ho p.1 hb
  rw[e] at e';cases e'
  exact⟨e,f0,f1,f2,d⟩
theorem Inv.unpinned {pins pl:List (Addr×Obj)}{σ:St}{H:Hp}{s:Shared}(I:Inv X (pins++pl) σ H s):Inv X pins σ H s:=I.pins_of fun p hp=>I.pin p (List.mem_append_right _ (List.mem_append_left _ hp))
theorem ps_for {iter:Expr}{body:List Stmt}{wi:TI}{g:TG}{tb:TS}{pos:Pos}(hp:PassesOwn (model X.prog X.w) X.A X.env X.xe)(hc:X.calm=true)(hi:PI X tg iter wi)(hg:PG X tg g)(hb:PSs X body tb)
  (hs:∀x,foldedSetIterable iter X.env x=pure x:=by intro _;rfl):PS X (.For tg iter body [] pos) (tFor wi g tb):=by
 intro pins s σ H D I h
 refine wpAny_For (thn (hi pins s σ H _ I h) fun v s1 h1=>thn h1 fun itv s2 h2=>?_) hs
 obtain⟨it,fp,tn,J,H2,e,I2,T,st2,f2,W,⟨m0,w0⟩,turn⟩:=h2
 subst e
 have stat:∀{H':Hp},(∀b∈fp,H' b=none)→∀b∈fp,FpOk X pins H' b:=fun hn b hb=>⟨hn b hb,(f2 b hb).2⟩
 refine codeAny_forLoop_any (fun n s'=>∃i σ' H',Inv X pins σ' H' s'∧tn i s'.heap∧(∀b∈fp,H' b=none)∧W i n σ' H') ?_ m0 ⟨0,σ,H2,I2,st2,fun b hb=>(f2 b hb).1,w0⟩
 rintro n s3 ⟨i,σ3,H3,I3,st3,fr3,w3⟩
 rcases turn i n σ3 H3 w3 with ⟨stop,qn⟩|⟨go,N,hN,step⟩
 ·refine wpAny_passesOwn hp (thn (T.done X rfl rfl rfl hc i pins s3 σ3 H3 X.xe I3 (stat fr3) st3 stop) fun r s4 ⟨hr,I4⟩=>?_)
  subst hr
  exact wpAny_execs_nil ⟨σ3,H3,I4,qn⟩
 ·refine wpAny_passesOwn hp (thn (T.item X rfl rfl rfl hc i pins s3 σ3 H3 X.xe I3 (stat fr3) st3 go) fun r s4 ⟨u,hr,h4⟩=>?_)
  subst hr
  refine wpAny_passesOwn hp (thn h4 fun _ s5 ⟨x,H5,I5,r5,y5,st5,fr5⟩=>?_)
  have I5':=I5.pinned (stat fr5) (T.obj _ _ st5)
  refine wpAny_passesOwn hp (thn (hg _ s5 σ3 H5 x u _ I5' r5 (step x H5 y5)) fun _ s6 ⟨σ6,H6,I6,q6⟩=>?_)
  refine wpAny_passesOwn hp (thn (hb _ s6 σ6 H6 _ I6 q6) fun f s7 q7=>?_)
  have again:∀{σ7:St} {H7:Hp},Inv X (pins++pinsAt fp s5.heap) σ7 H7 s7→N σ7 H7→∃m,m<n∧∃i σ' H',Inv X pins σ' H' s7∧tn i s7.heap∧(∀b∈fp,H' b=none)∧W i m σ' H':=fun{σ7 H7} I7 n7=>by
   obtain⟨m',hm,w7⟩:=hN σ7 H7 n7
   refine⟨m',hm,i+1,σ7,H7,I7.unpinned,T.keep _ _ _ st5 fun b hb o e=>(I7.pin (b,o) (List.mem_append_right _ (List.mem_append_right _ (mem_pinsAt hb e)))).1,fun b hb=>?_,w7⟩
   obtain⟨o,e,d⟩:=T.obj _ _ st5 b hb
   exact(I7.pin (b,o) (List.mem_append_right _ (List.mem_append_right _ (mem_pinsAt hb e)))).2.1
  cases f with
  |next=>obtain⟨σ7,H7,I7,n7⟩:=q7;exact again I7 n7
  |cont=>obtain⟨σ7,H7,I7,n7⟩:=q7;exact again I7 n7
  |brk=>obtain⟨σ7,H7,I7,q7⟩:=q7;exact⟨σ7,H7,I7.unpinned,q7⟩
  |ret v=>obtain⟨x7,σ7,H7,I7,r7,q7⟩:=q7;exact⟨x7,σ7,H7,I7.unpinned,r7,q7⟩
end
theorem for_list {K:PySem.W.Frag}{a:Addr}{xs:List V}{g:TG}{tb:TS}{D:Ends}{σ:St}{H:Hp}(Pv:Nat→St→Hp→Prop)(h0:Pv 0 σ H)(hl:∀i σ H,i≤xs.length→Pv i σ H→SqL K H a xs)
  (hs:∀i x σ H,xs[i]?=some x→Pv i σ H→g x σ H fun σ2 H2=>tb {D with nx:=Pv (i+1),ct:=Pv (i+1),bk:=D.nx} σ2 H2) (hd:∀σ H,Pv xs.length σ H→D.nx σ H):
  ∃W:Nat→Nat→St→Hp→Prop,(∃m,W 0 m σ H)∧∀i m σ H,W i m σ H→
   ((Itl K a).stop i H∧D.nx σ H)∨((Itl K a).go i H∧∃N:St→Hp→Prop,(∀σ' H',N σ' H'→∃m',m'<m∧W (i+1) m' σ' H')∧∀x H',(Itl K a).yld i H x H'→g x σ H' fun σ2 H2=>tb {D with nx:=N,ct:=N,bk:=D.nx} σ2 H2):=by
 refine⟨fun i m σ H=>m=xs.length - i∧i≤xs.length∧Pv i σ H,⟨xs.length,by simp,Nat.zero_le _,h0⟩,?_⟩
 rintro i m σ H ⟨rfl,hi,p⟩
 have q:=hl i σ H hi p
 by_cases hlt:i<xs.length
 ·refine .inr ⟨⟨xs,xs[i],q,by simp[hlt]⟩,Pv (i+1),fun σ' H' p'=>⟨xs.length - (i+1),by omega,rfl,hlt,p'⟩,fun x H' y=>?_⟩
  obtain⟨e,y⟩:=y
  subst e
  exact hs i x σ _ (y xs q) p
 ·have e:i=xs.length:=by omega
  subst e
  exact .inl ⟨⟨xs,q,Nat.le_refl _⟩,hd σ H p⟩
theorem for_range {lo:Int}{n:Nat}{g:TG}{tb:TS}{D:Ends}{σ:St}{H:Hp}(Pv:Nat→St→Hp→Prop)(h0:Pv 0 σ H)
  (hs:∀i σ H,i<n→Pv i σ H→g (.int (lo+i)) σ H fun σ2 H2=>tb {D with nx:=Pv (i+1),ct:=Pv (i+1),bk:=D.nx} σ2 H2) (hd:∀σ H,Pv n σ H→D.nx σ H):
  ∃W:Nat→Nat→St→Hp→Prop,(∃m,W 0 m σ H)∧∀i m σ H,W i m σ H→
   ((Itr lo n).stop i H∧D.nx σ H)∨((Itr lo n).go i H∧∃N:St→Hp→Prop,(∀σ' H',N σ' H'→∃m',m'<m∧W (i+1) m' σ' H')∧∀x H',(Itr lo n).yld i H x H'→g x σ H' fun σ2 H2=>tb {D with nx:=N,ct:=N,bk:=D.nx} σ2 H2):=by
 refine⟨fun i m σ H=>m=n - i∧i≤n∧Pv i σ H,⟨n,by simp,Nat.zero_le _,h0⟩,?_⟩
 rintro i m σ H ⟨rfl,hi,p⟩
 by_cases hlt:i<n
 ·refine .inr ⟨hlt,Pv (i+1),fun σ' H' p'=>⟨n - (i+1),by omega,rfl,hlt,p'⟩,fun x H' y=>?_⟩
  obtain⟨e,y⟩:=y
  subst e y
  exact hs i σ _ hlt p
 ·have e:i=n:=by omega
  subst e
  exact .inl ⟨Nat.le_refl _,hd σ H p⟩
abbrev R2:=V→V→Hp→VK→Prop
def OpR (X:Cx) (f:Value→Value→Sem Value) (r:R2):Prop:=
 ∀(pins:List (Addr×Obj)) (s:Shared) (σ:St) (H:Hp) (x y:V) (v u:Value) (Q:VK),Inv X pins σ H s→RelV x v→RelV y u→r x y H Q→
  wpAny (model X.prog X.w) X.A (f v u) (EP X pins σ Q) X.xe s
def UnR (X:Cx) (f:Value→Sem Value) (r:V→Hp→VK→Prop):Prop:=
 ∀(pins:List (Addr×Obj)) (s:Shared) (σ:St) (H:Hp) (x:V) (v:Value) (Q:VK),Inv X pins σ H s→RelV x v→r x H Q→
  wpAny (model X.prog X.w) X.A (f v) (EP X pins σ Q) X.xe s
def CallR (X:Cx) (f:Value) (r:List V→Hp→VK→Prop):Prop:=
 ∀(pins:List (Addr×Obj)) (s:Shared) (σ:St) (H:Hp) (xs:List V) (us:List Value) (Q:VK),Inv X pins σ H s→Vals xs us→r xs H Q→
  wpAny (model X.prog X.w) X.A (call f us) (EP X pins σ Q) X.xe s
def tOp (r:R2) (ta tb:TE):TE:=fun σ H Q=>ta σ H fun x H1=>tb σ H1 fun y H2=>r x y H2 Q
def tUn (r:V→Hp→VK→Prop) (ta:TE):TE:=fun σ H Q=>ta σ H fun x H1=>r x H1 Q
def rI (C:Int→Int→Prop) (g:Int→Int→V):R2:=fun x y H Q=>∃i j,x=.int i∧y=.int j∧C i j∧Q (g i j) H
def rI0 (g:Int→Int→V):R2:=fun x y H Q=>∃i j,x=.int i∧y=.int j∧Q (g i j) H
def rU (g:Int→V):V→Hp→VK→Prop:=fun x H Q=>∃i,x=.int i∧Q (g i) H
section
variable {X:Cx} {a b c:Expr} {ta tb tc:TE} {pos:Pos}
theorem binT (ha:PE X a ta)(hb:PE X b tb){pins:List (Addr×Obj)}{s:Shared}{σ:St}{H:Hp}{R:V→V→Hp→Prop}(I:Inv X pins σ H s)
  (h:ta σ H fun x H1=>tb σ H1 fun y H2=>R x y H2) {Q:Value→Shared→Prop} {f:Value→Value→Sem Value}
  (hf:∀v u s2 x y H2,Inv X pins σ H2 s2→RelV x v→RelV y u→R x y H2→wpAny (model X.prog X.w) X.A (f v u) Q X.xe s2):
  wpAny (model X.prog X.w) X.A (eval a X.env) (fun v s₁=>wpAny (model X.prog X.w) X.A (eval b X.env) (fun u s₂=>wpAny (model X.prog X.w) X.A (f v u) Q X.xe s₂) X.xe s₁) X.xe s:=by
 refine thn (ha pins s σ H _ I h) fun v s1 ⟨x,H1,I1,r1,q1⟩=>?_
 refine thn (hb pins s1 σ H1 _ I1 q1) fun u s2 ⟨y,H2,I2,r2,q2⟩=>?_
 exact hf v u s2 x y H2 I2 r1 r2 q2
theorem pe_op {op:Operator}{r:R2}(ho:OpR X (binaryOp op) r)(ha:PE X a ta)(hb:PE X b tb):PE X (.BinOp a op b pos) (tOp r ta tb):=by
 intro pins s σ H Q I h
 exact wpAny_BinOp (binT ha hb I h fun v u s2 x y H2 I2 rx ry q=>ho pins s2 σ H2 x y v u Q I2 rx ry q)
theorem pe_un {op:UnaryOp}{r:V→Hp→VK→Prop}(ho:UnR X (unaryOp op) r)(ha:PE X a ta):PE X (.UnaryOp op a pos) (tUn r ta):=by
 intro pins s σ H Q I h
 exact UnaryOp_ (thn (ha pins s σ H _ I h) fun v s1 ⟨x,H1,I1,r1,q1⟩=>ho pins s1 σ H1 x v Q I1 r1 q1)
theorem opI {f:Value→Value→Sem Value}{C:Int→Int→Prop}{g:Int→Int→Int}
  (rule:∀(i j:Int) (t u:Tok) (s:Shared) (Q:Value→Shared→Prop) (E:Value→Shared→Prop),C i j→Q (.int (g i j) s.toks) {s with toks:=s.toks+1}→wpAny (model X.prog X.w) X.A (f (.int i t) (.int j u)) Q E s):
  OpR X f (rI C fun i j=> .int (g i j)):=by
 intro pins s σ H x y v u Q I rx ry h
 obtain⟨i,j,rfl,rfl,hc,q⟩:=h
 obtain⟨t,rfl⟩:=rx
 obtain⟨t',rfl⟩:=ry
 exact rule i j t t' s _ _ hc ⟨.int (g i j),H,I.tok _,⟨_,rfl⟩,q⟩
theorem opI0 {f:Value→Value→Sem Value}{g:Int→Int→Int}
  (rule:∀(i j:Int) (t u:Tok) (s:Shared) (Q:Value→Shared→Prop) (E:Value→Shared→Prop),Q (.int (g i j) s.toks) {s with toks:=s.toks+1}→wpAny (model X.prog X.w) X.A (f (.int i t) (.int j u)) Q E s):
  OpR X f (rI0 fun i j=> .int (g i j)):=by
 intro pins s σ H x y v u Q I rx ry h
 obtain⟨i,j,rfl,rfl,q⟩:=h
 obtain⟨t,rfl⟩:=rx
 obtain⟨t',rfl⟩:=ry
 exact rule i j t t' s _ _ ⟨.int (g i j),H,I.tok _,⟨_,rfl⟩,q⟩
theorem opB0 {f:Value→Value→Sem Value}{g:Int→Int→Bool}
  (rule:∀(i j:Int) (t u:Tok) (s:Shared) (Q:Value→Shared→Prop) (E:Value→Shared→Prop),Q (.bool (g i j)) s→wpAny (model X.prog X.w) X.A (f (.int i t) (.int j u)) Q E s):
  OpR X f (rI0 fun i j=> .bl (g i j)):=by
 intro pins s σ H x y v u Q I rx ry h
 obtain⟨i,j,rfl,rfl,q⟩:=h
 obtain⟨t,rfl⟩:=rx
 obtain⟨t',rfl⟩:=ry
 exact rule i j t t' s _ _ ⟨.bl (g i j),H,I,rfl,q⟩
def CMul (i j:Int):Prop:=(-(2^64)<i∧i<2^64)∨(-(2^64)<j∧j<2^64)
theorem CMul.ok {i j:Int}(h:CMul i j):IntMulOk i j:=by
 rcases h with ⟨h1,h2⟩|⟨h1,h2⟩
 ·exact .of_left (intBits_le_64 h1 h2)
 ·exact .of_right (intBits_le_64 h1 h2)
theorem op_add:OpR X (binaryOp .Add) (rI0 fun i j=> .int (i+j)):=opI0 fun _ _ _ _ _ _ _ q=>add_int q
theorem op_sub:OpR X (binaryOp .Sub) (rI0 fun i j=> .int (i - j)):=opI0 fun _ _ _ _ _ _ _ q=>sub_int q
theorem op_mul:OpR X (binaryOp .Mult) (rI CMul fun i j=> .int (i*j)):=opI fun _ _ _ _ _ _ _ hc q=>mul_int q hc.ok
theorem op_mod:OpR X (binaryOp .Mod) (rI (fun _ j=>0<j) fun i j=> .int (i%j)):=opI fun i j _ _ _ _ _ hc q=>by
 have h1:(0:Int)<j:=hc
 exact mod_int' (by omega) (by rw[Int.fmod_eq_emod_of_nonneg i (by omega)];exact q)
theorem unI {f:Value→Sem Value}{g:Int→Int}
  (rule:∀(i:Int) (t:Tok) (s:Shared) (Q:Value→Shared→Prop) (E:Value→Shared→Prop),Q (.int (g i) s.toks) {s with toks:=s.toks+1}→wpAny (model X.prog X.w) X.A (f (.int i t)) Q E s):
  UnR X f (rU fun i=> .int (g i)):=by
 intro pins s σ H x v Q I rx h
 obtain⟨i,rfl,q⟩:=h
 obtain⟨t,rfl⟩:=rx
 exact rule i t s _ _ ⟨.int (g i),H,I.tok _,⟨_,rfl⟩,q⟩
theorem un_neg:UnR X (unaryOp .USub) (rU fun i=> .int (-i)):=unI fun _ _ _ _ _ q=>neg_int q
end
noncomputable def scal:V→V→Bool
 | .non,.non=>true| .non,.int _=>true| .int _,.non=>true| .non,.bl _=>true| .bl _,.non=>true| .non,.str _=>true| .str _,.non=>true
 | .int _,.int _=>true| .bl _,.bl _=>true| .str _,.str _=>true| .byt _,.byt _=>true
 | .int _,.str _=>true| .str _,.int _=>true| .bl _,.str _=>true| .str _,.bl _=>true
 |_,_=>false
def rEq:R2:=fun x y H Q=>scal x y=true∧Q (.bl (decide (x=y))) H
def rNe:R2:=fun x y H Q=>scal x y=true∧Q (.bl (!decide (x=y))) H
theorem dec_int {i j:Int}:decide (V.int i=V.int j)=(i==j):=by
 rw[Bool.eq_iff_iff]
 simp
theorem dec_bl {i j:Bool}:decide (V.bl i=V.bl j)=(i==j):=by
 rw[Bool.eq_iff_iff]
 simp
theorem dec_str {i j:Str}:decide (V.str i=V.str j)=(i==j):=by
 rw[Bool.eq_iff_iff]
 simp
theorem dec_byt {i j:Array UInt8}:decide (V.byt i=V.byt j)=(i.toList==j.toList):=by
 rw[Bool.eq_iff_iff]
 cases i
 cases j
 simp
section
variable {X:Cx} {a b c:Expr} {ta tb tc:TE} {pos:Pos}
theorem fin_bl {pins:List (Addr×Obj)}{σ:St}{H:Hp}{s:Shared}{Q:VK}{k k':Bool}(I:Inv X pins σ H s)(q:Q (.bl k) H)(e:k=k'):EP X pins σ Q (.bool k') s:=by
 subst e
 exact⟨.bl k,H,I,rfl,q⟩
theorem op_eq:OpR X (compareOp .Eq) rEq:=by
 intro pins s σ H x y v u Q I rx ry h
 obtain⟨hs,q⟩:=h
 cases x with
 |non=>
  cases rx
  cases y with
  |non=>cases ry;exact PySem.EqNone.eq_none_none (fin_bl I q (by simp))
  |bl j=>cases ry;exact PySem.EqNone.eq_none_bool (fin_bl I q (by simp))
  |int j=>obtain⟨t',rfl⟩:=ry;exact PySem.EqNone.eq_none_int (fin_bl I q (by simp))
  |str j=>obtain⟨t',rfl⟩:=ry;exact PySem.EqNone.eq_none_str (fin_bl I q (by simp))
  |_=>exact absurd (show false=true from hs) Bool.false_ne_true
 |bl i=>
  cases rx
  cases y with
  |non=>cases ry;exact PySem.EqNone.eq_bool_none (fin_bl I q (by simp))
  |bl j=>cases ry;exact eq_bool (fin_bl I q dec_bl)
  |str j=>obtain⟨t',rfl⟩:=ry;exact PySem.EqMixed.eq_bool_str (fin_bl I q (by simp))
  |_=>exact absurd (show false=true from hs) Bool.false_ne_true
 |int i=>
  obtain⟨t,rfl⟩:=rx
  cases y with
  |non=>cases ry;exact PySem.EqNone.eq_int_none (fin_bl I q (by simp))
  |int j=>obtain⟨t',rfl⟩:=ry;exact eq_int (fin_bl I q dec_int)
  |str j=>obtain⟨t',rfl⟩:=ry;exact PySem.EqMixed.eq_int_str (fin_bl I q (by simp))
  |_=>exact absurd (show false=true from hs) Bool.false_ne_true
 |str i=>
  obtain⟨t,rfl⟩:=rx
  cases y with
  |non=>cases ry;exact PySem.EqNone.eq_str_none (fin_bl I q (by simp))
  |bl j=>cases ry;exact PySem.EqMixed.eq_str_bool (fin_bl I q (by simp))
  |int j=>obtain⟨t',rfl⟩:=ry;exact PySem.EqMixed.eq_str_int (fin_bl I q (by simp))
  |str j=>obtain⟨t',rfl⟩:=ry;exact eq_str (fin_bl I q dec_str)
  |_=>exact absurd (show false=true from hs) Bool.false_ne_true
 |byt i=>
  obtain⟨t,rfl⟩:=rx
  cases y with
  |byt j=>obtain⟨t',rfl⟩:=ry;exact PySem.W.eq_bytes (fin_bl I q dec_byt)
  |_=>exact absurd (show false=true from hs) Bool.false_ne_true
 |_=>cases y<;>exact absurd (show false=true from hs) Bool.false_ne_true
theorem op_ne:OpR X (compareOp .NotEq) rNe:=by
 intro pins s σ H x y v u Q I rx ry h
 obtain⟨hs,q⟩:=h
 cases x with
 |non=>
  cases rx
  cases y with
  |non=>cases ry;exact PySem.EqNone.ne_none_none (fin_bl I q (by simp))
  |bl j=>cases ry;exact PySem.EqNone.ne_none_bool (fin_bl I q (by simp))
  |int j=>obtain⟨t',rfl⟩:=ry;exact PySem.EqNone.ne_none_int (fin_bl I q (by simp))
  |str j=>obtain⟨t',rfl⟩:=ry;exact PySem.EqNone.ne_none_str (fin_bl I q (by simp))
  |_=>exact absurd (show false=true from hs) Bool.false_ne_true
 |bl i=>
  cases rx
  cases y with
  |non=>cases ry;exact PySem.EqNone.ne_bool_none (fin_bl I q (by simp))
  |bl j=>cases ry;exact ne_bool (fin_bl I q (congrArg not dec_bl))
  |str j=>obtain⟨t',rfl⟩:=ry;exact PySem.EqMixed.ne_bool_str (fin_bl I q (by simp))
  |_=>exact absurd (show false=true from hs) Bool.false_ne_true
 |int i=>
  obtain⟨t,rfl⟩:=rx
  cases y with
  |non=>cases ry;exact PySem.EqNone.ne_int_none (fin_bl I q (by simp))
  |int j=>obtain⟨t',rfl⟩:=ry;exact ne_int (fin_bl I q (congrArg not dec_int))
  |str j=>obtain⟨t',rfl⟩:=ry;exact PySem.EqMixed.ne_int_str (fin_bl I q (by simp))
  |_=>exact absurd (show false=true from hs) Bool.false_ne_true
 |str i=>
  obtain⟨t,rfl⟩:=rx
  cases y with
  |non=>cases ry;exact PySem.EqNone.ne_str_none (fin_bl I q (by simp))
  |bl j=>cases ry;exact PySem.EqMixed.ne_str_bool (fin_bl I q (by simp))
  |int j=>obtain⟨t',rfl⟩:=ry;exact PySem.EqMixed.ne_str_int (fin_bl I q (by simp))
  |str j=>obtain⟨t',rfl⟩:=ry;exact ne_str (fin_bl I q (congrArg not dec_str))
  |_=>exact absurd (show false=true from hs) Bool.false_ne_true
 |byt i=>
  obtain⟨t,rfl⟩:=rx
  cases y with
  |byt j=>obtain⟨t',rfl⟩:=ry;exact PySem.W.ne_bytes (fin_bl I q (congrArg not dec_byt))
  |_=>exact absurd (show false=true from hs) Bool.false_ne_true
 |_=>cases y<;>exact absurd (show false=true from hs) Bool.false_ne_true
theorem op_lt:OpR X (compareOp .Lt) (rI0 fun i j=> .bl (decide (i<j))):=opB0 fun _ _ _ _ _ _ _ q=>lt_int q
theorem op_le:OpR X (compareOp .LtE) (rI0 fun i j=> .bl (decide (i≤j))):=opB0 fun _ _ _ _ _ _ _ q=>le_int q
theorem op_ge:OpR X (compareOp .GtE) (rI0 fun i j=> .bl (decide (j≤i))):=opB0 fun _ _ _ _ _ _ _ q=>ge_int q
theorem op_in_str:OpR X (compareOp .In) (fun x y H Q=>∃i j,x=.str i∧y=.str j∧Q (.bl (!(Builtin.Str.occurrences j i 0 j.length 1).isEmpty)) H):=by
 intro pins s σ H x y v u Q I rx ry h
 obtain⟨i,j,rfl,rfl,q⟩:=h
 obtain⟨t,rfl⟩:=rx
 obtain⟨t',rfl⟩:=ry
 exact in_str (fin_bl I q rfl)
theorem op_isN:OpR X (compareOp .Is) (fun x y H Q=>y=.non∧Q (.bl (decide (x=.non))) H):=by
 intro pins s σ H x y v u Q I rx ry h
 obtain⟨rfl,q⟩:=h
 cases ry
 refine is_none_gen (fin_bl I q ?_)
 cases x<;>first
  |(cases rx;rfl)
  |(obtain⟨t,rfl⟩:=rx;rfl)
theorem op_notN:OpR X (compareOp .IsNot) (fun x y H Q=>y=.non∧Q (.bl (!decide (x=.non))) H):=by
 intro pins s σ H x y v u Q I rx ry h
 obtain⟨rfl,q⟩:=h
 cases ry
 refine isnot_none_gen (fin_bl I q ?_)
 cases x<;>first
  |(cases rx;rfl)
  |(obtain⟨t,rfl⟩:=rx;rfl)
theorem op_notin_str:OpR X (compareOp .NotIn) (fun x y H Q=>∃i j,x=.str i∧y=.str j∧Q (.bl (!(!(Builtin.Str.occurrences j i 0 j.length 1).isEmpty))) H):=by
 intro pins s σ H x y v u Q I rx ry h
 obtain⟨i,j,rfl,rfl,q⟩:=h
 obtain⟨t,rfl⟩:=rx
 obtain⟨t',rfl⟩:=ry
 exact notIn_str (fin_bl I q rfl)
theorem nomark (b:Expr){op:CmpOp}(h:op≠.In:=by decide)(h2:op≠.NotIn:=by decide):behindInMarks op b=false:=by
 have e1:(op==CmpOp.In)=false:=by cases op<;>first|rfl|exact absurd rfl h
 have e2:(op==CmpOp.NotIn)=false:=by cases op<;>first|rfl|exact absurd rfl h2
 cases b<;>simp[behindInMarks,e1,e2]
theorem pe_cmpR {op:CmpOp}{r:R2}(ho:OpR X (compareOp op) r)(ha:PE X a ta)(hb:PE X b tb)(hm:behindInMarks op b=false):PE X (.Compare a [op] [b] pos) (tOp r ta tb):=by
 intro pins s σ H Q I h
 exact wpAny_Compare1 (binT ha hb I h fun v u s2 x y H2 I2 rx ry q=>ho pins s2 σ H2 x y v u Q I2 rx ry q) hm
def tTest (t:TE):TT:=fun σ H Q=>t σ H fun x H'=>∃k,x=.bl k∧Q k H'
theorem pt_cmpR {op:CmpOp}{r:R2}(ho:OpR X (compareOp op) r)(ha:PE X a ta)(hb:PE X b tb)(hm:behindInMarks op b=false):PT X (.Compare a [op] [b] pos) (tTest (tOp r ta tb)):=by
 intro pins s σ H Q I h
 refine wpAny_isTrue_Compare1 (thn (ha pins s σ H _ I h) fun v s1 ⟨x,H1,I1,r1,q1⟩=>thn (hb pins s1 σ H1 _ I1 q1) fun u s2 ⟨y,H2,I2,r2,q2⟩=>
  thn (ho pins s2 σ H2 x y v u _ I2 r1 r2 q2) fun c s3 ⟨z,H3,I3,r3,k,e,q3⟩=>?_) hm
 subst e
 cases r3
 exact wpAny_truthy_bool ⟨H3,I3,q3⟩
def tChain (r r':R2) (ta tb tc:TE):TE:=fun σ H Q=>ta σ H fun x H1=>tb σ H1 fun y H2=>r x y H2 fun z H3=>∃k,z=.bl k∧
 (if k=true then tc σ H3 fun w' H4=>r' y w' H4 Q else Q (.bl false) H3)
theorem pe_chain {op op':CmpOp}{r r':R2}(ho:OpR X (compareOp op) r)(ho':OpR X (compareOp op') r')(ha:PE X a ta)(hb:PE X b tb)(hc:PE X c tc)
  (hm:lastMarks [op,op'] [b,c]=false:=by with_unfolding_all rfl):PE X (.Compare a [op,op'] [b,c] pos) (tChain r r' ta tb tc):=by
 intro pins s σ H Q I h
 refine Compare_chain (thn (ha pins s σ H _ I h) fun v s1 ⟨x,H1,I1,r1,q1⟩=>chain_link (thn (hb pins s1 σ H1 _ I1 q1) fun u s2 ⟨y,H2,I2,r2,q2⟩=>
  thn (ho pins s2 σ H2 x y v u _ I2 r1 r2 q2) fun d s3 ⟨z,H3,I3,r3,k,e,q3⟩=>?_)) hm
 subst e
 cases r3
 refine wpAny_truthy_bool ?_
 cases k with
 |false=>exact ite_ff ⟨.bl false,H3,I3,rfl,q3⟩
 |true=>exact ite_tt (chain_last (thn (hc pins s3 σ H3 _ I3 q3) fun w' s4 ⟨z',H4,I4,r4,q4⟩=>ho' pins s4 σ H4 y z' u w' Q I4 r2 r4 q4))
theorem pt_chain {op op':CmpOp}{r r':R2}(ho:OpR X (compareOp op) r)(ho':OpR X (compareOp op') r')(ha:PE X a ta)(hb:PE X b tb)(hc:PE X c tc)
  (hm:lastMarks [op,op'] [b,c]=false:=by with_unfolding_all rfl):PT X (.Compare a [op,op'] [b,c] pos) (tTest (tChain r r' ta tb tc)):=by
 intro pins s σ H Q I h
 refine isTrue_chain (thn (ha pins s σ H _ I h) fun v s1 ⟨x,H1,I1,r1,q1⟩=>test_link (thn (hb pins s1 σ H1 _ I1 q1) fun u s2 ⟨y,H2,I2,r2,q2⟩=>
  thn (ho pins s2 σ H2 x y v u _ I2 r1 r2 q2) fun d s3 ⟨z,H3,I3,r3,k,e,q3⟩=>?_)) hm
 subst e
 cases r3
 refine wpAny_truthy_bool ?_
 cases k with
 |false=>
  obtain⟨k',e',q'⟩:=q3
  cases e'
  exact ite_ff ⟨H3,I3,q'⟩
 |true=>
  refine ite_tt (test_last (thn (hc pins s3 σ H3 _ I3 q3) fun w' s4 ⟨z',H4,I4,r4,q4⟩=>thn (ho' pins s4 σ H4 y z' u w' _ I4 r2 r4 q4) fun d' s5 ⟨z2,H5,I5,r5,k2,e2,q5⟩=>?_))
  subst e2
  cases r5
  exact wpAny_truthy_bool ⟨H5,I5,q5⟩
theorem line63:(sizeLine:Nat)<2^63:=by rw[sizeLine_eq];decide
theorem op_add_str:OpR X (binaryOp .Add) (fun x y H Q=>∃i j,x=.str i∧y=.str j∧i.length+j.length≤sizeLine∧Q (.str (i++j)) H):=by
 intro pins s σ H x y v u Q I rx ry h
 obtain⟨i,j,rfl,rfl,hz,q⟩:=h
 obtain⟨t,rfl⟩:=rx
 obtain⟨t',rfl⟩:=ry
 exact add_str (fun t' tk=>⟨.str (i++j),H,I.tok _,⟨_,rfl⟩,q⟩) hz
theorem vals1 {x:V}{us:List Value}(r:Vals [x] us):∃u,us=[u]∧RelV x u:=by
 cases r with
 |cons r1 r2=>cases r2;exact⟨_,rfl,r1⟩
theorem vals2 {x y:V}{us:List Value}(r:Vals [x,y] us):∃u w',us=[u,w']∧RelV x u∧RelV y w':=by
 cases r with
 |cons r1 r2=>
  cases r2 with
  |cons r3 r4=>cases r4;exact⟨_,_,rfl,r1,r3⟩
theorem call_abs:CallR X (.builtin "abs") (fun xs H Q=>∃i,xs=[.int i]∧Q (.int (if i<0 then -i else i)) H):=by
 intro pins s σ H xs us Q I r h
 obtain⟨i,rfl,q⟩:=h
 obtain⟨u,rfl,t,rfl⟩:=vals1 r
 exact call_abs_int fun u tk=>⟨.int (if i<0 then -i else i),H,I.tok _,⟨_,rfl⟩,q⟩
theorem call_max2 (hc:X.calm=true):CallR X (.builtin "max") (fun xs H Q=>∃i j,xs=[.int i,.int j]∧Q (.int (if j>i then j else i)) H):=by
 intro pins s σ H xs us Q I r h
 obtain⟨i,j,rfl,q⟩:=h
 obtain⟨u,w',rfl,⟨t,rfl⟩,⟨t',rfl⟩⟩:=vals2 r
 refine max_two_ints (I.ok.hd hc) fun h' tk k=>⟨_,H,I.kept k,?_,q⟩
 by_cases hj:j>i
 ·rw[if_pos hj,if_pos hj];exact⟨_,rfl⟩
 ·rw[if_neg hj,if_neg hj];exact⟨_,rfl⟩
theorem call_min2 (hc:X.calm=true):CallR X (.builtin "min") (fun xs H Q=>∃i j,xs=[.int i,.int j]∧Q (.int (if j<i then j else i)) H):=by
 intro pins s σ H xs us Q I r h
 obtain⟨i,j,rfl,q⟩:=h
 obtain⟨u,w',rfl,⟨t,rfl⟩,⟨t',rfl⟩⟩:=vals2 r
 refine min_two_ints (I.ok.hd hc) fun h' tk k=>⟨_,H,I.kept k,?_,q⟩
 by_cases hj:j<i
 ·rw[if_pos hj,if_pos hj];exact⟨_,rfl⟩
 ·rw[if_neg hj,if_neg hj];exact⟨_,rfl⟩
def LenV (K:PySem.W.Frag) (x:V) (H:Hp) (n:Nat):Prop:=
 match x with
 | .str y=>y.length≤sizeLine∧n=y.length
 | .byt y=>y.size≤sizeLine∧n=y.size
 | .ref p=>(∃xs,SqL K H p xs∧n=xs.length)∨∃xs,SqT K H p xs∧n=xs.length
 |_=>False
theorem call_len:CallR X (.builtin "len") (fun xs H Q=>∃x n,xs=[x]∧LenV X.K x H n∧Q (.int n) H):=by
 intro pins s σ H xs us Q I r h
 obtain⟨x,n,rfl,e,q⟩:=h
 obtain⟨u,rfl,rx⟩:=vals1 r
 have hl:=line63
 have hs:sizeLine=16777216:=sizeLine_eq
 cases x with
 |str y=>
  obtain⟨t,rfl⟩:=rx
  obtain⟨hy,e'⟩:y.length≤sizeLine∧n=y.length:=e
  subst e'
  exact len_str (by omega) ⟨.int _,H,I.tok _,⟨_,rfl⟩,q⟩
 |byt y=>
  obtain⟨t,rfl⟩:=rx
  obtain⟨hy,e'⟩:y.size≤sizeLine∧n=y.size:=e
  subst e'
  exact PySem.W.len_bytes (by omega) ⟨.int _,H,I.tok _,⟨_,rfl⟩,q⟩
 |ref p=>
  cases rx
  have e':(∃xs,SqL X.K H p xs∧n=xs.length)∨∃xs,SqT X.K H p xs∧n=xs.length:=e
  rcases e' with ⟨xs,hx,e'⟩|⟨xs,hx,e'⟩
  ·subst e'
   obtain⟨its,r',pl,hz⟩:=I.list hx
   have hlen:=r'.length
   exact Calls.call_len_list pl.isList (by simp only[List.size_toArray];omega) ⟨.int xs.length,H,I.tok _,⟨_,by simp only[List.size_toArray];rw[hlen]⟩,q⟩
  ·subst e'
   obtain⟨its,r',pl,hz⟩:=I.tuple hx
   have hlen:=r'.length
   exact len_tuple pl (by simp only[List.size_toArray];omega) ⟨.int xs.length,H,I.tok _,⟨_,by simp only[List.size_toArray];rw[hlen]⟩,q⟩
 |_=>exact(show False from e).elim
end
structure ObjM (h:Heap) (x dx C:Addr) (mA:Str→Option Value):Prop where
 obj:h.get? x=some (PySem.W.instObj C dx)
 ns:h.Ns1 dx mA
 ne:dx≠x
theorem lookIn_ns {h:Heap}{dx:Addr}{mA:Str→Option Value}(n:h.Ns1 dx mA):∃od,h.get? dx=some od∧∀name,PySem.W.lookIn name od=some (mA name):=by
 obtain⟨o,es,ep,ho,hd,hk,_,hm⟩:=n
 refine⟨o,ho,fun name=>?_⟩
 have e:=hm name
 unfold nsFind findBy at e
 rw[←Array.find?_toList] at e
 unfold PySem.W.lookIn
 rw[hd]
 dsimp only
 split
 ·rename_i y q
  rw[q] at e
  exact congrArg some e
 ·rename_i q
  rw[q] at e
  have a:es.toList.any (·.refKey)=false:=by
   rw[List.any_eq_false]
   intro y hy
   obtain⟨z,t,hkey⟩:=hk y (Array.mem_toList_iff.mp hy)
   simp[DictEntry.refKey,hkey]
  have a':¬es.toList.any (·.refKey)=true:=by rw[a];exact Bool.false_ne_true
  rw[if_neg a']
  exact congrArg some e
theorem ObjM.look {h:Heap}{x dx C:Addr}{mA:Str→Option Value}(I:ObjM h x dx C mA):∃od,PySem.W.InstAt h x (PySem.W.instObj C dx) C (some od)∧∀name,PySem.W.lookIn name od=some (mA name):=
 let ⟨od,ho,hl⟩:=lookIn_ns I.ns
 ⟨od,⟨I.obj,rfl,rfl,ho⟩,hl⟩
section
variable {prog:Program} {w:World} {A:Around} {E:Value→Shared→Prop} {s:Shared} {K:PySem.W.Frag} {x dx C f:Addr} {mA:Str→Option Value} {name:Str} {v:Value}
theorem get_map {expr:Bool}{Q:Value→Shared→Prop}(X:K.In s.heap)(I:ObjM s.heap x dx C mA)(hg:PySem.W.plainGet K C name=true)(hh:PySem.W.hasDictIn K C=true)
  (ha:PySem.W.findIn K (.ref C) name=some none) (hv:mA name=some v) (hv':PySem.W.handedIn v=true) (h:Q v {s with toks:=s.toks+1}):
  wpAny (model prog w) A (getAttr (.ref x) name expr) Q E s:=by
 obtain⟨od,J,hl⟩:=I.look
 exact PySem.W.get_value X J (PySem.W.plainGet_of hg).1 (PySem.W.findObj_own hh ha rfl (by rw[hl,hv])) hv' h
theorem get_meth {pl:Sem Bool}{Q:Value×List Value→Shared→Prop}(X:K.In s.heap)(I:ObjM s.heap x dx C mA)(hg:PySem.W.plainGet K C name=true)
  (hf:PySem.W.findIn K (.ref C) name=some (some (.ref f))) (ht:PySem.W.isFn K (.ref f)=true) (hv:mA name=none) (h:Q (.ref f,[.ref x]) s):
  wpAny (model prog w) A (getMethod (.ref x) name pl) Q E s:=by
 obtain⟨od,J,hl⟩:=I.look
 exact PySem.W.method_fn X J (PySem.W.plainGet_of hg).1 (PySem.W.plainGet_of hg).2 hf (beq_iff_eq.mp ht) (by show(PySem.W.lookIn name od).map (·.isSome)=some false;rw[hl,hv];rfl) h
theorem set_map {ns:List Str}{Q:Unit→Shared→Prop}(X:K.In s.heap)(I:ObjM s.heap x dx C mA)
  (hs:PySem.W.findIn K (.ref C) "__setattr__" =some (some (.builtin "object.__setattr__"))) (hp:PySem.W.plainOver K C=true) (ht:PySem.W.takerIn K C name=some none) (hh:PySem.W.hasDictIn K C=true)
  (hw:PySem.Within mA ns) (hsz:ns.length≤sizeLine)
  (h:∀h',ObjM h' x dx C (fun y=>if y=name then some v else mA y)→Heap.SameBut dx s.heap h'→Q () {s with heap:=h',toks:=s.toks+2}):
  wpAny (model prog w) A (setAttr (.ref x) name v) Q E s:=by
 obtain⟨od,J,hl⟩:=I.look
 refine PySem.W.set_plain X J hs (PySem.W.osa_open (s:={s with toks:=s.toks+1}) (r:=none) X J hp ht fun b=>?_)
 obtain⟨cd,hc,hd'⟩:=PySem.W.any_some hh
 have hx:s.heap.get? x=some ⟨.ref C,some dx,.plain,#[]⟩:=I.obj
 refine wpAny_bind (wpAny_pure (wpAny_bind (wpAny_bind (wpAny_loadPart hx (wpAny_bind (PySem.W.Looks.here (s:={s with toks:=s.toks+1}) (PySem.W.looks_clsIn X hc) ?_))))))
 rw[hd']
 refine wpAny_pure (a:=some dx) (wpAny_bind (wpAny_pure (wpAny_bind ?_)))
 refine wpAny_nsSet1 (s:={s with toks:=s.toks+1}) I.ns fun h' hn2 hs2=>?_
 obtain⟨oD,esD,epD,hoD,hdD,hcD⟩:=hn2.count (PySem.Within.cons name v hw)
 refine wpAny_bind (wpAny_lookBehind hoD (by rw[hdD];exact pastItsLine_dict (Nat.le_trans hcD (by rw[List.length_cons];omega))) ?_)
 exact wpAny_pure (h _ ⟨(hs2.2 _ (Ne.symm I.ne)).trans I.obj,hn2,I.ne⟩ hs2)
theorem make_map {R:Result→Shared→Prop}{vs:List Value}{kw:List (Str×Value)}(X:K.In s.heap)(hm:PySem.W.makesIn K C=true)
  (hi:PySem.W.findIn K (.ref C) "__init__" =some (some (.ref f))) (hf:PySem.W.typeIn K (.ref f)=some (.type "function"))
  (h:codeAny (model prog w) (A.under (.builtin "type.__call__" ⟨.ref C::vs,kw⟩)) (.call (.ref f) ⟨.ref (s.heap.objs.size+1)::vs,kw⟩) (PySem.W.InitBack (s.heap.objs.size+1) R)
   {s with heap:=(s.heap.push PySem.W.emptyDict).push (PySem.W.instObj C s.heap.objs.size)}):
  codeAny (model prog w) A (.call (.ref C) ⟨vs,kw⟩) R s:=by
 obtain⟨hh,g,d,t,os⟩:=s
 exact PySem.W.make_core (PySem.W.makes_of X hm) (PySem.W.looks_findIn X hi) (fun self=>PySem.W.bind_fn X self hf) (.inl rfl) h
end
noncomputable def putF (f:Str) (v:V):List (Str×V)→List (Str×V)
 |[]=>[(f,v)]
 |(g,x)::r=>if g=f then (g,v)::r else (g,x)::putF f v r
theorem lookup_putF (f g:Str)(v:V):∀fs:List (Str×V),(putF f v fs).lookup g=if g=f then some v else fs.lookup g
 |[]=>by
  show List.lookup g [(f,v)]=_
  by_cases h:g=f
  ·have hb:(g==f)=true:=beq_iff_eq.mpr h
   simp only[List.lookup,hb,if_pos h]
  ·have hb:(g==f)=false:=beq_eq_false_iff_ne.mpr h
   simp only[List.lookup,hb,if_neg h]
 |(k,x)::r=>by
  have ih:=lookup_putF f g v r
  rw[show putF f v ((k,x)::r)=(if k=f then (k,v)::r else (k,x)::putF f v r) from rfl]
  by_cases hk:k=f
  ·rw[if_pos hk]
   by_cases h:g=k
   ·have hb:(g==k)=true:=beq_iff_eq.mpr h
    simp only[List.lookup,hb,if_pos (h.trans hk)]
   ·have hb:(g==k)=false:=beq_eq_false_iff_ne.mpr h
    simp only[List.lookup,hb,if_neg (fun e:g=f=>h (e.trans hk.symm))]
  ·rw[if_neg hk]
   by_cases h:g=k
   ·have hb:(g==k)=true:=beq_iff_eq.mpr h
    simp only[List.lookup,hb,if_neg (fun e:g=f=>hk (h.symm.trans e))]
   ·have hb:(g==k)=false:=beq_eq_false_iff_ne.mpr h
    simp only[List.lookup,hb]
    exact ih
theorem keys_putF (f:Str)(v:V):∀fs:List (Str×V),f∈(putF f v fs).map (·.1)∧∀g,g∈fs.map (·.1)→g∈(putF f v fs).map (·.1)
 |[]=>⟨by simp[putF],fun g h=>by simp at h⟩
 |(k,x)::r=>by
  obtain⟨i1,i2⟩:=keys_putF f v r
  rw[show putF f v ((k,x)::r)=(if k=f then (k,v)::r else (k,x)::putF f v r) from rfl]
  by_cases hk:k=f
  ·rw[if_pos hk]
   subst hk
   exact⟨by simp,fun g h=>by simpa using h⟩
  ·rw[if_neg hk]
   refine⟨?_,fun g h=>?_⟩
   ·rw[List.map_cons]
    exact List.mem_cons_of_mem _ i1
   ·rw[List.map_cons] at h⊢
    rcases List.mem_cons.mp h with e|e
    ·exact List.mem_cons.mpr (.inl e)
    ·exact List.mem_cons_of_mem _ (i2 g e)
theorem length_putF (f:Str)(v:V):∀fs:List (Str×V),(putF f v fs).length≤fs.length+1
 |[]=>by simp[putF]
 |(k,x)::r=>by
  have ih:=length_putF f v r
  rw[show putF f v ((k,x)::r)=(if k=f then (k,v)::r else (k,x)::putF f v r) from rfl]
  by_cases hk:k=f
  ·rw[if_pos hk,List.length_cons,List.length_cons];omega
  ·rw[if_neg hk,List.length_cons,List.length_cons];omega
theorem RelO.some_of {v:V}{o:Option Value}(r:RelO (some v) o):∃u,o=some u∧RelV v u:=by
 cases o with
 |none=>exact(show False from r).elim
 |some u=>exact⟨u,rfl,r⟩
theorem RelO.none_of {o:Option Value}(r:RelO none o):o=none:=by
 cases o with
 |none=>rfl
 |some u=>exact(show False from r).elim
theorem handed_of {v:V}{u:Value}(r:RelV v u):PySem.W.handedIn u=true:=by
 cases v with
 |non=>cases(show u=Value.none from r);rfl
 |bl b=>cases(show u=Value.bool b from r);rfl
 |int i=>obtain⟨t,e⟩:=(show∃t,u=Value.int i t from r);cases e;rfl
 |str x=>obtain⟨t,e⟩:=(show∃t,u=Value.str x t from r);cases e;rfl
 |byt b=>obtain⟨t,e⟩:=(show∃t,u=Value.bytes b t from r);cases e;rfl
 |flt b=>obtain⟨t,e⟩:=(show∃t,u=Value.float b t from r);cases e;rfl
 |ref a=>cases(show u=Value.ref a from r);rfl
 |ty n=>cases(show u=Value.type n from r);rfl
section
variable {P:Program} {w:World} {H H':Hp} {h h':Heap} {a C dx:Addr} {fs fs':List (Str×V)}
theorem ins_get (hok:HOk P w H h)(e:H a=some (.ins C dx fs)):∃mA,ObjM h a dx C mA∧(∀f,RelO (fs.lookup f) (mA f))∧PySem.Within mA (fs.map (·.1))∧fs.length≤1000∧H dx=some (.own a):=by
 obtain⟨d,z,ne,ob,mA,n,r,q⟩:=(show ObjOk P w H h a (.ins C dx fs) from hok a _ e)
 exact⟨mA,⟨ob,n,ne⟩,r,q,z,d⟩
end
structure Cls (K:PySem.W.Frag) (C:Addr):Prop where
 pg:PySem.W.plainGet K C Str.empty=true
 hd:PySem.W.hasDictIn K C=true
 po:PySem.W.plainOver K C=true
 sa:PySem.W.findIn K (.ref C) "__setattr__" =some (some (.builtin "object.__setattr__"))
theorem Cls.get {K:PySem.W.Frag}{C:Addr}(c:Cls K C)(f:Str):PySem.W.plainGet K C f=true:=c.pg
def NoAttr (K:PySem.W.Frag) (C:Addr) (f:Str):Prop:=PySem.W.findIn K (.ref C) f=some none
theorem NoAttr.taker {K:PySem.W.Frag}{C:Addr}{f:Str}(n:NoAttr K C f):PySem.W.takerIn K C f=some none:=by
 unfold PySem.W.takerIn
 rw[show PySem.W.findIn K (.ref C) f=some none from n]
 rfl
structure Meth (K:PySem.W.Frag) (C:Addr) (m:Str) (f:Addr):Prop where
 at_:PySem.W.findIn K (.ref C) m=some (some (.ref f))
 fn:PySem.W.isFn K (.ref f)=true
 kp:PySem.W.keepIn K (.ref f)=true
section
variable {X:Cx} {pins:List (Addr×Obj)} {σ:St} {H:Hp} {s:Shared} {a C dx:Addr} {fs:List (Str×V)} {f:Str} {v:V} {A:Around} {E:Value→Shared→Prop}
theorem getattr_ok {b:Bool}{Q:Value→Shared→Prop}(I:Inv X pins σ H s)(e:H a=some (.ins C dx fs))(c:Cls X.K C)(n:NoAttr X.K C f)(l:fs.lookup f=some v)
  (h:∀u s',Inv X pins σ H s'→RelV v u→Q u s'):wpAny (model X.prog X.w) A (getAttr (.ref a) f b) Q E s:=by
 obtain⟨mA,O,r,_,_,_⟩:=ins_get I.hok e
 obtain⟨u,hu,ru⟩:=RelO.some_of (v:=v) (o:=mA f) (by rw[←l];exact r f)
 exact get_map I.kIn O (c.get f) c.hd n hu (handed_of ru) (h u _ (I.tok _) ru)
theorem getmeth_ok {m:Str}{g:Addr}{pl:Sem Bool}{Q:Value×List Value→Shared→Prop}(I:Inv X pins σ H s)(e:H a=some (.ins C dx fs))(c:Cls X.K C)(k:Meth X.K C m g)(l:fs.lookup m=none)
  (h:Q (.ref g,[.ref a]) s):wpAny (model X.prog X.w) A (getMethod (.ref a) m pl) Q E s:=by
 obtain⟨mA,O,r,_,_,_⟩:=ins_get I.hok e
 have hn:mA m=none:=RelO.none_of (by rw[←l];exact r m)
 exact get_meth I.kIn O (c.get m) k.at_ k.fn hn h
theorem setattr_ok {y:V}{u:Value}{Q:Unit→Shared→Prop}(I:Inv X pins σ H s)(e:H a=some (.ins C dx fs))(c:Cls X.K C)(n:NoAttr X.K C f)(hl:fs.length<1000)(ry:RelV y u)
  (h:∀s',Inv X pins σ (upd H a (.ins C dx (putF f y fs))) s'→Q () s'):wpAny (model X.prog X.w) A (setAttr (.ref a) f u) Q E s:=by
 obtain⟨mA,O,r,wi,_,ho⟩:=ins_get I.hok e
 have hz:(fs.map (·.1)).length≤sizeLine:=by rw[List.length_map,sizeLine_eq];omega
 refine set_map I.kIn O c.sa c.po n.taker c.hd wi hz fun h' O' sb=>h _ ?_
 have hd:∃o,h'.get? dx=some o:=let ⟨o,_,_,e',_⟩:=O'.ns;⟨o,e'⟩
 refine I.write (x:=a) (e:=dx) (by rw[e];exact True.intro) (.inr ho) (fun b q hb z=>(sb.2 b hb).trans z) hd ?_
 refine⟨by rw[upd_ne O.ne];exact ho,?_,O.ne,O'.obj,_,O'.ns,fun g=>?_,fun g hg=>?_⟩
 ·have:=length_putF f y fs;omega
 ·show RelO ((putF f y fs).lookup g) (if g=f then some u else mA g)
  rw[lookup_putF]
  by_cases q:g=f
  ·rw[if_pos q,if_pos q];exact ry
  ·rw[if_neg q,if_neg q];exact r g
 ·by_cases q:g=f
  ·rw[q];exact(keys_putF f y fs).1
  ·refine(keys_putF f y fs).2 g (wi g fun z=>hg ?_)
   show(if g=f then some u else mA g)=none
   rw[if_neg q];exact z
theorem Inv.made (I:Inv X pins σ H s):Inv X pins σ (upd (upd H s.heap.objs.size (.own (s.heap.objs.size+1))) (s.heap.objs.size+1) (.ins C s.heap.objs.size []))
  {s with heap:=(s.heap.push PySem.W.emptyDict).push (PySem.W.instObj C s.heap.objs.size)}:=by
 have e1:(s.heap.push PySem.W.emptyDict).get? s.heap.objs.size=some PySem.W.emptyDict:=Heap.get?_push_size s.heap rfl
 have e2:((s.heap.push PySem.W.emptyDict).push (PySem.W.instObj C s.heap.objs.size)).get? (s.heap.objs.size+1)=some (PySem.W.instObj C s.heap.objs.size):=by
  have:=Heap.get?_push_size (s.heap.push PySem.W.emptyDict) (o:=PySem.W.instObj C s.heap.objs.size) rfl
  rwa [Heap.size_push] at this
 have e3:(s.heap.push PySem.W.emptyDict).Ns s.heap.objs.size (fun _=>none):=⟨PySem.W.emptyDict,#[],_,e1,rfl,(fun e he=>absurd he (by simp)),fun _=>rfl⟩
 have I1:=I.laid (a:=s.heap.objs.size) (o:=.own (s.heap.objs.size+1)) (h':=s.heap.push PySem.W.emptyDict) (t':=s.toks) (fun b u q=>Heap.get?_push_of_some _ q) (Nat.le_refl _) ⟨_,e1⟩
 refine I1.laid (a:=s.heap.objs.size+1) (o:=.ins C s.heap.objs.size []) (t':=s.toks) (fun b u q=>Heap.get?_push_of_some _ q) (Nat.le_of_eq (Heap.size_push _ _)) ?_
 have ne:s.heap.objs.size≠s.heap.objs.size+1:=Nat.ne_of_lt (Nat.lt_succ_self _)
 refine⟨by rw[upd_ne ne,upd_same],Nat.zero_le _,ne,e2,fun _=>none,(Heap.Ns1.of_empty e3).at fun o q=>Heap.get?_push_of_some _ q,fun _=>True.intro,fun y hy=>absurd rfl hy⟩
theorem attr_of {prog:Program}{w:World}{env:Env}{e:Expr}{f:Str}{pos:Pos}{s:Shared}{Q:Value→Shared→Prop}(hb:attributeBase e f env (eval e env)=eval e env)
  (h:wpAny (model prog w) A (eval e env) (fun o s₁=>wpAny (model prog w) A (getAttr o f true) Q E s₁) E s):wpAny (model prog w) A (eval (.Attribute e f pos) env) Q E s:=
 Attribute_any_ h (by rw[arm_eval_Attribute,hb])
end
def tFld (K:PySem.W.Frag) (ta:TE) (f:Str):TE:=fun σ H Q=>ta σ H fun x H1=>∃a C dx fs v,x=.ref a∧H1 a=some (.ins C dx fs)∧Cls K C∧NoAttr K C f∧fs.lookup f=some v∧Q v H1
def sFld (K:PySem.W.Frag) (ta tv:TE) (f:Str):TS:=fun D σ H=>tv σ H fun y H1=>ta σ H1 fun x H2=>∃a C dx fs,x=.ref a∧H2 a=some (.ins C dx fs)∧Cls K C∧NoAttr K C f∧fs.length<1000∧
 D.nx σ (upd H2 a (.ins C dx (putF f y fs)))
section
variable {X:Cx} {o e value:Expr} {f:Str} {pos pos' tpos:Pos} {ta tv:TE}
theorem pe_fld (he:PE X e ta)(hb:attributeBase e f X.env (eval e X.env)=eval e X.env):PE X (.Attribute e f pos) (tFld X.K ta f):=by
 intro pins s σ H Q I h
 refine attr_of hb (thn (he pins s σ H _ I h) fun u s1 ⟨x,H1,I1,rx,a,C,dx,fs,v,ex,ea,c,n,l,q⟩=>?_)
 subst ex
 obtain rfl:u=Value.ref a:=rx
 exact getattr_ok I1 ea c n l fun u' s2 I2 ru=>⟨v,H1,I2,ru,q⟩
theorem ps_fld (ha:PE X o ta)(hv:PE X value tv)(hs:swapsWith value (some (.Attribute o f pos')) pos.line X.env=pure false):PS X (.Assign [.Attribute o f pos'] value pos) (sFld X.K ta tv f):=by
 intro pins s σ H D I h
 refine plainObj_wpAny_Assign_Attribute (thn (hv pins s σ H _ I h) fun u s1 ⟨y,H1,I1,ry,q⟩=>thn (ha pins s1 σ H1 _ I1 q) fun ov s2 ⟨x,H2,I2,rx,a,C,dx,fs,ex,ea,c,n,l,q2⟩=>?_) hs
 subst ex
 obtain rfl:ov=Value.ref a:=rx
 exact setattr_ok I2 ea c n l ry fun s3 I3=>⟨σ,_,I3,q2⟩
end
section
variable {X:Cx} {pins:List (Addr×Obj)} {σ:St} {H:Hp} {s:Shared} {A:Around} {E:Value→Shared→Prop} {Q:Value→Shared→Prop} {c:Value} {b:Bool}
inductive TyOf (K:PySem.W.Frag) (H:Hp):V→Value→Prop where
 |non:TyOf K H .non (.type "NoneType")
 |bl (x:Bool):TyOf K H (.bl x) (.type "bool")
 |int (i:Int):TyOf K H (.int i) (.type "int")
 |str (x:Str):TyOf K H (.str x) (.type "str")
 |flt (x:UInt64):TyOf K H (.flt x) (.type "float")
 |lst {a:Addr} {xs:List V} (e:H a=some (.lst xs)):TyOf K H (.ref a) (.type "list")
 |frz {a:Addr} {o:Obj} {xs:List V} (e:H a=some (.frz o (.lst xs))):TyOf K H (.ref a) (.type "list")
 |tup {a:Addr} {xs:List V} (e:H a=some (.tup xs)):TyOf K H (.ref a) (.type "tuple")
 |dK {a:Addr} {kvs:List (Key×V)} (e:H a=some (.dK kvs)):TyOf K H (.ref a) (.type "dict")
 |dT {a:Addr} {kvs:List (List Key×V)} (e:H a=some (.dT kvs)):TyOf K H (.ref a) (.type "dict")
 |ins {a C dx:Addr} {fs:List (Str×V)} (e:H a=some (.ins C dx fs)) (cl:Cls K C) (ha:PySem.W.findIn K (.ref C) "__class__" =some (some (.builtin "object.__class__")))
   (hn:PySem.W.specialIn K (.builtin "object.__class__") "__get__" =some (some (.builtin "getset_descriptor.__get__"))) (htk:PySem.W.takesIn K (.builtin "object.__class__")=some true)
   (hm:PySem.W.mroIn K C (.type "object")=some true):TyOf K H (.ref a) (.ref C)
theorem isinst_ok {x:V}{u t:Value}(I:Inv X pins σ H s)(rx:RelV x u)(ty:TyOf X.K H x t)(e:PySem.W.kitOne X.K t c=some b)(h:∀tk,Q (.bool b) {s with toks:=tk}):
  wpAny (model X.prog X.w) A (call (.builtin "isinstance") [u,c]) Q E s:=by
 cases ty with
 |non=>cases(show u=Value.none from rx);exact PySem.W.kia_one PySem.W.kitx_none I.kIn True.intro e (fun z=>nomatch z) h
 |bl y=>cases(show u=Value.bool y from rx);exact PySem.W.kia_one PySem.W.kitx_bool I.kIn True.intro e (fun z=>nomatch z) h
 |int i=>obtain⟨t,q⟩:=(show∃t,u=Value.int i t from rx);cases q;exact PySem.W.kia_one PySem.W.kitx_int I.kIn True.intro e (fun z=>nomatch z) h
 |str y=>obtain⟨t,q⟩:=(show∃t,u=Value.str y t from rx);cases q;exact PySem.W.kia_one PySem.W.kitx_str I.kIn True.intro e (fun z=>nomatch z) h
 |flt y=>obtain⟨t,q⟩:=(show∃t,u=Value.float y t from rx);cases q;exact PySem.W.kia_one PySem.W.kitx_float I.kIn True.intro e (fun z=>nomatch z) h
 | @lst a xs ea=>
  cases(show u=Value.ref a from rx)
  obtain⟨_,_,n,_,h1⟩:=(show ObjOk X.prog X.w H s.heap a (.lst xs) from I.hok a _ ea)
  exact PySem.W.kia_one PySem.W.kitx_list I.kIn ⟨_,h1,rfl⟩ e (fun z=>nomatch z) h
 | @frz a ob xs ea=>
  cases(show u=Value.ref a from rx)
  obtain⟨_,_,_,n,_,h1⟩:=(show ObjOk X.prog X.w H s.heap a (.frz ob (.lst xs)) from I.hok a _ ea)
  exact PySem.W.kia_one PySem.W.kitx_list I.kIn ⟨_,h1,rfl⟩ e (fun z=>nomatch z) h
 | @tup a xs ea=>
  cases(show u=Value.ref a from rx)
  obtain⟨_,_,_,p⟩:=(show ObjOk X.prog X.w H s.heap a (.tup xs) from I.hok a _ ea)
  obtain⟨o,h1,h2,_⟩:=p
  exact PySem.W.kia_one PySem.W.kitx_tuple I.kIn ⟨o,h1,h2⟩ e (fun z=>nomatch z) h
 | @dK a kvs ea=>
  cases(show u=Value.ref a from rx)
  obtain⟨_,_,vs,_,p⟩:=(show ObjOk X.prog X.w H s.heap a (.dK kvs) from I.hok a _ ea)
  obtain⟨o,es,ep,h1,h2,_⟩:=p
  exact PySem.W.kia_one PySem.W.kitx_dict I.kIn ⟨o,h1,h2.1⟩ e (fun z=>nomatch z) h
 | @dT a kvs ea=>
  cases(show u=Value.ref a from rx)
  obtain⟨_,_,xs,_,o,es,ep,h1,h2,_⟩:=(show ObjOk X.prog X.w H s.heap a (.dT kvs) from I.hok a _ ea)
  exact PySem.W.kia_one PySem.W.kitx_dict I.kIn ⟨o,h1,h2.1⟩ e (fun z=>nomatch z) h
 | @ins a C dx fs ea cl ha hn htk hm=>
  cases(show u=Value.ref a from rx)
  obtain⟨mA,O,_⟩:=ins_get I.hok ea
  obtain⟨od,J,_⟩:=O.look
  exact PySem.W.kia_one (PySem.W.kitx_own (cl.get _) cl.hd ha hn htk hm) I.kIn J e (fun z=>nomatch z) h
end
structure Room (k:Nat) (A:Around):Prop where
 hd:A.handled=none
 dp:A.depth+3*k+5<recursionLimit
 un:A.units+16*k+200<cLine
 gd:A.guards=some []
theorem Room.mono {j k:Nat}{A:Around}(r:Room k A)(h:j≤k):Room j A:=⟨r.hd,by have:=r.dp;omega,by have:=r.un;omega,r.gd⟩
theorem Room.deeper {k:Nat}{A:Around}(r:Room (k+1) A)(env:Env):Room k (A.deeper env):=
 ⟨r.hd,by have:=r.dp;show A.depth+1+3*k+5<_;omega,by have:=r.un;show A.units+3+16*k+200<_;omega,r.gd⟩
theorem make_depth {A:Around}{C:Addr}{us:List Value}{kw:List (Str×Value)}:(A.under (.builtin "type.__call__" ⟨.ref C::us,kw⟩)).depth=A.depth+1:=by
 first|rfl|simp[Around.under,Code.weight,Code.isCreation,Code.isGuard,Code.isCaller,Code.frames,Code.isFrame,guardIds]
theorem make_units {A:Around}{C:Addr}{us:List Value}{kw:List (Str×Value)}:(A.under (.builtin "type.__call__" ⟨.ref C::us,kw⟩)).units=A.units+1:=by
 first|rfl|simp[Around.under,Code.cUnits,Code.frames,Code.isFrame]
theorem make_guards {A:Around}{C:Addr}{us:List Value}{kw:List (Str×Value)}:(A.under (.builtin "type.__call__" ⟨.ref C::us,kw⟩)).guards=A.guards:=by
 first|rfl|simp[Around.under,Code.isGuard,Code.guards,guardIds]
theorem Room.make {k:Nat}{A:Around}(r:Room (k+1) A)(C:Addr)(us:List Value)(kw:List (Str×Value)):Room k (A.under (.builtin "type.__call__" ⟨.ref C::us,kw⟩)):=
 ⟨r.hd,by have:=r.dp;rw[make_depth];omega,by have:=r.un;rw[make_units];omega,by rw[make_guards];exact r.gd⟩
theorem Room.depth {k:Nat}{A:Around}(r:Room k A):A.depth<recursionLimit:=by have:=r.dp;omega
theorem Room.units {k:Nat}{A:Around}(r:Room k A):A.units+64<cLine:=by have:=r.un;omega
def tNil:TA:=fun _ H Q=>Q [] H
def tCons (ta:TE) (tr:TA):TA:=fun σ H Q=>ta σ H fun x H1=>tr σ H1 fun xs H2=>Q (x::xs) H2
section
variable {X:Cx} {e:Expr} {es:List Expr} {te:TE} {t:TA} {pos:Pos}
theorem pa_nil:PA X [] tNil:=fun _ _ _ _ H Q I h=>Calls.spliced_nil ⟨[],H,I,.nil,h⟩
theorem pa_cons (ha:PE X e te)(hr:PA X es t)(hs:starEach (e::es) X.env=(false,eval e X.env)::starEach es X.env:=by rfl):PA X (e::es) (tCons te t):=by
 intro pos pins s σ H Q I h
 rw[hs]
 show wpAny _ _ (spliced ((false,eval e X.env)::backTo pos (starEach es X.env))) _ _ s
 refine Calls.spliced_cons (thn (ha pins s σ H _ I h) fun u s1 ⟨x,H1,I1,r1,q1⟩=>?_)
 exact thn (hr pos pins s1 σ H1 _ I1 q1) fun us s2 ⟨xs,H2,I2,r2,q2⟩=>⟨x::xs,H2,I2,.cons r1 r2,q2⟩
def tTup (t:TA):TE:=fun σ H Q=>t σ H fun xs H1=>xs.length≤sizeLine∧∀p,H1 p=none→Q (.ref p) (upd H1 p (.tup xs))
def tLst (t:TA):TE:=fun σ H Q=>t σ H fun xs H1=>xs.length≤sizeLine∧∀p,H1 p=none→Q (.ref p) (upd H1 p (.lst xs))
theorem pe_tup {x1}(h:PA X es t):PE X (.Tuple es x1 pos) (tTup t):=by
 intro pins s σ H Q I hq
 refine wpAny_Tuple_spliced (thn (h pos pins s σ H _ I hq) fun us s1 ⟨xs,H1,I1,r,z,q⟩=>⟨by rw[←r.length];exact z,?_⟩)
 have hf:H1 s1.heap.objs.size=none:=I1.hok.fresh (Nat.le_refl _)
 refine⟨.ref s1.heap.objs.size,upd H1 s1.heap.objs.size (.tup xs),I1.laid (t':=s1.toks) (fun b u e=>Heap.get?_push_of_some _ e) (Nat.le_refl _) ?_,rfl,q _ hf⟩
 exact⟨z,us,r,⟨_,Heap.get?_push_size _ rfl,rfl,_,rfl⟩⟩
theorem pe_lst (h:PA X es t):PE X (.List es pos) (tLst t):=by
 intro pins s σ H Q I hq
 refine wpAny_List_spliced (thn (h pos pins s σ H _ I hq) fun us s1 ⟨xs,H1,I1,r,z,q⟩=>⟨by rw[←r.length];exact z,?_⟩)
 have hf:H1 s1.heap.objs.size=none:=I1.hok.fresh (Nat.le_refl _)
 refine⟨.ref s1.heap.objs.size,upd H1 s1.heap.objs.size (.lst xs),I1.laid (t':=s1.toks) (fun b u e=>Heap.get?_push_of_some _ e) (Nat.le_refl _) ?_,rfl,q _ hf⟩
 exact⟨z,us,0,r,Heap.get?_push_size _ rfl⟩
end
abbrev Sp:=List V→Hp→VK→XK→Prop
abbrev CXT:=List Env→Hp→Shared→XK→Value→Shared→Prop
structure Env0 (P:Program) (w:World) (K:PySem.W.Frag) (mg:Str→Option Value) (base:Heap) (A:Around) (outer:List Env) (s:Shared) (H:Hp):Prop where
 frames:A.frames=some outer
 mod:Mod K mg base
 bs:∀b o,base.get? b=some o→s.heap.get? b=some o∧H b=none
 bsz:base.objs.size≤s.heap.objs.size
 funs:s.heap.FunFrames base outer
 frf:∀b∈frs outer,H b=none
 hok:HOk P w H s.heap
 bare:AllBare s.gens
def CE (outer:List Env) (P:Program) (w:World) (H:Hp) (s:Shared) (Q:VK) (u:Value) (s':Shared):Prop:=
 ∃v H',s'.os=s.os∧AllBare s'.gens∧Un (frs outer) [] H H' s.heap s'.heap∧HOk P w H' s'.heap∧RelV v u∧Q v H'
def CR (CX:CXT) (outer:List Env) (P:Program) (w:World) (H:Hp) (s:Shared) (Q:VK) (E:XK) (r:Result) (s':Shared):Prop:=
 match r with
 | .ok (.ret u)=>CE outer P w H s Q u s'
 | .ok _=>False
 | .error e=>CX outer H s E e s'
structure FnOk (P:Program) (w:World) (K:PySem.W.Frag) (mg:Str→Option Value) (base:Heap) (CX:CXT) (k:Nat) (f:Addr) (fd:FuncData) (ps:List Str) (sp:Sp):Prop where
 len:∀vs H Q E,sp vs H Q E→vs.length=ps.length
 run:∀(A:Around) (outer:List Env) (s:Shared) (H:Hp) (args:Args) (us:List Value) (vs:List V) (Q:VK) (E:XK),Room k A→Env0 P w K mg base A outer s H→BindsTo s fd args (ps.zip us)→Vals vs us→sp vs H Q E→
  codeAny (model P w) A (.call (.ref f) args) (CR CX outer P w H s Q E) s
theorem Env0.make {P:Program}{w:World}{K:PySem.W.Frag}{mg:Str→Option Value}{base:Heap}{A:Around}{outer:List Env}{s:Shared}{H:Hp}(e:Env0 P w K mg base A outer s H)(C:Addr)(us:List Value)(kw:List (Str×Value)):
  Env0 P w K mg base (A.under (.builtin "type.__call__" ⟨.ref C::us,kw⟩)) outer s H:=⟨by first|exact e.frames|(simpa[Around.under,Code.envs,Code.isFrame,pushEnvs] using e.frames),e.mod,e.bs,e.bsz,e.funs,e.frf,e.hok,e.bare⟩
section
variable {X:Cx} {pins:List (Addr×Obj)} {σ:St} {H:Hp} {s s':Shared}
theorem Inv.env0 (I:Inv X pins σ H s):Env0 X.prog X.w X.K X.mg X.base X.A X.stack s H:=
 ⟨I.ok.frames,I.ok.mod,I.bs,Nat.le_trans I.ok.bsz I.sz,I.stack,I.stkFree,I.hok,I.bare⟩
theorem Inv.after {Q:VK}{u:Value}(I:Inv X pins σ H s)(h:CE X.stack X.prog X.w H s Q u s'):EP X pins σ Q u s':=by
 obtain⟨v,H',os,bare,un,hok,r,q⟩:=h
 obtain⟨hh,g,d,t,os'⟩:=s'
 obtain rfl:os'=s.os:=os
 exact⟨v,H',I.call (h':=hh) (g':=g) (d':=d) (t':=t) (ch:=[]) un hok bare (fun b z=>absurd z (by simp)),r,q⟩
end
def tCall (sp:Sp) (dvs:List V) (E:XK) (t:TA):TE:=fun σ H Q=>t σ H fun vs H1=>sp (vs++dvs) H1 Q E
def tMeth (C:Addr) (m:Str) (sp:Sp) (dvs:List V) (E:XK) (ta:TE) (t:TA):TE:=fun σ H Q=>ta σ H fun x H1=>∃a dx fs,x=.ref a∧H1 a=some (.ins C dx fs)∧fs.lookup m=none∧
 t σ H1 fun vs H2=>sp (x::(vs++dvs)) H2 Q E
def tMake (C:Addr) (sp:Sp) (dvs:List V) (E:XK) (t:TA):TE:=fun σ H Q=>t σ H fun vs H1=>∀x dx,H1 x=none→H1 dx=none→dx≠x→
 sp (.ref x::(vs++dvs)) (upd (upd H1 dx (.own x)) x (.ins C dx [])) (fun v H2=>v=.non∧Q (.ref x) H2) E
def Binds (K:PySem.W.Frag) (fd:FuncData) (ps:List Str) (ds:List Value):Prop:=
 ∀(s:Shared) (us:List Value),K.In s.heap→(us++ds).length=ps.length→BindsTo s fd ⟨us,[]⟩ (ps.zip (us++ds))
theorem Binds.all {K:PySem.W.Frag}{fd:FuncData}{ps:List Str}(h:∀us:List Value,us.length=ps.length→bindArgs fd ⟨us,[]⟩=pure (ps.zip us)):Binds K fd ps []:=fun s us _ hl=>by
 rw[List.append_nil] at hl⊢
 exact .of_eq (h us hl)
def Passes (CX:CXT) (X:Cx) (E:XK):Prop:=∀(pins:List (Addr×Obj)) (σ:St) (H:Hp) (s:Shared) (e:Value) (s':Shared),Inv X pins σ H s→CX X.stack H s E e s'→X.xe e s'
section
variable {X:Cx} {CX:CXT} {k:Nat} {f C:Addr} {fd:FuncData} {ps:List Str} {sp:Sp} {dvs:List V} {ds:List Value} {E:XK} {x m:Str} {p pos apos:Pos} {e o:Expr} {es:List Expr} {ta:TE} {t:TA}
theorem run_fn {pins:List (Addr×Obj)}{σ:St}{H:Hp}{s:Shared}{Q:VK}{us:List Value}{vs:List V}(F:FnOk X.prog X.w X.K X.mg X.base CX k f fd ps sp)(hr:Room k X.A)(hb:Binds X.K fd ps ds)(hd:Vals dvs ds)(hx:Passes CX X E)
  (I:Inv X pins σ H s) (r:Vals vs us) (h:sp (vs++dvs) H Q E):wpAny (model X.prog X.w) X.A (call (.ref f) us) (EP X pins σ Q) X.xe s:=by
 have r2:Vals (vs++dvs) (us++ds):=r.append hd
 have hl:(us++ds).length=ps.length:=by rw[←r2.length];exact F.len _ _ _ _ h
 refine wpAny_call (codeAny_mono (F.run X.A X.stack s H ⟨us,[]⟩ (us++ds) (vs++dvs) Q E hr I.env0 (hb s us I.kIn hl) r2 h) fun r s' hq=>?_)
 cases r with
 |error e=>exact hx pins σ H s e s' I hq
 |ok fl=>
  cases fl with
  |ret u=>exact I.after hq
  |next=>exact False.elim hq
  |brk=>exact False.elim hq
  |cont=>exact False.elim hq
theorem pe_call (F:FnOk X.prog X.w X.K X.mg X.base CX k f fd ps sp)(hr:Room k X.A)(hg:Gl X x)(hm:X.mg x=some (.ref f))(hk:PySem.W.keepIn X.K (.ref f)=true)(hb:Binds X.K fd ps ds)(hd:Vals dvs ds)(hx:Passes CX X E)
  (ha:PA X (e::es) t) (hdb:(x==("__debug__" :Str))=false:=by decide) (he:starEach (e::es) X.env=(false,eval e X.env)::starEach es X.env:=by rfl) (hpl:(backTo pos (starEach es X.env)).any (·.1)=false:=by rfl):
  PE X (.Call (.Name x p) (e::es) [] pos) (tCall sp dvs E t):=by
 intro pins s σ H Q I h
 refine wpAny_Call_Name_kw (ld_glob I hg hm ?_ hdb)
 refine PySem.W.callWith_K (h₀:=X.base) I.ok.mod.kin hk (thn (ha pos pins s σ H _ I h) fun us s1 ⟨vs,H1,I1,r,q⟩=>⟨I1.kIn,?_⟩) he hpl
 exact run_fn F hr hb hd hx I1 r q
theorem pe_meth {pl:Sem Bool}(he:PE X o ta)(c:Cls X.K C)(hm:Meth X.K C m f)(F:FnOk X.prog X.w X.K X.mg X.base CX k f fd ps sp)(hr:Room k X.A)(hb:Binds X.K fd ps ds)(hd:Vals dvs ds)(hx:Passes CX X E)(ha:PA X (e::es) t)
  (hst:starEach (e::es) X.env=(false,eval e X.env)::starEach es X.env:=by rfl) (hpl:(backTo pos (starEach es X.env)).any (·.1)=false:=by rfl)
  (ht:eval (.Call (.Attribute o m apos) (e::es) [] pos) X.env=(do
   let ov←eval o X.env
   standAt apos.atName
   let (f,first)←holding [ov] (getMethod ov m pl)
   callWith pos f first (backTo pos (starEach (e::es) X.env)) (backToKw pos (keywordEach [] X.env))):=by rfl):
  PE X (.Call (.Attribute o m apos) (e::es) [] pos) (tMeth C m sp dvs E ta t):=by
 intro pins s σ H Q I h
 refine PySem.W.methodCall_KW (pl:=pl) (thn (he pins s σ H _ I h) fun u s1 ⟨x,H1,I1,rx,a,dx,fs,ex,ea,l,q⟩=>?_) ht
 subst ex
 obtain rfl:u=Value.ref a:=rx
 refine getmeth_ok I1 ea c hm l ?_
 refine PySem.W.callWith_K (first:=[.ref a]) (h₀:=X.base) I.ok.mod.kin hm.kp (thn (ha pos pins s1 σ H1 _ I1 q) fun us s2 ⟨vs,H2,I2,r,q2⟩=>⟨I2.kIn,?_⟩) hst hpl
 exact run_fn (us:=.ref a::us) (vs:=.ref a::vs) F hr hb hd hx I2 (.cons rfl r) q2
theorem pe_meth0 {pl:Sem Bool}(he:PE X o ta)(c:Cls X.K C)(hm:Meth X.K C m f)(F:FnOk X.prog X.w X.K X.mg X.base CX k f fd ps sp)(hr:Room k X.A)(hb:Binds X.K fd ps ds)(hd:Vals dvs ds)(hx:Passes CX X E)
  (ht:eval (.Call (.Attribute o m apos) [] [] pos) X.env=(do
   let ov←eval o X.env
   standAt apos.atName
   let (f,first)←holding [ov] (getMethod ov m pl)
   callWith pos f first (backTo pos (starEach [] X.env)) (backToKw pos (keywordEach [] X.env))):=by rfl):
  PE X (.Call (.Attribute o m apos) [] [] pos) (tMeth C m sp dvs E ta tNil):=by
 intro pins s σ H Q I h
 refine PySem.W.methodCall_KW (pl:=pl) (thn (he pins s σ H _ I h) fun u s1 ⟨x,H1,I1,rx,a,dx,fs,ex,ea,l,q⟩=>?_) ht
 subst ex
 obtain rfl:u=Value.ref a:=rx
 refine getmeth_ok I1 ea c hm l ?_
 exact PySem.W.callWith_K0 (first:=[.ref a]) I1.kIn hm.kp (run_fn (us:=[.ref a]) (vs:=[.ref a]) F hr hb hd hx I1 (.cons rfl .nil) q)
structure Mk (K:PySem.W.Frag) (C f:Addr):Prop where
 makes:PySem.W.makesIn K C=true
 init:PySem.W.findIn K (.ref C) "__init__" =some (some (.ref f))
 fn:PySem.W.isFn K (.ref f)=true
 kp:PySem.W.keepIn K (.ref C)=true
theorem run_make {pins:List (Addr×Obj)}{σ:St}{H:Hp}{s:Shared}{Q:VK}{us:List Value}{vs:List V}(M:Mk X.K C f)(F:FnOk X.prog X.w X.K X.mg X.base CX k f fd ps sp)(hr:Room (k+1) X.A)(hb:Binds X.K fd ps ds)(hd:Vals dvs ds)
  (hx:Passes CX X E) (I:Inv X pins σ H s) (r:Vals vs us)
  (h:∀x dx,H x=none→H dx=none→dx≠x→sp (.ref x::(vs++dvs)) (upd (upd H dx (.own x)) x (.ins C dx [])) (fun v H2=>v=.non∧Q (.ref x) H2) E):
  wpAny (model X.prog X.w) X.A (call (.ref C) us) (EP X pins σ Q) X.xe s:=by
 have hq:=h (s.heap.objs.size+1) s.heap.objs.size (I.hok.fresh (Nat.le_succ _)) (I.hok.fresh (Nat.le_refl _)) (Nat.ne_of_lt (Nat.lt_succ_self _))
 have I2:=Inv.made (C:=C) I
 have r2:Vals (V.ref (s.heap.objs.size+1)::(vs++dvs)) (Value.ref (s.heap.objs.size+1)::(us++ds)):=.cons rfl (r.append hd)
 have hl:(Value.ref (s.heap.objs.size+1)::us++ds).length=ps.length:=by
  have e:=r2.length
  rw[F.len _ _ _ _ hq] at e
  exact e.symm
 refine wpAny_call (make_map (f:=f) I.kIn M.makes M.init (beq_iff_eq.mp M.fn) (codeAny_mono (F.run _ X.stack _ _ ⟨Value.ref (s.heap.objs.size+1)::us,[]⟩ (Value.ref (s.heap.objs.size+1)::(us++ds)) _ _ E (hr.make C us [])
  (I2.env0.make C us []) (hb _ (Value.ref (s.heap.objs.size+1)::us) I2.kIn hl) r2 hq) fun r s' hq'=>?_))
 cases r with
 |error e=>exact hx pins σ _ _ e s' I2 hq'
 |ok fl=>
  cases fl with
  |ret u=>
   obtain⟨v,H',I3,rv,ev,q3⟩:=I2.after hq'
   subst ev
   exact⟨rv,⟨V.ref (s.heap.objs.size+1),H',I3,rfl,q3⟩⟩
  |next=>exact False.elim hq'
  |brk=>exact False.elim hq'
  |cont=>exact False.elim hq'
theorem pe_make (M:Mk X.K C f)(F:FnOk X.prog X.w X.K X.mg X.base CX k f fd ps sp)(hr:Room (k+1) X.A)(hg:Gl X x)(hm:X.mg x=some (.ref C))(hb:Binds X.K fd ps ds)(hd:Vals dvs ds)(hx:Passes CX X E)
  (ha:PA X (e::es) t) (hdb:(x==("__debug__" :Str))=false:=by decide) (he:starEach (e::es) X.env=(false,eval e X.env)::starEach es X.env:=by rfl) (hpl:(backTo pos (starEach es X.env)).any (·.1)=false:=by rfl):
  PE X (.Call (.Name x p) (e::es) [] pos) (tMake C sp dvs E t):=by
 intro pins s σ H Q I h
 refine wpAny_Call_Name_kw (ld_glob I hg hm ?_ hdb)
 refine PySem.W.callWith_K (h₀:=X.base) I.ok.mod.kin M.kp (thn (ha pos pins s σ H _ I h) fun us s1 ⟨vs,H1,I1,r,q⟩=>⟨I1.kIn,?_⟩) he hpl
 exact run_make M F hr hb hd hx I1 r q
end
section
variable {X:Cx} {CX:CXT} {k:Nat} {f C:Addr} {fd:FuncData} {ps ks:List Str} {sp:Sp} {E:XK} {x m:Str} {p pos apos kpos:Pos} {e o:Expr} {es:List Expr} {kws:List Keyword} {te ta:TE} {t tk:TA} {nm:Option Str}
variable {g:List Value→List Value→List Value} {gV:List V→List V→List V}
end
structure FnScope (N P:List Str) (sc:Scope):Prop where
 kind:sc.kind=.function
 co:sc.isCoroutine=false
 gen:sc.isGenerator=false
 nd:N.Nodup
 pre:N.take P.length=P
 par:∀x∈P,sc.names.lookup x=some .local∨sc.names.lookup x=some .cell
 nofree:∀y∈sc.names,y.2≠.free
theorem bindL_out {kindOf:Str→Option NameKind}{x:Str}:∀{binds:List (Str×Value)} {m:Str→Option Value},(∀v,(x,v)∉binds)→bindL kindOf binds m x=m x
 |[],_,_=>rfl
 |(n,v)::r,m,h=>by
  unfold bindL
  rw[bindL_out fun w hw=>h w (List.mem_cons_of_mem _ hw)]
  split
  ·have:x≠n:=by rintro rfl;exact h v List.mem_cons_self
   simp[this]
  ·rfl
theorem bindC_out {kindOf:Str→Option NameKind}{x:Str}:∀{binds:List (Str×Value)} {m:Str→Option Value},(∀v,(x,v)∉binds)→bindC kindOf binds m x=m x
 |[],_,_=>rfl
 |(n,v)::r,m,h=>by
  unfold bindC
  rw[bindC_out fun w hw=>h w (List.mem_cons_of_mem _ hw)]
  split
  ·rfl
  ·have:x≠n:=by rintro rfl;exact h v List.mem_cons_self
   simp[this]
theorem bindL_get {kindOf:Str→Option NameKind}{x:Str}{v:Value}:∀{P:List Str} {vs:List Value} {i:Nat} {m:Str→Option Value},P.Nodup→P[i]?=some x→vs[i]?=some v→kindOf x=some .local→
  bindL kindOf (P.zip vs) m x=some v
 |[],_,_,_,_,h,_,_=>by simp at h
 |_::_,[],_,_,_,_,h,_=>by simp at h
 |p::P,w::vs,0,m,nd,h1,h2,hk=>by
  simp at h1 h2;subst h1;subst h2
  show bindL kindOf ((p,w)::P.zip vs) m p=_
  unfold bindL
  rw[bindL_out fun v hv=>(List.nodup_cons.mp nd).1 (List.of_mem_zip hv).1,if_pos hk]
  simp
 |p::P,w::vs,i+1,m,nd,h1,h2,hk=>by
  show bindL kindOf ((p,w)::P.zip vs) m x=_
  unfold bindL
  exact bindL_get (i:=i) (List.nodup_cons.mp nd).2 (by simpa using h1) (by simpa using h2) hk
theorem bindC_get {kindOf:Str→Option NameKind}{x:Str}{v:Value}:∀{P:List Str} {vs:List Value} {i:Nat} {m:Str→Option Value},P.Nodup→P[i]?=some x→vs[i]?=some v→kindOf x≠some .local→
  bindC kindOf (P.zip vs) m x=some v
 |[],_,_,_,_,h,_,_=>by simp at h
 |_::_,[],_,_,_,_,h,_=>by simp at h
 |p::P,w::vs,0,m,nd,h1,h2,hk=>by
  simp at h1 h2;subst h1;subst h2
  show bindC kindOf ((p,w)::P.zip vs) m p=_
  unfold bindC
  rw[bindC_out fun v hv=>(List.nodup_cons.mp nd).1 (List.of_mem_zip hv).1,if_neg hk]
  simp
 |p::P,w::vs,i+1,m,nd,h1,h2,hk=>by
  show bindC kindOf ((p,w)::P.zip vs) m x=_
  unfold bindC
  exact bindC_get (i:=i) (List.nodup_cons.mp nd).2 (by simpa using h1) (by simpa using h2) hk
noncomputable def start (N:List Str) (vs:List V):St:=vs.map some++List.replicate (N.length - vs.length) none
noncomputable def cxOf (CX:CXT) (P:Program) (w:World) (K:PySem.W.Frag) (mg:Str→Option Value) (base:Heap) (N:List Str) (qual:Str) (scope:Scope) (f:Addr) (cd:Value) (A:Around) (outer:List Env) (s:Shared) (H:Hp) (E:XK):Cx where
 prog:=P
 w:=w
 K:=K
 mg:=mg
 base:=base
 A:=A.deeper (envOfC qual scope s.heap.objs.size f cd)
 N:=N
 s₀:=s
 H₀:=H
 env:=envOfC qual scope s.heap.objs.size f cd
 outer:=outer
 stack:=envOfC qual scope s.heap.objs.size f cd::outer
 ex:=[]
 calm:=true
 fn:=fun _=>true
 pn:=[]
 xe:=fun e s'=>wpAny (model P w) (A.deeper (envOfC qual scope s.heap.objs.size f cd)) (leaving (envOfC qual scope s.heap.objs.size f cd) e) (fun _ s''=>CX outer H s E e s'') (fun e' s''=>CX outer H s E e' s'') s'
theorem cell_has {sc:Scope}{n:Nat}{x:Str}(h:sc.names.lookup x=some .cell):∃c,(cellsFrom n sc.names []).lookup x=some c:=by
 have q:=PySem.W.cellsFrom_some sc.names n [] (.inl h)
 exact Option.isSome_iff_exists.mp q
theorem inv_start {CX:CXT}{P:Program}{w:World}{K:PySem.W.Frag}{mg:Str→Option Value}{base:Heap}{N ps:List Str}{qual:Str}{scope:Scope}{f:Addr}{cd:Value}{A:Around}{outer:List Env}{s s1:Shared}{H:Hp}{E:XK}{us:List Value}{vs:List V}
  (S:FnScope N ps scope) (hd:A.handled=none) (e0:Env0 P w K mg base A outer s H) (hl:vs.length=ps.length) (r:Vals vs us)
  (x:InCallC s s.heap.objs.size (bindL (envOfC qual scope s.heap.objs.size f cd).kindOf (ps.zip us) fun _=>none) (cellsFrom (s.heap.objs.size+1) scope.names []) (bindC (envOfC qual scope s.heap.objs.size f cd).kindOf (ps.zip us) fun _=>none) s1):
  Inv (cxOf CX P w K mg base N qual scope f cd A outer s H E) [] (start N vs) H s1:=by
 have hpl:ps.length≤N.length:=by have:=congrArg List.length S.pre;rw[List.length_take] at this;omega
 obtain⟨h1,tk,rfl,hk⟩:=x.done
 have noA:∀b:Addr,b∉(cxOf CX P w K mg base N qual scope f cd A outer s H E).ex:=fun b z=>absurd (show b∈([]:List Addr) from z) (by simp)
 refine⟨⟨e0.mod,S.kind,rfl,rfl,Nat.le_refl _,fun y z c h1 h2=>?_,fun y hy=>?_,fun y c _ h=>?_,fun _=>hd,Around.frames_deeper e0.frames,.inr ⟨rfl,rfl⟩,fun b z=>absurd z (noA b),e0.bs,e0.bsz,fun b _ _=>noA b,fun b z=>absurd z (noA b),e0.funs,e0.frf⟩,
  rfl,e0.bare,Un.kept hk,⟨_,x.toInCall.ns,fun i y v h1 h2 h3=>?_⟩,fun y c h=>⟨_,x.cell y c h⟩,e0.hok.fresh (Nat.le_refl _),fun y c h=>?_,fun p hp=>absurd (show p∈([]:List (Addr×Obj)) from hp) (by simp),e0.hok.kept hk,?_⟩
 ·exact name_of_addr x.apart (PySem.mem_of_lookup h1) (PySem.mem_of_lookup h2)
 ·have hy:scope.names.lookup y=some .cell∨scope.names.lookup y=some .free:=hy
  rcases hy with hy|hy
  ·exact cell_has hy
  ·exact absurd rfl (S.nofree _ (PySem.mem_of_lookup hy))
 ·exact Nat.le_of_lt (x.above y c (PySem.mem_of_lookup h))
 ·have hi:i<vs.length:=by
   unfold start at h2
   by_cases hi:i<vs.length
   ·exact hi
   ·rw[List.getElem?_append_right (by simpa using hi)] at h2
    rw[List.getElem?_replicate] at h2
    split at h2<;>cases h2
  have ha:vs[i]?=some v:=by
   unfold start at h2
   rw[List.getElem?_append_left (by simpa using hi),List.getElem?_map] at h2
   cases e:vs[i]? with
   |none=>rw[e] at h2;cases h2
   |some a=>rw[e] at h2;cases h2;rfl
  obtain⟨u,hu,rv⟩:=r.get ha
  have hp:ps[i]?=some y:=by
   rw[←S.pre,List.getElem?_take_of_lt (by omega)];exact h1
  have ndP:ps.Nodup:=by rw[←S.pre];exact S.nd.sublist (List.take_sublist _ _)
  refine⟨u,rv,?_⟩
  rcases S.par y (List.mem_of_getElem? hp) with k|k
  ·exact .inl ⟨k,bindL_get ndP hp hu k⟩
  ·obtain⟨c,e⟩:=cell_has (n:=s.heap.objs.size+1) k
   refine .inr ⟨.inl k,c,e,?_⟩
   have q:=x.cell y c e
   rw[bindC_get ndP hp hu (by show scope.names.lookup y≠_;rw[k];decide)] at q
   exact q
 ·exact e0.hok.fresh (Nat.le_of_lt (x.above y c (PySem.mem_of_lookup h)))
 ·unfold start
  show _=N.length
  rw[List.length_append,List.length_map,List.length_replicate]
  omega
theorem fn_of {CX:CXT}{P:Program}{w:World}{K:PySem.W.Frag}{mg:Str→Option Value}{base:Heap}{k:Nat}{f:Addr}{name qual:Str}{params:Arguments}{body:List Stmt}{scope:Scope}{dV kV doc pm cdv ct oc:Value}{an od:Option Addr}
  {osl:Array (Option Value)} {N ps:List Str} {sp:Sp} (lk:K.lookup f=some ⟨oc,od,.func (PySem.W.fnOf name qual params body scope dV kV doc pm an cdv ct),osl⟩) (hcd:PySem.W.codeIn K cdv qual=true) (S:FnScope N ps scope)
  (len:∀vs H Q E,sp vs H Q E→vs.length=ps.length)
  (hbody:∀(A:Around) (outer:List Env) (s:Shared) (H:Hp) (vs:List V) (Q:VK) (E:XK),Room k (A.deeper (envOfC qual scope s.heap.objs.size f cdv))→sp vs H Q E→
   ∃t,PSs (cxOf CX P w K mg base N qual scope f cdv A outer s H E) body t∧t {nx:=fun _ H'=>Q .non H',rt:=Q} (start N vs) H):
  FnOk P w K mg base CX (k+1) f (PySem.W.fnOf name qual params body scope dV kV doc pm an cdv ct) ps sp:=by
 refine⟨len,fun A outer s H args us vs Q E hr e0 hb r hsp=>?_⟩
 have hl:=len _ _ _ _ hsp
 have KX:K.In s.heap:=e0.mod.kin.keeps fun b o e=>(e0.bs b o e).1
 have lim:s.heap.NoLimit:=e0.mod.nolimit.keeps fun b o e=>(e0.bs b o e).1
 have hkind:∀y∈ps.zip us,scope.names.lookup y.1=some .local∨(scope.names.lookup y.1=some .cell∧((cellsFrom (s.heap.objs.size+1) scope.names []).lookup y.1).isSome=true):=fun⟨n,v⟩ hy=>by
  rcases S.par n (List.of_mem_zip hy).1 with q|q
  ·exact .inl q
  ·exact .inr ⟨q,PySem.W.cellsFrom_some _ _ _ (.inl q)⟩
 refine codeAny_call_function hr.depth (KX _ _ lk) rfl S.co S.gen rfl (PySem.W.codeRec_of KX hcd) (hb _ _ _ _ ?_)
 refine wpAny_newFunctionEnv_cells S.kind hkind fun env he s1 x=>?_
 subst he
 refine⟨lim.keeps x.toInCall.keep,codeAny_func ?_⟩
 obtain⟨t,ht,hq⟩:=hbody A outer s H vs Q E (hr.deeper _) hsp
 have I:Inv (cxOf CX P w K mg base N qual scope f cdv A outer s H E) [] (start N vs) H s1:=inv_start S hr.hd e0 hl r x
 refine wpAny_mono (ht [] s1 (start N vs) H _ I hq) (fun fl s' hs=>?_) fun e s' hs=>hs
 have fin:∀{σ':St} {H':Hp} {v:V} {u:Value},Inv (cxOf CX P w K mg base N qual scope f cdv A outer s H E) [] σ' H' s'→RelV v u→Q v H'→CE outer P w H s Q u s':=
  fun{σ' H' v u} J rv q=>⟨v,H',J.os,J.bare,J.base,J.hok,rv,q⟩
 cases fl with
 |ret u=>
  obtain⟨v,σ',H',J,rv,q⟩:=hs
  exact fin J rv q
 |next=>
  obtain⟨σ',H',J,q⟩:=hs
  exact fin (v:=V.non) (u:=Value.none) J rfl q
 |brk=>
  obtain⟨_,_,_,q⟩:=hs
  exact False.elim q
 |cont=>
  obtain⟨_,_,_,q⟩:=hs
  exact False.elim q
section
variable {X:Cx} {x:Str} {p pos:Pos} {e:Expr} {es:List Expr} {t:TA} {id T:String} {r:List V→Hp→VK→Prop}
def tCB (r:List V→Hp→VK→Prop) (t:TA):TE:=fun σ H Q=>t σ H fun vs H1=>r vs H1 Q
theorem pe_callB (hc:CallR X (.builtin id) r)(hg:Gl X x)(hm:X.mg x=none)(hv:bootBuiltins x=some (.builtin id))(ha:PA X (e::es) t)(hn:x≠ "__name__" :=by decide)(hdb:(x==("__debug__" :Str))=false:=by decide)
  (he:starEach (e::es) X.env=(false,eval e X.env)::starEach es X.env:=by rfl) (hpl:(backTo pos (starEach es X.env)).any (·.1)=false:=by rfl):PE X (.Call (.Name x p) (e::es) [] pos) (tCB r t):=by
 intro pins s σ H Q I h
 refine wpAny_Call_Name_kw (ld_blt I hg hm hv ?_ hn hdb)
 exact PyProof.Rows.callWith_builtin1 (thn (ha pos pins s σ H _ I h) fun us s1 ⟨vs,H1,I1,r1,q1⟩=>hc pins s1 σ H1 vs us Q I1 r1 q1) he hpl
theorem pe_callTy (hc:CallR X (.type T) r)(hg:Gl X x)(hm:X.mg x=none)(hv:bootBuiltins x=some (.type T))(ha:PA X (e::es) t)(hn:x≠ "__name__" :=by decide)(hdb:(x==("__debug__" :Str))=false:=by decide)
  (he:starEach (e::es) X.env=(false,eval e X.env)::starEach es X.env:=by rfl) (hpl:(backTo pos (starEach es X.env)).any (·.1)=false:=by rfl):PE X (.Call (.Name x p) (e::es) [] pos) (tCB r t):=by
 intro pins s σ H Q I h
 refine wpAny_Call_Name_kw (ld_blt I hg hm hv ?_ hn hdb)
 exact PyProof.Rows.callWith_type1 (thn (ha pos pins s σ H _ I h) fun us s1 ⟨vs,H1,I1,r1,q1⟩=>hc pins s1 σ H1 vs us Q I1 r1 q1) he hpl
end
end L2
namespace HT
open PySem PyProof.Rows
noncomputable def lexLt:List Int→List Int→Bool
 |[],[]=>false
 |[],_::_=>true
 |_::_,[]=>false
 |x::xs,y::ys=>if x=y then lexLt xs ys else decide (x<y)
theorem lexLt_cons (x y:Int)(xs ys:List Int):lexLt (x::xs) (y::ys)=if x=y then lexLt xs ys else decide (x<y):=rfl
theorem lexLt_nil_nil:lexLt [] []=false:=rfl
theorem lexLt_nil_cons (y:Int)(ys:List Int):lexLt [] (y::ys)=true:=rfl
theorem lexLt_cons_nil (x:Int)(xs:List Int):lexLt (x::xs) []=false:=rfl
section
open PySem.SeqAt
open PySem.AutoSeq1 (wpAny_loadPart')
open PySem.MeetsSeq PySem.MeetsSeq2 PySem.MeetsSeq3
end
section
variable {prog:Program} {w:World} {A:Around} {E:Value→Shared→Prop} {s:Shared}
theorem cat_tup {t b:Addr}{vs ws:List Value}{Q:Value→Shared→Prop}(ht:IsTup s.heap t vs.toArray)(hb:IsTup s.heap b ws.toArray)(hv:vs≠[])
  (h1:ws=[]→Q (.ref t) s) (h2:ws≠[]→Q (.ref s.heap.objs.size) {s with heap:=s.heap.push {cls:=.type "tuple",data:=.seq (vs++ws).toArray}})
  (hsz:vs.length+ws.length≤sizeLine):wpAny (model prog w) A (binaryOp .Add (.ref t) (.ref b)) Q E s:=by
 obtain⟨⟨cls,dd,data,sl⟩,ho,hc,n,hd⟩:=id ht
 obtain⟨⟨cls2,dd2,data2,sl2⟩,ho2,hc2,n2,hd2⟩:=id hb
 simp only at hc hd hc2 hd2
 subst hc hd hc2 hd2
 have e:vs.toArray++ws.toArray=(vs++ws).toArray:=by simp
 by_cases hw:ws=[]
 ·exact concat_meets ⟨_,ho,rfl⟩ ⟨_,ho2,rfl⟩ noFill_tuple_add seq_tuple_add PySem.F.slot_tuple_add PySem.F.entry_tuple_add (PySem.F.args_tuple_add_2 _ _)
   (tuple_addW1 t b vs.toArray ws.toArray n n2 dd dd2 sl sl2 (by simpa using hv) (by simp[hw])) ⟨ho,ho2,h1 hw⟩
 ·refine concat_meets ⟨_,ho,rfl⟩ ⟨_,ho2,rfl⟩ noFill_tuple_add seq_tuple_add PySem.F.slot_tuple_add PySem.F.entry_tuple_add (PySem.F.args_tuple_add_2 _ _)
   (tuple_addW2 t b vs.toArray ws.toArray n n2 dd dd2 sl sl2 (by simpa using hv) (by simpa using hw) (by rw[List.size_toArray,List.size_toArray];exact hsz)) ⟨ho,ho2,?_⟩
  rw[e]
  exact h2 hw
end
end HT
namespace L2
open PySem PySem.Spec PyProof.Rows
abbrev TO:=St→Hp→(Option Int→Hp→Prop)→Prop
def PO (X:Cx) (e:Option Expr) (t:TO):Prop:=
 ∀(pins:List (Addr×Obj)) (s:Shared) (σ:St) (H:Hp) (Q:Option Int→Hp→Prop),Inv X pins σ H s→t σ H Q→
  wpAny (model X.prog X.w) X.A (evalPart e X.env) (fun u s'=>∃o H',Inv X pins σ H' s'∧IsPart u o∧Q o H') X.xe s
def tNoPart:TO:=fun _ H Q=>Q none H
noncomputable def tPart (t:TE):TO:=fun σ H Q=>t σ H fun x H1=>∃i,x=.int i∧Q (some i) H1
theorem intsAre_of {ns:List Int}:∀{us:List Value},Vals (ns.map V.int) us→IntsAre us ns:=by
 induction ns with
 |nil=>intro us r;rw[List.map_nil] at r;cases r;exact .nil
 |cons n ns ih=>
  intro us r
  rw[List.map_cons] at r
  cases r with
  |cons r1 r2=>
   obtain⟨t,e⟩:=r1
   subst e
   exact .cons n t (ih r2)
section
variable {X:Cx} {e:Expr} {te:TE} {lo hi:Option Expr} {tl th:TO} {pos p2:Pos}
theorem po_none:PO X none tNoPart:=by
 intro pins s σ H Q I h
 rw[evalPart_none]
 exact wpAny_pure ⟨none,H,I,.none,h⟩
theorem po_some (h:PE X e te):PO X (some e) (tPart te):=by
 intro pins s σ H Q I hw
 rw[evalPart_some]
 refine thn (h pins s σ H _ I hw) fun u s1 ⟨x,H1,I1,r1,q1⟩=>?_
 obtain⟨i,rfl,q⟩:=q1
 obtain⟨t,rfl⟩:=r1
 exact⟨some i,H1,I1,.int i t,q⟩
def SlR (X:Cx) (r:V→Option Int→Option Int→Hp→VK→Prop):Prop:=
 ∀(pins:List (Addr×Obj)) (s:Shared) (σ:St) (H:Hp) (x:V) (v vl vu:Value) (lo hi:Option Int) (sl:Addr) (Q:VK),Inv X pins σ H s→RelV x v→s.heap.IsSliceOf sl vl vu .none→IsPart vl lo→IsPart vu hi→r x lo hi H Q→
  ∃T id,typeLookup (.type T) "__getitem__" =pure (some (.builtin id))∧s.TypeIs v T∧wpAny (model X.prog X.w) X.A (getItem v (.ref sl)) (EP X pins σ Q) X.xe s
def tSl (r:V→Option Int→Option Int→Hp→VK→Prop) (te:TE) (tl th:TO):TE:=fun σ H Q=>te σ H fun x H1=>tl σ H1 fun l H2=>th σ H2 fun u H3=>r x l u H3 Q
theorem pe_slice {r:V→Option Int→Option Int→Hp→VK→Prop}(hr:SlR X r)(he:PE X e te)(hl:PO X lo tl)(hu:PO X hi th):PE X (.Subscript e (.Slice lo hi none p2) pos) (tSl r te tl th):=by
 intro pins s σ H Q I h
 refine Subscript_ (thn (he pins s σ H _ I h) fun v s1 ⟨x,H1,I1,r1,q1⟩=>?_)
 refine wpAny_Slice (thn (hl pins s1 σ H1 _ I1 q1) fun vl s2 ⟨l,H2,I2,pl,q2⟩=>thn (hu pins s2 σ H2 _ I2 q2) fun vu s3 ⟨u,H3,I3,pu,q3⟩=>?_)
 rw[evalPart_none]
 refine wpAny_pure ?_
 have I4:Inv X pins σ H3 {s3 with heap:=s3.heap.push {cls:=.type "slice",data:=.fields #[vl,vu,.none]}}:=I3.kept (t':=s3.toks) fun b ob q=>Heap.get?_push_of_some _ q
 obtain⟨T,id,hT,ht,hg⟩:=hr pins {s3 with heap:=s3.heap.push {cls:=.type "slice",data:=.fields #[vl,vu,.none]}} σ H3 x v vl vu l u s3.heap.objs.size Q I4 r1 (Heap.IsSliceOf.new ..) pl pu q3
 show wpAny (model X.prog X.w) X.A (subscriptTail e (.Slice lo hi none p2) v (.ref s3.heap.objs.size)) (EP X pins σ Q) X.xe {s3 with heap:=s3.heap.push {cls:=.type "slice",data:=.fields #[vl,vu,.none]}}
 exact tail_any (ops:=[.ref s3.heap.objs.size,v]) ht hT hg (by with_unfolding_all rfl)
def rCatT (K:PySem.W.Frag):R2:=fun x y H Q=>∃a b xs ys,x=.ref a∧y=.ref b∧SqT K H a xs∧SqT K H b ys∧xs≠[]∧xs.length+ys.length≤sizeLine∧
 (ys=[]→Q (.ref a) H)∧(ys≠[]→∀p,H p=none→Q (.ref p) (upd H p (.tup (xs++ys))))
theorem Vals.nil_iff {xs:List V}{us:List Value}(r:Vals xs us):us=[]↔xs=[]:=by
 cases r with
 |nil=>simp
 |cons _ _=>simp
theorem op_catT:OpR X (binaryOp .Add) (rCatT X.K):=by
 intro pins s σ H x y v u Q I rx ry h
 obtain⟨a,b,xs,ys,rfl,rfl,ha,hb,hx,hz,q1,q2⟩:=h
 cases rx
 cases ry
 obtain⟨its,r1,p1,_⟩:=I.tuple ha
 obtain⟨its2,r2,p2,_⟩:=I.tuple hb
 refine HT.cat_tup p1 p2 (fun z=>hx (r1.nil_iff.mp z)) (fun z=>⟨.ref a,H,I,rfl,q1 (r2.nil_iff.mp z)⟩) (fun z=>?_) (by rw[←r1.length,←r2.length];exact hz)
 refine⟨.ref s.heap.objs.size,_,I.laid (t':=s.toks) (o:=.tup (xs++ys)) (fun b ob q=>Heap.get?_push_of_some _ q) (Nat.le_refl _) ?_,rfl,q2 (fun w=>z (r2.nil_iff.mpr w)) _ (I.hok.fresh (Nat.le_refl _))⟩
 exact⟨by rw[List.length_append];exact hz,_,r1.append r2,IsTup.new _ _⟩
end
noncomputable def ixN (n:Nat) (i:Int):Option Nat:=if 0≤i then (if i<n then some i.toNat else none) else if -(n:Int)≤i then some (i+n).toNat else none
noncomputable def atI {α:Type} (xs:List α) (i:Int):Option α:=(ixN xs.length i).bind fun j=>xs[j]?
theorem ixN_seq {n:Nat}{i:Int}{j:Nat}(h:ixN n i=some j):seqIndex? i n=some j∧j<n∧ -(n:Int)≤i∧i<n:=by
 unfold ixN at h
 by_cases h0:0≤i
 ·rw[if_pos h0] at h
  by_cases h1:i<n
  ·rw[if_pos h1] at h
   have e:i.toNat=j:=Option.some.inj h
   exact⟨by rw[seqIndex_of h0 h1,e],by omega,by omega,h1⟩
  ·rw[if_neg h1] at h;cases h
 ·rw[if_neg h0] at h
  by_cases h1: -(n:Int)≤i
  ·rw[if_pos h1] at h
   have e:(i+n).toNat=j:=Option.some.inj h
   exact⟨by rw[seqIndex_neg (by omega) h1,e],by omega,h1,by omega⟩
  ·rw[if_neg h1] at h;cases h
theorem atI_get {α:Type}{xs:List α}{i:Int}{v:α}(h:atI xs i=some v):∃j,seqIndex? i xs.length=some j∧xs[j]?=some v∧j<xs.length∧ -(xs.length:Int)≤i∧i<xs.length:=by
 unfold atI at h
 cases e:ixN xs.length i with
 |none=>rw[e] at h;cases h
 |some j=>
  rw[e] at h
  obtain⟨h1,h2,h3,h4⟩:=ixN_seq e
  exact⟨j,h1,h,h2,h3,h4⟩
theorem atI_nat {α:Type}{xs:List α}{j:Nat}{v:α}(h:xs[j]?=some v):atI xs (j:Int)=some v:=by
 have hj:j<xs.length:=(List.getElem?_eq_some_iff.mp h).1
 have e:ixN xs.length (j:Int)=some j:=by
  unfold ixN
  rw[if_pos (by omega),if_pos (by omega)];simp
 unfold atI;rw[e];exact h
def PlainIx (b:Expr):Prop:=∀o i,subscripted b false o i=operate [o,i] (getItem o i)
def IxR (X:Cx) (r:R2):Prop:=
 ∀(value slice:Expr) (pins:List (Addr×Obj)) (s:Shared) (σ:St) (H:Hp) (x y:V) (v u:Value) (Q:VK),Inv X pins σ H s→RelV x v→RelV y u→r x y H Q→
  subscripted slice false v u=operate [v,u] (getItem v u)→wpAny (model X.prog X.w) X.A (subscriptTail value slice v u) (EP X pins σ Q) X.xe s
def MtR (X:Cx) (id:String) (r:V→List V→Hp→VK→Prop):Prop:=
 ∀(pins:List (Addr×Obj)) (s:Shared) (σ:St) (H:Hp) (x:V) (xs:List V) (v:Value) (us:List Value) (Q:VK),Inv X pins σ H s→RelV x v→Vals xs us→r x xs H Q→
  wpAny (model X.prog X.w) X.A (call (.builtin id) (v::us)) (EP X pins σ Q) X.xe s
section
variable {X:Cx} {a b:Expr} {ta tb:TE} {pos:Pos}
theorem pe_ix {r:R2}(hr:IxR X r)(ha:PE X a ta)(hb:PE X b tb)(hs:PlainIx b):PE X (.Subscript a b pos) (tOp r ta tb):=by
 intro pins s σ H Q I h
 exact Subscript_ (binT ha hb I h fun v u s2 x y H2 I2 rx ry q=>hr a b pins s2 σ H2 x y v u Q I2 rx ry q (hs _ _))
def rIxL (K:PySem.W.Frag):R2:=fun x y H Q=>∃p xs i v,x=.ref p∧y=.int i∧SqL K H p xs∧atI xs i=some v∧Q v H
def rIxT (K:PySem.W.Frag):R2:=fun x y H Q=>∃p xs i v,x=.ref p∧y=.int i∧SqT K H p xs∧atI xs i=some v∧Q v H
def rIxS:R2:=fun x y H Q=>∃z i c,x=.str z∧y=.int i∧z.length≤sizeLine∧atI z.cps.toList i=some c∧Q (.str ⟨#[c]⟩) H
theorem ix_list:IxR X (rIxL X.K):=by
 intro value slice pins s σ H x y v u Q I rx ry h hs
 obtain⟨p,xs,i,z,rfl,rfl,hq,he,q⟩:=h
 cases rx
 obtain⟨t,rfl⟩:=ry
 obtain⟨its,r,pl,hz⟩:=I.list hq
 obtain⟨j,h1,h2,h3,h4,h5⟩:=atI_get he
 obtain⟨w,ew,rw'⟩:=r.get h2
 have hl:=r.length
 have hn:=line63
 have fin:EP X pins σ Q w s:=⟨z,H,I,rw',q⟩
 by_cases h0:0≤i
 ·have hj:i.toNat=j:=by
   rw[seqIndex_of h0 h5] at h1
   exact Option.some.inj h1
  exact item_listR pl.isList h0 (by omega) (by rw[hj];simpa using ew) fin hs
 ·have hj:(i+(its.toArray.size:Int)).toNat=j:=by
   rw[seqIndex_neg (by omega) h4] at h1
   rw[List.size_toArray,←hl]
   exact Option.some.inj h1
  exact subscriptTail_builtinR (x:=w) pl.isList.typeIs slot_list_getitem.lookup
   (wpAny_getItem_list_neg (Q:=fun r s'=>r=w∧EP X pins σ Q r s') pl.isList (by omega) (by rw[List.size_toArray]<;>omega) (by omega) (by rw[hj];simpa using ew) ⟨rfl,fin⟩) hs
theorem ix_tup:IxR X (rIxT X.K):=by
 intro value slice pins s σ H x y v u Q I rx ry h hs
 obtain⟨p,xs,i,z,rfl,rfl,hq,he,q⟩:=h
 cases rx
 obtain⟨t,rfl⟩:=ry
 obtain⟨its,r,pl,hz⟩:=I.tuple hq
 obtain⟨j,h1,h2,h3,h4,h5⟩:=atI_get he
 obtain⟨w,ew,rw'⟩:=r.get h2
 have hl:=r.length
 have hn:=line63
 have fin:EP X pins σ Q w s:=⟨z,H,I,rw',q⟩
 exact subscriptTail_builtinR (x:=w) pl.typeIs slot_tuple_getitem.lookup
  (getItem_tuple (j:=j) (Q:=fun r s'=>r=w∧EP X pins σ Q r s') pl (by omega) (by omega) (by rw[List.size_toArray,←hl];exact h1) (by simpa using ew) ⟨rfl,fin⟩) hs
theorem ix_str:IxR X rIxS:=by
 intro value slice pins s σ H x y v u Q I rx ry h hs
 obtain⟨z,i,c,rfl,rfl,hz,he,q⟩:=h
 obtain⟨t,rfl⟩:=rx
 obtain⟨t',rfl⟩:=ry
 obtain⟨j,h1,h2,h3,h4,h5⟩:=atI_get he
 have hl:z.cps.toList.length=z.length:=by simp[Str.length]
 rw[hl] at h1 h4 h5
 have hn:=line63
 exact tail_any (typeIs_str s z t) slot_str_getitem.lookup (getItem_str (c:=c) (by
  have e1:decide (i< -(2^63:Int))=false:=decide_eq_false (by omega)
  have e2:decide (i≥2^63)=false:=decide_eq_false (by omega)
  rw[e1,e2,Bool.or_false]) (by rw[h1];simpa using h2) ⟨.str ⟨#[c]⟩,H,I.tok _,⟨_,rfl⟩,q⟩) hs
theorem mapSeq_set (its:List Value)(n j:Nat)(u:Value):Obj.mapSeq (·.setIfInBounds j u) {cls:=.type "list",data:=.seq its.toArray n}={cls:=.type "list",data:=.seq (its.set j u).toArray n}:=by
 simp[Obj.mapSeq]
theorem Inv.lst {pins:List (Addr×Obj)}{σ:St}{H:Hp}{s:Shared}{p:Addr}{xs:List V}(I:Inv X pins σ H s)(h:H p=some (.lst xs)):
  ∃(its:List Value) (n:Nat),Vals xs its∧s.heap.get? p=some {cls:=.type "list",data:=.seq its.toArray n}∧xs.length≤sizeLine:=by
 obtain⟨z,its,n,r,e⟩:=I.hok p _ h
 exact⟨its,n,r,e,z⟩
theorem Inv.lstUpd {pins:List (Addr×Obj)}{σ:St}{H:Hp}{s:Shared}{p:Addr}{xs ys:List V}{its its':List Value}{n n':Nat}{f:Obj→Obj}(I:Inv X pins σ H s)(h:H p=some (.lst xs))
  (ho:s.heap.get? p=some {cls:=.type "list",data:=.seq its.toArray n}) (hf:f {cls:=.type "list",data:=.seq its.toArray n}={cls:=.type "list",data:=.seq its'.toArray n'}) (r:Vals ys its') (hz:ys.length≤sizeLine) (t:Nat):
  Inv X pins σ (upd H p (.lst ys)) {s with heap:=s.heap.update p f,toks:=t}:=by
 have e:(s.heap.update p f).get? p=some {cls:=.type "list",data:=.seq its'.toArray n'}:=by
  rw[Heap.get?_update_self f ho (by rw[hf]<;>rfl),hf]
 refine I.write (x:=p) (e:=p) (by rw[h];trivial) (.inl rfl) (fun b u hb q=>(Heap.get?_update_other _ _ (Ne.symm hb)).trans q) ⟨_,e⟩ ?_
 exact⟨hz,its',n',r,e⟩
def rSetL:V→V→V→Hp→(Hp→Prop)→Prop:=fun o i v H Q=>∃p xs k j,o=.ref p∧i=.int k∧H p=some (.lst xs)∧ixN xs.length k=some j∧Q (upd H p (.lst (xs.set j v)))
theorem set_list:PSet X rSetL:=by
 intro pins s σ H o i v ov iv u Q I ro ri rv h
 obtain⟨p,xs,k,j,rfl,rfl,hp,hj,q⟩:=h
 cases ro
 obtain⟨t,rfl⟩:=ri
 obtain⟨its,n,r,ho,hz⟩:=I.lst hp
 obtain⟨h1,h2,h3,h4⟩:=ixN_seq hj
 have hl:=r.length
 have hn:=line63
 have I':Inv X pins σ (upd H p (.lst (xs.set j v))) {s with heap:=s.heap.update p (Obj.mapSeq (·.setIfInBounds j u))}:=
  I.lstUpd hp ho (mapSeq_set its n j u) (r.set rv j) (by rw[List.length_set];exact hz) s.toks
 by_cases h0:0≤k
 ·have hk:k.toNat=j:=by
   rw[seqIndex_of h0 h4] at h1
   exact Option.some.inj h1
  exact PySem.W.ki_setAt ho h0 (by omega) (by rw[List.size_toArray,←hl];exact h4) (by rw[hk];exact⟨_,I',q⟩)
 ·have hk:(k+(its.toArray.size:Int)).toNat=j:=by
   rw[seqIndex_neg (by omega) h3] at h1
   rw[List.size_toArray,←hl]
   exact Option.some.inj h1
  exact PySem.W.ki_setBack ho (by omega) (by rw[List.size_toArray,←hl];exact h3) (by omega) (by rw[hk];exact⟨_,I',q⟩)
theorem call_len_str:CallR X (.builtin "len") (fun xs H Q=>∃z,xs=[.str z]∧z.length≤sizeLine∧Q (.int z.length) H):=by
 intro pins s σ H xs us Q I r h
 obtain⟨z,rfl,hz,q⟩:=h
 obtain⟨u,rfl,t,rfl⟩:=vals1 r
 have hn:=line63
 exact len_str (by omega) ⟨.int z.length,H,I.tok _,⟨_,rfl⟩,q⟩
theorem call_list_of:CallR X (.type "list") (fun xs H Q=>∃p ys,xs=[.ref p]∧(SqL X.K H p ys∨SqT X.K H p ys)∧∀l,H l=none→Q (.ref l) (upd H l (.lst ys))):=by
 intro pins s σ H xs us Q I r h
 obtain⟨p,ys,rfl,hq,q⟩:=h
 obtain⟨u,rfl,rx⟩:=vals1 r
 cases rx
 have fin:∀(its:List Value),Vals ys its→ys.length≤sizeLine→∀(h':Heap) (c':Nat),(∀b o',s.heap.get? b=some o'→h'.get? b=some o')→
   h'.get? s.heap.objs.size=some {cls:=.type "list",dict:=none,data:=.seq its.toArray c',slots:= #[]}→EP X pins σ Q (.ref s.heap.objs.size) {s with heap:=h'}:=fun its r' hz h' c' kp e=>
  ⟨.ref s.heap.objs.size,_,I.laid (t':=s.toks) kp (Nat.le_refl _) (show ObjOk X.prog X.w _ h' _ (.lst ys) from⟨hz,its,c',r',e⟩),rfl,q _ (I.hok.fresh (Nat.le_refl _))⟩
 rcases hq with hq|hq
 ·obtain⟨its,r',pl,hz⟩:=I.list hq
  have hlen:=r'.length
  obtain⟨o,ho,hc,n,hd⟩:=pl.isList
  exact call_list_seq p (.inl rfl) ho hc hd (fun h' c' kp e=>fin its r' hz h' c' kp e) (by simp only[List.size_toArray]<;>omega)
 ·obtain⟨its,r',pl,hz⟩:=I.tuple hq
  have hlen:=r'.length
  obtain⟨o,ho,hc,n,hd⟩:=pl
  exact call_list_seq p (.inr rfl) ho hc hd (fun h' c' kp e=>fin its r' hz h' c' kp e) (by simp only[List.size_toArray]<;>omega)
theorem call_tuple_of:CallR X (.type "tuple") (fun xs H Q=>∃p ys,xs=[.ref p]∧((SqL X.K H p ys∧∀l,H l=none→Q (.ref l) (upd H l (.tup ys)))∨(SqT X.K H p ys∧Q (.ref p) H))):=by
 intro pins s σ H xs us Q I r h
 obtain⟨p,ys,rfl,h⟩:=h
 obtain⟨u,rfl,rx⟩:=vals1 r
 cases rx
 rcases h with ⟨hq,q⟩|⟨hq,q⟩
 ·obtain⟨its,r',pl,hz⟩:=I.list hq
  have hlen:=r'.length
  refine call_tuple_list pl.isList (fun h' kp=>?_) (by simp only[List.size_toArray]<;>omega)
  have I1:Inv X pins σ H {s with heap:=h'}:=I.kept (t':=s.toks) kp
  have I2:Inv X pins σ (upd H h'.objs.size (.tup ys)) {s with heap:=h'.push {cls:=.type "tuple",data:=.seq its.toArray}}:=
   I1.laid (t':=s.toks) (fun b o e=>Heap.get?_push_of_some _ e) (Nat.le_refl _) (show ObjOk X.prog X.w _ _ _ (.tup ys) from⟨hz,its,r',IsTup.new _ _⟩)
  exact⟨.ref h'.objs.size,_,I2,rfl,q _ (I1.hok.fresh (Nat.le_refl _))⟩
 ·obtain⟨its,r',pl,hz⟩:=I.tuple hq
  exact call_tuple_same pl ⟨.ref p,H,I,rfl,q⟩
def tyV (K:PySem.W.Frag) (T:String) (x:V) (H:Hp):Prop:=match x with
 | .str _=>T= "str"
 | .int _=>T= "int"
 | .ref p=>(T= "list" ∧∃xs,SqL K H p xs)∨(T= "tuple" ∧∃o,K.lookup p=some o∧o.cls=.type "tuple" ∧o.dict=none)∨
   (T= "dict" ∧((∃kvs,H p=some (.dK kvs))∨∃kvs,H p=some (.dT kvs)))∨(T= "set" ∧∃S n,H p=some (.set S n))
 |_=>False
theorem tyV_is {pins:List (Addr×Obj)}{σ:St}{H:Hp}{s:Shared}{T:String}{x:V}{v:Value}(I:Inv X pins σ H s)(r:RelV x v)(ty:tyV X.K T x H):
  s.TypeIs v T∧∀a,v=.ref a→∃ob,s.heap.get? a=some ob∧ob.dict=none:=by
 cases x with
 |str z=>
  obtain⟨t,rfl⟩:=r
  cases(show T= "str" from ty)
  exact⟨typeIs_str s z t,fun _ e=>nomatch e⟩
 |int i=>
  obtain⟨t,rfl⟩:=r
  cases(show T= "int" from ty)
  exact⟨typeIs_int s i t,fun _ e=>nomatch e⟩
 |ref p=>
  cases r
  rcases ty with ⟨rfl,xs,hq⟩|⟨rfl,o,hk,hc,hd⟩|⟨rfl,hk⟩|⟨rfl,S,n,hk⟩
  ·obtain⟨its,_,pl,_⟩:=I.list hq
   refine⟨pl.isList.typeIs,fun a e=>?_⟩
   cases e
   obtain⟨o,n,e,c,hd,_⟩:=pl
   exact⟨o,e,hd⟩
  ·refine⟨⟨o,I.kIn p o hk,hc⟩,fun a e=>?_⟩
   cases e
   exact⟨o,I.kIn _ o hk,hd⟩
  ·have z:∃o,s.heap.get? p=some o∧o.ExactDict:=by
    rcases hk with ⟨kvs,hk⟩|⟨kvs,hk⟩
    ·obtain⟨_,_,_,_,o,_,_,e,ex,_⟩:=I.hok p _ hk
     exact⟨o,e,ex⟩
    ·obtain⟨_,_,_,_,o,_,_,e,ex,_⟩:=I.hok p _ hk
     exact⟨o,e,ex⟩
   obtain⟨o,e,ex⟩:=z
   refine⟨⟨o,e,ex.1⟩,fun a e2=>?_⟩
   cases e2
   exact⟨o,e,ex.2.1⟩
  ·obtain⟨o,_,_,_,e,ex,_⟩:=I.hok p _ hk
   refine⟨⟨o,e,ex.1⟩,fun a e2=>?_⟩
   cases e2
   exact⟨o,e,ex.2.1⟩
 |_=>exact False.elim ty
def tBM (K:PySem.W.Frag) (T:String) (r:V→List V→Hp→VK→Prop) (to:TE) (t:TA):TE:=fun σ H Q=>to σ H fun x H1=>tyV K T x H1∧t σ H1 fun xs H2=>r x xs H2 Q
variable {o e:Expr} {es:List Expr} {to:TE} {t:TA} {name:Str} {apos cpos:Pos} {T id:String} {r:V→List V→Hp→VK→Prop}
theorem pe_bm (pa:PlainAttrs T)(slot:Slot T name id)(hty:typeOf (.builtin id)=pure (.type "method_descriptor"))(hm:MtR X id r)(ho:PE X o to)(ha:PA X (e::es) t)
  (hbase:attributeBase o name X.env (eval o X.env)=eval o X.env:=by rfl)
  (hfew:((backTo cpos (starEach (e::es) X.env)).all (fun x=>!x.1)&&(backToKw cpos (keywordEach [] X.env)).all (fun x=>x.1.isSome)
   &&decide ((e::es).length+([]:List Keyword).length+(if ([]:List Keyword).isEmpty then 0 else 1)<30))=true:=by rfl)
  (hline:(apos.endLine==cpos.line)=true:=by rfl) (hs:starEach (e::es) X.env=(false,eval e X.env)::starEach es X.env:=by rfl) (hplain:(backTo cpos (starEach es X.env)).any (·.1)=false:=by rfl):
  PE X (.Call (.Attribute o name apos) (e::es) [] cpos) (tBM X.K T r to t):=by
 intro pins s σ H Q I h
 refine wpAny_Call_method_late hbase hfew hline rfl (thn (ho pins s σ H _ I h) fun v s1 ⟨x,H1,I1,r1,ty,q1⟩=>?_)
 obtain⟨h1,h2⟩:=tyV_is I1 r1 ty
 refine⟨T,id,pa,slot,hty,h1,h2,?_⟩
 have hA:=ha cpos pins s1 σ H1 _ I1 q1
 rw[hs] at hA⊢
 refine Calls.callWith_builtin (by show(false||(backTo cpos (starEach es X.env)).any (·.1))=false;rw[hplain]<;>rfl) (Calls.evalArgs_plain ?_)
 exact thn hA fun us s2 ⟨vs,H2,I2,r2,q2⟩=>hm pins s2 σ H2 x vs v us Q I2 r1 r2 q2
end
def MtM (X:Cx) (id:String) (r:V→List V→Hp→VK→Prop):Prop:=
 ∀(pins:List (Addr×Obj)) (s:Shared) (σ:St) (H:Hp) (x:V) (xs:List V) (v:Value) (us:List Value) (Q:VK),Inv X pins σ H s→RelV x v→Vals xs us→r x xs H Q→
  wpAny (model X.prog X.w) X.A (call (.builtin id) (v::us)) (EP X pins σ Q) X.xe s
theorem Vals.one:∀{x:V} {us:List Value},Vals [x] us→∃u,us=[u]∧RelV x u
 |_,_,.cons r .nil=>⟨_,rfl,r⟩
section
variable {X:Cx} {pins:List (Addr×Obj)} {σ:St} {H:Hp} {s:Shared} {l b:Addr} {xs ys zs:List V}
theorem Inv.lset {its its':List Value}{n:Nat}{f:Array Value→Array Value}{t':Nat}(I:Inv X pins σ H s)(hH:H l=some (.lst xs))
  (e:s.heap.get? l=some {cls:=.type "list",data:=.seq its.toArray n}) (hf:f its.toArray=its'.toArray) (hv:Vals ys its') (hz:ys.length≤sizeLine):
  Inv X pins σ (upd H l (.lst ys)) {s with heap:=s.heap.update l (Obj.mapSeq f),toks:=t'}:=by
 have q:=PySem.IsL.update e f
 rw[hf] at q
 refine I.write (x:=l) (e:=l) (by rw[hH];exact trivial) (.inl rfl) (fun b' u hb hu=>(Heap.get?_update_other s.heap (Obj.mapSeq f) (Ne.symm hb)).trans hu) ⟨_,q⟩ ?_
 exact⟨hz,its',_,hv,q⟩
theorem Inv.lnew {its:List Value}{t':Nat}(I:Inv X pins σ H s)(hv:Vals ys its)(hz:ys.length≤sizeLine):
  Inv X pins σ (upd H s.heap.objs.size (.lst ys)) {s with heap:=s.heap.push {cls:=.type "list",data:=.seq its.toArray},toks:=t'}:=
 I.laid (fun _ _ q=>Heap.get?_push_of_some _ q) (Nat.le_refl _) ⟨hz,its,0,hv,Heap.get?_push_size _ rfl⟩
theorem Inv.fresh (I:Inv X pins σ H s):H s.heap.objs.size=none:=I.hok.fresh (Nat.le_refl _)
theorem Inv.lstM (I:Inv X pins σ H s)(hH:H l=some (.lst xs)):xs.length≤sizeLine∧∃(its:List Value) (n:Nat),Vals xs its∧xs.length=its.length∧s.heap.get? l=some {cls:=.type "list",data:=.seq its.toArray n}:=by
 obtain⟨z,its,n,r,e⟩:=I.hok l _ hH
 exact⟨z,its,n,r,r.length,e⟩
theorem notLongL {n:Nat}(h:n≤sizeLine):Builtin.List.listTooLong n=false:=by
 unfold Builtin.List.listTooLong
 exact decide_eq_false (by omega)
end
section
variable {X:Cx}
def rAppend:V→List V→Hp→VK→Prop:=fun x vs H Q=>∃l xs y,x=.ref l∧vs=[y]∧H l=some (.lst xs)∧xs.length<sizeLine∧Q .non (upd H l (.lst (xs++[y])))
theorem mt_append:MtM X "list.append" rAppend:=by
 intro pins s σ H x vs v us Q I rx rv h
 obtain⟨l,xs,y,rfl,rfl,hH,hz,q⟩:=h
 cases rx
 obtain⟨u,rfl,ru⟩:=rv.one
 obtain⟨z,its,n,r,hl,e⟩:=I.lstM hH
 refine call_meets F.slot_list_append ⟨_,e,rfl⟩ F.entry_list_append (F.args_list_append_2 _ _) (PySem.list_append l its.toArray n u (by rw[List.size_toArray];omega)) ⟨e,?_⟩
 refine⟨.non,_,I.lset (its':=its++[u]) hH e (by simp) (r.append (.cons ru .nil)) ?_,rfl,q⟩
 rw[List.length_append,List.length_singleton]
 omega
def rExtend:V→List V→Hp→VK→Prop:=fun x vs H Q=>∃l b xs zs,x=.ref l∧vs=[.ref b]∧H l=some (.lst xs)∧H b=some (.lst zs)∧xs.length+zs.length≤sizeLine∧Q .non (upd H l (.lst (xs++zs)))
theorem mt_extend:MtM X "list.extend" rExtend:=by
 intro pins s σ H x vs v us Q I rx rv h
 obtain⟨l,b,xs,zs,rfl,rfl,hH,hB,hz,q⟩:=h
 cases rx
 obtain⟨u,rfl,ru⟩:=rv.one
 cases ru
 obtain⟨z,its,n,r,hl,e⟩:=I.lstM hH
 obtain⟨z2,its2,n2,r2,hl2,e2⟩:=I.lstM hB
 have hsz:its.toArray.size+its2.toArray.size≤sizeLine:=by rw[List.size_toArray,List.size_toArray];omega
 have hlong:¬(!its.toArray.isEmpty&&Builtin.List.listTooLong (its.toArray.size+its2.toArray.size))=true:=by
  rw[notLongL hsz,Bool.and_false]
  exact Bool.false_ne_true
 refine call_meets F.slot_list_extend ⟨_,e,rfl⟩ F.entry_list_extend (F.args_list_extend_2 _ _)
  (AutoSeq1.list_extend_list_list_0 l its.toArray n b its2.toArray n2 hlong (by rw[List.size_toArray];omega) (by omega)) ⟨e,e2,?_⟩
 refine⟨.non,_,I.lset (its':=its++its2) hH e (by simp) (r.append r2) ?_,rfl,q⟩
 rw[List.length_append]
 omega
def rCat:R2:=fun x y H Q=>∃l b xs zs,x=.ref l∧y=.ref b∧H l=some (.lst xs)∧H b=some (.lst zs)∧xs.length+zs.length≤sizeLine∧∀p,H p=none→Q (.ref p) (upd H p (.lst (xs++zs)))
theorem op_cat:OpR X (binaryOp .Add) rCat:=by
 intro pins s σ H x y v u Q I rx ry h
 obtain⟨l,b,xs,zs,rfl,rfl,hH,hB,hz,q⟩:=h
 cases rx
 cases ry
 obtain⟨z,its,n,r,hl,e⟩:=I.lstM hH
 obtain⟨z2,its2,n2,r2,hl2,e2⟩:=I.lstM hB
 refine PySem.P.add_list e e2 ?_ (by rw[List.size_toArray,List.size_toArray];omega)
 have ea:its.toArray++its2.toArray=(its++its2).toArray:=by simp
 rw[ea]
 exact⟨.ref _,_,I.lnew (t':=s.toks) (r.append r2) (by rw[List.length_append];omega),rfl,q _ I.fresh⟩
end
section
variable {prog:Program} {w:World} {A:Around} {E:Value→Shared→Prop} {s:Shared}
end
section
variable {X:Cx}
end
section
variable {κ:Type} [DecidableEq κ]
noncomputable def valV (kvs:List (κ×V)) (k:κ):Option V:=(kvs.find? fun kv=>decide (kv.1=k)).map (·.2)
noncomputable def putK (kvs:List (κ×V)) (k:κ) (v:V):List (κ×V):=
 if (kvs.any fun kv=>decide (kv.1=k))=true then kvs.map (fun kv=>if kv.1=k then (kv.1,v) else kv) else kvs++[(k,v)]
theorem valV_nil {k:κ}:valV ([]:List (κ×V)) k=none:=rfl
theorem valV_pos {p:κ×V}{r:List (κ×V)}{k:κ}(e:p.1=k):valV (p::r) k=some p.2:=by simp[valV,List.find?_cons,e]
theorem valV_neg {p:κ×V}{r:List (κ×V)}{k:κ}(e:¬p.1=k):valV (p::r) k=valV r k:=by simp[valV,List.find?_cons,e]
theorem valV_any (k:κ):∀kvs:List (κ×V),(kvs.any fun kv=>decide (kv.1=k))=(valV kvs k).isSome
 |[]=>rfl
 |p::r=>by
  rw[List.any_cons]
  by_cases e:p.1=k
  ·simp only[valV_pos e,decide_eq_true e,Bool.true_or,Option.isSome_some]
  ·rw[valV_neg e,decide_eq_false e,Bool.false_or];exact valV_any k r
theorem valV_map (k j:κ)(y:V):∀kvs:List (κ×V),valV (kvs.map fun kv=>if kv.1=k then (kv.1,y) else kv) j=(valV kvs j).map fun x=>if j=k then y else x
 |[]=>rfl
 |p::r=>by
  have ih:=valV_map k j y r
  rw[List.map_cons]
  by_cases h:p.1=k
  ·rw[if_pos h]
   by_cases e:p.1=j
   ·rw[valV_pos (p:=(p.1,y)) e,valV_pos e,Option.map_some,if_pos (e.symm.trans h)]
   ·rw[valV_neg (p:=(p.1,y)) e,valV_neg e,ih]
  ·rw[if_neg h]
   by_cases e:p.1=j
   ·rw[valV_pos (p:=p) e,valV_pos e,Option.map_some,if_neg (fun z=>h (e.trans z))]
   ·rw[valV_neg (p:=p) e,valV_neg e,ih]
theorem valV_snoc (k j:κ)(y:V):∀kvs:List (κ×V),valV kvs k=none→valV (kvs++[(k,y)]) j=if j=k then some y else valV kvs j
 |[],_=>by
  by_cases e:k=j
  ·rw[if_pos e.symm];exact valV_pos (p:=(k,y)) e
  ·rw[if_neg (fun z=>e z.symm)];exact valV_neg (p:=(k,y)) e
 |p::r,hn=>by
  rw[List.cons_append]
  have hk:¬p.1=k:=fun z=>by rw[valV_pos z] at hn;cases hn
  rw[valV_neg hk] at hn
  have ih:=valV_snoc k j y r hn
  by_cases e:p.1=j
  ·rw[valV_pos e,valV_pos e,if_neg (fun z=>hk (e.trans z))]
  ·rw[valV_neg e,valV_neg e,ih]
theorem valV_put (kvs:List (κ×V))(k j:κ)(y:V):valV (putK kvs k y) j=if j=k then some y else valV kvs j:=by
 unfold putK
 by_cases a:(kvs.any fun kv=>decide (kv.1=k))=true
 ·rw[if_pos a,valV_map]
  rw[valV_any] at a
  by_cases e:j=k
  ·obtain⟨x,hx⟩:=Option.isSome_iff_exists.mp a
   rw[if_pos e,e,hx,Option.map_some,if_pos rfl]
  ·rw[if_neg e]
   cases valV kvs j with
   |none=>rfl
   |some x=>rw[Option.map_some,if_neg e]
 ·rw[if_neg a]
  refine valV_snoc k j y kvs ?_
  rw[valV_any] at a
  cases q:valV kvs k with
  |none=>rfl
  |some x=>rw[q] at a;exact(a rfl).elim
theorem length_putK (kvs:List (κ×V))(k:κ)(v:V):(putK kvs k v).length≤kvs.length+1:=by
 unfold putK
 split
 ·rw[List.length_map];omega
 ·rw[List.length_append,List.length_cons,List.length_nil];omega
theorem putK_new {kvs:List (κ×V)}{k:κ}(v:V)(h:valV kvs k=none):putK kvs k v=kvs++[(k,v)]:=by
 unfold putK
 rw[valV_any,h]
 exact if_neg (by decide)
theorem RelO.isSome_eq {o:Option V}{u:Option Value}(r:RelO o u):o.isSome=u.isSome:=by
 cases o with
 |none=>cases u with
  |none=>rfl
  |some _=>exact(show False from r).elim
 |some _=>cases u with
  |none=>exact(show False from r).elim
  |some _=>rfl
theorem KV.val {kvs:List (κ×V)}{vs:List (κ×Value)}(r:KV kvs vs)(k:κ):RelO (valV kvs k) (valueAt vs k):=by
 unfold KV at r
 induction r with
 |nil=>exact True.intro
 | @cons p q ps qs h t ih=>
  obtain⟨h1,h2⟩:=h
  by_cases e:p.1=k
  ·have e':q.1=k:=h1.symm.trans e
   have b:valueAt (q::qs) k=some q.2:=by simp[valueAt,List.find?_cons,e']
   rw[valV_pos e,b];exact h2
  ·have e':¬q.1=k:=fun z=>e (h1.trans z)
   have b:valueAt (q::qs) k=valueAt qs k:=by simp[valueAt,List.find?_cons,e']
   rw[valV_neg e,b];exact ih
theorem KV.any {kvs:List (κ×V)}{vs:List (κ×Value)}(r:KV kvs vs)(k:κ):(kvs.any fun kv=>decide (kv.1=k))=vs.any fun kv=>decide (kv.1=k):=by
 unfold KV at r
 induction r with
 |nil=>rfl
 |cons h t ih=>rw[List.any_cons,List.any_cons,ih,h.1]
theorem KV.repl {kvs:List (κ×V)}{vs:List (κ×Value)}(r:KV kvs vs)(k:κ){y:V}{u:Value}(ry:RelV y u):
  KV (kvs.map fun kv=>if kv.1=k then (kv.1,y) else kv) (vs.map fun kv=>if kv.1=k then (kv.1,u) else kv):=by
 unfold KV at r⊢
 induction r with
 |nil=>exact .nil
 | @cons p q ps qs h t ih=>
  rw[List.map_cons,List.map_cons]
  refine .cons ?_ ih
  obtain⟨h1,h2⟩:=h
  by_cases e:p.1=k
  ·rw[if_pos e,if_pos (h1.symm.trans e)];exact⟨h1,ry⟩
  ·rw[if_neg e,if_neg (fun z=>e (h1.trans z))];exact⟨h1,h2⟩
theorem KV.put {kvs:List (κ×V)}{vs:List (κ×Value)}(r:KV kvs vs)(k:κ){y:V}{u:Value}(ry:RelV y u):KV (putK kvs k y) (stored vs k u):=by
 unfold putK stored
 rw[r.any k]
 by_cases e:(vs.any fun kv=>decide (kv.1=k))=true
 ·rw[if_pos e,if_pos e];exact r.repl k ry
 ·rw[if_neg e,if_neg e];exact Paired.snoc r ⟨rfl,ry⟩
theorem KV.length {kvs:List (κ×V)}{vs:List (κ×Value)}(r:KV kvs vs):kvs.length=vs.length:=Paired.length r
end
theorem kV_is {P:Program}{w:World}{k:Key}{u:Value}(r:RelV (kV k) u):(mixKind P w).is k u=true:=by
 cases k with
 |inl i=>obtain⟨t,e⟩:=(show∃t,u=Value.int i t from r);subst e;exact mixKind_int P w i t
 |inr x=>obtain⟨t,e⟩:=(show∃t,u=Value.str x t from r);subst e;exact mixKind_str P w x t
theorem items_are {P:Program}{w:World}:∀{ks:List Key} {us:List Value},Vals (ks.map kV) us→ItemsAre (mixKind P w) ks us
 |[],_,r=>by rw[List.map_nil] at r;cases r;exact .nil
 |k::ks,_,r=>by
  rw[List.map_cons] at r
  cases r with
  |cons h t=>exact .cons (kV_is h) (items_are t)
abbrev KT (H:Hp):List (List Key×V)→List (List Key×Addr×Value)→Prop:=Paired fun p q=>p.1=q.1∧H q.2.1=some (.tup (p.1.map kV))∧RelV p.2 q.2.2
theorem KT.val {H:Hp}{kvs:List (List Key×V)}{xs:List (List Key×Addr×Value)}(r:KT H kvs xs)(k:List Key):RelO (valV kvs k) ((atKey xs k).map (·.2)):=by
 induction r with
 |nil=>exact True.intro
 | @cons p q ps qs h t ih=>
  obtain⟨h1,_,h2⟩:=h
  by_cases e:p.1=k
  ·have e':q.1=k:=h1.symm.trans e
   have b:atKey (q::qs) k=some q.2:=by simp[atKey,List.find?_cons,e']
   rw[valV_pos e,b];exact h2
  ·have e':¬q.1=k:=fun z=>e (h1.trans z)
   have b:atKey (q::qs) k=atKey qs k:=by simp[atKey,List.find?_cons,e']
   rw[valV_neg e,b];exact ih
theorem KT.repl {H:Hp}{kvs:List (List Key×V)}{xs:List (List Key×Addr×Value)}(r:KT H kvs xs)(k:List Key){y:V}{u:Value}(ry:RelV y u):
  KT H (kvs.map fun kv=>if kv.1=k then (kv.1,y) else kv) (xs.map (putAt k u)):=by
 induction r with
 |nil=>exact .nil
 | @cons p q ps qs h t ih=>
  rw[List.map_cons,List.map_cons]
  refine .cons ?_ ih
  obtain⟨h1,h2,h3⟩:=h
  unfold putAt
  by_cases e:p.1=k
  ·rw[if_pos e,if_pos (h1.symm.trans e)];exact⟨h1,h2,ry⟩
  ·rw[if_neg e,if_neg (fun z=>e (h1.trans z))];exact⟨h1,h2,h3⟩
theorem KT.put {H:Hp}{kvs:List (List Key×V)}{xs:List (List Key×Addr×Value)}(r:KT H kvs xs)(k:List Key){b:Addr}{y:V}{u:Value}(hb:H b=some (.tup (k.map kV)))(ry:RelV y u):
  KT H (putK kvs k y) (storedH xs k b u):=by
 have e:(kvs.any fun kv=>decide (kv.1=k))=(atKey xs k).isSome:=by
  rw[valV_any,(r.val k).isSome_eq,Option.isSome_map]
 unfold putK storedH
 rw[e]
 by_cases q:(atKey xs k).isSome=true
 ·rw[if_pos q,if_pos q];exact r.repl k ry
 ·rw[if_neg q,if_neg q];exact Paired.snoc r ⟨rfl,hb,ry⟩
theorem KT.keeps {H H':Hp}{kvs:List (List Key×V)}{xs:List (List Key×Addr×Value)}(r:KT H kvs xs)(ht:∀b ys,H b=some (.tup ys)→H' b=some (.tup ys)):KT H' kvs xs:=
 Paired.mapP r fun _ _ z=>⟨z.1,ht _ _ z.2.1,z.2.2⟩
section
variable {P:Program} {w:World} {H:Hp} {h:Heap} {a:Addr}
theorem rd_of {u:HO}(ok:HOk P w H h)(e:Rd H a u):ObjOk P w H h a u:=e.ok ok
theorem dk_rd {kvs:List (Key×V)}(ok:HOk P w H h)(e:Rd H a (.dK kvs)):kvs.length≤sizeLine∧(a==sysModules)=false∧∃vs,KV kvs vs∧h.DictOf (mixKind P w) a vs:=
 show ObjOk P w H h a (.dK kvs) from rd_of ok e
theorem dk_of {kvs:List (Key×V)}(ok:HOk P w H h)(e:H a=some (.dK kvs)):kvs.length≤sizeLine∧(a==sysModules)=false∧∃vs,KV kvs vs∧h.DictOf (mixKind P w) a vs:=dk_rd ok (.inl e)
theorem key_of {ks:List Key}(ok:HOk P w H h)(e:H a=some (.tup (ks.map kV))):(tupleKind (mixKind P w)).is h ks a:=by
 obtain⟨_,its,r,o,h1,h2,n,h3⟩:=(show ObjOk P w H h a (.tup (ks.map kV)) from ok a _ e)
 exact⟨o,its.toArray,n,h1,h2,h3,by simpa using items_are r⟩
theorem dt_rd {kvs:List (List Key×V)}(ok:HOk P w H h)(e:Rd H a (.dT kvs)):kvs.length≤sizeLine∧(a==sysModules)=false∧
  ∃xs,KT H kvs xs∧h.DictOfH (tupleKind (mixKind P w)) a xs:=by
 obtain⟨z,y,xs,r,o,es,ep,h1,h2,h3,h4,h5⟩:=(show ObjOk P w H h a (.dT kvs) from rd_of ok e)
 refine⟨z,y,xs,r,o,es,ep,h1,h2,h3,h4,fun x hx=>?_,h5⟩
 have all:∀{l:List (List Key×V)} {m:List (List Key×Addr×Value)},KT H l m→∀x∈m,(tupleKind (mixKind P w)).is h x.1 x.2.1:=by
  intro l m q
  induction q with
  |nil=>intro x hx;exact nomatch hx
  | @cons p q ps qs hq t ih=>
   intro x hx
   rcases List.mem_cons.mp hx with e|hx
   ·subst e
    exact key_of ok (by rw[←hq.1];exact hq.2.1)
   ·exact ih x hx
 exact all r x hx
theorem dt_of {kvs:List (List Key×V)}(ok:HOk P w H h)(e:H a=some (.dT kvs)):kvs.length≤sizeLine∧(a==sysModules)=false∧
  ∃xs,KT H kvs xs∧h.DictOfH (tupleKind (mixKind P w)) a xs:=dt_rd ok (.inl e)
end
def DGet (H:Hp) (a:Addr) (y:V) (r:Option V):Prop:=
 (∃kvs k,Rd H a (.dK kvs)∧y=kV k∧r=valV kvs k)∨∃kvs k b,Rd H a (.dT kvs)∧y=.ref b∧H b=some (.tup (k.map kV))∧r=valV kvs k
def DPut (H:Hp) (a:Addr) (y v:V) (H':Hp):Prop:=
 (∃kvs k,H a=some (.dK kvs)∧y=kV k∧kvs.length<sizeLine∧H'=upd H a (.dK (putK kvs k v)))∨
 ∃kvs k b,H a=some (.dT kvs)∧y=.ref b∧H b=some (.tup (k.map kV))∧kvs.length<sizeLine∧H'=upd H a (.dT (putK kvs k v))
theorem DGet.t {H:Hp}{a b:Addr}{kvs:List (List Key×V)}{k:List Key}(e:H a=some (.dT kvs))(eb:H b=some (.tup (k.map kV))):DGet H a (.ref b) (valV kvs k):=.inr ⟨kvs,k,b,.inl e,rfl,eb,rfl⟩
theorem DPut.t {H:Hp}{a b:Addr}{kvs:List (List Key×V)}{k:List Key}{v:V}(e:H a=some (.dT kvs))(eb:H b=some (.tup (k.map kV)))(hl:kvs.length<sizeLine):
  DPut H a (.ref b) v (upd H a (.dT (putK kvs k v))):=.inr ⟨kvs,k,b,e,rfl,eb,hl,rfl⟩
section
variable {X:Cx} {pins:List (Addr×Obj)} {σ:St} {H:Hp} {s:Shared} {a:Addr} {y v:V} {u r:Value} {o:Option V} {A:Around} {E:Value→Shared→Prop}
theorem Inv.big (I:Inv X pins σ H s):sysModules<s.heap.objs.size:=by
 have h:mainGlobals<s.heap.objs.size:=(I.mod.glob.keeps I.bk).lt
 exact Nat.lt_trans (by decide) h
theorem d_getItem {Q:Value→Shared→Prop}(hu:A.units+1<cLine)(I:Inv X pins σ H s)(g:DGet H a y (some v))(ry:RelV y u)(h:∀w' s',Inv X pins σ H s'→RelV v w'→Q w' s'):
  wpAny (model X.prog X.w) A (getItem (.ref a) u) Q E s:=by
 rcases g with ⟨kvs,k,e,ey,l⟩|⟨kvs,k,b,e,ey,eb,l⟩
 ·subst ey
  obtain⟨z,hd,vs,rel,dd⟩:=dk_rd I.hok e
  obtain⟨w',hw,rw'⟩:=RelO.some_of (v:=v) (o:=valueAt vs k) (by rw[l];exact rel.val k)
  exact wpAny_getItem_of (kV_is ry) dd.mapOf hw (h w' _ (I.tok _) rw')
 ·subst ey
  cases(show u=Value.ref b from ry)
  obtain⟨z,hd,xs,rel,dd⟩:=dt_rd I.hok e
  obtain⟨w',hw,rw'⟩:=RelO.some_of (v:=v) (o:=(atKey xs k).map (·.2)) (by rw[l];exact rel.val k)
  obtain⟨p,hp,hp2⟩:=Option.map_eq_some_iff.mp hw
  refine wpAny_getItem_heap (tupleKind_room_in1 hu) (key_of I.hok eb) dd hp ?_
  rw[hp2]
  exact h w' _ (I.tok _) rw'
theorem d_in {Q:Value→Shared→Prop}(hu:A.units+1<cLine)(I:Inv X pins σ H s)(g:DGet H a y o)(ry:RelV y u)(h:∀s',Inv X pins σ H s'→Q (.bool o.isSome) s'):
  wpAny (model X.prog X.w) A (compareOp .In u (.ref a)) Q E s:=by
 rcases g with ⟨kvs,k,e,ey,l⟩|⟨kvs,k,b,e,ey,eb,l⟩
 ·subst ey
  obtain⟨z,hd,vs,rel,dd⟩:=dk_rd I.hok e
  refine wpAny_in_of (kV_is ry) hd dd.mapOf ?_
  rw[←(rel.val k).isSome_eq,←l]
  exact h _ (I.tok _)
 ·subst ey
  cases(show u=Value.ref b from ry)
  obtain⟨z,hd,xs,rel,dd⟩:=dt_rd I.hok e
  refine wpAny_in_heap (tupleKind_room_in1 hu) (key_of I.hok eb) hd dd ?_
  have q:=(rel.val k).isSome_eq
  rw[Option.isSome_map] at q
  rw[←q,←l]
  exact h _ (I.tok _)
theorem d_notIn {Q:Value→Shared→Prop}(hu:A.units+1<cLine)(I:Inv X pins σ H s)(g:DGet H a y o)(ry:RelV y u)(h:∀s',Inv X pins σ H s'→Q (.bool (!o.isSome)) s'):
  wpAny (model X.prog X.w) A (compareOp .NotIn u (.ref a)) Q E s:=by
 rcases g with ⟨kvs,k,e,ey,l⟩|⟨kvs,k,b,e,ey,eb,l⟩
 ·subst ey
  obtain⟨z,hd,vs,rel,dd⟩:=dk_rd I.hok e
  refine wpAny_notIn_of (kV_is ry) hd dd.mapOf ?_
  rw[←(rel.val k).isSome_eq,←l]
  exact h _ (I.tok _)
 ·subst ey
  cases(show u=Value.ref b from ry)
  obtain⟨z,hd,xs,rel,dd⟩:=dt_rd I.hok e
  refine wpAny_notIn_heap (tupleKind_room_in1 hu) (key_of I.hok eb) hd dd ?_
  have q:=(rel.val k).isSome_eq
  rw[Option.isSome_map] at q
  rw[←q,←l]
  exact h _ (I.tok _)
theorem d_write {h':Heap}{t':Nat}{ob:HO}(I:Inv X pins σ H s)(mu:Mut (H a))(hs:Heap.SameBut a s.heap h')(he:∃q,h'.get? a=some q)(new:ObjOk X.prog X.w (upd H a ob) h' a ob):
  Inv X pins σ (upd H a ob) {s with heap:=h',toks:=t'}:=
 I.write (x:=a) (e:=a) mu (.inl rfl) (fun b q hb z=>(hs.2 b hb).trans z) he new
theorem dk_new {P:Program}{w:World}{H':Hp}{h':Heap}{kvs:List (Key×V)}{vs:List (Key×Value)}(z:kvs.length≤sizeLine)(hd:(a==sysModules)=false)(rel:KV kvs vs)(dd:h'.DictOf (mixKind P w) a vs):
  ObjOk P w H' h' a (.dK kvs):=⟨z,hd,vs,rel,dd⟩
theorem d_setItem {H':Hp}{Q:Unit→Shared→Prop}(hu:A.units+1<cLine)(I:Inv X pins σ H s)(g:DPut H a y v H')(ry:RelV y u)(rv:RelV v r)(h:∀s',Inv X pins σ H' s'→Q () s'):
  wpAny (model X.prog X.w) A (setItem (.ref a) u r) Q E s:=by
 rcases g with ⟨kvs,k,e,ey,l,eH⟩|⟨kvs,k,b,e,ey,eb,l,eH⟩
 ·subst ey eH
  obtain⟨z,hd,vs,rel,dd⟩:=dk_of I.hok e
  have hz:vs.length≤sizeLine:=by rw[←rel.length];exact z
  have hl:(putK kvs k v).length≤sizeLine:=by have:=length_putK kvs k v;omega
  refine wpAny_setItem_pairs (hsz:=hz) (kV_is ry) dd fun h' dd' hs=>h _ ?_
  have he:∃q,h'.get? a=some q:=let ⟨q,_,_,hq,_⟩:=dd';⟨q,hq⟩
  exact d_write I (by rw[e];exact True.intro) hs he (dk_new hl hd (rel.put k rv) dd')
 ·subst ey eH
  cases(show u=Value.ref b from ry)
  obtain⟨z,hd,xs,rel,dd⟩:=dt_of I.hok e
  have hz:xs.length≤sizeLine:=by rw[←Paired.length rel];exact z
  have hl:(putK kvs k v).length≤sizeLine:=by have:=length_putK kvs k v;omega
  refine wpAny_setItem_heap (hsz:=hz) (tupleKind_room_in1 hu) (key_of I.hok eb) dd fun h' dd' hs=>h _ ?_
  obtain⟨q,es,ep,hq,h2,h3,h4,_,h5⟩:=dd'
  refine d_write I (by rw[e];exact True.intro) hs ⟨q,hq⟩ ⟨hl,hd,_,(rel.put k eb rv).keeps fun c ys ec=>?_,q,es,ep,hq,h2,h3,h4,h5⟩
  rw[upd_ne (ne_of ec e (fun z=>nomatch z))]
  exact ec
end
section
variable {X:Cx} {pins:List (Addr×Obj)} {σ:St} {H:Hp} {s:Shared} {a:Addr} {kvs:List (Key×V)} {k:Key} {u:Value} {A:Around} {E:Value→Shared→Prop}
end
def NoSl (i:Expr):Prop:=∀ov iv,subscripted i false ov iv=operate [ov,iv] (getItem ov iv)
theorem subD_of {prog:Program}{w:World}{A:Around}{E:Value→Shared→Prop}{s:Shared}{env:Env}{value slice:Expr}{pos:Pos}{T id:String}{Q:Value→Shared→Prop}
  (hl:typeLookup (.type T) "__getitem__" =pure (some (.builtin id))) (hs:NoSl slice)
  (h:wpAny (model prog w) A (eval value env) (fun o s₁=>wpAny (model prog w) A (eval slice env) (fun i s₂=>s₂.TypeIs o T∧wpAny (model prog w) A (getItem o i) Q E s₂) E s₁) E s):
  wpAny (model prog w) A (eval (.Subscript value slice pos) env) Q E s:=by
 refine Subscript_ (wpAny_mono h (fun o s₁ h₁=>wpAny_mono h₁ (fun i s₂ h₂=>?_) fun _ _ x=>x) fun _ _ x=>x)
 obtain⟨hT,h₂⟩:=h₂
 unfold subscriptTail
 refine wpAny_bind ?_
 rw[getitemInPython_of_ne hT.not_modules]
 refine wpAny_bind (wpAny_specialOf hT hl ?_)
 have fin:wpAny (model prog w) A (subscripted slice false o i) (fun r s₃=>wpAny (model prog w) A (letTemporaryGo value o r>>=fun _=>pure r) Q E s₃) E s₂:=by
  rw[hs o i]
  exact wpAny_operating (wpAny_mono h₂ (fun r s₃ h₃=>wpAny_bind (wpAny_letTemporaryGo (wpAny_pure h₃))) fun _ _ x=>x)
 first
  |exact wpAny_pure (wpAny_bind fin)
  |exact wpAny_bind (wpAny_pure (wpAny_bind fin))
  |exact wpAny_bind fin
theorem dict_typeIs {X:Cx}{pins:List (Addr×Obj)}{σ:St}{H:Hp}{s:Shared}{a:Addr}{y:V}{o:Option V}(I:Inv X pins σ H s)(g:DGet H a y o):s.TypeIs (.ref a) "dict" :=by
 rcases g with ⟨kvs,k,e,_,_⟩|⟨kvs,k,b,e,_,_,_⟩
 ·obtain⟨_,_,vs,_,dd⟩:=dk_rd I.hok e
  exact dd.typeIs
 ·obtain⟨_,_,xs,_,dd⟩:=dt_rd I.hok e
  exact dd.typeIs
def tDGet (td ty:TE):TE:=fun σ H Q=>td σ H fun x H1=>ty σ H1 fun y H2=>∃a v,x=.ref a∧DGet H2 a y (some v)∧Q v H2
def tDIn (ty td:TE):TE:=fun σ H Q=>ty σ H fun y H1=>td σ H1 fun x H2=>∃a o,x=.ref a∧DGet H2 a y o∧Q (.bl o.isSome) H2
def tDNotIn (ty td:TE):TE:=fun σ H Q=>ty σ H fun y H1=>td σ H1 fun x H2=>∃a o,x=.ref a∧DGet H2 a y o∧Q (.bl (!o.isSome)) H2
def sDPut (td ty tv:TE):TS:=fun D σ H=>tv σ H fun v H1=>td σ H1 fun x H2=>ty σ H2 fun y H3=>∃a H4,x=.ref a∧DPut H3 a y v H4∧D.nx σ H4
section
variable {X:Cx} {o i e value:Expr} {pos pos' tpos:Pos} {td ty tv:TE}
theorem pe_dget (hu:X.A.units+1<cLine)(ho:PE X o td)(hi:PE X i ty)(hs:NoSl i):PE X (.Subscript o i pos) (tDGet td ty):=by
 intro pins s σ H Q I h
 refine subD_of PySem.F.slot_dict_getitem.lookup hs (thn (ho pins s σ H _ I h) fun u s1 ⟨x,H1,I1,rx,q1⟩=>thn (hi pins s1 σ H1 _ I1 q1) fun iv s2 ⟨y,H2,I2,ry,a,v,ex,g,q2⟩=>?_)
 subst ex
 obtain rfl:u=Value.ref a:=rx
 exact⟨dict_typeIs I2 g,d_getItem hu I2 g ry fun w' s3 I3 rw'=>⟨v,H2,I3,rw',q2⟩⟩
theorem pc_din (hu:X.A.units+1<cLine)(hi:PE X i ty)(ho:PE X o td):PC X .In i o (tDIn ty td):=by
 intro pins s σ H Q I h
 refine thn (hi pins s σ H _ I h) fun iv s1 ⟨y,H1,I1,ry,q1⟩=>thn (ho pins s1 σ H1 _ I1 q1) fun u s2 ⟨x,H2,I2,rx,a,ov,ex,g,q2⟩=>?_
 subst ex
 obtain rfl:u=Value.ref a:=rx
 exact d_in hu I2 g ry fun s3 I3=>⟨.bl ov.isSome,H2,I3,rfl,q2⟩
theorem pc_dnotin (hu:X.A.units+1<cLine)(hi:PE X i ty)(ho:PE X o td):PC X .NotIn i o (tDNotIn ty td):=by
 intro pins s σ H Q I h
 refine thn (hi pins s σ H _ I h) fun iv s1 ⟨y,H1,I1,ry,q1⟩=>thn (ho pins s1 σ H1 _ I1 q1) fun u s2 ⟨x,H2,I2,rx,a,ov,ex,g,q2⟩=>?_
 subst ex
 obtain rfl:u=Value.ref a:=rx
 exact d_notIn hu I2 g ry fun s3 I3=>⟨.bl (!ov.isSome),H2,I3,rfl,q2⟩
theorem ps_dput (hu:X.A.units+1<cLine)(ho:PE X o td)(hi:PE X i ty)(hv:PE X value tv)(hs:swapsWith value (some (.Subscript o i pos')) pos.line X.env=pure false):
  PS X (.Assign [.Subscript o i pos'] value pos) (sDPut td ty tv):=by
 intro pins s σ H D I h
 refine wpAny_Assign_Subscript (thn (hv pins s σ H _ I h) fun r s1 ⟨v,H1,I1,rv,q1⟩=>thn (ho pins s1 σ H1 _ I1 q1) fun u s2 ⟨x,H2,I2,rx,q2⟩=>thn (hi pins s2 σ H2 _ I2 q2) fun iv s3 ⟨y,H3,I3,ry,a,H4,ex,g,q3⟩=>?_) hs
 subst ex
 obtain rfl:u=Value.ref a:=rx
 exact d_setItem hu I3 g ry rv fun s4 I4=>⟨σ,H4,I4,q3⟩
end
theorem dt_empty {P:Program}{w:World}{H:Hp}(h:Heap)(hb:sysModules<h.objs.size):ObjOk P w H (h.push {cls:=.type "dict",data:=.dict #[]}) h.objs.size (.dT []):=
 ⟨Nat.zero_le _,beq_eq_false_iff_ne.mpr (Ne.symm (Nat.ne_of_lt hb)),[],.nil,_,#[],0,Heap.get?_push_size _ rfl,⟨rfl,rfl,rfl⟩,rfl,rfl,List.nodup_nil⟩
def tDNewT:TE:=fun _ H Q=>∀p,H p=none→Q (.ref p) (upd H p (.dT []))
section
variable {X:Cx} {pos:Pos}
theorem pe_dnewT:PE X (.Dict [] [] pos) tDNewT:=fun pins s σ H Q I h=>
 wpAny_Dict_empty ⟨.ref s.heap.objs.size,_,I.laid (a:=s.heap.objs.size) (o:=.dT []) (t':=s.toks) (fun _ _ q=>Heap.get?_push_of_some _ q) (Nat.le_refl _) (dt_empty s.heap I.big),rfl,h _ (I.hok.fresh (Nat.le_refl _))⟩
end
section
variable {X:Cx} {pins:List (Addr×Obj)} {σ:St} {H:Hp} {s:Shared} {a:Addr} {y d:V} {u r:Value} {o:Option V} {A:Around} {E:Value→Shared→Prop}
end
section
variable {X:Cx} {o e f:Expr} {apos cpos:Pos} {td ty tx:TE}
end
section
variable {X:Cx} {pins:List (Addr×Obj)} {σ:St} {H:Hp} {s:Shared} {a:Addr} {kvs:List (Key×V)} {A:Around} {E:Value→Shared→Prop}
theorem d_copyOf {Q:Value→Shared→Prop}(I:Inv X pins σ H s)(e:Rd H a (.dK kvs))(h:∀p s',H p=none→Inv X pins σ (upd H p (.dK kvs)) s'→Q (.ref p) s'):wpAny (model X.prog X.w) A (call (.type "dict") [.ref a]) Q E s:=by
 obtain⟨z,hd,vs,rel,dd⟩:=dk_rd I.hok e
 refine kt_call_dict hd dd (by rw[←rel.length];exact z) fun h' dd' hs=>?_
 refine h _ _ (I.hok.fresh (Nat.le_refl _)) (I.laid (a:=s.heap.objs.size) (o:=.dK kvs) (t':=s.toks) (fun b q hq=>?_) (Nat.le_refl _) (dk_new z (beq_eq_false_iff_ne.mpr (Ne.symm (Nat.ne_of_lt I.big))) rel dd'))
 exact(hs.2 b (Nat.ne_of_lt (Heap.lt_size hq))).trans (Heap.get?_push_of_some _ hq)
end
section
variable {X:Cx} {pins:List (Addr×Obj)} {σ:St} {H:Hp} {s:Shared} {a:Addr} {y:V} {u:Value} {A:Around} {E:Value→Shared→Prop}
end
end L2
namespace Att
open PySem PySem.W PySem.Calls PyProof.Rows
theorem ints_of_wellAll {P:Params}{h:Heap}:∀(ns:List Int) (vs:List Value),WellAll P h vs (ns.map WData.int)→IntsAre vs ns:=by
 intro ns
 induction ns with
 |nil=>
  intro vs w
  rw[List.map_nil] at w
  cases w
  exact .nil
 |cons n ns ih=>
  intro vs w
  rw[List.map_cons] at w
  cases w with
  |cons a b=>
   cases a
   exact .cons _ _ (ih _ b)
theorem script_of {l:OpenLaw}{n:Nat}(hn:l.most=some n){P:Params}{h:Heap}{args:List WData}{vals:List Value}
  (hpre:l.row.toRowW.claim.pre args=true) (hwl:WellAll P h vals args):
  ∃a vs ns,vals=[Value.ref a]∧args=[WData.list (ns.map WData.int)]∧h.get? a=some {cls:=.type "list",data:=.seq vs.toArray}∧IntsAre vs ns∧ns.length≤n:=by
 have hsh:WShape.hasAll [] args [.list .int]=true:=(pre_splitW hpre).1
 have hc:l.pre.holds [] {args:=args}=true:=(pre_splitW hpre).2
 obtain⟨d,r,rfl,h1,h2⟩:=hasAllW_cons hsh
 obtain rfl:=hasAllW_nil h2
 obtain⟨xs,rfl,h3⟩:=hasW_list h1
 obtain⟨ns,rfl⟩:=items_int h3
 have hlen:ns.length≤n:=by
  unfold OpenLaw.pre at hc
  have h4:(WTm.not (.lt (.lit (.int (n:Int))) (.len (.arg 0)))).holds [] {args:=[.list (ns.map .int)]}=true:=by
   have h4:=(holds_andW hc).1
   rw[hn] at h4
   exact h4
  have h5:=condW_of h4 (w_not (w_lt w_lit (w_len_list (w_arg rfl))))
  rw[List.length_map] at h5
  refine Nat.le_of_not_lt fun q=>?_
  have q':(n:Int)<((ns.length:Nat):Int):=by omega
  first
   |(rw[decide_eq_true q'] at h5;exact absurd h5 (by decide))
   |(simp at h5;omega)
 cases hwl with
 |cons w1 w2=>
  cases w2
  cases w1 with
  |list ho hall=>exact⟨_,_,ns,rfl,rfl,ho,ints_of_wellAll ns _ hall,hlen⟩
theorem post_true (l:OpenLaw)(args:List WData):l.row.toRowW.claim.post args (.bool true) args=true:=
 postW_of (r:=l.row.toRowW) (X:=(true==true))
  (show WShape.has [] (.bool true) .bool=true by first|rfl|decide|simp[WShape.has,WShape.arms,WShape.armsAll])
  (show(WTm.eq .res (.lit (.bool true))).value [] {args:=args,res:=some (.bool true),after:=args}=some (.bool (true==true)) from w_eq_bool (w_res rfl) w_lit) rfl
theorem attach_call {l:OpenLaw}{n:Nat}{q:Program}{loose:List Str}{XP:(Str→Option Value)→Heap→Prop}{YP:World→Heap→Prop}{d:DefRec}
  (hn:l.most=some n) (hdf:d.params.defaults=[])
  (call:∀(w:World) (s₀ s₁:Shared) (mg mb:Str→Option Value) (fa:Addr) (o:Obj) (pm cd doc:Value) (a:Addr) (vs:List Value) (ns:List Int),
   Ground q loose [] XP w s₀ mg mb s₁.heap→YP w s₁.heap→
   s₁.heap.get? fa=some o→o.data=.func (docDef d.name d.params d.body d.scope pm cd doc)→s₁.heap.CodeRec cd d.name→mg d.name=some (.ref fa)→
   s₁.heap.get? a=some {cls:=.type "list",data:=.seq vs.toArray}→IntsAre vs ns→ns.length≤n→s₁.gens= #[]→
   codeAny (model l.prog w) callerA (.call (.ref fa) ⟨[.ref a],[]⟩) (fun r s'=>r=.ok (.ret (.bool true))∧OldK s₁.heap s'.heap∧s'.os=s₁.os∧AllBare s'.gens) s₁):
  WalkO q loose XP YP l.row.toRowW d [] (fun f vs=>PySem.call f vs):=by
 intro w s₀ s₁ mg mb G Y fa o pm cd doc dV kV ho hd hcd hD hmg hg args vals as hpre hlay hrd hwl hlo
 obtain rfl:dV=.none:=Dflts.none hD hdf
 obtain rfl:kV=.none:=Dflts.noKw hD
 obtain⟨a,vs,ns,rfl,rfl,hobj,hints,hlen⟩:=script_of hn hpre hwl
 refine enter_call (codeAny_mono (call w s₀ s₁ mg mb fa o pm cd doc a vs ns G Y ho (fd_plain hd) hcd hmg hobj hints hlen hg) fun r s' hq=>?_)
 obtain⟨rfl,h2,h3,h4⟩:=hq
 exact⟨.inl ⟨.bool true,.bool true,[],rfl,fun _=>rfl,.bool true,post_true l _,fun _=>⟨List.Pairwise.nil,fun _ hm=>(nomatch hm)⟩⟩,h2,h3,h4⟩
section
variable {prog:Program} {w:World} {A:Around} {E:Value→Shared→Prop} {s:Shared} {K:Frag}
def noObjs (h:Heap):Heap:={h with objs:= #[]}
theorem noObjs_get (h:Heap)(b:Addr):(noObjs h).get? b=none:=by
 cases e:(noObjs h).get? b with
 |none=>rfl
 |some o=>exact absurd (Heap.lt_size e) (Nat.not_lt_zero _)
theorem fr_all {h:Heap}{L:Addr}{m:Str→Option Value}(n:h.Ns L m):Fr (noObjs h) L h m:=
 ⟨n,fun b o e=>(by rw[noObjs_get] at e;cases e),Nat.zero_le _⟩
end
end Att
namespace L2
open PySem PySem.Spec PyProof.Rows
theorem vals_ints:∀{vs:List Value} {ns:List Int},IntsAre vs ns→Vals (ns.map V.int) vs
 |_,_,.nil=> .nil
 |_,_,.cons n t h=> .cons ⟨t,rfl⟩ (vals_ints h)
def Only (H:Hp):Prop:=∀b,H b=none∨∃o xs,H b=some (.frz o (.lst xs))
theorem law_call {P:Program}{w:World}{K:PySem.W.Frag}{mg mb:Str→Option Value}{CX:CXT}{k:Nat}{fa a:Addr}{fd:FuncData}{x:Str}{sp:Sp}{s₁:Shared}{vs:List Value}{ns:List Int}
  (KX:K.In s₁.heap) (hns:s₁.heap.Ns mainGlobals mg) (hb:s₁.heap.Ns builtinsNs mb) (hbb:∀x:Str,x≠ "__name__" →mb x=bootBuiltins x) (hlim:s₁.heap.NoLimit) (hg:s₁.gens= #[])
  (ha:s₁.heap.get? a=some {cls:=.type "list",data:=.seq vs.toArray}) (hi:IntsAre vs ns) (hl:ns.length≤sizeLine) (hr:Room k callerA)
  (F:∀base:Heap,K.In base→base.Ns mainGlobals mg→FnOk P w K mg base CX k fa fd [x] sp) (hbind:∀(s:Shared) (u:Value),BindsTo s fd ⟨[u],[]⟩ [(x,u)])
  (hsp:∀H:Hp,Only H→SqL K H a (ns.map V.int)→sp [.ref a] H (fun v _=>v=.bl true) fun _ _ _=>False)
  (hCX:∀H e s',CX [] H s₁ (fun _ _ _=>False) e s'→False):
  codeAny (model P w) callerA (.call (.ref fa) ⟨[.ref a],[]⟩) (fun r s'=>r=.ok (.ret (.bool true))∧OldK s₁.heap s'.heap∧s'.os=s₁.os∧AllBare s'.gens) s₁:=by
 have rv:=vals_ints hi
 have lenV:=hi.length
 have core:∀H:Hp,Only H→SqL K H a (ns.map V.int)→HOk P w H s₁.heap→(∀b,H b≠none→b=a)→(H a≠none→K.lookup a=none)→
   codeAny (model P w) callerA (.call (.ref fa) ⟨[.ref a],[]⟩) (fun r s'=>r=.ok (.ret (.bool true))∧OldK s₁.heap s'.heap∧s'.os=s₁.os∧AllBare s'.gens) s₁:=by
  intro H hO hS hok hA hK
  have base_of:∀{b:Addr} {o:Obj},s₁.heap.get? b=some o→H b=none→(hidT s₁.heap H).get? b=some o:=fun e n=>hidT_get e n
  have noA:∀{b:Addr} {o:Obj} {es:Array DictEntry} {ep:Nat},s₁.heap.get? b=some o→o.data=.dict es ep→H b=none:=fun{b o es ep} e d=>by
   cases q:H b with
   |none=>rfl
   |some u=>
    have e':b=a:=hA b (by rw[q];simp)
    subst e'
    rw[ha] at e;cases e
    have d':Data.seq vs.toArray _=Data.dict es ep:=d
    cases d'
  have nsK:∀{b:Addr} {m:Str→Option Value},s₁.heap.Ns b m→(hidT s₁.heap H).Ns b m:=fun{b m} ⟨o,es,ep,e,d,r⟩=>⟨o,es,ep,base_of e (noA e d),d,r⟩
  have hKb:K.In (hidT s₁.heap H):=fun b o e=>base_of (KX b o e) (by
   cases q:H b with
   |none=>rfl
   |some u=>
    have e':b=a:=hA b (by rw[q];simp)
    subst e'
    rw[hK (by rw[q];simp)] at e;cases e)
  have hM:Mod K mg (hidT s₁.heap H):=⟨hKb,nsK hns,⟨mb,nsK hb,hbb⟩,let ⟨mc,h1,h2⟩:=hlim;⟨mc,nsK h1,h2⟩⟩
  have e0:Env0 P w K mg (hidT s₁.heap H) callerA [] s₁ H:=⟨rfl,hM,fun b o e=>of_hidT e,Nat.le_of_eq (hidT_size _ _),trivial,fun b hb=>absurd (show b∈([]:List Addr) from hb) (by simp),hok,.of_eq hg⟩
  refine codeAny_mono ((F _ hKb (nsK hns)).run callerA [] s₁ H ⟨[.ref a],[]⟩ [.ref a] [.ref a] _ _ hr e0 (hbind s₁ (.ref a)) (.cons rfl .nil) (hsp H hO hS)) fun r s' h=>?_
  cases r with
  |error e=>exact(hCX H e s' h).elim
  |ok fl=>
   cases fl with
   |next=>exact False.elim h
   |brk=>exact False.elim h
   |cont=>exact False.elim h
   |ret u=>
    obtain⟨v,H',os,bare,un,hok',r',q⟩:=h
    have q':v=.bl true:=q
    subst q'
    obtain rfl:u=Value.bool true:=r'
    refine⟨rfl,OldK.of_keep fun b o e=>?_,os,bare⟩
    cases q:H b with
    |none=>exact un.keep b o e q (by intro z;exact absurd (show b∈([]:List Addr) from z) (by simp)) (by simp)
    |some u=>
     rcases hO b with z|⟨ob,xs,z⟩
     ·rw[q] at z;cases z
     ·have z2:=un.frzs b ob _ z
      obtain⟨e1,_⟩:=hok b _ z
      obtain⟨e2,_⟩:=hok' b _ z2
      rw[e] at e1;cases e1
      exact e2
 cases hk:K.lookup a with
 |some o=>
  have e:=KX a o hk
  rw[ha] at e
  cases e
  refine core (fun _=>none) (fun _=> .inl rfl) (.inr ⟨_,vs.toArray,_,hk,rfl,rfl,rfl,by rw[List.size_toArray,lenV];exact hl,by simpa using rv⟩) (fun b u z=>by have z':(none:Option HO)=some u:=z;cases z') (fun b z=>absurd rfl z) fun z=>absurd rfl z
 |none=>
  refine core (fun b=>if b=a then some (.frz {cls:=.type "list",data:=.seq vs.toArray} (.lst (ns.map V.int))) else none) (fun b=>?_) (.inl (.inr ⟨{cls:=.type "list",data:=.seq vs.toArray},if_pos rfl⟩)) (fun b u z=>?_) (fun b z=>?_) fun _=>hk
  ·by_cases hb:b=a
   ·exact .inr ⟨_,_,if_pos hb⟩
   ·exact .inl (if_neg hb)
  ·by_cases hb:b=a
   ·have z':=(if_pos hb).symm.trans z
    cases z'
    subst hb
    exact⟨ha,by rw[List.length_map];exact hl,vs,_,rv,ha⟩
   ·have z':=(if_neg hb).symm.trans z
    cases z'
  ·by_cases hb:b=a
   ·exact hb
   ·exact absurd (if_neg hb) z
theorem walk_of {l:PySem.W.OpenLaw}{n k:Nat}{q:Program}{loose:List Str}{XP:(Str→Option Value)→Heap→Prop}{YP:World→Heap→Prop}{d:DefRec}{K:Params→PySem.W.Frag}{CX:World→CXT}{sp:World→Sp}{x:Str}
  (hn:l.most=some n) (hn2:n≤sizeLine) (hdf:d.params.defaults=[]) (hr:Room k callerA)
  (hY:∀(w:World) (h:Heap),YP w h→(K w.params).In h)
  (F:∀(w:World) (mg:Str→Option Value) (fa:Addr) (h:Heap),(K w.params).In h→h.Ns mainGlobals mg→mg d.name=some (.ref fa)→
   ∃fd:FuncData,(∀(s:Shared) (u:Value),BindsTo s fd ⟨[u],[]⟩ [(x,u)])∧
    ∀base:Heap,(K w.params).In base→base.Ns mainGlobals mg→FnOk l.prog w (K w.params) mg base (CX w) k fa fd [x] (sp w))
  (hsp:∀(w:World) (H:Hp) (a:Addr) (ns:List Int),ns.length≤n→Only H→SqL (K w.params) H a (ns.map V.int)→sp w [.ref a] H (fun v _=>v=.bl true) fun _ _ _=>False)
  (hCX:∀(w:World) (H:Hp) (s:Shared) (e:Value) (s':Shared),CX w [] H s (fun _ _ _=>False) e s'→False):
  PySem.W.WalkO q loose XP YP l.row.toRowW d [] (fun f vs=>PySem.call f vs):=by
 refine Att.attach_call hn hdf fun w s₀ s₁ mg mb fa o pm cd doc a vs ns G Y ho hd hcd hmg hobj hints hlen hg=>?_
 have KX:=hY w _ Y
 obtain⟨fd,hb,hF⟩:=F w mg fa _ KX G.T.g hmg
 exact law_call KX G.T.g G.T.b G.T.builtins G.T.nolimit hg hobj hints (Nat.le_trans hlen hn2) hr hF hb (fun H hO hS=>hsp w H a ns hlen hO hS) fun H e s'=>hCX w H s₁ e s'
noncomputable def inClass (s:Stmt) (j:Nat):Stmt:=match s with
 | .ClassDef _ _ _ body _ _ _ _ _ _ _=>body.getD j (.Pass ⟨0,0,0,0⟩)
 |_=> .Pass ⟨0,0,0,0⟩
noncomputable def defArgs (s:Stmt):Arguments:=match s with
 | .FunctionDef _ a _ _ _ _ _ _ _ _=>a
 |_=>{posonlyargs:=[],args:=[],vararg:=none,kwonlyargs:=[],kw_defaults:=[],kwarg:=none,defaults:=[]}
noncomputable def defBody (s:Stmt):List Stmt:=match s with
 | .FunctionDef _ _ b _ _ _ _ _ _ _=>b
 |_=>[]
noncomputable def defScope (s:Stmt):Scope:=match s with
 | .FunctionDef _ _ _ _ _ _ sc _ _ _=>sc
 |_=>{kind:=.function,names:=[],isGenerator:=false,isCoroutine:=false}
abbrev CX0:CXT:=fun _ _ _ _ _ _=>False
abbrev E0:XK:=fun _ _ _=>False
theorem pass0 {X:Cx}:Passes CX0 X E0:=fun _ _ _ _ _ _ _ h=>h.elim
structure Fun (K:PySem.W.Frag) (x qual:Str) (st:Stmt) (f:Addr) (fd:FuncData):Prop where
 ex:∃(oc:Value) (od:Option Addr) (kV doc pm:Value) (an:Option Addr) (cdv ct:Value) (osl:Array (Option Value)),
  fd=PySem.W.fnOf x qual (defArgs st) (defBody st) (defScope st) .none kV doc pm an cdv ct∧K.lookup f=some ⟨oc,od,.func fd,osl⟩∧PySem.W.codeIn K cdv qual=true
 kp:PySem.W.keepIn K (.ref f)=true
section
variable {P:Program} {w:World} {K:PySem.W.Frag} {mg:Str→Option Value} {base:Heap}
theorem Fun.ok {x qual:Str}{st:Stmt}{f:Addr}{fd:FuncData}{N ps:List Str}{k:Nat}{sp:Sp}(F:Fun K x qual st f fd)(S:FnScope N ps (defScope st))(len:∀vs H Q E,sp vs H Q E→vs.length=ps.length)
  (hbody:∀(cdv:Value) (A:Around) (outer:List Env) (s:Shared) (H:Hp) (vs:List V) (Q:VK) (E:XK),Room k (A.deeper (envOfC qual (defScope st) s.heap.objs.size f cdv))→sp vs H Q E→
   ∃t,PSs (cxOf CX0 P w K mg base N qual (defScope st) f cdv A outer s H E).nox (defBody st) t∧t {nx:=fun _ H'=>Q .non H',rt:=Q} (start N vs) H):FnOk P w K mg base CX0 (k+1) f fd ps sp:=by
 obtain⟨oc,od,kV,doc,pm,an,cdv,ct,osl,rfl,lk,hcd⟩:=F.ex
 refine fn_of lk hcd S len fun A outer s H vs Q E hr hsp=>?_
 obtain⟨t,h,q⟩:=hbody cdv A outer s H vs Q E hr hsp
 exact⟨t,h.nox,q⟩
theorem Fun.binds {x qual:Str}{st:Stmt}{f:Addr}{fd:FuncData}{ps:List Str}(F:Fun K x qual st f fd)
  (h:∀(kV doc pm:Value) (an:Option Addr) (cdv ct:Value) (us:List Value),us.length=ps.length→bindArgs (PySem.W.fnOf x qual (defArgs st) (defBody st) (defScope st) .none kV doc pm an cdv ct) ⟨us,[]⟩=pure (ps.zip us)):Binds K fd ps []:=by
 obtain⟨oc,od,kV,doc,pm,an,cdv,ct,osl,rfl,lk,hcd⟩:=F.ex
 exact .all (h kV doc pm an cdv ct)
theorem fun_mk {x qual:Str}{st:Stmt}{f:Addr}{oc:Value}{od an:Option Addr}{osl:Array (Option Value)}{kV doc pm cdv ct:Value}(l:K.lookup f=some ⟨oc,od,.func (PySem.W.fnOf x qual (defArgs st) (defBody st) (defScope st) .none kV doc pm an cdv ct),osl⟩)
  (c:PySem.W.codeIn K cdv qual=true) (k:PySem.W.keepIn K (.ref f)=true):Fun K x qual st f (PySem.W.fnOf x qual (defArgs st) (defBody st) (defScope st) .none kV doc pm an cdv ct):=⟨⟨oc,od,kV,doc,pm,an,cdv,ct,osl,rfl,l,c⟩,k⟩
end
section
variable {X:Cx}
theorem pv (i:Nat){x:Str}{pos:Pos}(hN:X.N[i]?=some x:=by rfl)(hv:Vis X.env.scope x:=by first|exact Or.inl rfl|exact Or.inr (Or.inl rfl)|exact Or.inr (Or.inr rfl))(hd:(x==("__debug__" :Str))=false:=by decide)
  (hcd:(x==("__classdict__" :Str))=false:=by decide):PE X (.Name x pos) (tVar i):=pe_var hN hv hd hcd
end
theorem iteF {A B:Prop}(h:B):if false=true then A else B:=by
 rw[if_neg Bool.false_ne_true]
 exact h
theorem iteT {A B:Prop}(h:A):if true=true then A else B:=by
 rw[if_pos rfl]
 exact h
def Same (H H':Hp):Prop:=∀b o,H b=some o→H' b=some o
theorem Same.refl (H:Hp):Same H H:=fun _ _ h=>h
theorem Same.trans {H H1 H2:Hp}(a:Same H H1)(b:Same H1 H2):Same H H2:=fun c o h=>b c o (a c o h)
theorem Same.free {H H':Hp}(e:Same H H'){l:Addr}(h:H' l=Option.none):H l=Option.none:=by
 cases q:H l with
 |none=>rfl
 |some o=>
  rw[e l o q] at h
  cases h
theorem Same.seq {K:PySem.W.Frag}{H H':Hp}{a:Addr}{xs:List V}(e:Same H H')(h:SqL K H a xs):SqL K H' a xs:=by
 rcases h with (h|⟨o,h⟩)|h
 ·exact .inl (.inl (e _ _ h))
 ·exact .inl (.inr ⟨o,e _ _ h⟩)
 ·exact .inr h
section
variable {κ:Type} [DecidableEq κ]
theorem valV_in {kvs:List (κ×V)}{k:κ}{v:V}(h:valV kvs k=some v):k∈kvs.map (·.1):=by
 have q:(kvs.any fun kv=>decide (kv.1=k))=true:=by
  rw[valV_any,h]
  all_goals rfl
 obtain⟨p,hp,e⟩:=List.any_eq_true.mp q
 exact List.mem_map.mpr ⟨p,hp,of_decide_eq_true e⟩
end
section
variable {X:Cx}
theorem op_is_bl:OpR X (compareOp .Is) (fun x y H Q=>∃a b,x=.bl a∧y=.bl b∧Q (.bl (a==b)) H):=by
 intro pins s σ H x y v u Q I rx ry h
 obtain⟨a,b,rfl,rfl,q⟩:=h
 cases rx
 cases ry
 exact is_bool (fin_bl I q rfl)
def CDivB (_ j:Int):Prop:=0<j∧j<2^200
theorem noPy {i j:Int}(h:CDivB i j):Builtin.divisionGoesByPylong i j=false:=by
 refine PyProof.noPylong_of_log2 ?_
 obtain⟨h1,h2⟩:=h
 have h0:j.natAbs≠0:=by omega
 have h3:j.natAbs<2^200:=by omega
 have:=(Nat.log2_lt h0).mpr h3
 omega
theorem op_fdivB:OpR X (binaryOp .FloorDiv) (rI CDivB fun i j=> .int (i/j)):=opI fun i j _ _ _ _ _ hc q=>by
 have h1:(0:Int)<j:=hc.1
 exact floordiv_int (by omega) (by rw[Int.fdiv_eq_ediv_of_nonneg i (by omega)];exact q) (.inl (noPy hc))
theorem call_divmodB:CallR X (.builtin "divmod") (fun xs H Q=>∃i j,xs=[.int i,.int j]∧CDivB i j∧∀p,H p=none→Q (.ref p) (upd H p (.tup [.int (i/j),.int (i%j)]))):=by
 intro pins s σ H xs us Q I r h
 obtain⟨i,j,rfl,hc,q⟩:=h
 have h1:(0:Int)<j:=hc.1
 obtain⟨u,w',rfl,⟨t,rfl⟩,⟨t',rfl⟩⟩:=vals2 r
 refine divmod_int (by omega) ?_ (.inl (noPy hc))
 rw[Int.fdiv_eq_ediv_of_nonneg i (by omega),Int.fmod_eq_emod_of_nonneg i (by omega)]
 have hn:H s.heap.objs.size=none:=I.hok.fresh (Nat.le_refl _)
 refine⟨.ref s.heap.objs.size,_,?_,rfl,q _ hn⟩
 refine I.laid (fun b o e=>Heap.get?_push_of_some _ e) (Nat.le_refl _) ⟨by simp only[List.length_cons,List.length_nil];rw[sizeLine_eq];decide,[.int (i/j) s.toks,.int (i%j) (s.toks+1)],.cons ⟨_,rfl⟩ (.cons ⟨_,rfl⟩ .nil),?_⟩
 exact⟨_,Heap.get?_push_size s.heap rfl,rfl,0,rfl⟩
inductive ClsV:V→Value→Prop where
 |ty (n:String):ClsV (.ty n) (.type n)
 |ref (C:Addr):ClsV (.ref C) (.ref C)
theorem call_isinst:CallR X (.builtin "isinstance") (fun xs H Q=>∃x y c t b,xs=[x,y]∧ClsV y c∧TyOf X.K H x t∧PySem.W.kitOne X.K t c=some b∧Q (.bl b) H):=by
 intro pins s σ H xs us Q I r h
 obtain⟨x,y,c,t,b,rfl,hy,ty,e,q⟩:=h
 obtain⟨u,w',rfl,rx,ry⟩:=vals2 r
 cases hy with
 |ty n=>
  cases(show w'=Value.type n from ry)
  exact isinst_ok I rx ty e fun tk=>⟨.bl b,H,I.tok _,rfl,q⟩
 |ref C=>
  cases(show w'=Value.ref C from ry)
  exact isinst_ok I rx ty e fun tk=>⟨.bl b,H,I.tok _,rfl,q⟩
end
theorem compLoop_go {prog:Program}{w:World}{A:Around}{R:Result→Shared→Prop}{s:Shared}{elt target iter:Expr}{ifs:List Expr}{scope:Scope}{pos:Pos}{it acc:Value}{env:Env}(I:Nat→Shared→Prop)(E:Value→Shared→Prop)
  (hE:∀e s',E e s'→notedBy (model prog w) A env (fun e s'=>R (.error e) s') e s')
  (turn:∀n s,I n s→wpAny (model prog w) A (pyNext it) (fun r s₁=>match r with
   |none=>R (.ok .next) s₁
   |some v=>wpAny (model prog w) A (letOwnedTupleGo target it v) (fun _ s₁'=>wpAny (model prog w) A (assign target env v) (fun _ s₂=>
     wpAny (model prog w) A (forIn ifs true fun c r=>if r=true then do let ok←isTrue c env (eval c env);pure (ForInStep.yield ok) else pure (ForInStep.yield r)) (fun ok s₃=>
      if ok=true then wpAny (model prog w) A (eval elt env) (fun x s₄=>
       wpAny (model prog w) A (call (.builtin "list.append") [acc,x]) (fun _ s₅=>∃m,m<n∧I m s₅) E s₄) E s₃
      else∃m,m<n∧I m s₃) E s₂) E s₁') E s₁) E s)
  (n:Nat) (h:I n s):codeAny (model prog w) A (.compLoop (.ListComp elt [⟨target,iter,ifs,0⟩] scope pos) 0 it acc env) R s:=by
 refine codeAny_loop rfl I (fun n s hI=>?_) n h
 show wpAny _ A ((compTurn (.ListComp elt [⟨target,iter,ifs,0⟩] scope pos) 0 it acc env).onRaise (fun x=>do noteFrame x env;theTreesLotGoes x)) _ _ s
 refine wpAny_noted ?_
 rw[compTurn_list]
 refine wpAny_bind (wpAny_standAt (wpAny_bind (wpAny_mono (turn n s hI) (fun r s₁ h₁=>?_) hE)))
 cases r with
 |none=>exact wpAny_pure h₁
 |some v=>
  refine wpAny_bind (wpAny_mono h₁ (fun _ s₁' h₁'=>?_) hE)
  refine wpAny_bind (wpAny_mono h₁' (fun _ s₂ h₂=>wpAny_bind (wpAny_mono h₂ (fun ok s₃ h₃=>?_) hE)) hE)
  cases ok with
  |false=>exact wpAny_pure ⟨rfl,h₃⟩
  |true=>
   exact wpAny_bind (wpAny_bind (wpAny_mono h₃ (fun x s₄ h₄=>wpAny_bind (wpAny_mono h₄ (fun _ s₅ h₅=>wpAny_pure (wpAny_pure ⟨rfl,h₅⟩)) hE)) hE))
theorem closure_key {env:Env}:∀(names:List (Str×NameKind)) (acc:List (Str×Addr)),(∀y∈names,y.2=.free→∃c,env.cells.lookup y.1=some c)→(∀x c,acc.lookup x=some c→env.cells.lookup x=some c)→
  ∃cl,(forIn names acc (fun(x:Str×NameKind) (r:List (Str×Addr))=>(if (x.2==NameKind.free)=true then (do let a←cellOf env x.1;pure (ForInStep.yield ((x.1,a)::r))) else pure (ForInStep.yield r):Sem (ForInStep (List (Str×Addr))))))=(pure cl:Sem (List (Str×Addr)))∧
   (∀x c,cl.lookup x=some c→env.cells.lookup x=some c)∧(∀x c,acc.lookup x=some c→∃c',cl.lookup x=some c')∧∀y∈names,y.2=.free→∃c,cl.lookup y.1=some c
 |[],acc,_,ha=>⟨acc,rfl,ha,fun x c e=>⟨c,e⟩,fun _ h=>nomatch h⟩
 |(n,k)::r,acc,hf,ha=>by
  have hf':∀y∈r,y.2=.free→∃c,env.cells.lookup y.1=some c:=fun y hy=>hf y (List.mem_cons_of_mem _ hy)
  by_cases hk:k=.free
  ·subst hk
   obtain⟨c,hc⟩:=hf (n,.free) List.mem_cons_self rfl
   have hc':env.cells.lookup n=some c:=hc
   have ha':∀x d,((n,c)::acc).lookup x=some d→env.cells.lookup x=some d:=fun x d e=>by
    rw[List.lookup_cons] at e
    cases hx:x==n with
    |true=>rw[hx] at e;cases e;rw[beq_iff_eq.mp hx];exact hc'
    |false=>rw[hx] at e;exact ha x d e
   obtain⟨cl,e,h1,h2,h3⟩:=closure_key r ((n,c)::acc) hf' ha'
   have hself:((n,c)::acc).lookup n=some c:=by rw[List.lookup_cons,beq_self_eq_true]
   refine⟨cl,?_,h1,fun x d ex=>?_,fun y hy hyf=>?_⟩
   ·rw[List.forIn_cons]
    have ec:cellOf env n=pure c:=by unfold cellOf;rw[hc']
    show((if (NameKind.free==NameKind.free)=true then (do let a←cellOf env n;pure (ForInStep.yield ((n,a)::acc))) else pure (ForInStep.yield acc):Sem _)>>=_)=_
    rw[if_pos (by decide),ec]
    exact e
   ·cases hx:x==n with
    |true=>rw[beq_iff_eq.mp hx];exact h2 n c hself
    |false=>exact h2 x d (by rw[List.lookup_cons,hx];exact ex)
   ·rcases List.mem_cons.mp hy with rfl|hy
    ·exact h2 n c hself
    ·exact h3 y hy hyf
  ·obtain⟨cl,e,h1,h2,h3⟩:=closure_key r acc hf' ha
   refine⟨cl,?_,h1,h2,fun y hy hyf=>?_⟩
   ·rw[List.forIn_cons]
    show((if (k==NameKind.free)=true then (do let a←cellOf env n;pure (ForInStep.yield ((n,a)::acc))) else pure (ForInStep.yield acc):Sem _)>>=_)=_
    rw[if_neg (by simpa using hk)]
    exact e
   ·rcases List.mem_cons.mp hy with rfl|hy
    ·exact absurd hyf hk
    ·exact h3 y hy hyf
theorem closure_ok {scope:Scope}{env:Env}(h:∀y∈scope.names,y.2=.free→∃c,env.cells.lookup y.1=some c):
  ∃cl,closureFor scope env=pure cl∧(∀x c,cl.lookup x=some c→env.cells.lookup x=some c)∧∀y∈scope.names,y.2=.free→∃c,cl.lookup y.1=some c:=by
 obtain⟨cl,e,h1,_,h3⟩:=closure_key (env:=env) scope.names [] h (fun x c e=>nomatch e)
 refine⟨cl,?_,h1,h3⟩
 have e0:closureFor scope env=((forIn scope.names [] (fun(x:Str×NameKind) (r:List (Str×Addr))=>(if (x.2==NameKind.free)=true then (do let a←cellOf env x.1;pure (ForInStep.yield ((x.1,a)::r))) else pure (ForInStep.yield r):Sem (ForInStep (List (Str×Addr))))))>>=fun r=>pure r):=rfl
 rw[e0,e]
 rfl
theorem relabel_free {env:Env}(hf:env.scope.kind=.function):∀{names:List (Str×NameKind)} {x:Str},names.lookup x=some .free→env.kindOf x=some .cell→
  (names.map fun(n,k)=>if (k==NameKind.free&&env.scope.kind==.function&&env.kindOf n==some .cell) then (n,NameKind.cell) else (n,k)).lookup x=some .cell
 |[],_,h,_=>by simp at h
 |(n,k)::r,x,h,hc=>by
  have ih:= @relabel_free env hf r x
  show List.lookup x ((if (k==NameKind.free&&env.scope.kind==.function&&env.kindOf n==some .cell)=true then (n,NameKind.cell) else (n,k))::_)=_
  cases hx:x==n with
  |true=>
   simp only[List.lookup_cons,hx] at h
   cases h
   have e:x=n:=beq_iff_eq.mp hx
   subst e
   rw[if_pos (by rw[hf,hc];decide)]
   simp only[List.lookup_cons,hx]
  |false=>
   simp only[List.lookup_cons,hx] at h
   by_cases hq:(k==NameKind.free&&env.scope.kind==.function&&env.kindOf n==some .cell)=true
   ·rw[if_pos hq];simp only[List.lookup_cons,hx];exact ih h hc
   ·rw[if_neg hq];simp only[List.lookup_cons,hx];exact ih h hc
theorem relabel_back {env:Env}:∀{names:List (Str×NameKind)} {x:Str} {k:NameKind},
  (names.map fun(n,k)=>if (k==NameKind.free&&env.scope.kind==.function&&env.kindOf n==some .cell) then (n,NameKind.cell) else (n,k)).lookup x=some k→∃k0,names.lookup x=some k0∧(k=k0∨k0=.free)
 |[],_,_,h=>by simp at h
 |(n,k1)::r,x,k,h=>by
  have h:List.lookup x ((if (k1==NameKind.free&&env.scope.kind==.function&&env.kindOf n==some .cell)=true then (n,NameKind.cell) else (n,k1))::(r.map fun(n,k)=>if (k==NameKind.free&&env.scope.kind==.function&&env.kindOf n==some .cell) then (n,NameKind.cell) else (n,k)))=some k:=h
  cases hx:x==n with
  |true=>
   by_cases hq:(k1==NameKind.free&&env.scope.kind==.function&&env.kindOf n==some .cell)=true
   ·have:k1=.free:=by
     rw[Bool.and_eq_true,Bool.and_eq_true] at hq
     simpa using hq.1.1
    exact⟨k1,by simp only[List.lookup_cons,hx],.inr this⟩
   ·rw[if_neg hq] at h
    simp only[List.lookup_cons,hx] at h
    exact⟨k1,by simp only[List.lookup_cons,hx],.inl (Option.some.inj h).symm⟩
  |false=>
   have h':(r.map fun(n,k)=>if (k==NameKind.free&&env.scope.kind==.function&&env.kindOf n==some .cell) then (n,NameKind.cell) else (n,k)).lookup x=some k:=by
    by_cases hq:(k1==NameKind.free&&env.scope.kind==.function&&env.kindOf n==some .cell)=true
    ·rw[if_pos hq] at h;simp only[List.lookup_cons,hx] at h;exact h
    ·rw[if_neg hq] at h;simp only[List.lookup_cons,hx] at h;exact h
   obtain⟨k0,e,z⟩:=relabel_back h'
   exact⟨k0,by simp only[List.lookup_cons,hx];exact e,z⟩
noncomputable def cxComp (X:Cx) (N:List Str) (scope:Scope) (cl:List (Str×Addr)) (C:Addr) (s:Shared) (H:Hp) (fp:List Addr):Cx:=
 {X with N:=N,s₀:=s,H₀:=H,env:=compEnvC scope cl C X.env,outer:=X.stack,ex:=fp,fn:=fun _=>false,pn:=[],xe:=fun _ _=>False}
structure CompOk (X:Cx) (scope:Scope) (ls ys:List Str) (ix:List Nat):Prop where
 kind:scope.kind=.function
 nocellB:(scope.names.all fun y=>y.2 !=.cell)=true
 locB:(scope.names.all fun y=>y.2 !=.local||scope.names.lookup y.1==some .local)=true
 freeB:(scope.names.all fun y=>y.2 !=.free||X.env.kindOf y.1==some .cell)=true
 ylkB:(ys.all fun y=>scope.names.lookup y==some .free)=true
 yix:ix.map (fun j=>X.N[j]?)=ys.map some
section
variable {X:Cx} {scope:Scope} {ls ys:List Str} {ix:List Nat}
theorem CompOk.nocell (ok:CompOk X scope ls ys ix):∀y∈scope.names,y.2≠.cell:=fun y hy=>by
 simpa using List.all_eq_true.mp ok.nocellB y hy
theorem CompOk.loc (ok:CompOk X scope ls ys ix):∀y∈scope.names,y.2=.local→scope.names.lookup y.1=some .local:=fun y hy e=>by
 have h:=List.all_eq_true.mp ok.locB y hy
 rw[e] at h
 simpa using h
theorem CompOk.free (ok:CompOk X scope ls ys ix):∀y∈scope.names,y.2=.free→X.env.kindOf y.1=some .cell:=fun y hy e=>by
 have h:=List.all_eq_true.mp ok.freeB y hy
 rw[e] at h
 simpa using h
theorem CompOk.ylk (ok:CompOk X scope ls ys ix):∀y∈ys,scope.names.lookup y=some .free:=fun y hy=>by
 simpa using List.all_eq_true.mp ok.ylkB y hy
end
noncomputable def inSt (n:Nat) (ix:List Nat) (σ:St):St:=List.replicate n none++ix.map fun j=>(σ[j]?).join
section
variable {X:Cx} {pins:List (Addr×Obj)} {σ:St} {H:Hp} {s:Shared} {scope:Scope} {ls ys:List Str} {ix:List Nat} {cl:List (Str×Addr)} {fp:List Addr}
theorem comp_in {h₁:Heap}{tk:Nat}{m:Str→Option Value}(I:Inv X pins σ H s)(ok:CompOk X scope ls ys ix)(hcl1:∀x c,cl.lookup x=some c→X.env.cells.lookup x=some c)
  (hcl2:∀y∈scope.names,y.2=.free→∃c,cl.lookup y.1=some c) (f3:∀b∈fp,FpOk X pins H b) (hob:∀b∈fp,b<s.heap.objs.size)
  (hns:h₁.Ns s.heap.objs.size m) (hk:∀b o,s.heap.get? b=some o→h₁.get? b=some o):
  Inv (cxComp X (ls++ys) scope cl s.heap.objs.size s H fp) [] (inSt ls.length ix σ) H {s with heap:=h₁,toks:=tk}:=by
 have hfree:∀x,scope.names.lookup x=some .free→X.env.kindOf x=some .cell:=fun x e=>ok.free (x,.free) (PySem.mem_of_lookup e) rfl
 refine⟨⟨I.ok.mod,ok.kind,I.ok.glob,I.ok.blt,Nat.le_refl _,fun x y c h1 h2=>I.ok.inj x y c (hcl1 x c h1) (hcl1 y c h2),fun x hx=>?_,fun x c hx _=>absurd hx Bool.false_ne_true,I.ok.hd,I.ok.frames,.inl rfl,
  fun b hb=>⟨Nat.ne_of_lt (hob b hb),fun x c e=>(f3 b hb).2.2.2.2.1 x c (hcl1 x c e)⟩,I.bs,Nat.le_trans I.ok.bsz I.sz,fun b o e hb=>?_,fun b hb z=>?_,I.stack,I.stkFree⟩,
  rfl,I.bare,Un.kept hk,⟨m,hns,fun i x v h1 h2 h3=>?_⟩,fun x c e=>?_,I.fresh,fun x c e=>I.freeC x c (hcl1 x c e),fun p hp=>absurd (show p∈([]:List (Addr×Obj)) from hp) (by simp),I.hok.kept hk,?_⟩
 ·have e:∃k,(relabel scope X.env).names.lookup x=some k∧(k=.cell∨k=.free):=by
   rcases hx with hx|hx
   ·exact⟨_,hx,.inl rfl⟩
   ·exact⟨_,hx,.inr rfl⟩
  obtain⟨k,e,hkk⟩:=e
  obtain⟨k0,e0,z⟩:=relabel_back e
  have hm:=PySem.mem_of_lookup e0
  have hk0:k0=.free:=by
   rcases z with z|z
   ·rcases hkk with q|q
    ·exact absurd (z.symm.trans q) (ok.nocell _ hm)
    ·exact z.symm.trans q
   ·exact z
  exact hcl2 _ hm hk0
 ·obtain⟨q1,q2,q3,q4,_⟩:=f3 b hb
  rcases q4 with q4|q4
  ·exact I.ok.noex b o e q4
  ·exact absurd (Nat.lt_of_lt_of_le (Heap.lt_size e) (Nat.le_trans I.ok.bsz q4)) (Nat.lt_irrefl _)
 ·rcases List.mem_cons.mp (I.stkSub b z) with q|q
  ·exact(f3 b hb).2.1 q
  ·exact(f3 b hb).2.2.1 q
 ·have h1:(ls++ys)[i]?=some x:=h1
  have h2:(List.replicate ls.length none++ix.map fun j=>(σ[j]?).join)[i]?=some (some v):=h2
  by_cases hi:i<ls.length
  ·rw[List.getElem?_append_left (by rw[List.length_replicate];exact hi),List.getElem?_replicate,if_pos hi] at h2
   cases h2
  ·rw[List.getElem?_append_right (by rw[List.length_replicate];omega),List.length_replicate,List.getElem?_map] at h2
   rw[List.getElem?_append_right (by omega)] at h1
   cases e:ix[i - ls.length]? with
   |none=>rw[e] at h2;cases h2
   |some j=>
    rw[e] at h2
    have h2:(σ[j]?).join=some v:=Option.some.inj h2
    have hσ:σ[j]?=some (some v):=by
     cases q:σ[j]? with
     |none=>rw[q] at h2;cases h2
     |some z=>rw[q] at h2;exact congrArg some h2
    have hN:X.N[j]?=some x:=by
     have q:=congrArg (fun l=>l[i - ls.length]?) ok.yix
     simp only[List.getElem?_map,e,h1,Option.map_some] at q
     exact Option.some.inj q
    have hl:=ok.ylk x (List.mem_of_getElem? h1)
    have hc:=hfree x hl
    obtain⟨m',hn',hl'⟩:=I.loc
    obtain⟨u,r,lk⟩:=hl' j x v hN hσ (.inr (.inl hc))
    refine⟨u,r,?_⟩
    rcases lk with ⟨lk,_⟩|⟨_,c,ec,z⟩
    ·rw[hc] at lk;cases lk
    ·obtain⟨c',ec'⟩:=hcl2 _ (PySem.mem_of_lookup hl) rfl
     have ec2:X.env.cells.lookup x=some c':=hcl1 x c' ec'
     rw[ec] at ec2
     cases ec2
     exact .inr ⟨.inl (relabel_free I.ok.kind hl hc),c,ec',z.keeps hk⟩
 ·obtain⟨v,z⟩:=I.cell x c (hcl1 x c e)
  exact⟨v,z.keeps hk⟩
 ·show(List.replicate ls.length none++ix.map fun j=>(σ[j]?).join).length=(ls++ys).length
  have q:=congrArg List.length ok.yix
  rw[List.length_map,List.length_map] at q
  rw[List.length_append,List.length_append,List.length_replicate,List.length_map,q]
end
def PF (X:Cx) (ifs:List Expr) (t:TT):Prop:=
 ∀(pins:List (Addr×Obj)) (s:Shared) (σ:St) (H:Hp) (Q:Bool→Hp→Prop),Inv X pins σ H s→t σ H Q→
  wpAny (model X.prog X.w) X.A (forIn ifs true fun c r=>if r=true then do let ok←isTrue c X.env (eval c X.env);pure (ForInStep.yield ok) else pure (ForInStep.yield r)) (TP X pins σ Q) X.xe s
def tYes:TT:=fun _ H Q=>Q true H
theorem pf_nil {X:Cx}:PF X [] tYes:=fun _ _ _ H _ I h=>wpAny_tests_nil ⟨H,I,h⟩
theorem pf_one {X:Cx}{c:Expr}{t:TT}(h:PT X c t):PF X [c] t:=fun pins s σ H Q I hw=>wpAny_tests_one (h pins s σ H Q I hw)
def lcW (σ0:St) (g:TG) (tt:TT) (te:TE) (J:It) (H1:Hp) (D:Addr) (Q:Hp→Prop):Prop:=
 ∃W:Nat→Nat→St→Hp→Prop,(∃m,W 0 m σ0 (upd H1 D (.lst [])))∧∀i m τ H,W i m τ H→
  (J.stop i H∧Q H)∨(J.go i H∧∃N:St→Hp→Prop,(∀τ' H',N τ' H'→∃m',m'<m∧W (i+1) m' τ' H')∧∀x H',J.yld i H x H'→g x τ H' fun τ2 H2=>tt τ2 H2 fun b H3=>
   if b=true then te τ2 H3 fun v H4=>∃acc,H4 D=some (.lst acc)∧acc.length<sizeLine∧N τ2 (upd H4 D (.lst (acc++[v]))) else N τ2 H3)
def tLc (wi:TI) (n:Nat) (ix:List Nat) (g:TG) (tt:TT) (te:TE):TE:=fun σ H Q=>wi σ H fun J H1=>∀D,H1 D=none→lcW (inSt n ix σ) g tt te J H1 D fun H'=>Q (.ref D) H'
def tLcSet (wi:TI) (n:Nat) (ix:List Nat) (g:TG) (tt:TT) (te:TE) (i:Nat):TS:=fun D σ H=>tLc wi n ix g tt te σ H fun x H1=>D.nx (σ.set i (some x)) H1
section
variable {X:Cx} {scope:Scope} {ls ys:List Str} {ix:List Nat} {tg iter elt:Expr} {ifs:List Expr} {pos:Pos} {wi:TI} {g:TG} {tt:TT} {te:TE}
theorem comp_run {pins:List (Addr×Obj)}{σ:St}{H1:Hp}{s:Shared}{J:It}{it:Addr}{fp:List Addr}{tn:Nat→Heap→Prop}{cl:List (Str×Addr)}{Q:Addr→Hp→Prop}{R:Value→Addr→Result→Shared→Prop}{E:Value→Shared→Prop}(hc:X.calm=true)
  (ok:CompOk X scope ls ys ix) (I:Inv X pins σ H1 s) (T:Turn X.prog X.w X.K tg J fp it tn) (st:tn 0 s.heap) (f2:∀b∈fp,FpOk X pins H1 b)
  (hcl1:∀x c,cl.lookup x=some c→X.env.cells.lookup x=some c) (hcl2:∀y∈scope.names,y.2=.free→∃c,cl.lookup y.1=some c)
  (hg:∀cl C s H fp,PG (cxComp X (ls++ys) scope cl C s H fp) tg g) (ht:∀cl C s H fp,PF (cxComp X (ls++ys) scope cl C s H fp) ifs tt) (he:∀cl C s H fp,PE (cxComp X (ls++ys) scope cl C s H fp) elt te)
  (hJ:∀D,H1 D=none→lcW (inSt ls.length ix σ) g tt te J H1 D (Q D))
  (hR:∀D C H' s',Q D H'→Inv X pins σ H' s'→H' C=none→FpOk X pins H' C→(∃m,s'.heap.Ns C m)→R (.ref D) C (.ok .next) s'):
  wpAny (model X.prog X.w) X.A (newList []) (fun acc s₃=>wpAny (model X.prog X.w) X.A (newFunctionEnv scope X.env.globals cl [] X.env.qual none .none (some X.env)) (fun cenv s₄=>
   codeAny (model X.prog X.w) X.A (.compStart (.ListComp elt [⟨tg,iter,ifs,0⟩] scope pos) 0 (.ref it) acc {cenv with scope:=relabel scope X.env}) (R acc cenv.locals) s₄) E s₃) E s:=by
 have hfp:∀b∈fp,b<s.heap.objs.size:=fun b hb=>by
  obtain⟨o,e,_⟩:=T.obj _ _ st b hb
  exact Heap.lt_size e
 have I3:=I.lnew (ys:=[]) (its:=[]) (t':=s.toks) .nil (Nat.zero_le _)
 have hD:H1 s.heap.objs.size=none:=I.fresh
 obtain⟨W,⟨m0,w0⟩,turn⟩:=hJ s.heap.objs.size hD
 refine wpAny_newObj_type (wpAny_newFunctionEnv ok.nocell (by intro y hy;simp at hy) (fun h₁ hns hsb=>?_) ok.kind)
 generalize hs3:({s with heap:=s.heap.push {cls:=.type "list",data:=.seq ([]:List Value).toArray},toks:=s.toks}:Shared)=s3 at I3
 have e3:s.heap.push {cls:=.type "list",dict:=none,data:=.seq ([]:List Value).toArray}=s3.heap:=by rw[←hs3]
 have e3':({s with heap:=s.heap.push {cls:=.type "list",dict:=none,data:=.seq ([]:List Value).toArray}}:Shared)=s3:=by rw[←hs3]
 generalize hH3:upd H1 s.heap.objs.size (.lst [])=H3 at I3 w0
 have hsz:s3.heap.objs.size=s.heap.objs.size+1:=by rw[←e3,Heap.size_push]
 have up3:∀b o,s.heap.get? b=some o→s3.heap.get? b=some o:=fun b o e=>by rw[←e3];exact Heap.get?_push_of_some _ e
 have f3:∀b∈fp,FpOk X pins H3 b:=fun b hb=>by
  refine⟨?_,(f2 b hb).2⟩
  rw[←hH3,upd_ne (Nat.ne_of_lt (hfp b hb))]
  exact(f2 b hb).1
 have hns:h₁.Ns s3.heap.objs.size (fun x=>([]:List (Str×Value)).reverse.lookup x):=by rw[←e3];exact hns
 have hsb:Heap.SameBut s3.heap.objs.size (s3.heap.push {cls:=.type (if (some X.env).isSome then "dict" else "frame"),data:=.dict #[]}) h₁:=by rw[←e3];exact hsb
 have up4:∀b o,s3.heap.get? b=some o→h₁.get? b=some o:=fun b o e=>hsb.extBut b o (Nat.ne_of_lt (Heap.lt_size e)) (Heap.get?_push_of_some _ e)
 have Ic:=comp_in (tk:=s3.toks) I3 ok hcl1 hcl2 f3 (fun b hb=>by rw[hsz];exact Nat.lt_succ_of_lt (hfp b hb)) hns up4
 have stat:∀{H':Hp} {pl:List (Addr×Obj)},(∀b∈fp,H' b=none)→pl=[]→∀b∈fp,FpOk (cxComp X (ls++ys) scope cl s3.heap.objs.size s3 H3 fp) pl H' b:=fun{H' pl} hn hpl b hb=>by
  subst hpl
  refine⟨hn b hb,Nat.ne_of_lt (by rw[show(cxComp X (ls++ys) scope cl s3.heap.objs.size s3 H3 fp).env.locals=s3.heap.objs.size from rfl,hsz];exact Nat.lt_succ_of_lt (hfp b hb)),Ic.ok.exfs b hb,.inl hb,fun x c e=>(f3 b hb).2.2.2.2.1 x c (hcl1 x c e),fun p hp=>absurd (show p∈([]:List (Addr×Obj)) from hp) (by simp)⟩
 have loop:codeAny (model X.prog X.w) X.A (.compLoop (.ListComp elt [⟨tg,iter,ifs,0⟩] scope pos) 0 (.ref it) (.ref s.heap.objs.size) (compEnvC scope cl s3.heap.objs.size X.env)) (R (.ref s.heap.objs.size) s3.heap.objs.size) {s3 with heap:=h₁,toks:=s3.toks}:=by
  refine compLoop_go (fun n s'=>∃i τ H',Inv (cxComp X (ls++ys) scope cl s3.heap.objs.size s3 H3 fp) [] τ H' s'∧tn i s'.heap∧(∀b∈fp,H' b=none)∧W i n τ H') (fun _ _=>False) (fun _ _ h=>h.elim) ?_ m0
   ⟨0,inSt ls.length ix σ,H3,Ic,T.keep _ _ _ st (fun b _ o e=>up4 b o (up3 b o e)),fun b hb=>(f3 b hb).1,w0⟩
  rintro n s4 ⟨i,τ,H4,I4,st4,fr4,w4⟩
  rcases turn i n τ H4 w4 with ⟨stop,qn⟩|⟨go,N,hN,step⟩
  ·refine thn (T.done (cxComp X (ls++ys) scope cl s3.heap.objs.size s3 H3 fp) rfl rfl rfl hc i [] s4 τ H4 (fun _ _=>False) I4 (stat fr4 rfl) st4 stop) fun r s5 ⟨hr,I5⟩=>?_
   subst hr
   have Io:Inv X pins σ H4 s5:=I3.call' (ch:=fp) I5.os I5.base I5.hok I5.bare fun b hb=>⟨(f3 b hb).2.2.2.1,(f3 b hb).2.1,(f3 b hb).2.2.2.2.1,(f3 b hb).2.2.2.2.2⟩
   obtain⟨m5,n5,_⟩:=I5.loc
   have hC:H4 s3.heap.objs.size=none:=I5.free
   exact hR _ _ H4 s5 qn Io hC (I3.fpOk (Nat.le_refl _) hC) ⟨m5,n5⟩
  ·refine thn (T.item (cxComp X (ls++ys) scope cl s3.heap.objs.size s3 H3 fp) rfl rfl rfl hc i [] s4 τ H4 (fun _ _=>False) I4 (stat fr4 rfl) st4 go) fun r s5 ⟨u,hr,h5⟩=>?_
   subst hr
   refine thn h5 fun _ s6 ⟨x,H6,I6,r6,y6,st6,fr6⟩=>?_
   have I6':=I6.pinned (stat fr6 rfl) (T.obj _ _ st6)
   have fin:∀{τ7:St} {H7:Hp} {s7:Shared},Inv (cxComp X (ls++ys) scope cl s3.heap.objs.size s3 H3 fp) ([]++pinsAt fp s6.heap) τ7 H7 s7→N τ7 H7→∃m,m<n∧∃i τ H',Inv (cxComp X (ls++ys) scope cl s3.heap.objs.size s3 H3 fp) [] τ H' s7∧tn i s7.heap∧(∀b∈fp,H' b=none)∧W i m τ H':=fun{τ7 H7 s7} I7 n7=>by
    obtain⟨m',hm,w7⟩:=hN τ7 H7 n7
    refine⟨m',hm,i+1,τ7,H7,I7.unpinned,T.keep _ _ _ st6 fun b hb o e=>(I7.pin (b,o) (List.mem_append_right _ (List.mem_append_right _ (mem_pinsAt hb e)))).1,fun b hb=>?_,w7⟩
    obtain⟨o,e,d⟩:=T.obj _ _ st6 b hb
    exact(I7.pin (b,o) (List.mem_append_right _ (List.mem_append_right _ (mem_pinsAt hb e)))).2.1
   refine thn (hg _ _ _ _ _ _ s6 τ H6 x u _ I6' r6 (step x H6 y6)) fun _ s7 ⟨τ7,H7,I7,q7⟩=>?_
   refine thn (ht _ _ _ _ _ _ s7 τ7 H7 _ I7 q7) fun b s8 ⟨H8,I8,q8⟩=>?_
   cases b with
   |false=>
    rw[if_neg Bool.false_ne_true] at q8⊢
    exact fin I8 q8
   |true=>
    rw[if_pos rfl] at q8⊢
    refine thn (he _ _ _ _ _ _ s8 τ7 H8 _ I8 q8) fun y s9 ⟨v,H9,I9,r9,acc,hacc,hlen,n9⟩=>?_
    exact thn (mt_append _ s9 τ7 H9 (.ref s.heap.objs.size) [v] (.ref s.heap.objs.size) [y] (fun _ H'=>N τ7 H') I9 rfl (.cons r9 .nil) ⟨_,acc,v,rfl,rfl,hacc,hlen,n9⟩) fun _ s10 ⟨_,H10,I10,_,n10⟩=>fin I10 n10
 exact codeAny_compStart_list loop (T.self _ 0 _ _ _ (T.keep _ _ _ st (fun b _ o e=>up4 b o (up3 b o e))) loop)
theorem pe_lc (hc:X.calm=true)(ok:CompOk X scope ls ys ix)(hi:PI X tg iter wi)
  (hg:∀cl C s H fp,PG (cxComp X (ls++ys) scope cl C s H fp) tg g) (ht:∀cl C s H fp,PF (cxComp X (ls++ys) scope cl C s H fp) ifs tt) (he:∀cl C s H fp,PE (cxComp X (ls++ys) scope cl C s H fp) elt te)
  (hs:∀x,foldedSetIterable iter X.env x=pure x:=by intro _;rfl):PE X (.ListComp elt [⟨tg,iter,ifs,0⟩] scope pos) (tLc wi ls.length ix g tt te):=by
 intro pins s σ H Q I h
 obtain⟨cl,hclos,hcl1,hcl2⟩:=closure_ok (scope:=scope) (env:=X.env) fun y hy hf=>I.ok.has y.1 (.inl (ok.free y hy hf))
 rw[eval_ListComp]
 refine wpAny_comprehension_free (use:=none) rfl hs hclos ok.kind ok.loc (thn (hi pins s σ H _ I h) fun v s1 h1=>thn h1 fun itv s2 h2=>?_)
 obtain⟨it,fp,tn,J,H2,rfl,I2,T,st2,f2,hJ⟩:=h2
 refine comp_run (R:=fun acc C=>compPost (model X.prog X.w) X.A X.xe none (EP X pins σ Q) acc C) hc ok I2 T st2 f2 hcl1 hcl2 hg ht he hJ fun D C H' s' q I' hC fC hm=>?_
 obtain⟨m,hn⟩:=hm
 refine⟨m,hn,fun h' hsb=>⟨.ref D,H',?_,rfl,q⟩⟩
 exact I'.turned (t':=s'.toks) (fun b o hb e=>(hsb.2 b hb).trans e) hC fC.2.1 fC.2.2.2.1 fC.2.2.2.2.1 fC.2.2.2.2.2
theorem ps_lcset {i:Nat}{x:Str}{spos px:Pos}(hc:X.calm=true)(hN:X.N.Nodup)(hxi:X.N[i]?=some x)(hx:Loc X.env.scope x)(ok:CompOk X scope ls ys ix)(hi:PI X tg iter wi)
  (hg:∀cl C s H fp,PG (cxComp X (ls++ys) scope cl C s H fp) tg g) (ht:∀cl C s H fp,PF (cxComp X (ls++ys) scope cl C s H fp) ifs tt) (he:∀cl C s H fp,PE (cxComp X (ls++ys) scope cl C s H fp) elt te)
  (hs:∀x,foldedSetIterable iter X.env x=pure x:=by intro _;rfl) (hsw:swapsWith (.ListComp elt [⟨tg,iter,ifs,0⟩] scope pos) (some (.Name x px)) spos.line X.env=pure true:=by rfl)
  (hf:X.fn x=true∨X.env.scope.names.lookup x=some .local:=by first|exact .inl rfl|exact .inr rfl|assumption):
  PS X (.Assign [.Name x px] (.ListComp elt [⟨tg,iter,ifs,0⟩] scope pos) spos) (tLcSet wi ls.length ix g tt te i):=by
 intro pins s σ H D I h
 obtain⟨cl,hclos,hcl1,hcl2⟩:=closure_ok (scope:=scope) (env:=X.env) fun y hy hf=>I.ok.has y.1 (.inl (ok.free y hy hf))
 rw[exec_Assign_Name_used _ _ _ _ hsw]
 refine wpAny_bind (wpAny_standAt (wpAny_bind ?_))
 show wpAny _ X.A (do let _←comprehension (.ListComp elt [⟨tg,iter,ifs,0⟩] scope pos) scope X.env _ (newList []) false (eval iter X.env) (some (assign (.Name x px) X.env))) _ _ s
 refine wpAny_bind (wpAny_mono (wpAny_comprehension_free (use:=some (assign (.Name x px) X.env)) (Q:=fun _ s'=>∃σ' H',Inv X pins σ' H' s'∧D.nx σ' H') rfl hs hclos ok.kind ok.loc
  (thn (hi pins s σ H _ I h) fun v s1 h1=>thn h1 fun itv s2 h2=>?_)) (fun _ s' hq=>wpAny_pure (wpAny_pure hq)) fun _ _ e=>e)
 obtain⟨it,fp,tn,J,H2,rfl,I2,T,st2,f2,hJ⟩:=h2
 refine comp_run (R:=fun acc C=>compPost (model X.prog X.w) X.A X.xe (some (assign (.Name x px) X.env)) (fun _ s'=>∃σ' H',Inv X pins σ' H' s'∧D.nx σ' H') acc C) hc ok I2 T st2 f2 hcl1 hcl2 hg ht he hJ fun Da C H' s' q I' hC fC hm=>?_
 obtain⟨m,hn⟩:=hm
 show wpAny _ X.A (assign (.Name x px) X.env (.ref Da)) _ _ s'
 refine wpAny_assign_Name (store_ok2 (v:=.ref Da) I' hN hxi hx rfl (fun s2 I3 hz=>?_) hf)
 obtain⟨a,sb,ha⟩:=hz
 have hCa:C≠a:=by
  rcases ha with ha|ha
  ·rw[ha];exact fC.2.1
  ·exact Ne.symm (fC.2.2.2.2.1 x a ha)
 refine⟨m,hn.sameBut sb hCa,fun h' hsb=>⟨_,H',?_,q⟩⟩
 exact I3.turned (t':=s2.toks) (fun b o hb e=>(hsb.2 b hb).trans e) hC fC.2.1 fC.2.2.2.1 fC.2.2.2.2.1 fC.2.2.2.2.2
end
def Ev (t:TE) (σ:St) (H:Hp) (v:V):Prop:=∀Q:VK,Q v H→t σ H Q
def EvT (t:TT) (σ:St) (H:Hp) (b:Bool):Prop:=∀Q:Bool→Hp→Prop,Q b H→t σ H Q
def EvA (t:TA) (σ:St) (H:Hp) (vs:List V):Prop:=∀Q:List V→Hp→Prop,Q vs H→t σ H Q
section
variable {σ:St} {H:Hp} {ta tb tc te:TE} {t u:TT} {i j k:Int} {a b c:Bool} {v x y:V} {K:PySem.W.Frag}
theorem ev_c:Ev (tC v) σ H v:=fun _ q=>q
theorem ev_var {n:Nat}(h:σ[n]?=some (some v)):Ev (tVar n) σ H v:=fun _ q=>⟨v,h,q⟩
theorem ev_I0 {g:Int→Int→V}(ha:Ev ta σ H (.int i))(hb:Ev tb σ H (.int j)):Ev (tOp (rI0 g) ta tb) σ H (g i j):=fun _ q=>ha _ (hb _ ⟨i,j,rfl,rfl,q⟩)
theorem ev_lt (ha:Ev ta σ H (.int i))(hb:Ev tb σ H (.int j)):Ev (tOp (rI0 fun i j=> .bl (decide (i<j))) ta tb) σ H (.bl (decide (i<j))):=ev_I0 (g:=fun i j=> .bl (decide (i<j))) ha hb
theorem ev_le (ha:Ev ta σ H (.int i))(hb:Ev tb σ H (.int j)):Ev (tOp (rI0 fun i j=> .bl (decide (i≤j))) ta tb) σ H (.bl (decide (i≤j))):=ev_I0 (g:=fun i j=> .bl (decide (i≤j))) ha hb
theorem ev_ge (ha:Ev ta σ H (.int i))(hb:Ev tb σ H (.int j)):Ev (tOp (rI0 fun i j=> .bl (decide (j≤i))) ta tb) σ H (.bl (decide (j≤i))):=ev_I0 (g:=fun i j=> .bl (decide (j≤i))) ha hb
theorem ev_I {C:Int→Int→Prop}{g:Int→Int→V}(ha:Ev ta σ H (.int i))(hb:Ev tb σ H (.int j))(hc:C i j):Ev (tOp (rI C g) ta tb) σ H (g i j):=fun _ q=>ha _ (hb _ ⟨i,j,rfl,rfl,hc,q⟩)
theorem ev_eqI (ha:Ev ta σ H (.int i))(hb:Ev tb σ H (.int j)):Ev (tOp rEq ta tb) σ H (.bl (decide (i=j))):=fun Q q=>ha _ (hb _ ⟨rfl,by
 have e:decide (V.int i=V.int j)=decide (i=j):=by rw[dec_int];rfl
 rw[e];exact q⟩)
theorem ev_neI (ha:Ev ta σ H (.int i))(hb:Ev tb σ H (.int j)):Ev (tOp rNe ta tb) σ H (.bl (!decide (i=j))):=fun Q q=>ha _ (hb _ ⟨rfl,by
 have e:decide (V.int i=V.int j)=decide (i=j):=by rw[dec_int];rfl
 rw[e];exact q⟩)
theorem ev_chain {p q:Int→Int→Bool}(ha:Ev ta σ H (.int i))(hb:Ev tb σ H (.int j))(hc:Ev tc σ H (.int k)):Ev (tChain (rI0 fun i j=> .bl (p i j)) (rI0 fun i j=> .bl (q i j)) ta tb tc) σ H (.bl (p i j&&q j k)):=fun Q z=>by
 refine ha _ (hb _ ⟨i,j,rfl,rfl,p i j,rfl,?_⟩)
 cases e:p i j with
 |true=>rw[if_pos rfl];rw[e,Bool.true_and] at z;exact hc _ ⟨j,k,rfl,rfl,z⟩
 |false=>rw[if_neg Bool.false_ne_true];rw[e,Bool.false_and] at z;exact z
theorem ev_and (ha:Ev ta σ H (.bl a))(hb:a=true→Ev tb σ H (.bl b)):Ev (tAndV ta tb) σ H (.bl (a&&b)):=fun Q z=>by
 refine ha _ ⟨a,rfl,?_⟩
 cases a with
 |true=>rw[if_pos rfl];exact hb rfl _ z
 |false=>rw[if_neg Bool.false_ne_true];exact z
theorem ev_or (ha:Ev ta σ H (.bl a))(hb:a=false→Ev tb σ H (.bl b)):Ev (tOrV ta tb) σ H (.bl (a||b)):=fun Q z=>by
 refine ha _ ⟨a,rfl,?_⟩
 cases a with
 |true=>rw[if_pos rfl];exact z
 |false=>rw[if_neg Bool.false_ne_true];exact hb rfl _ z
theorem ev_ixT {p:Addr}{xs:List V}(ha:Ev ta σ H (.ref p))(hb:Ev tb σ H (.int i))(hs:SqT K H p xs)(he:atI xs i=some v):Ev (tOp (rIxT K) ta tb) σ H v:=fun _ q=>ha _ (hb _ ⟨p,xs,i,v,rfl,rfl,hs,he,q⟩)
theorem ev_ixL {p:Addr}{xs:List V}(ha:Ev ta σ H (.ref p))(hb:Ev tb σ H (.int i))(hs:SqL K H p xs)(he:atI xs i=some v):Ev (tOp (rIxL K) ta tb) σ H v:=fun _ q=>ha _ (hb _ ⟨p,xs,i,v,rfl,rfl,hs,he,q⟩)
theorem ev_isN (ha:Ev ta σ H x)(hb:Ev tb σ H .non):Ev (tOp (fun x y H Q=>y=.non∧Q (.bl (decide (x=.non))) H) ta tb) σ H (.bl (decide (x=.non))):=fun _ z=>ha _ (hb _ ⟨rfl,z⟩)
theorem ev_call {sp:Sp}{dvs vs:List V}{E:XK}{t:TA}(ha:EvA t σ H vs)(hs:∀Q:VK,Q v H→sp (vs++dvs) H Q E):Ev (tCall sp dvs E t) σ H v:=fun Q q=>ha _ (hs Q q)
theorem ev_cb {r:List V→Hp→VK→Prop}{vs:List V}{t:TA}(ha:EvA t σ H vs)(hs:∀Q:VK,Q v H→r vs H Q):Ev (tCB r t) σ H v:=fun Q q=>ha _ (hs Q q)
theorem ea_nil:EvA tNil σ H []:=fun _ q=>q
theorem ea_cons {t:TA}{vs:List V}(ha:Ev ta σ H v)(hr:EvA t σ H vs):EvA (tCons ta t) σ H (v::vs):=fun _ q=>ha _ (hr _ q)
theorem et_test (h:Ev te σ H (.bl b)):EvT (tTest te) σ H b:=fun _ q=>h _ ⟨b,rfl,q⟩
theorem et_B (h:Ev te σ H (.bl b)):EvT (tB te) σ H b:=fun _ q=>h _ ⟨b,rfl,q⟩
theorem et_not (h:EvT t σ H b):EvT (tNot t) σ H (!b):=fun _ q=>h _ q
theorem et_and (ha:EvT t σ H a)(hb:a=true→EvT u σ H b):EvT (tAnd t u) σ H (a&&b):=fun Q z=>by
 refine ha _ ?_
 cases a with
 |true=>rw[if_pos rfl];exact hb rfl _ z
 |false=>rw[if_neg Bool.false_ne_true];exact z
theorem et_or (ha:EvT t σ H a)(hb:a=false→EvT u σ H b):EvT (tOr t u) σ H (a||b):=fun Q z=>by
 refine ha _ ?_
 cases a with
 |true=>rw[if_pos rfl];exact z
 |false=>rw[if_neg Bool.false_ne_true];exact hb rfl _ z
theorem rd_if {tc:TT}{t u:TS}{D:Ends}(h:EvT tc σ H b)(h1:b=true→t D σ H)(h2:b=false→u D σ H):tIfS tc t u D σ H:=by
 refine h _ ?_
 cases b with
 |true=>rw[if_pos rfl];exact h1 rfl
 |false=>rw[if_neg Bool.false_ne_true];exact h2 rfl
theorem rd_ifF {tc:TT}{t u:TS}{D:Ends}(h:EvT tc σ H b)(hb:b=false)(h2:u D σ H):tIfS tc t u D σ H:=rd_if h (fun e=>absurd (hb.symm.trans e) Bool.false_ne_true) fun _=>h2
theorem rd_ifT {tc:TT}{t u:TS}{D:Ends}(h:EvT tc σ H b)(hb:b=true)(h1:t D σ H):tIfS tc t u D σ H:=rd_if h (fun _=>h1) fun e=>absurd (e.symm.trans hb) Bool.false_ne_true
theorem rd_set {n:Nat}{D:Ends}(h:Ev te σ H v)(q:D.nx (σ.set n (some v)) H):tAsg te (gName n) D σ H:=h _ q
theorem rd_ret {D:Ends}(h:Ev te σ H v)(q:D.rt v H):tRet te D σ H:=h _ q
end
theorem cmR {i j:Int}(h1: -(2^64)<j)(h2:j<2^64):CMul i j:=.inr ⟨h1,h2⟩
theorem cmL {i j:Int}(h1: -(2^64)<i)(h2:i<2^64):CMul i j:=.inl ⟨h1,h2⟩
theorem cdB {i j:Int}(h1:0<j)(h2:j<2^200):CDivB i j:=⟨h1,h2⟩
theorem bt_len:bootBuiltins "len" =some (.builtin "len"):=by decide+kernel
theorem bt_divmod:bootBuiltins "divmod" =some (.builtin "divmod"):=by decide+kernel
theorem bt_isinstance:bootBuiltins "isinstance" =some (.builtin "isinstance"):=by decide+kernel
theorem bt_tuple:bootBuiltins "tuple" =some (.type "tuple"):=by decide+kernel
theorem bt_list:bootBuiltins "list" =some (.type "list"):=by decide+kernel
theorem bt_dict:bootBuiltins "dict" =some (.type "dict"):=by decide+kernel
theorem bt_set:bootBuiltins "set" =some (.type "set"):=by decide+kernel
theorem bt_max:bootBuiltins "max" =some (.builtin "max"):=by decide+kernel
theorem bt_min:bootBuiltins "min" =some (.builtin "min"):=by decide+kernel
theorem bt_abs:bootBuiltins "abs" =some (.builtin "abs"):=by decide+kernel
theorem bt_any:bootBuiltins "any" =some (.builtin "any"):=by decide+kernel
theorem bt_all:bootBuiltins "all" =some (.builtin "all"):=by decide+kernel
theorem bt_sorted:bootBuiltins "sorted" =some (.builtin "sorted"):=by decide+kernel
theorem bt_zip:bootBuiltins "zip" =some (.type "zip"):=by decide+kernel
theorem st {t:TS}{D:Ends}{σ:St}{H:Hp}{r:VK}{b c:St→Hp→Prop}(h:t D σ H):({nx:=t D,rt:=r,bk:=b,ct:=c}:Ends).nx σ H:=h
section
variable {σ:St} {H:Hp} {te:TE} {tc:TT} {t u:TS} {ta:TA} {D:Ends} {b:Bool} {v:V} {vs:List V} {n:Nat} {K:PySem.W.Frag}
theorem sq_set (h:Ev te σ H v)(q:u D (σ.set n (some v)) H):tSeq (tAsg te (gName n)) u D σ H:=h _ q
theorem sq_ifF (h:EvT tc σ H b)(hb:b=false)(q:u D σ H):tSeq (tIfS tc t tNext) u D σ H:=rd_ifF (D:={D with nx:=u D}) h hb q
theorem sq_if (h:EvT tc σ H b)(h1:b=true→t {D with nx:=u D} σ H)(h2:b=false→u D σ H):tSeq (tIfS tc t tNext) u D σ H:=rd_if (D:={D with nx:=u D}) h h1 h2
theorem sq_lst (h:EvA ta σ H vs)(hz:vs.length≤sizeLine)(q:∀p,H p=none→u D (σ.set n (some (.ref p))) (upd H p (.lst vs))):tSeq (tAsg (tLst ta) (gName n)) u D σ H:=h _ ⟨hz,q⟩
theorem sq_tup (h:EvA ta σ H vs)(hz:vs.length≤sizeLine)(q:∀p,H p=none→u D (σ.set n (some (.ref p))) (upd H p (.tup vs))):tSeq (tAsg (tTup ta) (gName n)) u D σ H:=h _ ⟨hz,q⟩
theorem sq_un3 {p:Addr}{x y z:V}{i j k:Nat}(h:Ev te σ H (.ref p))(hs:SqT K H p [x,y,z])(q:u D (((σ.set i (some x)).set j (some y)).set k (some z)) H):
  tSeq (tAsg te (gTup K 3 (gCons (gName i) (gCons (gName j) (gCons (gName k) gNil))))) u D σ H:=h _ ⟨p,_,rfl,hs,rfl,_,_,rfl,_,_,rfl,_,_,rfl,rfl,q⟩
theorem if_of {tc:TT}{t u:TS}(q:tc σ H fun b H1=>if b=true then t D σ H1 else u D σ H1):tIfS tc t u D σ H:=q
theorem sq_ifof (q:tc σ H fun b H1=>if b=true then t {D with nx:=u D} σ H1 else u D σ H1):tSeq (tIfS tc t tNext) u D σ H:=q
theorem gn {Q:St→Hp→Prop}(q:Q (σ.set n (some v)) H):gName n v σ H Q:=q
end
structure Callee (P:Program) (w:World) (K:PySem.W.Frag) (mg:Str→Option Value) (base:Heap) (x:Str) (k:Nat) (ps:List Str) (sp:Sp):Prop where
 ex:∃f fd,FnOk P w K mg base CX0 k f fd ps sp∧mg x=some (.ref f)∧PySem.W.keepIn K (.ref f)=true∧Binds K fd ps []
theorem pe_cal {X:Cx}{x:Str}{k:Nat}{ps:List Str}{sp:Sp}{p pos:Pos}{e:Expr}{es:List Expr}{t:TA}(C:Callee X.prog X.w X.K X.mg X.base x k ps sp)(hr:Room k X.A)(hg:Gl X x)(ha:PA X (e::es) t)
  (hdb:(x==("__debug__" :Str))=false:=by decide) (he:starEach (e::es) X.env=(false,eval e X.env)::starEach es X.env:=by rfl) (hpl:(backTo pos (starEach es X.env)).any (·.1)=false:=by rfl):
  PE X (.Call (.Name x p) (e::es) [] pos) (tCall sp [] E0 t):=by
 obtain⟨f,fd,G,hm,hk,hb⟩:=C.ex
 exact pe_call G hr hg hm hk hb .nil pass0 ha hdb he hpl
theorem SqT.same {K:PySem.W.Frag}{H H':Hp}{a:Addr}{xs:List V}(e:Same H H')(h:SqT K H a xs):SqT K H' a xs:=by
 rcases h with (h|⟨o,h⟩)|h
 ·exact .inl (.inl (e _ _ h))
 ·exact .inl (.inr ⟨o,e _ _ h⟩)
 ·exact .inr h
theorem Same.upd {H H':Hp}(e:Same H H'){p:Addr}{o:HO}(hp:H' p=none):Same H (upd H' p o):=fun b u h=>by
 rw[upd_ne (ne_of_none (e b u h) hp)]
 exact e b u h
section
variable {X:Cx} {tg:Expr}
end
theorem lc_range {lo:Int}{n:Nat}{σ0:St}{g:TG}{tt:TT}{te:TE}{H1:Hp}{D:Addr}{Q:Hp→Prop}(Pv:Nat→St→Hp→Prop)(h0:Pv 0 σ0 (upd H1 D (.lst [])))
  (hs:∀i τ H,i<n→Pv i τ H→g (.int (lo+i)) τ H fun τ2 H2=>tt τ2 H2 fun b H3=>
   if b=true then te τ2 H3 fun v H4=>∃acc,H4 D=some (.lst acc)∧acc.length<sizeLine∧Pv (i+1) τ2 (upd H4 D (.lst (acc++[v]))) else Pv (i+1) τ2 H3)
  (hd:∀τ H,Pv n τ H→Q H):lcW σ0 g tt te (Itr lo n) H1 D Q:=by
 refine⟨fun i m τ H=>m=n - i∧i≤n∧Pv i τ H,⟨n,by simp,Nat.zero_le _,h0⟩,?_⟩
 rintro i m τ H ⟨rfl,hi,p⟩
 by_cases hlt:i<n
 ·refine .inr ⟨hlt,Pv (i+1),fun τ' H' p'=>⟨n - (i+1),by omega,rfl,hlt,p'⟩,fun x H' y=>?_⟩
  obtain⟨e,y⟩:=y
  subst e y
  exact hs i τ _ hlt p
 ·have e:i=n:=by omega
  subst e
  exact .inl ⟨Nat.le_refl _,hd τ H p⟩
theorem lc_listG {K:PySem.W.Frag}{a:Addr}{xs:List V}{σ0:St}{g:TG}{tt:TT}{te:TE}{H1:Hp}{D:Addr}{Q:Hp→Prop}(Pv:Nat→St→Hp→Prop)(h0:Pv 0 σ0 (upd H1 D (.lst [])))
  (hl:∀i τ H,i≤xs.length→Pv i τ H→SqL K H a xs)
  (hs:∀i x τ H,xs[i]?=some x→Pv i τ H→g x τ H fun τ2 H2=>tt τ2 H2 fun b H3=>
   if b=true then te τ2 H3 fun v H4=>∃acc,H4 D=some (.lst acc)∧acc.length<sizeLine∧Pv (i+1) τ2 (upd H4 D (.lst (acc++[v]))) else Pv (i+1) τ2 H3)
  (hd:∀τ H,Pv xs.length τ H→Q H):lcW σ0 g tt te (Itl K a) H1 D Q:=by
 refine⟨fun i m τ H=>m=xs.length - i∧i≤xs.length∧Pv i τ H,⟨xs.length,by simp,Nat.zero_le _,h0⟩,?_⟩
 rintro i m τ H ⟨rfl,hi,p⟩
 have q:=hl i τ H hi p
 by_cases hlt:i<xs.length
 ·refine .inr ⟨⟨xs,xs[i],q,by simp[hlt]⟩,Pv (i+1),fun τ' H' p'=>⟨xs.length - (i+1),by omega,rfl,hlt,p'⟩,fun x H' y=>?_⟩
  obtain⟨e,y⟩:=y
  subst e
  exact hs i x τ _ (y xs q) p
 ·have e:i=xs.length:=by omega
  subst e
  exact .inl ⟨⟨xs,q,Nat.le_refl _⟩,hd τ H p⟩
theorem ObjOk.there {P:Program}{w:World}{H:Hp}{h:Heap}{a:Addr}{o:HO}(x:ObjOk P w H h a o):∃ob,h.get? a=some ob:=by
 cases o with
 |lst xs=>obtain⟨_,_,_,_,e⟩:=x;exact⟨_,e⟩
 |tup xs=>obtain⟨_,_,_,ob,e,_⟩:=x;exact⟨_,e⟩
 |dK kvs=>obtain⟨_,_,_,_,o,_,_,e,_⟩:=x;exact⟨_,e⟩
 |dT kvs=>obtain⟨_,_,_,_,o,_,_,e,_⟩:=x;exact⟨_,e⟩
 |set S n=>obtain⟨o,_,_,_,e,_⟩:=x;exact⟨_,e⟩
 |ins C dx fs=>obtain⟨_,_,_,e,_⟩:=x;exact⟨_,e⟩
 |own y=>exact x
 |xd fs=>obtain⟨_,⟨_,_,_,e,_⟩,_⟩:=x;exact⟨_,e⟩
 |rng lo hi=>obtain⟨_,_,_,e⟩:=x;exact⟨_,e⟩
 |frz ob u=>obtain⟨e,_⟩:=x;exact⟨_,e⟩
 |tbl ps=>exact⟨_,(show h.get? a=some _ from x)⟩
 |met f y=>exact⟨_,(show h.get? a=some _ from x)⟩
 |ext φ=>exact x.2.1
theorem HOk.none_of {P:Program}{w:World}{H:Hp}{h:Heap}{a:Addr}(x:HOk P w H h)(e:h.get? a=none):H a=none:=by
 cases q:H a with
 |none=>rfl
 |some u=>
  obtain⟨o,z⟩:=(x a u q).there
  rw[e] at z;cases z
section
variable {P:Program} {w:World} {K:PySem.W.Frag} {mg:Str→Option Value} {base:Heap} {N:List Str} {qual:Str} {scope:Scope} {f:Addr} {cd:Value} {A:Around} {outer:List Env} {s₀:Shared} {H₀:Hp} {E:XK}
end
section
variable {X:Cx}
end
section
variable {P:Program} {w:World} {K:PySem.W.Frag} {mg:Str→Option Value} {base:Heap} {N:List Str} {qual:Str} {scope:Scope} {f:Addr} {cd:Value} {A:Around} {outer:List Env} {s₀:Shared} {H₀:Hp} {E:XK}
end
section
variable {P:Program} {w:World} {K:PySem.W.Frag} {mg:Str→Option Value} {base:Heap}
end
section
variable {X:Cx} {pins:List (Addr×Obj)} {σ:St} {H:Hp} {s:Shared}
end
section
variable {X:Cx}
end
end L2
namespace L2
open PySem PySem.Spec PyProof.Rows
open PySem.W (Looks)
open Builtin Builtin.ObjectAttr Builtin.Getset_descriptor
section
variable {prog:Program} {w:World} {A:Around} {E:Value→Shared→Prop} {K:PySem.W.Frag} {C a:Addr} {h:Heap} {g:Array GenState} {d:Drawn} {t:Nat} {os:OsState} {o:Obj}
end
section
variable {X:Cx}
end
section
variable {X:Cx}
theorem vals_refs:∀{cs:List Addr} {us:List Value},Vals (cs.map V.ref) us→us=cs.map Value.ref
 |[],_,.nil=>rfl
 |_::_,_,.cons r t=>by rw[vals_refs t];cases(show _=Value.ref _ from r);rfl
theorem pe_globC {x:Str}{C:Addr}{pos:Pos}(hg:Gl X x)(hm:X.mg x=some (.ref C))(hd:(x==("__debug__" :Str))=false:=by decide):PE X (.Name x pos) (tC (.ref C)):=pe_glob hg hm rfl hd
theorem ev_U {ta:TE}{σ:St}{H:Hp}{i:Int}{g:Int→V}(ha:Ev ta σ H (.int i)):Ev (tUn (rU g) ta) σ H (g i):=fun _ q=>ha _ ⟨i,rfl,q⟩
theorem sq_asg {te:TE}{u:TS}{D:Ends}{σ:St}{H:Hp}{n:Nat}(q:te σ H fun v H1=>u D (σ.set n (some v)) H1):tSeq (tAsg te (gName n)) u D σ H:=q
end
structure MCallee (P:Program) (w:World) (K:PySem.W.Frag) (mg:Str→Option Value) (base:Heap) (C:Addr) (m:Str) (k:Nat) (ps:List Str) (sp:Sp):Prop where
 ex:∃f fd,FnOk P w K mg base CX0 k f fd ps sp∧Meth K C m f∧Binds K fd ps []
section
variable {X:Cx} {C:Addr} {k:Nat} {ps:List Str} {sp:Sp} {x m:Str} {p pos apos:Pos} {e o:Expr} {es:List Expr} {ta:TE} {t:TA}
theorem pe_met {pl:Sem Bool}(he:PE X o ta)(c:Cls X.K C)(G:MCallee X.prog X.w X.K X.mg X.base C m k ps sp)(hr:Room k X.A)(ha:PA X (e::es) t)
  (hst:starEach (e::es) X.env=(false,eval e X.env)::starEach es X.env:=by rfl) (hpl:(backTo pos (starEach es X.env)).any (·.1)=false:=by rfl)
  (ht:eval (.Call (.Attribute o m apos) (e::es) [] pos) X.env=(do
   let ov←eval o X.env
   standAt apos.atName
   let (f,first)←holding [ov] (getMethod ov m pl)
   callWith pos f first (backTo pos (starEach (e::es) X.env)) (backToKw pos (keywordEach [] X.env))):=by rfl):
  PE X (.Call (.Attribute o m apos) (e::es) [] pos) (tMeth C m sp [] E0 ta t):=by
 obtain⟨f,fd,F,hm,hb⟩:=G.ex
 exact pe_meth (pl:=pl) he c hm F hr hb .nil pass0 ha hst hpl ht
theorem pe_met0 {pl:Sem Bool}(he:PE X o ta)(c:Cls X.K C)(G:MCallee X.prog X.w X.K X.mg X.base C m k ps sp)(hr:Room k X.A)
  (ht:eval (.Call (.Attribute o m apos) [] [] pos) X.env=(do
   let ov←eval o X.env
   standAt apos.atName
   let (f,first)←holding [ov] (getMethod ov m pl)
   callWith pos f first (backTo pos (starEach [] X.env)) (backToKw pos (keywordEach [] X.env))):=by rfl):
  PE X (.Call (.Attribute o m apos) [] [] pos) (tMeth C m sp [] E0 ta tNil):=by
 obtain⟨f,fd,F,hm,hb⟩:=G.ex
 exact pe_meth0 (pl:=pl) he c hm F hr hb .nil pass0 ht
end
theorem lc_el {te:TE}{τ:St}{H:Hp}{R:VK}{N:Hp→Prop}(h:te τ H R):tYes τ H fun b H3=>if b=true then te τ H3 R else N H3:=by
 show if true=true then te τ H R else N H
 rw[if_pos rfl]
 exact h
section
variable {σ:St} {H:Hp} {tc:TT} {te:TE} {t u v:TS} {D:Ends} {a b:Bool}
end
section
variable {X:Cx} {Ex:St→Value→Hp→Prop} {C:Addr} {k:Nat} {f:Addr} {fd:FuncData} {ps:List Str} {sp:Sp} {x m:Str} {p pos apos:Pos} {e o:Expr} {es:List Expr} {ta:TE} {t:TA}
end
end L2
namespace L2
open PySem PySem.W PyProof.Rows
noncomputable def evT {α:Type} (lt:Nat→Nat→Bool):KasT α→α
 | .ret a=>a
 | .ask i j k=>evT lt (k (lt i j))
theorem evT_bind {α β:Type}{lt:Nat→Nat→Bool}{f:α→KasT β}:∀t:KasT α,evT lt (t.bind f)=evT lt (f (evT lt t))
 | .ret _=>rfl
 | .ask i j k=>evT_bind (k (lt i j))
inductive AskE (lt:Nat→Nat→Bool) (n:Nat):{α:Type}→KasT α→Prop where
 |ret {α:Type} (a:α):AskE lt n (KasT.ret a)
 |ask {α:Type} {i j:Nat} {k:Bool→KasT α}:i<n→j<n→AskE lt n (k (lt i j))→AskE lt n (.ask i j k)
theorem AskE.bind {lt:Nat→Nat→Bool}{n:Nat}{α β:Type}{f:α→KasT β}:∀{t:KasT α},AskE lt n t→AskE lt n (f (evT lt t))→AskE lt n (t.bind f)
 | .ret _,_,hf=>hf
 | .ask _ _ _,.ask h1 h2 h3,hf=> .ask h1 h2 (AskE.bind h3 hf)
theorem kas_ev {α:Type}{lt:Nat→Nat→Bool}{n:Nat}{cmp:Nat→Nat→(Bool→Shared→Prop)→Shared→Prop}{I:Shared→Prop}{Q:α→Shared→Prop}(hc:∀i j C s,i<n→j<n→I s→(∀s',I s'→C (lt i j) s')→cmp i j C s):
  ∀{t:KasT α} {s:Shared},AskE lt n t→I s→(∀s',I s'→Q (evT lt t) s')→t.kasWp cmp Q s
 | .ret a,s,_,hs,hq=>hq s hs
 | .ask i j k,s,.ask h1 h2 h3,hs,hq=>hc i j _ s h1 h2 hs fun s' hs'=>kas_ev hc h3 hs' hq
section
variable {O:KeyOrd} (key:Nat→O.α)
def kA (p:Array Nat) (k:Nat):O.α:=key (p.getD k 0)
def Up (p:Array Nat) (n:Nat):Prop:=∀i j,i≤j→j<n→O.kle (kA key p i) (kA key p j)
def Dn (p:Array Nat) (n:Nat):Prop:=∀i j,i≤j→j<n→O.kle (kA key p j) (kA key p i)
abbrev ltK (i j:Nat):Bool:=O.blt (key i) (key j)
def PermN (n:Nat) (p:Array Nat):Prop:=p.Perm (List.toArray (List.range n))
variable {key}
theorem PermN.size {n:Nat}{p:Array Nat}(h:PermN n p):p.size=n:=by
 have:=h.size_eq
 simpa using this
theorem PermN.lt {n:Nat}{p:Array Nat}(h:PermN n p)(k:Nat)(hk:k<n):p.getD k 0<n:=by
 have hz:=h.size
 have hm:p[k]'(by omega)∈p:=Array.getElem_mem _
 have:=(h.mem_iff).mp hm
 rw[Array.getD_eq_getD_getElem?,Array.getElem?_eq_getElem (by omega)]
 simpa using this
theorem getD_rev {p:Array Nat}{i j:Nat}(hj:j≤p.size)(k:Nat):(kas_rev p i j).getD k 0=if i≤k∧k<j then p.getD (i+j - 1 - k) 0 else p.getD k 0:=by
 unfold kas_rev
 rw[Array.getD_eq_getD_getElem?,getElem?_mirror_all hj]
 split<;>rw[Array.getD_eq_getD_getElem?]
theorem PermN.rev {n:Nat}{p:Array Nat}(h:PermN n p)(i j:Nat):PermN n (kas_rev p i j):=(mirror_perm p i j _).trans h
theorem kA_rev {p:Array Nat}{i j:Nat}(hj:j≤p.size)(he:∀k,i≤k→k<j→kA key p k=kA key p (j - 1))(k:Nat):kA key (kas_rev p i j) k=kA key p k:=by
 unfold kA at he⊢
 rw[getD_rev hj]
 split
 ·next h=>rw[he k h.1 h.2,he _ (by omega) (by omega)]
 ·rfl
theorem Up.snoc {p:Array Nat}{n:Nat}(h:Up key p n)(hn:1≤n)(hl:O.kle (kA key p (n - 1)) (kA key p n)):Up key p (n+1):=fun i j hij hj=>by
 by_cases e:j=n
 ·subst e
  by_cases e2:i=j
  ·subst e2;exact KeyOrd.kle_refl _
  ·exact KeyOrd.kle_trans (h i (j - 1) (by omega) (by omega)) hl
 ·exact h i j hij (by omega)
theorem Dn.snoc {p:Array Nat}{n:Nat}(h:Dn key p n)(hn:1≤n)(hl:O.kle (kA key p n) (kA key p (n - 1))):Dn key p (n+1):=fun i j hij hj=>by
 by_cases e:j=n
 ·subst e
  by_cases e2:i=j
  ·subst e2;exact KeyOrd.kle_refl _
  ·exact KeyOrd.kle_trans hl (h i (j - 1) (by omega) (by omega))
 ·exact h i j hij (by omega)
theorem Dn.of_keys {p q:Array Nat}{n:Nat}(h:Dn key p n)(e:∀k,kA key q k=kA key p k):Dn key q n:=fun i j hij hj=>by rw[e,e];exact h i j hij hj
theorem Dn.turn {p:Array Nat}{n:Nat}(h:Dn key p n)(hn:n≤p.size):Up key (kas_rev p 0 n) n:=fun i j hij hj=>by
 unfold kA
 rw[getD_rev hn,getD_rev hn,if_pos ⟨Nat.zero_le _,by omega⟩,if_pos ⟨Nat.zero_le _,by omega⟩]
 exact h _ _ (by omega) (by omega)
theorem asc_ok {N:Nat}{p:Array Nat}(hp:PermN N p):∀(f n:Nat),1≤n→n+f≤N→Up key p n→AskE (ltK key) N (kas_asc p f n)∧
  n≤evT (ltK key) (kas_asc p f n)∧evT (ltK key) (kas_asc p f n)≤n+f∧Up key p (evT (ltK key) (kas_asc p f n))∧(evT (ltK key) (kas_asc p f n)<n+f→ltK key (p.getD (evT (ltK key) (kas_asc p f n)) 0) (p.getD (evT (ltK key) (kas_asc p f n) - 1) 0)=true)
 |0,n,_,_,h=>⟨.ret _,Nat.le_refl _,Nat.le_refl _,h,fun z=>absurd z (Nat.lt_irrefl _)⟩
 |f+1,n,h1,hn,h=>by
  cases e:ltK key (p.getD n 0) (p.getD (n - 1) 0) with
  |true=>
   have ev:evT (ltK key) (kas_asc p (f+1) n)=n:=by
    show evT (ltK key) (if ltK key (p.getD n 0) (p.getD (n - 1) 0)=true then KasT.ret n else kas_asc p f (n+1))=n
    rw[e,if_pos rfl];rfl
   refine⟨.ask (hp.lt n (by omega)) (hp.lt (n - 1) (by omega)) ?_,?_⟩
   ·rw[e,if_pos rfl];exact .ret _
   ·rw[ev];exact⟨Nat.le_refl _,by omega,h,fun _=>e⟩
  |false=>
   have ev:evT (ltK key) (kas_asc p (f+1) n)=evT (ltK key) (kas_asc p f (n+1)):=by
    show evT (ltK key) (if ltK key (p.getD n 0) (p.getD (n - 1) 0)=true then KasT.ret n else kas_asc p f (n+1))=_
    rw[e,if_neg Bool.false_ne_true]
   obtain⟨a1,a2,a3,a4,a5⟩:=asc_ok hp f (n+1) (by omega) (by omega) (h.snoc h1 e)
   refine⟨.ask (hp.lt n (by omega)) (hp.lt (n - 1) (by omega)) ?_,?_⟩
   ·rw[e,if_neg Bool.false_ne_true];exact a1
   ·rw[ev];exact⟨by omega,by omega,a4,fun z=>a5 (by omega)⟩
theorem desc_ok {N:Nat}:∀(f:Nat) (p:Array Nat) (n q:Nat),PermN N p→q+1≤n→n+f≤N→Dn key p n→(∀k,n - (q+1)≤k→k<n→kA key p k=kA key p (n - 1))→
  AskE (ltK key) N (kas_desc f p n q)∧∀r,evT (ltK key) (kas_desc f p n q)=r→PermN N r.1∧n≤r.2.1∧r.2.1≤n+f∧r.2.2+1≤r.2.1∧Dn key r.1 r.2.1∧(∀k,r.2.1 - (r.2.2+1)≤k→k<r.2.1→kA key r.1 k=kA key r.1 (r.2.1 - 1))
 |0,p,n,q,hp,hq,hn,h,he=>⟨.ret _,fun r e=>by cases e;exact⟨hp,Nat.le_refl _,Nat.le_refl _,hq,h,he⟩⟩
 |f+1,p,n,q,hp,hq,hn,h,he=>by
  have hz:=hp.size
  have i1:=hp.lt n (by omega)
  have i2:=hp.lt (n - 1) (by omega)
  have un:evT (ltK key) (kas_desc (f+1) p n q)=evT (ltK key) (if ltK key (p.getD n 0) (p.getD (n - 1) 0)=true then (if q>0 then kas_desc f (kas_rev p (n - (q+1)) n) (n+1) 0 else kas_desc f p (n+1) 0)
    else .ask (p.getD (n - 1) 0) (p.getD n 0) fun d=>if d=true then .ret (p,n,q) else kas_desc f p (n+1) (q+1)):=rfl
  have last1:∀(p':Array Nat) (k:Nat),n+1 - (0+1)≤k→k<n+1→kA key p' k=kA key p' (n+1 - 1):=fun p' k h1 h2=>by
   have:k=n+1 - 1:=by omega
   rw[this]
  cases e:ltK key (p.getD n 0) (p.getD (n - 1) 0) with
  |true=>
   have hs:Dn key p (n+1):=h.snoc (by omega) (KeyOrd.kle_of_klt e)
   by_cases hq0:q>0
   ·have ek:=kA_rev (p:=p) (i:=n - (q+1)) (j:=n) (by omega) he
    obtain⟨a1,a2⟩:=desc_ok f (kas_rev p (n - (q+1)) n) (n+1) 0 (hp.rev _ _) (by omega) (by omega) (hs.of_keys ek) (last1 _)
    refine⟨.ask i1 i2 ?_,fun r er=>?_⟩
    ·rw[e,if_pos rfl,if_pos hq0];exact a1
    ·rw[un,e,if_pos rfl,if_pos hq0] at er
     obtain⟨b1,b2,b3,b4,b5,b6⟩:=a2 r er
     exact⟨b1,by omega,by omega,b4,b5,b6⟩
   ·obtain⟨a1,a2⟩:=desc_ok f p (n+1) 0 hp (by omega) (by omega) hs (last1 _)
    refine⟨.ask i1 i2 ?_,fun r er=>?_⟩
    ·rw[e,if_pos rfl,if_neg hq0];exact a1
    ·rw[un,e,if_pos rfl,if_neg hq0] at er
     obtain⟨b1,b2,b3,b4,b5,b6⟩:=a2 r er
     exact⟨b1,by omega,by omega,b4,b5,b6⟩
  |false=>
   cases e2:ltK key (p.getD (n - 1) 0) (p.getD n 0) with
   |true=>
    refine⟨.ask i1 i2 ?_,fun r er=>?_⟩
    ·rw[e,if_neg Bool.false_ne_true]
     refine .ask i2 i1 ?_
     rw[e2,if_pos rfl];exact .ret _
    ·rw[un,e,if_neg Bool.false_ne_true] at er
     have er:evT (ltK key) (if ltK key (p.getD (n - 1) 0) (p.getD n 0)=true then KasT.ret (p,n,q) else kas_desc f p (n+1) (q+1))=r:=er
     rw[e2,if_pos rfl] at er
     cases er
     exact⟨hp,Nat.le_refl _,(show n≤n+(f+1) by omega),hq,h,he⟩
   |false=>
    have eqk:kA key p n=kA key p (n - 1):=O.total _ _ e e2
    have hs:Dn key p (n+1):=h.snoc (by omega) (by rw[eqk];exact KeyOrd.kle_refl _)
    obtain⟨a1,a2⟩:=desc_ok f p (n+1) (q+1) hp (by omega) (by omega) hs fun k h1 h2=>by
     by_cases ek:k=n
     ·rw[ek];rfl
     ·rw[he k (by omega) (by omega)];exact eqk.symm
    refine⟨.ask i1 i2 ?_,fun r er=>?_⟩
    ·rw[e,if_neg Bool.false_ne_true]
     refine .ask i2 i1 ?_
     rw[e2,if_neg Bool.false_ne_true];exact a1
    ·rw[un,e,if_neg Bool.false_ne_true] at er
     have er:evT (ltK key) (if ltK key (p.getD (n - 1) 0) (p.getD n 0)=true then KasT.ret (p,n,q) else kas_desc f p (n+1) (q+1))=r:=er
     rw[e2,if_neg Bool.false_ne_true] at er
     obtain⟨b1,b2,b3,b4,b5,b6⟩:=a2 r er
     exact⟨b1,by omega,by omega,b4,b5,b6⟩
def RunOk (key:Nat→O.α) (N:Nat) (r:Nat×Array Nat):Prop:=PermN N r.2∧1≤r.1∧r.1≤N∧Up key r.2 r.1
theorem tail3_ok {N n:Nat}{p:Array Nat}(hp:PermN N p)(h1:1≤n)(hn:n≤N)(h:Dn key p n):AskE (ltK key) N (kas_tail3 n N p)∧RunOk key N (evT (ltK key) (kas_tail3 n N p)):=by
 have hz:=hp.size
 obtain⟨a1,a2,a3,a4,_⟩:=asc_ok (hp.rev 0 n) (N - n) n h1 (by omega) (h.turn (by omega))
 unfold kas_tail3
 refine⟨a1.bind (.ret _),?_⟩
 rw[evT_bind]
 exact⟨hp.rev 0 n,by show 1≤evT _ _;omega,by show evT _ _≤N;omega,a4⟩
theorem descPart_ok {N n:Nat}{p:Array Nat}(hp:PermN N p)(hn:n+1≤N)(h:Dn key p (n+1)):AskE (ltK key) N (kas_descPart n N p)∧RunOk key N (evT (ltK key) (kas_descPart n N p)):=by
 obtain⟨a1,a2⟩:=desc_ok (N - (n+1)) p (n+1) 0 hp (by omega) (by omega) h fun k h1 h2=>by
  have:k=n+1 - 1:=by omega
  rw[this]
 obtain⟨b1,b2,b3,b4,b5,b6⟩:=a2 _ rfl
 unfold kas_descPart
 rw[evT_bind]
 revert b1 b2 b3 b4 b5 b6 a1
 generalize hR:evT (ltK key) (kas_desc (N - (n+1)) p (n+1) 0)=r
 intro a1 b1 b2 b3 b4 b5 b6
 have hz:=b1.size
 by_cases hq:r.2.2>0
 ·have ek:=kA_rev (p:=r.1) (i:=r.2.1 - (r.2.2+1)) (j:=r.2.1) (by omega) b6
  obtain⟨c1,c2⟩:=tail3_ok (b1.rev (r.2.1 - (r.2.2+1)) r.2.1) (by omega) (by omega) (b5.of_keys ek)
  refine⟨a1.bind ?_,?_⟩
  ·rw[hR,if_pos hq];exact c1
  ·rw[if_pos hq];exact c2
 ·obtain⟨c1,c2⟩:=tail3_ok b1 (by omega) (by omega) b5
  refine⟨a1.bind ?_,?_⟩
  ·rw[hR,if_neg hq];exact c1
  ·rw[if_neg hq];exact c2
theorem count_ok {N:Nat}{p:Array Nat}(hp:PermN N p)(h1:1≤N):AskE (ltK key) N (kas_count N p)∧RunOk key N (evT (ltK key) (kas_count N p)):=by
 have hz:=hp.size
 have u1:Up key p 1:=fun i j hij hj=>by
  have:i=j:=by omega
  subst this;exact KeyOrd.kle_refl _
 obtain⟨a1,a2,a3,a4,a5⟩:=asc_ok hp (N - 1) 1 (Nat.le_refl _) (by omega) u1
 unfold kas_count
 rw[evT_bind]
 revert a1 a2 a3 a4 a5
 generalize hR:evT (ltK key) (kas_asc p (N - 1) 1)=n
 intro a1 a2 a3 a4 a5
 have fin:∀{t:KasT (Nat×Array Nat)},(AskE (ltK key) N t∧RunOk key N (evT (ltK key) t))→∀{g:Nat→KasT (Nat×Array Nat)},g n=t→AskE (ltK key) N ((kas_asc p (N - 1) 1).bind g)∧RunOk key N (evT (ltK key) (g n)):=fun{t} ht {g} eg=>by
  refine⟨a1.bind ?_,?_⟩
  ·rw[hR,eg];exact ht.1
  ·rw[eg];exact ht.2
 by_cases hN:n=N
 ·exact fin (t:=.ret (n,p)) ⟨.ret _,hp,(show 1≤n by omega),(show n≤N by omega),a4⟩ (if_pos (by simp[hN]))
 ·have hlt:=a5 (by omega)
  by_cases hn1:n>1
  ·cases e:ltK key (p.getD 0 0) (p.getD (n - 1) 0) with
   |true=>
    refine fin ⟨.ask (hp.lt 0 (by omega)) (hp.lt (n - 1) (by omega)) ?_,?_⟩ (by rw[if_neg (by simp[hN]),if_pos hn1])
    ·rw[e,if_pos rfl];exact .ret _
    ·show RunOk key N (evT (ltK key) (if ltK key (p.getD 0 0) (p.getD (n - 1) 0)=true then _ else _))
     rw[e,if_pos rfl];exact⟨hp,by show 1≤n;omega,by show n≤N;omega,a4⟩
   |false=>
    have ea:∀k,0≤k→k<n→kA key p k=kA key p (n - 1):=fun k _ hk=>by
     have g1:O.kle (kA key p k) (kA key p (n - 1)):=a4 k (n - 1) (by omega) (by omega)
     have g2:O.kle (kA key p 0) (kA key p k):=a4 0 k (by omega) hk
     exact KeyOrd.kle_antisymm g1 (KeyOrd.kle_trans e g2)
    have ek:=kA_rev (p:=p) (i:=0) (j:=n) (by omega) ea
    have dn:Dn key p (n+1):=by
     have d0:Dn key p n:=fun i j hij hj=>by rw[ea i (by omega) (by omega),ea j (by omega) hj];exact KeyOrd.kle_refl _
     exact d0.snoc (by omega) (KeyOrd.kle_of_klt hlt)
    obtain⟨c1,c2⟩:=descPart_ok (hp.rev 0 n) (by omega) (dn.of_keys ek)
    refine fin ⟨.ask (hp.lt 0 (by omega)) (hp.lt (n - 1) (by omega)) ?_,?_⟩ (by rw[if_neg (by simp[hN]),if_pos hn1])
    ·rw[e,if_neg Bool.false_ne_true];exact c1
    ·show RunOk key N (evT (ltK key) (if ltK key (p.getD 0 0) (p.getD (n - 1) 0)=true then _ else _))
     rw[e,if_neg Bool.false_ne_true];exact c2
  ·have en:n=1:=by omega
   have dn:Dn key p (n+1):=by
    have d0:Dn key p n:=fun i j hij hj=>by
     have:i=j:=by omega
     subst this;exact KeyOrd.kle_refl _
    exact d0.snoc (by omega) (KeyOrd.kle_of_klt hlt)
   exact fin (descPart_ok hp (by omega) dn) (by rw[if_neg (by simp[hN]),if_neg hn1])
theorem place_ok {N k:Nat}{p:Array Nat}(hp:PermN N p)(hk:k<N)(hu:Up key p k):∀(f l r:Nat),l≤r→r≤k→r - l≤f→(∀i,i<l→O.kle (kA key p i) (kA key p k))→(∀i,r≤i→i<k→O.klt (kA key p k) (kA key p i))→
  AskE (ltK key) N (kas_place p k f l r)∧∀v,evT (ltK key) (kas_place p k f l r)=v→v≤k∧(∀i,i<v→O.kle (kA key p i) (kA key p k))∧(∀i,v≤i→i<k→O.klt (kA key p k) (kA key p i))
 |0,l,r,hlr,hrk,hf,h1,h2=>⟨.ret _,fun v e=>by
   cases e
   exact⟨(show l≤k by omega),h1,fun i hi=>h2 i (by have:l≤i:=hi;omega)⟩⟩
 |f+1,l,r,hlr,hrk,hf,h1,h2=>by
  by_cases hge:l≥r
  ·have eq:kas_place p k (f+1) l r=.ret l:=if_pos hge
   rw[eq]
   exact⟨.ret _,fun v e=>by cases e;exact⟨(show l≤k by omega),h1,fun i hi=>h2 i (by have:l≤i:=hi;omega)⟩⟩
  ·have eq:kas_place p k (f+1) l r=.ask (p.getD k 0) (p.getD ((l+r)/2) 0) fun c=>if c=true then kas_place p k f l ((l+r)/2) else kas_place p k f ((l+r)/2+1) r:=if_neg hge
   rw[eq]
   have hm:(l+r)/2<k:=by omega
   cases e:ltK key (p.getD k 0) (p.getD ((l+r)/2) 0) with
   |true=>
    obtain⟨a1,a2⟩:=place_ok hp hk hu f l ((l+r)/2) (by omega) (by omega) (by omega) h1 fun i hi hik=>KeyOrd.klt_of_klt_of_kle e (hu _ i hi hik)
    refine⟨.ask (hp.lt k hk) (hp.lt _ (by omega)) (by rw[e,if_pos rfl];exact a1),fun v ev=>a2 v ?_⟩
    have ev:evT (ltK key) (if ltK key (p.getD k 0) (p.getD ((l+r)/2) 0)=true then _ else _)=v:=ev
    rw[e,if_pos rfl] at ev
    exact ev
   |false=>
    obtain⟨a1,a2⟩:=place_ok hp hk hu f ((l+r)/2+1) r (by omega) hrk (by omega) (fun i hi=>KeyOrd.kle_trans (hu i ((l+r)/2) (by omega) hm) e) h2
    refine⟨.ask (hp.lt k hk) (hp.lt _ (by omega)) (by rw[e,if_neg Bool.false_ne_true];exact a1),fun v ev=>a2 v ?_⟩
    have ev:evT (ltK key) (if ltK key (p.getD k 0) (p.getD ((l+r)/2) 0)=true then _ else _)=v:=ev
    rw[e,if_neg Bool.false_ne_true] at ev
    exact ev
theorem getD_bubble {p:Array Nat}{k l:Nat}(hk:k<p.size)(hl:l≤k)(i:Nat):(bubble p k (k - l)).getD i 0=if i=l then p.getD k 0 else if l<i∧i≤k then p.getD (i - 1) 0 else p.getD i 0:=by
 rw[Array.getD_eq_getD_getElem?,getElem?_bubble hk (k - l) (by omega),show k - (k - l)=l by omega]
 simp only[Array.getD_eq_getD_getElem?]
 repeat' split
 all_goals rfl
theorem Up.bubble {N k l:Nat}{p:Array Nat}(hp:PermN N p)(hk:k<N)(hl:l≤k)(hu:Up key p k)(h1:∀i,i<l→O.kle (kA key p i) (kA key p k))(h2:∀i,l≤i→i<k→O.klt (kA key p k) (kA key p i)):Up key (bubble p k (k - l)) (k+1):=fun i j hij hj=>by
 have hz:=hp.size
 have e:∀i,kA key (PyProof.Rows.bubble p k (k - l)) i=if i=l then kA key p k else if l<i∧i≤k then kA key p (i - 1) else kA key p i:=fun i=>by
  unfold kA
  rw[getD_bubble (by omega) hl]
  repeat' split
  all_goals rfl
 rw[e,e]
 by_cases c1:i=l<;>by_cases c2:j=l
 ·rw[if_pos c1,if_pos c2];exact KeyOrd.kle_refl _
 ·rw[if_pos c1,if_neg c2,if_pos (by omega)];exact KeyOrd.kle_of_klt (h2 _ (by omega) (by omega))
 ·rw[if_neg c1,if_pos c2,if_neg (by omega)];exact h1 i (by omega)
 ·rw[if_neg c1,if_neg c2]
  by_cases d1:l<i∧i≤k
  ·rw[if_pos d1,if_pos (by omega)];exact hu _ _ (by omega) (by omega)
  ·rw[if_neg d1]
   by_cases d2:l<j∧j≤k
   ·rw[if_pos d2];exact hu _ _ (by omega) (by omega)
   ·rw[if_neg d2];exact hu _ _ hij (by omega)
theorem bin_ok {N:Nat}:∀(f:Nat) (p:Array Nat) (k:Nat),PermN N p→k+f=N→1≤k→Up key p k→AskE (ltK key) N (kas_bin f p k)∧PermN N (evT (ltK key) (kas_bin f p k))∧Up key (evT (ltK key) (kas_bin f p k)) N
 |0,p,k,hp,hk,_,hu=>⟨.ret _,hp,by rw[show N=k by omega];exact hu⟩
 |f+1,p,k,hp,hk,h1,hu=>by
  obtain⟨a1,a2⟩:=place_ok hp (by omega) hu k 0 k (Nat.zero_le _) (Nat.le_refl _) (by omega) (fun i hi=>absurd hi (Nat.not_lt_zero _)) fun i hi hik=>absurd hik (by omega)
  obtain⟨b1,b2,b3⟩:=a2 _ rfl
  unfold kas_bin
  rw[evT_bind]
  have hb:PermN N (bubble p k (k - evT (ltK key) (kas_place p k k 0 k))):=(bubble_perm _ _ _).trans hp
  obtain⟨c1,c2,c3⟩:=bin_ok f _ (k+1) hb (by omega) (by omega) (hu.bubble hp (by omega) b1 b2 b3)
  exact⟨a1.bind c1,c2,c3⟩
theorem sort_ok {N:Nat}(h1:1≤N):AskE (ltK key) N (kas_sort N)∧PermN N (evT (ltK key) (kas_sort N))∧Up key (evT (ltK key) (kas_sort N)) N:=by
 obtain⟨a1,a2,a3,a4,a5⟩:=count_ok (key:=key) (p:=List.toArray (List.range N)) (Array.Perm.refl _) h1
 unfold kas_sort
 rw[evT_bind]
 revert a1 a2 a3 a4 a5
 generalize hR:evT (ltK key) (kas_count N (List.toArray (List.range N)))=r
 intro a1 a2 a3 a4 a5
 by_cases h:r.1<N
 ·obtain⟨c1,c2,c3⟩:=bin_ok (N - max r.1 1) r.2 (max r.1 1) a2 (by omega) (by omega) (by rw[show max r.1 1=r.1 by omega];exact a5)
  refine⟨a1.bind (by rw[hR,if_pos h];exact c1),?_⟩
  rw[if_pos h];exact⟨c2,c3⟩
 ·refine⟨a1.bind (by rw[hR,if_neg h];exact .ret _),?_⟩
  rw[if_neg h]
  exact⟨a2,by rw[show N=r.1 by omega];exact a5⟩
end
end L2
namespace L2
open PySem PySem.Spec PyProof.Rows
mutual
inductive Dp (K:PySem.W.Frag) (H:Hp):V→PyData→Prop
 |non:Dp K H .non .none
 |bl (b:Bool):Dp K H (.bl b) (.bool b)
 |int (i:Int):Dp K H (.int i) (.int i)
 |str (x:Str) (h:PyData.strOk x=true):Dp K H (.str x) (.str x)
 |tup {a:Addr} {xs:List V} {ds:List PyData} (h:SqT K H a xs) (r:Dps K H xs ds):Dp K H (.ref a) (.tuple ds)
 |lst {a:Addr} {xs:List V} {ds:List PyData} (h:SqL K H a xs) (r:Dps K H xs ds):Dp K H (.ref a) (.list ds)
inductive Dps (K:PySem.W.Frag) (H:Hp):List V→List PyData→Prop
 |nil:Dps K H [] []
 |cons {x:V} {xs:List V} {d:PyData} {ds:List PyData} (h:Dp K H x d) (r:Dps K H xs ds):Dps K H (x::xs) (d::ds)
end
mutual
theorem Dp.lay {K:PySem.W.Frag}{H:Hp}:∀{v:V} {d:PyData},Dp K H v d→d.canLay0=true
 |_,_,.non=>rfl
 |_,_,.bl _=>rfl
 |_,_,.int _=>rfl
 |_,_,.str _ h=>by simpa[PyData.canLay0] using h
 |_,_,.tup _ r=>by simpa[PyData.canLay0] using r.lay
 |_,_,.lst _ r=>by simpa[PyData.canLay0] using r.lay
theorem Dps.lay {K:PySem.W.Frag}{H:Hp}:∀{xs:List V} {ds:List PyData},Dps K H xs ds→PyData.canLayAll0 ds=true
 |_,_,.nil=>by simp[PyData.canLayAll0]
 |_,_,.cons h r=>by simp[PyData.canLayAll0,h.lay,r.lay]
end
mutual
theorem Dp.reads {X:Cx}{pins:List (Addr×Obj)}{σ:St}{H:Hp}{s:Shared}(I:Inv X pins σ H s):∀{v:V} {d:PyData} {u:Value},Dp X.K H v d→RelV v u→∃as,Reads s.heap u d as
 |_,_,_,.non,r=>by cases(show _=Value.none from r);exact⟨_,.none⟩
 |_,_,_,.bl b,r=>by cases(show _=Value.bool b from r);exact⟨_,.bool b⟩
 |_,_,_,.int i,r=>by obtain⟨t,rfl⟩:=r;exact⟨_,.int i t⟩
 |_,_,_,.str x _,r=>by obtain⟨t,rfl⟩:=r;exact⟨_,.str x t⟩
 |_,_,_,.tup (a:=a) h rs,r=>by
  cases(show _=Value.ref a from r)
  obtain⟨its,rv,⟨o,ho,hc,n,hd⟩,_⟩:=I.tuple h
  obtain⟨as,ra⟩:=Dps.reads I rs rv
  exact⟨_,.tuple ho hc hd (by simpa using ra)⟩
 |_,_,_,.lst (a:=a) h rs,r=>by
  cases(show _=Value.ref a from r)
  obtain⟨its,rv,pl,_⟩:=I.list h
  obtain⟨o,ho,hc,n,hd⟩:=pl.isList
  obtain⟨as,ra⟩:=Dps.reads I rs rv
  exact⟨_,.list ho hc hd (by simpa using ra)⟩
theorem Dps.reads {X:Cx}{pins:List (Addr×Obj)}{σ:St}{H:Hp}{s:Shared}(I:Inv X pins σ H s):∀{xs:List V} {ds:List PyData} {us:List Value},Dps X.K H xs ds→Vals xs us→∃as,ReadsAll s.heap us ds as
 |_,_,_,.nil,.nil=>⟨_,.nil⟩
 |_,_,_,.cons h rs,.cons r rr=>by
  obtain⟨as,ra⟩:=Dp.reads I h r
  obtain⟨bs,rb⟩:=Dps.reads I rs rr
  exact⟨_,.cons ra rb⟩
end
section
variable {X:Cx}
def rEqD (K:PySem.W.Frag):R2:=fun x y H Q=>∃d e,Dp K H x d∧Dp K H y e∧d.depth≤60∧Q (.bl (PyData.eqv d e)) H
def rNeD (K:PySem.W.Frag):R2:=fun x y H Q=>∃d e,Dp K H x d∧Dp K H y e∧d.depth≤60∧Q (.bl (!PyData.eqv d e)) H
theorem op_eqD {k:Nat}(hr:Room k X.A):OpR X (compareOp .Eq) (rEqD X.K):=by
 intro pins s σ H x y v u Q I rx ry h
 obtain⟨d,e,h1,h2,hd,q⟩:=h
 obtain⟨as,r1⟩:=h1.reads I rx
 obtain⟨bs,r2⟩:=h2.reads I ry
 have:=hr.units
 exact SeqAt.compareEq_reads r1 r2 h1.lay h2.lay (by omega) ⟨.bl _,H,I,rfl,q⟩
theorem op_neD {k:Nat}(hr:Room k X.A):OpR X (compareOp .NotEq) (rNeD X.K):=by
 intro pins s σ H x y v u Q I rx ry h
 obtain⟨d,e,h1,h2,hd,q⟩:=h
 obtain⟨as,r1⟩:=h1.reads I rx
 obtain⟨bs,r2⟩:=h2.reads I ry
 have:=hr.units
 exact SeqAt.compareNe_reads r1 r2 h1.lay h2.lay (by omega) ⟨.bl _,H,I,rfl,q⟩
end
mutual
theorem eqv_refl:∀{d:PyData},d.canLay0=true→PyData.eqv d d=true
 | .none,_=>by simp[PyData.eqv]
 | .bool _,_=>by simp[PyData.eqv]
 | .int _,_=>by simp[PyData.eqv]
 | .str _,_=>by simp[PyData.eqv]
 | .list xs,h=>by simp only[PyData.eqv];exact eqvAll_refl (by simpa[PyData.canLay0] using h)
 | .tuple xs,h=>by simp only[PyData.eqv];exact eqvAll_refl (by simpa[PyData.canLay0] using h)
 | .dict _,h=>by simp[PyData.canLay0] at h
theorem eqvAll_refl:∀{ds:List PyData},PyData.canLayAll0 ds=true→PyData.eqvAll ds ds=true
 |[],_=>by simp[PyData.eqvAll]
 |d::r,h=>by
  have h':d.canLay0=true∧PyData.canLayAll0 r=true:=by simpa[PyData.canLayAll0] using h
  simp only[PyData.eqvAll,eqv_refl h'.1,eqvAll_refl h'.2,Bool.and_self]
end
theorem dps_ints {K:PySem.W.Frag}{H:Hp}:∀(ns:List Int),Dps K H (ns.map V.int) (ns.map PyData.int)
 |[]=> .nil
 |n::r=> .cons (.int n) (dps_ints r)
theorem Dp.ints {K:PySem.W.Frag}{H:Hp}{a:Addr}{ns:List Int}(h:SqT K H a (ns.map V.int)):Dp K H (.ref a) (.tuple (ns.map PyData.int)):=.tup h (dps_ints ns)
theorem eqvAll_ints:∀(ns ms:List Int),PyData.eqvAll (ns.map PyData.int) (ms.map PyData.int)=decide (ns=ms)
 |[],[]=>by simp[PyData.eqvAll]
 |[],_::_=>by simp[PyData.eqvAll]
 |_::_,[]=>by simp[PyData.eqvAll]
 |n::r,m::t=>by
  simp only[List.map_cons,PyData.eqvAll,PyData.eqv,eqvAll_ints r t,List.cons.injEq]
  by_cases h1:n=m<;>by_cases h2:r=t<;>simp[h1,h2]
theorem eqv_tints (ns ms:List Int):PyData.eqv (.tuple (ns.map PyData.int)) (.tuple (ms.map PyData.int))=decide (ns=ms):=by simp only[PyData.eqv];exact eqvAll_ints ns ms
theorem depthAll_le {n:Nat}:∀{ds:List PyData},(∀d∈ds,d.depth≤n)→PyData.depthAll ds≤n
 |[],_=>by simp[PyData.depthAll]
 |d::r,h=>by
  simp only[PyData.depthAll]
  exact Nat.max_le.mpr ⟨h d List.mem_cons_self,depthAll_le fun e he=>h e (List.mem_cons_of_mem _ he)⟩
theorem depth_tints (ns:List Int):(PyData.tuple (ns.map PyData.int)).depth≤1:=by
 have:PyData.depthAll (ns.map PyData.int)≤0:=depthAll_le fun d hd=>by
  obtain⟨i,_,rfl⟩:=List.mem_map.mp hd
  simp[PyData.depth]
 simp only[PyData.depth];omega
theorem SqT.kept {K:PySem.W.Frag}{H H':Hp}{a:Addr}{xs:List V}(e:∀b o,H b=some o→H' b=some o)(h:SqT K H a xs):SqT K H' a xs:=SqT.same e h
mutual
theorem Dp.same {K:PySem.W.Frag}{H H':Hp}(e:Same H H'):∀{v:V} {d:PyData},Dp K H v d→Dp K H' v d
 |_,_,.non=> .non
 |_,_,.bl b=> .bl b
 |_,_,.int i=> .int i
 |_,_,.str x h=> .str x h
 |_,_,.tup h r=> .tup (h.same e) (Dps.same e r)
 |_,_,.lst h r=> .lst (e.seq h) (Dps.same e r)
theorem Dps.same {K:PySem.W.Frag}{H H':Hp}(e:Same H H'):∀{xs:List V} {ds:List PyData},Dps K H xs ds→Dps K H' xs ds
 |_,_,.nil=> .nil
 |_,_,.cons h r=> .cons (Dp.same e h) (Dps.same e r)
end
section
variable {σ:St} {H:Hp} {ta tb:TE} {x y:V} {d e:PyData} {K:PySem.W.Frag}
theorem ev_neD (ha:Ev ta σ H x)(hb:Ev tb σ H y)(h1:Dp K H x d)(h2:Dp K H y e)(hd:d.depth≤60):Ev (tOp (rNeD K) ta tb) σ H (.bl (!PyData.eqv d e)):=fun _ z=>ha _ (hb _ ⟨d,e,h1,h2,hd,z⟩)
end
theorem Inv.laidN {X:Cx}{pins:List (Addr×Obj)}{σ:St}{H:Hp}{s:Shared}{h':Heap}{t':Nat}{a:Addr}{o:HO}(I:Inv X pins σ H s)(k:∀b u,b≠X.env.locals→s.heap.get? b=some u→h'.get? b=some u)
  (ns:∀m,s.heap.Ns X.env.locals m→h'.Ns X.env.locals m) (hn:s.heap.get? a=none) (new:ObjOk X.prog X.w (upd H a o) h' a o):Inv X pins σ (upd H a o) {s with heap:=h',toks:=t'}:=by
 have hHa:H a=none:=I.hok.none_of hn
 have trk:∀b u,H b=some u→b≠X.env.locals:=fun b u e z=>by rw[z,I.free] at e;cases e
 have nea:∀b u,s.heap.get? b=some u→b≠a:=fun b u e z=>by rw[z,hn] at e;cases e
 refine I.step (g':=s.gens) (d':=s.drawn) (ch:=[]) (fun _ z=>nomatch z) (fun b u hL _ _ e _=>k b u hL e) (fun b u hL _ _ e _=>⟨u.slots,k b u hL e⟩) (fun b u _ e n=>by rw[upd_ne (nea b u e)];exact n)
  (fun b u _ e=>?_) (fun b xs e=>by rw[upd_ne (ne_of_none e hHa)];exact e) (fun b u xs e=>by rw[upd_ne (ne_of_none e hHa)];exact e) (fun b ps e=>⟨#[],by rw[upd_ne (ne_of_none e hHa),e];simp⟩) ns (fun b u e=>?_) I.bare
 ·by_cases hb:b=X.env.locals
  ·obtain⟨m,hm,_⟩:=I.loc
   obtain⟨o',_,_,e',_⟩:=ns m hm
   exact⟨o',by rw[hb];exact e'⟩
  ·exact⟨u,k b u hb e⟩
 ·by_cases hb:b=a
  ·subst hb;rw[upd_same] at e;cases e;exact new
  ·rw[upd_ne hb] at e
   refine(I.hok b u e).stay (fun c v hc q=>k c v ?_ q) (fun c q=>by rw[upd_ne (ne_of_none q hHa)];exact q) fun c xs q=>by rw[upd_ne (ne_of_none q hHa)];exact q
   rcases hc with rfl|hc
   ·exact trk _ _ e
   ·exact trk _ _ hc
theorem ns_inj {h:Heap}{a:Addr}{m m':Str→Option Value}(x:h.Ns a m)(y:h.Ns a m'):m=m':=by
 obtain⟨o,es,ep,ho,hd,_,f⟩:=x
 obtain⟨o',es',ep',ho',hd',_,f'⟩:=y
 rw[ho] at ho';cases ho'
 rw[hd] at hd';cases hd'
 funext n
 rw[←f,←f']
theorem vals_of_refs:∀cs:List Addr,Vals (cs.map V.ref) (cs.map Value.ref)
 |[]=> .nil
 |_::r=> .cons rfl (vals_of_refs r)
theorem lex_irrefl:∀a:List Int,HT.lexLt a a=false
 |[]=>rfl
 |x::r=>by rw[HT.lexLt_cons,if_pos rfl];exact lex_irrefl r
theorem lex_total:∀a b:List Int,HT.lexLt a b=false→HT.lexLt b a=false→a=b
 |[],[],_,_=>rfl
 |[],_::_,h,_=>by rw[HT.lexLt_nil_cons] at h;cases h
 |_::_,[],_,h=>by rw[HT.lexLt_nil_cons] at h;cases h
 |x::r,y::t,h1,h2=>by
  rw[HT.lexLt_cons] at h1 h2
  by_cases e:x=y
  ·subst e
   rw[if_pos rfl] at h1 h2
   rw[lex_total r t h1 h2]
  ·rw[if_neg e] at h1
   rw[if_neg (Ne.symm e)] at h2
   have:=of_decide_eq_false h1
   have:=of_decide_eq_false h2
   omega
theorem lex_trans:∀a b c:List Int,HT.lexLt a b=true→HT.lexLt b c=true→HT.lexLt a c=true
 |[],_,[],_,h=>by
  rename_i b _
  cases b with
  |nil=>rw[HT.lexLt_nil_nil] at h;cases h
  |cons y t=>rw[HT.lexLt_cons_nil] at h;cases h
 |[],_,_::_,_,_=>rfl
 |_::_,[],_,h,_=>by rw[HT.lexLt_cons_nil] at h;cases h
 |_::_,_::_,[],_,h=>by rw[HT.lexLt_cons_nil] at h;cases h
 |x::r,y::t,z::u,h1,h2=>by
  rw[HT.lexLt_cons] at h1 h2⊢
  by_cases e1:x=y<;>by_cases e2:y=z
  ·subst e1;subst e2
   rw[if_pos rfl] at h1 h2⊢
   exact lex_trans r t u h1 h2
  ·subst e1
   rw[if_neg e2] at h2⊢
   exact h2
  ·subst e2
   rw[if_neg e1] at h1⊢
   exact h1
  ·rw[if_neg e1] at h1
   rw[if_neg e2] at h2
   have:=of_decide_eq_true h1
   have:=of_decide_eq_true h2
   rw[if_neg (by omega)]
   exact decide_eq_true (by omega)
theorem lex_neg (a b c:List Int)(h:HT.lexLt a c=true):HT.lexLt a b=true∨HT.lexLt b c=true:=by
 cases h1:HT.lexLt a b with
 |true=>exact .inl rfl
 |false=>
  refine .inr ?_
  cases h2:HT.lexLt b a with
  |true=>exact lex_trans b a c h2 h
  |false=>rw[←lex_total a b h1 h2];exact h
noncomputable def lexO:KeyOrd:=⟨List Int,HT.lexLt,lex_irrefl,lex_trans,lex_neg,lex_total⟩
abbrev Tups (H:Hp) (as:List Addr) (cs:List (List Int)):Prop:=Paired (fun a (c:List Int)=>H a=some (.tup (c.map V.int))) as cs
theorem Tups.at {H:Hp}:∀{as:List Addr} {cs:List (List Int)} {i:Nat} {a:Addr},Tups H as cs→as[i]?=some a→∃c,cs[i]?=some c∧H a=some (.tup (c.map V.int))
 |_,_,0,_,.cons h _,e=>by cases e;exact⟨_,rfl,h⟩
 |_,_,i+1,_,.cons _ t,e=>Tups.at (i:=i) t e
 |_,_,_,_,.nil,e=>by simp at e
theorem Tups.same {H H':Hp}{as:List Addr}{cs:List (List Int)}(h:Tups H as cs)(e:Same H H'):Tups H' as cs:=Paired.mapP h fun _ _ z=>e _ _ z
theorem Tups.dps {K:PySem.W.Frag}{H:Hp}:∀{as:List Addr} {cs:List (List Int)},Tups H as cs→Dps K H (as.map V.ref) (cs.map fun c=>PyData.tuple (c.map PyData.int))
 |_,_,.nil=> .nil
 |_,_,.cons h t=> .cons (.ints (SqT.of h)) (Tups.dps t)
open PySem.W in
theorem katlex_ints {prog:Program}{w:World}{A:Around}{b fin:Bool}{Q:Bool→Shared→Prop}{s:Shared}:∀(us ws:List Value) (ns ms:List Int) (i:Nat),Vals (ns.map V.int) us→Vals (ms.map V.int) ws→fin=decide (ns.length<ms.length)→
  Q (HT.lexLt ns ms) s→KatLex prog w A b fin Q (us.zip ws) i s
 |[],ws,ns,ms,i,r1,r2,hf,h=>by
  cases ns with
  |cons n r=>cases r1
  |nil=>
   refine kat_nil ?_
   rw[hf]
   cases ms with
   |nil=>exact h
   |cons m t=>exact h
 |u::us,[],ns,ms,i,r1,r2,hf,h=>by
  cases ms with
  |cons m t=>cases r2
  |nil=>
   refine kat_nil ?_
   rw[hf]
   cases ns with
   |nil=>exact h
   |cons m t=>exact h
 |u::us,v::ws,ns,ms,i,r1,r2,hf,h=>by
  cases ns with
  |nil=>cases r1
  |cons n r=>
   cases ms with
   |nil=>cases r2
   |cons m t=>
    cases r1 with
    |cons q1 r1=>
     cases r2 with
     |cons q2 r2=>
      obtain⟨t1,rfl⟩:=q1
      obtain⟨t2,rfl⟩:=q2
      refine kat_cons (wpAny_eqBool_int ?_)
      rw[HT.lexLt_cons] at h
      refine kat_go (fun e=>?_) (fun e=>?_)
      ·have e':n=m:=by simpa using e
       rw[if_pos e'] at h
       exact kat_yes (katlex_ints us ws r t (i+1) r1 r2 (by rw[hf];simp) h)
      ·have e':¬n=m:=by simpa using e
       rw[if_neg e'] at h
       refine kat_no ?_
       cases(b&&i==0) with
       |true=>exact oneLt_int h
       |false=>exact kat_one _ _ (lt_int h)
theorem tups_kat {X:Cx}{pins:List (Addr×Obj)}{σ:St}{H:Hp}{s:Shared}{h':Heap}(I:Inv X pins σ H s)(k:∀b u,b≠X.env.locals→s.heap.get? b=some u→h'.get? b=some u):∀{as:List Addr} {cs:List (List Int)},Tups H as cs→(∀c∈cs,c≠[])→
  ∃fs:List Value,PySem.W.KatTups h' (as.map Value.ref) fs∧fs.length=as.length∧∀v∈fs,∃i t,v=Value.int i t
 |_,_,.nil,_=>⟨[],PySem.W.KatTups.nil,rfl,fun _ h=>nomatch h⟩
 |_,_,.cons (a:=a) (b:=c) h t,hne=>by
  obtain⟨fs,h1,h2,h3⟩:=tups_kat I k t fun d hd=>hne d (List.mem_cons_of_mem _ hd)
  obtain⟨_,its,rv,o,ho,hc,n,hd⟩:=(show ObjOk X.prog X.w H s.heap a (.tup (c.map V.int)) from I.hok a _ h)
  have ha:a≠X.env.locals:=fun z=>by rw[z,I.free] at h;cases h
  cases c with
  |nil=>exact absurd rfl (hne _ List.mem_cons_self)
  |cons i r=>
   cases rv with
   |cons q rv=>
    obtain⟨t',rfl⟩:=q
    refine⟨.int i t'::fs,PySem.W.KatTups.cons (k a o ha ho) hc hd (by simp) h1,by simp[h2],fun v hv=>?_⟩
    rcases List.mem_cons.mp hv with rfl|hv
    ·exact⟨i,t',rfl⟩
    ·exact h3 v hv
theorem Paired.pick {α β:Type}{F:α→β→Prop}(da:α)(db:β):∀{l₁:List α} {l₂:List β},Paired F l₁ l₂→∀(ix:List Nat),(∀i∈ix,i<l₁.length)→Paired F (ix.map fun i=>l₁.getD i da) (ix.map fun i=>l₂.getD i db)
 |l₁,l₂,h,[],_=> .nil
 |l₁,l₂,h,i::ix,hi=>by
  refine .cons ?_ (Paired.pick da db h ix fun j hj=>hi j (List.mem_cons_of_mem _ hj))
  have hlt:=hi i List.mem_cons_self
  clear hi
  induction h generalizing i with
  |nil=>exact absurd hlt (Nat.not_lt_zero _)
  | @cons a b l₁ l₂ q t ih=>
   cases i with
   |zero=>exact q
   |succ j=>exact ih (i:=j) (by simpa using hlt)
theorem pick_perm {α:Type}(d:α)(l:List α){p:Array Nat}(hp:PermN l.length p):(p.toList.map fun i=>l.getD i d).Perm l:=by
 have h:p.toList.Perm (List.range l.length):=by
  have:=Array.perm_iff_toList_perm.mp hp
  simpa using this
 refine(h.map _).trans ?_
 have e:(List.range l.length).map (fun i=>l.getD i d)=l:=by
  apply List.ext_getElem?
  intro i
  by_cases hi:i<l.length
  ·simp[hi]
  ·simp[hi]
 rw[e]
section
variable {X:Cx}
theorem call_sortedT {k:Nat}(hr:Room k X.A):CallR X (.builtin "sorted") (fun xs H Q=>∃(p:Addr) (as:List Addr) (cs:List (List Int)),xs=[.ref p]∧SqL X.K H p (as.map V.ref)∧Tups H as cs∧(∀c∈cs,c≠[])∧2≤as.length∧as.length<64∧
  ∀l bs ds,H l=none→Tups H bs ds→ds.Perm cs→ds.Pairwise (fun c d=>HT.lexLt d c=false)→Q (.ref l) (upd H l (.lst (bs.map V.ref)))):=by
 intro pins s σ H xs us Q I r h
 obtain⟨p,as,cs,rfl,hp,ht,hne,h2,h64,q⟩:=h
 obtain⟨u,rfl,rx⟩:=vals1 r
 cases rx
 obtain⟨its,rv,pl,hz⟩:=I.list hp
 cases vals_refs rv
 have hcl:as.length=cs.length:=ht.length
 obtain⟨m,hm,_⟩:=id I.loc
 refine PySem.W.kat_sorted (h₀:=Att.noObjs s.heap) (L:=X.env.locals) (m:=m) (news:=allNews (Att.noObjs s.heap) s.heap X.env.locals) (Att.fr_all hm) news_all pl.isList (by simpa using h2) (by simpa using h64) fun D e1 h' F' N' hD=>?_
 have k0:∀b u,b≠X.env.locals→s.heap.get? b=some u→h'.get? b=some u:=fun b u hb e=>(N' (b,u) (List.mem_cons_of_mem _ (mem_allNews hb (Att.noObjs_get _ _) e))).1
 have hDn:s.heap.get? D=none:=by
  cases e:s.heap.get? D with
  |none=>rfl
  |some u=>exact absurd (hD (D,u) (mem_allNews (N' (D,_) List.mem_cons_self).2.1 (Att.noObjs_get _ _) e)) (Nat.lt_irrefl _)
 obtain⟨fs,kt,hfl,hfi⟩:=tups_kat I k0 ht hne
 refine PySem.W.kat_kind (s:={s with heap:=h'}) (T:=.type "int") kt (by omega) (fun v hv=>?_) rfl ?_
 ·obtain⟨i,t,rfl⟩:=hfi v hv
  exact .now
 have hl:(as.map Value.ref).length=as.length:=List.length_map ..
 obtain⟨s1,s2,s3⟩:=sort_ok (O:=lexO) (key:=fun i=>cs.getD i []) (N:=as.length) (by omega)
 rw[hl]
 refine kas_ev (lt:=ltK (O:=lexO) fun i=>cs.getD i []) (I:=fun s'=>s'={s with heap:=h'}) (fun i j C s' hi hj hs hC=>?_) s1 rfl fun s' hs=>?_
 ·subst hs
  obtain⟨ci,e1,g1⟩:=ht.at (i:=i) (a:=as[i]) (by simp[hi])
  obtain⟨cj,e2,g2⟩:=ht.at (i:=j) (a:=as[j]) (by simp[hj])
  have v1:(as.map Value.ref).getD i Value.none=.ref as[i]:=by simp[hi]
  have v2:(as.map Value.ref).getD j Value.none=.ref as[j]:=by simp[hj]
  have hne1:as[i]≠X.env.locals:=fun z=>by rw[z,I.free] at g1;cases g1
  have hne2:as[j]≠X.env.locals:=fun z=>by rw[z,I.free] at g2;cases g2
  obtain⟨_,xs1,rv1,o1,ho1,_,n1,hd1⟩:=(show ObjOk X.prog X.w H s.heap as[i] (.tup (ci.map V.int)) from I.hok _ _ g1)
  obtain⟨_,xs2,rv2,o2,ho2,_,n2,hd2⟩:=(show ObjOk X.prog X.w H s.heap as[j] (.tup (cj.map V.int)) from I.hok _ _ g2)
  unfold PySem.W.kas_ask
  rw[v1,v2]
  refine PySem.W.kat_lt (k0 _ _ hne1 ho1) hd1 (k0 _ _ hne2 ho2) hd2 ?_
  have l1:=rv1.length
  have l2:=rv2.length
  rw[List.length_map] at l1 l2
  refine katlex_ints xs1 xs2 ci cj 0 rv1 rv2 (by simp[l1,l2]) ?_
  have:=hC _ rfl
  simp only[ltK,List.getD_eq_getElem?_getD,e1,e2,Option.getD_some] at this
  exact this
 ·subst hs
  refine PySem.W.KasFin.intro (s:={s with heap:=h'}) F' N' (.head fun p hp=>Nat.ne_of_lt (hD p hp)) fun h2' c F2 N2=>?_
  have hix:∀i∈(evT (ltK (O:=lexO) fun i=>cs.getD i []) (PySem.W.kas_sort as.length)).toList,i<as.length:=fun i hi=>by
   have:=(Array.perm_iff_toList_perm.mp s2).mem_iff.mp hi
   simpa using this
  generalize hE:evT (ltK (O:=lexO) fun i=>cs.getD i []) (PySem.W.kas_sort as.length)=P at s2 s3 hix N2
  have hb:(P.toList.map fun i=>(as.map Value.ref).getD i Value.none)=(P.toList.map fun i=>as.getD i 0).map Value.ref:=by
   rw[List.map_map]
   refine List.map_congr_left fun i hi=>?_
   have:=hix i hi
   simp[this]
  have I':Inv X pins σ (upd H D (.lst ((P.toList.map fun i=>as.getD i 0).map V.ref))) {s with heap:=h2',toks:=s.toks}:=by
   refine I.laidN (fun b u hb e=>?_) (fun m' hm'=>?_) hDn ?_
   ·exact(N2 (b,u) (List.mem_cons_of_mem _ (mem_allNews hb (Att.noObjs_get _ _) e))).1
   ·have:m'=m:=ns_inj hm' hm
    rw[this];exact F2.ns
   ·have e:=(N2 (D,_) List.mem_cons_self).1
    rw[hb] at e
    refine⟨?_,_,_,vals_of_refs _,e⟩
    rw[List.length_map,List.length_map,Array.length_toList,s2.size]
    exact Nat.le_trans (Nat.le_of_lt h64) (by decide)
  refine⟨.ref D,_,I',rfl,q D _ _ (I.hok.none_of hDn) (Paired.pick 0 [] ht _ hix) (pick_perm [] cs (by rw[←hcl];exact s2)) ?_⟩
  rw[List.pairwise_iff_getElem]
  intro i j hi hj hij
  simp only[List.length_map,Array.length_toList] at hi hj
  have:=s3 i j (Nat.le_of_lt hij) (by rw[s2.size] at hj;exact hj)
  simp only[List.getElem_map,Array.getElem_toList]
  unfold kA at this
  simp only[Array.getD_eq_getD_getElem?,Array.getElem?_eq_getElem hi,Array.getElem?_eq_getElem hj,Option.getD_some] at this
  exact this
end
section
variable {prog:Program} {w:World} {A:Around} {E:Value→Shared→Prop} {s:Shared}
theorem sort_few {l:Addr}{vs:List Value}{c:Nat}{P:Fin→Shared→Prop}(g:s.heap.get? l=some (seqObj "list" vs.toArray c))(few:vs.length<2)(fin:P (.done (.ret .none)) {s with heap:=sortedHeap s.heap l vs vs.toArray}):
  wpAny (model prog w) A (Builtin.«list.sort» ⟨[.ref l],[]⟩) P E s:=by
 have lt:l<s.heap.objs.size:=Heap.lt_size g
 rw[list_sort_plain]
 apply wpAny_bind
 refine listItems_at g rfl ?_
 apply wpAny_bind
 refine listUpdate_at g rfl ?_
 obtain⟨n1,g1⟩:∃n1,(s.heap.update l (Obj.mapSeq fun _=> #[])).get? l=some (seqObj "list" #[] n1):=⟨_,get?_update_seq g (fun _=> #[])⟩
 apply wpAny_bind
 refine seqEpoch_at g1 rfl ?_
 apply wpAny_bind
 refine wpAny_newTuple ?_ (by rw[sizeLine_eq];simp;omega)
 apply wpAny_bind
 refine wpAny_newList ?_ (by decide)
 apply wpAny_holding
 have g6:(((s.heap.update l (Obj.mapSeq fun _=> #[])).push (seqObj "tuple" vs.toArray 0)).push (seqObj "list" #[] 0)).get? l=some (seqObj "list" #[] n1):=by
  rw[Heap.get?_push_ne _ _ _ (Nat.ne_of_lt (by rw[size_push',Heap.size_update];exact Nat.lt_succ_of_lt lt))]
  rw[Heap.get?_push_ne _ _ _ (Nat.ne_of_lt (by rw[Heap.size_update];exact lt))]
  exact g1
 show wpAny (model prog w) A _ P E ({s with heap:=((s.heap.update l (Obj.mapSeq fun _=> #[])).push (seqObj "tuple" vs.toArray 0)).push (seqObj "list" #[] 0)}:Shared)
 dsimp only
 have few':vs.toArray.size<2:=by simpa using few
 rw[if_pos few',if_pos few']
 apply wpAny_bind
 apply wpAny_pure
 rw[StateT.run_pure]
 apply wpAny_bind
 apply wpAny_pure
 dsimp only
 apply wpAny_bind
 refine seqEpoch_at g6 rfl ?_
 have eo:(arrOf (SortSt.mk' general' (vs.toArray.zip vs.toArray) #[] 7 none)).map (·.2)=vs.toArray:=by
  show(vs.toArray.zip vs.toArray).map (·.2)=vs.toArray
  match vs,few with
  |[],_=>simp
  |[_],_=>simp
 rw[eo]
 apply wpAny_bind
 refine listUpdate_at g6 rfl ?_ (hsz2:=by rw[List.size_toArray,sizeLine_eq];omega)
 simp only[bne_self_eq_false,Bool.false_eq_true]
 exact wpAny_pure fin
theorem sorted_few {l:Addr}{vs:List Value}{Q:Value→Shared→Prop}(g:s.heap.IsList l vs.toArray)(few:vs.length<2)(h:Q (.ref (s.heap.objs.size+1)) {s with heap:=sortedAll s.heap vs vs.toArray}):
  wpAny (model prog w) A (call (.builtin "sorted") [.ref l]) Q E s:=by
 apply Calls.call_function_entry kind_sorted plain_sorted entry_sorted (args_sorted1 _)
 unfold Builtin.«sorted»
 refine wpAny_bind (m:=checkCount "sorted" 1 1 _) ?_
 apply wpAny_pure
 apply wpAny_bind
 refine collect_list g ?_ (by rw[sizeLine_eq];omega)
 apply wpAny_bind
 refine wpAny_newList ?_ (by rw[sizeLine_eq];omega)
 have z:((s.heap.push (seqObj "list" #[] 0)).update s.heap.objs.size (Obj.mapSeq (· ++vs.toArray))).objs.size=s.heap.objs.size+1:=(Heap.size_update ..).trans (size_push' ..)
 have gD:(((s.heap.push (seqObj "list" #[] 0)).update s.heap.objs.size (Obj.mapSeq (· ++vs.toArray))).push (seqObj "list" vs.toArray 0)).get? (s.heap.objs.size+1)=some (seqObj "list" vs.toArray 0):=z▸Heap.get?_push_size _ rfl
 show wpAny _ _ _ _ _ ({s with heap:=((s.heap.push (seqObj "list" #[] 0)).update s.heap.objs.size (Obj.mapSeq (· ++vs.toArray))).push (seqObj "list" vs.toArray 0)}:Shared)
 rw[z]
 apply wpAny_bind
 apply wpAny_holding
 refine wpAny_call_entry slot_list_sort ⟨_,gD,rfl⟩ entry_list_sort ?_ (args_list_sort _)
 refine sort_few gD few ⟨_,rfl,?_⟩
 exact wpAny_pure ⟨_,rfl,h⟩
end
section
variable {X:Cx}
theorem call_sorted1:CallR X (.builtin "sorted") (fun xs H Q=>∃(p:Addr) (ys:List V),xs=[.ref p]∧SqL X.K H p ys∧ys.length<2∧∀l,H l=none→Q (.ref l) (upd H l (.lst ys))):=by
 intro pins s σ H xs us Q I r h
 obtain⟨p,ys,rfl,hp,h2,q⟩:=h
 obtain⟨u,rfl,rx⟩:=vals1 r
 cases rx
 obtain⟨its,rv,pl,hz⟩:=I.list hp
 have hl:=rv.length
 refine sorted_few pl.isList (by omega) ?_
 obtain⟨e,he⟩:=sortedAll_at s.heap its its.toArray
 have hn:s.heap.get? (s.heap.objs.size+1)=none:=Heap.get?_none_of_le (Nat.le_succ _)
 refine⟨.ref _,_,I.laidN (t':=s.toks) (a:=s.heap.objs.size+1) (o:=.lst ys) (fun b u _ e=>sortedAll_old e) (fun m hm=>?_) hn ⟨hz,its,e,rv,he⟩,rfl,q _ (I.hok.none_of hn)⟩
 obtain⟨o,es,ep,ho,r⟩:=hm
 exact⟨o,es,ep,sortedAll_old ho,r⟩
end
section
variable {X:Cx}
theorem call_sortedI {k:Nat}(hr:Room k X.A):CallR X (.builtin "sorted") (fun xs H Q=>∃(p:Addr) (as:List Addr) (cs:List (List Int)),xs=[.ref p]∧SqL X.K H p (as.map V.ref)∧Tups H as cs∧(∀c∈cs,c≠[])∧as.length<64∧
  ∀l bs ds,H l=none→Tups H bs ds→ds.Perm cs→ds.Pairwise (fun c d=>HT.lexLt d c=false)→Q (.ref l) (upd H l (.lst (bs.map V.ref)))):=by
 intro pins s σ H xs us Q I r h
 obtain⟨p,as,cs,rfl,hp,ht,hne,h64,q⟩:=h
 by_cases h2:2≤as.length
 ·exact call_sortedT hr pins s σ H _ us Q I r ⟨p,as,cs,rfl,hp,ht,hne,h2,h64,q⟩
 ·have hl:as.length=cs.length:=ht.length
  refine call_sorted1 pins s σ H _ us Q I r ⟨p,_,rfl,hp,by rw[List.length_map];omega,fun l hn=>q l as cs hn ht (List.Perm.refl _) ?_⟩
  match cs,hl with
  |[],_=>exact .nil
  |[_],_=>exact List.pairwise_singleton _ _
  |_::_::_,hl=>simp only[List.length_cons] at hl;omega
end
abbrev cp (z:Str):List Nat:=z.cps.toList
theorem cp_len (z:Str):(cp z).length=z.length:=by simp[Str.length]
noncomputable def Its (z:Str):It:=⟨fun i _=>i<z.cps.size,fun i H x H'=>H'=H∧∃c,(cp z)[i]?=some c∧x=.str ⟨#[c]⟩,fun i _=>z.cps.size≤i⟩
theorem go_str {M:Model}{A:Around}{E:Value→Shared→Prop}{s:Shared}{tg:Expr}{it:Addr}{x:Str}{t:Tok}{Q:Unit→Shared→Prop}(hQ:Q () s):wpAny M A (letOwnedTupleGo tg (.ref it) (.str x t)) Q E s:=by
 unfold letOwnedTupleGo
 cases tg<;>exact wpAny_pure hQ
theorem turn_str {P:Program}{w:World}{K:PySem.W.Frag}{tg:Expr}(z:Str)(t:Tok)(it:Addr):Turn P w K tg (Its z) [it] it (fun i h=>h.IsStrIter it "str_ascii_iterator" z t i) where
 mem:=by simp
 obj:=fun i h st b hb=>by
  have e:b=it:=by simpa using hb
  subst e
  obtain⟨o,e,c,d⟩:=st
  exact⟨o,e,fun v z=>by rw[d] at z;cases z⟩
 keep:=fun i h h' st k=>by
  obtain⟨o,e,r⟩:=st
  exact⟨o,k it (by simp) o e,r⟩
 item:=by
  intro X hP hw hK hc i pins s σ H E I hf hst hg
  subst hP hw hK
  obtain⟨f0,f1,f2,f3,f4,f5⟩:=hf it (by simp)
  have W:=Walks.strAscii (prog:=X.prog) (w:=X.w) (I.ok.hd hc) it z t
  refine W.item i s _ _ hg hst fun v h' tk hv st' kk=>?_
  obtain⟨c,u,ec,rfl⟩:=hv
  have I1:Inv X pins σ H {s with heap:=h',toks:=tk}:=I.turned (fun b o hb e=>kk b o (by simpa using hb) e) f0 f1 f3 f4 f5
  exact⟨_,rfl,go_str ⟨.str ⟨#[c]⟩,H,I1,⟨u,rfl⟩,⟨rfl,c,by rw[←ec];simp,rfl⟩,st',fun b hb=>(hf b hb).1⟩⟩
 done:=by
  intro X hP hw hK hc i pins s σ H E I hf hst hg
  subst hP hw hK
  obtain⟨f0,f1,f2,f3,f4,f5⟩:=hf it (by simp)
  exact wpAny_pyNext_ascii_end (I.ok.hd hc) hst (by have:z.cps.size≤i:=hg;simp[this]) fun h' eb=>⟨rfl,I.turned (t':=s.toks) (fun b o hb e=>eb b o hb e) f0 f1 f3 f4 f5⟩
 self:=fun _ _ _ _ _ st h=>wpAny_pyIter_striter_ascii st h
def iStr (tl:TE):TI:=fun σ H R=>tl σ H fun x H1=>∃z,x=.str z∧z.cps.all (· <128)=true∧R (Its z) H1
section
variable {X:Cx} {tg:Expr}
theorem pi_str {l:Expr}{tl:TE}(hl:PE X l tl):PI X tg l (iStr tl):=by
 intro pins s σ H R I h
 refine thn (hl pins s σ H _ I h) fun v s1 ⟨x,H1,I1,r1,q1⟩=>?_
 obtain⟨z,e,ha,q⟩:=q1
 subst e
 obtain⟨t,rfl⟩:=r1
 refine wpAny_pyIter_ascii ha ?_
 refine⟨s1.heap.objs.size,[s1.heap.objs.size],_,_,H1,rfl,I1.kept (t':=s1.toks) fun b o e=>Heap.get?_push_of_some _ e,turn_str z t _,⟨_,Heap.get?_push_size _ rfl,rfl,rfl⟩,fun b hb=>?_,q⟩
 have e:b=s1.heap.objs.size:=by simpa using hb
 subst e
 exact I1.fpOk (Nat.le_refl _) (I1.hok.fresh (Nat.le_refl _))
theorem lc_str {z:Str}{σ0:St}{g:TG}{tt:TT}{te:TE}{H1:Hp}{D:Addr}{Q:Hp→Prop}(Pv:Nat→St→Hp→Prop)(h0:Pv 0 σ0 (upd H1 D (.lst [])))
  (hs:∀i c τ H,(cp z)[i]?=some c→Pv i τ H→g (.str ⟨#[c]⟩) τ H fun τ2 H2=>tt τ2 H2 fun b H3=>
   if b=true then te τ2 H3 fun v H4=>∃acc,H4 D=some (.lst acc)∧acc.length<sizeLine∧Pv (i+1) τ2 (upd H4 D (.lst (acc++[v]))) else Pv (i+1) τ2 H3)
  (hd:∀τ H,Pv z.length τ H→Q H):lcW σ0 g tt te (Its z) H1 D Q:=by
 have hz:z.cps.size=z.length:=rfl
 refine⟨fun i m τ H=>m=z.length - i∧i≤z.length∧Pv i τ H,⟨z.length,by simp,Nat.zero_le _,h0⟩,?_⟩
 rintro i m τ H ⟨rfl,hi,p⟩
 by_cases hlt:i<z.length
 ·refine .inr ⟨hlt,Pv (i+1),fun τ' H' p'=>⟨z.length - (i+1),by omega,rfl,hlt,p'⟩,fun x H' y=>?_⟩
  obtain⟨e,c,hc,rfl⟩:=y
  subst e
  exact hs i c τ _ hc p
 ·have e:i=z.length:=by omega
  subst e
  exact .inl ⟨Nat.le_refl _,hd τ H p⟩
theorem bools_are:∀{bs:List Bool} {us:List Value},Vals (bs.map V.bl) us→us=bs.map Value.bool
 |[],_,.nil=>rfl
 |_::_,_,.cons r t=>by rw[bools_are t];cases(show _=Value.bool _ from r);rfl
theorem range_any (bs:List Bool):(List.range bs.length).any (fun i=>bs.getD i false)=bs.any id:=by
 have e:(List.range bs.length).map (fun i=>bs.getD i false)=bs:=by
  apply List.ext_getElem?
  intro i
  by_cases hi:i<bs.length
  ·simp[hi]
  ·simp[hi]
 conv=>rhs;rw[←e]
 rw[List.any_map]
 rfl
theorem range_all (bs:List Bool):(List.range bs.length).all (fun i=>bs.getD i false)=bs.all id:=by
 have e:(List.range bs.length).map (fun i=>bs.getD i false)=bs:=by
  apply List.ext_getElem?
  intro i
  by_cases hi:i<bs.length
  ·simp[hi]
  ·simp[hi]
 conv=>rhs;rw[←e]
 rw[List.all_map]
 rfl
theorem call_any (hc:X.calm=true):CallR X (.builtin "any") (fun xs H Q=>∃(p:Addr) (bs:List Bool),xs=[.ref p]∧SqL X.K H p (bs.map V.bl)∧Q (.bl (bs.any id)) H):=by
 intro pins s σ H xs us Q I r h
 obtain⟨p,bs,rfl,hp,q⟩:=h
 obtain⟨u,rfl,rx⟩:=vals1 r
 cases rx
 obtain⟨its,rv,pl,hz⟩:=I.list hp
 cases bools_are rv
 have hl:(bs.map Value.bool).toArray.size=bs.length:=by simp
 refine call_any_walk (wpAny_pyIter_list pl.isList ?_)
 have hne:p≠s.heap.objs.size:=by
  obtain⟨o,ho,_⟩:=pl.isList
  exact Nat.ne_of_lt (Heap.lt_size ho)
 refine⟨s.heap.objs.size,_,_,_,_,_,fun i=>bs.getD i false,rfl,Walks.list (A:=X.A.in1) (prog:=X.prog) (w:=X.w) (show X.A.in1.handled=none from I.ok.hd hc) s.heap.objs.size p hne (bs.map Value.bool).toArray,⟨⟨_,Heap.get?_push_size _ rfl,rfl,rfl⟩,?_⟩,fun i v s' Q' E' hv hq=>?_,fun h' tk hk=>?_⟩
 ·exact pl.isList.at fun o e=>Heap.get?_push_of_some _ e
 ·have hi:(bs.map Value.bool).toArray[i]?=some v:=hv
  rw[List.getElem?_toArray,List.getElem?_map] at hi
  cases e:bs[i]? with
  |none=>rw[e] at hi;cases hi
  |some b=>
   rw[e] at hi
   cases hi
   refine wpAny_truthy_bool ?_
   have:bs.getD i false=b:=by simp[List.getD_eq_getElem?_getD,e]
   rw[←this];exact hq
 ·rw[hl,range_any]
  refine⟨.bl _,H,I.kept (t':=tk) fun b o e=>hk b o ?_ (Heap.get?_push_of_some _ e),rfl,q⟩
  intro hb
  have:b=s.heap.objs.size:=by simpa using hb
  exact absurd (Heap.lt_size e) (by rw[this];exact Nat.lt_irrefl _)
theorem call_all (hc:X.calm=true):CallR X (.builtin "all") (fun xs H Q=>∃(p:Addr) (bs:List Bool),xs=[.ref p]∧SqL X.K H p (bs.map V.bl)∧Q (.bl (bs.all id)) H):=by
 intro pins s σ H xs us Q I r h
 obtain⟨p,bs,rfl,hp,q⟩:=h
 obtain⟨u,rfl,rx⟩:=vals1 r
 cases rx
 obtain⟨its,rv,pl,hz⟩:=I.list hp
 cases bools_are rv
 have hl:(bs.map Value.bool).toArray.size=bs.length:=by simp
 refine call_all_walk (wpAny_pyIter_list pl.isList ?_)
 have hne:p≠s.heap.objs.size:=by
  obtain⟨o,ho,_⟩:=pl.isList
  exact Nat.ne_of_lt (Heap.lt_size ho)
 refine⟨s.heap.objs.size,_,_,_,_,_,fun i=>bs.getD i false,rfl,Walks.list (A:=X.A.in1) (prog:=X.prog) (w:=X.w) (show X.A.in1.handled=none from I.ok.hd hc) s.heap.objs.size p hne (bs.map Value.bool).toArray,⟨⟨_,Heap.get?_push_size _ rfl,rfl,rfl⟩,?_⟩,fun i v s' Q' E' hv hq=>?_,fun h' tk hk=>?_⟩
 ·exact pl.isList.at fun o e=>Heap.get?_push_of_some _ e
 ·have hi:(bs.map Value.bool).toArray[i]?=some v:=hv
  rw[List.getElem?_toArray,List.getElem?_map] at hi
  cases e:bs[i]? with
  |none=>rw[e] at hi;cases hi
  |some b=>
   rw[e] at hi
   cases hi
   refine wpAny_truthy_bool ?_
   have:bs.getD i false=b:=by simp[List.getD_eq_getElem?_getD,e]
   rw[←this];exact hq
 ·rw[hl,range_all]
  refine⟨.bl _,H,I.kept (t':=tk) fun b o e=>hk b o ?_ (Heap.get?_push_of_some _ e),rfl,q⟩
  intro hb
  have:b=s.heap.objs.size:=by simpa using hb
  exact absurd (Heap.lt_size e) (by rw[this];exact Nat.lt_irrefl _)
theorem pe_const {x:Str}{v:V}{pos:Pos}(hg:Gl X x)(h:∃u,X.mg x=some u∧RelV v u)(hd:(x==("__debug__" :Str))=false:=by decide):PE X (.Name x pos) (tC v):=by
 obtain⟨u,hm,r⟩:=h
 exact pe_glob hg hm r hd
def rSlS:V→Option Int→Option Int→Hp→VK→Prop:=fun x lo hi H Q=>∃z,x=.str z∧z.length≤sizeLine∧Q (.str (Txt.slice z lo hi)) H
theorem sl_str:SlR X rSlS:=by
 intro pins s σ H x v vl vu lo hi sl Q I rx hs pl pu h
 obtain⟨z,rfl,hz,q⟩:=h
 obtain⟨t,rfl⟩:=rx
 refine⟨"str",_,PySem.F.slot_str_getitem.lookup,typeIs_str s z t,?_⟩
 have fin:∀t' k,EP X pins σ Q (.str (Txt.slice z lo hi) t') {s with toks:=k}:=fun t' k=>⟨.str _,H,I.tok _,⟨t',rfl⟩,q⟩
 have hle:=Nat.le_trans (Txt.slice_le z lo hi) hz
 obtain⟨o,ho,hc,hd⟩:=hs
 cases pl with
 |none=>
  cases pu with
  |none=>exact wpAny_getItem_str_slice (l:=none) (u:=none) (st:=none) ⟨o,ho,hc,hd⟩ rfl (post_val_or_str ⟨hle,fin⟩)
  |int j tj=>exact wpAny_getItem_str_slice (l:=none) (u:=some (j,tj)) (st:=none) ⟨o,ho,hc,hd⟩ rfl (post_val_or_str ⟨hle,fin⟩)
 |int i ti=>
  cases pu with
  |none=>exact wpAny_getItem_str_slice (l:=some (i,ti)) (u:=none) (st:=none) ⟨o,ho,hc,hd⟩ rfl (post_val_or_str ⟨hle,fin⟩)
  |int j tj=>exact wpAny_getItem_str_slice (l:=some (i,ti)) (u:=some (j,tj)) (st:=none) ⟨o,ho,hc,hd⟩ rfl (post_val_or_str ⟨hle,fin⟩)
end
section
variable {σ:St} {H:Hp} {ta tb:TE} {x y:Str} {a b:Bool}
theorem ev_addS (ha:Ev ta σ H (.str x))(hb:Ev tb σ H (.str y))(hz:x.length+y.length≤sizeLine):Ev (tOp (fun x y H Q=>∃i j,x=.str i∧y=.str j∧i.length+j.length≤sizeLine∧Q (.str (i++j)) H) ta tb) σ H (.str (x++y)):=fun _ q=>ha _ (hb _ ⟨x,y,rfl,rfl,hz,q⟩)
theorem ev_notinS {c:Nat}(ha:Ev ta σ H (.str ⟨#[c]⟩))(hb:Ev tb σ H (.str y)):Ev (tOp (fun x y H Q=>∃i j,x=.str i∧y=.str j∧Q (.bl (!(!(Builtin.Str.occurrences j i 0 j.length 1).isEmpty))) H) ta tb) σ H (.bl (!decide (c∈cp y))):=fun Q q=>ha _ (hb _ ⟨_,y,rfl,rfl,by rw[PySem.StrLaws.found_one];exact q⟩)
theorem ev_inS {c:Nat}(ha:Ev ta σ H (.str ⟨#[c]⟩))(hb:Ev tb σ H (.str y)):Ev (tOp (fun x y H Q=>∃i j,x=.str i∧y=.str j∧Q (.bl (!(Builtin.Str.occurrences j i 0 j.length 1).isEmpty)) H) ta tb) σ H (.bl (decide (c∈cp y))):=fun Q q=>ha _ (hb _ ⟨_,y,rfl,rfl,by rw[PySem.StrLaws.found_one];exact q⟩)
theorem ev_ixS {c:Nat}{i:Int}(ha:Ev ta σ H (.str x))(hb:Ev tb σ H (.int i))(hz:x.length≤sizeLine)(he:atI (cp x) i=some c):Ev (tOp rIxS ta tb) σ H (.str ⟨#[c]⟩):=fun _ q=>ha _ (hb _ ⟨x,i,c,rfl,rfl,hz,he,q⟩)
theorem ev_slTo {i:Int}(ha:Ev ta σ H (.str x))(hb:Ev tb σ H (.int i))(hz:x.length≤sizeLine):Ev (tSl rSlS ta tNoPart (tPart tb)) σ H (.str (Txt.slice x none (some i))):=fun _ q=>ha _ (hb _ ⟨i,rfl,x,rfl,hz,q⟩)
theorem ev_slFrom {i:Int}(ha:Ev ta σ H (.str x))(hb:Ev tb σ H (.int i))(hz:x.length≤sizeLine):Ev (tSl rSlS ta (tPart tb) tNoPart) σ H (.str (Txt.slice x (some i) none)):=fun _ q=>ha _ (hb _ ⟨i,rfl,x,rfl,hz,q⟩)
end
section
variable {X:Cx}
end
end L2
namespace L2
open PySem PySem.Spec PyProof.Rows
open AutoSeq1 (wpAny_loadPart')
section
variable {prog:Program} {w:World} {A:Around} {E:Value→Shared→Prop} {s:Shared}
end
theorem Inv.turnedLaid {X:Cx}{pins:List (Addr×Obj)}{σ:St}{H:Hp}{s:Shared}{h':Heap}{t':Nat}{a:Addr}{o:HO}{fp:List Addr}(I:Inv X pins σ H s)(hf:∀b∈fp,FpOk X pins H b)
  (k:∀b u,b∉fp→s.heap.get? b=some u→h'.get? b=some u) (hn:s.heap.get? a=none) (new:ObjOk X.prog X.w (upd H a o) h' a o):Inv X pins σ (upd H a o) {s with heap:=h',toks:=t'}:=by
 have hHa:H a=none:=I.hok.none_of hn
 have trk:∀b u,H b=some u→b∉fp:=fun b u e z=>by rw[(hf b z).1] at e;cases e
 have nea:∀b u,s.heap.get? b=some u→b≠a:=fun b u e z=>by rw[z,hn] at e;cases e
 refine I.step (g':=s.gens) (d':=s.drawn) (ch:=fp) (fun b hb=>⟨(hf b hb).2.2.2.1,(hf b hb).2.1,(hf b hb).2.2.2.2.1,(hf b hb).2.2.2.2.2⟩) (fun b u _ _ hc e _=>k b u hc e) (fun b u _ _ hc e _=>⟨u.slots,k b u hc e⟩) (fun b u _ e n=>by rw[upd_ne (nea b u e)];exact n)
  (fun b u hc e=>⟨u,k b u hc e⟩) (fun b xs e=>by rw[upd_ne (ne_of_none e hHa)];exact e) (fun b u xs e=>by rw[upd_ne (ne_of_none e hHa)];exact e) (fun b ps e=>⟨#[],by rw[upd_ne (ne_of_none e hHa),e];simp⟩) (fun m hm=>?_) (fun b u e=>?_) I.bare
 ·obtain⟨o',es,ep,ho,r⟩:=hm
  exact⟨o',es,ep,k _ o' (fun z=>(hf _ z).2.1 rfl) ho,r⟩
 ·by_cases hb:b=a
  ·subst hb;rw[upd_same] at e;cases e;exact new
  ·rw[upd_ne hb] at e
   refine(I.hok b u e).stay (fun c v hc q=>k c v ?_ q) (fun c q=>by rw[upd_ne (ne_of_none q hHa)];exact q) fun c xs q=>by rw[upd_ne (ne_of_none q hHa)];exact q
   rcases hc with rfl|hc
   ·exact trk _ _ e
   ·exact trk _ _ hc
section
variable {X:Cx}
theorem pg_tupK {pos:Pos}{K:PySem.W.Frag}{es:List Expr}{k:Nat}{t:TGs}{n:Nat}(hc:X.calm=true)(e:X.K=K)(h:PGs X es t)
  (hn:(assignEach es X.env).length=n) (hst:(assignEach es X.env).findIdx? (·.1)=none):PG X (.Tuple es k pos) (gTup K n t):=by subst e;exact pg_tup hc h hn hst
end
noncomputable def res:List (Bool×Bool)→Bool→Bool
 |[],z=>z
 |(true,_)::r,z=>res r z
 |(false,b)::_,_=>b
section
open PySem.SeqAt
open PySem.AutoSeq1 (wpAny_loadPart')
open PySem.MeetsSeq PySem.MeetsSeq2 PySem.MeetsSeq3
end
section
variable {X:Cx}
end
theorem one_of_nodup {α:Type}(f:α→Int)(c:Int):∀(l:List α),(l.map f).Nodup→(l.filter fun x=>f x==c).length≤1
 |[],_=>by simp
 |a::r,h=>by
  rw[List.map_cons,List.nodup_cons] at h
  have ih:=one_of_nodup f c r h.2
  by_cases e:f a=c
  ·have z:(r.filter fun x=>f x==c)=[]:=by
    refine List.filter_eq_nil_iff.mpr fun x hx q=>h.1 ?_
    rw[e]
    exact List.mem_map.mpr ⟨x,hx,by simpa using q⟩
   rw[List.filter_cons_of_pos (p:=fun x=>f x==c) (by simpa using e),z]
   exact Nat.le_refl _
  ·rw[List.filter_cons_of_neg (p:=fun x=>f x==c) (by simpa using e)]
   exact ih
section
variable {prog:Program} {w:World} {A:Around} {E:Value→Shared→Prop} {s:Shared}
theorem quiet_tup {b:Addr}{Q:Bool→Shared→Prop}(hT:s.TypeIs (.ref b) "tuple")(h:Q false s):wpAny (model prog w) A (Builtin.Dict.quietEq (.ref b)) Q E s:=by
 unfold Builtin.Dict.quietEq
 refine wpAny_bind (wpAny_specialOf hT F.slot_tuple_eq.lookup (wpAny_pure ?_))
 exact h
theorem entries_tup {id:String}{d:Addr}{o:Obj}{es:Array DictEntry}{ep:Nat}{Q:Array DictEntry→Shared→Prop}(ho:s.heap.get? d=some o)(hd:o.data=.dict es ep)
  (hk:∀e∈es,∃b,e.key=.ref b∧s.TypeIs (.ref b) "tuple") (hn:(es.toList.map (·.hash)).Nodup) (h:Q es s):wpAny (model prog w) A (Builtin.Dict.entriesForEmpty id d) Q E s:=by
 unfold Builtin.Dict.entriesForEmpty
 refine wpAny_bind (wpAny_dictEntries ho hd (wpAny_bind ?_))
 rw[←Array.forIn_toList]
 refine wpAny_forIn_list _ (fun rest _ s'=>s'=s∧∀e∈rest,e∈es) _ ?_ ?_ _ _ ⟨rfl,fun e he=>Array.mem_toList_iff.mp he⟩
 ·rintro e rest u s' ⟨rfl,hin⟩
  obtain⟨b,eb,hT⟩:=hk e (hin e List.mem_cons_self)
  rw[eb]
  refine wpAny_bind (quiet_tup hT ?_)
  rw[if_pos (by decide)]
  have one:¬(es.filter (·.hash==e.hash)).size>1:=by
   have:=one_of_nodup (fun x:DictEntry=>x.hash) e.hash es.toList hn
   rw[←Array.length_toList,Array.toList_filter]
   omega
  rw[if_neg one]
  exact wpAny_pure ⟨rfl,fun x hx=>hin x (List.mem_cons_of_mem _ hx)⟩
 ·rintro u s' ⟨rfl,_⟩
  exact wpAny_pure h
theorem merge_tup {nm:String}{d o:Addr}{od oo:Obj}{es:Array DictEntry}{ep ep':Nat}{Q:Unit→Shared→Prop}(hdo:d≠o)(hoS:(o==sysModules)=false)
  (hd:s.heap.get? d=some od) (hde:od.ExactDict) (hdd:od.data=.dict #[] ep') (ho:s.heap.get? o=some oo) (hod:oo.data=.dict es ep)
  (hk:∀e∈es,∃b,e.key=.ref b∧s.TypeIs (.ref b) "tuple") (hn:(es.toList.map (·.hash)).Nodup) (hz:es.size≤sizeLine)
  (hQ:∀h',(∃o' ep'',h'.get? d=some o'∧o'.ExactDict∧o'.data=.dict es ep'')→Heap.SameBut d s.heap h'→Q () {s with heap:=h'}):
  wpAny (model prog w) A (Builtin.Dict.mergeDict nm d o) Q E s:=by
 unfold Builtin.Dict.mergeDict
 rw[if_neg (by simpa using hdo)]
 unfold Builtin.Dict.showsAll
 rw[if_neg (by rw[hoS];exact Bool.false_ne_true)]
 refine wpAny_bind (wpAny_pure (wpAny_bind (wpAny_dictEntries ho hod ?_)))
 dsimp only
 by_cases he:es= #[]
 ·subst he
  rw[if_neg (by simp)]
  refine wpAny_bind (wpAny_dictEpoch ho hod (wpAny_bind (wpAny_dictEntries ho hod (wpAny_bind ?_))))
  rw[Std.Legacy.Range.forIn_eq_forIn_range']
  exact wpAny_pure (wpAny_pure (hQ s.heap ⟨od,ep',hd,hde,hdd⟩ (Heap.SameBut.refl _ _)))
 ·have few:(decide (es.size≤8)&&es.all fun e=>(keyPart e.key).isSome)=false:=by
   rw[Bool.and_eq_false_iff]
   refine .inr (Bool.eq_false_iff.mpr fun z=>he ?_)
   rw[←Array.all_toList,List.all_eq_true] at z
   refine Array.eq_empty_of_size_eq_zero (Nat.eq_zero_of_not_pos fun pz=>?_)
   have hm:es[0]∈es:=Array.getElem_mem pz
   obtain⟨b,eb,_⟩:=hk _ hm
   have y:=z _ (Array.mem_toList_iff.mpr hm)
   rw[eb] at y
   exact absurd y Bool.false_ne_true
  rw[few]
  rw[if_pos (by rfl)]
  refine wpAny_bind (wpAny_dictEntries hd hdd ?_)
  rw[if_pos (by rfl)]
  refine wpAny_bind (entries_tup ho hod hk hn ?_)
  rw[if_pos (by simpa using he)]
  exact wpAny_bind (wpAny_updateDictKeysTo hd hdd (wpAny_pure (hQ _ ⟨_,ep'+1,Heap.get?_update_self _ hd (Obj.isFreed_of_dict (Obj.data_mapDictKeys hdd _)),hde.mapDictKeys _,Obj.data_mapDictKeys hdd _⟩ (Heap.SameBut.update ..))) (by omega))
theorem call_dict_tup {o:Addr}{oo:Obj}{es:Array DictEntry}{ep:Nat}{Q:Value→Shared→Prop}(hoS:(o==sysModules)=false)(ho:s.heap.get? o=some oo)(hoe:oo.ExactDict)(hod:oo.data=.dict es ep)
  (hk:∀e∈es,∃b,e.key=.ref b∧s.TypeIs (.ref b) "tuple") (hn:(es.toList.map (·.hash)).Nodup) (hz:es.size≤sizeLine)
  (h:∀h',(∃o' ep'',h'.get? s.heap.objs.size=some o'∧o'.ExactDict∧o'.data=.dict es ep'')→(∀b u,s.heap.get? b=some u→h'.get? b=some u)→Q (.ref s.heap.objs.size) {s with heap:=h'}):
  wpAny (model prog w) A (call (.type "dict") [.ref o]) Q E s:=by
 refine callType_codes (Q₁:=fun v s₁=>v=.ref s.heap.objs.size∧s₁={s with heap:=s.heap.push {cls:=.type "dict",data:=.dict #[]}}) F.kt_called_dict (F.kt_typeCall_dict_1 _) F.entry_dict_init (kt_code_dict_new _ ⟨rfl,rfl⟩) ?_
 rintro v s₁ ⟨rfl,rfl⟩
 have keep:∀b u,s.heap.get? b=some u→(s.heap.push {cls:=.type "dict",data:=.dict #[]}).get? b=some u:=fun b u x=>Heap.get?_push_of_some _ x
 have nT:Shared.TypeIs {s with heap:=s.heap.push {cls:=.type "dict",data:=.dict #[]}} (.ref s.heap.objs.size) "dict" :=⟨_,Heap.get?_push_size _ rfl,rfl⟩
 have oT:Shared.TypeIs {s with heap:=s.heap.push {cls:=.type "dict",data:=.dict #[]}} (.ref o) "dict" :=⟨oo,keep _ _ ho,hoe.1⟩
 have hlt:o<s.heap.objs.size:=Heap.lt_size ho
 refine⟨nT,F.args_dict_init_2 _ _,?_⟩
 unfold Builtin.«dict.__init__»
 refine wpAny_bind ?_
 unfold Builtin.Dict.selfAndRest
 refine wpAny_bind (wpAny_notOrdered_dict nT ?_)
 show wpAny _ _ (pure (s.heap.objs.size,[Value.ref o])) _ _ _
 refine wpAny_pure ?_
 show wpAny _ _ (Builtin.Dict.updateFrom "dict.__init__" s.heap.objs.size (.ref o) [] .none) _ _ _
 unfold Builtin.Dict.updateFrom
 refine wpAny_bind (wpAny_typeOf oT ?_)
 rw[if_neg (by decide)]
 refine wpAny_bind ?_
 unfold Builtin.Dict.merge
 refine wpAny_bind ?_
 unfold Builtin.Dict.readDirectly
 refine wpAny_bind (wpAny_isInstance oT isSubtype_dict_dict ?_)
 simp only[Bool.not_true,Bool.false_eq_true,if_false]
 refine wpAny_bind (wpAny_specialOf oT F.slot_dict_iter.lookup (wpAny_pure ?_))
 simp only[beq_self_eq_true,if_true]
 refine wpAny_bind (wpAny_pure ?_)
 refine merge_tup (Nat.ne_of_gt hlt) hoS (Heap.get?_push_size _ rfl) ⟨rfl,rfl,rfl⟩ rfl (keep _ _ ho) hod (fun e he=>?_) hn hz fun h' new sb=>?_
 ·obtain⟨b,e1,o1,e2,e3⟩:=hk e he
  exact⟨b,e1,o1,keep _ _ e2,e3⟩
 ·exact wpAny_bind (wpAny_pure (wpAny_pure ⟨rfl,h h' new fun b u x=>sb.extBut b u (Nat.ne_of_lt (Heap.lt_size x)) (keep _ _ x)⟩))
end
def HashNd (P:Program) (w:World) (kvs:List (List Key×V)):Prop:=(kvs.map fun p=>tupleKeyHash (mixKind P w) p.1).Nodup
theorem KT.keys {H:Hp}{kvs:List (List Key×V)}{xs:List (List Key×Addr×Value)}(r:KT H kvs xs):kvs.map (·.1)=xs.map (·.1):=by
 induction r with
 |nil=>rfl
 |cons h _ ih=>rw[List.map_cons,List.map_cons,ih,h.1]
section
variable {X:Cx} {pins:List (Addr×Obj)} {σ:St} {H:Hp} {s:Shared} {a:Addr} {A:Around} {E:Value→Shared→Prop}
theorem d_copyT {kvs:List (List Key×V)}{Q:Value→Shared→Prop}(I:Inv X pins σ H s)(e:Rd H a (.dT kvs))(hh:HashNd X.prog X.w kvs)(h:∀p s',H p=none→Inv X pins σ (upd H p (.dT kvs)) s'→Q (.ref p) s'):wpAny (model X.prog X.w) A (call (.type "dict") [.ref a]) Q E s:=by
 obtain⟨z,hd,xs,rel,o,es,ep,ho,hc,hdat,he,his,hn⟩:=dt_rd I.hok e
 have hl:es.size=xs.length:=size_of_entries he
 have hl':kvs.length=xs.length:=Paired.length rel
 refine call_dict_tup hd ho hc hdat (fun x hx=>?_) ?_ (by omega) fun h' new keep=>?_
 ·have hm:x∈xs.map (entryOfKey (tupleKind (mixKind X.prog X.w))):=he▸Array.mem_toList_iff.mpr hx
  obtain⟨y,hy,rfl⟩:=List.mem_map.mp hm
  obtain⟨ob,_,_,h1,h2,_⟩:=his y hy
  exact⟨y.2.1,rfl,ob,h1,h2⟩
 ·rw[he,List.map_map]
  have:xs.map ((fun x:DictEntry=>x.hash)∘entryOfKey (tupleKind (mixKind X.prog X.w)))=kvs.map fun p=>tupleKeyHash (mixKind X.prog X.w) p.1:=by
   have e1:xs.map ((fun x:DictEntry=>x.hash)∘entryOfKey (tupleKind (mixKind X.prog X.w)))=(xs.map (·.1)).map (tupleKeyHash (mixKind X.prog X.w)):=by rw[List.map_map];rfl
   rw[e1,←rel.keys,List.map_map];rfl
  rw[this];exact hh
 ·obtain⟨o',ep',h1,h2,h3⟩:=new
  have fr:H s.heap.objs.size=none:=I.hok.fresh (Nat.le_refl _)
  refine h _ _ fr (I.laid (a:=s.heap.objs.size) (o:=.dT kvs) (t':=s.toks) keep (Nat.le_refl _) ⟨z,beq_eq_false_iff_ne.mpr (Ne.symm (Nat.ne_of_lt I.big)),xs,rel.keeps fun b ys q=>?_,o',es,ep',h1,h2,h3,he,hn⟩)
  rw[upd_ne (ne_of_none q fr)];exact q
end
def rDict (P:Program) (w:World):List V→Hp→VK→Prop:=fun xs H Q=>∃a,xs=[.ref a]∧
 ((∃kvs,Rd H a (.dK kvs)∧∀p,H p=none→Q (.ref p) (upd H p (.dK kvs)))∨∃kvs,Rd H a (.dT kvs)∧HashNd P w kvs∧∀p,H p=none→Q (.ref p) (upd H p (.dT kvs)))
theorem call_dict {X:Cx}:CallR X (.type "dict") (rDict X.prog X.w):=by
 intro pins s σ H xs us Q I r h
 obtain⟨a,rfl,h⟩:=h
 obtain⟨u,rfl,ru⟩:=vals1 r
 cases ru
 rcases h with ⟨kvs,e,q⟩|⟨kvs,e,hh,q⟩
 ·exact d_copyOf I e fun p s' hp I'=>⟨.ref p,_,I',rfl,q p hp⟩
 ·exact d_copyT I e hh fun p s' hp I'=>⟨.ref p,_,I',rfl,q p hp⟩
section
variable {prog:Program} {w:World} {K:Type} [DecidableEq K] {knd:HeapKind prog w K} {A:Around} {E:Value→Shared→Prop} {s:Shared}
end
section
variable {X:Cx}
end
section
variable {prog:Program} {w:World} {A:Around} {E:Value→Shared→Prop} {s:Shared} {I:Addr} {fp wr:List Addr} {G:Array GenState→Array GenState→Prop} {n:Nat} {P:Nat→Value→Prop} {St:Nat→Shared→Prop}
end
theorem Room.one {k:Nat}{A:Around}(r:Room k A):A.units+1<cLine:=by have:=r.un;omega
theorem ev_dget {td ty:TE}{σ:St}{H:Hp}{a:Addr}{y v:V}(ha:Ev td σ H (.ref a))(hb:Ev ty σ H y)(g:DGet H a y (some v)):Ev (tDGet td ty) σ H v:=fun _ q=>ha _ (hb _ ⟨a,v,rfl,g,q⟩)
section
variable {X:Cx} {pins:List (Addr×Obj)} {σ:St} {H:Hp} {s:Shared} {d:Addr} {u:HO} {o:Obj}
theorem ObjOk.upd {P:Program}{w:World}{h:Heap}{b:Addr}{x v:HO}(ok:ObjOk P w H h b x)(nt:∀xs,H d≠some (.tup xs))(no:∀y,H d≠some (.own y)):ObjOk P w (L2.upd H d v) h b x:=
 ok.stay (fun _ _ _ q=>q) (fun c q=>by rw[upd_ne (fun z=>by rw[z] at q;exact no _ q)];exact q) fun c xs q=>by rw[upd_ne (fun z=>by rw[z] at q;exact nt _ q)];exact q
theorem Inv.freeze (I:Inv X pins σ H s)(e:H d=some u)(mu:Mut (some u)):∃o,Inv X pins σ (upd H d (.frz o u)) s∧s.heap.get? d=some o:=by
 have ok:=I.hok d u e
 obtain⟨o,ho⟩:∃o,s.heap.get? d=some o:=by
  cases u with
  |lst xs=>obtain⟨_,_,_,_,z⟩:=ok;exact⟨_,z⟩
  |dK kvs=>obtain⟨_,_,_,_,o,_,_,z,_⟩:=ok;exact⟨o,z⟩
  |dT kvs=>obtain⟨_,_,_,_,o,_,_,z,_⟩:=ok;exact⟨o,z⟩
  |set S n=>obtain⟨o,_,_,_,z,_⟩:=ok;exact⟨o,z⟩
  |ins C dx fs=>obtain⟨_,_,_,z,_⟩:=ok;exact⟨_,z⟩
  |ext φ=>obtain⟨_,z,_⟩:=ok;exact z
  |_=>exact mu.elim
 have mu':Mut (H d):=by rw[e];exact mu
 refine⟨o,I.write (t':=s.toks) (h':=s.heap) (x:=d) (e:=d) (o:=.frz o u) mu' (.inl rfl) (fun b v _ q=>q) ⟨o,ho⟩ ⟨ho,?_⟩,ho⟩
 exact ok.upd (fun xs z=>by rw[z] at mu';exact mu') (fun y z=>by rw[z] at mu';exact mu')
theorem Inv.thaw (I:Inv X pins σ H s)(e:H d=some (.frz o u))(nb:∀o' u',X.H₀ d≠some (.frz o' u')):Inv X pins σ (upd H d u) s:=by
 have ne:∀b,H b=none→b≠d:=fun b n z=>by rw[z,e] at n;cases n
 have nt:∀xs,H d≠some (.tup xs):=fun xs z=>by rw[e] at z;cases z
 have no:∀y,H d≠some (.own y):=fun y z=>by rw[e] at z;cases z
 have B:=I.base
 refine⟨I.ok,I.os,I.bare,⟨B.keep,B.slot,fun b v q n hx=>?_,B.there,fun b xs q=>?_,fun b v w q=>?_,fun b ps q=>?_⟩,I.loc,I.cell,?_,fun x c q=>?_,fun p hp=>?_,fun b v q=>?_,I.len⟩
 ·have:=B.free b v q n hx
  rw[upd_ne (ne b this)];exact this
 ·have:=B.tups b xs q
  rw[upd_ne (fun z=>by rw[z] at this;exact nt _ this)];exact this
 ·have:=B.frzs b v w q
  rw[upd_ne (fun z=>by rw[z] at q;exact nb _ _ q)];exact this
 ·obtain⟨more,this⟩:=B.tbls b ps q
  exact⟨more,by rw[upd_ne (fun z=>by rw[z,e] at this;cases this)];exact this⟩
 ·rw[upd_ne (ne _ I.free)];exact I.free
 ·rw[upd_ne (ne _ (I.freeC x c q))];exact I.freeC x c q
 ·obtain⟨h1,h2,h3⟩:=I.pin p hp
  exact⟨h1,by rw[upd_ne (ne _ h2)];exact h2,h3⟩
 ·by_cases hb:b=d
  ·subst hb
   rw[upd_same] at q;cases q
   obtain⟨_,z⟩:=I.hok b _ e
   exact z.upd nt no
  ·rw[upd_ne hb] at q
   exact(I.hok b v q).upd nt no
end
noncomputable def frzD (D:Ends) (d:Addr) (o:Obj) (u:HO):Ends:=
 ⟨fun σ1 H1=>H1 d=some (.frz o u)∧D.nx σ1 (upd H1 d u),fun v H1=>H1 d=some (.frz o u)∧D.rt v (upd H1 d u),fun σ1 H1=>H1 d=some (.frz o u)∧D.bk σ1 (upd H1 d u),fun σ1 H1=>H1 d=some (.frz o u)∧D.ct σ1 (upd H1 d u)⟩
def tFrz (t:TS):TS:=fun D σ H=>∃d u,H d=some u∧Mut (some u)∧∀o,t (frzD D d o u) σ (upd H d (.frz o u))
theorem ps_frz {X:Cx}{a:Stmt}{t:TS}(h:PS X a t):PS X a (tFrz t):=by
 intro pins s σ H D I ht
 obtain⟨d,u,e,mu,q⟩:=ht
 have nb:∀o' u',X.H₀ d≠some (.frz o' u'):=fun o' u' z=>by
  have:=I.base.frzs d o' u' z
  rw[e] at this;cases this;exact mu
 obtain⟨o,I1,_⟩:=I.freeze e mu
 refine thn (h pins s σ _ _ I1 (q o)) fun f s' hf=>?_
 cases f with
 |next=>obtain⟨σ',H',I',e',k⟩:=hf;exact⟨σ',_,I'.thaw e' nb,k⟩
 |brk=>obtain⟨σ',H',I',e',k⟩:=hf;exact⟨σ',_,I'.thaw e' nb,k⟩
 |cont=>obtain⟨σ',H',I',e',k⟩:=hf;exact⟨σ',_,I'.thaw e' nb,k⟩
 |ret v=>obtain⟨x,σ',H',I',r,e',k⟩:=hf;exact⟨x,σ',_,I'.thaw e' nb,r,k⟩
noncomputable def szU:HO→Nat
 | .dK kvs=>kvs.length
 | .dT kvs=>kvs.length
 |_=>0
def DictU:HO→Prop
 | .dK _=>True
 | .dT _=>True
 |_=>False
noncomputable def KeyAt (H:Hp):HO→Nat→V→V→Prop
 | .dK kvs,i,x,v=>∃k,kvs[i]?=some (k,v)∧x=kV k
 | .dT kvs,i,x,v=>∃k b,kvs[i]?=some (k,v)∧x=.ref b∧H b=some (.tup (k.map kV))
 |_,_,_,_=>False
theorem paired_get {α β:Type}{R:α→β→Prop}:∀{xs:List α} {ys:List β} (_:Paired R xs ys) (i:Nat) (hi:i<ys.length),∃x,xs[i]?=some x∧R x ys[i]
 |_,_,.nil,i,hi=>absurd hi (Nat.not_lt_zero _)
 |_,_,.cons r _,0,_=>⟨_,rfl,r⟩
 |_,_,.cons _ t,i+1,hi=>by
  obtain⟨x,h1,h2⟩:=paired_get t i (by simpa using hi)
  exact⟨x,by simpa using h1,by simpa using h2⟩
theorem raw_of {P:Program}{w:World}{H:Hp}{h:Heap}{d:Addr}{o:Obj}{u:HO}(ok:HOk P w H h)(e:H d=some (.frz o u))(hu:DictU u):(d==sysModules)=false∧h.get? d=some o∧o.ExactDict∧
  ∃es ep,o.data=.dict es ep∧es.size=szU u∧∀i (hi:i<es.size),∃x v,KeyAt H u i x v∧RelV x es[i].key∧RelV v es[i].val:=by
 obtain⟨ho,k⟩:=ok d _ e
 cases u with
 |dK kvs=>
  obtain⟨z,hs,vs,rel,o',es,ep,h1,h2,h3,h4,h5,h6⟩:=k
  rw[ho] at h1;cases h1
  have hl:es.size=vs.length:=by rw[←h5.length];simp
  refine⟨hs,ho,h2,es,ep,h3,by rw[hl,←rel.length];rfl,fun i hi=>?_⟩
  obtain⟨p,hp,e1,r1⟩:=paired_get rel i (by omega)
  obtain⟨q1,q2⟩:=h5.get? (i:=i) (e:=es[i]) (k:=vs[i].1) (v:=vs[i].2) (by simp[hi]) (by rw[List.getElem?_eq_getElem])
  refine⟨kV p.1,p.2,⟨p.1,hp,rfl⟩,?_,by rw[q2];exact r1⟩
  rw[←e1] at q1
  rcases keyIs_shape q1 with ⟨j,t,ek,ev⟩|⟨j,t,ek,ev⟩<;>rw[ek,ev]<;>exact⟨t,rfl⟩
 |dT kvs=>
  obtain⟨z,hs,xs,rel,o',es,ep,h1,h2,h3,h4,h5⟩:=k
  rw[ho] at h1;cases h1
  have hl:es.size=xs.length:=size_of_entries h4
  refine⟨hs,ho,h2,es,ep,h3,by rw[hl,←Paired.length rel];rfl,fun i hi=>?_⟩
  obtain⟨p,hp,e1,e2,r1⟩:=paired_get rel i (by omega)
  have ee:es[i]=entryOfKey (tupleKind (mixKind P w)) xs[i]:=by
   have:=entry_at h4 i
   rw[List.getElem?_eq_getElem (by omega),Array.getElem?_eq_getElem hi] at this
   exact Option.some.inj this
  refine⟨.ref xs[i].2.1,p.2,⟨p.1,_,hp,rfl,e2⟩,?_,?_⟩
  ·rw[ee];rfl
  ·rw[ee];exact r1
 |_=>exact hu.elim
section
variable {prog:Program} {w:World} {A:Around} {E:Value→Shared→Prop} {s:Shared} {d it:Addr} {o:Obj} {es:Array DictEntry} {i ep:Nat}
theorem rk_iter {Q:Value→Shared→Prop}(hd:(d==sysModules)=false)(ho:s.heap.get? d=some o)(hc:o.ExactDict)(hdat:o.data=.dict es ep)
  (hQ:Q (.ref s.heap.objs.size) {s with heap:=s.heap.push {cls:=.type "dict_keyiterator",data:=.fields #[.ref d,.int 0 0,.int es.size 0,.int ep 0]}}):wpAny (model prog w) A (pyIter (.ref d)) Q E s:=by
 have hT:s.TypeIs (.ref d) "dict" :=⟨o,ho,hc.1⟩
 refine wpAny_pyIter_slot hT F.slot_dict_iter (wpAny_call_entry F.slot_dict_iter hT F.entry_dict_iter ?_ (F.args_dict_iter_1 _))
 unfold Builtin.«dict.__iter__» Builtin.Dict.dictSlotNone
 refine wpAny_bind (wpAny_bind (wpAny_notOrdered_dict hT ?_))
 show wpAny _ _ (pure (Value.ref d)) _ _ s
 refine wpAny_pure ?_
 show wpAny _ _ (Builtin.Dict.showsAll d>>=_) _ _ s
 unfold Builtin.Dict.showsAll
 rw[if_neg (by rw[hd];exact Bool.false_ne_true)]
 refine wpAny_bind (wpAny_pure (wpAny_bind (wpAny_dictEntries ho hdat (wpAny_bind (wpAny_dictEpoch ho hdat ?_)))))
 refine wpAny_bind (wpAny_newObj_type (wpAny_pure ⟨_,rfl, "dict_keyiterator",_,⟨_,Heap.get?_push_size _ rfl,rfl⟩,F.slot_dict_keyiterator_next.lookup,?_⟩))
 simpa[rawInt] using hQ
theorem rk_next {Q:Option Value→Shared→Prop}(hit:s.heap.IsKeyIter it d i es.size ep)(hod:s.heap.get? d=some o)(hdd:o.data=.dict es ep)(hi:i<es.size)
  (hQ:∀h',h'.IsKeyIter it d (i+1) es.size ep→Heap.SameBut it s.heap h'→Q (some es[i].key) {s with heap:=h'}):wpAny (model prog w) A (pyNext (.ref it)) Q E s:=by
 obtain⟨oi,ho,hc,hd⟩:=id hit
 unfold pyNext
 refine wpAny_bind (wpAny_attempt (wpAny_callSpecial?_slot (name:=Str.ofString "__next__") hit.typeIs F.slot_dict_keyiterator_next
  (wpAny_call_entry F.slot_dict_keyiterator_next hit.typeIs F.entry_dict_keyiterator_next ?_ (F.args_dict_keyiterator_next_1 _))))
 refine wpAny_bind (wpAny_pure (wpAny_bind (wpAny_bind ?_)))
 first|refine wpAny_bind (wpAny_typeNameOfWhole_keyiter hit.typeIs (wpAny_pure ?_))|refine wpAny_bind (wpAny_typeNameOf_keyiter hit.typeIs (wpAny_pure ?_))
 refine wpAny_bind (wpAny_fieldsOf ho hd ?_)
 simp only[show Builtin.Dict_items.ownsTuple "dict_keyiterator" =false by decide,Bool.false_eq_true,if_false]
 show wpAny _ _ (if (Value.ref d==Value.none)=true then _ else _) _ _ s
 rw[if_neg (show¬((Value.ref d==Value.none)=true) from Bool.false_ne_true)]
 refine wpAny_bind (wpAny_pure (wpAny_bind (wpAny_dictEntries hod hdd ?_)))
 rw[if_neg (by simp)]
 refine wpAny_bind (wpAny_pure (wpAny_bind (wpAny_dictEpoch hod hdd ?_)))
 rw[if_neg (by simp)]
 refine wpAny_pure ?_
 simp only[show¬((i:Int)<0) from by omega,if_false,Int.toNat_natCast,Array.getElem?_eq_getElem hi]
 refine wpAny_bind ?_
 first|refine wpAny_bind (wpAny_typeNameOfWhole_keyiter hit.typeIs (wpAny_pure ?_))|refine wpAny_bind (wpAny_typeNameOf_keyiter hit.typeIs (wpAny_pure ?_))
 refine wpAny_bind (wpAny_isOneOf_keyiter hit.typeIs ?_)
 show wpAny _ _ (setField (.ref it) 1 (rawInt ((i:Int)+1))>>=_) _ _ s
 refine wpAny_bind (wpAny_setField ho hd (by simp) ?_)
 have new:(s.heap.update it (Obj.mapFields (·.setIfInBounds 1 (rawInt ((i:Int)+1))))).IsKeyIter it d (i+1) es.size ep:=
  ⟨_,Heap.get?_update_self _ ho (Obj.isFreed_of_fields (Obj.data_mapFields hd _)),(Obj.cls_mapFields ..).trans hc,by rw[Obj.data_mapFields hd];simp[rawInt]⟩
 refine wpAny_bind (wpAny_holding (wpAny_bind (wpAny_isOneOf_keyiter (s:={s with heap:=s.heap.update it (Obj.mapFields (·.setIfInBounds 1 (rawInt ((i:Int)+1))))}) new.typeIs ?_)))
 show wpAny _ _ (pure es[i].key) _ _ _
 exact wpAny_pure (wpAny_pure ⟨_,rfl,wpAny_pure (hQ _ new (Heap.SameBut.update ..))⟩)
theorem rk_end {Q:Option Value→Shared→Prop}(hh:A.handled=none)(hit:s.heap.IsKeyIter it d i es.size ep)(hod:s.heap.get? d=some o)(hdd:o.data=.dict es ep)(hi:es.size≤i)
  (hQ:∀h',Heap.ExtBut it s.heap h'→Q none {s with heap:=h'}):wpAny (model prog w) A (pyNext (.ref it)) Q E s:=by
 obtain⟨oi,ho,hc,hd⟩:=id hit
 unfold pyNext
 refine wpAny_bind (wpAny_attempt (wpAny_callSpecial?_slot (name:=Str.ofString "__next__") hit.typeIs F.slot_dict_keyiterator_next
  (wpAny_call_entry F.slot_dict_keyiterator_next hit.typeIs F.entry_dict_keyiterator_next ?_ (F.args_dict_keyiterator_next_1 _))))
 refine wpAny_bind (wpAny_pure (wpAny_bind (wpAny_bind ?_)))
 first|refine wpAny_bind (wpAny_typeNameOfWhole_keyiter hit.typeIs (wpAny_pure ?_))|refine wpAny_bind (wpAny_typeNameOf_keyiter hit.typeIs (wpAny_pure ?_))
 refine wpAny_bind (wpAny_fieldsOf ho hd ?_)
 simp only[show Builtin.Dict_items.ownsTuple "dict_keyiterator" =false by decide,Bool.false_eq_true,if_false]
 show wpAny _ _ (if (Value.ref d==Value.none)=true then _ else _) _ _ s
 rw[if_neg (show¬((Value.ref d==Value.none)=true) from Bool.false_ne_true)]
 refine wpAny_bind (wpAny_pure (wpAny_bind (wpAny_dictEntries hod hdd ?_)))
 rw[if_neg (by simp)]
 refine wpAny_bind (wpAny_pure (wpAny_bind (wpAny_dictEpoch hod hdd ?_)))
 rw[if_neg (by simp)]
 refine wpAny_pure ?_
 simp only[show¬((i:Int)<0) from by omega,if_false,Int.toNat_natCast,Array.getElem?_eq_none hi]
 refine wpAny_bind ?_
 first|refine wpAny_bind (wpAny_typeNameOfWhole_keyiter hit.typeIs (wpAny_pure ?_))|refine wpAny_bind (wpAny_typeNameOf_keyiter hit.typeIs (wpAny_pure ?_))
 show wpAny _ _ (setField (.ref it) 0 .none>>=_) _ _ s
 refine wpAny_bind (wpAny_setField ho hd (by simp) ?_)
 show wpAny _ _ (newExc (.type "StopIteration") []>>=_) _ _ _
 refine wpAny_bind ?_
 simp only[newExc,newTuple]
 refine wpAny_bind (wpAny_newObj_type ?_ (by size_fits))
 refine wpAny_bind (m:=firstArgMember _ _) (wpAny_of_eq (a:=Value.none) (by first|rfl|(simp only[firstArgMember];rfl)) (wpAny_newObj_type ?_ (by size_fits)))
 simp only[raiseNew]
 refine wpAny_bind (wpAny_handled ?_)
 rw[show A.in1.handled=none from hh]
 refine wpAny_bind (wpAny_pure (wpAny_throw ?_))
 refine wpAny_bind (wpAny_isInstance (T:= "StopIteration") (b:=true) ⟨_,Heap.get?_push_size _ rfl,rfl⟩ isSubtype_stop ?_)
 exact wpAny_pure (hQ _ (((Heap.SameBut.update ..).extBut.push _).push _))
end
noncomputable def Itk (d:Addr) (o:Obj) (u:HO):It:=
 ⟨fun i H=>H d=some (.frz o u)∧i<szU u,fun i H x H'=>H'=H∧∃v,KeyAt H u i x v,fun i H=>H d=some (.frz o u)∧szU u≤i⟩
theorem keyiter_at {h h':Heap}{it d:Addr}{i n ep:Nat}(x:h.IsKeyIter it d i n ep)(k:∀o,h.get? it=some o→h'.get? it=some o):h'.IsKeyIter it d i n ep:=let ⟨o,ho,r⟩:=x;⟨o,k _ ho,r⟩
theorem turn_keys {P:Program}{w:World}{K:PySem.W.Frag}{tg:Expr}(d it:Addr)(o:Obj)(u:HO)(hu:DictU u)(es:Array DictEntry)(ep:Nat)(hd:o.data=.dict es ep):
  Turn P w K tg (Itk d o u) [it] it (fun i h=>h.IsKeyIter it d i es.size ep) where
 mem:=by simp
 obj:=fun i h st b hb=>by
  rw[List.mem_singleton.mp hb]
  obtain⟨oi,e,c,q⟩:=st
  exact⟨oi,e,fun v z=>by rw[q] at z;cases z⟩
 keep:=fun i h h' st k=>keyiter_at st fun oi e=>k it (by simp) oi e
 item:=by
  intro X hP hw hK hc i pins s σ H E I hf st hg
  subst hP hw hK
  obtain⟨hH,hi⟩:=hg
  obtain⟨_,hod,_,es',ep',hd',hz,hall⟩:=raw_of I.hok hH hu
  rw[hd] at hd';cases hd'
  obtain⟨f0,f1,f2,f3,f4,f5⟩:=hf it (by simp)
  have hi':i<es.size:=by omega
  obtain⟨x,v,hk,r1,r2⟩:=hall i hi'
  refine rk_next st hod hd hi' fun h' st' sb=>?_
  have I1:Inv X pins σ H {s with heap:=h'}:=I.turned (t':=s.toks) (fun b ob hb e=>(sb.2 b hb).trans e) f0 f1 f3 f4 f5
  obtain⟨oi,e,c,q⟩:=id st'
  exact⟨_,rfl,go_of (s:={s with heap:=h'}) e c q (by decide) ⟨x,H,I1,r1,⟨rfl,v,hk⟩,st',fun b hb=>(hf b hb).1⟩⟩
 done:=by
  intro X hP hw hK hc i pins s σ H E I hf st hg
  subst hP hw hK
  obtain⟨hH,hi⟩:=hg
  obtain⟨_,hod,_,es',ep',hd',hz,hall⟩:=raw_of I.hok hH hu
  rw[hd] at hd';cases hd'
  obtain⟨f0,f1,f2,f3,f4,f5⟩:=hf it (by simp)
  exact rk_end (I.ok.hd hc) st hod hd (by omega) fun h' eb=>⟨rfl,I.turned (t':=s.toks) (fun b ob hb e=>eb b ob hb e) f0 f1 f3 f4 f5⟩
 self:=fun A i s Q E st h=>by
  refine wpAny_pyIter_slot st.typeIs F.slot_dict_keyiterator_iter (wpAny_call_entry F.slot_dict_keyiterator_iter st.typeIs F.entry_dict_keyiterator_iter ?_ (F.args_dict_keyiterator_iter_1 _))
  show wpAny _ _ (ret (.ref it)) _ _ s
  exact wpAny_pure ⟨_,rfl, "dict_keyiterator",_,st.typeIs,F.slot_dict_keyiterator_next.lookup,h⟩
def iKeys (te:TE):TI:=fun σ H R=>te σ H fun x H1=>∃d o u,x=.ref d∧H1 d=some (.frz o u)∧DictU u∧R (Itk d o u) H1
theorem pi_keys {X:Cx}{tg e:Expr}{te:TE}(he:PE X e te):PI X tg e (iKeys te):=by
 intro pins s σ H R I h
 refine thn (he pins s σ H _ I h) fun v s1 ⟨x,H1,I1,r,d,o,u,ex,hd,hu,q⟩=>?_
 subst ex
 cases(show v=Value.ref d from r)
 obtain⟨hS,hod,hc,es,ep,hdd,hz,_⟩:=raw_of I1.hok hd hu
 refine rk_iter hS hod hc hdd ?_
 have kk:∀b ob,s1.heap.get? b=some ob→(s1.heap.push {cls:=.type "dict_keyiterator",data:=.fields #[.ref d,.int 0 0,.int es.size 0,.int ep 0]}).get? b=some ob:=fun b ob z=>Heap.get?_push_of_some _ z
 refine⟨s1.heap.objs.size,[s1.heap.objs.size],_,_,H1,rfl,I1.kept (t':=s1.toks) kk,turn_keys d _ o u hu es ep hdd,⟨_,Heap.get?_push_size _ rfl,rfl,rfl⟩,fun b hb=>?_,q⟩
 rw[List.mem_singleton.mp hb]
 exact I1.fpOk (Nat.le_refl _) (I1.hok.fresh (Nat.le_refl _))
section
variable {prog:Program} {w:World} {A:Around} {E:Value→Shared→Prop} {s:Shared} {d it v:Addr} {o:Obj} {es:Array DictEntry} {i ep:Nat} {ok ov:Value}
end
theorem for_keys {d:Addr}{o:Obj}{u:HO}{g:TG}{tb:TS}{D:Ends}{σ:St}{H:Hp}(Pv:Nat→St→Hp→Prop)(h0:Pv 0 σ H)(hl:∀i σ H,i≤szU u→Pv i σ H→H d=some (.frz o u))
  (hs:∀i x v σ H,KeyAt H u i x v→i<szU u→Pv i σ H→g x σ H fun σ2 H2=>tb {D with nx:=Pv (i+1),ct:=Pv (i+1),bk:=D.nx} σ2 H2) (hd:∀σ H,Pv (szU u) σ H→D.nx σ H):
  ∃W:Nat→Nat→St→Hp→Prop,(∃m,W 0 m σ H)∧∀i m σ H,W i m σ H→
   ((Itk d o u).stop i H∧D.nx σ H)∨((Itk d o u).go i H∧∃N:St→Hp→Prop,(∀σ' H',N σ' H'→∃m',m'<m∧W (i+1) m' σ' H')∧∀x H',(Itk d o u).yld i H x H'→g x σ H' fun σ2 H2=>tb {D with nx:=N,ct:=N,bk:=D.nx} σ2 H2):=by
 refine⟨fun i m σ H=>m=szU u - i∧i≤szU u∧Pv i σ H,⟨szU u,by simp,Nat.zero_le _,h0⟩,?_⟩
 rintro i m σ H ⟨rfl,hi,p⟩
 have q:=hl i σ H hi p
 by_cases hlt:i<szU u
 ·refine .inr ⟨⟨q,hlt⟩,Pv (i+1),fun σ' H' p'=>⟨szU u - (i+1),by omega,rfl,hlt,p'⟩,fun x H' y=>?_⟩
  obtain⟨e,v,k⟩:=y
  subst e
  exact hs i x v σ _ k hlt p
 ·have e:i=szU u:=by omega
  subst e
  exact .inl ⟨⟨q,Nat.le_refl _⟩,hd σ H p⟩
section
variable {X:Cx}
end
section
variable {prog:Program} {w:World} {A:Around} {E:Value→Shared→Prop} {s:Shared} {d:Addr} {o:Obj} {es:Array DictEntry} {ep:Nat}
end
section
variable {X:Cx}
end
section
variable {X:Cx}
end
noncomputable def hAt (es:Array (Int×Value)) (i:Nat):Int:=(es[i]?.map (·.1)).getD 0
section
variable {prog:Program} {w:World} {A:Around} {E:Value→Shared→Prop} {s:Shared}
theorem hbv_ints {b:Addr}{o:Obj}{items:Array Value}{n:Nat}{Q:Bool→Shared→Prop}(ho:s.heap.get? b=some o)(hc:o.cls=.type "tuple")(hd:o.data=.seq items n)(hi:∀v∈items,∃i t,v=Value.int i t)(h:Q true s):
  wpAny (model prog w) A (hashByValue 8 (.ref b)) Q E s:=by
 have hT:s.TypeIs (.ref b) "tuple" :=⟨o,ho,hc⟩
 unfold hashByValue
 refine wpAny_bind (wpAny_specialOf hT F.slot_tuple_hash.lookup ?_)
 dsimp only
 refine wpAny_bind ?_
 unfold seqItems?
 refine wpAny_bind (wpAny_load ho ?_)
 rw[hd]
 refine wpAny_pure (wpAny_bind ?_)
 show wpAny _ _ (forIn items _ _) _ _ _
 rw[←Array.forIn_toList]
 refine wpAny_forIn_list _ (fun rest q s'=>s'=s∧q=(none,())∧∀v∈rest,∃i t,v=Value.int i t) _ ?_ ?_ _ _ ⟨rfl,rfl,fun v hv=>hi v (Array.mem_toList_iff.mp hv)⟩
 ·rintro v rest q s' ⟨rfl,rfl,hr⟩
  obtain⟨i,t,rfl⟩:=hr v List.mem_cons_self
  have e:hashByValue 7 (.int i t)=pure true:=by simp[hashByValue]
  rw[e]
  exact wpAny_bind (wpAny_pure (by
   show wpAny _ _ (if (!true)=true then _ else _) _ _ _
   rw[if_neg (by decide)]
   exact wpAny_pure ⟨rfl,rfl,fun x hx=>hr x (List.mem_cons_of_mem _ hx)⟩))
 ·rintro q s' ⟨rfl,rfl,_⟩
  exact wpAny_pure h
end
section
variable {prog:Program} {w:World} {A:Around} {R:Result→Shared→Prop} {I:Addr} {fp wr:List Addr} {G:Array GenState→Array GenState→Prop} {n:Nat} {P:Nat→Value→Prop} {St:Nat→Shared→Prop}
def ITup (h:Heap) (k:List Int) (b:Addr):Prop:=∃o items c,h.get? b=some o∧o.cls=.type "tuple" ∧o.data=.seq items c∧IntsAre items.toList k
end
abbrev set0 (led:Bool):Obj:={cls:=.type "set",dict:=none,data:=.set #[] 0 (.fresh 0 0 led)}
noncomputable def hashT (k:List Int):Int:=reduceHash (Builtin.Tuple.tupleHashOf (k.map hashInt))
theorem itup_is {prog:Program}{w:World}{h:Heap}{k:List Int}{b:Addr}(t:ITup h k b):(tupleKind (intKind prog w)).is h k b:=by
 obtain⟨o,its,c,h1,h2,h3,h4⟩:=t
 refine⟨o,its,c,h1,h2,h3,?_⟩
 have all:∀{us:List Value} {ns:List Int},IntsAre us ns→PySem.ItemsAre (intKind prog w) ns us:=by
  intro us ns z
  induction z with
  |nil=>exact .nil
  |cons n t _ ih=>exact .cons (intKind_is _ _ _ _) ih
 exact all h4
theorem tup_itup {P:Program}{w:World}{H:Hp}{h:Heap}{b:Addr}{c:List Int}(ok:HOk P w H h)(e:H b=some (.tup (c.map V.int))):ITup h c b:=by
 obtain⟨_,its,rv,o,ho,hc,n,hd⟩:=ok b _ e
 exact⟨o,its.toArray,n,ho,hc,hd,by simpa using intsAre_of rv⟩
structure ClsM (K:PySem.W.Frag) (C:Addr) (m:Str) (f:Addr):Prop where
 ex:∃mc,PySem.W.readsIn K C mc=true∧PySem.W.findCls K (.ref C) mc m=some (.val (.ref f))
 hh:PySem.W.handedIn (.ref f)=true
 hg:PySem.W.specialIn K (.ref C) "__getattribute__" =some (some (.builtin "type.__getattribute__"))
 kp:PySem.W.keepIn K (.ref f)=true
structure ClsCallee (P:Program) (w:World) (K:PySem.W.Frag) (mg:Str→Option Value) (base:Heap) (C:Addr) (m:Str) (k:Nat) (ps:List Str) (sp:Sp):Prop where
 ex:∃f fd,FnOk P w K mg base CX0 k f fd ps sp∧ClsM K C m f∧Binds K fd ps []
section
variable {X:Cx} {C:Addr} {k:Nat} {ps:List Str} {sp:Sp} {m:Str} {pos apos:Pos} {e o:Expr} {es:List Expr} {t:TA}
theorem pe_clsC {pl:Sem Bool}(he:PE X o (tC (.ref C)))(G:ClsCallee X.prog X.w X.K X.mg X.base C m k ps sp)(hr:Room k X.A)(ha:PA X (e::es) t)
  (hst:starEach (e::es) X.env=(false,eval e X.env)::starEach es X.env:=by rfl) (hpl:(backTo pos (starEach es X.env)).any (·.1)=false:=by rfl)
  (ht:eval (.Call (.Attribute o m apos) (e::es) [] pos) X.env=(do
   let ov←eval o X.env
   standAt apos.atName
   let (f,first)←holding [ov] (getMethod ov m pl)
   callWith pos f first (backTo pos (starEach (e::es) X.env)) (backToKw pos (keywordEach [] X.env))):=by rfl):
  PE X (.Call (.Attribute o m apos) (e::es) [] pos) (tCall sp [] E0 t):=by
 obtain⟨f,fd,F,hm,hb⟩:=G.ex
 obtain⟨mc,h1,h2⟩:=hm.ex
 intro pins s σ H Q I h
 refine PySem.W.methodCall_KW (pl:=pl) (thn (he pins s σ H (fun v H1=>v=.ref C∧H1=H) I ⟨rfl,rfl⟩) fun u s1 ⟨x,H1,I1,rx,ex,eH⟩=>?_) ht
 subst ex eH
 cases(show u=Value.ref C from rx)
 refine PySem.W.method_cls I1.kIn hm.hg (PySem.W.cls_value I1.kIn h1 h2 hm.hh ?_)
 have I2:=I1.tok (s1.toks+1)
 refine PySem.W.callWith_K (first:=[]) (h₀:=X.base) I.ok.mod.kin hm.kp (thn (ha pos pins _ σ _ _ I2 h) fun us s2 ⟨vs,H2,I3,r,q2⟩=>⟨I3.kIn,?_⟩) hst hpl
 exact run_fn F hr hb .nil pass0 I3 r q2
end
structure FunD (K:PySem.W.Frag) (x qual:Str) (st:Stmt) (f:Addr) (fd:FuncData):Prop where
 ex:∃(oc:Value) (od:Option Addr) (dV kV doc pm:Value) (an:Option Addr) (cdv ct:Value) (osl:Array (Option Value)),
  fd=PySem.W.fnOf x qual (defArgs st) (defBody st) (defScope st) dV kV doc pm an cdv ct∧K.lookup f=some ⟨oc,od,.func fd,osl⟩∧PySem.W.codeIn K cdv qual=true
section
variable {P:Program} {w:World} {K:PySem.W.Frag} {mg:Str→Option Value} {base:Heap}
theorem FunD.ok {x qual:Str}{st:Stmt}{f:Addr}{fd:FuncData}{N ps:List Str}{k:Nat}{sp:Sp}(F:FunD K x qual st f fd)(S:FnScope N ps (defScope st))(len:∀vs H Q E,sp vs H Q E→vs.length=ps.length)
  (hbody:∀(cdv:Value) (A:Around) (outer:List Env) (s:Shared) (H:Hp) (vs:List V) (Q:VK) (E:XK),Room k (A.deeper (envOfC qual (defScope st) s.heap.objs.size f cdv))→sp vs H Q E→
   ∃t,PSs (cxOf CX0 P w K mg base N qual (defScope st) f cdv A outer s H E).nox (defBody st) t∧t {nx:=fun _ H'=>Q .non H',rt:=Q} (start N vs) H):FnOk P w K mg base CX0 (k+1) f fd ps sp:=by
 obtain⟨oc,od,dV,kV,doc,pm,an,cdv,ct,osl,rfl,lk,hcd⟩:=F.ex
 refine fn_of lk hcd S len fun A outer s H vs Q E hr hsp=>?_
 obtain⟨t,h,q⟩:=hbody cdv A outer s H vs Q E hr hsp
 exact⟨t,h.nox,q⟩
theorem fund_mk {x qual:Str}{st:Stmt}{f:Addr}{oc:Value}{od an:Option Addr}{osl:Array (Option Value)}{dV kV doc pm cdv ct:Value}(l:K.lookup f=some ⟨oc,od,.func (PySem.W.fnOf x qual (defArgs st) (defBody st) (defScope st) dV kV doc pm an cdv ct),osl⟩)
  (c:PySem.W.codeIn K cdv qual=true):FunD K x qual st f (PySem.W.fnOf x qual (defArgs st) (defBody st) (defScope st) dV kV doc pm an cdv ct):=⟨⟨oc,od,dV,kV,doc,pm,an,cdv,ct,osl,rfl,l,c⟩⟩
end
theorem sub_attr:isSubtype (.type "AttributeError") (.type "AttributeError")=pure true:=by rw[isSubtype_type];kernel_rfl
section
variable {prog:Program} {w:World} {A:Around} {h:Heap} {g:Array GenState} {d:Drawn} {t:Nat} {os:OsState} {a:Addr}
abbrev excA (T:Addr):Obj:={cls:=.type "AttributeError",data:=.fields #[.ref T,.none,.none,.none,.bool false,.none,unsetMember,unsetMember]}
theorem note_attr {e T:Addr}{nm:Value}{Q:Unit→Shared→Prop}{E:Value→Shared→Prop}(hx:h.get? e=some (excA T))
  (hq:∀h',Heap.SameBut e h h'→Shared.TypeIs ⟨h',g,d,t,os⟩ (.ref e) "AttributeError" →Q () ⟨h',g,d,t,os⟩):wpAny (model prog w) A (noteAttr (.ref e) (.ref a) nm) Q E ⟨h,g,d,t,os⟩:=by
 have hT:(⟨h,g,d,t,os⟩:Shared).TypeIs (.ref e) "AttributeError" :=⟨_,hx,rfl⟩
 unfold noteAttr lacksNameAndObj
 refine wpAny_bind (wpAny_bind (wpAny_isInstance hT sub_attr ?_))
 rw[if_neg (by decide)]
 refine wpAny_bind (wpAny_load hx ?_)
 dsimp only
 rw[if_neg (by with_unfolding_all exact Bool.false_ne_true),if_neg (by with_unfolding_all exact Bool.false_ne_true)]
 refine wpAny_pure ?_
 rw[if_pos rfl]
 refine wpAny_bind (wpAny_rule (wpAny_bind (wpAny_typeOf hT ?_)))
 dsimp only
 unfold layMembers
 refine wpAny_bind (wpAny_load hx ?_)
 dsimp only
 refine wpAny_update hx ?_
 refine hq _ (Heap.SameBut.update ..) ⟨_,Heap.get?_update_self _ hx (by rfl),by rfl⟩
theorem raise_attr {α:Type}{name msg:Str}{Q:α→Shared→Prop}{E:Value→Shared→Prop}(hh:A.handled=none)(hm:msg.length≤sizeLine)
  (hE:∀e h' tk,(∀b u,h.get? b=some u→h'.get? b=some u)→Shared.TypeIs ⟨h',g,d,tk,os⟩ (.ref e) "AttributeError" →E (.ref e) ⟨h',g,d,tk,os⟩):
  wpAny (model prog w) A (raiseAttrError (.ref a) name msg) Q E ⟨h,g,d,t,os⟩:=by
 unfold raiseAttrError
 refine wpAny_bind (wpAny_mkStr (hx:=hm) ?_)
 refine wpAny_bind ?_
 simp only[newExc,newTuple]
 refine wpAny_bind (wpAny_newObj_type ?_ (by size_fits))
 refine wpAny_bind (m:=firstArgMember _ _) (wpAny_of_eq (a:=Value.none) (by first|rfl|(simp only[firstArgMember];rfl)) ?_)
 refine wpAny_newObj_type ?_ (by first|size_fits|decide)
 refine wpAny_bind (wpAny_mkText (wpAny_bind ?_))
 have e1:h.objs.size<(h.push {cls:=.type "tuple",data:=.seq #[Value.str msg t]}).objs.size:=by rw[Heap.size_push];exact Nat.lt_succ_self _
 have k1:∀b u,h.get? b=some u→(h.push {cls:=.type "tuple",data:=.seq #[Value.str msg t]}).get? b=some u:=fun b u z=>Heap.get?_push_of_some _ z
 revert e1 k1
 show _→_→wpAny _ _ (noteAttr (.ref (h.push {cls:=.type "tuple",data:=.seq #[Value.str msg t]}).objs.size) (.ref a) (.str name (t+1))) _ _ ⟨(h.push {cls:=.type "tuple",data:=.seq #[Value.str msg t]}).push (excA h.objs.size),g,d,t+1+1,os⟩
 generalize h.push {cls:=.type "tuple",data:=.seq #[Value.str msg t]}=h1
 intro e1 k1
 refine note_attr (Heap.get?_push_size _ rfl) fun h' sb hT=>?_
 simp only[raiseNew]
 refine wpAny_bind (wpAny_handled ?_)
 rw[hh]
 refine wpAny_bind (wpAny_pure (wpAny_throw ?_))
 exact hE _ h' _ (fun b u z=>by
  have z1:=k1 b u z
  rw[sb.2 b (Nat.ne_of_lt (Heap.lt_size z1))]
  exact Heap.get?_push_of_some _ z1) hT
theorem ga_keys {items:Array Value}{n:Nat}{tk:Tok}{Q:Fin→Shared→Prop}{E':Value→Shared→Prop}(hh:A.handled=none)(hx:h.get? a=some {cls:=.type "list",data:=.seq items n})
  (hE:∀e h' tk,(∀b u,h.get? b=some u→h'.get? b=some u)→Shared.TypeIs ⟨h',g,d,tk,os⟩ (.ref e) "AttributeError" →E' (.ref e) ⟨h',g,d,tk,os⟩):
  wpAny (model prog w) A (Builtin.«object.__getattribute__» ⟨[.ref a,.str "keys" tk],[]⟩) Q E' ⟨h,g,d,t,os⟩:=by
 have hT:(⟨h,g,d,t,os⟩:Shared).TypeIs (.ref a) "list" :=⟨_,hx,rfl⟩
 have f4:typeLookup (.type "list") "keys" =pure none:=by rw[typeLookup_type,builtinLookup_eq_fast];kernel_rfl
 repeat (any_goals (first|assumption|wp_step))
 exact raise_attr hh (by decide+kernel) hE
theorem no_keys {items:Array Value}{n:Nat}{Q:Option Value→Shared→Prop}{E:Value→Shared→Prop}(hh:A.handled=none)(hx:h.get? a=some {cls:=.type "list",data:=.seq items n})
  (hq:∀h' tk,(∀b u,h.get? b=some u→h'.get? b=some u)→Q none ⟨h',g,d,tk,os⟩):wpAny (model prog w) A (getAttr? (.ref a) "keys") Q E ⟨h,g,d,t,os⟩:=by
 have hT:(⟨h,g,d,t,os⟩:Shared).TypeIs (.ref a) "list" :=⟨_,hx,rfl⟩
 have hT1:(⟨h,g,d,t+1,os⟩:Shared).TypeIs (.ref a) "list" :=⟨_,hx,rfl⟩
 have f2:=F.slot_list_getattribute.lookup
 have f3:=F.slot_list_getattribute.bind (.ref a)
 have f5:typeLookup (.type "list") "__getattr__" =pure none:=by rw[typeLookup_type,builtinLookup_eq_fast];kernel_rfl
 unfold getAttr? getAttrBy?
 refine wpAny_bind (wpAny_mkText (wpAny_bind (wpAny_attempt ?_)))
 unfold getAttrBy
 refine wpAny_holding (wpAny_bind (wpAny_typeOf hT1 ?_))
 rw[f2]
 refine wpAny_bind (wpAny_pure ?_)
 dsimp only
 rw[if_neg (by decide)]
 unfold getAttrByItsOwn hookBefore
 rw[if_neg (by decide)]
 refine wpAny_bind (wpAny_pure (wpAny_bind (wpAny_attempt (wpAny_holding ?_))))
 unfold callGetattribute
 rw[if_neg (by decide)]
 unfold boundAndCalled
 rw[f3]
 refine wpAny_bind (wpAny_pure ?_)
 show wpAny _ _ (call (.builtin "list.__getattribute__") [.ref a,.str "keys" t]) _ _ _
 refine wpAny_call (codeAny_call_builtin F.slot_list_getattribute.plain F.entry_list_ga (F.slot_list_getattribute.check _ _ _ _ _ _ _ _ hT1 (F.args_list_getattribute_2 _ _) (ga_keys (show A.in1.handled=none from hh) hx fun e h' tk keep hTe=>?_)))
 show wpAny _ _ (getattributeRaised (.ref a) (.str "keys" t) (.type "list") (.ref e) none false false) _ _ _
 unfold getattributeRaised hookBehind
 refine wpAny_bind (wpAny_isInstance hTe sub_attr ?_)
 rw[if_pos rfl,if_neg (by decide),f5]
 refine wpAny_bind (wpAny_pure ?_)
 show wpAny _ _ (attributeErrorLeaves (.ref a) (.str "keys" t) (.ref e) false false) _ _ _
 unfold attributeErrorLeaves
 dsimp only
 rw[if_pos (show(!false)=true from rfl)]
 refine wpAny_bind (wpAny_throw (wpAny_bind (wpAny_isInstance hTe sub_attr ?_)))
 rw[if_pos rfl]
 exact wpAny_pure (hq _ _ keep)
end
theorem entry_dul:entryFor table "dict.update.loop" =some Builtin.«dict.update.loop»:=entryFor_of_tree (by kernel_rfl)
theorem plain_dul:plainId "dict.update.loop" =true:=by decide+kernel
def IPair (h:Heap) (p k:Addr) (v:Value):Prop:=∃o c,h.get? p=some o∧o.cls=.type "tuple" ∧o.data=.seq #[.ref k,v] c
section
variable {prog:Program} {w:World} {A:Around} {R:Result→Shared→Prop} {I:Addr} {fp wr:List Addr} {G:Array GenState→Array GenState→Prop} {n:Nat} {P:Nat→Value→Prop} {St:Nat→Shared→Prop} {K:Type} [DecidableEq K]
theorem loop_pairs (W:WalksS prog w A.in1 I fp wr G n P St)(D:Addr)(hDf:D∉fp)(knd:HeapKind prog w K)(hroom:knd.room A.in1)(ad ka:Nat→Addr)(key:Nat→K)(vv:Nat→Value)(hval:∀i v,P i v→v=.ref (ad i))
  (had:∀i,i<n→ad i≠D∧ad i∉wr) (hks:∀i,i<n→∀h h':Heap,(∀b o,b≠D→b∉wr→h.get? b=some o→h'.get? b=some o)→knd.is h (key i) (ka i)→knd.is h' (key i) (ka i))
  (xs:Nat→List (K×Addr×Value)) (hstep:∀i,i<n→xs (i+1)=storedH (xs i) (key i) (ka i) (vv i)) (hlen:∀i,i≤n→(xs i).length≤sizeLine)
  (hkx:∀(i:Nat),i≤n→∀(h h':Heap),(∀b o,b∉wr→h.get? b=some o→h'.get? b=some o)→h.DictOfH knd D (xs i)→h'.DictOfH knd D (xs i)):
  ∀(k i:Nat) (ti:Tok) (s:Shared),n - i=k→i≤n→St i s→(∀j,j<n→IPair s.heap (ad j) (ka j) (vv j)∧knd.is s.heap (key j) (ka j))→s.heap.DictOfH knd D (xs i)→
   (∀s',Moved (D::wr) G s s'→s'.heap.DictOfH knd D (xs n)→R (.ok (.ret .none)) s')→
   codeAny (model prog w) A (.builtin "dict.update.loop" ⟨[.ref D,.ref I,.int (i:Nat) ti,.none],[]⟩) R s:=by
 have hDw:D∉wr:=fun h=>hDf (W.sub _ h)
 have more:∀b∈wr,b∈D::wr:=fun b hb=>List.mem_cons_of_mem _ hb
 intro k
 induction k with
 |zero=>
  intro i ti s hk hi hst ht hD hR
  obtain rfl:i=n:=by omega
  refine codeAny_builtin entry_dul ?_
  rw[Around.under_plainId plain_dul _]
  show wpAny _ A.in1 (pyNext (.ref I)>>=_) _ _ s
  refine wpAny_bind (W.done s _ _ hst fun s' hm=>?_)
  show wpAny _ _ (Builtin.Dict.addKeywords D []>>=_) _ _ _
  refine wpAny_bind ?_
  unfold Builtin.Dict.addKeywords
  refine wpAny_pure (wpAny_pure (hR s' (hm.mono more) (hkx _ hi _ _ (fun b o hb e=>hm.heap b o hb e) hD)))
 |succ k ih=>
  intro i ti s hk hi hst ht hD hR
  have hlt:i<n:=by omega
  refine codeAny_builtin entry_dul ?_
  rw[Around.under_plainId plain_dul _]
  show wpAny _ A.in1 (pyNext (.ref I)>>=_) _ _ s
  refine wpAny_bind (W.item i s _ _ hlt hst fun v s' hP hst' hm=>?_)
  obtain rfl:=hval i v hP
  have ht':∀j,j<n→IPair s'.heap (ad j) (ka j) (vv j)∧knd.is s'.heap (key j) (ka j):=fun j hj=>by
   obtain⟨⟨o,c,h1,h2⟩,h3⟩:=ht j hj
   exact⟨⟨o,c,hm.heap _ o (had j hj).2 h1,h2⟩,hks j hj _ _ (fun b o _ hb e=>hm.heap b o hb e) h3⟩
  have hD':=hkx i hi _ _ (fun b o hb e=>hm.heap b o hb e) hD
  obtain⟨⟨o,c,h1,h2,h3⟩,h4⟩:=ht' i hlt
  have hT:s'.TypeIs (.ref (ad i)) "tuple" :=⟨o,h1,h2⟩
  refine wpAny_bind (wpAny_holding (wpAny_bind (wpAny_tryCatch ?_)))
  unfold Builtin.Dict.pairItems
  refine wpAny_bind (wpAny_typeOf hT ?_)
  rw[if_pos (by decide)]
  refine wpAny_bind ?_
  unfold seqItems?
  refine wpAny_bind (wpAny_load h1 ?_)
  rw[h3]
  refine wpAny_pure (wpAny_pure ?_)
  show wpAny _ _ (holding [Value.ref (ka i),vv i] (dictSet D (.ref (ka i)) (vv i))) _ _ _
  refine wpAny_holding (wpAny_dictSet_heap hroom h4 hD' (fun h' hd' sb=>?_) (hlen i hi))
  refine wpAny_pure ⟨plainId_quiet plain_dul _,?_⟩
  have e:((i:Nat):Int)+1=((i+1:Nat):Int):=by omega
  show codeAny _ _ (.builtin "dict.update.loop" ⟨[.ref D,.ref I,.int (((i:Nat):Int)+1) 0,.none],[]⟩) _ _
  rw[e]
  refine ih (i+1) _ _ (by omega) hlt (W.frame _ s' _ _ hst' (Nat.le_add_right _ _) fun b hb o q=>?_) (fun j hj=>?_) (by rw[hstep i hlt];exact hd') fun s'' hm'' hD''=>?_
  ·rw[sb.2 b (fun z=>hDf (z▸hb))];exact q
  ·obtain⟨⟨o,c,q1,q2⟩,q3⟩:=ht' j hj
   refine⟨⟨o,c,?_,q2⟩,hks j hj _ _ (fun b o hb _ q=>?_) q3⟩
   ·rw[sb.2 _ (had j hj).1];exact q1
   ·rw[sb.2 b hb];exact q
  ·refine hR s'' (Moved.trans W.gtrans ((hm.mono more).then_heap (Nat.le_add_right _ _) fun b o hb q=>?_) hm'') hD''
   rw[sb.2 b (fun z=>hb (by rw[z];exact List.mem_cons_self))];exact q
end
theorem storedH_mem {K:Type} [DecidableEq K]{xs:List (K×Addr×Value)}{k:K}{a:Addr}{v:Value}{P:Addr→Prop}(h:∀x∈xs,P x.2.1)(ha:P a):∀x∈storedH xs k a v,P x.2.1:=by
 unfold storedH
 split
 ·intro x hx
  obtain⟨y,hy,rfl⟩:=List.mem_map.mp hx
  unfold putAt
  split
  ·exact h y hy
  ·exact h y hy
 ·intro x hx
  rcases List.mem_append.mp hx with hx|hx
  ·exact h x hx
  ·rw[List.mem_singleton.mp hx];exact ha
theorem storedH_len {K:Type} [DecidableEq K]{xs:List (K×Addr×Value)}{k:K}{a:Addr}{v:Value}:(storedH xs k a v).length≤xs.length+1:=by
 unfold storedH
 split
 ·rw[List.length_map];omega
 ·simp
noncomputable def foldH {K:Type} [DecidableEq K] (key:Nat→K) (ka:Nat→Addr) (vv:Nat→Value):Nat→List (K×Addr×Value)
 |0=>[]
 |i+1=>storedH (foldH key ka vv i) (key i) (ka i) (vv i)
theorem foldH_mem {K:Type} [DecidableEq K]{key:Nat→K}{ka:Nat→Addr}{vv:Nat→Value}{P:Addr→Prop}:∀(i:Nat),(∀j,j<i→P (ka j))→∀x∈foldH key ka vv i,P x.2.1
 |0,_=>fun _ h=>nomatch h
 |i+1,h=>storedH_mem (foldH_mem i fun j hj=>h j (by omega)) (h i (Nat.lt_succ_self _))
theorem foldH_len {K:Type} [DecidableEq K]{key:Nat→K}{ka:Nat→Addr}{vv:Nat→Value}:∀(i:Nat),(foldH key ka vv i).length≤i
 |0=>Nat.le_refl _
 |i+1=>Nat.le_trans storedH_len (Nat.succ_le_succ (foldH_len i))
section
variable {prog:Program} {w:World} {A:Around} {E:Value→Shared→Prop} {s:Shared} {K:Type} [DecidableEq K]
theorem call_dict_pairs {l:Addr}{as:List Addr}{c:Nat}{Q:Value→Shared→Prop}(hh:A.handled=none)(hl:s.heap.get? l=some {cls:=.type "list",data:=.seq (as.map Value.ref).toArray c})
  (knd:HeapKind prog w K) (hroom:knd.room A.in1.in1) (ka:Nat→Addr) (key:Nat→K) (vv:Nat→Value) (hp:∀j,j<as.length→IPair s.heap (as.getD j 0) (ka j) (vv j)∧knd.is s.heap (key j) (ka j)∧ka j<s.heap.objs.size)
  (hks:∀(h h':Heap) (k:K) (b:Addr),(∀o,h.get? b=some o→h'.get? b=some o)→knd.is h k b→knd.is h' k b) (hz:as.length≤sizeLine)
  (h:∀(h':Heap) (tk:Nat),h'.DictOfH knd s.heap.objs.size (foldH key ka vv as.length)→(∀b o,s.heap.get? b=some o→h'.get? b=some o)→Q (.ref s.heap.objs.size) {s with heap:=h',toks:=tk}):
  wpAny (model prog w) A (call (.type "dict") [.ref l]) Q E s:=by
 refine callType_codes (Q₁:=fun v s₁=>v=.ref s.heap.objs.size∧s₁={s with heap:=s.heap.push {cls:=.type "dict",data:=.dict #[]}}) F.kt_called_dict (F.kt_typeCall_dict_1 _) F.entry_dict_init (kt_code_dict_new _ ⟨rfl,rfl⟩) ?_
 rintro v s₁ ⟨rfl,rfl⟩
 have keep0:∀b u,s.heap.get? b=some u→(s.heap.push {cls:=.type "dict",data:=.dict #[]}).get? b=some u:=fun b u x=>Heap.get?_push_of_some _ x
 have nT:Shared.TypeIs {s with heap:=s.heap.push {cls:=.type "dict",data:=.dict #[]}} (.ref s.heap.objs.size) "dict" :=⟨_,Heap.get?_push_size _ rfl,rfl⟩
 have lT:Shared.TypeIs {s with heap:=s.heap.push {cls:=.type "dict",data:=.dict #[]}} (.ref l) "list" :=⟨_,keep0 _ _ hl,rfl⟩
 have d0:(s.heap.push {cls:=.type "dict",data:=.dict #[]}).get? s.heap.objs.size=some {cls:=.type "dict",data:=.dict #[]}:=Heap.get?_push_size _ rfl
 have sz0:(s.heap.push {cls:=.type "dict",data:=.dict #[]}).objs.size=s.heap.objs.size+1:=Heap.size_push ..
 revert keep0 nT lT d0 sz0
 generalize s.heap.push {cls:=.type "dict",data:=.dict #[]}=h0
 intro keep0 nT lT d0 sz0
 refine⟨nT,F.args_dict_init_2 _ _,?_⟩
 unfold Builtin.«dict.__init__»
 refine wpAny_bind ?_
 unfold Builtin.Dict.selfAndRest
 refine wpAny_bind (wpAny_notOrdered_dict nT ?_)
 show wpAny _ _ (pure (s.heap.objs.size,[Value.ref l])) _ _ _
 refine wpAny_pure ?_
 show wpAny _ _ (Builtin.Dict.updateFrom "dict.__init__" s.heap.objs.size (.ref l) [] .none) _ _ _
 unfold Builtin.Dict.updateFrom
 refine wpAny_bind (wpAny_typeOf lT ?_)
 rw[if_pos (by decide)]
 refine wpAny_bind (no_keys (show A.in1.in1.handled=none from hh) (keep0 _ _ hl) fun h1 tk1 keep1=>?_)
 rw[if_pos (show(none:Option Value).isNone=true from rfl)]
 refine wpAny_bind (wpAny_rule (wpAny_bind ?_))
 have hl1:h1.get? l=some {cls:=.type "list",data:=.seq (as.map Value.ref).toArray c}:=keep1 _ _ (keep0 _ _ hl)
 have isl:h1.IsList l (as.map Value.ref).toArray:=⟨_,hl1,rfl,c,rfl⟩
 refine wpAny_pyIter_list isl (wpAny_pure ⟨plainId_quiet plain_dul _,?_⟩)
 have le1:s.heap.objs.size+1≤h1.objs.size:=Heap.lt_size (keep1 _ _ d0)
 have ltl:l<s.heap.objs.size:=Heap.lt_size hl
 have neI:l≠h1.objs.size:=Nat.ne_of_lt (Heap.lt_size hl1)
 have nD:s.heap.objs.size∉[h1.objs.size,l]:=fun z=>by
  rcases List.mem_cons.mp z with z|z
  ·exact absurd z (Nat.ne_of_lt (Nat.lt_of_succ_le le1))
  ·exact absurd (List.mem_singleton.mp z) (Nat.ne_of_gt ltl)
 have nI:∀{b:Addr},b<s.heap.objs.size→b∉[h1.objs.size]:=fun hb z=>absurd (List.mem_singleton.mp z) (Nat.ne_of_lt (Nat.lt_of_lt_of_le hb (Nat.le_of_succ_le le1)))
 have lt_of:∀{b:Addr} {o:Obj},s.heap.get? b=some o→b<s.heap.objs.size:=fun e=>Heap.lt_size e
 have hd2:A.in1.in1.handled=none:=by simpa using hh
 refine loop_pairs (A:=A.in1) ((Walks.list hd2 _ l neI (as.map Value.ref).toArray).toS) s.heap.objs.size nD knd hroom (fun i=>as.getD i 0) ka key vv (fun i v hv=>?_) (fun i hi=>?_) (fun i hi g g' hg z=>?_) (foldH key ka vv) (fun i _=>rfl) (fun i hi=>Nat.le_trans (foldH_len i) (Nat.le_trans hi (by simpa using hz))) (fun i hi g g' hg z=>?_)
  ((as.map Value.ref).toArray.size - 0) 0 0 _ (by omega) (Nat.zero_le _) ⟨⟨_,Heap.get?_push_size _ rfl,rfl,rfl⟩,isl.push _⟩ (fun j hj=>?_) ?_ fun s' hm hD'=>?_
 ·have hv':(as.map Value.ref).toArray[i]?=some v:=hv
  rw[List.getElem?_toArray,List.getElem?_map] at hv'
  obtain⟨x,hx,rfl⟩:=Option.map_eq_some_iff.mp hv'
  show _=Value.ref (as.getD i 0)
  rw[List.getD_eq_getElem?_getD,hx];rfl
 ·obtain⟨⟨o,c',q1,_⟩,_⟩:=hp i (by simpa using hi)
  exact⟨Nat.ne_of_lt (lt_of q1),nI (lt_of q1)⟩
 ·obtain⟨_,_,q3⟩:=hp i (by simpa using hi)
  exact hks _ _ _ _ (fun o q=>hg _ o (Nat.ne_of_lt q3) (nI q3) q) z
 ·obtain⟨o,es,ep,a1,a2,a3,a4,a5,a6⟩:=z
  refine⟨o,es,ep,hg _ _ (fun y=>absurd (List.mem_singleton.mp y) (Nat.ne_of_lt (Nat.lt_of_succ_le le1))) a1,a2,a3,a4,fun x hx=>hks _ _ _ _ (fun o q=>hg _ o (nI (foldH_mem (P:=fun b=>b<s.heap.objs.size) i (fun j hj=>(hp j (by have:=hi;simp at this;omega)).2.2) x hx)) q) (a5 x hx),a6⟩
 ·obtain⟨⟨o,c',q1,q2⟩,q3,q4⟩:=hp j (by simpa using hj)
  have up:∀b u,s.heap.get? b=some u→(h1.push {cls:=.type "list_iterator",data:=.fields #[.ref l,.int 0 0]}).get? b=some u:=fun b u z=>Heap.get?_push_of_some _ (keep1 _ _ (keep0 _ _ z))
  exact⟨⟨o,c',up _ _ q1,q2⟩,hks _ _ _ _ (fun o q=>up _ o q) q3⟩
 ·exact⟨_,#[],0,Heap.get?_push_of_some _ (keep1 _ _ d0),⟨rfl,rfl,rfl⟩,rfl,rfl,(fun _ z=>nomatch z),List.nodup_nil⟩
 ·obtain⟨h',g',d',tk',os'⟩:=s'
  obtain rfl:g'=s.gens:=hm.gens
  obtain rfl:d'=s.drawn:=hm.drawn
  obtain rfl:os'=s.os:=hm.os
  refine⟨rfl,h h' tk' (by simpa using hD') fun b o e=>hm.heap b o (fun z=>?_) (Heap.get?_push_of_some _ (keep1 _ _ (keep0 _ _ e)))⟩
  rcases List.mem_cons.mp z with z|z
  ·exact absurd z (Nat.ne_of_lt (lt_of e))
  ·exact nI (lt_of e) z
end
abbrev Prs (H:Hp) (as:List Addr) (kvs:List (List Key×V)):Prop:=Paired (fun a (kv:List Key×V)=>∃b,H a=some (.tup [.ref b,kv.2])∧H b=some (.tup (kv.1.map kV))) as kvs
noncomputable def mkD (kvs:List (List Key×V)):List (List Key×V):=kvs.foldl (fun acc kv=>putK acc kv.1 kv.2) []
theorem mkD_snoc {kvs:List (List Key×V)}{p:List Key×V}:mkD (kvs++[p])=putK (mkD kvs) p.1 p.2:=by unfold mkD;rw[List.foldl_append];rfl
theorem mkD_len {kvs:List (List Key×V)}:(mkD kvs).length≤kvs.length:=by
 have all:∀(l acc:List (List Key×V)),(l.foldl (fun acc kv=>putK acc kv.1 kv.2) acc).length≤acc.length+l.length:=by
  intro l
  induction l with
  |nil=>intro acc;exact Nat.le_refl _
  |cons a r ih=>
   intro acc
   have h1:=ih (putK acc a.1 a.2)
   have h2:=length_putK acc a.1 a.2
   rw[List.foldl_cons,List.length_cons]
   omega
 have h:=all kvs []
 unfold mkD
 simpa using h
theorem call_dictPairs {X:Cx}(hc:X.calm=true){k:Nat}(hr:Room k X.A):CallR X (.type "dict") (fun xs H Q=>∃(l:Addr) (as:List Addr) (kvs:List (List Key×V)),xs=[.ref l]∧H l=some (.lst (as.map V.ref))∧Prs H as kvs∧∀p,H p=none→Q (.ref p) (upd H p (.dT (mkD kvs)))):=by
 intro pins s σ H xs us Q I r h
 obtain⟨l,as,kvs,rfl,hl,hp,q⟩:=h
 obtain⟨u,rfl,ru⟩:=vals1 r
 cases ru
 obtain⟨hz,its,c,rv,hl'⟩:=I.hok l _ hl
 obtain rfl:=vals_refs rv
 have hu:=hr.units
 have len:as.length=kvs.length:=Paired.length hp
 have ex:∀j,∃(b:Addr) (u:Value),j<as.length→IPair s.heap (as.getD j 0) b u∧H b=some (.tup ((kvs.getD j ([],.non)).1.map kV))∧RelV (kvs.getD j ([],.non)).2 u:=fun j=>by
  by_cases hj:j<as.length
  ·have hj2:j<kvs.length:=by omega
   obtain⟨a,ha,b,h1,h2⟩:=paired_get hp j hj2
   obtain⟨_,ii,rr,o,ho,hcl,n,hd⟩:=I.hok a _ h1
   obtain⟨u1,u2,rfl,r1,r2⟩:=vals2 rr
   cases(show u1=Value.ref b from r1)
   refine⟨b,u2,fun _=>?_⟩
   have e1:as.getD j 0=a:=by rw[List.getD_eq_getElem?_getD,ha];rfl
   have e2:kvs.getD j ([],.non)=kvs[j]:=by rw[List.getD_eq_getElem?_getD,List.getElem?_eq_getElem hj2];rfl
   rw[e1,e2]
   exact⟨⟨o,n,ho,hcl,hd⟩,h2,r2⟩
  ·exact⟨0,.none,fun z=>absurd z hj⟩
 obtain⟨ka,hka⟩:∃ka:Nat→Addr,∀j,∃u:Value,j<as.length→IPair s.heap (as.getD j 0) (ka j) u∧H (ka j)=some (.tup ((kvs.getD j ([],.non)).1.map kV))∧RelV (kvs.getD j ([],.non)).2 u:=⟨fun j=>Classical.choose (ex j),fun j=>Classical.choose_spec (ex j)⟩
 obtain⟨vv,hvv⟩:∃vv:Nat→Value,∀j,j<as.length→IPair s.heap (as.getD j 0) (ka j) (vv j)∧H (ka j)=some (.tup ((kvs.getD j ([],.non)).1.map kV))∧RelV (kvs.getD j ([],.non)).2 (vv j):=⟨fun j=>Classical.choose (hka j),fun j=>Classical.choose_spec (hka j)⟩
 have kt:∀i,i≤as.length→KT H (mkD (kvs.take i)) (foldH (fun j=>(kvs.getD j ([],.non)).1) ka vv i):=by
  intro i
  induction i with
  |zero=>intro _;exact .nil
  |succ i ih=>
   intro hi
   obtain⟨_,h2,h3⟩:=hvv i hi
   have hi2:i<kvs.length:=by omega
   have e2:kvs[i]?=some (kvs.getD i ([],.non)):=by rw[List.getD_eq_getElem?_getD,List.getElem?_eq_getElem hi2];rfl
   have et:kvs.take (i+1)=kvs.take i++[kvs.getD i ([],.non)]:=by rw[List.take_succ,e2];rfl
   rw[et,mkD_snoc]
   exact KT.put (ih (by omega)) _ h2 h3
 refine call_dict_pairs (I.ok.hd hc) hl' (tupleKind (mixKind X.prog X.w)) (show X.A.units+1+1<cLine by omega) ka (fun j=>(kvs.getD j ([],.non)).1) vv (fun j hj=>?_) (fun g g' k b hg z=>?_) (by simpa using hz) fun h' tk hd hk=>?_
 ·obtain⟨h1,h2,_⟩:=hvv j hj
  exact⟨h1,key_of I.hok h2,I.hok.lt h2⟩
 ·obtain⟨o,items,n,z1,z2⟩:=z
  exact⟨o,items,n,hg o z1,z2⟩
 ·have kn:=kt as.length (Nat.le_refl _)
  rw[len,List.take_length] at kn
  rw[len] at hd
  obtain⟨o,es,ep,h1,h2,h3,h4,h5,h6⟩:=hd
  have fr:H s.heap.objs.size=none:=I.hok.fresh (Nat.le_refl _)
  refine⟨.ref s.heap.objs.size,_,I.laid (a:=s.heap.objs.size) (o:=.dT (mkD kvs)) (t':=tk) hk (Nat.le_refl _) ⟨Nat.le_trans mkD_len (by rw[←len];simpa using hz),beq_eq_false_iff_ne.mpr (Ne.symm (Nat.ne_of_lt I.big)),_,kn.keeps fun b ys z=>?_,o,es,ep,h1,h2,h3,h4,h6⟩,rfl,q _ fr⟩
  rw[upd_ne (ne_of_none z fr)];exact z
structure Nx (prog:Program) (w:World) (A:Around) (it src:Addr) (vals:Array Value) (St:Nat→Heap→Prop):Prop where
 obj:∀i h,St i h→∃o vs,h.get? it=some o∧o.data=.fields vs∧o.cls≠.type "zip" ∧∃o',h.get? src=some o'
 keep:∀i h h',St i h→(∀o,h.get? it=some o→h'.get? it=some o)→(∀o,h.get? src=some o→h'.get? src=some o)→St i h'
 item:∀(i:Nat) (s:Shared) (Q:Value→Shared→Prop) (E:Value→Shared→Prop) (x:Value),St i s.heap→vals[i]?=some x→(∀h',St (i+1) h'→Heap.SameBut it s.heap h'→Q x {s with heap:=h'})→wpAny (model prog w) A (Builtin.SmallTypes.nextOf (.ref it)) Q E s
 done:∀(i:Nat) (s:Shared) (Q:Value→Shared→Prop) (E:Value→Shared→Prop),A.handled=none→St i s.heap→vals[i]?=none→
  (∀h' e,Heap.ExtBut it s.heap h'→(∃o,h'.get? e=some o∧o.cls=.type "StopIteration")→E (.ref e) {s with heap:=h'})→wpAny (model prog w) A (Builtin.SmallTypes.nextOf (.ref it)) Q E s
section
variable {prog:Program} {w:World} {A:Around} {E:Value→Shared→Prop} {s:Shared}
theorem nx_tup_item {it t:Addr}{i:Nat}{items:Array Value}{x:Value}{Q:Value→Shared→Prop}(hit:IsTupIter s.heap it t i)(ht:IsTup s.heap t items)(hx:items[i]?=some x)
  (hQ:∀h',IsTupIter h' it t (i+1)→Heap.SameBut it s.heap h'→Q x {s with heap:=h'}):wpAny (model prog w) A (Builtin.SmallTypes.nextOf (.ref it)) Q E s:=by
 obtain⟨o,ho,hc,hd⟩:=id hit
 obtain⟨ol,hol,_,nl,hdl⟩:=ht
 unfold Builtin.SmallTypes.nextOf
 refine wpAny_bind (wpAny_callSpecial?_slot (name:=Str.ofString "__next__") hit.typeIs slot_tupleiter_next (wpAny_call_entry slot_tupleiter_next hit.typeIs entry_tupleiter_next ?_ (args_tupleiter_next _)))
 show wpAny _ _ (field (.ref it) 0>>=_) _ _ s
 refine wpAny_bind (wpAny_field ho hd (x:=.ref t) rfl ?_)
 show wpAny _ _ (if (Value.ref t==Value.none)=true then _ else _) _ _ s
 rw[if_neg (show¬((Value.ref t==Value.none)=true) from Bool.false_ne_true)]
 show wpAny _ _ (field (.ref it) 1>>=_) _ _ s
 refine wpAny_bind (wpAny_field ho hd (x:=.int i 0) rfl ?_)
 show wpAny _ _ (seqItems? (.ref t)>>=_) _ _ s
 refine wpAny_bind (wpAny_seqItems hol hdl ?_)
 simp only[Int.toNat_natCast,hx]
 refine wpAny_bind (wpAny_setField ho hd (by simp) (wpAny_pure ⟨x,rfl,wpAny_pure (hQ _ ?_ (Heap.SameBut.update ..))⟩))
 exact⟨_,Heap.get?_update_self _ ho (Obj.isFreed_of_fields (Obj.data_mapFields hd _)),(Obj.cls_mapFields ..).trans hc,by rw[Obj.data_mapFields hd];simp[rawInt]⟩
theorem nx_tup_end {it t:Addr}{i:Nat}{items:Array Value}{Q:Value→Shared→Prop}(hh:A.handled=none)(hit:IsTupIter s.heap it t i)(ht:IsTup s.heap t items)(hx:items[i]?=none)
  (hE:∀h' e,Heap.ExtBut it s.heap h'→(∃o,h'.get? e=some o∧o.cls=.type "StopIteration")→E (.ref e) {s with heap:=h'}):wpAny (model prog w) A (Builtin.SmallTypes.nextOf (.ref it)) Q E s:=by
 obtain⟨o,ho,hc,hd⟩:=id hit
 obtain⟨ol,hol,_,nl,hdl⟩:=ht
 unfold Builtin.SmallTypes.nextOf
 refine wpAny_bind (wpAny_callSpecial?_slot (name:=Str.ofString "__next__") hit.typeIs slot_tupleiter_next (wpAny_call_entry slot_tupleiter_next hit.typeIs entry_tupleiter_next ?_ (args_tupleiter_next _)))
 show wpAny _ _ (field (.ref it) 0>>=_) _ _ s
 refine wpAny_bind (wpAny_field ho hd (x:=.ref t) rfl ?_)
 show wpAny _ _ (if (Value.ref t==Value.none)=true then _ else _) _ _ s
 rw[if_neg (show¬((Value.ref t==Value.none)=true) from Bool.false_ne_true)]
 show wpAny _ _ (field (.ref it) 1>>=_) _ _ s
 refine wpAny_bind (wpAny_field ho hd (x:=.int i 0) rfl ?_)
 show wpAny _ _ (seqItems? (.ref t)>>=_) _ _ s
 refine wpAny_bind (wpAny_seqItems hol hdl ?_)
 simp only[Int.toNat_natCast,hx]
 refine wpAny_bind (wpAny_rule (wpAny_bind (wpAny_setField ho hd (by simp) ?_)))
 show wpAny _ _ (newExc (.type "StopIteration") []>>=_) _ _ _
 refine wpAny_bind ?_
 simp only[newExc,newTuple]
 refine wpAny_bind (wpAny_newObj_type ?_ (by size_fits))
 refine wpAny_bind (m:=firstArgMember _ _) (wpAny_of_eq (a:=Value.none) (by first|rfl|(simp only[firstArgMember];rfl)) (wpAny_newObj_type ?_ (by size_fits)))
 simp only[raiseNew]
 refine wpAny_bind (wpAny_handled ?_)
 first|rw[show A.in1.handled=none from hh]|rw[hh]
 refine wpAny_bind (wpAny_pure (wpAny_throw ?_))
 exact hE _ _ (((Heap.SameBut.update ..).extBut.push _).push _) ⟨_,Heap.get?_push_size _ rfl,rfl⟩
theorem Nx.tup {it t:Addr}{items:Array Value}(hne:t≠it):Nx prog w A it t items (fun i h=>IsTupIter h it t i∧IsTup h t items) where
 obj:=fun i h ⟨⟨o,h1,h2,h3⟩,⟨o',h4,_⟩⟩=>⟨o,_,h1,h3,by rw[h2];decide,o',h4⟩
 keep:=fun i h h' ⟨⟨o,h1,h2⟩,⟨o',h4,h5⟩⟩ k1 k2=>⟨⟨o,k1 _ h1,h2⟩,⟨o',k2 _ h4,h5⟩⟩
 item:=fun i s Q E x ⟨h1,h2⟩ hx hQ=>nx_tup_item h1 h2 hx fun h' a b=>hQ h' ⟨a,h2.extBut b.extBut hne⟩ b
 done:=fun i s Q E hh ⟨h1,h2⟩ hx hE=>nx_tup_end hh h1 h2 hx hE
structure ZA (z TI TO i1 i2 s1 s2:Addr):Prop where
 TIz:TI≠z
 TOz:TO≠z
 i1z:i1≠z
 i2z:i2≠z
 TITO:TI≠TO
 TIi1:TI≠i1
 TIi2:TI≠i2
 TOi1:TO≠i1
 TOi2:TO≠i2
 i12:i1≠i2
 s1z:s1≠z
 s1TO:s1≠TO
 s1i2:s1≠i2
 s2z:s2≠z
 s2TO:s2≠TO
 s2i1:s2≠i1
theorem zn_item {z TI TO i1 i2 s1 s2:Addr}{xs ys:Array Value}{S1 S2:Nat→Heap→Prop}{i:Nat}{x y a b:Value}{Q:Value→Shared→Prop}(D:ZA z TI TO i1 i2 s1 s2)(N1:Nx prog w A i1 s1 xs S1)(N2:Nx prog w A i2 s2 ys S2)
  (hz:IsZip s.heap z TI TO .none) (hTI:IsPair s.heap TI (.ref i1) (.ref i2)) (hTO:IsPair s.heap TO a b) (h1:S1 i s.heap) (h2:S2 i s.heap) (hx:xs[i]?=some x) (hy:ys[i]?=some y)
  (hQ:∀h',IsZip h' z TI TO (rawInt s.heap.objs.size)→IsPair h' TO x y→S1 (i+1) h'→S2 (i+1) h'→IsPair h' s.heap.objs.size x y→h'.objs.size=s.heap.objs.size+1→
   (∀c o,c≠z→c≠TO→c≠i1→c≠i2→s.heap.get? c=some o→h'.get? c=some o)→Q (.ref s.heap.objs.size) {s with heap:=h'}):
  wpAny (model prog w) A (Builtin.«zip.__next__» ⟨[.ref z],[]⟩) (fun fin s'=>∃v,fin=.done (.ret v)∧Q v s') E s:=by
 show wpAny _ _ (field (.ref z) 2>>=_) _ _ _
 refine wpAny_bind (wpAny_field hz rfl (x:=.bool false) rfl ?_)
 show wpAny _ _ (field (.ref z) 3>>=_) _ _ _
 refine wpAny_bind (wpAny_field hz rfl (x:=.ref TI) rfl (wpAny_bind (wpAny_seqItems hTI rfl ?_)))
 show wpAny _ _ (Builtin.SmallTypes.ownedTupleIsFree (.ref z)>>=_) _ _ _
 refine wpAny_bind ?_
 unfold Builtin.SmallTypes.ownedTupleIsFree
 refine wpAny_bind (wpAny_field hz rfl (x:=.none) rfl (wpAny_pure ?_))
 simp only[if_true]
 refine wpAny_bind (wpAny_rule (wpAny_bind (wpAny_field hz rfl (x:=.ref TO) rfl (wpAny_bind (wpAny_setField_rec hz (by simp) fun g1 z1 k1=>?_)))))
 replace z1:IsZip g1 z TI TO .ellipsis:=z1
 refine wpAny_bind ?_
 simp only[List.zipIdx_cons,List.zipIdx_nil,List.forIn_cons,List.forIn_nil]
 refine wpAny_bind (wpAny_bind (wpAny_onRaise ?_))
 show wpAny _ _ (Builtin.SmallTypes.nextOf (.ref i1)>>=_) _ _ _
 refine wpAny_bind (N1.item i {s with heap:=g1} _ _ x (N1.keep _ _ _ h1 (fun o e=>k1.extBut _ _ D.i1z e) (fun o e=>k1.extBut _ _ D.s1z e)) hx fun g2 a1 k2=>wpAny_pure ?_)
 have t2:IsPair g2 TO a b:=k2.extBut _ _ D.TOi1 (k1.extBut _ _ D.TOz hTO)
 refine wpAny_bind (wpAny_seqItems t2 rfl (wpAny_bind (wpAny_updateSeq_pair t2 fun g3 t3 k3=>?_)))
 replace t3:IsPair g3 TO x b:=t3
 refine wpAny_bind (wpAny_letGo (wpAny_pure ?_))
 refine wpAny_bind (wpAny_bind (wpAny_onRaise ?_))
 show wpAny _ _ (Builtin.SmallTypes.nextOf (.ref i2)>>=_) _ _ _
 refine wpAny_bind (N2.item i {s with heap:=g3} _ _ y (N2.keep _ _ _ h2 (fun o e=>k3.extBut _ _ D.TOi2.symm (k2.extBut _ _ D.i12.symm (k1.extBut _ _ D.i2z e))) (fun o e=>k3.extBut _ _ D.s2TO (k2.extBut _ _ D.s2i1 (k1.extBut _ _ D.s2z e)))) hy fun g4 a2 k4=>wpAny_pure ?_)
 have t4:IsPair g4 TO x b:=k4.extBut _ _ D.TOi2 t3
 refine wpAny_bind (wpAny_seqItems t4 rfl (wpAny_bind (wpAny_updateSeq_pair t4 fun g5 t5 k5=>?_)))
 replace t5:IsPair g5 TO x y:=t5
 refine wpAny_bind (wpAny_letGo (wpAny_pure (wpAny_pure ?_)))
 refine wpAny_bind (wpAny_seqItems t5 rfl (wpAny_bind (wpAny_newTuple ?_)))
 have hsz:g5.objs.size=s.heap.objs.size:=by rw[k5.1,k4.1,k3.1,k2.1,k1.1]
 have z5:IsZip g5 z TI TO .ellipsis:=k5.extBut _ _ D.TOz.symm (k4.extBut _ _ D.i2z.symm (k3.extBut _ _ D.TOz.symm (k2.extBut _ _ D.i1z.symm z1)))
 have all5:∀c o,c≠z→c≠TO→c≠i1→c≠i2→s.heap.get? c=some o→g5.get? c=some o:=fun c o c1 c2 c3 c4 e=>k5.extBut _ _ c2 (k4.extBut _ _ c4 (k3.extBut _ _ c2 (k2.extBut _ _ c3 (k1.extBut _ _ c1 e))))
 have hz5:z<g5.objs.size:=Heap.lt_size z5
 show wpAny _ _ (Builtin.SmallTypes.ownedTupleHandOut (.ref z) (.ref g5.objs.size)>>=_) _ _ _
 refine wpAny_bind ?_
 unfold Builtin.SmallTypes.ownedTupleHandOut
 have z6:IsZip (g5.push {cls:=.type "tuple",data:=.seq #[x,y]}) z TI TO .ellipsis:=Heap.get?_push_of_some _ z5
 refine wpAny_bind (wpAny_setField_rec z6 (by simp) fun g7 z7 k7=>?_)
 replace z7:IsZip g7 z TI TO (rawInt g5.objs.size):=z7
 refine wpAny_setField_rec z7 (by simp) fun g8 z8 k8=>?_
 replace z8:IsZip g8 z TI TO (rawInt g5.objs.size):=z8
 have up:∀c o,c≠z→g5.get? c=some o→g8.get? c=some o:=fun c o c1 e=>k8.extBut _ _ c1 (k7.extBut _ _ c1 (Heap.get?_push_of_some _ e))
 have hT8:IsPair g8 g5.objs.size x y:=k8.extBut _ _ (Nat.ne_of_gt hz5) (k7.extBut _ _ (Nat.ne_of_gt hz5) (Heap.get?_push_size _ rfl))
 have sz8:g8.objs.size=g5.objs.size+1:=by rw[k8.1,k7.1,Heap.size_push]
 rw[hsz] at z8 hT8 sz8
 refine wpAny_pure ⟨_,rfl,?_⟩
 show Q (.ref g5.objs.size) _
 rw[hsz]
 exact hQ g8 z8 (up _ _ D.TOz t5)
  (N1.keep _ _ _ a1 (fun o e=>up _ o D.i1z (k5.extBut _ _ D.TOi1.symm (k4.extBut _ _ D.i12 (k3.extBut _ _ D.TOi1.symm e)))) (fun o e=>up _ o D.s1z (k5.extBut _ _ D.s1TO (k4.extBut _ _ D.s1i2 (k3.extBut _ _ D.s1TO e)))))
  (N2.keep _ _ _ a2 (fun o e=>up _ o D.i2z (k5.extBut _ _ D.TOi2.symm e)) (fun o e=>up _ o D.s2z (k5.extBut _ _ D.s2TO e))) hT8 sz8 fun c o c1 c2 c3 c4 e=>up c o c1 (all5 c o c1 c2 c3 c4 e)
theorem zn_end {z TI TO i1 i2 s1 s2:Addr}{xs ys:Array Value}{S1 S2:Nat→Heap→Prop}{i:Nat}{a b:Value}{Q:Fin→Shared→Prop}(hh:A.handled=none)(D:ZA z TI TO i1 i2 s1 s2)(N1:Nx prog w A i1 s1 xs S1)(N2:Nx prog w A i2 s2 ys S2)
  (hz:IsZip s.heap z TI TO .none) (hTI:IsPair s.heap TI (.ref i1) (.ref i2)) (hTO:IsPair s.heap TO a b) (h1:S1 i s.heap) (h2:S2 i s.heap) (hend:xs[i]?=none∨ys[i]?=none)
  (hE:∀h' e,(∀c o,c≠z→c≠TO→c≠i1→c≠i2→s.heap.get? c=some o→h'.get? c=some o)→(∃o,h'.get? e=some o∧o.cls=.type "StopIteration")→E (.ref e) {s with heap:=h'}):
  wpAny (model prog w) A (Builtin.«zip.__next__» ⟨[.ref z],[]⟩) Q E s:=by
 show wpAny _ _ (field (.ref z) 2>>=_) _ _ _
 refine wpAny_bind (wpAny_field hz rfl (x:=.bool false) rfl ?_)
 show wpAny _ _ (field (.ref z) 3>>=_) _ _ _
 refine wpAny_bind (wpAny_field hz rfl (x:=.ref TI) rfl (wpAny_bind (wpAny_seqItems hTI rfl ?_)))
 show wpAny _ _ (Builtin.SmallTypes.ownedTupleIsFree (.ref z)>>=_) _ _ _
 refine wpAny_bind ?_
 unfold Builtin.SmallTypes.ownedTupleIsFree
 refine wpAny_bind (wpAny_field hz rfl (x:=.none) rfl (wpAny_pure ?_))
 simp only[if_true]
 refine wpAny_bind (wpAny_rule (wpAny_bind (wpAny_field hz rfl (x:=.ref TO) rfl (wpAny_bind (wpAny_setField_rec hz (by simp) fun g1 z1 k1=>?_)))))
 replace z1:IsZip g1 z TI TO .ellipsis:=z1
 refine wpAny_bind ?_
 simp only[List.zipIdx_cons,List.zipIdx_nil,List.forIn_cons,List.forIn_nil]
 refine wpAny_bind (wpAny_bind (wpAny_onRaise ?_))
 show wpAny _ _ (Builtin.SmallTypes.nextOf (.ref i1)>>=_) _ _ _
 have st1:=N1.keep _ _ g1 h1 (fun o e=>k1.extBut _ _ D.i1z e) (fun o e=>k1.extBut _ _ D.s1z e)
 cases hx:xs[i]? with
 |none=>
  refine wpAny_bind (N1.done i {s with heap:=g1} _ _ hh st1 hx fun g2 e k2 he=>?_)
  obtain⟨oe,hoe,hce⟩:=he
  have z2:IsZip g2 z TI TO .ellipsis:=k2 _ _ D.i1z.symm z1
  have hez:e≠z:=fun x=>by subst x;rw[z2] at hoe;cases hoe;simp at hce
  exact wpAny_setField_rec z2 (by simp) fun g3 _ k3=>hE g3 e (fun c o c1 _ c3 _ x=>k3.extBut _ _ c1 (k2 _ _ c3 (k1.extBut _ _ c1 x))) ⟨oe,k3.extBut _ _ hez hoe,hce⟩
 |some x=>
  have hy:ys[i]?=none:=by rcases hend with h|h;rw[hx] at h;cases h;exact h
  refine wpAny_bind (N1.item i {s with heap:=g1} _ _ x st1 hx fun g2 a1 k2=>wpAny_pure ?_)
  have t2:IsPair g2 TO a b:=k2.extBut _ _ D.TOi1 (k1.extBut _ _ D.TOz hTO)
  refine wpAny_bind (wpAny_seqItems t2 rfl (wpAny_bind (wpAny_updateSeq_pair t2 fun g3 t3 k3=>?_)))
  refine wpAny_bind (wpAny_letGo (wpAny_pure ?_))
  refine wpAny_bind (wpAny_bind (wpAny_onRaise ?_))
  show wpAny _ _ (Builtin.SmallTypes.nextOf (.ref i2)>>=_) _ _ _
  refine wpAny_bind (N2.done i {s with heap:=g3} _ _ hh (N2.keep _ _ _ h2 (fun o e=>k3.extBut _ _ D.TOi2.symm (k2.extBut _ _ D.i12.symm (k1.extBut _ _ D.i2z e))) (fun o e=>k3.extBut _ _ D.s2TO (k2.extBut _ _ D.s2i1 (k1.extBut _ _ D.s2z e)))) hy fun g4 e k4 he=>?_)
  obtain⟨oe,hoe,hce⟩:=he
  have z4:IsZip g4 z TI TO .ellipsis:=k4 _ _ D.i2z.symm (k3.extBut _ _ D.TOz.symm (k2.extBut _ _ D.i1z.symm z1))
  have hez:e≠z:=fun x=>by subst x;rw[z4] at hoe;cases hoe;simp at hce
  exact wpAny_setField_rec z4 (by simp) fun g5 _ k5=>hE g5 e (fun c o c1 c2 c3 c4 x=>k5.extBut _ _ c1 (k4 _ _ c4 (k3.extBut _ _ c2 (k2.extBut _ _ c3 (k1.extBut _ _ c1 x))))) ⟨oe,k5.extBut _ _ hez hoe,hce⟩
end
theorem sqT_ne {X:Cx}{pins:List (Addr×Obj)}{σ:St}{H:Hp}{s:Shared}{t b:Addr}{xs:List V}(I:Inv X pins σ H s)(h:SqT X.K H t xs)(f:FpOk X pins H b):t≠b:=fun z=>by
 subst z
 obtain⟨f0,f1,f2,f3,f4,f5⟩:=f
 rcases h with (h|⟨_,h⟩)|⟨o,its,n,hk,_⟩
 ·rw[f0] at h;cases h
 ·rw[f0] at h;cases h
 ·have hb:=I.ok.mod.kin _ _ hk
  rcases f3 with f3|f3
  ·exact I.ok.noex _ _ hb f3
  ·exact absurd (Nat.lt_of_lt_of_le (Heap.lt_size (I.ok.bs _ _ hb).1) f3) (Nat.lt_irrefl _)
noncomputable def ItzT (K:PySem.W.Frag) (t1 t2:Addr):It:=
 ⟨fun i H=>∃xs ys x y,SqT K H t1 xs∧SqT K H t2 ys∧xs[i]?=some x∧ys[i]?=some y,
  fun i H x H'=>∃p y1 y2,H p=none∧x=.ref p∧H'=upd H p (.tup [y1,y2])∧(∀xs,SqT K H t1 xs→xs[i]?=some y1)∧∀ys,SqT K H t2 ys→ys[i]?=some y2,
  fun i H=>∃xs ys,SqT K H t1 xs∧SqT K H t2 ys∧(xs.length≤i∨ys.length≤i)⟩
def ZstT (z TI TO i1 i2 t1 t2:Addr) (i:Nat) (h:Heap):Prop:=IsZip h z TI TO .none∧IsPair h TI (.ref i1) (.ref i2)∧(∃a b,IsPair h TO a b)∧IsTupIter h i1 t1 i∧IsTupIter h i2 t2 i
theorem turn_zipT {P:Program}{w:World}{K:PySem.W.Frag}{elts:List Expr}{x1:Nat}{pos:Pos}(z TI TO i1 i2 t1 t2:Addr)(D0:TI≠z∧TO≠z∧i1≠z∧i2≠z∧TI≠TO∧TI≠i1∧TI≠i2∧TO≠i1∧TO≠i2∧i1≠i2):
  Turn P w K (.Tuple elts x1 pos) (ItzT K t1 t2) [z,TI,TO,i1,i2] z (ZstT z TI TO i1 i2 t1 t2) where
 mem:=by simp
 obj:=fun i h st b hb=>by
  obtain⟨h1,h2,⟨a,c,h3⟩,⟨o4,h4,_,d4⟩,⟨o5,h5,_,d5⟩⟩:=st
  simp only[List.mem_cons,List.not_mem_nil,or_false] at hb
  rcases hb with rfl|rfl|rfl|rfl|rfl
  ·exact⟨_,h1,fun v e=>by have e':Data.fields _=Data.cell v:=e;cases e'⟩
  ·exact⟨_,h2,fun v e=>by have e':Data.seq _ _=Data.cell v:=e;cases e'⟩
  ·exact⟨_,h3,fun v e=>by have e':Data.seq _ _=Data.cell v:=e;cases e'⟩
  ·exact⟨_,h4,fun v e=>by rw[d4] at e;cases e⟩
  ·exact⟨_,h5,fun v e=>by rw[d5] at e;cases e⟩
 keep:=fun i h h' ⟨h1,h2,⟨a,c,h3⟩,⟨o4,h4,c4,d4⟩,⟨o5,h5,c5,d5⟩⟩ k=>⟨k z (by simp) _ h1,k TI (by simp) _ h2,⟨a,c,k TO (by simp) _ h3⟩,⟨o4,k i1 (by simp) _ h4,c4,d4⟩,⟨o5,k i2 (by simp) _ h5,c5,d5⟩⟩
 item:=by
  intro X hP hw hK hc i pins s σ H E I hf st hg
  subst hP hw hK
  obtain⟨xs,ys,x,y,hq1,hq2,hx,hy⟩:=hg
  obtain⟨hz,hTI,⟨a,b,hTO⟩,hi1,hi2⟩:=st
  obtain⟨its1,r1,p1,_⟩:=I.tuple hq1
  obtain⟨its2,r2,p2,_⟩:=I.tuple hq2
  obtain⟨u1,hu1,ru1⟩:=r1.get hx
  obtain⟨u2,hu2,ru2⟩:=r2.get hy
  obtain⟨d1,d2,d3,d4,d5,d6,d7,d8,d9,d10⟩:=D0
  have ne1:∀b∈[z,TI,TO,i1,i2],t1≠b:=fun b hb=>sqT_ne I hq1 (hf b hb)
  have ne2:∀b∈[z,TI,TO,i1,i2],t2≠b:=fun b hb=>sqT_ne I hq2 (hf b hb)
  have D:ZA z TI TO i1 i2 t1 t2:=⟨d1,d2,d3,d4,d5,d6,d7,d8,d9,d10,ne1 _ (by simp),ne1 _ (by simp),ne1 _ (by simp),ne2 _ (by simp),ne2 _ (by simp),ne2 _ (by simp)⟩
  have hT:s.TypeIs (.ref z) "zip" :=⟨_,hz,rfl⟩
  have nT:s.heap.get? s.heap.objs.size=none:=Heap.get?_none_of_le (Nat.le_refl _)
  have lts:∀b∈[z,TI,TO,i1,i2],b<s.heap.objs.size:=fun b hb=>by
   obtain⟨_,e4,_⟩:=hi1
   obtain⟨_,e5,_⟩:=hi2
   simp only[List.mem_cons,List.not_mem_nil,or_false] at hb
   rcases hb with rfl|rfl|rfl|rfl|rfl
   ·exact Heap.lt_size hz
   ·exact Heap.lt_size hTI
   ·exact Heap.lt_size hTO
   ·exact Heap.lt_size e4
   ·exact Heap.lt_size e5
  unfold pyNext
  refine wpAny_bind (wpAny_attempt (wpAny_callSpecial?_slot (name:=Str.ofString "__next__") hT F.slot_zip_next (wpAny_call_entry F.slot_zip_next hT F.entry_zip_next
   (zn_item D (Nx.tup (items:=its1.toArray) (ne1 _ (by simp))) (Nx.tup (items:=its2.toArray) (ne2 _ (by simp))) hz hTI hTO ⟨hi1,p1⟩ ⟨hi2,p2⟩ (by simpa using hu1) (by simpa using hu2) fun h' a1 a2 a3 a4 a5 a6 hk=>wpAny_pure ⟨_,rfl,?_⟩) (F.args_zip_next_1 _))))
  refine wpAny_letOwnedTupleGo_zip (s:={s with heap:=h'}) a1 fun h2 hz2 sb=>?_
  replace sb:Heap.SameBut z h' h2:=sb
  have zlt:z<s.heap.objs.size:=lts z (by simp)
  have hT2:h2.get? s.heap.objs.size=some {cls:=.type "tuple",data:=.seq #[u1,u2]}:=(sb.2 _ (Nat.ne_of_gt zlt)).trans a5
  refine⟨.ref s.heap.objs.size,upd H s.heap.objs.size (.tup [x,y]),Inv.turnedLaid (s:=s) (h':=h2) (fp:=[z,TI,TO,i1,i2]) (t':=s.toks) I hf (fun b v hb q=>?_) nT ?_,rfl,⟨_,x,y,I.hok.none_of nT,rfl,rfl,fun l hl=>by rw[I.tuple_inj hl hq1];exact hx,fun l hl=>by rw[I.tuple_inj hl hq2];exact hy⟩,
   ⟨hz2,?_,⟨_,_,(sb.2 _ d2).trans a2⟩,?_,?_⟩,fun b hb=>?_⟩
  ·have hbs:b≠z∧b≠TO∧b≠i1∧b≠i2:=⟨fun e=>hb (by simp[e]),fun e=>hb (by simp[e]),fun e=>hb (by simp[e]),fun e=>hb (by simp[e])⟩
   exact(sb.2 b hbs.1).trans (hk b v hbs.1 hbs.2.1 hbs.2.2.1 hbs.2.2.2 q)
  ·exact⟨by show 2≤sizeLine;decide,_,.cons ru1 (.cons ru2 .nil),_,hT2,rfl,_,rfl⟩
  ·exact(sb.2 _ d1).trans (hk _ _ d1 d5 d6 d7 hTI)
  ·obtain⟨o,e,r⟩:=a3.1
   exact⟨o,(sb.2 _ d3).trans e,r⟩
  ·obtain⟨o,e,r⟩:=a4.1
   exact⟨o,(sb.2 _ d4).trans e,r⟩
  ·rw[upd_ne (Nat.ne_of_lt (lts b hb))];exact(hf b hb).1
 done:=by
  intro X hP hw hK hc i pins s σ H E I hf st hg
  subst hP hw hK
  obtain⟨xs,ys,hq1,hq2,hend⟩:=hg
  obtain⟨hz,hTI,⟨a,b,hTO⟩,hi1,hi2⟩:=st
  obtain⟨its1,r1,p1,_⟩:=I.tuple hq1
  obtain⟨its2,r2,p2,_⟩:=I.tuple hq2
  have e1:=r1.length
  have e2:=r2.length
  obtain⟨d1,d2,d3,d4,d5,d6,d7,d8,d9,d10⟩:=D0
  have ne1:∀b∈[z,TI,TO,i1,i2],t1≠b:=fun b hb=>sqT_ne I hq1 (hf b hb)
  have ne2:∀b∈[z,TI,TO,i1,i2],t2≠b:=fun b hb=>sqT_ne I hq2 (hf b hb)
  have D:ZA z TI TO i1 i2 t1 t2:=⟨d1,d2,d3,d4,d5,d6,d7,d8,d9,d10,ne1 _ (by simp),ne1 _ (by simp),ne1 _ (by simp),ne2 _ (by simp),ne2 _ (by simp),ne2 _ (by simp)⟩
  have hT:s.TypeIs (.ref z) "zip" :=⟨_,hz,rfl⟩
  unfold pyNext
  refine wpAny_bind (wpAny_attempt (wpAny_callSpecial?_slot (name:=Str.ofString "__next__") hT F.slot_zip_next (wpAny_call_entry F.slot_zip_next hT F.entry_zip_next
   (zn_end (show X.A.in1.handled=none from I.ok.hd hc) D (Nx.tup (items:=its1.toArray) (ne1 _ (by simp))) (Nx.tup (items:=its2.toArray) (ne2 _ (by simp))) hz hTI hTO ⟨hi1,p1⟩ ⟨hi2,p2⟩ ?_ fun h' e hk he=>?_) (F.args_zip_next_1 _))))
  ·rcases hend with h|h
   ·exact .inl (Array.getElem?_eq_none (by simp;omega))
   ·exact .inr (Array.getElem?_eq_none (by simp;omega))
  ·obtain⟨o,ho,hoc⟩:=he
   refine wpAny_bind (wpAny_isInstance (T:= "StopIteration") (b:=true) ⟨o,ho,hoc⟩ isSubtype_stop ?_)
   refine wpAny_pure ⟨rfl,?_⟩
   refine I.step (g':=s.gens) (d':=s.drawn) (t':=s.toks) (h':=h') (ch:=[z,TI,TO,i1,i2]) (fun b hb=>⟨(hf b hb).2.2.2.1,(hf b hb).2.1,(hf b hb).2.2.2.2.1,(hf b hb).2.2.2.2.2⟩) (fun b u _ _ hc' q _=>?_) (fun b u _ _ hc' q _=>⟨u.slots,?_⟩) (fun b u _ _ n=>n) (fun b u hc' q=>⟨u,?_⟩) (fun b xs q=>q) (fun b u xs q=>q) (fun b ps q=>⟨#[],by rw[q];simp⟩) (fun m hm=>?_) (fun b u q=>?_) I.bare
   ·exact hk b u (fun e=>hc' (by simp[e])) (fun e=>hc' (by simp[e])) (fun e=>hc' (by simp[e])) (fun e=>hc' (by simp[e])) q
   ·exact hk b u (fun e=>hc' (by simp[e])) (fun e=>hc' (by simp[e])) (fun e=>hc' (by simp[e])) (fun e=>hc' (by simp[e])) q
   ·exact hk b u (fun e=>hc' (by simp[e])) (fun e=>hc' (by simp[e])) (fun e=>hc' (by simp[e])) (fun e=>hc' (by simp[e])) q
   ·obtain⟨o',es,ep,ho',r⟩:=hm
    have nl:∀b∈[z,TI,TO,i1,i2],X.env.locals≠b:=fun b hb=>Ne.symm (hf b hb).2.1
    exact⟨o',es,ep,hk _ o' (nl _ (by simp)) (nl _ (by simp)) (nl _ (by simp)) (nl _ (by simp)) ho',r⟩
   ·have trk:∀b∈[z,TI,TO,i1,i2],∀c u,H c=some u→c≠b:=fun b hb c u e z=>by rw[z,(hf b hb).1] at e;cases e
    refine(I.hok b u q).stay (fun c v hc' e=>?_) (fun _ e=>e) fun _ _ e=>e
    have hcs:∃u',H c=some u':=by
     rcases hc' with rfl|hc'
     ·exact⟨_,q⟩
     ·exact⟨_,hc'⟩
    obtain⟨u',hu'⟩:=hcs
    exact hk c v (trk _ (by simp) c u' hu') (trk _ (by simp) c u' hu') (trk _ (by simp) c u' hu') (trk _ (by simp) c u' hu') e
 self:=fun A i s Q E st h=>wpAny_pyIter_zip st.1 h
abbrev zq1T (h:Heap) (l1:Addr):Heap:=h.push {cls:=.type "tuple_iterator",data:=.fields #[.ref l1,.int 0 0]}
abbrev zq2T (h:Heap) (l1 l2:Addr):Heap:=(zq1T h l1).push {cls:=.type "tuple_iterator",data:=.fields #[.ref l2,.int 0 0]}
abbrev zq3T (h:Heap) (l1 l2:Addr):Heap:=(zq2T h l1 l2).push {cls:=.type "tuple",data:=.seq #[.ref h.objs.size,.ref (zq1T h l1).objs.size]}
abbrev zq4T (h:Heap) (l1 l2:Addr):Heap:=(zq3T h l1 l2).push {cls:=.type "tuple",data:=.seq #[.none,.none]}
abbrev zq5T (h:Heap) (l1 l2:Addr):Heap:=(zq4T h l1 l2).push {cls:=.type "zip",data:=.fields #[.none,.bool false,.bool false,.ref (zq2T h l1 l2).objs.size,.ref (zq3T h l1 l2).objs.size]}
theorem zip_newT (l1 l2:Addr)(xs ys:Array Value):Meets (Builtin.«zip.__new__» ⟨[.type "zip",.ref l1,.ref l2],[]⟩) (fun _ R s=>IsTup s.heap l1 xs∧IsTup s.heap l2 ys∧R (.ok (.ret (.ref (zq4T s.heap l1 l2).objs.size))) {s with heap:=zq5T s.heap l1 l2}):=
 .of_wp fun prog w A R s h=>by
  obtain⟨hp,g,d,tk,os⟩:=s;obtain⟨a1,a2,h⟩:=h
  have sz:=sub_zip
  have b1:IsTup (Shared.heap ⟨hp,g,d,tk,os⟩) l1 xs:=a1
  have b2:IsTup (Shared.heap ⟨hp.push {cls:=.type "tuple_iterator",data:=.fields #[.ref l1,.int 0 0]},g,d,tk,os⟩) l2 ys:=IsTup.push a2 _
  wp_walk using iter_tuple b1,iter_tuple b2
  exact⟨_,rfl,h⟩
theorem zip_callT {prog:Program}{w:World}{A:Around}{E:Value→Shared→Prop}{s:Shared}{l1 l2:Addr}{xs ys:Array Value}{Q:Value→Shared→Prop}(hl1:IsTup s.heap l1 xs)(hl2:IsTup s.heap l2 ys)
  (h:∀h',ZstT (s.heap.objs.size+4) (s.heap.objs.size+2) (s.heap.objs.size+3) s.heap.objs.size (s.heap.objs.size+1) l1 l2 0 h'→h'.objs.size=s.heap.objs.size+5→(∀c o,s.heap.get? c=some o→h'.get? c=some o)→Q (.ref (s.heap.objs.size+4)) {s with heap:=h'}):
  wpAny (model prog w) A (call (.type "zip") [.ref l1,.ref l2]) Q E s:=by
 refine callType_new F.called_zip (by decide) (F.typeCall_zip_2 _ _) (F.newCall_zip_2 _ _) (fun obj=>F.args_object_init_3 obj _ _) F.entry_zip_new (zip_newT l1 l2 xs ys) ⟨hl1,hl2,?_⟩
 have z1:(zq1T s.heap l1).objs.size=s.heap.objs.size+1:=Heap.size_push ..
 have z2:(zq2T s.heap l1 l2).objs.size=s.heap.objs.size+2:=by rw[Heap.size_push,z1]
 have z3:(zq3T s.heap l1 l2).objs.size=s.heap.objs.size+3:=by rw[Heap.size_push,z2]
 have z4:(zq4T s.heap l1 l2).objs.size=s.heap.objs.size+4:=by rw[Heap.size_push,z3]
 have z5:(zq5T s.heap l1 l2).objs.size=s.heap.objs.size+5:=by rw[Heap.size_push,z4]
 have g5:(zq5T s.heap l1 l2).get? (zq4T s.heap l1 l2).objs.size=some _:=Heap.get?_push_size _ rfl
 have g4:(zq5T s.heap l1 l2).get? (zq3T s.heap l1 l2).objs.size=some _:=Heap.get?_push_of_some _ (Heap.get?_push_size _ rfl)
 have g3:(zq5T s.heap l1 l2).get? (zq2T s.heap l1 l2).objs.size=some _:=Heap.get?_push_of_some _ (Heap.get?_push_of_some _ (Heap.get?_push_size _ rfl))
 have g2:(zq5T s.heap l1 l2).get? (zq1T s.heap l1).objs.size=some _:=Heap.get?_push_of_some _ (Heap.get?_push_of_some _ (Heap.get?_push_of_some _ (Heap.get?_push_size _ rfl)))
 have g1:(zq5T s.heap l1 l2).get? s.heap.objs.size=some _:=Heap.get?_push_of_some _ (Heap.get?_push_of_some _ (Heap.get?_push_of_some _ (Heap.get?_push_of_some _ (Heap.get?_push_size _ rfl))))
 show _∧_
 rw[z2,z3,z4] at g5
 rw[z1,z2] at g3
 rw[z3] at g4
 rw[z1] at g2
 rw[z4]
 exact⟨⟨_,g5,rfl⟩,h _ ⟨g5,g3,⟨_,_,g4⟩,⟨_,g1,rfl,rfl⟩,⟨_,g2,rfl,rfl⟩⟩ z5 fun c o x=>Heap.get?_push_of_some _ (Heap.get?_push_of_some _ (Heap.get?_push_of_some _ (Heap.get?_push_of_some _ (Heap.get?_push_of_some _ x))))⟩
def iZipT (K:PySem.W.Frag) (ta:TA):TI:=fun σ H R=>ta σ H fun vs H1=>∃a b,vs=[.ref a,.ref b]∧(∃xs,SqT K H1 a xs)∧(∃ys,SqT K H1 b ys)∧R (ItzT K a b) H1
theorem pi_zipT {X:Cx}{a b:Expr}{ta:TA}{elts:List Expr}{x1:Nat}{p pos pt:Pos}(hg:Gl X "zip")(hm:X.mg "zip" =none)(ha:PA X [a,b] ta)(hs:starEach [a,b] X.env=[(false,eval a X.env),(false,eval b X.env)]:=by rfl)
  (he:starEach [a,b] X.env=(false,eval a X.env)::starEach [b] X.env:=by rfl) (hpl:(backTo pos (starEach [b] X.env)).any (·.1)=false:=by rfl):
  PI X (.Tuple elts x1 pt) (.Call (.Name "zip" p) [a,b] [] pos) (iZipT X.K ta):=by
 intro pins s σ H R I h
 refine wpAny_Call_Name_kw (ld_blt I hg hm bt_zip ?_ (by decide) (by decide))
 refine PyProof.Rows.callWith_type1 (thn (ha pos pins s σ H _ I h) fun us s1 ⟨vs,H1,I1,r1,l1,l2,ev,⟨xs,hq1⟩,⟨ys,hq2⟩,q⟩=>?_) he hpl
 subst ev
 obtain⟨u1,u2,rfl,ru1,ru2⟩:=vals2 r1
 cases(show u1=Value.ref l1 from ru1)
 cases(show u2=Value.ref l2 from ru2)
 obtain⟨its1,r1',p1,_⟩:=I1.tuple hq1
 obtain⟨its2,r2',p2,_⟩:=I1.tuple hq2
 refine zip_callT p1 p2 fun h' st sz kk=>?_
 refine wpAny_pyIter_zip (s:={s1 with heap:=h'}) st.1 ?_
 refine⟨s1.heap.objs.size+4,[s1.heap.objs.size+4,s1.heap.objs.size+2,s1.heap.objs.size+3,s1.heap.objs.size,s1.heap.objs.size+1],_,_,H1,rfl,I1.kept (t':=s1.toks) kk,turn_zipT _ _ _ _ _ l1 l2 ?_,st,fun b hb=>?_,q⟩
 ·generalize s1.heap.objs.size=n
  refine⟨?_,?_,?_,?_,?_,?_,?_,?_,?_,?_⟩<;>(intro z;have z':(_:Nat)=_:=z;omega)
 ·have hb':s1.heap.objs.size≤b:=by
   simp only[List.mem_cons,List.not_mem_nil,or_false] at hb
   rcases hb with rfl|rfl|rfl|rfl|rfl
   ·exact Nat.le_add_right _ _
   ·exact Nat.le_add_right _ _
   ·exact Nat.le_add_right _ _
   ·exact Nat.le_refl _
   ·exact Nat.le_add_right _ _
  exact I1.fpOk hb' (I1.hok.fresh hb')
theorem for_zipT {K:PySem.W.Frag}{a b:Addr}{xs ys:List V}{g:TG}{tb:TS}{D:Ends}{σ:St}{H:Hp}(hle:xs.length=ys.length)(Pv:Nat→St→Hp→Prop)(h0:Pv 0 σ H)(hl:∀i σ H,i≤xs.length→Pv i σ H→SqT K H a xs∧SqT K H b ys)
  (hs:∀i x y p σ H,xs[i]?=some x→ys[i]?=some y→H p=none→Pv i σ H→g (.ref p) σ (upd H p (.tup [x,y])) fun σ2 H2=>tb {D with nx:=Pv (i+1),ct:=Pv (i+1),bk:=D.nx} σ2 H2) (hd:∀σ H,Pv xs.length σ H→D.nx σ H):
  ∃W:Nat→Nat→St→Hp→Prop,(∃m,W 0 m σ H)∧∀i m σ H,W i m σ H→
   ((ItzT K a b).stop i H∧D.nx σ H)∨((ItzT K a b).go i H∧∃N:St→Hp→Prop,(∀σ' H',N σ' H'→∃m',m'<m∧W (i+1) m' σ' H')∧∀x H',(ItzT K a b).yld i H x H'→g x σ H' fun σ2 H2=>tb {D with nx:=N,ct:=N,bk:=D.nx} σ2 H2):=by
 refine⟨fun i m σ H=>m=xs.length - i∧i≤xs.length∧Pv i σ H,⟨xs.length,by simp,Nat.zero_le _,h0⟩,?_⟩
 rintro i m σ H ⟨rfl,hi,p⟩
 obtain⟨q1,q2⟩:=hl i σ H hi p
 by_cases hlt:i<xs.length
 ·refine .inr ⟨⟨xs,ys,xs[i],ys[i],q1,q2,by simp[hlt],by simp[show i<ys.length by omega]⟩,Pv (i+1),fun σ' H' p'=>⟨xs.length - (i+1),by omega,rfl,hlt,p'⟩,fun x H' z=>?_⟩
  obtain⟨P,y1,y2,hn,rfl,rfl,e1,e2⟩:=z
  exact hs i y1 y2 P σ _ (e1 xs q1) (e2 ys q2) hn p
 ·have e:i=xs.length:=by omega
  subst e
  exact .inl ⟨⟨xs,ys,q1,q2,.inl (Nat.le_refl _)⟩,hd σ H p⟩
section
variable {prog:Program} {w:World} {A:Around} {E:Value→Shared→Prop} {s:Shared} {d it v:Addr} {o:Obj} {es:Array DictEntry} {i ep:Nat}
theorem rv_view {Q:Value→Shared→Prop}(hd:(d==sysModules)=false)(ho:s.heap.get? d=some o)(hc:o.ExactDict)
  (h:Q (.ref s.heap.objs.size) {s with heap:=s.heap.push {cls:=.type "dict_values",data:=.fields #[.ref d]}}):wpAny (model prog w) A (call (.builtin "dict.values") [.ref d]) Q E s:=by
 have hT:s.TypeIs (.ref d) "dict" :=⟨o,ho,hc.1⟩
 refine wpAny_call_entry F.slot_dict_values hT F.entry_dict_values ?_ (F.args_dict_values_1 _)
 refine wpAny_bind ?_
 unfold Builtin.Dict.noArgs
 refine wpAny_bind (wpAny_notOrdered_dict hT ?_)
 show wpAny _ _ (pure d) _ _ s
 refine wpAny_pure ?_
 show wpAny _ _ (Builtin.Dict.showsAll d>>=_) _ _ s
 unfold Builtin.Dict.showsAll
 rw[if_neg (by rw[hd];exact Bool.false_ne_true)]
 exact wpAny_bind (wpAny_pure (wpAny_bind (wpAny_newObj_type (wpAny_pure ⟨_,rfl,h⟩))))
theorem rv_iter {Q:Value→Shared→Prop}(hv:s.heap.IsValuesView v d)(ho:s.heap.get? d=some o)(hdat:o.data=.dict es ep)
  (hQ:Q (.ref s.heap.objs.size) {s with heap:=s.heap.push {cls:=.type "dict_valueiterator",data:=.fields #[.ref d,.int 0 0,.int es.size 0,.int ep 0]}}):wpAny (model prog w) A (pyIter (.ref v)) Q E s:=by
 obtain⟨ob,hov,hcv,hdv⟩:=id hv
 refine wpAny_pyIter_slot hv.typeIs F.slot_dict_values_iter (wpAny_call_entry F.slot_dict_values_iter hv.typeIs F.entry_dict_values_iter ?_ (F.args_dict_values_iter_1 _))
 unfold Builtin.«dict_values.__iter__»
 refine wpAny_bind (wpAny_pure (wpAny_bind ?_))
 unfold Builtin.Dict_items.dictOf
 refine wpAny_bind (wpAny_field hov hdv (x:=.ref d) rfl (wpAny_pure (wpAny_bind ?_)))
 unfold Builtin.Dict_items.newIterator
 refine wpAny_bind (wpAny_dictEntries ho hdat (wpAny_bind (wpAny_dictEpoch ho hdat ?_)))
 simp only[show Builtin.Dict_items.ownsTuple "dict_valueiterator" =false by decide,Bool.false_eq_true,if_false]
 refine wpAny_newObj_type (wpAny_pure ⟨_,rfl, "dict_valueiterator",_,⟨_,Heap.get?_push_size _ rfl,rfl⟩,F.slot_dict_valueiterator_next.lookup,?_⟩)
 simpa[rawInt] using hQ
theorem rv_next {Q:Option Value→Shared→Prop}(hit:s.heap.IsValIter it d i es.size ep)(hod:s.heap.get? d=some o)(hdd:o.data=.dict es ep)(hi:i<es.size)
  (hQ:∀h',h'.IsValIter it d (i+1) es.size ep→Heap.SameBut it s.heap h'→Q (some es[i].val) {s with heap:=h'}):wpAny (model prog w) A (pyNext (.ref it)) Q E s:=by
 obtain⟨oi,ho,hc,hd⟩:=id hit
 unfold pyNext
 refine wpAny_bind (wpAny_attempt (wpAny_callSpecial?_slot (name:=Str.ofString "__next__") hit.typeIs F.slot_dict_valueiterator_next
  (wpAny_call_entry F.slot_dict_valueiterator_next hit.typeIs F.entry_dict_valueiterator_next ?_ (F.args_dict_valueiterator_next_1 _))))
 refine wpAny_bind (wpAny_pure (wpAny_bind (wpAny_bind ?_)))
 first|refine wpAny_bind (wpAny_typeNameOfWhole_valiter hit.typeIs (wpAny_pure ?_))|refine wpAny_bind (wpAny_typeNameOf_valiter hit.typeIs (wpAny_pure ?_))
 refine wpAny_bind (wpAny_fieldsOf ho hd ?_)
 simp only[show Builtin.Dict_items.ownsTuple "dict_valueiterator" =false by decide,Bool.false_eq_true,if_false]
 show wpAny _ _ (if (Value.ref d==Value.none)=true then _ else _) _ _ s
 rw[if_neg (show¬((Value.ref d==Value.none)=true) from Bool.false_ne_true)]
 refine wpAny_bind (wpAny_pure (wpAny_bind (wpAny_dictEntries hod hdd ?_)))
 rw[if_neg (by simp)]
 refine wpAny_bind (wpAny_pure (wpAny_bind (wpAny_dictEpoch hod hdd ?_)))
 rw[if_neg (by simp)]
 refine wpAny_pure ?_
 simp only[show¬((i:Int)<0) from by omega,if_false,Int.toNat_natCast,Array.getElem?_eq_getElem hi]
 refine wpAny_bind ?_
 first|refine wpAny_bind (wpAny_typeNameOfWhole_valiter hit.typeIs (wpAny_pure ?_))|refine wpAny_bind (wpAny_typeNameOf_valiter hit.typeIs (wpAny_pure ?_))
 refine wpAny_bind (wpAny_isOneOf_valiter hit.typeIs ?_)
 show wpAny _ _ (setField (.ref it) 1 (rawInt ((i:Int)+1))>>=_) _ _ s
 refine wpAny_bind (wpAny_setField ho hd (by simp) ?_)
 have new:(s.heap.update it (Obj.mapFields (·.setIfInBounds 1 (rawInt ((i:Int)+1))))).IsValIter it d (i+1) es.size ep:=
  ⟨_,Heap.get?_update_self _ ho (Obj.isFreed_of_fields (Obj.data_mapFields hd _)),(Obj.cls_mapFields ..).trans hc,by rw[Obj.data_mapFields hd];simp[rawInt]⟩
 refine wpAny_bind (wpAny_holding (wpAny_bind (wpAny_isOneOf_valiter (s:={s with heap:=s.heap.update it (Obj.mapFields (·.setIfInBounds 1 (rawInt ((i:Int)+1))))}) new.typeIs ?_)))
 refine wpAny_bind (wpAny_isOneOf_valiter (s:={s with heap:=s.heap.update it (Obj.mapFields (·.setIfInBounds 1 (rawInt ((i:Int)+1))))}) new.typeIs ?_)
 show wpAny _ _ (pure es[i].val) _ _ _
 exact wpAny_pure (wpAny_pure ⟨_,rfl,wpAny_pure (hQ _ new (Heap.SameBut.update ..))⟩)
theorem rv_end {Q:Option Value→Shared→Prop}(hh:A.handled=none)(hit:s.heap.IsValIter it d i es.size ep)(hod:s.heap.get? d=some o)(hdd:o.data=.dict es ep)(hi:es.size≤i)
  (hQ:∀h',Heap.ExtBut it s.heap h'→Q none {s with heap:=h'}):wpAny (model prog w) A (pyNext (.ref it)) Q E s:=by
 obtain⟨oi,ho,hc,hd⟩:=id hit
 unfold pyNext
 refine wpAny_bind (wpAny_attempt (wpAny_callSpecial?_slot (name:=Str.ofString "__next__") hit.typeIs F.slot_dict_valueiterator_next
  (wpAny_call_entry F.slot_dict_valueiterator_next hit.typeIs F.entry_dict_valueiterator_next ?_ (F.args_dict_valueiterator_next_1 _))))
 refine wpAny_bind (wpAny_pure (wpAny_bind (wpAny_bind ?_)))
 first|refine wpAny_bind (wpAny_typeNameOfWhole_valiter hit.typeIs (wpAny_pure ?_))|refine wpAny_bind (wpAny_typeNameOf_valiter hit.typeIs (wpAny_pure ?_))
 refine wpAny_bind (wpAny_fieldsOf ho hd ?_)
 simp only[show Builtin.Dict_items.ownsTuple "dict_valueiterator" =false by decide,Bool.false_eq_true,if_false]
 show wpAny _ _ (if (Value.ref d==Value.none)=true then _ else _) _ _ s
 rw[if_neg (show¬((Value.ref d==Value.none)=true) from Bool.false_ne_true)]
 refine wpAny_bind (wpAny_pure (wpAny_bind (wpAny_dictEntries hod hdd ?_)))
 rw[if_neg (by simp)]
 refine wpAny_bind (wpAny_pure (wpAny_bind (wpAny_dictEpoch hod hdd ?_)))
 rw[if_neg (by simp)]
 refine wpAny_pure ?_
 simp only[show¬((i:Int)<0) from by omega,if_false,Int.toNat_natCast,Array.getElem?_eq_none hi]
 refine wpAny_bind ?_
 first|refine wpAny_bind (wpAny_typeNameOfWhole_valiter hit.typeIs (wpAny_pure ?_))|refine wpAny_bind (wpAny_typeNameOf_valiter hit.typeIs (wpAny_pure ?_))
 show wpAny _ _ (setField (.ref it) 0 .none>>=_) _ _ s
 refine wpAny_bind (wpAny_setField ho hd (by simp) ?_)
 show wpAny _ _ (newExc (.type "StopIteration") []>>=_) _ _ _
 refine wpAny_bind ?_
 simp only[newExc,newTuple]
 refine wpAny_bind (wpAny_newObj_type ?_ (by size_fits))
 refine wpAny_bind (m:=firstArgMember _ _) (wpAny_of_eq (a:=Value.none) (by first|rfl|(simp only[firstArgMember];rfl)) (wpAny_newObj_type ?_ (by size_fits)))
 simp only[raiseNew]
 refine wpAny_bind (wpAny_handled ?_)
 rw[show A.in1.handled=none from hh]
 refine wpAny_bind (wpAny_pure (wpAny_throw ?_))
 refine wpAny_bind (wpAny_isInstance (T:= "StopIteration") (b:=true) ⟨_,Heap.get?_push_size _ rfl,rfl⟩ isSubtype_stop ?_)
 exact wpAny_pure (hQ _ (((Heap.SameBut.update ..).extBut.push _).push _))
end
noncomputable def Itv (d:Addr) (o:Obj) (u:HO):It:=
 ⟨fun i H=>H d=some (.frz o u)∧i<szU u,fun i H v H'=>H'=H∧∃x,KeyAt H u i x v,fun i H=>H d=some (.frz o u)∧szU u≤i⟩
theorem turn_vals {P:Program}{w:World}{K:PySem.W.Frag}{tg:Expr}(d it:Addr)(o:Obj)(u:HO)(hu:DictU u)(es:Array DictEntry)(ep:Nat)(hd:o.data=.dict es ep):
  Turn P w K tg (Itv d o u) [it] it (fun i h=>h.IsValIter it d i es.size ep) where
 mem:=by simp
 obj:=fun i h st b hb=>by
  rw[List.mem_singleton.mp hb]
  obtain⟨oi,e,c,q⟩:=st
  exact⟨oi,e,fun v z=>by rw[q] at z;cases z⟩
 keep:=fun i h h' st k=>Heap.IsValIter.at st fun oi e=>k it (by simp) oi e
 item:=by
  intro X hP hw hK hc i pins s σ H E I hf st hg
  subst hP hw hK
  obtain⟨hH,hi⟩:=hg
  obtain⟨_,hod,_,es',ep',hd',hz,hall⟩:=raw_of I.hok hH hu
  rw[hd] at hd';cases hd'
  obtain⟨f0,f1,f2,f3,f4,f5⟩:=hf it (by simp)
  have hi':i<es.size:=by omega
  obtain⟨x,v,hk,r1,r2⟩:=hall i hi'
  refine rv_next st hod hd hi' fun h' st' sb=>?_
  have I1:Inv X pins σ H {s with heap:=h'}:=I.turned (t':=s.toks) (fun b ob hb e=>(sb.2 b hb).trans e) f0 f1 f3 f4 f5
  obtain⟨oi,e,c,q⟩:=id st'
  exact⟨_,rfl,go_of (s:={s with heap:=h'}) e c q (by decide) ⟨v,H,I1,r2,⟨rfl,x,hk⟩,st',fun b hb=>(hf b hb).1⟩⟩
 done:=by
  intro X hP hw hK hc i pins s σ H E I hf st hg
  subst hP hw hK
  obtain⟨hH,hi⟩:=hg
  obtain⟨_,hod,_,es',ep',hd',hz,hall⟩:=raw_of I.hok hH hu
  rw[hd] at hd';cases hd'
  obtain⟨f0,f1,f2,f3,f4,f5⟩:=hf it (by simp)
  exact rv_end (I.ok.hd hc) st hod hd (by omega) fun h' eb=>⟨rfl,I.turned (t':=s.toks) (fun b ob hb e=>eb b ob hb e) f0 f1 f3 f4 f5⟩
 self:=fun A i s Q E st h=>by
  refine wpAny_pyIter_slot st.typeIs F.slot_dict_valueiterator_iter (wpAny_call_entry F.slot_dict_valueiterator_iter st.typeIs entry_dict_valueiterator_iter ?_ (F.args_dict_valueiterator_iter_1 _))
  show wpAny _ _ (ret (.ref it)) _ _ s
  exact wpAny_pure ⟨_,rfl, "dict_valueiterator",_,st.typeIs,F.slot_dict_valueiterator_next.lookup,h⟩
def iVals (te:TE):TI:=fun σ H R=>te σ H fun x H1=>∃d o u,x=.ref d∧H1 d=some (.frz o u)∧DictU u∧R (Itv d o u) H1
theorem pi_values {X:Cx}{tg e:Expr}{te:TE}{apos cpos:Pos}(he:PE X e te)
  (hbase:attributeBase e "values" X.env (eval e X.env)=eval e X.env:=by rfl) (hline:(apos.endLine==cpos.line)=true:=by rfl):
  PI X tg (.Call (.Attribute e "values" apos) [] [] cpos) (iVals te):=by
 intro pins s σ H R I h
 refine wpAny_Call_method0_late hbase hline (thn (he pins s σ H _ I h) fun v s1 ⟨x,H1,I1,r,d,o,u,ex,hd,hu,q⟩=>?_)
 subst ex
 cases(show v=Value.ref d from r)
 obtain⟨hS,hod,hc,es,ep,hdd,hz,_⟩:=raw_of I1.hok hd hu
 refine⟨"dict", "dict.values",F.plainAttrs_dict,F.slot_dict_values,F.type_dict_values,⟨o,hod,hc.1⟩,fun a e2=>by cases e2;exact⟨o,hod,hc.2.1⟩,Calls.callWith_builtin rfl (PySem.evalArgs_none ?_)⟩
 refine rv_view hS hod hc ?_
 have k1:∀b ob,s1.heap.get? b=some ob→(s1.heap.push {cls:=.type "dict_values",data:=.fields #[.ref d]}).get? b=some ob:=fun b ob z=>Heap.get?_push_of_some _ z
 refine rv_iter (s:={s1 with heap:=s1.heap.push {cls:=.type "dict_values",data:=.fields #[.ref d]}}) ⟨_,Heap.get?_push_size _ rfl,rfl,rfl⟩ (k1 _ _ hod) hdd ?_
 have I2:=I1.kept (t':=s1.toks) k1
 refine⟨_,[(s1.heap.push {cls:=.type "dict_values",data:=.fields #[.ref d]}).objs.size],_,_,H1,rfl,I2.kept (t':=s1.toks) (fun b ob z=>Heap.get?_push_of_some _ z),turn_vals d _ o u hu es ep hdd,⟨_,Heap.get?_push_size _ rfl,rfl,rfl⟩,fun b hb=>?_,q⟩
 rw[List.mem_singleton.mp hb]
 exact I2.fpOk (Nat.le_refl _) (I2.hok.fresh (Nat.le_refl _))
theorem for_vals {d:Addr}{o:Obj}{u:HO}{g:TG}{tb:TS}{D:Ends}{σ:St}{H:Hp}(Pv:Nat→St→Hp→Prop)(h0:Pv 0 σ H)(hl:∀i σ H,i≤szU u→Pv i σ H→H d=some (.frz o u))
  (hs:∀i x v σ H,KeyAt H u i x v→i<szU u→Pv i σ H→g v σ H fun σ2 H2=>tb {D with nx:=Pv (i+1),ct:=Pv (i+1),bk:=D.nx} σ2 H2) (hd:∀σ H,Pv (szU u) σ H→D.nx σ H):
  ∃W:Nat→Nat→St→Hp→Prop,(∃m,W 0 m σ H)∧∀i m σ H,W i m σ H→
   ((Itv d o u).stop i H∧D.nx σ H)∨((Itv d o u).go i H∧∃N:St→Hp→Prop,(∀σ' H',N σ' H'→∃m',m'<m∧W (i+1) m' σ' H')∧∀x H',(Itv d o u).yld i H x H'→g x σ H' fun σ2 H2=>tb {D with nx:=N,ct:=N,bk:=D.nx} σ2 H2):=by
 refine⟨fun i m σ H=>m=szU u - i∧i≤szU u∧Pv i σ H,⟨szU u,by simp,Nat.zero_le _,h0⟩,?_⟩
 rintro i m σ H ⟨rfl,hi,p⟩
 have q:=hl i σ H hi p
 by_cases hlt:i<szU u
 ·refine .inr ⟨⟨q,hlt⟩,Pv (i+1),fun σ' H' p'=>⟨szU u - (i+1),by omega,rfl,hlt,p'⟩,fun x H' y=>?_⟩
  obtain⟨e,v,k⟩:=y
  subst e
  exact hs i v x σ _ k hlt p
 ·have e:i=szU u:=by omega
  subst e
  exact .inl ⟨⟨q,Nat.le_refl _⟩,hd σ H p⟩
section
variable {X:Cx}
theorem map_int_inj:∀{c d:List Int},c.map V.int=d.map V.int→c=d
 |[],[],_=>rfl
 |[],_::_,h=>by simp at h
 |_::_,[],h=>by simp at h
 |a::c,b::d,h=>by
  rw[List.map_cons,List.map_cons] at h
  injection h with h1 h2
  injection h1 with h1
  rw[h1,map_int_inj h2]
noncomputable def isT (H:Hp) (c:List Int) (u:Value):Bool:=match u with
 | .ref a=> @decide (H a=some (.tup (c.map V.int))) (Classical.propDecidable _)
 |_=>false
theorem isT_of {H:Hp}{c d:List Int}{a:Addr}(h:H a=some (.tup (d.map V.int))):isT H c (.ref a)=decide (d=c):=by
 show @decide (H a=some (.tup (c.map V.int))) (Classical.propDecidable _)=decide (d=c)
 by_cases e:d=c
 ·subst e
  rw[decide_eq_true (rfl:d=d)]
  exact @decide_eq_true _ (Classical.propDecidable _) h
 ·rw[decide_eq_false e]
  refine @decide_eq_false _ (Classical.propDecidable _) fun z=>e ?_
  rw[h] at z
  injection z with z
  injection z with z
  exact map_int_inj z
def rInT (K:PySem.W.Frag) (neg:Bool):R2:=fun x y H Q=>∃(b p:Addr) (as:List Addr) (c:List Int) (cs:List (List Int)),x=.ref b∧y=.ref p∧H b=some (.tup (c.map V.int))∧SqL K H p (as.map V.ref)∧Tups H as cs∧Q (.bl (if neg then !decide (c∈cs) else decide (c∈cs))) H
theorem any_isT {H:Hp}{c:List Int}:∀{as:List Addr} {cs:List (List Int)},Tups H as cs→(as.map Value.ref).any (isT H c)=decide (c∈cs)
 |_,_,.nil=>by simp
 |a::as,d::cs,.cons r t=>by
  rw[List.map_cons,List.any_cons,isT_of r,any_isT t]
  by_cases h:d=c
  ·subst h;simp
  ·have:¬c=d:=fun z=>h z.symm
   simp[h,this]
theorem mem_isT {k:Nat}(hr:Room k X.A){pins:List (Addr×Obj)}{σ:St}{H:Hp}{s:Shared}(I:Inv X pins σ H s){b:Addr}{c:List Int}(hb:H b=some (.tup (c.map V.int))):
  ∀{as:List Addr} {cs:List (List Int)},Tups H as cs→∀u∈as.map Value.ref,SeqAt.EqAt X.A.in1 s u (.ref b) (isT H c u)
 |_,_,.nil=>fun u hu=>by simp at hu
 |a::as,d::cs,.cons r t=>fun u hu=>by
  rw[List.map_cons] at hu
  rcases List.mem_cons.mp hu with rfl|hu
  ·obtain⟨x1,r1⟩:=(Dp.ints (K:=X.K) (ns:=d) (SqT.of r)).reads I (u:=.ref a) rfl
   obtain⟨x2,r2⟩:=(Dp.ints (K:=X.K) (ns:=c) (SqT.of hb)).reads I (u:=.ref b) rfl
   have:=hr.units
   have h1:=depth_tints d
   rw[isT_of r,←eqv_tints]
   exact SeqAt.eqAt_reads _ _ _ _ _ _ _ _ r1 r2 (Dp.ints (K:=X.K) (H:=H) (SqT.of r)).lay (Dp.ints (K:=X.K) (H:=H) (SqT.of hb)).lay (by show X.A.units+1+_<_;omega)
  ·exact mem_isT hr I hb t u hu
theorem op_inT {k:Nat}(hr:Room k X.A):OpR X (compareOp .In) (rInT X.K false):=by
 intro pins s σ H x y v u Q I rx ry h
 obtain⟨b,p,as,c,cs,rfl,rfl,hb,hp,ht,q⟩:=h
 cases rx
 cases ry
 obtain⟨its,rv,pl,hz⟩:=I.list hp
 cases vals_refs rv
 refine SeqAt.in_listAt (isT H c) pl.isList (fun w hw=>mem_isT hr I hb ht w (by simpa using hw)) ⟨.bl _,H,I,rfl,?_⟩
 rw[show(as.map Value.ref).toArray.any (isT H c)=(as.map Value.ref).any (isT H c) by simp,any_isT ht]
 exact q
end
noncomputable def bitsOk (f:Nat→Nat):Nat→Nat→Bool
 |0,_=>true
 |n+1,acc=>!(acc.testBit (f n))&&bitsOk f n (acc|||(1<<<f n))
theorem bitsOk_of {f:Nat→Nat}:∀{n acc:Nat},bitsOk f n acc=true→∀i<n,acc.testBit (f i)=false∧∀j<n,f j=f i→j=i
 |0,_,_,i,hi=>absurd hi (Nat.not_lt_zero _)
 |n+1,acc,h,i,hi=>by
  unfold bitsOk at h
  rw[Bool.and_eq_true] at h
  obtain⟨h1,h2⟩:=h
  have h1:acc.testBit (f n)=false:=by simpa using h1
  have ih:=bitsOk_of h2
  have key:∀k<n,acc.testBit (f k)=false∧f k≠f n:=fun k hk=>by
   have:=(ih k hk).1
   rw[Nat.testBit_or,Bool.or_eq_false_iff] at this
   refine⟨this.1,fun e=>?_⟩
   have h3:=this.2
   rw[e,Nat.testBit_shiftLeft] at h3
   simp at h3
  by_cases e:i=n
  ·subst e
   refine⟨h1,fun j hj ej=>?_⟩
   by_cases e2:j=i
   ·exact e2
   ·exact absurd ej (key j (by omega)).2
  ·refine⟨(key i (by omega)).1,fun j hj ej=>?_⟩
   by_cases e2:j=n
   ·subst e2;exact absurd ej.symm (key i (by omega)).2
   ·exact(ih i (by omega)).2 j (by omega) ej
section
variable {prog:Program} {w:World} {d:Addr} {es:Array DictEntry} {ep:Nat}
theorem rk_src (hd:(d==sysModules)=false):PySem.W.KdlSrc prog w "dict" d d es.size (fun i v=>∃hi:i<es.size,v=es[i].key) (fun h=>∃o,h.get? d=some o∧o.ExactDict∧o.data=.dict es ep) where
 type:=fun _ ⟨o,ho,hc,_⟩=>⟨o,ho,hc.1⟩
 there:=fun _ ⟨o,ho,_⟩=>⟨Heap.lt_size ho,Heap.lt_size ho⟩
 keep:=fun _ _ ⟨o,ho,x⟩ hk=>⟨o,hk d (.inl rfl) o ho,x⟩
 notList:=by decide
 notTuple:=by decide
 hint:=fun _ _ _ _ ⟨o,ho,hc,_⟩ hq=>PySem.W.kdl_hint_dict ⟨o,ho,hc.1⟩ hq
 iter:=fun A s hh ⟨o,ho,hc,hdat⟩=>⟨_,fun i h=>h.IsKeyIter s.heap.objs.size d i es.size ep∧∃o,h.get? d=some o∧o.data=.dict es ep,(fun _ _ hq=>rk_iter hd ho hc hdat hq),{
   sub:=fun b hb=>by simp at hb;simp[hb]
   frame:=fun _ _ _ ⟨st,o,h1,h2⟩ hk=>⟨keyiter_at st fun o e=>hk _ (by simp) o e,o,hk d (by simp) o h1,h2⟩
   item:=fun i s' Q E hi ⟨st,o,h1,h2⟩ hQ=>rk_next st h1 h2 hi fun h' st' sb=>hQ _ h' s'.toks ⟨hi,rfl⟩ ⟨st',o,(sb.2 d (Nat.ne_of_lt (Heap.lt_size ho))).trans h1,h2⟩ fun b o hb e=>(sb.2 b (fun z=>hb (by simp[z]))).trans e
   done:=fun s' Q E ⟨st,o,h1,h2⟩ hQ=>rk_end hh st h1 h2 (Nat.le_refl _) fun h' eb=>hQ h' s'.toks fun b o hb e=>eb b o (fun z=>hb (by simp[z])) e
   self:=fun i s' Q E ⟨st,_⟩ hQ=>wpAny_pyIter_keyiter st hQ},⟨⟨_,Heap.get?_push_size _ rfl,rfl,rfl⟩,o,Heap.get?_push_of_some _ ho,hdat⟩⟩
end
section
variable {X:Cx}
theorem sort_core {pins:List (Addr×Obj)}{σ:St}{H:Hp}{s:Shared}{A:Around}{Q:Value→Shared→Prop}{m:Str→Option Value}(I:Inv X pins σ H s){as:List Addr}{cs:List (List Int)}(ht:Tups H as cs)(hne:∀c∈cs,c≠[])(h2:2≤as.length)(h64:as.length<64)(hm:s.heap.Ns X.env.locals m)
  {D:Addr} {e1 tk:Nat} {h':Heap} (F':Fr (Att.noObjs s.heap) X.env.locals h' m) (N':News (Att.noObjs s.heap) X.env.locals h' ((D,seqObj "list" #[] e1)::allNews (Att.noObjs s.heap) s.heap X.env.locals)) (hD:∀q∈allNews (Att.noObjs s.heap) s.heap X.env.locals,q.1<D)
  (q:∀bs ds s',H D=none→Tups H bs ds→ds.Perm cs→ds.Pairwise (fun c d=>HT.lexLt d c=false)→Inv X pins σ (upd H D (.lst (bs.map V.ref))) s'→Q (.ref D) s'):
  wpAny (model X.prog X.w) A (keyKind' (as.map Value.ref).toArray) (fun κ s'=>(PySem.W.kas_sort (as.map Value.ref).length).kasWp (PySem.W.kas_ask X.prog X.w A κ (as.map Value.ref)) (fun p s''=>PySem.W.KasFin (Att.noObjs s.heap) X.env.locals m D e1 (p.toList.map fun i=>(as.map Value.ref).getD i Value.none) (fun s3=>Q (.ref D) s3) s'') s') (fun _ _=>False) {s with heap:=h',toks:=tk}:=by
 have hcl:as.length=cs.length:=ht.length
 have k0:∀b u,b≠X.env.locals→s.heap.get? b=some u→h'.get? b=some u:=fun b u hb e=>(N' (b,u) (List.mem_cons_of_mem _ (mem_allNews hb (Att.noObjs_get _ _) e))).1
 have hDn:s.heap.get? D=none:=by
  cases e:s.heap.get? D with
  |none=>rfl
  |some u=>exact absurd (hD (D,u) (mem_allNews (N' (D,_) List.mem_cons_self).2.1 (Att.noObjs_get _ _) e)) (Nat.lt_irrefl _)
 obtain⟨fs,kt,hfl,hfi⟩:=tups_kat I k0 ht hne
 refine PySem.W.kat_kind (s:={s with heap:=h',toks:=tk}) (T:=.type "int") kt (by omega) (fun v hv=>?_) rfl ?_
 ·obtain⟨i,t,rfl⟩:=hfi v hv
  exact .now
 have hl:(as.map Value.ref).length=as.length:=List.length_map ..
 obtain⟨s1,s2,s3⟩:=sort_ok (O:=lexO) (key:=fun i=>cs.getD i []) (N:=as.length) (by omega)
 rw[hl]
 refine kas_ev (lt:=ltK (O:=lexO) fun i=>cs.getD i []) (I:=fun s'=>s'={s with heap:=h',toks:=tk}) (fun i j C s' hi hj hs hC=>?_) s1 rfl fun s' hs=>?_
 ·subst hs
  obtain⟨ci,e1,g1⟩:=ht.at (i:=i) (a:=as[i]) (by simp[hi])
  obtain⟨cj,e2,g2⟩:=ht.at (i:=j) (a:=as[j]) (by simp[hj])
  have v1:(as.map Value.ref).getD i Value.none=.ref as[i]:=by simp[hi]
  have v2:(as.map Value.ref).getD j Value.none=.ref as[j]:=by simp[hj]
  have hne1:as[i]≠X.env.locals:=fun z=>by rw[z,I.free] at g1;cases g1
  have hne2:as[j]≠X.env.locals:=fun z=>by rw[z,I.free] at g2;cases g2
  obtain⟨_,xs1,rv1,o1,ho1,_,n1,hd1⟩:=(show ObjOk X.prog X.w H s.heap as[i] (.tup (ci.map V.int)) from I.hok _ _ g1)
  obtain⟨_,xs2,rv2,o2,ho2,_,n2,hd2⟩:=(show ObjOk X.prog X.w H s.heap as[j] (.tup (cj.map V.int)) from I.hok _ _ g2)
  unfold PySem.W.kas_ask
  rw[v1,v2]
  refine PySem.W.kat_lt (k0 _ _ hne1 ho1) hd1 (k0 _ _ hne2 ho2) hd2 ?_
  have l1:=rv1.length
  have l2:=rv2.length
  rw[List.length_map] at l1 l2
  refine katlex_ints xs1 xs2 ci cj 0 rv1 rv2 (by simp[l1,l2]) ?_
  have:=hC _ rfl
  simp only[ltK,List.getD_eq_getElem?_getD,e1,e2,Option.getD_some] at this
  exact this
 ·subst hs
  refine PySem.W.KasFin.intro (s:={s with heap:=h',toks:=tk}) F' N' (.head fun p hp=>Nat.ne_of_lt (hD p hp)) fun h2' c F2 N2=>?_
  have hix:∀i∈(evT (ltK (O:=lexO) fun i=>cs.getD i []) (PySem.W.kas_sort as.length)).toList,i<as.length:=fun i hi=>by
   have:=(Array.perm_iff_toList_perm.mp s2).mem_iff.mp hi
   simpa using this
  generalize hE:evT (ltK (O:=lexO) fun i=>cs.getD i []) (PySem.W.kas_sort as.length)=P at s2 s3 hix N2
  have hb:(P.toList.map fun i=>(as.map Value.ref).getD i Value.none)=(P.toList.map fun i=>as.getD i 0).map Value.ref:=by
   rw[List.map_map]
   refine List.map_congr_left fun i hi=>?_
   have:=hix i hi
   simp[this]
  have I':Inv X pins σ (upd H D (.lst ((P.toList.map fun i=>as.getD i 0).map V.ref))) {s with heap:=h2',toks:=tk}:=by
   refine I.laidN (fun b u hb e=>?_) (fun m' hm'=>?_) hDn ?_
   ·exact(N2 (b,u) (List.mem_cons_of_mem _ (mem_allNews hb (Att.noObjs_get _ _) e))).1
   ·have:m'=m:=ns_inj hm' hm
    rw[this];exact F2.ns
   ·have e:=(N2 (D,_) List.mem_cons_self).1
    rw[hb] at e
    refine⟨?_,_,_,vals_of_refs _,e⟩
    rw[List.length_map,List.length_map,Array.length_toList,s2.size]
    exact Nat.le_trans (Nat.le_of_lt h64) (by decide)
  refine q _ _ _ (I.hok.none_of hDn) (Paired.pick 0 [] ht _ hix) (pick_perm [] cs (by rw[←hcl];exact s2)) ?_ I'
  rw[List.pairwise_iff_getElem]
  intro i j hi hj hij
  simp only[List.length_map,Array.length_toList] at hi hj
  have:=s3 i j (Nat.le_of_lt hij) (by rw[s2.size] at hj;exact hj)
  simp only[List.getElem_map,Array.getElem_toList]
  unfold kA at this
  simp only[Array.getD_eq_getD_getElem?,Array.getElem?_eq_getElem hi,Array.getElem?_eq_getElem hj,Option.getD_some] at this
  exact this
end
section
variable {X:Cx}
end
section
variable {prog:Program} {w:World} {κ:Type} [DecidableEq κ] {knd:HeapKind prog w κ} {A:Around} {E:Value→Shared→Prop} {s:Shared}
end
section
variable {X:Cx}
end
theorem ix_tupK {X:Cx}{K:PySem.W.Frag}(e:X.K=K):IxR X (rIxT K):=by subst e;exact ix_tup
theorem ix_listK {X:Cx}{K:PySem.W.Frag}(e:X.K=K):IxR X (rIxL K):=by subst e;exact ix_list
section
open PySem.SeqAt
open PySem.AutoSeq1 (wpAny_loadPart')
open PySem.MeetsSeq PySem.MeetsSeq2 PySem.MeetsSeq3
end
section
variable {prog:Program} {w:World} {A:Around} {E:Value→Shared→Prop} {s:Shared}
end
section
variable {prog:Program} {w:World} {A:Around} {R:Result→Shared→Prop} {it:Addr} {fp wr:List Addr} {P:Nat→Value→Prop} {St:Nat→Heap→Prop}
end
section
variable {prog:Program} {w:World} {A:Around} {E:Value→Shared→Prop} {s:Shared}
end
section
variable {X:Cx}
end
section
variable {prog:Program} {w:World} {A:Around} {R:Result→Shared→Prop} {it:Addr} {fp wr:List Addr} {P:Nat→Value→Prop} {St:Nat→Heap→Prop}
end
section
variable {prog:Program} {w:World} {A:Around} {E:Value→Shared→Prop} {s:Shared}
end
section
variable {X:Cx}
end
section
variable {X:Cx}
end
section
variable {X:Cx} {pins:List (Addr×Obj)} {σ:St} {H:Hp} {s:Shared}
end
section
variable {M:Model} {A:Around} {E:Value→Shared→Prop} {s:Shared} {env:Env} {pos:Pos} {f:Addr} {Q:Value→Shared→Prop}
end
section
variable {X:Cx}
end
section
variable {X:Cx}
theorem call_listD (hcm:X.calm=true):CallR X (.type "list") (fun xs H Q=>∃(a:Addr) (u:HO),xs=[.ref a]∧H a=some u∧Mut (some u)∧DictU u∧szU u≤1000∧
  ∀(l:Addr) (ys:List V),H l=none→ys.length=szU u→(∀(i:Nat) y,ys[i]?=some y→∃v,KeyAt H u i y v)→Q (.ref l) (upd H l (.lst ys))):=by
 intro pins s σ H xs us Q I r h
 obtain⟨a,u,rfl,e,mu,du,hsz,q⟩:=h
 obtain⟨uu,rfl,rx⟩:=vals1 r
 cases rx
 obtain⟨o,I1,hgo⟩:=I.freeze e mu
 obtain⟨hS,hod,hc,es,ep,hdd,hz,hall⟩:=raw_of I1.hok upd_same du
 have hes:es.size≤sizeLine:=by rw[hz];exact Nat.le_trans hsz (by decide)
 refine PySem.W.kdl_call (rk_src hS) (I.ok.hd hcm) ⟨o,hod,hc,hdd⟩ hes fun h' tk acc c hk hD hacc=>?_
 obtain⟨ys,hys,hkeys⟩:∃ys:List V,Vals ys acc.toList∧∀(i:Nat) y,ys[i]?=some y→∃v,KeyAt H u i y v:=by
  have key:∀(i:Nat) v,acc.toList[i]?=some v→∃y,RelV y v∧∃w',KeyAt H u i y w':=fun i v hv=>by
   obtain⟨hi,rfl⟩:=hacc.2 i v (by rw[←Array.getElem?_toList];exact hv)
   obtain⟨x,y,hka,r1,r2⟩:=hall i hi
   refine⟨x,r1,y,?_⟩
   cases u with
   |dK kvs=>exact hka
   |dT kvs=>
    obtain⟨k,b,h1,h2,h3⟩:=hka
    have hb:b≠a:=fun z=>by rw[z,upd_same] at h3;cases h3
    rw[upd_ne hb] at h3
    exact⟨k,b,h1,h2,h3⟩
   |_=>exact hka.elim
  have mk:∀(l:List Value) (f:Nat),(∀(i:Nat) v,l[i]?=some v→∃y,RelV y v∧∃w',KeyAt H u (f+i) y w')→∃ys:List V,Vals ys l∧∀(i:Nat) y,ys[i]?=some y→∃v,KeyAt H u (f+i) y v:=by
   intro l
   induction l with
   |nil=>exact fun f _=>⟨[],.nil,fun i y h=>by simp at h⟩
   |cons v l ih=>
    intro f hf
    obtain⟨y,r1,w',hka⟩:=hf 0 v rfl
    obtain⟨ys,r2,hk2⟩:=ih (f+1) fun i v' hv'=>by
     have:=hf (i+1) v' hv'
     rw[show f+1+i=f+(i+1) by omega];exact this
    refine⟨y::ys,.cons r1 r2,fun i z hz=>?_⟩
    cases i with
    |zero=>cases hz;exact⟨w',hka⟩
    |succ i=>
     have:=hk2 i z hz
     rw[show f+1+i=f+(i+1) by omega] at this;exact this
  obtain⟨ys,r,hk⟩:=mk acc.toList 0 fun i v hv=>by rw[Nat.zero_add];exact key i v hv
  exact⟨ys,r,fun i y hy=>by have:=hk i y hy;rw[Nat.zero_add] at this;exact this⟩
 have hyl:ys.length=szU u:=by rw[hys.length,Array.length_toList,hacc.1,hz]
 have hn:H s.heap.objs.size=none:=I.hok.fresh (Nat.le_refl _)
 refine⟨.ref s.heap.objs.size,_,I.laid (o:=.lst ys) hk (Nat.le_refl _) ⟨?_,acc.toList,c,hys,hD⟩,rfl,q _ ys hn hyl hkeys⟩
 rw[hyl];exact Nat.le_trans hsz (by decide)
end
section
variable {P:Program} {w:World} {K:PySem.W.Frag} {mg:Str→Option Value} {base:Heap}
end
namespace TabA
open SetTable
variable (t:SetTable) (hashAt:Nat→Int) (h:Int)
noncomputable def lp (p:Probe):Probe:={p with j:=(leap t.mask p.i p.perturb).1,more:=runEnd t.mask (leap t.mask p.i p.perturb).1 - (leap t.mask p.i p.perturb).1,i:=(leap t.mask p.i p.perturb).1,perturb:=(leap t.mask p.i p.perturb).2}
variable {t hashAt h}
theorem slot_live {j i:Nat}(e:t.slot j=.live i):i<t.place.size:=by
 unfold slot at e
 dsimp only at e
 split at e
 ·rename_i q
  injection e with e
  subst e
  have q':=beq_iff_eq.mp q
  exact(Array.getElem?_eq_some_iff.mp q').1
 ·split at e<;>cases e
theorem slot_nodummy {j:Nat}(hd:t.dummies= #[]):t.slot j≠.dummy:=by
 unfold slot
 dsimp only
 split
 ·intro z;cases z
 ·rw[hd]
  split
  ·rename_i q
   unfold has at q
   simp at q
  ·intro z;cases z
theorem slot_free {j:Nat}(hd:t.dummies= #[])(hj:j∉t.place):t.slot j=.empty:=by
 cases e:t.slot j with
 |empty=>rfl
 |dummy=>exact(slot_nodummy hd e).elim
 |live i=>
  unfold slot at e
  dsimp only at e
  split at e
  ·rename_i q
   have q':=beq_iff_eq.mp q
   exact(hj (Array.mem_of_getElem? q')).elim
  ·split at e<;>cases e
theorem run_le (m i:Nat):runEnd m i - i≤9:=by unfold runEnd;split<;>omega
noncomputable def nth (t:SetTable) (h:Int):Nat→Probe
 |0=>t.probeStart h
 |n+1=>lp t (nth t h n)
theorem nth_more:∀n,(nth t h n).more≤9
 |0=>run_le _ _
 |_+1=>run_le _ _
theorem nth_j:∀n,(nth t h n).j=(nth t h n).i
 |0=>rfl
 |_+1=>rfl
theorem bits_lt (h:Int):bits h<2^64:=by unfold bits;omega
theorem nth_pert:∀n,(nth t h n).perturb=bits h/32^n
 |0=>by show bits h=_;simp
 |n+1=>by
  show(nth t h n).perturb/32=_
  rw[nth_pert n,Nat.div_div_eq_div_mul,Nat.pow_succ]
theorem nth_i (n:Nat):(nth t h (n+1)).i=((nth t h n).i*5+1+bits h/32^(n+1))%(t.mask+1):=by
 show((nth t h n).i*5+1+(nth t h n).perturb/32)%(t.mask+1)=_
 rw[nth_pert n,Nat.div_div_eq_div_mul,Nat.pow_succ]
theorem pert0 {n:Nat}(hn:13≤n):bits h/32^n=0:=by
 refine Nat.div_eq_of_lt (Nat.lt_of_lt_of_le (bits_lt h) ?_)
 exact Nat.le_trans (by decide:2^64≤32^13) (Nat.pow_le_pow_right (by decide) hn)
noncomputable def it (M:Nat):Nat→Nat→Nat
 |0,a=>a
 |k+1,a=>(it M k a*5+1)%M
theorem nth_it:∀k,(nth t h (12+k)).i=it (t.mask+1) k (nth t h 12).i
 |0=>rfl
 |k+1=>by
  show(nth t h (12+k+1)).i=_
  rw[nth_i,pert0 (by omega),nth_it k]
  rfl
theorem it8:∀a<8,∀j<8,∃k,k<8∧it 8 k a=j:=by decide+kernel
theorem it32:∀a<32,∀j<32,∃k,k<32∧it 32 k a=j:=by decide+kernel
theorem nth_lt:∀n,(nth t h n).i<t.mask+1
 |0=>Nat.mod_lt _ (Nat.succ_pos _)
 |n+1=>by rw[nth_i];exact Nat.mod_lt _ (Nat.succ_pos _)
theorem all_met (hm:t.mask=7∨t.mask=31){j:Nat}(hj:j<t.mask+1):∃n,n<13+t.mask∧(nth t h n).i=j:=by
 have l:=nth_lt (t:=t) (h:=h) 12
 rcases hm with e|e
 ·rw[e] at hj l⊢
  obtain⟨k,hk,q⟩:=it8 _ l j hj
  exact⟨12+k,by omega,by rw[nth_it,e];exact q⟩
 ·rw[e] at hj l⊢
  obtain⟨k,hk,q⟩:=it32 _ l j hj
  exact⟨12+k,by omega,by rw[nth_it,e];exact q⟩
theorem nodup_le:∀{l m:List Nat},l.Nodup→(∀x∈l,x∈m)→l.length≤m.length
 |[],m,_,_=>Nat.zero_le _
 |a::l,m,hn,hs=>by
  have ha:=hs a List.mem_cons_self
  have:=nodup_le (l:=l) (m:=m.erase a) (List.nodup_cons.mp hn).2 fun x hx=>(List.mem_erase_of_ne (fun(e:x=a)=>(List.nodup_cons.mp hn).1 (e▸hx))).mpr (hs x (List.mem_cons_of_mem _ hx))
  rw[List.length_erase_of_mem ha] at this
  have:=List.length_pos_of_mem ha
  simp only[List.length_cons]
  omega
theorem some_free (_hd:t.dummies= #[])(hs:t.place.size≤t.mask):∃j,j<t.mask+1∧j∉t.place:=by
 by_cases q:∀j,j<t.mask+1→j∈t.place
 ·exfalso
  have:=nodup_le (l:=List.range (t.mask+1)) (m:=t.place.toList) List.nodup_range fun j hj=>Array.mem_toList_iff.mpr (q j (List.mem_range.mp hj))
  simp at this
  omega
 ·simp only[Classical.not_forall] at q
  obtain⟨j,h1,h2⟩:=q
  exact⟨j,h1,h2⟩
noncomputable def cnt (o:Array (Option Nat)):Nat:=o.toList.countP Option.isSome
structure Ow (o:Array (Option Nat)) (k:Nat):Prop where
 sz:o.size=32
 ct:cnt o=k
 lt:∀(j v:Nat),o[j]?=some (some v)→v<k
end TabA
noncomputable def addT2 (t:SetTable) (es:Array (Int×Value)) (h:Int) (x:Value):Option (SetTable×Array (Int×Value)):=
 if t.gaveWay=true then none else
 match t.probe (hAt es) h (t.probeStart h) with
 |some (.empty j none)=>if (t.put j).1.fits (SetTable.insertAt es (t.put j).2 (h,x)).size=true then
   (if (t.put j).1.tooFull=true then
    (match (t.put j).1.relaid ((SetTable.insertAt es (t.put j).2 (h,x)).map (·.1)) (SetTable.grown (es.size+1)) with
    |some (t2,order)=>if (order.filterMap ((SetTable.insertAt es (t.put j).2 (h,x))[·]?)).size=(SetTable.insertAt es (t.put j).2 (h,x)).size then some (t2,order.filterMap ((SetTable.insertAt es (t.put j).2 (h,x))[·]?)) else none
    |none=>none)
   else some ((t.put j).1,SetTable.insertAt es (t.put j).2 (h,x))) else none
 |_=>none
section
variable {prog:Program} {w:World} {A:Around} {E:Value→Shared→Prop} {s:Shared}
theorem relay_of {a:Addr}{o:Obj}{es:Array (Int×Value)}{ep wanted:Nat}{t t2:SetTable}{order:Array Nat}{Q:Unit→Shared→Prop}(ho:s.heap.get? a=some o)(hd:o.data=.set es ep t)(hf:t.fits es.size=true)(hw:SetTable.sizeAbove wanted≤sizeLine)
  (e:t.relaid (es.map (·.1)) wanted=some (t2,order)) (hz:(order.filterMap (es[·]?)).size=es.size) (hs:es.size<1000) (h:Q () {s with heap:=s.heap.update a (Obj.putSet (order.filterMap (es[·]?)) t2)}):
  wpAny (model prog w) A (setRelay a wanted) Q E s:=by
 unfold setRelay
 refine wpAny_bind (wpAny_setState_of ho hd hf ?_)
 dsimp only
 rw[if_neg (by omega),e]
 refine wpAny_bind ?_
 show wpAny _ _ (if ((order.filterMap (es[·]?)).size !=es.size)=true then _ else _) _ _ _
 rw[if_neg (by simp[hz])]
 refine wpAny_pure ?_
 dsimp only
 exact wpAny_storeSet_of ho hd h (by have:sizeLine=2^24:=rfl;omega)
theorem setAdd_free2 {K:Type} [DecidableEq K]{knd:HeapKind prog w K}{a b:Addr}{k:K}{o:Obj}{es es':Array (Int×Value)}{ep:Nat}{t t':SetTable}{Q:Bool→Shared→Prop}(hr:knd.room A)(hk:knd.is s.heap k b)(ho:s.heap.get? a=some o)(hd:o.data=.set es ep t)(hf:t.fits es.size=true)(hz:es'.size<1000)(hsz:es.size<999)
  (hv:∀(tk:Nat) (Q':Bool→Shared→Prop),Q' true {s with toks:=tk}→wpAny (model prog w) A (hashByValue 8 (.ref b)) Q' E {s with toks:=tk})
  (e:addT2 t es (knd.hash k) (.ref b)=some (t',es')) (hsa:SetTable.sizeAbove (SetTable.grown (es.size+1))≤sizeLine)
  (h:∀h' ep',Heap.SameBut a s.heap h'→h'.get? a=some {o with data:=.set es' ep' t'}→Q true {s with heap:=h',toks:=s.toks+knd.draws k}):
  wpAny (model prog w) A (setAdd a (.ref b)) Q E s:=by
 unfold addT2 at e
 split at e
 ·cases e
 ·rename_i hg
  split at e
  ·rename_i j hp
   split at e
   ·rename_i hfit
    have hiz:(SetTable.insertAt es (t.put j).2 (knd.hash k,Value.ref b)).size=es.size+1:=by
     have:=(SetTable.insertAt_perm es (t.put j).2 (knd.hash k,Value.ref b)).length_eq
     simpa using this
    unfold setAdd
    refine wpAny_holding (wpAny_bind (knd.pyHash hr hk ?_))
    unfold setAddHashed
    refine wpAny_holding ?_
    show wpAny _ _ (setAddHashedIn a (.ref b) (knd.hash k) (99999+1)) _ _ _
    unfold setAddHashedIn
    refine wpAny_bind (wpAny_setState_of (s:={s with toks:=s.toks+knd.draws k}) ho hd hf ?_)
    dsimp only
    rw[if_neg (show¬byScan (.ref b) es=true by simp[byScan,Value.scannable])]
    refine wpAny_bind ?_
    unfold setSearch
    show wpAny _ _ (setSearchFrom a (.ref b) (knd.hash k) true (99999+1) none) _ _ _
    unfold setSearchFrom
    refine wpAny_bind (wpAny_setState_of (s:={s with toks:=s.toks+knd.draws k}) ho hd hf ?_)
    dsimp only
    rw[if_neg hg]
    split
    ·rename_i met hm
     have em:met=.empty j none:=Option.some.inj (hm.symm.trans hp)
     subst em
     dsimp only
     refine wpAny_pure ?_
     dsimp only
     refine wpAny_bind (wpAny_setState_of (s:={s with toks:=s.toks+knd.draws k}) ho hd hf ?_)
     dsimp only
     have tail:wpAny (model prog w) A (storeSet a (SetTable.insertAt es (t.put j).2 (knd.hash k,.ref b)) (t.put j).1>>=fun _=>if (!false&&(t.put j).1.tooFull)=true then (setRelay a (SetTable.grown (es.size+1))>>=fun _=>pure true) else pure true) Q E {s with toks:=s.toks+knd.draws k}:=by
      refine wpAny_bind (wpAny_storeSet_of (s:={s with toks:=s.toks+knd.draws k}) ho hd ?_ (by have:sizeLine=2^24:=rfl;omega))
      have g1:=Heap.get?_update_self (Obj.putSet (SetTable.insertAt es (t.put j).2 (knd.hash k,.ref b)) (t.put j).1) ho (by rw[putSet_of _ _ hd];rfl)
      rw[putSet_of _ _ hd] at g1
      split at e
      ·rename_i hfull
       rw[if_pos (by simpa using hfull)]
       split at e
       ·rename_i t2 order hrl
        split at e
        ·rename_i hq
         injection e with e
         injection e with e1 e2
         subst e1 e2
         refine wpAny_bind (relay_of (s:={s with heap:=_,toks:=s.toks+knd.draws k}) g1 rfl hfit hsa hrl hq (by omega) ?_)
         refine wpAny_pure (h _ (ep+1+1) ((Heap.SameBut.update ..).trans (Heap.SameBut.update ..)) ?_)
         have:=Heap.get?_update_self (Obj.putSet (order.filterMap ((SetTable.insertAt es (t.put j).2 (knd.hash k,Value.ref b))[·]?)) t2) g1 (by rw[putSet_of _ _ rfl];rfl)
         rw[putSet_of _ _ rfl] at this
         exact this
        ·cases e
       ·cases e
      ·rename_i hfull
       injection e with e
       injection e with e1 e2
       subst e1 e2
       rw[if_neg (by simpa using hfull)]
       exact wpAny_pure (h _ _ (Heap.SameBut.update ..) g1)
     split
     ·refine wpAny_bind (hv _ _ ?_)
      rw[if_pos (rfl:true=true)]
      exact tail
     ·refine wpAny_bind (wpAny_pure ?_)
      rw[if_pos (rfl:true=true)]
      exact tail
    ·rename_i hm
     exact(hm _ hp).elim
   ·cases e
  ·cases e
end
section
variable {prog:Program} {w:World} {A:Around} {R:Result→Shared→Prop} {I:Addr} {fp wr:List Addr} {G:Array GenState→Array GenState→Prop} {n:Nat} {P:Nat→Value→Prop} {St:Nat→Shared→Prop}
end
theorem insert_size {α:Type}(xs:Array α)(p:Nat)(x:α):(SetTable.insertAt xs p x).size=xs.size+1:=by
 have:=(SetTable.insertAt_perm xs p x).length_eq
 simpa using this
end L2
namespace L2
open PySem PySem.Spec PyProof.Rows
section
variable {prog:Program} {w:World} {κ:Type} [DecidableEq κ] {knd:HeapKind prog w κ} {A:Around} {E:Value→Shared→Prop} {s:Shared}
end
section
variable {X:Cx}
end
section
variable {prog:Program} {w:World}
variable {A:Around} {E:Value→Shared→Prop} {s:Shared}
end
section
variable {X:Cx}
end
section
variable {X:Cx}
end
section
variable {X:Cx}
end
section
variable {P:Program} {w:World} {K:PySem.W.Frag} {mg:Str→Option Value} {base:Heap}
end
section
variable {X:Cx}
end
structure KCalleeM (P:Program) (w:World) (K:PySem.W.Frag) (mg:Str→Option Value) (base:Heap) (C:Addr) (x:Str) (k:Nat) (ps:List Str) (sp:Sp):Prop where
 ex:∃f fd,FnOk P w K mg base CX0 k f fd ps sp∧Mk K C f∧mg x=some (.ref C)∧Binds K fd ps []∧Binds K fd ps [Value.none]∧Binds K fd ps [Value.none,Value.none]
section
variable {X:Cx} {C:Addr} {k:Nat} {ps:List Str} {sp:Sp} {x:Str} {p pos:Pos} {e:Expr} {es:List Expr} {t:TA} (G:KCalleeM X.prog X.w X.K X.mg X.base C x k ps sp) (hr:Room (k+1) X.A) (hg:Gl X x) (ha:PA X (e::es) t) (hdb:(x==("__debug__" :Str))=false:=by decide)
  (he:starEach (e::es) X.env=(false,eval e X.env)::starEach es X.env:=by rfl) (hpl:(backTo pos (starEach es X.env)).any (·.1)=false:=by rfl)
include G hr hg ha hdb he hpl
theorem pe_mkM1:PE X (.Call (.Name x p) (e::es) [] pos) (tMake C sp [.non] E0 t):=by
 obtain⟨f,fd,F,M,hm,_,hb,_⟩:=G.ex
 exact pe_make M F hr hg hm hb (.cons rfl .nil) pass0 ha hdb he hpl
end
theorem bindsM {K:PySem.W.Frag}{fd:FuncData}{ps:List Str}{ds:List Value}{T:Addr}{oc:Value}{od:Option Addr}{sl:Array (Option Value)}{items:Array Value}{n:Nat}(hd:fd.defaults=.ref T)(ho:K.lookup T=some ⟨oc,od,.seq items n,sl⟩)
  (m:Nat) (hm:ps.length=m+ds.length) (h:∀us:List Value,us.length=m→∃k,bindArgs fd ⟨us,[]⟩=(seqItems? fd.defaults>>=k)∧k (some items)=pure (ps.zip (us++ds))):Binds K fd ps ds:=fun s us hX hl=>by
 obtain⟨k,h1,h2⟩:=h us (by rw[hm,List.length_append] at hl;omega)
 exact PySem.W.binds_K hX hd ho rfl h1 h2
theorem pe_fldK {X:Cx}{K:PySem.W.Frag}{e:Expr}{f:Str}{pos:Pos}{ta:TE}(hK:X.K=K)(he:PE X e ta)(hb:attributeBase e f X.env (eval e X.env)=eval e X.env):PE X (.Attribute e f pos) (tFld K ta f):=by subst hK;exact pe_fld he hb
section
variable {P:Program} {w:World} {K:PySem.W.Frag} {mg:Str→Option Value} {base:Heap}
end
section
variable {X:Cx}
end
section
variable {prog:Program} {w:World} {A:Around} {R:Result→Shared→Prop} {it:Addr} {fp wr:List Addr} {P:Nat→Value→Prop} {St:Nat→Heap→Prop} {n:Nat}
end
section
variable {prog:Program} {w:World} {A:Around} {E:Value→Shared→Prop} {s:Shared}
end
section
variable {X:Cx}
end
section
variable {X:Cx}
end
section
variable {X:Cx} {pins:List (Addr×Obj)} {σ:St} {H:Hp} {s:Shared} {a:Addr} {C:Value} {cx:Str} {CW:Addr} {np hpos pos:Pos} {b₀:Stmt} {suite:List Stmt} {nm:Option Str} {rest:List ExceptHandler} {D:Ends}
end
section
variable {X:Cx}
end
section
variable {X:Cx} {scope:Scope} {ls ys:List Str} {ix:List Nat} {tg iter elt:Expr} {ifs:List Expr} {pos:Pos} {wi:TI} {g:TG} {tt:TT} {te:TE}
end
section
variable {P:Program} {w:World} {K:PySem.W.Frag} {mg:Str→Option Value} {base:Heap} {N:List Str} {qual:Str} {scope:Scope} {f:Addr} {cd:Value} {A:Around} {outer:List Env} {s₀:Shared} {H₀:Hp} {E:XK}
end
section
variable {X:Cx} {scope:Scope} {ls ys:List Str} {ix:List Nat} {tg iter elt:Expr} {ifs:List Expr} {pos:Pos} {wi:TI} {g:TG} {tt:TT} {te:TE}
end
section
variable {X:Cx}
end
section
variable {X:Cx} {C:Addr} {x:Str} {p pos:Pos}
end
section
open PySem.SeqAt
open PySem.AutoSeq1 (wpAny_loadPart')
open PySem.MeetsSeq PySem.MeetsSeq2 PySem.MeetsSeq3
end
section
variable {prog:Program} {w:World} {A:Around} {E:Value→Shared→Prop} {s:Shared}
end
section
variable {X:Cx}
end
end L2
namespace HT
open PySem PyProof.Rows
section
variable {prog:Program} {w:World} {A:Around} {E:Value→Shared→Prop} {s:Shared}
end
end HT
namespace L2
open PySem PySem.Spec PyProof.Rows
section
open PySem.SeqAt
open PySem.AutoSeq1 (wpAny_loadPart')
open PySem.MeetsSeq PySem.MeetsSeq2 PySem.MeetsSeq3
end
section
variable {X:Cx}
end
structure KCalleeZ (P:Program) (w:World) (K:PySem.W.Frag) (mg:Str→Option Value) (base:Heap) (C:Addr) (x:Str) (k:Nat) (ps:List Str) (sp:Sp) (n:Nat):Prop where
 ex:∃f fd,FnOk P w K mg base CX0 k f fd ps sp∧Mk K C f∧mg x=some (.ref C)∧∀j,j≤n→∃ds,Vals (List.replicate j (.int 0)) ds∧Binds K fd ps ds
section
variable {X:Cx} {C:Addr} {k n:Nat} {ps:List Str} {sp:Sp} {x:Str} {p pos:Pos} {e:Expr} {es:List Expr} {t:TA} (G:KCalleeZ X.prog X.w X.K X.mg X.base C x k ps sp n) (hr:Room (k+1) X.A) (hg:Gl X x) (ha:PA X (e::es) t) (hdb:(x==("__debug__" :Str))=false:=by decide)
  (he:starEach (e::es) X.env=(false,eval e X.env)::starEach es X.env:=by rfl) (hpl:(backTo pos (starEach es X.env)).any (·.1)=false:=by rfl)
include G hr hg ha hdb he hpl
theorem pe_mkZ (j:Nat)(hj:j≤n):PE X (.Call (.Name x p) (e::es) [] pos) (tMake C sp (List.replicate j (.int 0)) E0 t):=by
 obtain⟨f,fd,F,M,hm,hb⟩:=G.ex
 obtain⟨ds,r,b⟩:=hb j hj
 exact pe_make M F hr hg hm b r pass0 ha hdb he hpl
theorem pe_mkZ0:PE X (.Call (.Name x p) (e::es) [] pos) (tMake C sp [] E0 t):=pe_mkZ G hr hg ha hdb he hpl 0 (Nat.zero_le _)
end
theorem bindsZ1 {K:PySem.W.Frag}{fd:FuncData}{ps:List Str}{t0:Tok}(h0:Binds K fd ps [])(h1:Binds K fd ps [.int 0 t0]):∀j,j≤1→∃ds,Vals (List.replicate j (.int 0)) ds∧Binds K fd ps ds
 |0,_=>⟨_,.nil,h0⟩
 |1,_=>⟨_,.cons ⟨_,rfl⟩ .nil,h1⟩
theorem bindsZ2 {K:PySem.W.Frag}{fd:FuncData}{ps:List Str}{t0 t1:Tok}(h0:Binds K fd ps [])(h1:Binds K fd ps [.int 0 t1])(h2:Binds K fd ps [.int 0 t0,.int 0 t1]):∀j,j≤2→∃ds,Vals (List.replicate j (.int 0)) ds∧Binds K fd ps ds
 |0,_=>⟨_,.nil,h0⟩
 |1,_=>⟨_,.cons ⟨_,rfl⟩ .nil,h1⟩
 |2,_=>⟨_,.cons ⟨_,rfl⟩ (.cons ⟨_,rfl⟩ .nil),h2⟩
section
variable {X:Cx}
end
section
variable {X:Cx}
def rCatG:R2:=fun x y H Q=>∃a b xs ys,x=.ref a∧y=.ref b∧H a=some (.tup xs)∧H b=some (.tup ys)∧xs.length+ys.length≤sizeLine∧∀p H',Same H H'→H' p=some (.tup (xs++ys))→Q (.ref p) H'
theorem op_catG:OpR X (binaryOp .Add) rCatG:=by
 intro pins s σ H x y v u Q I rx ry h
 obtain⟨a,b,xs,ys,rfl,rfl,ha,hb,hz,q⟩:=h
 by_cases e:xs=[]
 ·subst e
  cases rx
  cases ry
  obtain⟨its,r1,p1,_⟩:=I.tuple (SqT.of ha)
  obtain⟨its2,r2,p2,_⟩:=I.tuple (SqT.of hb)
  cases r1
  obtain⟨⟨c0,d0,b0,l0⟩,o1,k1,n1,e1⟩:=id p1
  obtain⟨⟨c2,d2,b2,l2⟩,o2,k2,n2,e2⟩:=id p2
  simp only at k1 e1 k2 e2
  subst k1 e1 k2 e2
  exact concat_meets ⟨_,o1,rfl⟩ ⟨_,o2,rfl⟩ noFill_tuple_add seq_tuple_add PySem.F.slot_tuple_add PySem.F.entry_tuple_add (PySem.F.args_tuple_add_2 _ _)
   (tuple_addW0 a b _ _ n1 n2 d0 d2 l0 l2 rfl) ⟨o1,o2,⟨.ref b,H,I,rfl,q b H (Same.refl H) hb⟩⟩
 ·refine op_catT pins s σ H _ _ v u Q I rx ry ⟨a,b,xs,ys,rfl,rfl,SqT.of ha,SqT.of hb,e,hz,fun z=>?_,fun _ p np=>q p _ ((Same.refl H).upd np) upd_same⟩
  refine q a H (Same.refl H) ?_
  rw[z,List.append_nil]
  exact ha
end
section
variable {X:Cx}
end
namespace TabB
open SetTable
abbrev Own:=Nat→Option Int
inductive Res where
 |free (j:Nat)
 |hit (j:Nat)
noncomputable def adv (m:Nat) (p:Probe):Probe:=
 if p.more>0 then {p with j:=p.j+1,more:=p.more - 1} else
 {p with j:=(leap m p.i p.perturb).1,more:=runEnd m (leap m p.i p.perturb).1 - (leap m p.i p.perturb).1,i:=(leap m p.i p.perturb).1,perturb:=(leap m p.i p.perturb).2}
theorem adv_eq (t:SetTable)(p:Probe):t.advance p=adv t.mask p:=rfl
theorem adv_dummy {m:Nat}{p:Probe}:(adv m p).dummy=p.dummy:=by unfold adv;split<;>rfl
noncomputable def goA (m:Nat) (f:Own) (h:Int):Nat→Probe→Option Res
 |0,_=>none
 |n+1,p=>match f p.j with
  |none=>some (.free p.j)
  |some k=>if k=h then some (.hit p.j) else goA m f h n (adv m p)
noncomputable def updO (f:Own) (j:Nat) (h:Int):Own:=fun q=>if q=j then some h else f q
section
variable {m:Nat} {f:Own} {h:Int}
theorem goA_free:∀{n:Nat} {p:Probe} {j:Nat},goA m f h n p=some (.free j)→f j=none
 |0,_,_,e=>nomatch e
 |n+1,p,j,e=>by
  unfold goA at e
  cases q:f p.j with
  |none=>
   rw[q] at e
   injection e with e
   injection e with e
   rw[←e];exact q
  |some k=>
   rw[q] at e
   dsimp only at e
   split at e
   ·injection e with e;cases e
   ·exact goA_free e
theorem goA_hit:∀{n:Nat} {p:Probe} {j:Nat},goA m f h n p=some (.hit j)→f j=some h
 |0,_,_,e=>nomatch e
 |n+1,p,j,e=>by
  unfold goA at e
  cases q:f p.j with
  |none=>rw[q] at e;injection e with e;cases e
  |some k=>
   rw[q] at e
   dsimp only at e
   split at e
   ·rename_i z
    injection e with e
    injection e with e
    rw[←e,q,z]
   ·exact goA_hit e
theorem goA_keep {j:Nat}{k:Int}(hj:f j=none):∀{n:Nat} {p:Probe} {q:Nat},goA m f h n p=some (.hit q)→goA m (updO f j k) h n p=some (.hit q)
 |0,_,_,e=>nomatch e
 |n+1,p,q,e=>by
  unfold goA at e⊢
  cases z:f p.j with
  |none=>rw[z] at e;injection e with e;cases e
  |some k'=>
   rw[z] at e
   have ne:p.j≠j:=fun y=>by rw[y,hj] at z;cases z
   rw[show updO f j k p.j=some k' by unfold updO;rw[if_neg ne];exact z]
   dsimp only at e⊢
   split at e
   ·rename_i y;rw[if_pos y];exact e
   ·rename_i y;rw[if_neg y];exact goA_keep hj e
theorem goA_new:∀{n:Nat} {p:Probe} {j:Nat},goA m f h n p=some (.free j)→goA m (updO f j h) h n p=some (.hit j)
 |0,_,_,e=>nomatch e
 |n+1,p,j,e=>by
  have hj:=goA_free e
  unfold goA at e⊢
  cases z:f p.j with
  |none=>
   rw[z] at e
   injection e with e
   injection e with e
   rw[show updO f j h p.j=some h by unfold updO;rw[if_pos e]]
   dsimp only
   rw[if_pos rfl,e]
  |some k'=>
   rw[z] at e
   have ne:p.j≠j:=fun y=>by rw[y,hj] at z;cases z
   rw[show updO f j h p.j=some k' by unfold updO;rw[if_neg ne];exact z]
   dsimp only at e⊢
   split at e
   ·injection e with e;cases e
   ·rename_i y;rw[if_neg y];exact goA_new e
theorem goA_mono:∀{n N:Nat} {p:Probe} {r:Res},goA m f h n p=some r→n≤N→goA m f h N p=some r
 |0,_,_,_,e,_=>nomatch e
 |n+1,N,p,r,e,l=>by
  obtain⟨N,rfl⟩:∃M,N=M+1:=⟨N - 1,by omega⟩
  unfold goA at e⊢
  cases z:f p.j with
  |none=>rw[z] at e;exact e
  |some k=>
   rw[z] at e
   dsimp only at e⊢
   split at e
   ·rename_i y;rw[if_pos y];exact e
   ·rename_i y;rw[if_neg y];exact goA_mono e (by omega)
def GoodA (m:Nat) (f:Own) (h:Int) (N:Nat) (p:Probe):Prop:=∃r,goA m f h N p=some r
theorem goodA_step {N:Nat}{p:Probe}(g:GoodA m f h N (adv m p)):GoodA m f h (N+1) p:=by
 unfold GoodA goA
 cases z:f p.j with
 |none=>exact⟨_,rfl⟩
 |some k=>
  dsimp only
  split
  ·exact⟨_,rfl⟩
  ·exact g
theorem goodA_mono {N M:Nat}{p:Probe}(g:GoodA m f h N p)(l:N≤M):GoodA m f h M p:=g.imp fun _ e=>goA_mono e l
theorem goodA_run:∀(k N:Nat) (p:Probe),p.more=k→GoodA m f h N (TabA.lp {mask:=m,place:= #[],dummies:= #[],finger:=0,led:=true,moves:=0,plain:=true} p)→GoodA m f h (N+(k+1)) p:=by
 intro k
 induction k with
 |zero=>
  intro N p hm g
  refine goodA_step ?_
  have e:adv m p=TabA.lp {mask:=m,place:= #[],dummies:= #[],finger:=0,led:=true,moves:=0,plain:=true} p:=by unfold adv;rw[if_neg (by omega)];rfl
  rw[e];exact g
 |succ k ih=>
  intro N p hm g
  have e:adv m p={p with j:=p.j+1,more:=k}:=by unfold adv;rw[if_pos (by omega),hm];rfl
  refine goodA_step (N:=N+(k+1)) ?_
  rw[e]
  exact ih N _ rfl g
end
noncomputable def tm (m:Nat):SetTable:={mask:=m,place:= #[],dummies:= #[],finger:=0,led:=true,moves:=0,plain:=true}
section
variable {m:Nat} {f:Own} {h:Int}
theorem goodA_nth:∀(n k:Nat),f (TabA.nth (tm m) h (k+n)).j=none→GoodA m f h (1+10*n) (TabA.nth (tm m) h k)
 |0,k,e=>by
  refine⟨.free (TabA.nth (tm m) h k).j,?_⟩
  show goA m f h (0+1) _=_
  unfold goA
  rw[show f (TabA.nth (tm m) h k).j=none from e]
 |n+1,k,e=>by
  have g:GoodA m f h (1+10*n) (TabA.nth (tm m) h (k+1)):=goodA_nth n (k+1) (by rw[show k+1+n=k+(n+1) by omega];exact e)
  have:=goodA_run _ _ (TabA.nth (tm m) h k) rfl g
  exact goodA_mono this (by have:=TabA.nth_more (t:=tm m) (h:=h) k;omega)
theorem it_add (M:Nat)(x:Nat)(b:Nat):∀a,TabA.it M (a+b) x=TabA.it M a (TabA.it M b x)
 |0=>by rw[Nat.zero_add];rfl
 |a+1=>by
  rw[show a+1+b=(a+b)+1 by omega]
  show(TabA.it M (a+b) x*5+1)%M=(TabA.it M a (TabA.it M b x)*5+1)%M
  rw[it_add M x b a]
theorem it128_0:∀j<128,∃k,k<128∧TabA.it 128 k 0=j:=by decide+kernel
theorem it128 (a:Nat)(ha:a<128)(j:Nat)(hj:j<128):∃k,k<128∧TabA.it 128 k a=j:=by
 obtain⟨ka,h1,ea⟩:=it128_0 a ha
 obtain⟨kj,h2,ej⟩:=it128_0 j hj
 by_cases c:ka≤kj
 ·refine⟨kj - ka,by omega,?_⟩
  rw[←ea,←it_add,show kj - ka+ka=kj by omega,ej]
 ·refine⟨kj+128 - ka,by omega,?_⟩
  rw[←ea,←it_add,show kj+128 - ka+ka=kj+128 by omega,it_add,show TabA.it 128 128 0=0 by decide+kernel,ej]
theorem all_metB (hm:m=7∨m=31∨m=127){j:Nat}(hj:j<m+1):∃n,n<13+m∧(TabA.nth (tm m) h n).j=j:=by
 rcases hm with e|e|e
 ·obtain⟨n,h1,h2⟩:=TabA.all_met (t:=tm m) (h:=h) (.inl e) hj
  exact⟨n,h1,by rw[TabA.nth_j];exact h2⟩
 ·obtain⟨n,h1,h2⟩:=TabA.all_met (t:=tm m) (h:=h) (.inr e) hj
  exact⟨n,h1,by rw[TabA.nth_j];exact h2⟩
 ·subst e
  have l:=TabA.nth_lt (t:=tm 127) (h:=h) 12
  obtain⟨k,hk,q⟩:=it128 _ l j hj
  exact⟨12+k,by omega,by rw[TabA.nth_j,TabA.nth_it];exact q⟩
noncomputable def start (m:Nat) (h:Int):Probe:={j:=bits h%(m+1),more:=runEnd m (bits h%(m+1)) - bits h%(m+1),i:=bits h%(m+1),perturb:=bits h,dummy:=none}
theorem search_ends (hm:m=7∨m=31∨m=127){j:Nat}(hj:j<m+1)(e:f j=none):∃r,goA m f h (10*turns m) (start m h)=some r:=by
 obtain⟨n,hn,ej⟩:=all_metB (h:=h) hm hj
 have:=goodA_nth (m:=m) (f:=f) (h:=h) n 0 (by rw[Nat.zero_add,ej];exact e)
 exact goodA_mono this (by unfold turns;omega)
end
noncomputable def ownOf (t:SetTable) (g:Nat→Int):Own:=fun j=>match t.slot j with
 | .live i=>some (g i)
 |_=>none
section
variable {t:SetTable} {g:Nat→Int} {h:Int}
theorem go_free (hd:t.dummies= #[]):∀{n:Nat} {p:Probe} {j:Nat},p.dummy=none→goA t.mask (ownOf t g) h n p=some (.free j)→probe.go t g h n p=some (.empty j none)
 |0,_,_,_,e=>nomatch e
 |n+1,p,j,hp,e=>by
  unfold goA ownOf at e
  unfold probe.go
  cases z:t.slot p.j with
  |empty=>
   rw[z] at e
   injection e with e
   injection e with e
   dsimp only
   rw[hp,e]
  |dummy=>exact(TabA.slot_nodummy hd z).elim
  |live i=>
   rw[z] at e
   dsimp only at e⊢
   split at e
   ·injection e with e;cases e
   ·rename_i y
    rw[if_neg (by simpa using y)]
    exact go_free hd (by rw[adv_eq,adv_dummy];exact hp) e
theorem go_hit (hd:t.dummies= #[]):∀{n:Nat} {p:Probe} {j:Nat},goA t.mask (ownOf t g) h n p=some (.hit j)→∃i nx,probe.go t g h n p=some (.candidate j i nx)∧t.slot j=.live i∧g i=h
 |0,_,_,e=>nomatch e
 |n+1,p,j,e=>by
  unfold goA ownOf at e
  unfold probe.go
  cases z:t.slot p.j with
  |empty=>rw[z] at e;injection e with e;cases e
  |dummy=>exact(TabA.slot_nodummy hd z).elim
  |live i=>
   rw[z] at e
   dsimp only at e⊢
   split at e
   ·rename_i y
    injection e with e
    injection e with e
    rw[if_pos (by simpa using y)]
    exact⟨i,_,by rw[e],by rw[←e];exact z,y⟩
   ·rename_i y
    rw[if_neg (by simpa using y)]
    exact go_hit hd e
end
def Ris (xs:Array Nat):Prop:=∀(i j x y:Nat),xs[i]?=some x→xs[j]?=some y→i<j→x<y
theorem below_go {xs:Array Nat}{j:Nat}(hr:Ris xs):∀(fuel lo hi:Nat),hi - lo≤fuel→lo≤hi→hi≤xs.size→(∀i x,i<lo→xs[i]?=some x→x<j)→(∀i x,hi≤i→xs[i]?=some x→j≤x)→
  lo≤below.go xs j fuel lo hi∧below.go xs j fuel lo hi≤hi∧(∀i x,i<below.go xs j fuel lo hi→xs[i]?=some x→x<j)∧(∀i x,below.go xs j fuel lo hi≤i→xs[i]?=some x→j≤x)
 |0,lo,hi,hf,hl,_,h1,h2=>by
  have:lo=hi:=by omega
  subst this
  unfold below.go
  exact⟨Nat.le_refl _,Nat.le_refl _,h1,h2⟩
 |fuel+1,lo,hi,hf,hl,hs,h1,h2=>by
  unfold below.go
  by_cases c:lo<hi
  ·rw[if_pos c]
   dsimp only
   have hmid:(lo+hi)/2<xs.size:=by omega
   have em:xs[(lo+hi)/2]?=some xs[(lo+hi)/2]:=Array.getElem?_eq_getElem hmid
   rw[show xs.getD ((lo+hi)/2) j=xs[(lo+hi)/2] by rw[Array.getD_eq_getD_getElem?,em];rfl]
   split
   ·rename_i y
    obtain⟨a,b,c',d⟩:=below_go hr fuel ((lo+hi)/2+1) hi (by omega) (by omega) hs (fun i x hi' e=>by
     by_cases z:i=(lo+hi)/2
     ·rw[z,em] at e;cases e;exact y
     ·exact Nat.lt_trans (hr _ _ _ _ e em (by omega)) y) h2
    exact⟨by omega,b,c',d⟩
   ·rename_i y
    obtain⟨a,b,c',d⟩:=below_go hr fuel lo ((lo+hi)/2) (by omega) (by omega) (by omega) h1 (fun i x hi' e=>by
     by_cases z:i=(lo+hi)/2
     ·rw[z,em] at e;cases e;omega
     ·have:=hr _ _ _ _ em e (by omega)
      omega)
    exact⟨a,by omega,c',d⟩
  ·rw[if_neg c]
   have:lo=hi:=by omega
   subst this
   exact⟨Nat.le_refl _,Nat.le_refl _,h1,h2⟩
theorem below_ok {xs:Array Nat}(hr:Ris xs)(j:Nat):below xs j≤xs.size∧(∀i x,i<below xs j→xs[i]?=some x→x<j)∧(∀i x,below xs j≤i→xs[i]?=some x→j≤x):=by
 have:=below_go hr (j:=j) xs.size 0 xs.size (by omega) (Nat.zero_le _) (Nat.le_refl _) (fun i x h _=>absurd h (Nat.not_lt_zero _)) (fun i x h e=>by
  have:=(Array.getElem?_eq_some_iff.mp e).1
  omega)
 exact this.2
theorem below_at {xs:Array Nat}(hr:Ris xs){i j:Nat}(e:xs[i]?=some j):below xs j=i:=by
 obtain⟨h0,h1,h2⟩:=below_ok hr j
 by_cases c:below xs j≤i
 ·by_cases c2:below xs j=i
  ·exact c2
  ·have lt:below xs j<xs.size:=by have:=(Array.getElem?_eq_some_iff.mp e).1;omega
   have e2:xs[below xs j]?=some xs[below xs j]:=Array.getElem?_eq_getElem lt
   have:=h2 _ _ (Nat.le_refl _) e2
   have:=hr _ _ _ _ e2 e (by omega)
   omega
 ·have:=h1 i j (by omega) e
  omega
theorem slot_iff {t:SetTable}(hd:t.dummies= #[])(hr:Ris t.place){i j:Nat}:t.slot j=.live i↔t.place[i]?=some j:=by
 constructor
 ·intro e
  unfold slot at e
  dsimp only at e
  split at e
  ·rename_i q
   injection e with e
   rw[←e]
   exact beq_iff_eq.mp q
  ·split at e<;>cases e
 ·intro e
  unfold slot
  dsimp only
  rw[below_at hr e,if_pos (by rw[e];simp)]
end TabB
namespace TabB
open SetTable
noncomputable def lpsF (m:Nat) (i p:Nat):Nat→Nat×Nat
 |0=>(i,p)
 |n+1=>leap m (lpsF m i p n).1 (lpsF m i p n).2
theorem lps_succ (m:Nat)(i p:Nat):∀n,lpsF m i p (n+1)=lpsF m (leap m i p).1 (leap m i p).2 n
 |0=>rfl
 |n+1=>by
  show leap m _ _=leap m _ _
  rw[lps_succ m i p n]
theorem lps_nth (m:Nat)(h:Int):∀n,lpsF m (bits h%(m+1)) (bits h) n=((TabA.nth (tm m) h n).i,(TabA.nth (tm m) h n).perturb)
 |0=>rfl
 |n+1=>by show leap m _ _=_;rw[lps_nth m h n];rfl
theorem freeB_some {m:Nat}{o:Array (Option Nat)}:∀(f i p:Nat),(∃n,n<f∧o.getD (lpsF m i p n).1 (some 0)=none)→∃j,layClean.free m o f i p=some j
 |0,_,_,⟨n,hn,_⟩=>absurd hn (Nat.not_lt_zero _)
 |f+1,i,p,⟨n,hn,e⟩=>by
  unfold layClean.free
  cases q:(List.range (runEnd m i+1 - i)).find? fun k=>(o.getD (i+k) (some 0)).isNone with
  |some k=>exact⟨i+k,rfl⟩
  |none=>
   dsimp only
   cases n with
   |zero=>
    exfalso
    have e:o.getD i (some 0)=none:=e
    have:=List.find?_eq_none.mp q 0 (List.mem_range.mpr (by unfold runEnd;split<;>omega))
    rw[Nat.add_zero,e] at this
    exact this rfl
   |succ n=>exact freeB_some f _ _ ⟨n,by omega,by rw[←lps_succ];exact e⟩
noncomputable def fo (o:Array (Option Nat)) (hs:Array Int):Own:=fun j=>(o.getD j none).bind fun k=>hs[k]?
theorem run_goA {m:Nat}{f:Own}{h:Int}:∀(c N:Nat) (p:Probe),c≤p.more→(∀b,b<c→∃k,f (p.j+b)=some k∧k≠h)→goA m f h (c+N) p=goA m f h N {p with j:=p.j+c,more:=p.more - c}
 |0,N,p,_,_=>by rw[Nat.zero_add];rfl
 |c+1,N,p,hc,hb=>by
  obtain⟨k,e,ne⟩:=hb 0 (Nat.succ_pos _)
  rw[show c+1+N=(c+N)+1 by omega]
  show(match f p.j with|none=>_|some k=>_)=_
  rw[Nat.add_zero] at e
  rw[e]
  dsimp only
  rw[if_neg ne]
  have ea:adv m p={p with j:=p.j+1,more:=p.more - 1}:=by unfold adv;rw[if_pos (by omega)]
  rw[ea,run_goA c N _ (by show c≤p.more - 1;omega) fun b hb'=>by
   have:=hb (b+1) (by omega)
   rw[show p.j+(b+1)=p.j+1+b by omega] at this
   exact this]
  congr 1
  show({j:=p.j+1+c,more:=p.more - 1 - c,i:=p.i,perturb:=p.perturb,dummy:=p.dummy}:Probe)={j:=p.j+(c+1),more:=p.more - (c+1),i:=p.i,perturb:=p.perturb,dummy:=p.dummy}
  rw[show p.j+1+c=p.j+(c+1) by omega,show p.more - 1 - c=p.more - (c+1) by omega]
theorem run_bd {m i:Nat}(hi:i≤m):i≤runEnd m i∧runEnd m i≤m∧runEnd m i - i≤9:=by unfold runEnd;split<;>omega
theorem free_goA {m:Nat}{o:Array (Option Nat)}{f:Own}{h:Int}(hf:∀q,q≤m→(o.getD q (some 0)=none→f q=none)∧(o.getD q (some 0)≠none→∃k,f q=some k∧k≠h)):∀(n i p j:Nat),i≤m→layClean.free m o n i p=some j→
  goA m f h (10*n) {j:=i,more:=runEnd m i - i,i:=i,perturb:=p,dummy:=none}=some (.free j)
 |0,_,_,_,_,e=>nomatch e
 |n+1,i,p,j,hi,e=>by
  obtain⟨b1,b2,b3⟩:=run_bd hi
  unfold layClean.free at e
  cases q:(List.range (runEnd m i+1 - i)).find? fun k=>(o.getD (i+k) (some 0)).isNone with
  |some k=>
   rw[q] at e
   dsimp only at e
   injection e with e
   obtain⟨h1,h2,h3⟩:=List.find?_range_eq_some.mp q
   have hk:k<runEnd m i+1 - i:=by simpa using h2
   have s:=run_goA (m:=m) (f:=f) (h:=h) k 1 {j:=i,more:=runEnd m i - i,i:=i,perturb:=p,dummy:=none} (by show k≤runEnd m i - i;omega) fun b hb=>by
    have:=h3 b hb
    exact(hf (i+b) (by omega)).2 (by
     intro z
     rw[z] at this
     cases this)
   have hn0:f (i+k)=none:=(hf (i+k) (by omega)).1 (by simpa using h1)
   have s2:goA m f h 1 {j:=i+k,more:=runEnd m i - i - k,i:=i,perturb:=p,dummy:=none}=some (.free (i+k)):=by
    show(match f (i+k) with|none=>_|some k=>_)=_
    rw[hn0]
   rw[←e]
   exact goA_mono (s.trans s2) (by omega)
  |none=>
   rw[q] at e
   dsimp only at e
   have occ:∀b,b≤runEnd m i - i→∃k,f (i+b)=some k∧k≠h:=fun b hb=>(hf (i+b) (by omega)).2 (by
    have:=List.find?_eq_none.mp q b (List.mem_range.mpr (by omega))
    intro z
    rw[z] at this
    exact this rfl)
   have hi':(leap m i p).1≤m:=by
    show(i*5+1+p/32)%(m+1)≤m
    have:=Nat.mod_lt (i*5+1+p/32) (show 0<m+1 by omega)
    omega
   have ih:=free_goA hf n _ _ j hi' e
   have s:=run_goA (m:=m) (f:=f) (h:=h) (runEnd m i - i) (10*n+1) {j:=i,more:=runEnd m i - i,i:=i,perturb:=p,dummy:=none} (Nat.le_refl _) fun b hb=>occ b (by omega)
   obtain⟨k,e1,e2⟩:=occ (runEnd m i - i) (Nat.le_refl _)
   have s2:goA m f h (10*n+1) {j:=i+(runEnd m i - i),more:=runEnd m i - i - (runEnd m i - i),i:=i,perturb:=p,dummy:=none}=some (.free j):=by
    show(match f (i+(runEnd m i - i)) with|none=>_|some k=>_)=_
    rw[e1]
    dsimp only
    rw[if_neg e2]
    have ea:adv m {j:=i+(runEnd m i - i),more:=runEnd m i - i - (runEnd m i - i),i:=i,perturb:=p,dummy:=none}={j:=(leap m i p).1,more:=runEnd m (leap m i p).1 - (leap m i p).1,i:=(leap m i p).1,perturb:=(leap m i p).2,dummy:=none}:=by
     unfold adv
     rw[if_neg (by show¬runEnd m i - i - (runEnd m i - i)>0;omega)]
    rw[ea]
    exact ih
   exact goA_mono (s.trans s2) (by omega)
theorem freeB_in {m:Nat}{o:Array (Option Nat)}(sz:o.size=m+1):∀(f i p j:Nat),i≤m→layClean.free m o f i p=some j→j<o.size∧o[j]?=some none
 |0,_,_,_,_,e=>nomatch e
 |f+1,i,p,j,hi,e=>by
  unfold layClean.free at e
  cases q:(List.range (runEnd m i+1 - i)).find? fun k=>(o.getD (i+k) (some 0)).isNone with
  |some k=>
   rw[q] at e
   dsimp only at e
   injection e with e
   obtain⟨h1,h2,_⟩:=List.find?_range_eq_some.mp q
   have hk:k<runEnd m i+1 - i:=by simpa using h2
   have:=run_bd hi
   have hj:j<o.size:=by rw[sz];omega
   refine⟨hj,?_⟩
   rw[e,Array.getD_eq_getD_getElem?,Array.getElem?_eq_getElem hj] at h1
   rw[Array.getElem?_eq_getElem hj]
   have h1:o[j].isNone=true:=h1
   rw[Option.isNone_iff_eq_none.mp h1]
  |none=>
   rw[q] at e
   dsimp only at e
   exact freeB_in sz f _ _ j (by
    show(i*5+1+p/32)%(m+1)≤m
    have:=Nat.mod_lt (i*5+1+p/32) (show 0<m+1 by omega)
    omega) e
structure LW (m:Nat) (hs:Array Int) (o:Array (Option Nat)) (k:Nat):Prop where
 sz:o.size=m+1
 ct:TabA.cnt o=k
 lt:∀(j v:Nat),o[j]?=some (some v)→v<k
 ij:∀(j j' v:Nat),o[j]?=some (some v)→o[j']?=some (some v)→j=j'
 fd:∀(i:Nat) (h:Int),i<k→hs[i]?=some h→∃j,goA m (fo o hs) h (10*turns m) (start m h)=some (.hit j)
theorem lw_free {m:Nat}{hs:Array Int}{o:Array (Option Nat)}{k:Nat}(w:LW m hs o k)(hk:k<m+1):∃j,j<m+1∧o[j]?=some none:=by
 by_cases q:∀j,j<m+1→o[j]?≠some none
 ·exfalso
  have:o.toList.countP Option.isSome=o.toList.length:=by
   refine List.countP_eq_length.mpr fun v hv=>?_
   obtain⟨j,hj,e⟩:=List.mem_iff_getElem.mp hv
   have hj':j<o.size:=by simpa using hj
   have:=q j (by rw[←w.sz];exact hj')
   rw[Array.getElem?_eq_getElem hj'] at this
   have e':o[j]=v:=by simpa using e
   rw[e'] at this
   cases v with
   |none=>exact(this rfl).elim
   |some _=>rfl
  have h1:=w.ct
  unfold TabA.cnt at h1
  rw[this,Array.length_toList,w.sz] at h1
  omega
 ·simp only[Classical.not_forall,Classical.not_not] at q
  obtain⟨j,h1,h2⟩:=q
  exact⟨j,h1,h2⟩
theorem getD_of {o:Array (Option Nat)}{j:Nat}{v d:Option Nat}(e:o[j]?=some v):o.getD j d=v:=by rw[Array.getD_eq_getD_getElem?,e];rfl
theorem fo_put {o:Array (Option Nat)}{hs:Array Int}{j k:Nat}{h:Int}(hj:j<o.size)(hk:hs[k]?=some h):fo (o.setIfInBounds j (some k)) hs=updO (fo o hs) j h:=by
 funext q
 unfold fo updO
 by_cases e:q=j
 ·subst e
  rw[if_pos rfl,getD_of (v:=some k) (by rw[Array.getElem?_setIfInBounds];simp[hj])]
  exact hk
 ·rw[if_neg e]
  show((o.setIfInBounds j (some k)).getD q none).bind _=(o.getD q none).bind _
  rw[Array.getD_eq_getD_getElem?,Array.getD_eq_getD_getElem?,Array.getElem?_setIfInBounds,if_neg (fun z=>e z.symm)]
theorem lw_step {m:Nat}{hs:Array Int}{o:Array (Option Nat)}{k:Nat}{h:Int}(hm:m=7∨m=31∨m=127)(w:LW m hs o k)(hk:k<m+1)(hh:hs[k]?=some h)(hnew:∀i,i<k→hs[i]?≠some h):
  ∃j,layClean.free m o (turns m) (bits h%(m+1)) (bits h)=some j∧LW m hs (o.setIfInBounds j (some k)) (k+1):=by
 have hks:k<hs.size:=(Array.getElem?_eq_some_iff.mp hh).1
 obtain⟨j0,hj0,e0⟩:=lw_free w hk
 obtain⟨n,hn,ej⟩:=all_metB (h:=h) hm hj0
 obtain⟨j,hfr⟩:=freeB_some (m:=m) (o:=o) (turns m) (bits h%(m+1)) (bits h) ⟨n,by unfold turns;omega,by rw[lps_nth,←TabA.nth_j,ej];exact getD_of e0⟩
 have hf:∀q,q≤m→(o.getD q (some 0)=none→fo o hs q=none)∧(o.getD q (some 0)≠none→∃k',fo o hs q=some k'∧k'≠h):=fun q hq=>by
  have hq':q<o.size:=by rw[w.sz];omega
  have eq:o[q]?=some o[q]:=Array.getElem?_eq_getElem hq'
  rw[getD_of eq]
  unfold fo
  rw[getD_of eq]
  cases z:o[q] with
  |none=>exact⟨fun _=>rfl,fun y=>absurd rfl y⟩
  |some v=>
   refine⟨(fun y=>nomatch y),fun _=>?_⟩
   have hv:=w.lt q v (by rw[eq,z])
   have hvs:v<hs.size:=by omega
   refine⟨hs[v],by show(some v).bind _=_;exact Array.getElem?_eq_getElem hvs,fun y=>hnew v hv (by rw[Array.getElem?_eq_getElem hvs,y])⟩
 have g:=free_goA hf (turns m) (bits h%(m+1)) (bits h) j (by have:=Nat.mod_lt (bits h) (show 0<m+1 by omega);omega) hfr
 have g:goA m (fo o hs) h (10*turns m) (start m h)=some (.free j):=g
 have hjn:=goA_free g
 have hjo:j<o.size∧o[j]?=some none:=by
  exact freeB_in w.sz (turns m) _ _ j (by have:=Nat.mod_lt (bits h) (show 0<m+1 by omega);omega) hfr
 refine⟨j,hfr,?_,?_,?_,?_,?_⟩
 ·simpa using w.sz
 ·have h1:=w.ct
  unfold TabA.cnt at h1⊢
  obtain⟨l,e'⟩:=Array.getElem?_eq_some_iff.mp hjo.2
  rw[Array.toList_setIfInBounds,List.countP_set (by simpa using l),h1]
  simp[e']
 ·intro i v q
  rw[Array.getElem?_setIfInBounds] at q
  split at q
  ·split at q
   ·injection q with q;injection q with q;omega
   ·cases q
  ·have:=w.lt i v q;omega
 ·intro a b v qa qb
  rw[Array.getElem?_setIfInBounds] at qa qb
  have old:∀{z:Nat},o[z]?=some (some v)→v<k:=fun{z} q=>w.lt z v q
  by_cases ca:j=a
  ·by_cases cb:j=b
   ·omega
   ·rw[if_neg cb] at qb
    rw[if_pos ca,if_pos (by omega)] at qa
    injection qa with qa
    injection qa with qa
    have:=old qb
    omega
  ·rw[if_neg ca] at qa
   by_cases cb:j=b
   ·rw[if_pos cb,if_pos (by omega)] at qb
    injection qb with qb
    injection qb with qb
    have:=old qa
    omega
   ·rw[if_neg cb] at qb
    exact w.ij a b v qa qb
 ·intro i h' hi eh
  rw[fo_put hjo.1 hh]
  by_cases c:i=k
  ·subst c
   cases(Option.some.inj (eh.symm.trans hh):h'=h)
   exact⟨j,goA_new g⟩
  ·obtain⟨j',e'⟩:=w.fd i h' (by omega) eh
   exact⟨j',goA_keep hjn e'⟩
end TabB
namespace TabB
open SetTable
theorem nd_at {α:Type}{l:List α}(hn:l.Nodup){i j:Nat}{x:α}(h1:l[i]?=some x)(h2:l[j]?=some x):i=j:=
 (List.getElem?_inj (List.getElem?_eq_some_iff.mp h1).1 hn).mp (h1.trans h2.symm)
theorem lay_foldB {m:Nat}(hm:m=7∨m=31∨m=127){hs:Array Int}(hn:hs.toList.Nodup)(hl:hs.size≤m+1):∀(l:List Int) (o:Array (Option Nat)) (k:Nat),LW m hs o k→hs.toList.drop k=l→k≤hs.size→∃o',(l.foldl (init:=some (o,k)) fun acc h=>do
  let (owner,k)←acc
  let j←layClean.free m owner (turns m) (bits h%(m+1)) (bits h)
  pure (owner.setIfInBounds j (some k),k+1))=some (o',hs.size)∧LW m hs o' hs.size
 |[],o,k,w,e,hk=>by
  have:hs.size - k=0:=by
   have:=congrArg List.length e
   simpa using this
  obtain rfl:k=hs.size:=by omega
  exact⟨o,rfl,w⟩
 |h::l,o,k,w,e,hk=>by
  have e0:hs.toList[k]?=some h:=by
   have:(hs.toList.drop k)[0]?=some h:=by rw[e];rfl
   rw[List.getElem?_drop] at this
   exact this
  have e0':hs[k]?=some h:=by rw[←Array.getElem?_toList];exact e0
  have hks:k<hs.size:=(Array.getElem?_eq_some_iff.mp e0').1
  obtain⟨j,hf,w2⟩:=lw_step hm w (by omega) e0' fun i hi ei=>by
   rw[←Array.getElem?_toList] at ei
   have:=nd_at hn ei e0
   omega
  obtain⟨o',h1,h2⟩:=lay_foldB hm hn hl l _ _ w2 (by rw[←List.drop_drop,e];rfl) (by omega)
  refine⟨o',?_,h2⟩
  rw[List.foldl_cons,←h1]
  congr 1
  show(layClean.free m o (turns m) (bits h%(m+1)) (bits h)>>=_)=_
  rw[hf]
  rfl
theorem layB {m:Nat}(hm:m=7∨m=31∨m=127){hs:Array Int}(hn:hs.toList.Nodup)(hl:hs.size≤m+1):∃o,layClean m hs=some o∧LW m hs o hs.size:=by
 obtain⟨o,h1,w⟩:=lay_foldB hm hn hl hs.toList (Array.replicate (m+1) none) 0 ⟨by simp,by unfold TabA.cnt;rw[Array.toList_replicate,List.countP_replicate];simp,(fun j v e=>by
  rw[Array.getElem?_replicate] at e
  split at e<;>simp at e),(fun j j' v e=>by
  rw[Array.getElem?_replicate] at e
  split at e<;>simp at e),fun i h hi=>absurd hi (Nat.not_lt_zero _)⟩ rfl (Nat.zero_le _)
 refine⟨o,?_,w⟩
 unfold layClean
 rw[←Array.foldl_toList,h1]
 rfl
theorem fm_map {α β:Type}(f:α→Option β)(g:α→β):∀l:List α,(∀x∈l,f x=some (g x))→l.filterMap f=l.map g
 |[],_=>rfl
 |x::l,h=>by rw[List.filterMap_cons,h x List.mem_cons_self,List.map_cons,fm_map f g l fun y hy=>h y (List.mem_cons_of_mem _ hy)]
noncomputable def lives (m:Nat) (o:Array (Option Nat)):List (Nat×Nat):=(List.range (m+1)).filterMap fun j=>(o.getD j none).map (j, ·)
theorem lives_mem {m:Nat}{o:Array (Option Nat)}{j k:Nat}:(j,k)∈lives m o↔j<m+1∧o.getD j none=some k:=by
 unfold lives
 rw[List.mem_filterMap]
 constructor
 ·rintro⟨q,hq,e⟩
  obtain⟨v,h1,h2⟩:=Option.map_eq_some_iff.mp e
  injection h2 with h2 h3
  subst h2 h3
  exact⟨List.mem_range.mp hq,h1⟩
 ·rintro⟨h1,h2⟩
  exact⟨j,List.mem_range.mpr h1,by rw[h2];rfl⟩
theorem lives_pw (m:Nat)(o:Array (Option Nat)):(lives m o).Pairwise (fun a b=>a.1<b.1):=by
 unfold lives
 refine List.Pairwise.filterMap (R:=fun(a b:Nat)=>a<b) (S:=fun(a b:Nat×Nat)=>a.1<b.1) _ (fun a b hab x hx y hy=>?_) List.pairwise_lt_range
 obtain⟨u,_,rfl⟩:=Option.map_eq_some_iff.mp hx
 obtain⟨v,_,rfl⟩:=Option.map_eq_some_iff.mp hy
 exact hab
theorem ris_of {xs:Array Nat}(h:xs.toList.Pairwise (· < ·)):Ris xs:=fun i j x y e1 e2 lt=>by
 rw[←Array.getElem?_toList] at e1 e2
 obtain⟨h1,rfl⟩:=List.getElem?_eq_some_iff.mp e1
 obtain⟨h2,rfl⟩:=List.getElem?_eq_some_iff.mp e2
 exact List.pairwise_iff_getElem.mp h i j h1 h2 lt
theorem pw_of {xs:Array Nat}(h:Ris xs):xs.toList.Pairwise (· < ·):=List.pairwise_iff_getElem.mpr fun i j h1 h2 lt=>h i j _ _ (by rw[←Array.getElem?_toList];exact List.getElem?_eq_getElem h1) (by rw[←Array.getElem?_toList];exact List.getElem?_eq_getElem h2) lt
structure SB (t:SetTable) (es:Array (Int×Value)) (c:List (Int×Value)):Prop where
 dm:t.dummies= #[]
 ri:Ris t.place
 le:∀x∈t.place.toList,x≤t.mask
 sz:es.size=t.place.size
 ms:t.mask=7∧es.size<5∨t.mask=31∧es.size<19∨t.mask=127∧es.size<76
 nd:(es.toList.map (·.1)).Nodup
 me:∀e,e∈es.toList↔e∈c
 fd:∀e∈es.toList,∃j,goA t.mask (ownOf t (hAt es)) e.1 (10*turns t.mask) (start t.mask e.1)=some (.hit j)
theorem SB.m3 {t:SetTable}{es:Array (Int×Value)}{c:List (Int×Value)}(I:SB t es c):t.mask=7∨t.mask=31∨t.mask=127:=by
 rcases I.ms with h|h|h
 ·exact .inl h.1
 ·exact .inr (.inl h.1)
 ·exact .inr (.inr h.1)
theorem hAt_of {es:Array (Int×Value)}{i:Nat}{e:Int×Value}(h:es[i]?=some e):hAt es i=e.1:=by unfold hAt;rw[h];rfl
theorem own_some {t:SetTable}{es:Array (Int×Value)}(hd:t.dummies= #[])(hr:Ris t.place)(hz:es.size=t.place.size){q:Nat}{k:Int}:ownOf t (hAt es) q=some k↔∃(i:Nat) (e:Int×Value),t.place[i]?=some q∧es[i]?=some e∧e.1=k:=by
 unfold ownOf
 constructor
 ·intro h
  cases z:t.slot q with
  |empty=>rw[z] at h;cases h
  |dummy=>rw[z] at h;cases h
  |live i=>
   rw[z] at h
   have e1:=(slot_iff hd hr).mp z
   have hi:i<es.size:=by rw[hz];exact(Array.getElem?_eq_some_iff.mp e1).1
   have e2:es[i]?=some es[i]:=Array.getElem?_eq_getElem hi
   refine⟨i,es[i],e1,e2,?_⟩
   have h:hAt es i=k:=Option.some.inj h
   rw[←h,hAt_of e2]
 ·rintro⟨i,e,e1,e2,rfl⟩
  rw[(slot_iff hd hr).mpr e1]
  show some (hAt es i)=_
  rw[hAt_of e2]
theorem own_none {t:SetTable}{g:Nat→Int}(hd:t.dummies= #[]){q:Nat}(h:q∉t.place.toList):ownOf t g q=none:=by
 unfold ownOf
 rw[TabA.slot_free hd (fun z=>h (Array.mem_toList_iff.mpr z))]
structure PIn (m:Nat) (p:Probe):Prop where
 a:p.i≤m
 b:p.i≤p.j
 c:p.j+p.more≤m
theorem PIn.adv {m:Nat}{p:Probe}(h:PIn m p):PIn m (adv m p):=by
 have h1:=h.a
 have h2:=h.b
 have h3:=h.c
 unfold TabB.adv
 split
 ·exact⟨h1,by show p.i≤p.j+1;omega,by show p.j+1+(p.more - 1)≤m;omega⟩
 ·have hi:(leap m p.i p.perturb).1≤m:=by
   show(p.i*5+1+p.perturb/32)%(m+1)≤m
   have:=Nat.mod_lt (p.i*5+1+p.perturb/32) (show 0<m+1 by omega)
   omega
  have hb:=run_bd hi
  exact⟨hi,Nat.le_refl _,by show(leap m p.i p.perturb).1+(runEnd m (leap m p.i p.perturb).1 - (leap m p.i p.perturb).1)≤m;omega⟩
theorem goA_in {m:Nat}{f:Own}{h:Int}:∀{n:Nat} {p:Probe} {j:Nat},PIn m p→goA m f h n p=some (.free j)→j≤m
 |0,_,_,_,e=>nomatch e
 |n+1,p,j,hp,e=>by
  unfold goA at e
  cases q:f p.j with
  |none=>
   rw[q] at e
   injection e with e
   injection e with e
   have:=hp.c
   omega
  |some k=>
   rw[q] at e
   dsimp only at e
   split at e
   ·injection e with e;cases e
   ·exact goA_in hp.adv e
theorem start_in (m:Nat)(h:Int):PIn m (start m h):=by
 have hi:bits h%(m+1)≤m:=by have:=Nat.mod_lt (bits h) (show 0<m+1 by omega);omega
 have hb:=run_bd hi
 exact⟨hi,Nat.le_refl _,by show bits h%(m+1)+(runEnd m (bits h%(m+1)) - bits h%(m+1))≤m;omega⟩
theorem SB.free {t:SetTable}{es:Array (Int×Value)}{c:List (Int×Value)}{h:Int}(I:SB t es c)(hh:∀e∈es.toList,e.1≠h):∃j,j≤t.mask∧j∉t.place.toList∧goA t.mask (ownOf t (hAt es)) h (10*turns t.mask) (start t.mask h)=some (.free j):=by
 have fr:∃j,j<t.mask+1∧j∉t.place:=TabA.some_free I.dm (by have:=I.sz;rcases I.ms with q|q|q<;>omega)
 obtain⟨j0,h1,h2⟩:=fr
 obtain⟨r,er⟩:=search_ends (f:=ownOf t (hAt es)) (h:=h) I.m3 h1 (own_none I.dm fun z=>h2 (Array.mem_toList_iff.mp z))
 cases r with
 |hit j=>
  obtain⟨i,e,e1,e2,e3⟩:=(own_some I.dm I.ri I.sz).mp (goA_hit er)
  exact absurd e3 (hh e (by rw[←Array.getElem?_toList] at e2;exact List.mem_of_getElem? e2))
 |free j=>
  have hj:=goA_free er
  refine⟨j,?_,fun z=>?_,er⟩
  ·exact goA_in (start_in _ _) er
  ·obtain⟨i,hi,e⟩:=List.mem_iff_getElem.mp z
   have e1:t.place[i]?=some j:=by rw[←Array.getElem?_toList,List.getElem?_eq_getElem hi,e]
   have hi':i<es.size:=by rw[I.sz];simpa using hi
   have:=(own_some I.dm I.ri I.sz (k:=es[i].1)).mpr ⟨i,es[i],e1,Array.getElem?_eq_getElem hi',rfl⟩
   rw[hj] at this
   cases this
end TabB
namespace TabB
open SetTable
section
variable {α:Type} {L:List α} {x:α} {p i:Nat}
theorem ins_lt (hp:p≤L.length)(hi:i<p):(L.take p++x::L.drop p)[i]?=L[i]?:=by
 rw[List.getElem?_append_left (by rw[List.length_take];omega),List.getElem?_take,if_pos hi]
theorem ins_eq (hp:p≤L.length):(L.take p++x::L.drop p)[p]?=some x:=by
 rw[List.getElem?_append_right (by rw[List.length_take];omega),List.length_take,show p - min p L.length=0 by omega];rfl
theorem ins_gt (hp:p≤L.length)(hi:p≤i):(L.take p++x::L.drop p)[i+1]?=L[i]?:=by
 rw[List.getElem?_append_right (by rw[List.length_take];omega),List.length_take,show i+1 - min p L.length=(i - p)+1 by omega,List.getElem?_cons_succ,List.getElem?_drop,show p+(i - p)=i by omega]
theorem ins_mem {y:α}:y∈L.take p++x::L.drop p↔y=x∨y∈L:=by
 rw[List.mem_append,List.mem_cons]
 constructor
 ·rintro(h|h|h)
  ·exact .inr (List.mem_of_mem_take h)
  ·exact .inl h
  ·exact .inr (List.mem_of_mem_drop h)
 ·rintro(h|h)
  ·exact .inr (.inl h)
  ·rw[←List.take_append_drop p L] at h
   exact(List.mem_append.mp h).imp id .inr
end
theorem ins_list {α:Type}(xs:Array α)(p:Nat)(x:α):(insertAt xs p x).toList=xs.toList.take p++x::xs.toList.drop p:=by
 unfold insertAt
 rw[Array.toList_append,Array.toList_push,Array.toList_extract,Array.toList_extract,List.append_assoc]
 simp
 exact List.take_of_length_le (by simp)
structure SB0 (t:SetTable) (es:Array (Int×Value)) (c:List (Int×Value)):Prop where
 dm:t.dummies= #[]
 ri:Ris t.place
 le:∀x∈t.place.toList,x≤t.mask
 sz:es.size=t.place.size
 nd:(es.toList.map (·.1)).Nodup
 me:∀e,e∈es.toList↔e∈c
 fd:∀e∈es.toList,∃j,goA t.mask (ownOf t (hAt es)) e.1 (10*turns t.mask) (start t.mask e.1)=some (.hit j)
theorem put_ok {t:SetTable}{es:Array (Int×Value)}{c:List (Int×Value)}{h:Int}{x:Value}{j:Nat}(I:SB t es c)(hh:∀e∈es.toList,e.1≠h)(hj:j≤t.mask)(hjp:j∉t.place.toList)(hg:goA t.mask (ownOf t (hAt es)) h (10*turns t.mask) (start t.mask h)=some (.free j)):
  SB0 (t.put j).1 (insertAt es (t.put j).2 (h,x)) ((h,x)::c):=by
 obtain⟨hb,hlo,hhi⟩:=below_ok I.ri j
 have ep:(t.put j).1.place=insertAt t.place (below t.place j) j:=rfl
 have e2:(t.put j).2=below t.place j:=rfl
 have em:(t.put j).1.mask=t.mask:=rfl
 have d1:(t.put j).1.dummies= #[]:=by
  unfold SetTable.put
  dsimp only
  rw[I.dm]
  split
  ·rename_i q;unfold SetTable.has at q;simp at q
  ·rfl
 rw[e2]
 have lp:(t.put j).1.place.toList=t.place.toList.take (below t.place j)++j::t.place.toList.drop (below t.place j):=by rw[ep,ins_list]
 have le:(insertAt es (below t.place j) (h,x)).toList=es.toList.take (below t.place j)++(h,x)::es.toList.drop (below t.place j):=ins_list _ _ _
 have hb1:below t.place j≤t.place.toList.length:=by simpa using hb
 have hb2:below t.place j≤es.toList.length:=by have:=I.sz;simp;omega
 have ri:Ris (t.put j).1.place:=by
  refine ris_of ?_
  rw[lp]
  have pw:=pw_of I.ri
  have tk:∀y∈t.place.toList.take (below t.place j),y<j:=fun y hy=>by
   obtain⟨i,hi,e⟩:=List.mem_iff_getElem.mp hy
   rw[List.length_take] at hi
   refine hlo i y (by omega) ?_
   rw[←Array.getElem?_toList,←e,List.getElem_take,List.getElem?_eq_getElem]
  have dr:∀y∈t.place.toList.drop (below t.place j),j<y:=fun y hy=>by
   obtain⟨i,hi,e⟩:=List.mem_iff_getElem.mp hy
   rw[List.length_drop] at hi
   have h1:=hhi (below t.place j+i) y (by omega) (by rw[←Array.getElem?_toList,←e,List.getElem_drop,List.getElem?_eq_getElem])
   have h2:y≠j:=fun z=>hjp (z▸List.mem_of_mem_drop hy)
   omega
  refine List.pairwise_append.mpr ⟨pw.sublist (List.take_sublist _ _),List.pairwise_cons.mpr ⟨dr,pw.sublist (List.drop_sublist _ _)⟩,fun a ha b hb=>?_⟩
  rcases List.mem_cons.mp hb with rfl|hb
  ·exact tk a ha
  ·exact Nat.lt_trans (tk a ha) (dr b hb)
 have sz:(insertAt es (below t.place j) (h,x)).size=(t.put j).1.place.size:=by
  rw[ep,insert_size,insert_size,I.sz]
 have own:ownOf (t.put j).1 (hAt (insertAt es (below t.place j) (h,x)))=updO (ownOf t (hAt es)) j h:=by
  funext q
  unfold updO
  by_cases c:q=j
  ·rw[if_pos c]
   refine(own_some d1 ri sz).mpr ⟨below t.place j,(h,x),?_,?_,rfl⟩
   ·rw[←Array.getElem?_toList,lp,c];exact ins_eq hb1
   ·rw[←Array.getElem?_toList,le];exact ins_eq hb2
  ·rw[if_neg c]
   cases z:ownOf t (hAt es) q with
   |some k=>
    obtain⟨i,e,e1,e3,e4⟩:=(own_some I.dm I.ri I.sz).mp z
    rw[←Array.getElem?_toList] at e1 e3
    by_cases ci:i<below t.place j
    ·exact(own_some d1 ri sz).mpr ⟨i,e,by rw[←Array.getElem?_toList,lp,ins_lt hb1 ci];exact e1,by rw[←Array.getElem?_toList,le,ins_lt hb2 ci];exact e3,e4⟩
    ·exact(own_some d1 ri sz).mpr ⟨i+1,e,by rw[←Array.getElem?_toList,lp,ins_gt hb1 (by omega)];exact e1,by rw[←Array.getElem?_toList,le,ins_gt hb2 (by omega)];exact e3,e4⟩
   |none=>
    refine own_none d1 fun y=>?_
    rw[lp] at y
    rcases ins_mem.mp y with y|y
    ·exact c y
    ·obtain⟨i,hi,e⟩:=List.mem_iff_getElem.mp y
     have hi':i<es.size:=by rw[I.sz];simpa using hi
     have:=(own_some I.dm I.ri I.sz (k:=es[i].1)).mpr ⟨i,es[i],by rw[←Array.getElem?_toList,List.getElem?_eq_getElem hi,e],Array.getElem?_eq_getElem hi',rfl⟩
     rw[z] at this
     cases this
 refine⟨d1,ri,fun y hy=>?_,sz,?_,fun e=>?_,fun e he=>?_⟩
 ·rw[lp] at hy
  rw[em]
  rcases ins_mem.mp hy with rfl|hy
  ·exact hj
  ·exact I.le y hy
 ·rw[le,List.map_append,List.map_cons,List.map_take,List.map_drop]
  have hp:((es.toList.map (·.1)).take (below t.place j)++h::(es.toList.map (·.1)).drop (below t.place j)).Perm (h::es.toList.map (·.1)):=by
   have:=List.perm_middle (a:=h) (l₁:=(es.toList.map (·.1)).take (below t.place j)) (l₂:=(es.toList.map (·.1)).drop (below t.place j))
   rw[List.take_append_drop] at this
   exact this
  refine hp.nodup_iff.mpr (List.nodup_cons.mpr ⟨fun z=>?_,I.nd⟩)
  obtain⟨e,he,e'⟩:=List.mem_map.mp z
  exact hh e he e'
 ·rw[le,ins_mem,List.mem_cons,I.me]
 ·rw[le] at he
  rw[own,em]
  rcases ins_mem.mp he with rfl|he
  ·exact⟨j,goA_new hg⟩
  ·obtain⟨j',e'⟩:=I.fd e he
   exact⟨j',goA_keep (goA_free hg) e'⟩
theorem lives_len {m:Nat}{hs:Array Int}{o:Array (Option Nat)}{k:Nat}(w:LW m hs o k):(lives m o).length=k:=by
 unfold lives
 rw[List.length_filterMap_eq_countP]
 have e1:o.toList=(List.range (m+1)).map (fun j=>o.getD j none):=by
  refine List.ext_getElem? fun j=>?_
  rw[List.getElem?_map,Array.getElem?_toList]
  by_cases hj:j<m+1
  ·rw[List.getElem?_range hj]
   have:j<o.size:=by rw[w.sz];exact hj
   simp[Array.getElem?_eq_getElem this]
  ·have:¬j<o.size:=by rw[w.sz];exact hj
   rw[Array.getElem?_eq_none (by omega)]
   rw[List.getElem?_eq_none (by simpa using hj)]
   rfl
 have h2:=w.ct
 unfold TabA.cnt at h2
 rw[e1,List.countP_map] at h2
 rw[←h2]
 congr 1
 funext j
 simp
theorem relay_ok {t:SetTable}{es:Array (Int×Value)}{c:List (Int×Value)}(I:SB0 t es c){m:Nat}(hm:m=7∨m=31∨m=127)(hl:es.size≤m+1)(finger moves:Nat)(led plain:Bool):
  ∃t2 order,laid m finger moves led plain (es.map (·.1))=some (t2,order)∧t2.mask=m∧SB0 t2 (order.filterMap (es[·]?)) c∧(order.filterMap (es[·]?)).size=es.size:=by
 have hnd:(es.map (·.1)).toList.Nodup:=by rw[Array.toList_map];exact I.nd
 obtain⟨o,ec,w⟩:=layB hm hnd (by rw[Array.size_map];exact hl)
 rw[Array.size_map] at w
 have lt:∀jk∈lives m o,jk.2<es.size:=fun⟨j,k⟩ h=>by
  have:=(lives_mem.mp h).2
  rw[Array.getD_eq_getD_getElem?] at this
  cases z:o[j]? with
  |none=>rw[z] at this;cases this
  |some u=>rw[z] at this;exact w.lt j k (by rw[z];exact congrArg some this)
 have eL:(((lives m o).map (·.2)).toArray.filterMap (es[·]?)).toList=(lives m o).map fun jk=>es.getD jk.2 (0,.none):=by
  rw[Array.toList_filterMap,List.toList_toArray,List.filterMap_map]
  refine fm_map _ _ _ fun jk h=>?_
  show es[jk.2]?=_
  rw[Array.getElem?_eq_getElem (lt jk h),Array.getD_eq_getD_getElem?,Array.getElem?_eq_getElem (lt jk h)];rfl
 have hAtk:∀{k:Nat} (hk:k<es.size),(es.map (·.1))[k]?=some es[k].1:=fun{k} hk=>by rw[Array.getElem?_map,Array.getElem?_eq_getElem hk];rfl
 have getk:∀{k:Nat} (hk:k<es.size),es.getD k (0,.none)=es[k]:=fun{k} hk=>by rw[Array.getD_eq_getD_getElem?,Array.getElem?_eq_getElem hk];rfl
 have lz:(((lives m o).map (·.2)).toArray.filterMap (es[·]?)).size=(lives m o).length:=by rw[←Array.length_toList,eL,List.length_map]
 refine⟨{mask:=m,place:=((lives m o).map (·.1)).toArray,dummies:= #[],finger:=finger,led:=led,moves:=moves,plain:=plain},((lives m o).map (·.2)).toArray,by unfold laid;rw[ec];rfl,rfl,?_,by rw[lz,lives_len w]⟩
 have ri:Ris ((lives m o).map (·.1)).toArray:=ris_of (by rw[List.toList_toArray];exact List.pairwise_map.mpr (lives_pw m o))
 have sz:(((lives m o).map (·.2)).toArray.filterMap (es[·]?)).size=((lives m o).map (·.1)).toArray.size:=by rw[lz,List.size_toArray,List.length_map]
 have own:ownOf {mask:=m,place:=((lives m o).map (·.1)).toArray,dummies:= #[],finger:=finger,led:=led,moves:=moves,plain:=plain} (hAt (((lives m o).map (·.2)).toArray.filterMap (es[·]?)))=fo o (es.map (·.1)):=by
  funext q
  cases z:fo o (es.map (·.1)) q with
  |some k=>
   unfold fo at z
   obtain⟨v,e1,e2⟩:=Option.bind_eq_some_iff.mp z
   have hq:q<m+1:=by
    rw[←w.sz]
    by_cases hq:q<o.size
    ·exact hq
    ·rw[Array.getD_eq_getD_getElem?,Array.getElem?_eq_none (by omega)] at e1;cases e1
   have hmem:(q,v)∈lives m o:=lives_mem.mpr ⟨hq,e1⟩
   have hv:=lt _ hmem
   obtain⟨i,hi,ei⟩:=List.mem_iff_getElem.mp hmem
   refine(own_some rfl ri sz).mpr ⟨i,es[v],?_,?_,?_⟩
   ·show((lives m o).map (·.1)).toArray[i]?=some q
    rw[←Array.getElem?_toList,List.toList_toArray,List.getElem?_map,List.getElem?_eq_getElem hi,ei];rfl
   ·rw[←Array.getElem?_toList,eL,List.getElem?_map,List.getElem?_eq_getElem hi,ei]
    exact congrArg some (getk hv)
   ·rw[hAtk hv] at e2
    exact Option.some.inj e2
  |none=>
   refine own_none rfl fun y=>?_
   have y:q∈((lives m o).map (·.1)).toArray.toList:=y
   rw[List.toList_toArray] at y
   obtain⟨⟨q',v⟩,hmem,rfl⟩:=List.mem_map.mp y
   have e1:=(lives_mem.mp hmem).2
   have hv:=lt _ hmem
   unfold fo at z
   rw[e1] at z
   have z:(es.map (·.1))[v]?=none:=z
   rw[hAtk hv] at z
   cases z
 have hit:∀k (hk:k<es.size),∃j,(j,k)∈lives m o:=fun k hk=>by
  obtain⟨j,e⟩:=w.fd k _ hk (hAtk hk)
  have e:=goA_hit e
  unfold fo at e
  obtain⟨v,e1,e2⟩:=Option.bind_eq_some_iff.mp e
  have hj:j<m+1:=by
   rw[←w.sz]
   by_cases hq:j<o.size
   ·exact hq
   ·rw[Array.getD_eq_getD_getElem?,Array.getElem?_eq_none (by omega)] at e1;cases e1
  have hmem:(j,v)∈lives m o:=lives_mem.mpr ⟨hj,e1⟩
  have:v=k:=nd_at hnd (by rw[Array.getElem?_toList];exact e2) (by rw[Array.getElem?_toList];exact hAtk hk)
  exact⟨j,this▸hmem⟩
 have sn:((lives m o).map (·.2)).Nodup:=by
  refine List.pairwise_map.mpr ?_
  refine(List.pairwise_iff_getElem.mpr fun i j hi hj lt' e=>?_)
  have m1:=lives_mem.mp (show((lives m o)[i].1,(lives m o)[i].2)∈lives m o from List.getElem_mem hi)
  have m2:=lives_mem.mp (show((lives m o)[j].1,(lives m o)[j].2)∈lives m o from List.getElem_mem hj)
  have g1:∀{q v:Nat},o.getD q none=some v→o[q]?=some (some v):=fun{q v} z=>by
   rw[Array.getD_eq_getD_getElem?] at z
   cases y:o[q]? with
   |none=>rw[y] at z;cases z
   |some u=>rw[y] at z;exact congrArg some z
  have:=w.ij _ _ _ (g1 m1.2) (by rw[e];exact g1 m2.2)
  have:=List.pairwise_iff_getElem.mp (lives_pw m o) i j hi hj lt'
  omega
 refine⟨rfl,ri,fun y hy=>?_,sz,?_,fun e=>?_,fun e he=>?_⟩
 ·have hy:y∈((lives m o).map (·.1)).toArray.toList:=hy
  rw[List.toList_toArray] at hy
  obtain⟨⟨q,v⟩,hmem,rfl⟩:=List.mem_map.mp hy
  have:=(lives_mem.mp hmem).1
  show q≤m
  omega
 ·rw[eL,List.map_map]
  have:((lives m o).map ((·.1)∘fun jk=>es.getD jk.2 (0,.none)))=(((lives m o).map (·.2)).map fun k=>(es.getD k (0,.none)).1):=by rw[List.map_map];rfl
  rw[this]
  refine List.pairwise_map.mpr ((List.pairwise_iff_getElem.mpr fun i j hi hj lt' e=>?_))
  have hk:∀k∈(lives m o).map (·.2),k<es.size:=fun k hk=>by
   obtain⟨jk,h1,rfl⟩:=List.mem_map.mp hk
   exact lt jk h1
  have k1:=hk _ (List.getElem_mem hi)
  have k2:=hk _ (List.getElem_mem hj)
  rw[getk k1,getk k2] at e
  have h3:((lives m o).map (·.2))[i]=((lives m o).map (·.2))[j]:=nd_at hnd (by rw[Array.getElem?_toList];exact hAtk k1) (by rw[Array.getElem?_toList,e];exact hAtk k2)
  exact List.pairwise_iff_getElem.mp sn i j hi hj lt' h3
 ·rw[eL,←I.me,List.mem_map]
  constructor
  ·rintro⟨jk,h1,rfl⟩
   rw[getk (lt jk h1)]
   exact Array.mem_toList_iff.mpr (Array.getElem_mem _)
  ·intro he
   obtain⟨k,hk,e'⟩:=List.mem_iff_getElem.mp he
   have hk':k<es.size:=by simpa using hk
   obtain⟨j,hj⟩:=hit k hk'
   exact⟨_,hj,by rw[getk hk',←e'];simp⟩
 ·rw[eL] at he
  obtain⟨jk,h1,rfl⟩:=List.mem_map.mp he
  rw[own,getk (lt jk h1)]
  exact w.fd jk.2 _ (lt jk h1) (hAtk (lt jk h1))
theorem SB.add {t:SetTable}{es:Array (Int×Value)}{c:List (Int×Value)}{h:Int}{x:Value}(I:SB t es c)(hn:es.size<75)(hh:∀e∈es.toList,e.1≠h):∃t' es',addT2 t es h x=some (t',es')∧SB t' es' ((h,x)::c)∧es'.size=es.size+1:=by
 obtain⟨j,hj,hjp,hg⟩:=I.free hh
 have hp:t.probe (hAt es) h (t.probeStart h)=some (.empty j none):=go_free I.dm rfl hg
 have m3:=I.m3
 have hgw:¬t.gaveWay=true:=by unfold SetTable.gaveWay;rcases m3 with q|q|q<;>simp[q]
 have J:=put_ok (x:=x) I hh hj hjp hg
 have m1:(t.put j).1.mask=t.mask:=rfl
 have es1:(insertAt es (t.put j).2 (h,x)).size=es.size+1:=insert_size _ _ _
 have p1:(t.put j).1.place.size=es.size+1:=by rw[←J.sz,es1]
 have f1:(t.put j).1.fill=es.size+1:=by unfold SetTable.fill;rw[p1,J.dm];rfl
 have fit:(t.put j).1.fits (insertAt es (t.put j).2 (h,x)).size=true:=by
  unfold SetTable.fits
  rw[es1,p1,f1,m1]
  simp
  rcases I.ms with q|q|q<;>omega
 unfold addT2
 rw[if_neg hgw,hp]
 dsimp only
 rw[if_pos fit]
 by_cases hf:(t.put j).1.tooFull=true
 ·rw[if_pos hf]
  unfold SetTable.tooFull at hf
  rw[f1,m1] at hf
  simp only[ge_iff_le,decide_eq_true_eq] at hf
  obtain⟨m2,hm2,e2,hms⟩:∃m2,(m2=7∨m2=31∨m2=127)∧sizeAbove (grown (es.size+1)) - 1=m2∧(m2=7∧es.size+1<5∨m2=31∧es.size+1<19∨m2=127∧es.size+1<76):=by
   rcases I.ms with ⟨q,r⟩|⟨q,r⟩|⟨q,r⟩
   ·rw[q] at hf
    have:es.size=4:=by omega
    rw[this]
    exact⟨31,.inr (.inl rfl),by decide,.inr (.inl ⟨rfl,by decide⟩)⟩
   ·rw[q] at hf
    have:es.size=18:=by omega
    rw[this]
    exact⟨127,.inr (.inr rfl),by decide,.inr (.inr ⟨rfl,by decide⟩)⟩
   ·rw[q] at hf;omega
  obtain⟨t2,order,el,em,J2,sz2⟩:=relay_ok J hm2 (by rw[es1];rcases hms with q|q|q<;>omega) (t.put j).1.finger ((t.put j).1.movedTo m2) (t.put j).1.led (t.put j).1.plain
  have er:(t.put j).1.relaid ((insertAt es (t.put j).2 (h,x)).map (·.1)) (grown (es.size+1))=some (t2,order):=by
   unfold SetTable.relaid
   rw[e2]
   exact el
  rw[er]
  dsimp only
  rw[if_pos sz2]
  exact⟨_,_,rfl,⟨J2.dm,J2.ri,J2.le,J2.sz,by rw[sz2,es1,em];exact hms,J2.nd,J2.me,J2.fd⟩,by rw[sz2,es1]⟩
 ·rw[if_neg hf]
  unfold SetTable.tooFull at hf
  rw[f1,m1] at hf
  simp only[ge_iff_le,decide_eq_true_eq] at hf
  refine⟨_,_,rfl,⟨J.dm,J.ri,J.le,J.sz,?_,J.nd,J.me,J.fd⟩,es1⟩
  rw[es1,m1]
  rcases I.ms with ⟨q,r⟩|⟨q,r⟩|⟨q,r⟩
  ·rw[q] at hf;exact .inl ⟨q,by omega⟩
  ·rw[q] at hf;exact .inr (.inl ⟨q,by omega⟩)
  ·rw[q] at hf;exact .inr (.inr ⟨q,by omega⟩)
theorem SB.hit {t:SetTable}{es:Array (Int×Value)}{c:List (Int×Value)}{e:Int×Value}(I:SB t es c)(he:e∈es.toList):∃j i nx,t.probe (hAt es) e.1 (t.probeStart e.1)=some (.candidate j i nx)∧es[i]?=some e:=by
 obtain⟨j,hg⟩:=I.fd e he
 obtain⟨i,nx,h1,h2,h3⟩:=go_hit I.dm hg
 have hi:i<es.size:=by rw[I.sz];exact TabA.slot_live h2
 refine⟨j,i,nx,h1,?_⟩
 obtain⟨k,hk,ek⟩:=List.mem_iff_getElem.mp he
 have e1:(es.toList.map (·.1))[i]?=some e.1:=by
  rw[List.getElem?_map,Array.getElem?_toList,Array.getElem?_eq_getElem hi]
  rw[hAt_of (Array.getElem?_eq_getElem hi)] at h3
  exact congrArg some h3
 have e2:(es.toList.map (·.1))[k]?=some e.1:=by rw[List.getElem?_map,List.getElem?_eq_getElem hk,ek];rfl
 have:=nd_at I.nd e1 e2
 subst this
 rw[←Array.getElem?_toList,List.getElem?_eq_getElem hk,ek]
theorem SB.nil (led:Bool):SB (.fresh 0 0 led) #[] []:=⟨rfl,(fun i j x y e=>by simp[SetTable.fresh] at e),(fun x hx=>by simp[SetTable.fresh] at hx),rfl,.inl ⟨rfl,by decide⟩,List.nodup_nil,fun e=>by simp,fun e he=>by simp at he⟩
theorem SB.fits {t:SetTable}{es:Array (Int×Value)}{c:List (Int×Value)}(I:SB t es c):t.fits es.size=true:=by
 unfold SetTable.fits SetTable.fill
 rw[I.sz,I.dm]
 simp
 have:=I.sz
 rcases I.ms with q|q|q<;>omega
end TabB
section
variable {prog:Program} {w:World} {A:Around} {E:Value→Shared→Prop} {s:Shared}
theorem ofA_ints {b:Addr}{k:List Int}{Q:Bool→Shared→Prop}(ht:ITup s.heap k b)(h:Q false s):wpAny (model prog w) A (ofAClassStatement 8 (.ref b)) Q E s:=by
 obtain⟨o,items,n,ho,hc,hd,hi⟩:=ht
 have hT:s.TypeIs (.ref b) "tuple" :=⟨o,ho,hc⟩
 unfold ofAClassStatement
 refine wpAny_bind (wpAny_typeOf hT ?_)
 dsimp only
 rw[if_pos (by decide)]
 refine wpAny_bind (wpAny_pure ?_)
 simp only[Bool.not_true,Bool.false_eq_true,if_false]
 refine wpAny_bind (wpAny_seqItems ho hd ?_)
 dsimp only
 refine wpAny_bind ?_
 show wpAny _ _ (forIn items _ _) _ _ _
 rw[←Array.forIn_toList]
 refine wpAny_forIn_list _ (fun rest q s'=>s'=s∧q=(none,())∧∀v∈rest,∃i t,v=Value.int i t) _ ?_ ?_ _ _ ⟨rfl,rfl,fun v hv=>hi.allInts v (by simpa using hv)⟩
 ·rintro v rest q s' ⟨rfl,rfl,hr⟩
  obtain⟨i,t,rfl⟩:=hr v List.mem_cons_self
  have e:ofAClassStatement 7 (.int i t)=pure false:=by simp[ofAClassStatement]
  rw[e]
  exact wpAny_bind (wpAny_pure (by
   show wpAny _ _ (if false=true then _ else _) _ _ _
   rw[if_neg (by decide)]
   exact wpAny_pure ⟨rfl,rfl,fun x hx=>hr x (List.mem_cons_of_mem _ hx)⟩))
 ·rintro q s' ⟨rfl,rfl,_⟩
  exact wpAny_pure h
theorem seen_not {knd:HeapKind prog w (List Int)}(his:∀h k b,ITup h k b→knd.is h k b){b:Addr}{k:List Int}{stored:List Value}{Q:Bool→Shared→Prop}(hb:ITup s.heap k b)(hs:∀y∈stored,∃kk bb,y=.ref bb∧ITup s.heap kk bb)(h:Q false s):
  wpAny (model prog w) A (searchCouldBeSeen (.ref b) stored) Q E s:=by
 unfold searchCouldBeSeen
 refine wpAny_bind ?_
 refine wpAny_forIn_list _ (fun rest q s'=>s'=s∧q=(none,())∧∀y∈rest,∃kk bb,y=Value.ref bb∧ITup s.heap kk bb) _ ?_ ?_ _ _ ⟨rfl,rfl,hs⟩
 ·rintro y rest q s' ⟨rfl,rfl,hr⟩
  obtain⟨kk,bb,rfl,hbb⟩:=hr y List.mem_cons_self
  have nx:∀x∈rest,∃kk bb,x=Value.ref bb∧ITup s'.heap kk bb:=fun x hx=>hr x (List.mem_cons_of_mem _ hx)
  dsimp only
  split
  ·exact wpAny_pure ⟨rfl,rfl,nx⟩
  ·refine wpAny_bind (knd.quiet (his _ _ _ hb) ?_)
   simp only[Bool.not_true,Bool.false_eq_true,if_false]
   refine wpAny_bind (knd.quiet (his _ _ _ hbb) ?_)
   simp only[Bool.not_true,Bool.false_eq_true,if_false]
   refine wpAny_bind (ofA_ints hb ?_)
   simp only[Bool.false_eq_true,if_false]
   refine wpAny_bind (ofA_ints hbb ?_)
   simp only[Bool.false_eq_true,if_false]
   exact wpAny_pure ⟨rfl,rfl,nx⟩
 ·rintro q s' ⟨rfl,rfl,_⟩
  exact wpAny_pure h
theorem setAdd_there {knd:HeapKind prog w (List Int)}(his:∀h k b,ITup h k b→knd.is h k b){a b b':Addr}{k:List Int}{o:Obj}{es:Array (Int×Value)}{ep:Nat}{t:SetTable}{c:List (Int×Value)}{Q:Bool→Shared→Prop}(hr:knd.room A)(hb:ITup s.heap k b)(hb':ITup s.heap k b')(ho:s.heap.get? a=some o)(hd:o.data=.set es ep t)
  (I:TabB.SB t es c) (he:(knd.hash k,Value.ref b')∈es.toList) (hall:∀e∈es.toList,∃kk bb,e.2=Value.ref bb∧ITup s.heap kk bb) (h:Q false {s with toks:=s.toks+knd.draws k}):wpAny (model prog w) A (setAdd a (.ref b)) Q E s:=by
 obtain⟨j,i,nx,hp,ei⟩:=I.hit he
 have hf:=I.fits
 have hg:¬t.gaveWay=true:=by unfold SetTable.gaveWay;rcases I.m3 with q|q|q<;>simp[q]
 unfold setAdd
 refine wpAny_holding (wpAny_bind (knd.pyHash hr (his _ _ _ hb) ?_))
 unfold setAddHashed
 refine wpAny_holding ?_
 show wpAny _ _ (setAddHashedIn a (.ref b) (knd.hash k) (99999+1)) _ _ _
 unfold setAddHashedIn
 refine wpAny_bind (wpAny_setState_of (s:={s with toks:=s.toks+knd.draws k}) ho hd hf ?_)
 dsimp only
 rw[if_neg (show¬byScan (.ref b) es=true by simp[byScan,Value.scannable])]
 refine wpAny_bind ?_
 unfold setSearch
 show wpAny _ _ (setSearchFrom a (.ref b) (knd.hash k) true (99999+1) none) _ _ _
 unfold setSearchFrom
 refine wpAny_bind (wpAny_setState_of (s:={s with toks:=s.toks+knd.draws k}) ho hd hf ?_)
 dsimp only
 rw[if_neg hg]
 split
 ·rename_i met hm
  have em:met=.candidate j i nx:=Option.some.inj (hm.symm.trans hp)
  subst em
  dsimp only
  split
  ·refine wpAny_bind (seen_not (knd:=knd) (s:={s with toks:=s.toks+knd.draws k}) his hb (fun y hy=>?_) ?_)
   ·obtain⟨e,he',rfl⟩:=List.mem_map.mp hy
    exact hall e (Array.mem_toList_iff.mpr (Array.mem_filter.mp (Array.mem_toList_iff.mp he')).1)
   rw[if_neg (by decide),ei]
   dsimp only
   refine wpAny_bind (wpAny_holding (knd.eqBool (s:={s with toks:=s.toks+knd.draws k}) hr (his _ _ _ hb') (his _ _ _ hb) ?_))
   refine wpAny_bind (wpAny_setState_of (s:={s with toks:=s.toks+knd.draws k}) ho hd hf ?_)
   rw[if_pos (by simp)]
   exact wpAny_pure (wpAny_pure h)
  ·rw[ei]
   dsimp only
   refine wpAny_bind (wpAny_holding (knd.eqBool (s:={s with toks:=s.toks+knd.draws k}) hr (his _ _ _ hb') (his _ _ _ hb) ?_))
   refine wpAny_bind (wpAny_setState_of (s:={s with toks:=s.toks+knd.draws k}) ho hd hf ?_)
   rw[if_pos (by simp)]
   exact wpAny_pure (wpAny_pure h)
 ·rename_i hm
  exact(hm _ hp).elim
end
theorem grown_ok (n:Nat)(h:n<77):SetTable.sizeAbove (SetTable.grown (n+1))≤sizeLine:=(show∀n<77,SetTable.sizeAbove (SetTable.grown (n+1))≤sizeLine by decide+kernel) n h
section
variable {prog:Program} {w:World} {A:Around} {R:Result→Shared→Prop} {I:Addr} {fp wr:List Addr} {G:Array GenState→Array GenState→Prop} {n:Nat} {P:Nat→Value→Prop} {St:Nat→Shared→Prop}
end
theorem nd_len {α:Type} [DecidableEq α]:∀{xs ys:List α},xs.Nodup→(∀x∈xs,x∈ys)→xs.length≤ys.length
 |[],_,_,_=>Nat.zero_le _
 |a::l,m,hn,hs=>by
  have ha:=hs a List.mem_cons_self
  have:=nd_len (xs:=l) (ys:=m.erase a) (List.nodup_cons.mp hn).2 fun x hx=>(List.mem_erase_of_ne (fun(e:x=a)=>(List.nodup_cons.mp hn).1 (e▸hx))).mpr (hs x (List.mem_cons_of_mem _ hx))
  rw[List.length_erase_of_mem ha] at this
  have:=List.length_pos_of_mem ha
  simp only[List.length_cons]
  omega
section
variable {X:Cx} {Ex:St→Value→Hp→Prop} {C:Addr} {k:Nat} {f:Addr} {fd:FuncData} {ps:List Str} {sp:Sp} {x m:Str} {p pos apos:Pos} {e o:Expr} {es:List Expr} {ta:TE} {t:TA}
end
section
variable {P:Program} {w:World} {K:PySem.W.Frag} {mg:Str→Option Value} {base:Heap}
end
def tMeth2 (C C':Addr) (m:Str) (sp sp':Sp) (ta:TE):TE:=fun σ H Q=>ta σ H fun x H1=>∃a D dx fs,x=.ref a∧H1 a=some (.ins D dx fs)∧fs.lookup m=none∧
 ((D=C∧sp [x] H1 Q E0)∨(D=C'∧sp' [x] H1 Q E0))
section
variable {X:Cx} {C C':Addr} {k k':Nat} {ps ps':List Str} {sp sp':Sp} {m:Str} {pos apos:Pos} {o:Expr} {ta:TE}
theorem pe_met20 {pl:Sem Bool}(he:PE X o ta)(c:Cls X.K C)(c':Cls X.K C')(G:MCallee X.prog X.w X.K X.mg X.base C m k ps sp)(G':MCallee X.prog X.w X.K X.mg X.base C' m k' ps' sp')(hr:Room k X.A)(hr':Room k' X.A)
  (ht:eval (.Call (.Attribute o m apos) [] [] pos) X.env=(do
   let ov←eval o X.env
   standAt apos.atName
   let (f,first)←holding [ov] (getMethod ov m pl)
   callWith pos f first (backTo pos (starEach [] X.env)) (backToKw pos (keywordEach [] X.env))):=by rfl):
  PE X (.Call (.Attribute o m apos) [] [] pos) (tMeth2 C C' m sp sp' ta):=by
 obtain⟨f,fd,F,hm,hb⟩:=G.ex
 obtain⟨f',fd',F',hm',hb'⟩:=G'.ex
 intro pins s σ H Q I h
 refine PySem.W.methodCall_KW (pl:=pl) (thn (he pins s σ H _ I h) fun u s1 ⟨x,H1,I1,rx,a,D,dx,fs,ex,ea,l,q⟩=>?_) ht
 subst ex
 obtain rfl:u=Value.ref a:=rx
 rcases q with ⟨rfl,q⟩|⟨rfl,q⟩
 ·refine getmeth_ok I1 ea c hm l ?_
  exact PySem.W.callWith_K0 (first:=[.ref a]) I1.kIn hm.kp (run_fn (us:=[.ref a]) (vs:=[.ref a]) F hr hb .nil pass0 I1 (.cons rfl .nil) q)
 ·refine getmeth_ok I1 ea c' hm' l ?_
  exact PySem.W.callWith_K0 (first:=[.ref a]) I1.kIn hm'.kp (run_fn (us:=[.ref a]) (vs:=[.ref a]) F' hr' hb' .nil pass0 I1 (.cons rfl .nil) q)
end
noncomputable def v17 (k:Nat):List Int:=[((k/289:Nat):Int) - 1,((k/17%17:Nat):Int) - 1,((k%17:Nat):Int) - 1]
def hm17 (k:Nat):Nat:=(hashT (v17 k)%115781).toNat
theorem hm17_ok:bitsOk hm17 4913 0=true:=by decide+kernel
theorem hash17 {i j:Nat}(hi:i<4913)(hj:j<4913)(e:hashT (v17 i)=hashT (v17 j)):i=j:=(bitsOk_of hm17_ok j hj).2 i hi (by unfold hm17;rw[e])
section
variable {prog:Program} {w:World} {A:Around} {R:Result→Shared→Prop} {I:Addr} {fp wr:List Addr} {G:Array GenState→Array GenState→Prop} {n:Nat} {P:Nat→Value→Prop} {St:Nat→Shared→Prop} {K:Type} [DecidableEq K]
end
section
variable {prog:Program} {w:World} {A:Around} {E:Value→Shared→Prop} {s:Shared} {K:Type} [DecidableEq K]
end
section
variable {X:Cx}
end
section
variable {X:Cx}
end
theorem owner_seti:Manifest.owners.lookup (String.ofList ['r','o','t','a','r','e','t','i','_','t','e','s'].reverse)=some Manifest.sig_set_iterator:=by kernel_rfl
theorem slot_seti_next:Slot "set_iterator" "__next__" "set_iterator.__next__" :=
 .of (owner:= "set_iterator") (n:= "__next__") (by rw[typeLookup_type,builtinLookup_eq_fast];kernel_rfl) (by decide+kernel) (by decide+kernel) (by decide+kernel)
  (by first|exact .inl (by decide+kernel)|exact .inr (by decide+kernel)) (by rw[isSubtype_type];kernel_rfl)
theorem slot_seti_iter:Slot "set_iterator" "__iter__" "set_iterator.__iter__" :=
 .of (owner:= "set_iterator") (n:= "__iter__") (by rw[typeLookup_type,builtinLookup_eq_fast];kernel_rfl) (by decide+kernel) (by decide+kernel) (by decide+kernel)
  (by first|exact .inl (by decide+kernel)|exact .inr (by decide+kernel)) (by rw[isSubtype_type];kernel_rfl)
theorem entry_seti_next:entryFor table "set_iterator.__next__" =some Builtin.«set_iterator.__next__»:=entryFor_of_tree (by kernel_rfl)
theorem entry_seti_iter:entryFor table "set_iterator.__iter__" =some Builtin.«dict_keyiterator.__iter__»:=entryFor_alias (id':= "dict_keyiterator.__iter__") (by kernel_rfl) rfl (by decide+kernel) (by kernel_rfl)
theorem entry_set_iter:entryFor table "set.__iter__" =some Builtin.«frozenset.__iter__»:=entryFor_alias (id':= "frozenset.__iter__") (by kernel_rfl) rfl (by decide+kernel) (by kernel_rfl)
theorem args_seti_next (a:Value):argsOk "set_iterator.__next__" ⟨[a],[]⟩:=by
 unfold argsOk;rw[signature?_of (id:= "set_iterator.__next__") (n:=['_','_','t','x','e','n','_','_']) (o:=['r','o','t','a','r','e','t','i','_','t','e','s']) (by kernel_rfl) owner_seti];kernel_rfl
theorem args_seti_iter (a:Value):argsOk "set_iterator.__iter__" ⟨[a],[]⟩:=by
 unfold argsOk;rw[signature?_of (id:= "set_iterator.__iter__") (n:=['_','_','r','e','t','i','_','_']) (o:=['r','o','t','a','r','e','t','i','_','t','e','s']) (by kernel_rfl) owner_seti];kernel_rfl
def IsSetI (h:Heap) (it d:Addr) (slot i n ep:Nat):Prop:=∃o,h.get? it=some o∧o.cls=.type "set_iterator" ∧o.data=.fields #[.int slot 0,.int i 0,.ref d,.int n 0,.int ep 0]
theorem IsSetI.at {h h':Heap}{it d:Addr}{sl i n ep:Nat}(x:IsSetI h it d sl i n ep)(k:∀o,h.get? it=some o→h'.get? it=some o):IsSetI h' it d sl i n ep:=let ⟨o,ho,r⟩:=x;⟨o,k _ ho,r⟩
theorem erase_perm {α:Type}:∀{l:List α} {i:Nat} (h:i<l.length),(l[i]::l.eraseIdx i).Perm l
 |_::_,0,_=> .refl _
 |a::r,i+1,h=>(List.Perm.swap _ _ _).trans ((erase_perm (l:=r) (i:=i) (Nat.lt_of_succ_lt_succ h)).cons a)
theorem pick_go {α:Type}(next:Nat→Nat):∀(n k:Nat) (left:List α) (out:Array α),left.length=n→(pickOrder.go next n k left out).toList.Perm (out.toList++left)
 |0,_,left,out,h=>by
  cases List.eq_nil_of_length_eq_zero h
  rw[List.append_nil];exact .refl _
 |n+1,k,left,out,h=>by
  have hlt:next k%left.length<left.length:=Nat.mod_lt _ (by omega)
  unfold pickOrder.go
  rw[List.getElem?_eq_getElem hlt]
  refine(pick_go next n (k+1) _ _ (by rw[List.length_eraseIdx_of_lt hlt];omega)).trans ?_
  rw[Array.toList_push,List.append_assoc]
  exact(erase_perm hlt).append_left _
theorem pickO_perm {α:Type}(next:Nat→Nat)(xs:Array α):(pickOrder next xs).toList.Perm xs.toList:=by
 have:=pick_go next xs.size 0 xs.toList #[] (by simp)
 simpa[pickOrder] using this
noncomputable def walkS (w:World) (d ep:Nat) (es:Array (Int×Value)):Array (Int×Value):=if w.params.followText "set-order" =true then pickOrder (w.params.setOrder d ep) es else es
theorem walk_perm (w:World)(d ep:Nat)(es:Array (Int×Value)):(walkS w d ep es).toList.Perm es.toList:=by
 unfold walkS;split
 ·exact pickO_perm _ _
 ·exact .refl _
theorem walk_size (w:World)(d ep:Nat)(es:Array (Int×Value)):(walkS w d ep es).size=es.size:=by
 have:=(walk_perm w d ep es).length_eq
 simpa using this
noncomputable def slotS (w:World) (t:SetTable):Nat→Nat
 |0=>0
 |i+1=>if w.params.followText "set-order" =true then 0 else t.place.getD i 0+1
structure SetG (w:World) (t:SetTable) (es:Array (Int×Value)):Prop where
 fits:t.fits es.size=true
 ris:TabB.Ris t.place
 size:es.size=t.place.size
 plain:t.plain=true
 led:w.params.followText "set-order" =false→t.led=true
section
variable {prog:Program} {w:World} {A:Around} {E:Value→Shared→Prop} {s:Shared} {d it:Addr} {o:Obj} {es:Array (Int×Value)} {ep i:Nat} {t:SetTable}
theorem wpAny_setEpoch {Q:Nat→Shared→Prop}(ho:s.heap.get? d=some o)(hd:o.data=.set es ep t)(hf:t.fits es.size=true)(h:Q ep s):wpAny (model prog w) A (setEpoch d) Q E s:=by
 unfold setEpoch
 exact wpAny_bind (wpAny_setState_of ho hd hf (wpAny_pure h))
theorem wpAny_byText {Q:Bool→Shared→Prop}(h:Q (w.params.followText "set-order") s):wpAny (model prog w) A setsByText Q E s:=by
 unfold setsByText
 exact wpAny_bind (wpAny_askSetting (wpAny_pure h))
theorem sg_iter {Q:Value→Shared→Prop}(ho:s.heap.get? d=some o)(hc:o.ExactSet)(hdat:o.data=.set es ep t)(G:SetG w t es)
  (hQ:Q (.ref s.heap.objs.size) {s with heap:=s.heap.push {cls:=.type "set_iterator",data:=.fields #[.int 0 0,.int 0 0,.ref d,.int es.size 0,.int ep 0]}}):wpAny (model prog w) A (pyIter (.ref d)) Q E s:=by
 have hT:s.TypeIs (.ref d) "set" :=⟨o,ho,hc.1⟩
 refine wpAny_pyIter_slot hT F.slot_set_iter (wpAny_call_entry F.slot_set_iter hT entry_set_iter ?_ (F.args_set_iter_1 _))
 unfold Builtin.«frozenset.__iter__» Builtin.Frozenset.slot0 slotArgs
 simp only[List.isEmpty_nil,Bool.not_true,Bool.false_eq_true,↓reduceIte,bind_assoc,List.length_nil,bne_self_eq_false]
 unfold Builtin.Frozenset.addrOf Builtin.Frozenset.sizeOf
 refine wpAny_bind (wpAny_pure ?_)
 try dsimp only
 refine wpAny_bind (wpAny_pure ?_)
 refine wpAny_bind (wpAny_bind (wpAny_setEntries_of ho hdat G.fits (wpAny_pure ?_)))
 refine wpAny_bind ?_
 unfold setDrawn
 refine wpAny_bind (wpAny_setState_of ho hdat G.fits (wpAny_bind (wpAny_byText (wpAny_pure ?_))))
 refine wpAny_ite_split (fun hab=>absurd (show(!w.params.followText "set-order" &&(!t.plain&&decide (es.size>1)))=true from hab) (by rw[G.plain];simp)) (fun _=>?_)
 refine wpAny_bind (wpAny_pure (wpAny_bind (wpAny_setEpoch ho hdat G.fits ?_)))
 unfold newFields
 refine wpAny_bind (wpAny_newObj_type (wpAny_pure ⟨_,rfl, "set_iterator",_,⟨_,Heap.get?_push_size _ rfl,rfl⟩,slot_seti_next.lookup,?_⟩))
 simpa[rawInt] using hQ
theorem wpAny_setWalk {Q:Array (Int×Value)→Shared→Prop}(ho:s.heap.get? d=some o)(hdat:o.data=.set es ep t)(G:SetG w t es)(hb:w.params.followText "set-order" =true)(h:Q (walkS w d ep es) s):wpAny (model prog w) A (setWalk d) Q E s:=by
 unfold setWalk
 refine wpAny_bind (wpAny_setState_of ho hdat G.fits (wpAny_bind (wpAny_byText ?_)))
 rw[hb]
 refine wpAny_bind (wpAny_askSetting (wpAny_pure ?_))
 unfold walkS at h
 rw[if_pos hb] at h
 exact h
theorem sg_setNext {Q:Option (Value×Nat)→Shared→Prop}(ho:s.heap.get? d=some o)(hdat:o.data=.set es ep t)(G:SetG w t es)(hi:i≤es.size)
  (h:Q (((walkS w d ep es)[i]?).map fun e=>(e.2,slotS w t (i+1))) s):wpAny (model prog w) A (setNext d (slotS w t i) i ep) Q E s:=by
 unfold setNext
 refine wpAny_bind (wpAny_setState_of ho hdat G.fits (wpAny_bind (wpAny_byText ?_)))
 by_cases hb:w.params.followText "set-order" =true
 ·refine wpAny_ite_split (fun _=>?_) (fun hab=>absurd hb hab)
  dsimp only
  refine wpAny_ite_split (fun hab=>absurd hab (by simp)) (fun _=>?_)
  refine wpAny_bind (wpAny_setWalk ho hdat G hb (wpAny_pure ?_))
  have e:slotS w t i=slotS w t (i+1):=by
   cases i with
   |zero=>show 0=if _ then _ else _;rw[if_pos hb]
   |succ i=>show(if _ then _ else _)=if _ then _ else _;rw[if_pos hb,if_pos hb]
  rw[e]
  exact h
 ·refine wpAny_ite_split (fun hab=>absurd hab hb) (fun _=>?_)
  dsimp only
  refine wpAny_ite_split (fun hab=>absurd (show(!t.plain&&decide (es.size>1))=true from hab) (by rw[G.plain];simp)) (fun _=>?_)
  refine wpAny_bind ?_
  show wpAny _ _ (if (!t.led&&!es.isEmpty)=true then unsupported "set:maker-not-led" else pure ()) _ _ _
  rw[G.led (Bool.eq_false_iff.mpr hb)]
  refine wpAny_ite_split (fun hab=>absurd hab (by simp)) (fun _=>wpAny_pure (wpAny_pure ?_))
  have hw:walkS w d ep es=es:=by unfold walkS;rw[if_neg hb]
  rw[hw] at h
  have eb:SetTable.below t.place (slotS w t i)=i:=by
   obtain⟨b1,b2,b3⟩:=TabB.below_ok G.ris (slotS w t i)
   have hs:=G.size
   cases i with
   |zero=>
    rcases Nat.eq_zero_or_pos (SetTable.below t.place (slotS w t 0)) with h0|h0
    ·exact h0
    ·have:=b2 0 t.place[0] h0 (Array.getElem?_eq_getElem (by omega))
     exact absurd this (Nat.not_lt_zero _)
   |succ i=>
    have hlt:i<t.place.size:=by omega
    have es1:slotS w t (i+1)=t.place[i]+1:=by
     show(if _ then _ else _)=_
     rw[if_neg hb,Array.getD_eq_getD_getElem?,Array.getElem?_eq_getElem hlt];rfl
    rw[es1] at b2 b3 b1⊢
    rcases Nat.lt_trichotomy (SetTable.below t.place (t.place[i]+1)) (i+1) with h1|h1|h1
    ·have:=b3 i t.place[i] (by omega) (Array.getElem?_eq_getElem hlt)
     omega
    ·exact h1
    ·have hlt2:i+1<t.place.size:=by omega
     have h2:=b2 (i+1) t.place[i+1] h1 (Array.getElem?_eq_getElem hlt2)
     have h3:=G.ris i (i+1) _ _ (Array.getElem?_eq_getElem hlt) (Array.getElem?_eq_getElem hlt2) (by omega)
     omega
  rw[eb]
  by_cases hlt:i<es.size
  ·have hlt2:i<t.place.size:=by have:=G.size;omega
   rw[Array.getElem?_eq_getElem hlt] at h⊢
   rw[Array.getElem?_eq_getElem hlt2]
   have es1:slotS w t (i+1)=t.place[i]+1:=by
    show(if _ then _ else _)=_
    rw[if_neg hb,Array.getD_eq_getD_getElem?,Array.getElem?_eq_getElem hlt2];rfl
   rw[es1] at h
   exact h
  ·rw[Array.getElem?_eq_none (by omega)] at h⊢
   exact h
theorem sg_next {Q:Option Value→Shared→Prop}(hit:IsSetI s.heap it d (slotS w t i) i es.size ep)(ho:s.heap.get? d=some o)(hdat:o.data=.set es ep t)(G:SetG w t es)(hne:d≠it){e:Int×Value}(he:(walkS w d ep es)[i]?=some e)
  (hQ:∀h',IsSetI h' it d (slotS w t (i+1)) (i+1) es.size ep→Heap.SameBut it s.heap h'→Q (some e.2) {s with heap:=h'}):wpAny (model prog w) A (pyNext (.ref it)) Q E s:=by
 obtain⟨oi,hoi,hci,hdi⟩:=id hit
 have hT:s.TypeIs (.ref it) "set_iterator" :=⟨oi,hoi,hci⟩
 have hi:i<es.size:=by
  have:=(Array.getElem?_eq_some_iff.mp he).1
  rwa [walk_size] at this
 unfold pyNext
 refine wpAny_bind (wpAny_attempt (wpAny_callSpecial?_slot (name:=Str.ofString "__next__") hT slot_seti_next
  (wpAny_call_entry slot_seti_next hT entry_seti_next ?_ (args_seti_next _))))
 unfold Builtin.«set_iterator.__next__» slotArgs
 simp only[List.isEmpty_nil,Bool.not_true,Bool.false_eq_true,↓reduceIte,bind_assoc,List.length_nil,bne_self_eq_false]
 refine wpAny_bind (wpAny_pure (wpAny_bind (wpAny_fieldsOf hoi hdi ?_)))
 dsimp only
 refine wpAny_bind (wpAny_setEntries_of ho hdat G.fits ?_)
 refine wpAny_ite_split (fun hab=>absurd hab (by simp)) (fun _=>?_)
 simp only[Int.toNat_natCast]
 refine wpAny_bind (sg_setNext ho hdat G (by omega) ?_)
 rw[he]
 show wpAny _ _ (setField (.ref it) 0 (rawInt ((slotS w t (i+1):Nat):Int))>>=_) _ _ s
 refine wpAny_bind (wpAny_setField hoi hdi (by simp) ?_)
 have o1:=Heap.get?_update_self (h:=s.heap) (Obj.mapFields (·.setIfInBounds 0 (rawInt ((slotS w t (i+1):Nat):Int)))) hoi (Obj.isFreed_of_fields (Obj.data_mapFields hdi _))
 have d1:=Obj.data_mapFields hdi (·.setIfInBounds 0 (rawInt ((slotS w t (i+1):Nat):Int)))
 refine wpAny_bind (wpAny_setField (s:={s with heap:=s.heap.update it (Obj.mapFields (·.setIfInBounds 0 (rawInt ((slotS w t (i+1):Nat):Int))))}) o1 d1 (by simp) ?_)
 refine wpAny_pure ⟨_,rfl,wpAny_pure (hQ _ ⟨_,Heap.get?_update_self _ o1 (Obj.isFreed_of_fields (Obj.data_mapFields d1 _)),(Obj.cls_mapFields ..).trans ((Obj.cls_mapFields ..).trans hci),by rw[Obj.data_mapFields d1];simp[rawInt]⟩ ?_)⟩
 exact⟨(Heap.SameBut.update ..).1.trans (Heap.SameBut.update ..).1,fun b hb=>((Heap.SameBut.update ..).2 b hb).trans ((Heap.SameBut.update ..).2 b hb)⟩
theorem sg_end {Q:Option Value→Shared→Prop}(hh:A.handled=none)(hit:IsSetI s.heap it d (slotS w t es.size) es.size es.size ep)(ho:s.heap.get? d=some o)(hdat:o.data=.set es ep t)(G:SetG w t es)(hne:d≠it)
  (hQ:∀h',Heap.ExtBut it s.heap h'→Q none {s with heap:=h'}):wpAny (model prog w) A (pyNext (.ref it)) Q E s:=by
 obtain⟨oi,hoi,hci,hdi⟩:=id hit
 have hT:s.TypeIs (.ref it) "set_iterator" :=⟨oi,hoi,hci⟩
 have he:(walkS w d ep es)[es.size]?=none:=Array.getElem?_eq_none (by rw[walk_size];exact Nat.le_refl _)
 unfold pyNext
 refine wpAny_bind (wpAny_attempt (wpAny_callSpecial?_slot (name:=Str.ofString "__next__") hT slot_seti_next
  (wpAny_call_entry slot_seti_next hT entry_seti_next ?_ (args_seti_next _))))
 unfold Builtin.«set_iterator.__next__» slotArgs
 simp only[List.isEmpty_nil,Bool.not_true,Bool.false_eq_true,↓reduceIte,bind_assoc,List.length_nil,bne_self_eq_false]
 refine wpAny_bind (wpAny_pure (wpAny_bind (wpAny_fieldsOf hoi hdi ?_)))
 dsimp only
 refine wpAny_bind (wpAny_setEntries_of ho hdat G.fits ?_)
 refine wpAny_ite_split (fun hab=>absurd hab (by simp)) (fun _=>?_)
 simp only[Int.toNat_natCast]
 refine wpAny_bind (sg_setNext ho hdat G (Nat.le_refl _) ?_)
 rw[he]
 show wpAny _ _ (setField (.ref it) 2 .none>>=_) _ _ s
 refine wpAny_bind (wpAny_setField hoi hdi (by simp) ?_)
 show wpAny _ _ (newExc (.type "StopIteration") []>>=_) _ _ _
 refine wpAny_bind ?_
 simp only[newExc,newTuple]
 refine wpAny_bind (wpAny_newObj_type ?_ (by size_fits))
 refine wpAny_bind (m:=firstArgMember _ _) (wpAny_of_eq (a:=Value.none) (by first|rfl|(simp only[firstArgMember];rfl)) (wpAny_newObj_type ?_ (by size_fits)))
 simp only[raiseNew]
 refine wpAny_bind (wpAny_handled ?_)
 rw[show A.in1.handled=none from hh]
 refine wpAny_bind (wpAny_pure (wpAny_throw ?_))
 refine wpAny_bind (wpAny_isInstance (T:= "StopIteration") (b:=true) ⟨_,Heap.get?_push_size _ rfl,rfl⟩ isSubtype_stop ?_)
 exact wpAny_pure (hQ _ (((Heap.SameBut.update ..).extBut.push _).push _))
theorem sg_self {sl n:Nat}{Q:Value→Shared→Prop}(hit:IsSetI s.heap it d sl i n ep)(h:Q (.ref it) s):wpAny (model prog w) A (pyIter (.ref it)) Q E s:=by
 obtain⟨oi,hoi,hci,hdi⟩:=id hit
 have hT:s.TypeIs (.ref it) "set_iterator" :=⟨oi,hoi,hci⟩
 refine wpAny_pyIter_slot hT slot_seti_iter (wpAny_call_entry slot_seti_iter hT entry_seti_iter ?_ (args_seti_iter _))
 show wpAny _ _ (ret (.ref it)) _ _ s
 exact wpAny_pure ⟨_,rfl, "set_iterator",_,hT,slot_seti_next.lookup,h⟩
theorem sg_hint {Q:Bool→Shared→Prop}(hT:s.TypeIs (.ref d) "set")(h:Q false s):wpAny (model prog w) A (Builtin.List.listLengthHint (.ref d)) Q E s:=by
 unfold Builtin.List.listLengthHint
 refine wpAny_bind (wpAny_specialOf hT PySem.F.slot_set_len.lookup ?_)
 generalize hid:("set.__len__" :String)=id0
 wp_delta
 rw[show splitId id0=some ("set", "__len__") from by subst hid;decide+kernel]
 subst hid
 refine wpAny_bind (wpAny_isInstance (T:= "set") (b:=true) hT (by rw[isSubtype_type];kernel_rfl) ?_)
 refine wpAny_ite_split (fun hab=>absurd hab (by decide)) (fun _=>?_)
 refine wpAny_ite_split (fun _=>?_) (fun hab=>absurd (by decide+kernel) hab)
 refine wpAny_bind (wpAny_typeOf hT ?_)
 exact wpAny_pure h
end
theorem sg_src {prog:Program}{w:World}{d:Addr}{es:Array (Int×Value)}{ep:Nat}{t:SetTable}(G:SetG w t es):PySem.W.KdlSrc prog w "set" d d es.size (fun i v=>∃e,(walkS w d ep es)[i]?=some e∧v=e.2) (fun h=>∃o,h.get? d=some o∧o.ExactSet∧o.data=.set es ep t) where
 type:=fun _ ⟨o,ho,hc,_⟩=>⟨o,ho,hc.1⟩
 there:=fun _ ⟨o,ho,_⟩=>⟨Heap.lt_size ho,Heap.lt_size ho⟩
 keep:=fun _ _ ⟨o,ho,x⟩ hk=>⟨o,hk d (.inl rfl) o ho,x⟩
 notList:=by decide
 notTuple:=by decide
 hint:=fun _ _ _ _ ⟨o,ho,hc,_⟩ hq=>sg_hint ⟨o,ho,hc.1⟩ hq
 iter:=fun A s hh ⟨o,ho,hc,hdat⟩=>⟨_,fun i h=>IsSetI h s.heap.objs.size d (slotS w t i) i es.size ep∧∃o,h.get? d=some o∧o.data=.set es ep t,(fun _ _ hq=>sg_iter ho hc hdat G hq),{
   sub:=fun b hb=>by simp at hb;simp[hb]
   frame:=fun _ _ _ ⟨st,o,h1,h2⟩ hk=>⟨st.at fun o e=>hk _ (by simp) o e,o,hk d (by simp) o h1,h2⟩
   item:=fun i s' Q E hi ⟨st,o,h1,h2⟩ hQ=>by
    have hlt:i<(walkS w d ep es).size:=by rw[walk_size];exact hi
    have he:=Array.getElem?_eq_getElem hlt
    exact sg_next st h1 h2 G (Nat.ne_of_lt (Heap.lt_size ho)) he fun h' st' sb=>hQ _ h' s'.toks ⟨_,he,rfl⟩ ⟨st',o,(sb.2 d (Nat.ne_of_lt (Heap.lt_size ho))).trans h1,h2⟩ fun b o hb e=>(sb.2 b (fun z=>hb (by simp[z]))).trans e
   done:=fun s' Q E ⟨st,o,h1,h2⟩ hQ=>sg_end hh st h1 h2 G (Nat.ne_of_lt (Heap.lt_size ho)) fun h' eb=>hQ h' s'.toks fun b o hb e=>eb b o (fun z=>hb (by simp[z])) e
   self:=fun i s' Q E ⟨st,_⟩ hQ=>sg_self st hQ},⟨⟨_,Heap.get?_push_size _ rfl,rfl,rfl⟩,o,Heap.get?_push_of_some _ ho,hdat⟩⟩
theorem add_keeps {t t':SetTable}{es es':Array (Int×Value)}{h:Int}{x:Value}(e:addT2 t es h x=some (t',es')):t'.plain=t.plain∧t'.led=t.led:=by
 unfold addT2 at e
 split at e
 ·cases e
 split at e
 ·rename_i j _
  split at e
  ·split at e
   ·split at e
    ·rename_i t2 order hr
     split at e
     ·cases e
      unfold SetTable.relaid SetTable.laid at hr
      cases hl:SetTable.layClean (SetTable.sizeAbove (SetTable.grown (es.size+1)) - 1) ((SetTable.insertAt es (t.put j).2 (h,x)).map (·.1)) with
      |none=>rw[hl] at hr;cases hr
      |some ow=>
       rw[hl] at hr
       cases hr
       exact⟨rfl,rfl⟩
     ·cases e
    ·cases e
   ·cases e
    exact⟨rfl,rfl⟩
  ·cases e
 ·cases e
def SetAt2 (led:Bool) (hash:List Int→Int) (key:Nat→List Int) (ad:Nat→Addr) (i:Nat) (h:Heap) (S:Addr):Prop:=∃(o:Obj) (ep:Nat) (es:Array (Int×Value)) (t:SetTable) (c:List (Int×Value)),h.get? S=some o∧o.ExactSet∧o.data=.set es ep t∧TabB.SB t es c∧
 (∀e∈es.toList,∃j,j<i∧e=(hash (key j),Value.ref (ad j)))∧(∀j,j<i→∃e∈es.toList,e.1=hash (key j))∧es.size≤i∧t.plain=true∧t.led=led
section
variable {prog:Program} {w:World} {A:Around} {R:Result→Shared→Prop} {I:Addr} {fp wr:List Addr} {G:Array GenState→Array GenState→Prop} {n:Nat} {P:Nat→Value→Prop} {led:Bool} {St:Nat→Shared→Prop}
theorem loop_set2 (W:WalksS prog w A.in1 I fp wr G n P St)(S:Addr)(hSf:S∉fp)(knd:HeapKind prog w (List Int))(hroom:knd.room A.in1)(his:∀h k b,ITup h k b→knd.is h k b)(ad:Nat→Addr)(key:Nat→List Int)(hval:∀i v,P i v→v=.ref (ad i))
  (had:∀i,i<n→ad i≠S∧ad i∉wr) (hinj:∀i j,i<n→j<n→knd.hash (key i)=knd.hash (key j)→key i=key j) (hn:n≤74):
  ∀(k i:Nat) (s:Shared),n - i=k→i≤n→St i s→(∀j,j<n→ITup s.heap (key j) (ad j))→SetAt2 led knd.hash key ad i s.heap S→
   (∀s',Moved (S::wr) G s s'→SetAt2 led knd.hash key ad n s'.heap S→R (.ok (.ret .none)) s')→
   codeAny (model prog w) A (.builtin "set.update.loop" ⟨[.ref S,.ref I],[]⟩) R s:=by
 have hSw:S∉wr:=fun h=>hSf (W.sub _ h)
 have more:∀b∈wr,b∈S::wr:=fun b hb=>List.mem_cons_of_mem _ hb
 have it_kept:∀{h h':Heap} {k b},ITup h k b→(∀o,h.get? b=some o→h'.get? b=some o)→ITup h' k b:=fun⟨o,its,c,h1,h2⟩ f=>⟨o,its,c,f o h1,h2⟩
 intro k
 induction k with
 |zero=>
  intro i s hk hi hst ht hS hR
  obtain rfl:i=n:=by omega
  refine codeAny_builtin F.entry_set_update_loop ?_
  rw[Around.under_plainId F.plain_set_update_loop _]
  show wpAny _ A.in1 (pyNext (.ref I)>>=_) _ _ s
  refine wpAny_bind (W.done s _ _ hst fun s' hm=>wpAny_pure (hR s' (hm.mono more) ?_))
  obtain⟨o,ep,es,t,c,h1,h2⟩:=hS
  exact⟨o,ep,es,t,c,hm.heap S _ hSw h1,h2⟩
 |succ k ih=>
  intro i s hk hi hst ht hS hR
  have hlt:i<n:=by omega
  refine codeAny_builtin F.entry_set_update_loop ?_
  rw[Around.under_plainId F.plain_set_update_loop _]
  show wpAny _ A.in1 (pyNext (.ref I)>>=_) _ _ s
  refine wpAny_bind (W.item i s _ _ hlt hst fun v s' hP hst' hm=>?_)
  obtain rfl:=hval i v hP
  obtain⟨o,ep,es,t,cc,h1,h2,h3,SBt,cov⟩:=hS
  have ht':∀j,j<n→ITup s'.heap (key j) (ad j):=fun j hj=>it_kept (ht j hj) fun o q=>hm.heap _ o (had j hj).2 q
  obtain⟨ob,its,c,g1,g2,g3,g4⟩:=id (ht' i hlt)
  show wpAny _ A.in1 (holding [Value.ref (ad i)] (setAdd S (.ref (ad i)))>>=_) _ _ s'
  refine wpAny_bind (wpAny_holding ?_)
  by_cases hin:∃e∈es.toList,e.1=knd.hash (key i)
  ·obtain⟨e,he,eh⟩:=hin
   obtain⟨j,hj,rfl⟩:=cov.1 e he
   have hk':key j=key i:=hinj j i (by omega) hlt eh
   refine setAdd_there (knd:=knd) (s:=s') his (b':=ad j) hroom (ht' i hlt) (hk'▸ht' j (by omega)) (hm.heap S _ hSw h1) h3 SBt (by rw[←eh];exact he) (fun e he=>by
    obtain⟨j,hj,rfl⟩:=cov.1 e he
    exact⟨key j,ad j,rfl,ht' j (by omega)⟩) ?_
   refine wpAny_pure ⟨plainId_quiet F.plain_set_update_loop _,ih (i+1) _ (by omega) hlt (W.frame _ s' _ _ hst' (Nat.le_add_right _ _) fun b hb o e=>e) ht' ⟨o,ep,es,t,cc,hm.heap S _ hSw h1,h2,h3,SBt,⟨fun e he=>?_,fun q hq=>?_,by have:=cov.2.2.1;omega,cov.2.2.2⟩⟩ fun s'' hm'' hS''=>?_⟩
   ·obtain⟨j',hj',e'⟩:=cov.1 e he
    exact⟨j',by omega,e'⟩
   ·by_cases z:q=i
    ·exact⟨_,he,by rw[z];exact eh⟩
    ·exact cov.2.1 q (by omega)
   ·exact hR s'' (Moved.trans W.gtrans ((hm.mono more).then_heap (Nat.le_add_right _ _) fun b o hb e=>e) hm'') hS''
  have hsz:=cov.2.2.1
  obtain⟨t',es',ea,SB',sz'⟩:=SBt.add (h:=knd.hash (key i)) (x:=.ref (ad i)) (by omega) (fun e he z=>hin ⟨e,he,z⟩)
  refine setAdd_free2 (knd:=knd) (s:=s') hroom (his _ _ _ (ht' i hlt)) (hm.heap S _ hSw h1) h3 SBt.fits (by omega) (by omega) (fun tk Q' q=>hbv_ints (s:={s' with toks:=tk}) g1 g2 g3 (fun v hv=>?_) q) ea (grown_ok _ (by omega)) fun h' ep' sb hg=>?_
  ·exact g4.allInts v (by simpa using hv)
  ·refine wpAny_pure ⟨plainId_quiet F.plain_set_update_loop _,ih (i+1) _ (by omega) hlt (W.frame _ s' _ _ hst' (Nat.le_add_right _ _) fun b hb o e=>?_) (fun j hj=>it_kept (ht' j hj) fun o q=>?_) ⟨_,_,_,_,_,hg,h2,rfl,SB',⟨fun e he=>?_,fun q hq=>?_,by omega,(add_keeps ea).1.trans cov.2.2.2.1,(add_keeps ea).2.trans cov.2.2.2.2⟩⟩ fun s'' hm'' hS''=>?_⟩
   ·rw[sb.2 b (fun z=>hSf (z▸hb))];exact e
   ·rw[sb.2 _ (had j hj).1];exact q
   ·rcases List.mem_cons.mp ((SB'.me e).mp he) with rfl|he
    ·exact⟨i,by omega,rfl⟩
    ·obtain⟨j',hj',e'⟩:=cov.1 e ((SBt.me e).mpr he)
     exact⟨j',by omega,e'⟩
   ·by_cases z:q=i
    ·exact⟨_,(SB'.me _).mpr List.mem_cons_self,by rw[z]⟩
    ·obtain⟨e,he,e'⟩:=cov.2.1 q (by omega)
     exact⟨e,(SB'.me _).mpr (List.mem_cons_of_mem _ ((SBt.me e).mp he)),e'⟩
   ·refine hR s'' (Moved.trans W.gtrans ((hm.mono more).then_heap (Nat.le_add_right _ _) fun b o hb e=>?_) hm'') hS''
    rw[sb.2 b (fun z=>hb (by rw[z];exact List.mem_cons_self))];exact e
end
theorem code_set_newB {prog:Program}{w:World}{A:Around}{E:Value→Shared→Prop}{s:Shared}(a:Value){Q₁:Value→Shared→Prop}
  (h:Q₁ (.ref s.heap.objs.size) {s with heap:=s.heap.push {cls:=.type "set",dict:=none,data:=.set #[] 0 (.fresh 0 0 (!w.params.followText "set-order"))}}):
  codeAny (model prog w) A (.call (.builtin "set.__new__") ⟨[.type "set",a],[]⟩) (wants Q₁ E) s:=by
 refine codeAny_of_tree ?_
 show wpAny _ A.in1 (do checkBuiltinCall "set.__new__" ⟨[.type "set",a],[]⟩;again (.builtin "set.__new__" ⟨[.type "set",a],[]⟩)) _ _ s
 refine wpAny_bind (wpAny_of_eq (F.newCall_set_1 a) (wpAny_pure ⟨plainId_quiet F.plain_set_new _,codeAny_builtin F.entry_set_new ?_⟩))
 rw[Around.under_plainId F.plain_set_new _]
 unfold Builtin.«set.__new__» Builtin.Frozenset.newClass
 have hsub:=sub_set_self
 obtain⟨hp,g,d,tk,os⟩:=s
 dsimp only
 wp_walk
 refine wpAny_askSetting (wpAny_pure ?_)
 dsimp only
 simp only[newObj]
 refine wpAny_bind (wpAny_alloc (wpAny_pure ?_))
 exact wpAny_pure h
set_option maxHeartbeats 3200000 in
theorem call_set_tups4 {prog:Program}{w:World}{A:Around}{E:Value→Shared→Prop}{s:Shared}{l:Addr}{as:List Addr}{Q:Value→Shared→Prop}(hh:A.handled=none)(hl:s.heap.IsList l (as.map Value.ref).toArray)
  (knd:HeapKind prog w (List Int)) (hroom:knd.room A.in1.in1.in1) (his:∀h k b,ITup h k b→knd.is h k b) (key:Nat→List Int) (htup:∀j,j<as.length→ITup s.heap (key j) (as.getD j 0))
  (hinj:∀i j,i<as.length→j<as.length→knd.hash (key i)=knd.hash (key j)→key i=key j) (hn:as.length≤74)
  (h:∀(h':Heap) (tk:Nat),SetAt2 (!w.params.followText "set-order") knd.hash key (fun i=>as.getD i 0) as.length h' s.heap.objs.size→(∀b o,b<s.heap.objs.size→s.heap.get? b=some o→h'.get? b=some o)→
   Q (.ref s.heap.objs.size) {s with heap:=h',toks:=tk}):wpAny (model prog w) A (call (.type "set") [.ref l]) Q E s:=by
 obtain⟨c0,tl0,hmro⟩:=F.called_set.mro
 have made:=F.called_set.made
 have sub:=F.called_set.sub
 have nt:=F.called_set.notType
 have cc:=F.called_set.canCreate
 have ck:=F.typeCall_set_1 (.ref l)
 refine wpAny_call (codeAny_of_tree ?_)
 show wpAny _ _ (callAny (.type "set") ⟨[.ref l],[]⟩) _ _ _
 refine wpAny_pure ⟨Code.quiet_builtin _ (by decide+kernel),codeAny_builtin F.entry_type_call ?_⟩
 rw[Around.under_plain (weight_type_call_type "set" [.ref l] []) rfl]
 repeat (any_goals (first|assumption|wp_step))
 refine codeAny_mono (code_set_newB (.ref l) (E:=E) (Q₁:=fun v s₁=>∃led:Bool,led=(!w.params.followText "set-order")∧v=.ref s.heap.objs.size∧s₁={s with heap:=s.heap.push (set0 led)}) ⟨_,rfl,rfl,rfl⟩) fun r s₁ hr=>?_
 match r,hr with
 | .error e,hr=>exact hr
 | .ok (.ret v),⟨led,eled,ev,es⟩=>
  subst ev es
  have hS:(s.heap.push (set0 led)).get? s.heap.objs.size=some (set0 led):=Heap.get?_push_size _ rfl
  have hT:Shared.TypeIs {s with heap:=s.heap.push (set0 led)} (.ref s.heap.objs.size) "set" :=⟨_,hS,rfl⟩
  have li:=F.called_set.init.lookup
  have bi:=F.called_set.init.bind (.ref s.heap.objs.size)
  repeat (any_goals (first|assumption|wp_step))
  refine codeAny_mono (codeAny_call_builtin (R:=wants (fun r s₂=>r=.none∧∃h' tk,s₂={s with heap:=h',toks:=tk}∧SetAt2 led knd.hash key (fun i=>as.getD i 0) as.length h' s.heap.objs.size∧
   ∀b o,b<s.heap.objs.size→s.heap.get? b=some o→h'.get? b=some o) E) F.called_set.init.plain F.entry_set_init (check_set_init_1 hT ?_)) fun r₂ s₂ hr₂=>?_
  ·have lt:l<s.heap.objs.size:=by obtain⟨o,ho,_⟩:=hl;exact Heap.lt_size ho
   obtain⟨⟨oc,od,odt,osl⟩,hol,hcl,nl,hdl⟩:=id hl
   simp only at hcl hdl
   subst hcl hdl
   have hol':(s.heap.push (set0 led)).get? l=some ⟨.type "list",od,.seq (as.map Value.ref).toArray nl,osl⟩:=Heap.get?_push_of_some _ hol
   have n1:=F.sub_list_set
   have n2:=F.sub_list_frozenset
   have n3:(Value.type "list" ==Value.type "dict")=false:=by decide
   have hl1:(s.heap.push (set0 led)).IsList l (as.map Value.ref).toArray:=⟨_,hol',rfl,nl,rfl⟩
   unfold Builtin.«set.__init__» noKeywords Builtin.Frozenset.updateFrom
   generalize ePI:pyIter=PI
   wp_walk
   subst ePI
   refine wpAny_pyIter_list hl1 (wpAny_bind (wpAny_runValue ?_))
   have sz1:(s.heap.push (set0 led)).objs.size=s.heap.objs.size+1:=Heap.size_push ..
   have hd3:A.in1.in1.in1.handled=none:=by simp[hh]
   have neI:l≠(s.heap.push (set0 led)).objs.size:=by rw[sz1];exact Nat.ne_of_lt (Nat.lt_succ_of_lt lt)
   have nS:s.heap.objs.size∉[(s.heap.push (set0 led)).objs.size,l]:=by
    rw[sz1]
    intro z
    rcases List.mem_cons.mp z with z|z
    ·exact absurd z (Nat.ne_of_lt (Nat.lt_succ_self _))
    ·exact absurd (List.mem_singleton.mp z) (Nat.ne_of_gt lt)
   have hld:∀j,j<as.length→as.getD j 0<s.heap.objs.size:=fun j hj=>by obtain⟨o,_,_,h1,_⟩:=htup j hj;exact Heap.lt_size h1
   refine loop_set2 (led:=led) ((Walks.list hd3 _ l neI (as.map Value.ref).toArray).toS) s.heap.objs.size nS knd hroom his (fun i=>as.getD i 0) key (fun i v hv=>?_) (fun i hi=>?_) (fun i j hi hj=>hinj i j (by simpa using hi) (by simpa using hj)) (by simpa using hn)
    ((as.map Value.ref).toArray.size - 0) 0 _ (by omega) (Nat.zero_le _) ⟨⟨_,Heap.get?_push_size _ rfl,rfl,rfl⟩,(hl1.push _)⟩ (fun j hj=>?_) ?_ fun s' hm hS'=>?_
   ·have hv':(as.map Value.ref).toArray[i]?=some v:=hv
    rw[List.getElem?_toArray,List.getElem?_map] at hv'
    obtain⟨x,hx,rfl⟩:=Option.map_eq_some_iff.mp hv'
    show _=Value.ref (as.getD i 0)
    rw[List.getD_eq_getElem?_getD,hx];rfl
   ·have hi':i<as.length:=by simpa using hi
    have:=hld i hi'
    refine⟨Nat.ne_of_lt this,fun z=>?_⟩
    have z':=List.mem_singleton.mp z
    rw[sz1] at z'
    exact absurd z' (Nat.ne_of_lt (Nat.lt_succ_of_lt this))
   ·obtain⟨o,its,c,q1,q2⟩:=htup j (by simpa using hj)
    exact⟨o,its,c,Heap.get?_push_of_some _ (Heap.get?_push_of_some _ q1),q2⟩
   ·exact⟨_,0,#[],.fresh 0 0 led,[],Heap.get?_push_of_some _ hS,⟨rfl,rfl,rfl⟩,rfl,TabB.SB.nil led,(fun e he=>by simp at he),(fun j hj=>absurd hj (Nat.not_lt_zero _)),Nat.zero_le _,rfl,rfl⟩
   ·obtain⟨h',g',d',tk',os'⟩:=s'
    obtain rfl:g'=s.gens:=hm.gens
    obtain rfl:d'=s.drawn:=hm.drawn
    obtain rfl:os'=s.os:=hm.os
    refine wpAny_pure ?_
    show wpAny _ _ (ret Value.none) _ _ _
    refine wpAny_pure ⟨rfl,h',tk',rfl,by simpa using hS',fun b o hb e=>hm.heap b o (fun z=>?_) (Heap.get?_push_of_some _ (Heap.get?_push_of_some _ e))⟩
    rcases List.mem_cons.mp z with z|z
    ·exact absurd z (Nat.ne_of_lt hb)
    ·have z':=List.mem_singleton.mp z
     rw[sz1] at z'
     exact absurd z' (Nat.ne_of_lt (Nat.lt_succ_of_lt hb))
  ·match r₂,hr₂ with
   | .error e,z=>exact z
   | .ok (.ret v),⟨e1,h',tk,e2,z1,z2⟩=>
    subst e1 e2
    repeat (any_goals (first|assumption|wp_step))
    exact h h' tk (eled▸z1) z2
   | .ok .next,z=>exact z.elim
   | .ok .brk,z=>exact z.elim
   | .ok .cont,z=>exact z.elim
 | .ok .next,hr=>exact hr.elim
 | .ok .brk,hr=>exact hr.elim
 | .ok .cont,hr=>exact hr.elim
noncomputable def stM (b:Bool) (p:Addr) (as:List Addr):HO:=.ext fun h=>∃o es ep t,h.get? p=some o∧o.ExactSet∧o.data=.set es ep t∧SetTable.fits t es.size=true∧TabB.Ris t.place∧es.size=t.place.size∧t.plain=true∧(b=false→t.led=true)∧es.toList.map (·.2)=as.map Value.ref
theorem pick_es {H:Hp}{as:List Addr}{cs:List (List Int)}(ht:Tups H as cs):∀L:List (Int×Value),(∀e∈L,∃j,j<as.length∧e=(hashT (cs.getD j []),Value.ref (as.getD j 0)))→∃(bs:List Addr) (ds:List (List Int)),L.map (·.2)=bs.map Value.ref∧L.map (·.1)=ds.map hashT∧Tups H bs ds∧∀d∈ds,d∈cs
 |[],_=>⟨[],[],rfl,rfl,.nil,fun _ h=>nomatch h⟩
 |e::L,h=>by
  obtain⟨bs,ds,h1,h2,h3,h4⟩:=pick_es ht L fun e he=>h e (List.mem_cons_of_mem _ he)
  obtain⟨j,hj,rfl⟩:=h e List.mem_cons_self
  obtain⟨c,e1,e2⟩:=ht.at (i:=j) (a:=as.getD j 0) (by rw[List.getD_eq_getElem?_getD,List.getElem?_eq_getElem hj];rfl)
  have ec:cs.getD j []=c:=by rw[List.getD_eq_getElem?_getD,e1];rfl
  refine⟨as.getD j 0::bs,c::ds,?_,?_,.cons e2 h3,fun d hd=>?_⟩
  ·rw[List.map_cons,List.map_cons,h1]
  ·rw[List.map_cons,List.map_cons,h2,ec]
  ·rcases List.mem_cons.mp hd with rfl|hd
   ·exact List.mem_of_getElem? e1
   ·exact h4 d hd
theorem call_setM {X:Cx}(hc:X.calm=true){k:Nat}(hr:Room k X.A):CallR X (.type "set") (fun xs H Q=>∃(l:Addr) (as:List Addr) (cs:List (List Int)),xs=[.ref l]∧SqL X.K H l (as.map V.ref)∧Tups H as cs∧cs.length≤74∧(∀c∈cs,∀d∈cs,hashT c=hashT d→c=d)∧
  ∀b p bs ds,H p=none→Tups H bs ds→ds.Nodup→(∀c,c∈ds↔c∈cs)→ds.length≤74→b=X.w.params.followText "set-order" →Q (.ref p) (upd H p (stM b p bs))):=by
 intro pins s σ H xs us Q I r h
 obtain⟨l,as,cs,rfl,hl,ht,hcl,hok,q⟩:=h
 obtain⟨u,rfl,ru⟩:=vals1 r
 cases ru
 obtain⟨its,rv,pl,hz⟩:=I.list hl
 obtain rfl:=vals_refs rv
 have hu:=hr.units
 have len:as.length=cs.length:=Paired.length ht
 have gd:∀{j:Nat} (hj:j<cs.length),cs.getD j []=cs[j]:=fun{j} hj=>by rw[List.getD_eq_getElem?_getD,List.getElem?_eq_getElem hj];rfl
 have hat:∀j,j<as.length→ITup s.heap (cs.getD j []) (as.getD j 0):=fun j hj=>by
  obtain⟨c,h1,h2⟩:=ht.at (i:=j) (a:=as.getD j 0) (by rw[List.getD_eq_getElem?_getD,List.getElem?_eq_getElem hj];rfl)
  rw[List.getD_eq_getElem?_getD,h1]
  exact tup_itup I.hok h2
 refine call_set_tups4 (I.ok.hd hc) pl.isList (tupleKind (intKind X.prog X.w)) (show X.A.units+1+1+1<cLine by omega) (fun h k b t=>itup_is t) (fun i=>cs.getD i []) hat (fun i j hi hj e=>?_) (by omega) fun h' tk hS hk=>?_
 ·rw[gd (by omega),gd (by omega)] at e⊢
  exact hok _ (List.getElem_mem _) _ (List.getElem_mem _) e
 obtain⟨o,ep,es,t,c,h1,h2,h3,SBt,c1,c2,c3,c4,c5⟩:=hS
 obtain⟨bs,ds,b1,b2,b3,b4⟩:=pick_es ht es.toList c1
 have nds:ds.Nodup:=by
  have:=SBt.nd
  rw[b2] at this
  exact List.Pairwise.of_map hashT (fun a b hne e=>hne (by rw[e])) this
 have hz2:ds.length=es.size:=by
  have:=congrArg List.length b2
  simpa using this.symm
 refine⟨.ref s.heap.objs.size,_,I.laid (a:=s.heap.objs.size) (o:=stM (X.w.params.followText "set-order") s.heap.objs.size bs) (t':=tk) (fun b u e=>hk b u (Heap.lt_size e) e) (Nat.le_refl _) ⟨⟨o,es,ep,t,h1,h2,h3,SBt.fits,SBt.ri,SBt.sz,c4,fun hb=>by rw[c5,hb];rfl,b1⟩,⟨o,h1⟩,?_⟩,rfl,q _ _ bs ds (I.hok.fresh (Nat.le_refl _)) b3 nds (fun x=>⟨b4 x,fun hx=>?_⟩) (by omega) rfl⟩
 ·rintro g1 g2 ⟨o',es,ep',t,e1,e2⟩ k'
  exact⟨o',es,ep',t,k' _ e1,e2⟩
 ·obtain⟨j,hj,e⟩:=List.mem_iff_getElem.mp hx
  obtain⟨e',he',q'⟩:=c2 j (by omega)
  have hm:e'.1∈ds.map hashT:=by rw[←b2];exact List.mem_map.mpr ⟨e',he',rfl⟩
  obtain⟨d,hd,ed⟩:=List.mem_map.mp hm
  have:hashT d=hashT x:=by
   rw[ed,q']
   show hashT (cs.getD j [])=hashT x
   rw[gd hj,e]
  rw[←hok d (b4 d hd) x hx this]
  exact hd
theorem call_lenM {X:Cx}:CallR X (.builtin "len") (fun xs H Q=>∃b a bs,xs=[V.ref a]∧H a=some (stM b a bs)∧bs.length<1000∧Q (.int (bs.length:Nat)) H):=by
 intro pins s σ H xs us Q I r h
 obtain⟨b,a,bs,rfl,ha,hn,q⟩:=h
 obtain⟨u,rfl,ru⟩:=vals1 r
 cases ru
 obtain⟨⟨o,es,ep,t,h1,h2,h3,h4,_,_,_,_,h5⟩,_⟩:=I.hok a _ ha
 have hz:es.size=bs.length:=by
  have:=congrArg List.length h5
  simpa using this
 exact call_len_set h1 h2 h3 h4 (by omega) ⟨.int es.size,H,I.tok _,⟨_,rfl⟩,by rw[hz];exact q⟩
theorem perm_refs:∀{as:List Addr} {vs:List Value},vs.Perm (as.map Value.ref)→∃bs:List Addr,vs=bs.map Value.ref∧bs.Perm as:=by
 intro as vs h
 have all:∀v∈vs,∃b,v=Value.ref b:=fun v hv=>by
  obtain⟨b,_,rfl⟩:=List.mem_map.mp (h.mem_iff.mp hv)
  exact⟨b,rfl⟩
 have ex:∃bs:List Addr,vs=bs.map Value.ref:=by
  clear h
  induction vs with
  |nil=>exact⟨[],rfl⟩
  |cons v r ih=>
   obtain⟨b,rfl⟩:=all v List.mem_cons_self
   obtain⟨bs,e⟩:=ih fun x hx=>all x (List.mem_cons_of_mem _ hx)
   exact⟨b::bs,by rw[e];rfl⟩
 obtain⟨bs,rfl⟩:=ex
 have:=h.map (fun v=>match v with| .ref b=>b|_=>0)
 rw[List.map_map,List.map_map] at this
 have e:∀l:List Addr,l.map ((fun v:Value=>match v with| .ref b=>b|_=>0)∘Value.ref)=l:=fun l=>by
  induction l with
  |nil=>rfl
  |cons a r ih=>rw[List.map_cons,ih];rfl
 rw[e,e] at this
 exact⟨bs,rfl,this⟩
theorem tups_perm {H:Hp}:∀{as bs:List Addr},bs.Perm as→∀{cs:List (List Int)},Tups H as cs→∃ds,Tups H bs ds∧ds.Perm cs:=by
 intro as bs h
 induction h with
 |nil=>intro cs t;cases t;exact⟨[],.nil,.refl _⟩
 |cons x _ ih=>
  intro cs t
  cases t with
  |cons r t=>
   obtain⟨ds,h1,h2⟩:=ih t
   exact⟨_::ds,.cons r h1,h2.cons _⟩
 |swap x y l=>
  intro cs t
  cases t with
  |cons r t=>cases t with
   |cons r2 t=>exact⟨_::_::_,.cons r2 (.cons r t),.swap _ _ _⟩
 |trans _ _ ih1 ih2=>
  intro cs t
  obtain⟨ds,h1,h2⟩:=ih2 t
  obtain⟨es,h3,h4⟩:=ih1 h1
  exact⟨es,h3,h4.trans h2⟩
section
variable {X:Cx}
theorem call_sortedM (hcm:X.calm=true):CallR X (.builtin "sorted") (fun xs H Q=>∃(b:Bool) (p:Addr) (as:List Addr) (cs:List (List Int)),xs=[.ref p]∧H p=some (stM b p as)∧b=X.w.params.followText "set-order" ∧Tups H as cs∧(∀c∈cs,c≠[])∧2≤cs.length∧cs.length<64∧
  ∀l bs ds,H l=none→Tups H bs ds→ds.Perm cs→ds.Pairwise (fun c d=>HT.lexLt d c=false)→Q (.ref l) (upd H l (.lst (bs.map V.ref)))):=by
 intro pins s σ H xs us Q I r h
 obtain⟨b,p,as0,cs0,rfl,e,hb,ht0,hne0,h2,h64,q⟩:=h
 obtain⟨u,rfl,rx⟩:=vals1 r
 cases rx
 obtain⟨⟨o,es,ep,t,hod,hc,hdd,hf,hri,hsz,hpl,hled,hes0⟩,_⟩:=I.hok p _ e
 have G:SetG X.w t es:=⟨hf,hri,hsz,hpl,fun z=>hled (by rw[hb,z])⟩
 have hal0:as0.length=cs0.length:=ht0.length
 have hes:es.size=cs0.length:=by
  have:=congrArg List.length hes0
  rw[List.length_map,List.length_map,Array.length_toList] at this
  omega
 obtain⟨m,hm,_⟩:=id I.loc
 refine PySem.W.kdu_sorted (sg_src G) (I.ok.hd hcm) (Att.fr_all hm) news_all ⟨o,hod,hc,hdd⟩ (by rw[hes,sizeLine_eq];omega) fun D h' tk vs F' N' hD hlen hP=>?_
 have hvs:vs=(walkS X.w p ep es).toList.map (·.2):=by
  refine List.ext_getElem? fun i=>?_
  rw[List.getElem?_map]
  cases ei:vs[i]? with
  |some v=>
   obtain⟨e',he',rfl⟩:=hP i v ei
   rw[Array.getElem?_toList,he'];rfl
  |none=>
   have h1:=List.getElem?_eq_none_iff.mp ei
   rw[List.getElem?_eq_none_iff.mpr (by rw[Array.length_toList,walk_size];omega)];rfl
 have hperm:vs.Perm (as0.map Value.ref):=by
  rw[hvs,←hes0]
  exact(walk_perm X.w p ep es).map _
 obtain⟨as,rfl,hp⟩:=perm_refs hperm
 obtain⟨cs,ht,hpc⟩:=tups_perm hp ht0
 have hne:∀c∈cs,c≠[]:=fun c hc=>hne0 c (hpc.mem_iff.mp hc)
 have hcl:=hpc.length_eq
 have hal:as.length=cs.length:=ht.length
 refine PySem.W.kat_lsort (s:={s with heap:=h',toks:=tk}) (vs:=as.map Value.ref) F' N' (.head fun p hp=>Nat.ne_of_lt (hD p hp)) (by simp) (by rw[List.length_map];omega) (by rw[List.length_map];omega) fun e1 h2' F2 N2=>?_
 refine sort_core I ht hne (by omega) (by omega) hm F2 N2 hD (fun bs ds s' hn t1 t2 t3 I'=>?_)
 exact⟨.ref D,_,I',rfl,q D bs ds hn t1 (t2.trans hpc) t3⟩
end
theorem call_list_ofK {X:Cx}{K:PySem.W.Frag}(e:X.K=K):CallR X (.type "list") (fun xs H Q=>∃p ys,xs=[.ref p]∧(SqL K H p ys∨SqT K H p ys)∧∀l,H l=none→Q (.ref l) (upd H l (.lst ys))):=e▸call_list_of
end L2
namespace K09
open PySem L2
abbrev T3:=List Int
structure Szs (L R C:Int):Prop where
 l0:1≤L
 l1:L≤4
 r0:1≤R
 r1:R≤16
 c0:1≤C
 c1:C≤16
def Ins (L R C l r c:Int):Prop:=0≤l∧l<L∧0≤r∧r<R∧0≤c∧c<C
instance {L R C l r c : Int} : Decidable (Ins L R C l r c) := by unfold Ins; infer_instance
theorem ins_b {L R C l r c:Int}:(decide (0≤l)&&decide (l<L)&&(decide (0≤r)&&decide (r<R)&&(decide (0≤c)&&decide (c<C))))=decide (Ins L R C l r c):=by
 rw[Bool.eq_iff_iff]
 simp only[Bool.and_eq_true,decide_eq_true_eq]
 unfold Ins
 constructor<;>intro h<;>omega
noncomputable def sN (R C:Int) (n:Nat):T3:=[(n:Int)/C/R,(n:Int)/C%R,(n:Int)%C]
section
variable {L R C:Int}
end
theorem same_at {H0 H':Hp}{D:Addr}{y:HO}(s:Same H0 H')(nD:H0 D=none):Same H0 (upd H' D y):=fun b u e=>by
 rw[upd_ne (ne_of_none e nD)];exact s _ _ e
section
variable {tc:TT} {t u:TS} {te ta tb td ty:TE} {D:Ends} {σ:St} {H:Hp} {a d:Addr} {y v:V} {o:Option V} {K:PySem.W.Frag}
theorem ev_dnotin (ha:Ev ty σ H y)(hb:Ev td σ H (.ref a))(g:DGet H a y o):Ev (tDNotIn ty td) σ H (.bl (!o.isSome)):=fun _ q=>ha _ (hb _ ⟨a,o,rfl,g,q⟩)
theorem et_of {b c:Bool}(h:EvT tc σ H b)(e:b=c):EvT tc σ H c:=e▸h
theorem ev_of {c:V}(h:Ev te σ H v)(e:v=c):Ev te σ H c:=e▸h
theorem rd_dput {tv:TE}{H4:Hp}(hv:Ev tv σ H v)(hd:Ev td σ H (.ref a))(hy:Ev ty σ H y)(p:DPut H a y v H4)(q:D.nx σ H4):sDPut td ty tv D σ H:=hv _ (hd _ (hy _ ⟨a,H4,rfl,p,q⟩))
theorem te_tup {tl:TA}{vs:List V}{Q:VK}(h:EvA tl σ H vs)(hz:vs.length≤sizeLine)(q:∀p,H p=none→Q (.ref p) (upd H p (.tup vs))):tTup tl σ H Q:=h _ ⟨hz,q⟩
theorem te_lst {tl:TA}{vs:List V}{Q:VK}(h:EvA tl σ H vs)(hz:vs.length≤sizeLine)(q:∀p,H p=none→Q (.ref p) (upd H p (.lst vs))):tLst tl σ H Q:=h _ ⟨hz,q⟩
theorem rd_tup {tl:TA}{vs:List V}(h:EvA tl σ H vs)(hz:vs.length≤sizeLine)(q:∀p,H p=none→D.rt (.ref p) (upd H p (.tup vs))):tRet (tTup tl) D σ H:=h _ ⟨hz,q⟩
theorem te_cal {sp:Sp}{tl:TA}{vs:List V}{Q:VK}(h:EvA tl σ H vs)(q:sp vs H Q E0):tCall sp [] E0 tl σ H Q:=h _ (by rw[List.append_nil];exact q)
end
theorem tups_app {H:Hp}:∀{as bs:List Addr} {cs ds:List T3},Tups H as cs→Tups H bs ds→Tups H (as++bs) (cs++ds)
 |_,_,_,_,.nil,t=>t
 |_,_,_,_,.cons h s,t=> .cons h (tups_app s t)
theorem ev_notN {ta tb:TE}{σ:St}{H:Hp}{x:V}(ha:Ev ta σ H x)(hb:Ev tb σ H .non):Ev (tOp (fun x y H Q=>y=.non∧Q (.bl (!decide (x=.non))) H) ta tb) σ H (.bl (!decide (x=.non))):=fun _ z=>ha _ (hb _ ⟨rfl,z⟩)
theorem sq_rng1 {ta:TA}{j:Int}{g:TG}{tb u:TS}{D:Ends}{σ:St}{H:Hp}(h:EvA ta σ H [.int j])(h1: -(2^62)≤j)(h2:j<2^62)(q:tFor (fun _ H R=>R (Itr 0 j.toNat) H) g tb {D with nx:=u D} σ H):tSeq (tFor (iRng1 ta) g tb) u D σ H:=h _ ⟨j,rfl,h1,h2,q⟩
theorem rd_rng1 {ta:TA}{j:Int}{g:TG}{tb:TS}{D:Ends}{σ:St}{H:Hp}(h:EvA ta σ H [.int j])(h1: -(2^62)≤j)(h2:j<2^62)(q:tFor (fun _ H R=>R (Itr 0 j.toNat) H) g tb D σ H):tFor (iRng1 ta) g tb D σ H:=h _ ⟨j,rfl,h1,h2,q⟩
theorem sq_rng2 {ta:TA}{i j:Int}{g:TG}{tb u:TS}{D:Ends}{σ:St}{H:Hp}(h:EvA ta σ H [.int i,.int j])(h1: -(2^62)≤i∧i<2^62∧ -(2^62)≤j∧j<2^62)(q:tFor (fun _ H R=>R (Itr i (j - i).toNat) H) g tb {D with nx:=u D} σ H):tSeq (tFor (iRng2 ta) g tb) u D σ H:=h _ ⟨i,j,rfl,h1,q⟩
theorem te_op {r:R2}{ta tb:TE}{σ:St}{H:Hp}{Q:VK}(h:ta σ H fun x H1=>tb σ H1 fun y H2=>r x y H2 Q):tOp r ta tb σ H Q:=h
theorem take_one {α:Type}{xs:List α}{i:Nat}{x:α}(h:xs[i]?=some x):xs.take (i+1)=xs.take i++[x]:=by rw[List.take_succ,h];rfl
theorem rd_ifof {tc:TT}{t u:TS}{D:Ends}{σ:St}{H:Hp}(q:tc σ H fun b H1=>if b=true then t D σ H1 else u D σ H1):tIfS tc t u D σ H:=q
theorem te_or {t u:TT}{σ:St}{H:Hp}{a:Bool}{Q:Bool→Hp→Prop}(h:EvT t σ H a)(e:a=false)(q:u σ H Q):tOr t u σ H Q:=by
 subst e
 exact h _ q
theorem depth_row {cs:List T3}:(PyData.list (cs.map fun c=>PyData.tuple (c.map PyData.int))).depth≤60:=by
 have:PyData.depthAll (cs.map fun c=>PyData.tuple (c.map PyData.int))≤1:=depthAll_le fun d hd=>by
  obtain⟨c,_,rfl⟩:=List.mem_map.mp hd
  exact depth_tints c
 simp only[PyData.depth]
 omega
theorem if_T {t:TT}{ta tb:TE}{σ:St}{H:Hp}{Q:VK}(h:EvT t σ H true)(q:ta σ H Q):tIf t ta tb σ H Q:=h _ (iteT q)
theorem if_F {t:TT}{ta tb:TE}{σ:St}{H:Hp}{Q:VK}(h:EvT t σ H false)(q:tb σ H Q):tIf t ta tb σ H Q:=h _ (iteF q)
theorem same_thaw {H:Hp}{d:Addr}{o:Obj}{u:HO}(e:H d=some u):Same H (upd (upd H d (.frz o u)) d u):=fun b v z=>by
 by_cases hb:b=d
 ·subst hb;rw[upd_same,←e,z]
 ·rw[upd_ne hb,upd_ne hb];exact z
theorem et_orF {t1 t2:TT}{b:Bool}{σ:St}{H:Hp}(h:EvT t1 σ H false)(h2:EvT t2 σ H b):EvT (tOr t1 t2) σ H b:=fun Q q=>h _ (iteF (h2 _ q))
theorem et_notF {tc:TT}{σ:St}{H:Hp}(h:EvT tc σ H true):EvT (tNot tc) σ H false:=fun _ q=>h _ q
theorem ev_fldT {ta:TE}{K:PySem.W.Frag}{σ:St}{H:Hp}{p C dx:Addr}{fs:List (Str×V)}{f:Str}{v:V}(h:Ev ta σ H (.ref p))(e:H p=some (.ins C dx fs))(c:Cls K C)(n:NoAttr K C f)(l:fs.lookup f=some v):Ev (tFld K ta f) σ H v:=fun _ q=>h _ ⟨p,C,dx,fs,v,rfl,e,c,n,l,q⟩
theorem same_make {H:Hp}{p dx C:Addr}(np:H p=none)(ndx:H dx=none):Same H (upd (upd H dx (.own p)) p (.ins C dx [])):=fun b o e=>by
 rw[upd_ne (ne_of_none e np),upd_ne (ne_of_none e ndx)];exact e
theorem at_ref {as:List Addr}{i:Nat}{x:V}(h:(as.map V.ref)[i]?=some x):∃a,as[i]?=some a∧x=.ref a:=by
 rw[List.getElem?_map] at h
 obtain⟨a,e,z⟩:=Option.map_eq_some_iff.mp h
 exact⟨a,e,z.symm⟩
theorem prs_app {H:Hp}{as bs:List Addr}{cs ds:List (List Key×V)}(h:Prs H as cs)(g:Prs H bs ds):Prs H (as++bs) (cs++ds):=by
 induction h with
 |nil=>exact g
 |cons r _ ih=>exact .cons r ih
theorem Prs.mono {H H':Hp}{as:List Addr}{cs:List (List Key×V)}(h:Prs H as cs)(s:∀b xs,H b=some (.tup xs)→H' b=some (.tup xs)):Prs H' as cs:=Paired.mapP h fun a c ⟨b,e1,e2⟩=>⟨b,s _ _ e1,s _ _ e2⟩
def ButP (H H':Hp) (p:Addr):Prop:=∀b o,b≠p→H b=some o→H' b=some o
theorem ButP.same {H H1 H2:Hp}{p:Addr}(s:Same H H1)(n:H p=none)(b:ButP H1 H2 p):Same H H2:=fun a o e=>b a o (ne_of_none e n) (s a o e)
theorem ButP.st {H H1 H2:Hp}{p:Addr}(b:ButP H H1 p)(s:Same H1 H2):ButP H H2 p:=fun a o n e=>s _ _ (b a o n e)
theorem ButP.up {H H1:Hp}{p:Addr}{o:HO}(b:ButP H H1 p):ButP H (upd H1 p o) p:=fun a u n e=>by rw[upd_ne n];exact b a u n e
theorem ButP.of {H H1:Hp}{p:Addr}(s:Same H H1):ButP H H1 p:=fun a o _ e=>s _ _ e
theorem rd_te {te:TE}{D:Ends}{σ:St}{H:Hp}(h:te σ H D.rt):tRet te D σ H:=h
theorem fresh_of {H H':Hp}{t:Addr}(s:Same H H')(n:H' t=none):H t=none:=by
 cases e:H t with
 |none=>rfl
 |some o=>rw[s _ _ e] at n;cases n
section
variable {K:PySem.W.Frag} {σ σ0:St} {H H1:Hp} {D a:Addr} {g:TG} {tt:TT} {te t0:TE} {ta:TA} {n:Nat} {ix:List Nat} {as:List Addr} {cs:List T3}
theorem te_lcL {Q:VK}{xs:List V}(h:Ev t0 σ H (.ref a))(ha:SqL K H a xs)(q:∀D,H D=none→lcW (inSt n ix σ) g tt te (Itl K a) H D fun H'=>Q (.ref D) H'):tLc (iList K t0) n ix g tt te σ H Q:=h _ ⟨a,rfl,⟨_,ha⟩,q⟩
theorem tups_mono {H H':Hp}{as:List Addr}{cs:List T3}(h:Tups H as cs)(s:∀b xs,H b=some (.tup xs)→H' b=some (.tup xs)):Tups H' as cs:=Paired.mapP h fun a c e=>s _ _ e
theorem sq_lc1 {u:TS}{E:Ends}{i:Nat}{j:Int}(h:EvA ta σ H [.int j])(h1: -(2^62)≤j)(h2:j<2^62)(q:∀D,H D=none→lcW (inSt n ix σ) g tt te (Itr 0 j.toNat) H D fun H'=>u E (σ.set i (some (.ref D))) H'):tSeq (tLcSet (iRng1 ta) n ix g tt te i) u E σ H:=h _ ⟨j,rfl,h1,h2,q⟩
end
theorem te_two {ta tb:TE}{σ:St}{H:Hp}{Q:VK}(h:ta σ H fun x H1=>tb σ H1 fun y H2=>[x,y].length≤sizeLine∧∀p,H2 p=none→Q (.ref p) (upd H2 p (.tup [x,y]))):tTup (tCons ta (tCons tb tNil)) σ H Q:=h
theorem eqv_same {K:PySem.W.Frag}{H:Hp}{v:V}{d:PyData}(h:Dp K H v d):(!PyData.eqv d d)=false:=by rw[eqv_refl h.lay];rfl
theorem depth_ti (ns:List Int):(PyData.tuple (ns.map PyData.int)).depth≤60:=Nat.le_trans (depth_tints ns) (by decide)
theorem rd_asgE {te:TE}{g:TG}{D:Ends}{σ:St}{H:Hp}{v:V}(h:Ev te σ H v)(q:g v σ H D.nx):tAsg te g D σ H:=h _ q
theorem at_int {cs:List Int}{i:Int}(h0:0≤i)(h1:i<cs.length):∃c,atI (cs.map V.int) i=some (.int c)∧ixN (cs.map V.int).length i=some i.toNat:=by
 obtain⟨n,rfl⟩:=Int.eq_ofNat_of_zero_le h0
 have hi:n<cs.length:=by omega
 refine⟨cs[n],atI_nat ?_,?_⟩
 ·rw[List.getElem?_map,List.getElem?_eq_getElem hi];rfl
 ·unfold ixN
  rw[if_pos h0,if_pos (by rw[List.length_map];exact h1)]
theorem sq_rng1T {te:TE}{g:TG}{tb u:TS}{D:Ends}{σ:St}{H:Hp}(h:te σ H fun x H1=>∃j:Int,[x]=[.int j]∧ -(2^62)≤j∧j<2^62∧tFor (fun _ H R=>R (Itr 0 j.toNat) H) g tb {D with nx:=u D} σ H1):tSeq (tFor (iRng1 (tCons te tNil)) g tb) u D σ H:=h
theorem te_nest2 {sp:Sp}{te:TE}{tr:TA}{σ:St}{H:Hp}{Q:VK}(h:te σ H fun v H1=>tr σ H1 fun vs H2=>sp ((v::vs)++[]) H2 Q E0):tCall sp [] E0 (tCons te tr) σ H Q:=h
noncomputable def top (i:Nat):Stmt:=PySem.Challenge.pw_wirefloor_k09_free_spots.main.body.getD i (.Pass ⟨0,0,0,0⟩)
abbrev sInside:Stmt:=top 8
abbrev sSpotOf:Stmt:=top 9
abbrev sApart:Stmt:=top 10
abbrev sSquare:Stmt:=top 11
abbrev sCSizes:Stmt:=top 24
abbrev sCPrice:Stmt:=top 25
abbrev sCPrices:Stmt:=top 26
abbrev sCInside:Stmt:=top 27
abbrev sFInit:Stmt:=inClass (top 28) 0
abbrev sIsRock:Stmt:=inClass (top 28) 5
abbrev sOpen:Stmt:=inClass (top 28) 14
abbrev sName:Stmt:=top 38
abbrev sUnlike:Stmt:=top 39
abbrev sTInit:Stmt:=inClass (top 40) 0
abbrev sNInit:Stmt:=inClass (top 41) 0
abbrev sNEnds:Stmt:=inClass (top 41) 1
abbrev sBInit:Stmt:=inClass (top 42) 0
abbrev sBEnds:Stmt:=inClass (top 42) 1
abbrev sFits:Stmt:=top 13
abbrev sReach:Stmt:=top 14
abbrev sClash:Stmt:=top 15
abbrev sClashA:Stmt:=top 16
abbrev sHeld:Stmt:=top 17
abbrev sTooNear:Stmt:=top 18
abbrev sFreeFor:Stmt:=top 19
abbrev sBarred:Stmt:=top 20
abbrev sCell:Stmt:=top 44
abbrev sFolded:Stmt:=top 45
abbrev sSizes:Stmt:=top 46
abbrev sSpot:Stmt:=top 47
abbrev sLThing:Stmt:=top 48
abbrev sLOthers:Stmt:=top 49
abbrev sLHeld:Stmt:=top 50
abbrev sLFits:Stmt:=top 51
abbrev sLNear:Stmt:=top 52
abbrev sLBarred:Stmt:=top 53
abbrev slaw:Stmt:=top 54
structure Txt (K:PySem.W.Frag) (mg:Str→Option Value) (cThing cNet cBundle cFloor cMS:Addr):Prop where
 len_:mg "len" =none
 range_:mg "range" =none
 isinstance_:mg "isinstance" =none
 int_:mg "int" =none
 bool_:mg "bool" =none
 tuple_:mg "tuple" =none
 set_:mg "set" =none
 list_:mg "list" =none
 dict_:mg "dict" =none
 str_:mg "str" =none
 all_:mg "all" =none
 any_:mg "any" =none
 zip_:mg "zip" =none
 min_:mg "min" =none
 max_:mg "max" =none
 abs_:mg "abs" =none
 sorted_:mg "sorted" =none
 divmod_:mg "divmod" =none
 ValueError_:mg "ValueError" =none
 cl_Thing:Cls K cThing
 mg_Thing:mg "Thing" =some (.ref cThing)
 cl_Net:Cls K cNet
 mg_Net:mg "Net" =some (.ref cNet)
 na_Net_name:NoAttr K cNet "name"
 na_Net_half:NoAttr K cNet "half"
 na_Net_room:NoAttr K cNet "room"
 na_Net_pins:NoAttr K cNet "pins"
 cl_Bundle:Cls K cBundle
 mg_Bundle:mg "Bundle" =some (.ref cBundle)
 na_Bundle_name:NoAttr K cBundle "name"
 na_Bundle_half:NoAttr K cBundle "half"
 na_Bundle_room:NoAttr K cBundle "room"
 na_Bundle_starts:NoAttr K cBundle "starts"
 na_Bundle_goals:NoAttr K cBundle "goals"
 cl_Floor:Cls K cFloor
 mg_Floor:mg "Floor" =some (.ref cFloor)
 na_Floor_sizes:NoAttr K cFloor "sizes"
 na_Floor_prices:NoAttr K cFloor "prices"
 na_Floor_vias:NoAttr K cFloor "vias"
 na_Floor_rocks:NoAttr K cFloor "rocks"
 na_Floor_tolls:NoAttr K cFloor "tolls"
 g_MOST_PRICE:∃u,mg "MOST_PRICE" =some u∧RelV (.int 1000000000000) u
 g_LETTERS:∃u,mg "LETTERS" =some u∧RelV (.str (Str.ofString "abcdefghijklmnopqrstuvwxyz")) u
 g_FIGURES:∃u,mg "FIGURES" =some u∧RelV (.str (Str.ofString "0123456789")) u
 g_MOST_SIGNS:∃u,mg "MOST_SIGNS" =some u∧RelV (.int 12) u
 g_MOST_HALF:∃u,mg "MOST_HALF" =some u∧RelV (.int 2) u
 g_MOST_ROOM:∃u,mg "MOST_ROOM" =some u∧RelV (.int 3) u
 g_MOST_PINS:∃u,mg "MOST_PINS" =some u∧RelV (.int 6) u
 g_MOST_STARTS:∃u,mg "MOST_STARTS" =some u∧RelV (.int 6) u
 g_MOST_GOALS:∃u,mg "MOST_GOALS" =some u∧RelV (.int 12) u
 g_MOST_SIZES:∃u,mg "MOST_SIZES" =some u∧RelV (.ref cMS) u
 t_MOST_SIZES:∀H:Hp,SqT K H cMS [.int 4,.int 16,.int 16]
 ll:PySem.W.kitOne K (.type "list") (.type "list")=some true
 dd:PySem.W.kitOne K (.type "dict") (.type "dict")=some true
theorem len_c {α:Type}{n:Nat}:∀{us:List α},us.length=n+1→∃a r,us=a::r∧r.length=n
 |[],h=>nomatch h
 |a::r,h=>⟨a,r,rfl,Nat.succ.inj h⟩
theorem len_z {α:Type}{us:List α}(h:us.length=0):us=[]:=List.eq_nil_of_length_eq_zero h
theorem bl1 {α:Type}{us:List α}(h:us.length=1):∃a0,us=[a0]:=by
 obtain⟨a0,r0,rfl,h0⟩:=len_c h
 cases len_z h0
 exact⟨a0,rfl⟩
theorem bd1 {K:PySem.W.Frag}{x qual:Str}{st:Stmt}{f:Addr}{fd:FuncData}{p0:Str}(F:Fun K x qual st f fd)(h:∀(kV doc pm:Value) (an:Option Addr) (cdv ct a0:Value),bindArgs (PySem.W.fnOf x qual (defArgs st) (defBody st) (defScope st) .none kV doc pm an cdv ct) ⟨[a0],[]⟩=pure ([p0].zip [a0])):Binds K fd [p0] []:=F.binds fun kV doc pm an cdv ct us hl=>by
 obtain⟨a0,rfl⟩:=bl1 (us:=us) hl
 exact h kV doc pm an cdv ct a0
theorem bl2 {α:Type}{us:List α}(h:us.length=2):∃a0 a1,us=[a0,a1]:=by
 obtain⟨a0,r0,rfl,h0⟩:=len_c h
 obtain⟨a1,r1,rfl,h1⟩:=len_c h0
 cases len_z h1
 exact⟨a0,a1,rfl⟩
theorem bd2 {K:PySem.W.Frag}{x qual:Str}{st:Stmt}{f:Addr}{fd:FuncData}{p0 p1:Str}(F:Fun K x qual st f fd)(h:∀(kV doc pm:Value) (an:Option Addr) (cdv ct a0 a1:Value),bindArgs (PySem.W.fnOf x qual (defArgs st) (defBody st) (defScope st) .none kV doc pm an cdv ct) ⟨[a0,a1],[]⟩=pure ([p0,p1].zip [a0,a1])):Binds K fd [p0,p1] []:=F.binds fun kV doc pm an cdv ct us hl=>by
 obtain⟨a0,a1,rfl⟩:=bl2 (us:=us) hl
 exact h kV doc pm an cdv ct a0 a1
theorem bl3 {α:Type}{us:List α}(h:us.length=3):∃a0 a1 a2,us=[a0,a1,a2]:=by
 obtain⟨a0,r0,rfl,h0⟩:=len_c h
 obtain⟨a1,r1,rfl,h1⟩:=len_c h0
 obtain⟨a2,r2,rfl,h2⟩:=len_c h1
 cases len_z h2
 exact⟨a0,a1,a2,rfl⟩
theorem bd3 {K:PySem.W.Frag}{x qual:Str}{st:Stmt}{f:Addr}{fd:FuncData}{p0 p1 p2:Str}(F:Fun K x qual st f fd)(h:∀(kV doc pm:Value) (an:Option Addr) (cdv ct a0 a1 a2:Value),bindArgs (PySem.W.fnOf x qual (defArgs st) (defBody st) (defScope st) .none kV doc pm an cdv ct) ⟨[a0,a1,a2],[]⟩=pure ([p0,p1,p2].zip [a0,a1,a2])):Binds K fd [p0,p1,p2] []:=F.binds fun kV doc pm an cdv ct us hl=>by
 obtain⟨a0,a1,a2,rfl⟩:=bl3 (us:=us) hl
 exact h kV doc pm an cdv ct a0 a1 a2
theorem bl4 {α:Type}{us:List α}(h:us.length=4):∃a0 a1 a2 a3,us=[a0,a1,a2,a3]:=by
 obtain⟨a0,r0,rfl,h0⟩:=len_c h
 obtain⟨a1,r1,rfl,h1⟩:=len_c h0
 obtain⟨a2,r2,rfl,h2⟩:=len_c h1
 obtain⟨a3,r3,rfl,h3⟩:=len_c h2
 cases len_z h3
 exact⟨a0,a1,a2,a3,rfl⟩
theorem bd4 {K:PySem.W.Frag}{x qual:Str}{st:Stmt}{f:Addr}{fd:FuncData}{p0 p1 p2 p3:Str}(F:Fun K x qual st f fd)(h:∀(kV doc pm:Value) (an:Option Addr) (cdv ct a0 a1 a2 a3:Value),bindArgs (PySem.W.fnOf x qual (defArgs st) (defBody st) (defScope st) .none kV doc pm an cdv ct) ⟨[a0,a1,a2,a3],[]⟩=pure ([p0,p1,p2,p3].zip [a0,a1,a2,a3])):Binds K fd [p0,p1,p2,p3] []:=F.binds fun kV doc pm an cdv ct us hl=>by
 obtain⟨a0,a1,a2,a3,rfl⟩:=bl4 (us:=us) hl
 exact h kV doc pm an cdv ct a0 a1 a2 a3
theorem bl5 {α:Type}{us:List α}(h:us.length=5):∃a0 a1 a2 a3 a4,us=[a0,a1,a2,a3,a4]:=by
 obtain⟨a0,r0,rfl,h0⟩:=len_c h
 obtain⟨a1,r1,rfl,h1⟩:=len_c h0
 obtain⟨a2,r2,rfl,h2⟩:=len_c h1
 obtain⟨a3,r3,rfl,h3⟩:=len_c h2
 obtain⟨a4,r4,rfl,h4⟩:=len_c h3
 cases len_z h4
 exact⟨a0,a1,a2,a3,a4,rfl⟩
theorem bd5 {K:PySem.W.Frag}{x qual:Str}{st:Stmt}{f:Addr}{fd:FuncData}{p0 p1 p2 p3 p4:Str}(F:Fun K x qual st f fd)(h:∀(kV doc pm:Value) (an:Option Addr) (cdv ct a0 a1 a2 a3 a4:Value),bindArgs (PySem.W.fnOf x qual (defArgs st) (defBody st) (defScope st) .none kV doc pm an cdv ct) ⟨[a0,a1,a2,a3,a4],[]⟩=pure ([p0,p1,p2,p3,p4].zip [a0,a1,a2,a3,a4])):Binds K fd [p0,p1,p2,p3,p4] []:=F.binds fun kV doc pm an cdv ct us hl=>by
 obtain⟨a0,a1,a2,a3,a4,rfl⟩:=bl5 (us:=us) hl
 exact h kV doc pm an cdv ct a0 a1 a2 a3 a4
theorem bl6 {α:Type}{us:List α}(h:us.length=6):∃a0 a1 a2 a3 a4 a5,us=[a0,a1,a2,a3,a4,a5]:=by
 obtain⟨a0,r0,rfl,h0⟩:=len_c h
 obtain⟨a1,r1,rfl,h1⟩:=len_c h0
 obtain⟨a2,r2,rfl,h2⟩:=len_c h1
 obtain⟨a3,r3,rfl,h3⟩:=len_c h2
 obtain⟨a4,r4,rfl,h4⟩:=len_c h3
 obtain⟨a5,r5,rfl,h5⟩:=len_c h4
 cases len_z h5
 exact⟨a0,a1,a2,a3,a4,a5,rfl⟩
theorem ta_ev {te:TE}{tr:TA}{σ:St}{H:Hp}{v:V}{Q:List V→Hp→Prop}(h:Ev te σ H v)(q:tr σ H fun xs H2=>Q (v::xs) H2):tCons te tr σ H Q:=h _ q
theorem nrm {X:St→Hp→Prop}{σ σ':St}{H:Hp}(e:σ=σ')(h:X σ' H):X σ H:=e▸h
theorem ev_neDs {K:PySem.W.Frag}{ta tb:TE}{σ:St}{H:Hp}{x y:V}{d:PyData}(ha:Ev ta σ H x)(hb:Ev tb σ H y)(h1:Dp K H x d)(h2:Dp K H y d)(hd:d.depth≤60):Ev (tOp (rNeD K) ta tb) σ H (.bl false):=fun _ q=>ha _ (hb _ ⟨d,d,h1,h2,hd,by rw[eqv_same h1];exact q⟩)
theorem te_use {te:TE}{σ:St}{H:Hp}{v:V}{Q:VK}(h:Ev te σ H v)(q:Q v H):te σ H Q:=h _ q
theorem ta_one {te:TE}{tr:TA}{σ:St}{H:Hp}{Q:List V→Hp→Prop}(h:te σ H fun x H1=>tr σ H1 fun xs H2=>Q (x::xs) H2):tCons te tr σ H Q:=h
theorem et_use {tc:TT}{σ:St}{H:Hp}{b:Bool}{Q:Bool→Hp→Prop}(h:EvT tc σ H b)(q:Q b H):tc σ H Q:=h _ q
theorem te_bm {K:PySem.W.Frag}{T:String}{r:V→List V→Hp→VK→Prop}{to:TE}{ta:TA}{σ:St}{H:Hp}{x:V}{Q:VK}(h:Ev to σ H x)(ht:tyV K T x H)(q:ta σ H fun xs H2=>r x xs H2 Q):tBM K T r to ta σ H Q:=h _ ⟨ht,q⟩
theorem sq_J {t u:TS}{D:Ends}{σ:St}{H:Hp}(J:St→Hp→Prop)(h:∀R:St→Hp→Prop,(∀σ H,J σ H→R σ H)→t {D with nx:=R} σ H)(k:∀σ H,J σ H→u D σ H):tSeq t u D σ H:=h _ k
theorem te_cb1 {r:List V→Hp→VK→Prop}{te:TE}{σ:St}{H:Hp}{Q:VK}(h:te σ H fun x H1=>r [x] H1 Q):tCB r (tCons te tNil) σ H Q:=h
theorem te_callA {sp:Sp}{ta:TA}{σ:St}{H:Hp}{Q:VK}(h:ta σ H fun vs H1=>sp (vs++[]) H1 Q E0):tCall sp [] E0 ta σ H Q:=h
theorem sq_forL {K:PySem.W.Frag}{te:TE}{g:TG}{tb u:TS}{D:Ends}{σ:St}{H:Hp}(h:te σ H fun x H1=>∃a,x=.ref a∧(∃xs,SqL K H1 a xs)∧tFor (fun _ H R=>R (Itl K a) H) g tb {D with nx:=u D} σ H1):tSeq (tFor (iList K te) g tb) u D σ H:=h
theorem ev_lenT {ta:TE}{σ:St}{H:Hp}{x:Str}(ha:Ev ta σ H (.str x))(hz:x.length≤sizeLine):Ev (tCB (fun xs H Q=>∃z:Str,xs=[.str z]∧z.length≤sizeLine∧Q (.int (z.length:Nat)) H) (tCons ta tNil)) σ H (.int (x.length:Nat)):=fun _ q=>ha _ ⟨x,rfl,hz,q⟩
def lets:List Nat:=cp (Str.ofString "abcdefghijklmnopqrstuvwxyz")
def figs:List Nat:=cp (Str.ofString "0123456789")
structure NmOk (x:Str):Prop where
 as:x.cps.all (· <128)=true
 lo:1≤x.length
 hi:x.length≤12
 fst:∃c r,cp x=c::r∧c∈lets
 all:∀c∈cp x,c∈lets∨c∈figs
def Th (cN cB:Addr) (H:Hp) (p:Addr) (half room:Int):Prop:=∃C dx fs,H p=some (.ins C dx fs)∧(C=cN∨C=cB)∧fs.lookup ("half" :Str)=some (.int half)∧fs.lookup ("room" :Str)=some (.int room)
def mx (i j:Int):Int:=if j>i then j else i
def mn (i j:Int):Int:=if j<i then j else i
def lo (p n:Int):Int:=mx 0 (p - n)
def hi (m p n:Int):Int:=mn (m - 1) (p+n)
instance {L R C l r c : Int} : Decidable (Ins L R C l r c) := by unfold Ins; infer_instance
abbrev Sp3:=Int×Int×Int
def tp (p:Sp3):List V:=[.int p.1,.int p.2.1,.int p.2.2]
def k3 (p:Sp3):List Key:=[.inl p.1,.inl p.2.1,.inl p.2.2]
theorem k3_inj {p q:Sp3}(e:k3 p=k3 q):p=q:=by
 injection e with e1 e
 injection e with e2 e
 injection e with e3 _
 obtain⟨a,b,c⟩:=p
 obtain⟨a',b',c'⟩:=q
 have h1:a=a':=Sum.inl.inj e1
 have h2:b=b':=Sum.inl.inj e2
 have h3:c=c':=Sum.inl.inj e3
 subst h1 h2 h3;rfl
abbrev Spots (H:Hp) (as:List Addr) (rs:List Sp3):Prop:=Paired (fun a p=>H a=some (.tup (tp p))) as rs
theorem Spots.same {H H':Hp}{as:List Addr}{rs:List Sp3}(h:Spots H as rs)(s:Same H H'):Spots H' as rs:=Paired.mapP h fun a c e=>s _ _ e
theorem spots_app {H:Hp}{as bs:List Addr}{cs ds:List Sp3}(h:Spots H as cs)(g:Spots H bs ds):Spots H (as++bs) (cs++ds):=by
 induction h with
 |nil=>exact g
 |cons r _ ih=>exact .cons r ih
theorem Spots.at {H:Hp}{as:List Addr}{rs:List Sp3}(h:Spots H as rs):∀{i:Nat} {a:Addr},as[i]?=some a→∃p,rs[i]?=some p∧H a=some (.tup (tp p)):=by
 induction h with
 |nil=>intro i a e;simp at e
 |cons r _ ih=>
  intro i a e
  cases i with
  |zero=>simp at e;subst e;exact⟨_,by simp,r⟩
  |succ i=>simp at e;obtain⟨p,h1,h2⟩:=ih e;exact⟨p,by simpa using h1,h2⟩
def DR (kvs:List (List Key×V)) (rs:List Sp3):Prop:=∀p:Sp3,(valV kvs (k3 p)).isSome=decide (p∈rs)
theorem DR.nil:DR [] []:=fun p=>by simp[valV_nil]
theorem DR.put {kvs:List (List Key×V)}{rs:List Sp3}{p:Sp3}{v:V}(h:DR kvs rs):DR (putK kvs (k3 p) v) (rs++[p]):=fun q=>by
 rw[valV_put]
 by_cases e:k3 q=k3 p
 ·rw[if_pos e,k3_inj e];simp
 ·have:¬q=p:=fun z=>e (by rw[z])
  rw[if_neg e,h q]
  simp[this]
theorem put_len {kvs:List (List Key×V)}{k:List Key}{v:V}:(putK kvs k v).length≤kvs.length+1:=by
 unfold putK
 split
 ·rw[List.length_map];omega
 ·rw[List.length_append];exact Nat.le_refl _
noncomputable def kv (rs:List Sp3):List (List Key×V):=rs.map fun p=>(k3 p,.bl true)
theorem DR.mk:∀n (rs:List Sp3),rs.length=n→DR (mkD (kv rs)) rs
 |0,rs,e=>by cases rs with|nil=>exact DR.nil|cons _ _=>simp at e
 |n+1,rs,e=>by
  have hne:rs≠[]:=fun z=>by rw[z] at e;simp at e
  obtain⟨qs,p,rfl⟩:∃qs p,rs=qs++[p]:=⟨rs.dropLast,rs.getLast hne,(List.dropLast_concat_getLast hne).symm⟩
  have ih:=DR.mk n qs (by simpa using e)
  unfold kv
  rw[List.map_append]
  show DR (mkD (kv qs++[(k3 p,V.bl true)])) _
  rw[mkD_snoc]
  exact ih.put
def Fit (L R C:Int) (rs:List Sp3) (h l r c:Int):Prop:=∀r' c',r - h≤r'→r'≤r+h→c - h≤c'→c'≤c+h→Ins L R C l r' c'∧(l,r',c')∉rs
structure Fl (cF:Addr) (H:Hp) (p:Addr) (L R C:Int) (rs:List Sp3):Prop where
 ex:∃dx z d fs kvs,H p=some (.ins cF dx fs)∧fs.lookup ("sizes" :Str)=some (.ref z)∧fs.lookup ("rocks" :Str)=some (.ref d)∧(fs.lookup ("is_rock" :Str)=none∧fs.lookup ("open_spots" :Str)=none)∧H z=some (.tup [.int L,.int R,.int C])∧H d=some (.dT kvs)∧DR kvs rs
theorem Fl.same {cF:Addr}{H H':Hp}{p:Addr}{L R C:Int}{rs:List Sp3}(h:Fl cF H p L R C rs)(s:Same H H'):Fl cF H' p L R C rs:=by
 obtain⟨dx,z,d,fs,kvs,h1,h2,h3,hn,h4,h5,h6⟩:=h.ex
 exact⟨dx,z,d,fs,kvs,s _ _ h1,h2,h3,hn,s _ _ h4,s _ _ h5,h6⟩
def Near (p:Sp3):Prop:= -100≤p.2.1∧p.2.1≤100∧ -100≤p.2.2∧p.2.2≤100
def At3 (H:Hp) (a:Addr) (l r c:Int):Prop:=H a=some (.tup [.int l,.int r,.int c])
def spInside:Sp:=fun vs H Q _=>∃(a b:Addr) (L R C l r c:Int),vs=[.ref a,.ref b]∧At3 H a L R C∧At3 H b l r c∧Q (.bl (decide (Ins L R C l r c))) H
def Prices (H:Hp) (pr vi:Addr) (L:Int):Prop:=∃(ps:List Addr) (n:Nat),H pr=some (.lst (ps.map V.ref))∧(ps.length:Int)=L∧(∀a∈ps,H a=some (.tup [.int 1,.int 1]))∧H vi=some (.lst (List.replicate n (.int 1)))∧(n:Int)=L - 1
theorem Prices.same {H H':Hp}{pr vi:Addr}{L:Int}(h:Prices H pr vi L)(s:Same H H'):Prices H' pr vi L:=by
 obtain⟨ps,n,h1,h2,h3,h4,h5⟩:=h
 exact⟨ps,n,s _ _ h1,h2,fun a ha=>s _ _ (h3 a ha),s _ _ h4,h5⟩
def spCSizes:Sp:=fun vs H Q _=>∃(z pr vi:Addr) (L R C:Int),vs=[.ref z,.ref pr,.ref vi]∧At3 H z L R C∧Szs L R C∧Prices H pr vi L∧∀H',Same H H'→Q .non H'
def spCPrice:Sp:=fun vs H Q _=>∃x m:Int,vs=[.int x,.int m]∧m≤x∧x≤1000000000000∧Q .non H
def spCPrices:Sp:=fun vs H Q _=>∃(pr vi d:Addr) (L:Int),vs=[.ref pr,.ref vi,.ref d]∧Prices H pr vi L∧H d=some (.dT [])∧∀H',Same H H'→Q .non H'
def spCInside:Sp:=fun vs H Q _=>∃(a b:Addr) (L R C l r c:Int),vs=[.ref a,.ref b]∧At3 H a L R C∧At3 H b l r c∧Ins L R C l r c∧Q .non H
def spFInit (cF:Addr):Sp:=fun vs H Q _=>∃(p dx z pr vi ro:Addr) (L R C:Int) (as:List Addr) (rs:List Sp3),vs=[.ref p,.ref z,.ref pr,.ref vi,.ref ro,.non]∧H p=some (.ins cF dx [])∧At3 H z L R C∧Szs L R C∧Prices H pr vi L∧
 H ro=some (.lst (as.map V.ref))∧Spots H as rs∧(∀q∈rs,Ins L R C q.1 q.2.1 q.2.2)∧rs.length≤63∧∀H',ButP H H' p→Fl cF H' p L R C rs→Q .non H'
def spIsRock (cF:Addr):Sp:=fun vs H Q _=>∃(p b:Addr) (L R C:Int) (rs:List Sp3) (q:Sp3),vs=[.ref p,.ref b]∧Fl cF H p L R C rs∧H b=some (.tup (tp q))∧Ins L R C q.1 q.2.1 q.2.2∧Q (.bl (decide (q∈rs))) H
def spFits (cN cB cF:Addr):Sp:=fun vs H Q _=>∃(p t b:Addr) (L R C:Int) (rs:List Sp3) (half room:Int) (q:Sp3),vs=[.ref p,.ref t,.ref b]∧Fl cF H p L R C rs∧Szs L R C∧Th cN cB H t half room∧0≤half∧half≤2∧H b=some (.tup (tp q))∧
 ∀(H':Hp) (k:Bool),Same H H'→(k=true↔Fit L R C rs half q.1 q.2.1 q.2.2)→Q (.bl k) H'
theorem not_fit1 {L R C h l r c:Int}{rs:List Sp3}(h0:0≤h)(n:¬Ins L R C l (r - h) (c - h)):¬Fit L R C rs h l r c:=fun f=>n (f (r - h) (c - h) (by omega) (by omega) (by omega) (by omega)).1
theorem not_fit2 {L R C h l r c:Int}{rs:List Sp3}(h0:0≤h)(n:¬Ins L R C l (r+h) (c+h)):¬Fit L R C rs h l r c:=fun f=>n (f (r+h) (c+h) (by omega) (by omega) (by omega) (by omega)).1
theorem take_at {α:Type}{rs:List α}{i:Nat}{p:α}(h:rs[i]?=some p):rs.take (i+1)=rs.take i++[p]:=by rw[List.take_succ,h];rfl
theorem fit_of {L R C h l r c:Int}{rs:List Sp3}{w:Nat}(hw:(w:Int)=2*h+1)(f:∀j<w,∀k<w,Ins L R C l (r - h+(j:Nat)) (c - h+(k:Nat))∧(l,r - h+(j:Nat),c - h+(k:Nat))∉rs):Fit L R C rs h l r c:=by
 intro r' c' h1 h2 h3 h4
 obtain⟨j,hj⟩:=Int.eq_ofNat_of_zero_le (show 0≤r' - (r - h) by omega)
 obtain⟨k,hk⟩:=Int.eq_ofNat_of_zero_le (show 0≤c' - (c - h) by omega)
 have:=f j (by omega) k (by omega)
 rw[show r - h+((j:Nat):Int)=r' by omega,show c - h+((k:Nat):Int)=c' by omega] at this
 exact this
theorem not_fit {L R C h l r c:Int}{rs:List Sp3}{w j k:Nat}(hw:(w:Int)=2*h+1)(hj:j<w)(hk:k<w)(n:¬(Ins L R C l (r - h+(j:Nat)) (c - h+(k:Nat))∧(l,r - h+(j:Nat),c - h+(k:Nat))∉rs)):¬Fit L R C rs h l r c:=
 fun f=>n (f _ _ (by omega) (by omega) (by omega) (by omega))
def ab (i:Int):Int:=if i<0 then -i else i
noncomputable def apV (l r c l' r' c':Int):V:=if l=l' then .int (mx (ab (r - r')) (ab (c - c'))) else .non
def spApart:Sp:=fun vs H Q _=>∃(a b:Addr) (l r c l' r' c':Int),vs=[.ref a,.ref b]∧H a=some (.tup [.int l,.int r,.int c])∧H b=some (.tup [.int l',.int r',.int c'])∧Q (apV l r c l' r' c') H
def spReach (cN cB:Addr):Sp:=fun vs H Q _=>∃(p q:Addr) (h1 r1 h2 r2:Int),vs=[.ref p,.ref q]∧Th cN cB H p h1 r1∧Th cN cB H q h2 r2∧Q (.int (h1+h2+mx r1 r2)) H
noncomputable def clV (h1 r1 h2 r2 l r c l' r' c':Int):Bool:=decide (l=l')&&decide (mx (ab (r - r')) (ab (c - c'))≤h1+h2+mx r1 r2)
def spClash (cN cB:Addr):Sp:=fun vs H Q _=>∃(p a q b:Addr) (h1 r1 h2 r2 l r c l' r' c':Int),vs=[.ref p,.ref a,.ref q,.ref b]∧Th cN cB H p h1 r1∧Th cN cB H q h2 r2∧
 H a=some (.tup [.int l,.int r,.int c])∧H b=some (.tup [.int l',.int r',.int c'])∧Q (.bl (clV h1 r1 h2 r2 l r c l' r' c')) H
theorem ab_le (i m:Int):ab i≤m↔(-m≤i∧i≤m):=by unfold ab;split<;>omega
theorem mx_le (i j m:Int):mx i j≤m↔(i≤m∧j≤m):=by unfold mx;split<;>omega
def Sp7 (c:T3):Prop:=∃x y w:Int,c=[x,y,w]∧(-1≤x∧x≤15)∧(-1≤y∧y≤15)∧(-1≤w∧w≤15)
theorem sp7_num {c:T3}(h:Sp7 c):∃k:Nat,k<4913∧c=v17 k:=by
 obtain⟨x,y,w,rfl,⟨x0,x1⟩,⟨y0,y1⟩,⟨w0,w1⟩⟩:=h
 obtain⟨a,ha⟩:=Int.eq_ofNat_of_zero_le (show 0≤x+1 by omega)
 obtain⟨b,hb⟩:=Int.eq_ofNat_of_zero_le (show 0≤y+1 by omega)
 obtain⟨d,hd⟩:=Int.eq_ofNat_of_zero_le (show 0≤w+1 by omega)
 refine⟨289*a+17*b+d,by omega,?_⟩
 unfold v17
 rw[show(289*a+17*b+d)/289=a by omega,show(289*a+17*b+d)/17%17=b by omega,show(289*a+17*b+d)%17=d by omega,←ha,←hb,←hd,Int.add_sub_cancel,Int.add_sub_cancel,Int.add_sub_cancel]
theorem sp7_inj {c d:T3}(hc:Sp7 c)(hd:Sp7 d)(e:hashT c=hashT d):c=d:=by
 obtain⟨i,hi,rfl⟩:=sp7_num hc
 obtain⟨j,hj,rfl⟩:=sp7_num hd
 rw[hash17 hi hj e]
def AtL (H:Hp) (l:Addr) (cs:List T3):Prop:=∃as:List Addr,H l=some (.lst (as.map V.ref))∧Tups H as cs
theorem AtL.same {H H':Hp}{l:Addr}{cs:List T3}(h:AtL H l cs)(s:Same H H'):AtL H' l cs:=by
 obtain⟨as,h1,h2⟩:=h
 exact⟨as,s _ _ h1,Tups.same h2 s⟩
structure Bas (fs:List (Str×V)) (x:Str) (h r:Int):Prop where
 few:fs.length≤5
 name:fs.lookup ("name" :Str)=some (.str x)
 half:fs.lookup ("half" :Str)=some (.int h)
 room:fs.lookup ("room" :Str)=some (.int r)
 ends:fs.lookup ("ends" :Str)=none
theorem Bas.put {fs:List (Str×V)}{x:Str}{h r:Int}{f:Str}{v:V}(b:Bas fs x h r)(hf:fs.length≤4)(h1:("name" :Str)≠f)(h2:("half" :Str)≠f)(h3:("room" :Str)≠f)(h4:("ends" :Str)≠f):Bas (putF f v fs) x h r:=
 ⟨Nat.le_trans (length_putF f v fs) (by omega),by rw[lookup_putF,if_neg h1];exact b.name,by rw[lookup_putF,if_neg h2];exact b.half,by rw[lookup_putF,if_neg h3];exact b.room,by rw[lookup_putF,if_neg h4];exact b.ends⟩
def spName:Sp:=fun vs H Q _=>∃x:Str,vs=[.str x]∧NmOk x∧∀H',Same H H'→Q (.bl true) H'
def spUnlike:Sp:=fun vs H Q _=>∃(l:Addr) (cs:List T3),vs=[.ref l]∧AtL H l cs∧(∀c∈cs,Sp7 c)∧cs.Nodup∧cs.length≤18∧∀H',Same H H'→Q .non H'
def spTInit (cN cB:Addr):Sp:=fun vs H Q _=>∃(p C dx:Addr) (x:Str) (h r:Int),vs=[.ref p,.str x,.int h,.int r]∧H p=some (.ins C dx [])∧(C=cN∨C=cB)∧NmOk x∧0≤h∧h≤2∧0≤r∧r≤3∧
 ∀H' fs,ButP H H' p→H' p=some (.ins C dx fs)→Bas fs x h r→fs.length≤3→Q .non H'
def spNInit (cN:Addr):Sp:=fun vs H Q _=>∃(p dx l:Addr) (as:List Addr) (cs:List T3) (x:Str) (h r:Int),vs=[.ref p,.str x,.ref l,.int h,.int r]∧H p=some (.ins cN dx [])∧H l=some (.lst (as.map V.ref))∧Tups H as cs∧(∀c∈cs,Sp7 c)∧cs.Nodup∧2≤cs.length∧cs.length≤6∧
 NmOk x∧0≤h∧h≤2∧0≤r∧r≤3∧∀H' fs t,ButP H H' p→H' p=some (.ins cN dx fs)→Bas fs x h r→fs.lookup ("pins" :Str)=some (.ref t)→H' t=some (.tup (as.map V.ref))→Q .non H'
def spBInit (cB:Addr):Sp:=fun vs H Q _=>∃(p dx l m:Addr) (as bs:List Addr) (cs ds:List T3) (x:Str) (r:Int),vs=[.ref p,.str x,.ref l,.ref m,.int r]∧H p=some (.ins cB dx [])∧H l=some (.lst (as.map V.ref))∧H m=some (.lst (bs.map V.ref))∧
 Tups H as cs∧Tups H bs ds∧(∀c∈cs++ds,Sp7 c)∧(cs++ds).Nodup∧1≤cs.length∧cs.length≤6∧cs.length≤ds.length∧ds.length≤12∧NmOk x∧0≤r∧r≤3∧
 ∀H' fs t u,ButP H H' p→H' p=some (.ins cB dx fs)→Bas fs x 0 r→fs.lookup ("starts" :Str)=some (.ref t)→fs.lookup ("goals" :Str)=some (.ref u)→H' t=some (.tup (as.map V.ref))→H' u=some (.tup (bs.map V.ref))→Q .non H'
def spNEnds (cN:Addr):Sp:=fun vs H Q _=>∃(p dx t:Addr) (fs:List (Str×V)) (as:List Addr),vs=[.ref p]∧H p=some (.ins cN dx fs)∧fs.lookup ("pins" :Str)=some (.ref t)∧H t=some (.tup (as.map V.ref))∧∀H' l,Same H H'→H l=none→H' l=some (.lst (as.map V.ref))→Q (.ref l) H'
def spBEnds (cB:Addr):Sp:=fun vs H Q _=>∃(p dx t u:Addr) (fs:List (Str×V)) (as bs:List Addr),vs=[.ref p]∧H p=some (.ins cB dx fs)∧fs.lookup ("starts" :Str)=some (.ref t)∧fs.lookup ("goals" :Str)=some (.ref u)∧H t=some (.tup (as.map V.ref))∧H u=some (.tup (bs.map V.ref))∧as.length+bs.length≤100∧∀H' l,Same H H'→H l=none→H' l=some (.lst ((as++bs).map V.ref))→Q (.ref l) H'
structure Tg where
 nm:Str
 hf:Int
 rm:Int
 es:List T3
structure TgOk (g:Tg):Prop where
 nm:NmOk g.nm
 h0:0≤g.hf
 h2:g.hf≤2
 r0:0≤g.rm
 r3:g.rm≤3
 es:∀c∈g.es,Sp7 c
 ln:g.es.length≤7
def TA (cN cB:Addr) (H:Hp) (p:Addr) (g:Tg):Prop:=∃(dx:Addr) (fs:List (Str×V)) (as:List Addr),Bas fs g.nm g.hf g.rm∧Tups H as g.es∧
 ((H p=some (.ins cN dx fs)∧∃t,fs.lookup ("pins" :Str)=some (.ref t)∧H t=some (.tup (as.map V.ref)))∨
  (H p=some (.ins cB dx fs)∧∃t u a b,as=a++b∧fs.lookup ("starts" :Str)=some (.ref t)∧fs.lookup ("goals" :Str)=some (.ref u)∧H t=some (.tup (a.map V.ref))∧H u=some (.tup (b.map V.ref))))
theorem TA.same {cN cB:Addr}{H H':Hp}{p:Addr}{g:Tg}(t:TA cN cB H p g)(s:Same H H'):TA cN cB H' p g:=by
 obtain⟨dx,fs,as,b,ht,h⟩:=t
 refine⟨dx,fs,as,b,Tups.same ht s,?_⟩
 rcases h with ⟨h1,t,h2,h3⟩|⟨h1,t,u,a,b,e,h2,h3,h4,h5⟩
 ·exact .inl ⟨s _ _ h1,t,h2,s _ _ h3⟩
 ·exact .inr ⟨s _ _ h1,t,u,a,b,e,h2,h3,s _ _ h4,s _ _ h5⟩
theorem TA.th {cN cB:Addr}{H:Hp}{p:Addr}{g:Tg}(t:TA cN cB H p g):Th cN cB H p g.hf g.rm:=by
 obtain⟨dx,fs,as,b,ht,h⟩:=t
 rcases h with ⟨h1,_⟩|⟨h1,_⟩
 ·exact⟨_,dx,fs,h1,.inl rfl,b.half,b.room⟩
 ·exact⟨_,dx,fs,h1,.inr rfl,b.half,b.room⟩
theorem te_ends {cN cB:Addr}{te:TE}{H:Hp}{σ:St}{p:Addr}{g:Tg}{Q:VK}(hv:Ev te σ H (.ref p))(hT:TA cN cB H p g)(hz:g.es.length≤7)(q:∀H' l,Same H H'→H l=none→AtL H' l g.es→Q (.ref l) H'):
  tMeth2 cN cB "ends" (spNEnds cN) (spBEnds cB) te σ H Q:=by
 obtain⟨dx,fs,as,b,ht,h⟩:=hT
 have len:as.length=g.es.length:=Paired.length ht
 rcases h with ⟨h1,t,h2,h3⟩|⟨h1,t,u,a,b',rfl,h2,h3,h4,h5⟩
 ·exact hv _ ⟨p,cN,dx,fs,rfl,h1,b.ends,.inl ⟨rfl,p,dx,t,fs,as,rfl,h1,h2,h3,fun H' l s n e=>q H' l s n ⟨as,e,Tups.same ht s⟩⟩⟩
 ·rw[List.length_append] at len
  exact hv _ ⟨p,cB,dx,fs,rfl,h1,b.ends,.inr ⟨rfl,p,dx,t,u,fs,a,b',rfl,h1,h2,h3,h4,h5,by omega,fun H' l s n e=>q H' l s n ⟨a++b',e,Tups.same ht s⟩⟩⟩
def spCell (K:PySem.W.Frag):Sp:=fun vs H Q _=>∃(a:Addr) (ns:List Int) (i:Int),vs=[.ref a,.int i]∧SqL K H a (ns.map V.int)∧0≤i∧∀v:Int,Q (.int v) H
def q3 (c:T3):Sp3:=(c.getD 0 0,c.getD 1 0,c.getD 2 0)
def t3 (p:Sp3):T3:=[p.1,p.2.1,p.2.2]
theorem sp7_at {H:Hp}{a:Addr}{c:T3}(h:Sp7 c)(e:H a=some (.tup (c.map V.int))):H a=some (.tup [.int (q3 c).1,.int (q3 c).2.1,.int (q3 c).2.2]):=by
 obtain⟨x,y,w,rfl,_⟩:=h
 exact e
theorem sp7_b {c:T3}(h:Sp7 c):(-1≤(q3 c).1∧(q3 c).1≤15)∧(-1≤(q3 c).2.1∧(q3 c).2.1≤15)∧(-1≤(q3 c).2.2∧(q3 c).2.2≤15):=by
 obtain⟨x,y,w,rfl,h⟩:=h
 exact h
noncomputable def clT (g h:Tg) (c d:T3):Bool:=clV g.hf g.rm h.hf h.rm (q3 c).1 (q3 c).2.1 (q3 c).2.2 (q3 d).1 (q3 d).2.1 (q3 d).2.2
theorem ab_sub (x y:Int):ab (x - y)=ab (y - x):=by unfold ab;split<;>split<;>omega
theorem paired_at {α β:Type}{R:α→β→Prop}:∀{as:List α} {bs:List β} (_:Paired R as bs) {i:Nat} {a:α},as[i]?=some a→∃b,bs[i]?=some b∧R a b
 |_,_,.nil,i,a,h=>by simp at h
 |_,_,.cons r t,0,a,h=>by
  simp only[List.getElem?_cons_zero,Option.some.injEq] at h
  subst h
  exact⟨_,rfl,r⟩
 |_,_,.cons r t,i+1,a,h=>by
  simp only[List.getElem?_cons_succ] at h⊢
  exact paired_at t h
theorem ta_fld {K:PySem.W.Frag}{cN cB:Addr}{H:Hp}{σ:St}{p:Addr}{g:Tg}{f:Str}{v:V}{te:TE}(t:TA cN cB H p g)(hv:Ev te σ H (.ref p))(c1:Cls K cN)(n1:NoAttr K cN f)(c2:Cls K cB)(n2:NoAttr K cB f)(hl:∀fs,Bas fs g.nm g.hf g.rm→fs.lookup f=some v):Ev (tFld K te f) σ H v:=by
 obtain⟨dx,fs,as,b,ht,h⟩:=t
 rcases h with ⟨h1,_⟩|⟨h1,_⟩
 ·exact ev_fldT hv h1 c1 n1 (hl _ b)
 ·exact ev_fldT hv h1 c2 n2 (hl _ b)
theorem rd_forT {K:PySem.W.Frag}{te:TE}{g:TG}{tb:TS}{D:Ends}{σ:St}{H:Hp}(h:te σ H fun x H1=>∃a,x=.ref a∧(∃xs,SqL K H1 a xs)∧tFor (fun _ H R=>R (Itl K a) H) g tb D σ H1):tFor (iList K te) g tb D σ H:=h
theorem tb_cal {sp:Sp}{ta:L2.TA}{σ:St}{H:Hp}{Q:Bool→Hp→Prop}(h:ta σ H fun vs H1=>sp (vs++[]) H1 (fun v H2=>∃b,v=.bl b∧Q b H2) E0):tB (tCall sp [] E0 ta) σ H Q:=h
theorem any_snoc {α:Type}{l:List α}{f:α→Bool}{i:Nat}{x:α}(h:(l.take i).any f=false)(hx:l[i]?=some x)(e:f x=false):(l.take (i+1)).any f=false:=by
 rw[take_one hx,List.any_append,h,List.any_cons,e];rfl
theorem lt_of_get {α:Type}{l:List α}{i:Nat}{x:α}(h:l[i]?=some x):i<l.length:=(List.getElem?_eq_some_iff.mp h).1
theorem ta_but {cN cB:Addr}{H H':Hp}{p q:Addr}{g:Tg}(t:TA cN cB H q g)(b:ButP H H' p)(hi:∀C dx fs,H p=some (.ins C dx fs)→fs=[])(ht:∀xs,¬H p=some (.tup xs)):TA cN cB H' q g:=by
 obtain⟨dx,fs,as,bb,hte,h⟩:=t
 have up:∀a xs,H a=some (.tup xs)→H' a=some (.tup xs):=fun a xs e=>b a _ (fun z=>ht xs (z▸e)) e
 refine⟨dx,fs,as,bb,Paired.mapP hte fun a c e=>up a _ e,?_⟩
 rcases h with ⟨h1,t,h2,h3⟩|⟨h1,t,u,a,b',e,h2,h3,h4,h5⟩
 ·exact .inl ⟨b _ _ (fun z=>by have:=bb.name;have e0:=hi _ dx fs (z▸h1);rw[e0] at this;cases this) h1,t,h2,up _ _ h3⟩
 ·exact .inr ⟨b _ _ (fun z=>by have:=bb.name;have e0:=hi _ dx fs (z▸h1);rw[e0] at this;cases this) h1,t,u,a,b',e,h2,h3,up _ _ h4,up _ _ h5⟩
theorem rd_drop {te:TE}{D:Ends}{σ:St}{H:Hp}(h:te σ H fun _ H1=>D.nx σ H1):tDrop te D σ H:=h
noncomputable def nmB (x:Str):Bool:=x.cps.all (· <128)&&(decide (1≤x.length)&&(decide (x.length≤12)&&((match cp x with|[]=>false|c::_=>decide (c∈lets))&&((cp x).all fun c=>decide (c∈lets)||decide (c∈figs)))))
theorem nm_of {x:Str}(h:nmB x=true):NmOk x:=by
 unfold nmB at h
 simp only[Bool.and_eq_true] at h
 obtain⟨h1,h2,h3,h4,h5⟩:=h
 refine⟨h1,of_decide_eq_true h2,of_decide_eq_true h3,?_,fun c hc=>?_⟩
 ·cases e:cp x with
  |nil=>rw[e] at h4;cases h4
  |cons c r=>rw[e] at h4;exact⟨c,r,rfl,of_decide_eq_true h4⟩
 ·have:=List.all_eq_true.mp h5 c hc
  rw[Bool.or_eq_true] at this
  exact this.imp of_decide_eq_true of_decide_eq_true
theorem et_raw {te:TE}{σ:St}{H:Hp}{Q:Bool→Hp→Prop}(h:te σ H fun v H1=>∃b,v=.bl b∧Q b H1):tTest te σ H Q:=h
theorem rd_rng2 {ta:L2.TA}{i j:Int}{g:TG}{tb:TS}{D:Ends}{σ:St}{H:Hp}(h:EvA ta σ H [.int i,.int j])(h1: -(2^62)≤i∧i<2^62∧ -(2^62)≤j∧j<2^62)(q:tFor (fun _ H R=>R (Itr i (j - i).toNat) H) g tb D σ H):tFor (iRng2 ta) g tb D σ H:=h _ ⟨i,j,rfl,h1,q⟩
theorem te_inT {K:PySem.W.Frag}{tb:TE}{σ:St}{H:Hp}{b p:Addr}{as:List Addr}{c:List Int}{cs:List (List Int)}{Q:VK}(hb:Ev tb σ H (.ref p))(h1:H b=some (.tup (c.map V.int)))(h2:SqL K H p (as.map V.ref))(h3:Tups H as cs)(q:Q (.bl (decide (c∈cs))) H):tb σ H fun y H2=>rInT K false (.ref b) y H2 Q:=hb _ ⟨b,p,as,c,cs,rfl,rfl,h1,h2,h3,q⟩
theorem dp_row {K:PySem.W.Frag}{H:Hp}{l:Addr}{as:List Addr}{cs:List (List Int)}(h:H l=some (.lst (as.map V.ref)))(t:Tups H as cs):Dp K H (.ref l) (.list (cs.map fun c=>PyData.tuple (c.map PyData.int))):=.lst (SqL.of h) (Tups.dps t)
theorem or_F {t u:TT}{σ:St}{H:Hp}{a:Bool}{Q:Bool→Hp→Prop}(h:EvT t σ H a)(e:a=false)(q:u σ H Q):tOr t u σ H Q:=te_or h e q
theorem paired_snoc {α β:Type}{R:α→β→Prop}{a:α}{b:β}(r:R a b):∀{as:List α} {bs:List β} (_:Paired R as bs),Paired R (as++[a]) (bs++[b])
 |_,_,.nil=> .cons r .nil
 |_,_,.cons x t=> .cons x (paired_snoc r t)
theorem ta_lst {cN cB:Addr}{H:Hp}{l q:Addr}{g:Tg}{xs ys:List V}(t:TA cN cB H q g)(hl:H l=some (.lst xs)):TA cN cB (upd H l (.lst ys)) q g:=
 ta_but t (fun b o hb e=>by rw[upd_ne hb];exact e) (fun C dx fs h=>by rw[hl] at h;cases h) fun zs h=>by rw[hl] at h;cases h
theorem wl1:∀a,a<5→(Txt.slice "wire" none (some ((a:Nat):Int))).length+1≤100∧(Txt.slice "wire" (some ((a:Nat):Int)) none).length≤100:=by decide+kernel
theorem mem_t3 {rs:List Sp3}{l r c:Int}:[l,r,c]∈rs.map t3↔(l,r,c)∈rs:=by
 constructor
 ·intro h
  obtain⟨p,hp,e⟩:=List.mem_map.mp h
  unfold t3 at e
  injection e with e1 e
  injection e with e2 e
  injection e with e3 e
  rw[←e1,←e2,←e3]
  exact hp
 ·intro h
  exact List.mem_map.mpr ⟨_,h,rfl⟩
theorem spots_tups {H:Hp}:∀{as:List Addr} {rs:List Sp3},Spots H as rs→Tups H as (rs.map t3)
 |_,_,.nil=> .nil
 |_,_,.cons r t=> .cons r (spots_tups t)
theorem sq_lcT {te te':TE}{g:TG}{tt:TT}{n i:Nat}{ix:List Nat}{u:TS}{E:Ends}{σ:St}{H:Hp}(h:te σ H fun x H1=>∃j:Int,[x]=[.int j]∧ -(2^62)≤j∧j<2^62∧∀D,H1 D=none→lcW (inSt n ix σ) g tt te' (Itr 0 j.toNat) H1 D fun H'=>u E (σ.set i (some (.ref D))) H'):tSeq (tLcSet (iRng1 (tCons te tNil)) n ix g tt te' i) u E σ H:=h
theorem sq_drop {te:TE}{u:TS}{D:Ends}{σ:St}{H:Hp}(h:te σ H fun _ H1=>u D σ H1):tSeq (tDrop te) u D σ H:=h
def inSq (R C x y z n:Int) (q:Sp3):Prop:=q.1=x∧(0≤q.2.1∧q.2.1<R∧y - n≤q.2.1∧q.2.1≤y+n)∧(0≤q.2.2∧q.2.2<C∧z - n≤q.2.2∧q.2.2≤z+n)
noncomputable def n3 (R C:Int) (n:Nat):Sp3:=((n:Int)/C/R,(n:Int)/C%R,(n:Int)%C)
noncomputable def gr3 (R C:Int) (M:Nat):List Sp3:=(List.range M).map (n3 R C)
noncomputable def cd (p:Prop):Bool:= @decide p (Classical.propDecidable p)
theorem cd_iff {p:Prop}:cd p=true↔p:=by unfold cd;exact @decide_eq_true_iff p (Classical.propDecidable p)
theorem cd_not {p:Prop}:cd p=false↔¬p:=by unfold cd;exact @decide_eq_false_iff_not p (Classical.propDecidable p)
abbrev Ot:=Tg×List T3
def rch (g h:Tg):Int:=g.hf+h.hf+mx g.rm h.rm
def nearP (R C:Int) (g:Tg) (os:List Ot) (q:Sp3):Prop:=∃o∈os,∃c∈o.2,inSq R C (q3 c).1 (q3 c).2.1 (q3 c).2.2 (rch g o.1) q
noncomputable def frB (L R C:Int) (rs:List Sp3) (g:Tg) (os:List Ot) (q:Sp3):Bool:=cd (Fit L R C rs g.hf q.1 q.2.1 q.2.2∧¬nearP R C g os q)
noncomputable def clO (g:Tg) (q:Sp3) (o:Ot):Bool:=o.2.any fun c=>clT g o.1 (t3 q) c
noncomputable def barS (L R C:Int) (rs:List Sp3) (g:Tg) (os:List Ot) (q:Sp3):List Str:=(if cd (Fit L R C rs g.hf q.1 q.2.1 q.2.2)=true then [] else [(Str.ofString "#")])++(os.filter (clO g q)).map (·.1.nm)
def OA (cN cB:Addr) (H:Hp) (a:Addr) (o:Ot):Prop:=∃p m,H a=some (.tup [.ref p,.ref m])∧TA cN cB H p o.1∧AtL H m o.2
theorem OA.same {cN cB:Addr}{H H':Hp}{a:Addr}{o:Ot}(h:OA cN cB H a o)(s:Same H H'):OA cN cB H' a o:=by
 obtain⟨p,m,h1,h2,h3⟩:=h
 exact⟨p,m,s _ _ h1,h2.same s,h3.same s⟩
def OL (cN cB:Addr) (H:Hp) (l:Addr) (os:List Ot):Prop:=∃as:List Addr,H l=some (.lst (as.map V.ref))∧Paired (fun a o=>OA cN cB H a o) as os
theorem OL.same {cN cB:Addr}{H H':Hp}{l:Addr}{os:List Ot}(h:OL cN cB H l os)(s:Same H H'):OL cN cB H' l os:=by
 obtain⟨as,h1,h2⟩:=h
 exact⟨as,s _ _ h1,Paired.mapP h2 fun _ _ e=>OA.same e s⟩
structure OtOk (o:Ot):Prop where
 g:TgOk o.1
 s:∀c∈o.2,Sp7 c
 n:o.2.length≤18
structure OsOk (os:List Ot):Prop where
 ok:∀o∈os,OtOk o
 n:os.length≤3
abbrev Wg:=List (T3×T3)
def PA2 (H:Hp) (a:Addr) (w:T3×T3):Prop:=∃b c,H a=some (.tup [.ref b,.ref c])∧H b=some (.tup (w.1.map V.int))∧H c=some (.tup (w.2.map V.int))
theorem PA2.mono {H H':Hp}{a:Addr}{w:T3×T3}(h:PA2 H a w)(s:∀b xs,H b=some (.tup xs)→H' b=some (.tup xs)):PA2 H' a w:=by
 obtain⟨b,c,h1,h2,h3⟩:=h
 exact⟨b,c,s _ _ h1,s _ _ h2,s _ _ h3⟩
def WA (H:Hp) (v:V) (W:Wg):Prop:=(v=.non∧W=[])∨∃l as,v=.ref l∧H l=some (.lst (as.map V.ref))∧Paired (fun a w=>PA2 H a w) as W
theorem WA.same {H H':Hp}{v:V}{W:Wg}(h:WA H v W)(s:Same H H'):WA H' v W:=by
 rcases h with h|⟨l,as,h1,h2,h3⟩
 ·exact .inl h
 ·exact .inr ⟨l,as,h1,s _ _ h2,Paired.mapP h3 fun _ _ e=>e.mono fun b xs e=>s _ _ e⟩
def wsp (W:Wg):List T3:=W.flatMap fun w=>[w.1,w.2]
def hsp (g:Tg) (W:Wg):List T3:=g.es++wsp W
structure WgOk (W:Wg):Prop where
 s:∀w∈W,Sp7 w.1∧Sp7 w.2
 n:W.length≤8
def Srt3 (ds:List T3):Prop:=ds.Pairwise fun c d=>HT.lexLt c d=true
def spSpotOf (_:PySem.W.Frag):Sp:=fun vs H Q _=>∃(z:Addr) (L R C:Int) (n:Nat),vs=[.ref z,.int n]∧At3 H z L R C∧Szs L R C∧(n:Int)<L*R*C∧∀(H':Hp) (t:Addr),Same H H'→H t=none→H' t=some (.tup ((sN R C n).map V.int))→Q (.ref t) H'
def spSquare9:Sp:=fun vs H Q _=>∃(a b:Addr) (L R C x y z n:Int),vs=[.ref a,.ref b,.int n]∧At3 H a L R C∧At3 H b x y z∧(1≤R∧R≤16)∧(1≤C∧C≤16)∧(-1≤y∧y≤15)∧(-1≤z∧z≤15)∧(0≤n∧n≤10)∧
 ∀(p:Addr) (ps:List Addr) (qs:List Sp3) (H':Hp),Same H H'→H' p=some (.lst (ps.map V.ref))→Spots H' ps qs→(∀q,q∈qs↔inSq R C x y z n q)→qs.length≤256→Q (.ref p) H'
def spOpen (cF:Addr):Sp:=fun vs H Q _=>∃(p:Addr) (L R C:Int) (rs:List Sp3),vs=[.ref p]∧Fl cF H p L R C rs∧Szs L R C∧∀H' l as,Same H H'→H' l=some (.lst (as.map V.ref))→Spots H' as ((gr3 R C (L*R*C).toNat).filter fun q=>!decide (q∈rs))→Q (.ref l) H'
def spClashA (cN cB:Addr):Sp:=fun vs H Q _=>∃(p l q m:Addr) (g h:Tg) (cs ds:List T3),vs=[.ref p,.ref l,.ref q,.ref m]∧TA cN cB H p g∧TA cN cB H q h∧AtL H l cs∧AtL H m ds∧(∀c∈cs,Sp7 c)∧(∀d∈ds,Sp7 d)∧ds.length≤18∧∀H',Same H H'→Q (.bl (cs.any fun c=>ds.any fun d=>clT g h c d)) H'
def spHeld (cN cB:Addr):Sp:=fun vs H Q _=>∃(p:Addr) (v:V) (g:Tg) (W:Wg),vs=[.ref p,v]∧TA cN cB H p g∧TgOk g∧2≤g.es.length∧g.es.Nodup∧g.es.length≤2∧WA H v W∧WgOk W∧∀H' l ds,Same H H'→H l=none→AtL H' l ds→Srt3 ds→(∀c,c∈ds↔c∈hsp g W)→Q (.ref l) H'
def spLHeld (cN cB:Addr):Sp:=spHeld cN cB
def spTooNear (cN cB cF:Addr):Sp:=fun vs H Q _=>∃(f t l:Addr) (L R C:Int) (rs:List Sp3) (g:Tg) (os:List Ot),vs=[.ref f,.ref t,.ref l]∧Fl cF H f L R C rs∧Szs L R C∧TA cN cB H t g∧TgOk g∧OL cN cB H l os∧OsOk os∧
 ∀H' d kvs ns,Same H H'→H' d=some (.dT kvs)→DR kvs ns→(∀q,q∈ns↔nearP R C g os q)→Q (.ref d) H'
def spFreeFor (cN cB cF:Addr):Sp:=fun vs H Q _=>∃(f t l:Addr) (L R C:Int) (rs:List Sp3) (g:Tg) (os:List Ot),vs=[.ref f,.ref t,.ref l]∧Fl cF H f L R C rs∧Szs L R C∧TA cN cB H t g∧TgOk g∧OL cN cB H l os∧OsOk os∧
 ∀H' d,Same H H'→H' d=some (.dT (kv ((gr3 R C (L*R*C).toNat).filter (frB L R C rs g os))))→Q (.ref d) H'
def spBarred (cN cB cF:Addr):Sp:=fun vs H Q _=>∃(f t l b:Addr) (L R C:Int) (rs:List Sp3) (g:Tg) (os:List Ot) (q:Sp3),vs=[.ref f,.ref t,.ref l,.ref b]∧Fl cF H f L R C rs∧Szs L R C∧TA cN cB H t g∧TgOk g∧OL cN cB H l os∧OsOk os∧H b=some (.tup (tp q))∧Sp7 (t3 q)∧
 ∀H' m,Same H H'→H' m=some (.lst ((barS L R C rs g os q).map V.str))→Q (.ref m) H'
def spFolded (K:PySem.W.Frag):Sp:=fun vs H Q _=>∃(a:Addr) (ns:List Int),vs=[.ref a,.int 8,.int 34]∧SqL K H a (ns.map V.int)∧ns.length≤63∧∀(H':Hp) (l:Addr) (gs:List Int),Same H H'→H l=none→H' l=some (.lst (gs.map V.int))→gs.length=34→Q (.ref l) H'
structure Szl (L R C:Int):Prop where
 l0:1≤L
 l1:L≤2
 r0:1≤R
 r1:R≤9
 c0:1≤C
 c1:C≤9
theorem Szl.s {L R C:Int}(h:Szl L R C):Szs L R C:=⟨h.l0,by have:=h.l1;omega,h.r0,by have:=h.r1;omega,h.c0,by have:=h.c1;omega⟩
def spSizes:Sp:=fun vs H Q _=>∃c:Int,vs=[.int c]∧∀H' t (L R C:Int),Same H H'→At3 H' t L R C→Szl L R C→Q (.ref t) H'
def spSpot:Sp:=fun vs H Q _=>∃(z:Addr) (L R C c m:Int),vs=[.ref z,.int c,.int m]∧At3 H z L R C∧Szl L R C∧0≤m∧m≤3∧∀H' t (x y w:Int),Same H H'→H' t=some (.tup [.int x,.int y,.int w])→(0≤x∧x<L)→(0≤y∧y<R+m)→(0≤w∧w<C+m)→Q (.ref t) H'
def spLThing (cN cB:Addr):Sp:=fun vs H Q _=>∃(z:Addr) (x:Str) (L R C c t:Int),vs=[.str x,.int c,.ref z,.int t]∧NmOk x∧At3 H z L R C∧Szl L R C∧∀H' p g,Same H H'→TA cN cB H' p g→TgOk g→g.es.length=2→g.es.Nodup→Q (.ref p) H'
abbrev Ow:=Tg×Wg
structure OwOk (o:Ow):Prop where
 g:TgOk o.1
 e2:o.1.es.length=2
 nd:o.1.es.Nodup
 w:WgOk o.2
def OWf (H0:Hp) (cN cB:Addr) (H:Hp) (a:Addr) (o:Ow):Prop:=∃p v,H a=some (.tup [.ref p,v])∧TA cN cB H p o.1∧WA H v o.2∧∀lw,v=.ref lw→H0 lw=none
theorem OWf.same {H0:Hp}{cN cB:Addr}{H H':Hp}{a:Addr}{o:Ow}(h:OWf H0 cN cB H a o)(s:Same H H'):OWf H0 cN cB H' a o:=by
 obtain⟨p,m,h1,h2,h3,h4⟩:=h
 exact⟨p,m,s _ _ h1,h2.same s,h3.same s,h4⟩
def spLOthers (K:PySem.W.Frag) (cN cB:Addr):Sp:=fun vs H Q _=>∃(a z l:Addr) (ns cs:List Int) (L R C:Int),vs=[.ref a,.ref z,.ref l]∧SqL K H a (ns.map V.int)∧At3 H z L R C∧Szl L R C∧H l=some (.lst (cs.map V.int))∧cs.length=34∧∀H' l' as os,Same H H'→H l'=none→H' l'=some (.lst (as.map V.ref))→Paired (fun a o=>OWf H cN cB H' a o) as os→(∀o∈os,OwOk o)→os.length≤3→Q (.ref l') H'
def spLFits:Sp:=fun vs H Q _=>∃(z l b:Addr) (as:List Addr) (L R C half:Int) (rs:List Sp3) (q:Sp3),vs=[.ref z,.ref l,.int half,.ref b]∧At3 H z L R C∧H l=some (.lst (as.map V.ref))∧Spots H as rs∧0≤half∧half≤2∧H b=some (.tup (tp q))∧Near q∧(0≤q.1∧q.1<L)∧∀(H':Hp) (k:Bool),Same H H'→(k=true↔Fit L R C rs half q.1 q.2.1 q.2.2)→Q (.bl k) H'
def spLNear (cN cB:Addr):Sp:=fun vs H Q _=>∃(t b a:Addr) (g:Tg) (q:Sp3) (o:Ot),vs=[.ref t,.ref b,.ref a]∧TA cN cB H t g∧H b=some (.tup (tp q))∧OA cN cB H a o∧OtOk o∧Q (.bl (clO g q o)) H
def spLBarred (cN cB:Addr):Sp:=fun vs H Q _=>∃(z r t l b:Addr) (as:List Addr) (L R C:Int) (rs:List Sp3) (g:Tg) (os:List Ot) (q:Sp3),vs=[.ref z,.ref r,.ref t,.ref l,.ref b]∧At3 H z L R C∧H r=some (.lst (as.map V.ref))∧Spots H as rs∧TA cN cB H t g∧TgOk g∧OL cN cB H l os∧OsOk os∧H b=some (.tup (tp q))∧Sp7 (t3 q)∧(0≤q.1∧q.1<L)∧
 ∀H' m,Same H H'→H' m=some (.lst ((barS L R C rs g os q).map V.str))→Q (.ref m) H'
def spLaw (K:PySem.W.Frag):Sp:=fun vs H Q _=>∃(a:Addr) (ns:List Int),vs=[.ref a]∧SqL K H a (ns.map V.int)∧ns.length≤63∧∀H',Q (.bl true) H'
section
variable {P:Program} {w:World} {K:PySem.W.Frag} {mg:Str→Option Value} {base:Heap}
set_option maxHeartbeats 1000000
theorem ok_Inside {cThing cNet cBundle cFloor cMS:Addr}{f:Addr}{fd:FuncData}(F:Fun K "inside" "inside" sInside f fd)(T:Txt K mg cThing cNet cBundle cFloor cMS):FnOk P w K mg base CX0 1 f fd ["sizes", "spot"] spInside:=by
 have sc:FnScope ["sizes", "spot", "layers", "rows", "columns", "layer", "row", "column"] ["sizes", "spot"] (defScope sInside):=⟨rfl,rfl,rfl,by decide+kernel,rfl,by decide+kernel,by decide+kernel⟩
 refine F.ok sc (fun vs H Q E h=>by repeat (first|(obtain⟨rfl,_⟩:=h;rfl)|(obtain⟨_,h⟩:=h))) (fun cdv A outer s H vs Q E hr h=>?_)
 obtain⟨a,b,L,R,C,l,r,c,rfl,ha,hb,q⟩:=h
 refine⟨_,(pss_cons (ps_asg (pv 0) (pg_tup rfl (pgs_cons (pg_name (i:=2) sc.nd rfl (Or.inl rfl)) (pgs_cons (pg_name (i:=3) sc.nd rfl (Or.inl rfl)) (pgs_cons (pg_name (i:=4) sc.nd rfl (Or.inl rfl)) pgs_nil)))))
 (pss_cons (ps_asg (pv 1) (pg_tup rfl (pgs_cons (pg_name (i:=5) sc.nd rfl (Or.inl rfl)) (pgs_cons (pg_name (i:=6) sc.nd rfl (Or.inl rfl)) (pgs_cons (pg_name (i:=7) sc.nd rfl (Or.inl rfl)) pgs_nil)))))
 (pss_one (ps_ret (pe_and (pe_chain op_le op_lt pe_int (pv 5) (pv 2)) (pe_and (pe_chain op_le op_lt pe_int (pv 6) (pv 3)) (pe_one (pe_chain op_le op_lt pe_int (pv 7) (pv 4))))))))),?_⟩
 refine sq_un3 (ev_var rfl) (SqT.of ha) ?_
 refine sq_un3 (ev_var rfl) (SqT.of hb) ?_
 exact rd_ret (ev_of (ev_and (ev_chain ev_c (ev_var rfl) (ev_var rfl)) fun _=>ev_and (ev_chain ev_c (ev_var rfl) (ev_var rfl)) fun _=>ev_chain ev_c (ev_var rfl) (ev_var rfl)) (congrArg V.bl ins_b)) q
theorem ok_CSizes {cThing cNet cBundle cFloor cMS:Addr}{f:Addr}{fd:FuncData}(F:Fun K "check_sizes" "check_sizes" sCSizes f fd)(hB:K.In base)(T:Txt K mg cThing cNet cBundle cFloor cMS):FnOk P w K mg base CX0 1 f fd ["sizes", "prices", "vias"] spCSizes:=by
 have sc:FnScope ["sizes", "prices", "vias", "size", "most"] ["sizes", "prices", "vias"] (defScope sCSizes):=⟨rfl,rfl,rfl,by decide+kernel,rfl,by decide+kernel,by decide+kernel⟩
 refine F.ok sc (fun vs H Q E h=>by repeat (first|(obtain⟨rfl,_⟩:=h;rfl)|(obtain⟨_,h⟩:=h))) (fun cdv A outer s H vs Q E hr h=>?_)
 obtain⟨z,pr,vi,L,R,C,rfl,hz,sz,hp,q⟩:=h
 refine⟨_,(pss_cons (ps_for PassesOwn.never rfl (pi_zipT (by rfl) T.zip_ (pa_cons (pv 0) (pa_cons (pe_const (by rfl) (by exact T.g_MOST_SIZES)) pa_nil))) (pg_tup rfl (pgs_cons (pg_name (i:=3) sc.nd rfl (Or.inl rfl)) (pgs_cons (pg_name (i:=4) sc.nd rfl (Or.inl rfl)) pgs_nil)))
 (pss_one (ps_if (pt_not (pt_chain op_le op_le pe_int (pv 3) (pv 4)))
 (pss_one ps_never)
 pss_nil)))
 (pss_cons (ps_if (pt_cmpR op_ne (pe_callB call_len (by rfl) T.len_ bt_len (pa_cons (pv 1) pa_nil)) (pe_ix ix_tup (pv 0) pe_int (fun _ _=>rfl)) (nomark _))
 (pss_one ps_never)
 pss_nil)
 (pss_one (ps_if (pt_cmpR op_ne (pe_callB call_len (by rfl) T.len_ bt_len (pa_cons (pv 2) pa_nil)) (pe_op op_sub (pe_ix ix_tup (pv 0) pe_int (fun _ _=>rfl)) pe_int) (nomark _))
 (pss_one ps_never)
 pss_nil)))),?_⟩
 refine⟨_,rfl,z,cMS,rfl,⟨_,SqT.of hz⟩,⟨_,T.t_MOST_SIZES _⟩,?_⟩
 refine for_zipT (K:=K) (xs:=[.int L,.int R,.int C]) (ys:=[.int 4,.int 16,.int 16]) rfl (fun i σ H'=>∃x3 x4:Option V,σ=[some (.ref z),some (.ref pr),some (.ref vi),x3,x4]∧Same H H') ⟨none,none,rfl,Same.refl H⟩ (fun i σ H' _ ⟨_,_,_,s⟩=>⟨SqT.of (s _ _ hz),T.t_MOST_SIZES _⟩) ?_ ?_
 ·rintro i x y p σ H2 hx hy np ⟨x3,x4,rfl,s2⟩
  obtain⟨n,m,rfl,rfl,n1,n2⟩:∃n m:Int,x=.int n∧y=.int m∧1≤n∧n≤m:=by
   match i,hx,hy with
   |0,hx,hy=>exact⟨L,4,(Option.some.inj hx).symm,(Option.some.inj hy).symm,sz.l0,sz.l1⟩
   |1,hx,hy=>exact⟨R,16,(Option.some.inj hx).symm,(Option.some.inj hy).symm,sz.r0,sz.r1⟩
   |2,hx,hy=>exact⟨C,16,(Option.some.inj hx).symm,(Option.some.inj hy).symm,sz.c0,sz.c1⟩
  refine⟨p,_,rfl,SqT.of upd_same,rfl,_,_,rfl,_,_,rfl,rfl,?_⟩
  exact rd_ifF (et_notF (et_of (et_test (ev_chain ev_c (ev_var rfl) (ev_var rfl))) (by rw[decide_eq_true n1,decide_eq_true n2];rfl))) rfl ⟨_,_,rfl,s2.upd np⟩
 ·rintro σ H2 ⟨x3,x4,rfl,s2⟩
  obtain⟨ps,n,h1,h2,h3,h4,h5⟩:=hp.same s2
  have hz2:=s2 _ _ hz
  refine st ?_
  refine sq_ifF (et_of (et_test (ev_neI (ev_cb (ea_cons (ev_var rfl) ea_nil) fun Q' q'=>⟨_,_,rfl,.inl ⟨_,SqL.of h1,rfl⟩,q'⟩) (ev_ixT (v:=.int L) (ev_var rfl) ev_c (SqT.of hz2) rfl))) (by rw[List.length_map,decide_eq_true h2];rfl)) rfl ?_
  exact rd_ifF (et_of (et_test (ev_neI (ev_cb (ea_cons (ev_var rfl) ea_nil) fun Q' q'=>⟨_,_,rfl,.inl ⟨_,SqL.of h4,rfl⟩,q'⟩) (ev_I0 (ev_ixT (v:=.int L) (ev_var rfl) ev_c (SqT.of hz2) rfl) ev_c))) (by rw[List.length_replicate,decide_eq_true h5];rfl)) rfl (q _ s2)
theorem ok_CPrice {cThing cNet cBundle cFloor cMS:Addr}{f:Addr}{fd:FuncData}(F:Fun K "check_price" "check_price" sCPrice f fd)(hB:K.In base)(T:Txt K mg cThing cNet cBundle cFloor cMS):FnOk P w K mg base CX0 1 f fd ["price", "least"] spCPrice:=by
 have sc:FnScope ["price", "least"] ["price", "least"] (defScope sCPrice):=⟨rfl,rfl,rfl,by decide+kernel,rfl,by decide+kernel,by decide+kernel⟩
 refine F.ok sc (fun vs H Q E h=>by repeat (first|(obtain⟨rfl,_⟩:=h;rfl)|(obtain⟨_,h⟩:=h))) (fun cdv A outer s H vs Q E hr h=>?_)
 obtain⟨x,m,rfl,h1,h2,q⟩:=h
 refine⟨_,(pss_one (ps_if (pt_not (pt_chain op_le op_le (pv 1) (pv 0) (pe_const (by rfl) (by exact T.g_MOST_PRICE))))
 (pss_one ps_never)
 pss_nil)),?_⟩
 exact rd_ifF (et_notF (et_of (et_test (ev_chain (ev_var rfl) (ev_var rfl) ev_c)) (by rw[decide_eq_true h1,decide_eq_true h2];rfl))) rfl q
theorem ok_CPrices {cThing cNet cBundle cFloor cMS:Addr}{f:Addr}{fd:FuncData}(F:Fun K "check_prices" "check_prices" sCPrices f fd)(T:Txt K mg cThing cNet cBundle cFloor cMS)(gCPrice:Callee P w K mg base "check_price" 1 ["price", "least"] spCPrice):FnOk P w K mg base CX0 2 f fd ["prices", "vias", "tolls"] spCPrices:=by
 have sc:FnScope ["prices", "vias", "tolls", "ahead", "across", "price", "toll"] ["prices", "vias", "tolls"] (defScope sCPrices):=⟨rfl,rfl,rfl,by decide+kernel,rfl,by decide+kernel,by decide+kernel⟩
 refine F.ok sc (fun vs H Q E h=>by repeat (first|(obtain⟨rfl,_⟩:=h;rfl)|(obtain⟨_,h⟩:=h))) (fun cdv A outer s H vs Q E hr h=>?_)
 obtain⟨pr,vi,d,L,rfl,⟨ps,n,h1,h2,h3,h4,h5⟩,hd,q⟩:=h
 refine⟨_,(pss_cons (ps_for PassesOwn.never rfl (pi_list (pv 0)) (pg_tup rfl (pgs_cons (pg_name (i:=3) sc.nd rfl (Or.inl rfl)) (pgs_cons (pg_name (i:=4) sc.nd rfl (Or.inl rfl)) pgs_nil)))
 (pss_cons (ps_expr (pe_cal gCPrice (hr.mono (by decide)) (by rfl) (pa_cons (pv 3) (pa_cons pe_int pa_nil))))
 (pss_one (ps_expr (pe_cal gCPrice (hr.mono (by decide)) (by rfl) (pa_cons (pv 4) (pa_cons pe_int pa_nil)))))))
 (pss_cons (ps_for PassesOwn.never rfl (pi_list (pv 1)) (pg_name (i:=5) sc.nd rfl (Or.inl rfl))
 (pss_one (ps_expr (pe_cal gCPrice (hr.mono (by decide)) (by rfl) (pa_cons (pv 5) (pa_cons pe_int pa_nil))))))
 (pss_one (ps_frz (ps_for PassesOwn.never rfl (pi_values (pv 2)) (pg_name (i:=6) sc.nd rfl (Or.inl rfl))
 (pss_one (ps_expr (pe_cal gCPrice (hr.mono (by decide)) (by rfl) (pa_cons (pv 6) (pa_cons pe_int pa_nil)))))))))),?_⟩
 refine⟨_,rfl,pr,rfl,⟨_,SqL.of h1⟩,?_⟩
 refine for_list (K:=K) (xs:=ps.map V.ref) (fun i σ H'=>∃x3 x4:Option V,σ=[some (.ref pr),some (.ref vi),some (.ref d),x3,x4,none,none]∧Same H H') ⟨none,none,rfl,Same.refl H⟩ (fun i σ H' _ ⟨_,_,_,s⟩=>SqL.of (s _ _ h1)) ?_ ?_
 ·rintro i x σ H2 hx ⟨x3,x4,rfl,s2⟩
  obtain⟨a,ha,rfl⟩:=at_ref hx
  refine⟨a,_,rfl,SqT.of (s2 _ _ (h3 a (List.mem_of_getElem? ha))),rfl,_,_,rfl,_,_,rfl,rfl,?_⟩
  refine⟨_,rfl,1,1,rfl,by decide,by decide,?_⟩
  exact⟨_,rfl,1,1,rfl,by decide,by decide,_,_,rfl,s2⟩
 ·rintro σ H2 ⟨x3,x4,rfl,s2⟩
  refine st ?_
  refine⟨_,rfl,vi,rfl,⟨_,SqL.of (s2 _ _ h4)⟩,?_⟩
  refine for_list (K:=K) (xs:=List.replicate n (.int 1)) (fun i σ H'=>∃x5:Option V,σ=[some (.ref pr),some (.ref vi),some (.ref d),x3,x4,x5,none]∧Same H H') ⟨none,rfl,s2⟩ (fun i σ H' _ ⟨_,_,s⟩=>SqL.of (s _ _ h4)) ?_ ?_
  ·rintro i x σ H3 hx ⟨x5,rfl,s3⟩
   have ex:=List.eq_of_mem_replicate (List.mem_of_getElem? hx)
   subst ex
   refine gn ?_
   exact⟨_,rfl,1,1,rfl,by decide,by decide,_,rfl,s3⟩
  ·rintro σ H3 ⟨x5,rfl,s3⟩
   have hd3:=s3 _ _ hd
   refine⟨d,.dT [],hd3,trivial,fun o=>?_⟩
   refine⟨_,rfl,d,o,.dT [],rfl,upd_same,trivial,?_⟩
   refine for_vals (fun i σ H'=>σ=[some (.ref pr),some (.ref vi),some (.ref d),x3,x4,x5,none]∧H'=upd H3 d (.frz o (.dT []))) ⟨rfl,rfl⟩ (fun i σ H' _ ⟨_,e⟩=>e▸upd_same) ?_ ?_
   ·exact fun i x v σ H' _ hi=>absurd hi (Nat.not_lt_zero _)
   ·rintro σ H' ⟨rfl,rfl⟩
    exact⟨upd_same,q _ (s3.trans (same_thaw hd3))⟩
theorem ok_CInside {cThing cNet cBundle cFloor cMS:Addr}{f:Addr}{fd:FuncData}(F:Fun K "check_inside" "check_inside" sCInside f fd)(hB:K.In base)(T:Txt K mg cThing cNet cBundle cFloor cMS)(gInside:Callee P w K mg base "inside" 1 ["sizes", "spot"] spInside):FnOk P w K mg base CX0 2 f fd ["sizes", "spot"] spCInside:=by
 have sc:FnScope ["sizes", "spot"] ["sizes", "spot"] (defScope sCInside):=⟨rfl,rfl,rfl,by decide+kernel,rfl,by decide+kernel,by decide+kernel⟩
 refine F.ok sc (fun vs H Q E h=>by repeat (first|(obtain⟨rfl,_⟩:=h;rfl)|(obtain⟨_,h⟩:=h))) (fun cdv A outer s H vs Q E hr h=>?_)
 obtain⟨a,b,L,R,C,l,r,c,rfl,ha,hb,hi,q⟩:=h
 refine⟨_,(pss_one (ps_if (pt_not (pt_val (pe_cal gInside (hr.mono (by decide)) (by rfl) (pa_cons (pv 0) (pa_cons (pv 1) pa_nil)))))
 (pss_one ps_never)
 pss_nil)),?_⟩
 refine if_of ⟨_,rfl,_,rfl,a,b,L,R,C,l,r,c,rfl,ha,hb,_,rfl,?_⟩
 rw[decide_eq_true hi]
 exact iteF q
theorem ok_FInit {cThing cNet cBundle cFloor cMS:Addr}{f:Addr}{fd:FuncData}(F:FunD K "__init__" "Floor.__init__" sFInit f fd)(T:Txt K mg cThing cNet cBundle cFloor cMS)(gCSizes:Callee P w K mg base "check_sizes" 1 ["sizes", "prices", "vias"] spCSizes)(gCPrices:Callee P w K mg base "check_prices" 2 ["prices", "vias", "tolls"] spCPrices)(gCInside:Callee P w K mg base "check_inside" 2 ["sizes", "spot"] spCInside):FnOk P w K mg base CX0 3 f fd ["self", "sizes", "prices", "vias", "rocks", "tolls"] (spFInit cFloor):=by
 have sc:FnScope ["self", "sizes", "prices", "vias", "rocks", "tolls", "told_rocks", "told_tolls", "spot"] ["self", "sizes", "prices", "vias", "rocks", "tolls"] (defScope sFInit):=⟨rfl,rfl,rfl,by decide+kernel,rfl,by decide+kernel,by decide+kernel⟩
 refine F.ok sc (fun vs H Q E h=>by repeat (first|(obtain⟨rfl,_⟩:=h;rfl)|(obtain⟨_,h⟩:=h))) (fun cdv A outer s H vs Q E hr h=>?_)
 obtain⟨p,dx,z,pr,vi,ro,L,R,C,as,rs,rfl,hp,hz,sz,hpr,hro,hsp,hin,hfew,q⟩:=h
 refine⟨_,(pss_cons (ps_set (i:=6) sc.nd rfl (Or.inl rfl) (pe_ifExp (pt_cmpR op_isN (pv 4) pe_non (nomark _)) (pe_lst pa_nil) (pv 4)))
 (pss_cons (ps_set (i:=7) sc.nd rfl (Or.inl rfl) (pe_ifExp (pt_cmpR op_isN (pv 5) pe_non (nomark _)) pe_dnewT (pv 5)))
 (pss_cons (ps_expr (pe_cal gCSizes (hr.mono (by decide)) (by rfl) (pa_cons (pv 1) (pa_cons (pv 2) (pa_cons (pv 3) pa_nil)))))
 (pss_cons (ps_expr (pe_cal gCPrices (hr.mono (by decide)) (by rfl) (pa_cons (pv 2) (pa_cons (pv 3) (pa_cons (pv 7) pa_nil)))))
 (pss_cons (ps_for PassesOwn.never rfl (pi_list (pv 6)) (pg_name (i:=8) sc.nd rfl (Or.inl rfl))
 (pss_one (ps_expr (pe_cal gCInside (hr.mono (by decide)) (by rfl) (pa_cons (pv 1) (pa_cons (pv 8) pa_nil))))))
 (pss_cons (ps_frz (ps_for PassesOwn.never rfl (pi_keys (pv 7)) (pg_name (i:=8) sc.nd rfl (Or.inl rfl))
 (pss_one (ps_expr (pe_cal gCInside (hr.mono (by decide)) (by rfl) (pa_cons (pv 1) (pa_cons (pv 8) pa_nil)))))))
 (pss_cons (ps_fld (pv 0) (pv 1) rfl)
 (pss_cons (ps_fld (pv 0) (pe_lc (ls:=["ahead", "across"]) (ys:=[]) (ix:=[]) rfl ⟨rfl,by rfl,by rfl,by rfl,by rfl,rfl⟩ (pi_list (pv 2)) (fun _ _ _ _ _=>(pg_tupK (K:=K) (n:=2) rfl rfl (pgs_cons (pg_name (i:=0) (show(["ahead", "across"]:List Str).Nodup by decide+kernel) rfl (Or.inl rfl) (hf:=.inr rfl)) (pgs_cons (pg_name (i:=1) (show(["ahead", "across"]:List Str).Nodup by decide+kernel) rfl (Or.inl rfl) (hf:=.inr rfl)) pgs_nil)) rfl rfl)) (fun _ _ _ _ _=>pf_nil) (fun _ _ _ _ _=>(pe_tup (pa_cons (pv 0) (pa_cons (pv 1) pa_nil))))) rfl)
 (pss_cons (ps_fld (pv 0) (pe_callTy call_list_of (by rfl) T.list_ bt_list (pa_cons (pv 3) pa_nil)) rfl)
 (pss_cons (ps_fld (pv 0) (pe_callTy (call_dictPairs rfl hr) (by rfl) T.dict_ bt_dict (pa_cons (pe_lc (ls:=["spot"]) (ys:=[]) (ix:=[]) rfl ⟨rfl,by rfl,by rfl,by rfl,by rfl,rfl⟩ (pi_list (pv 6)) (fun _ _ _ _ _=>(pg_name (i:=0) (show(["spot"]:List Str).Nodup by decide+kernel) rfl (Or.inl rfl))) (fun _ _ _ _ _=>pf_nil) (fun _ _ _ _ _=>(pe_tup (pa_cons (pv 0) (pa_cons pe_bl pa_nil))))) pa_nil)) rfl)
 (pss_one (ps_fld (pv 0) (pe_callTy call_dict (by rfl) T.dict_ bt_dict (pa_cons (pv 7) pa_nil)) rfl)))))))))))),?_⟩
 have hsz:sizeLine=2^24:=rfl
 have len:as.length=rs.length:=Paired.length hsp
 refine sq_asg (if_F (et_of (et_test (ev_isN (ev_var rfl) ev_c)) (by rfl)) ⟨_,rfl,?_⟩)
 refine sq_asg (if_T (et_of (et_test (ev_isN (ev_var rfl) ev_c)) (by rfl)) fun d nd=>?_)
 have s1:Same H (upd H d (.dT [])):=(Same.refl H).upd nd
 have hd:upd H d (.dT []) d=some (.dT []):=upd_same
 have ndp:d≠p:=Ne.symm (ne_of_none hp nd)
 revert s1 hd
 generalize upd H d (.dT [])=H1
 intro s1 hd
 refine⟨_,rfl,_,rfl,_,rfl,z,pr,vi,L,R,C,rfl,s1 _ _ hz,sz,hpr.same s1,fun H2 s2=>?_⟩
 have s12:=s1.trans s2
 refine⟨_,rfl,_,rfl,_,rfl,pr,vi,d,L,rfl,hpr.same s12,s2 _ _ hd,fun H3 s3=>?_⟩
 have s13:=s12.trans s3
 refine⟨_,rfl,ro,rfl,⟨_,SqL.of (s13 _ _ hro)⟩,?_⟩
 refine for_list (K:=K) (xs:=as.map V.ref) (fun i σ H'=>∃x8:Option V,σ=[some (.ref p),some (.ref z),some (.ref pr),some (.ref vi),some (.ref ro),some .non,some (.ref ro),some (.ref d),x8]∧Same H3 H') ⟨none,rfl,Same.refl H3⟩ (fun i σ H' _ ⟨_,_,s⟩=>SqL.of (s _ _ (s13 _ _ hro))) ?_ ?_
 ·rintro i x σ H4 hx ⟨x8,rfl,s4⟩
  obtain⟨a,ha,rfl⟩:=at_ref hx
  obtain⟨u,hu,hau⟩:=Spots.at hsp ha
  refine gn ?_
  exact⟨_,rfl,_,rfl,z,a,L,R,C,u.1,u.2.1,u.2.2,rfl,s4 _ _ (s13 _ _ hz),s4 _ _ (s13 _ _ hau),hin u (List.mem_of_getElem? hu),_,rfl,s4⟩
 rintro σ H4 ⟨x8,rfl,s4⟩
 have hd4:=s4 _ _ (s3 _ _ (s2 _ _ hd))
 refine⟨d,.dT [],hd4,trivial,fun o=>?_⟩
 refine⟨_,rfl,d,o,.dT [],rfl,upd_same,trivial,?_⟩
 refine for_keys (fun i σ H'=>σ=[some (.ref p),some (.ref z),some (.ref pr),some (.ref vi),some (.ref ro),some .non,some (.ref ro),some (.ref d),x8]∧H'=upd H4 d (.frz o (.dT []))) ⟨rfl,rfl⟩ (fun i σ H' _ ⟨_,e⟩=>e▸upd_same) ?_ ?_
 ·exact fun i x v σ H' _ hi=>absurd hi (Nat.not_lt_zero _)
 rintro σ H5 ⟨rfl,rfl⟩
 refine⟨upd_same,?_⟩
 have s5:Same H4 (upd (upd H4 d (.frz o (.dT []))) d (.dT [])):=same_thaw hd4
 have hd5:upd (upd H4 d (.frz o (.dT []))) d (.dT []) d=some (.dT []):=upd_same
 revert s5 hd5
 generalize upd (upd H4 d (.frz o (.dT []))) d (.dT [])=H5
 intro s5 hd5
 have s15:=s13.trans (s4.trans s5)
 have hp5:=s15 _ _ hp
 have nzp:z≠p:=ne_of hz hp (fun z=>nomatch z)
 obtain⟨ps,n,p1,p2,p3,p4,p5⟩:=hpr
 have nprp:pr≠p:=ne_of p1 hp (fun z=>nomatch z)
 have nvip:vi≠p:=ne_of p4 hp (fun z=>nomatch z)
 have nrop:ro≠p:=ne_of hro hp (fun z=>nomatch z)
 refine⟨_,rfl,_,rfl,p,cFloor,dx,[],rfl,hp5,T.cl_Floor,T.na_Floor_sizes,(by decide),?_⟩
 have l1:=length_putF "sizes" (.ref z) []
 have k1:=lookup_putF "sizes" "sizes" (.ref z) []
 have m1:=lookup_putF "sizes" "is_rock" (.ref z) []
 have o1:=lookup_putF "sizes" "open_spots" (.ref z) []
 rw[if_pos rfl] at k1
 rw[if_neg (by decide+kernel)] at m1
 rw[if_neg (by decide+kernel)] at o1
 revert l1 k1 m1 o1
 generalize putF "sizes" (.ref z) []=f1
 intro l1 k1 m1 o1
 have b6:ButP H (upd H5 p (.ins cFloor dx f1)) p:=(ButP.of s15).up
 have hp6:upd H5 p (.ins cFloor dx f1) p=some (.ins cFloor dx f1):=upd_same
 have hd6:upd H5 p (.ins cFloor dx f1) d=some (.dT []):=by rw[upd_ne ndp];exact hd5
 revert b6 hp6 hd6
 generalize upd H5 p (.ins cFloor dx f1)=H6
 intro b6 hp6 hd6
 refine⟨_,rfl,pr,rfl,⟨_,SqL.of (b6 _ _ nprp p1)⟩,fun D nD=>?_⟩
 refine lc_listG (K:=K) (xs:=ps.map V.ref) (fun i τ H'=>∃(x0 x1:Option V) (us:List V),τ=[x0,x1]∧Same H6 H'∧H' D=some (.lst us)∧us.length=i) ⟨none,none,[],rfl,(Same.refl H6).upd nD,upd_same,rfl⟩ (fun i τ H' _ ⟨_,_,_,_,s,_⟩=>SqL.of (s _ _ (b6 _ _ nprp p1))) ?_ ?_
 ·rintro i x τ H' hx ⟨x0,x1,us,rfl,s,hD,hul⟩
  obtain⟨a,ha,rfl⟩:=at_ref hx
  have hi:i<ps.length:=(List.getElem?_eq_some_iff.mp ha).1
  have hl4:=sz.l1
  have hap:=p3 a (List.mem_of_getElem? ha)
  refine⟨a,_,rfl,SqT.of (s _ _ (b6 _ _ (ne_of hap hp (fun z=>nomatch z)) hap)),rfl,?_⟩
  refine⟨_,_,rfl,gn ?_⟩
  refine⟨_,_,rfl,gn ?_⟩
  refine⟨rfl,?_⟩
  refine lc_el ?_
  refine⟨_,rfl,_,rfl,(by show 2≤sizeLine;decide),fun t nt=>?_⟩
  refine⟨us,(by rw[upd_ne (ne_of_none hD nt)];exact hD),by omega,_,_,us++[.ref t],rfl,same_at (s.upd nt) nD,upd_same,by simp[hul]⟩
 rintro τ H7 ⟨x0,x1,us,rfl,s7,hD7,_⟩
 have nDp:D≠p:=Ne.symm (ne_of_none hp6 nD)
 refine⟨_,rfl,p,cFloor,dx,f1,rfl,s7 _ _ hp6,T.cl_Floor,T.na_Floor_prices,by simp at l1;omega,?_⟩
 have l2:=length_putF "prices" (.ref D) f1
 have k2:=lookup_putF "prices" "sizes" (.ref D) f1
 have m2:=lookup_putF "prices" "is_rock" (.ref D) f1
 have o2:=lookup_putF "prices" "open_spots" (.ref D) f1
 rw[if_neg (by decide+kernel)] at k2
 rw[if_neg (by decide+kernel)] at m2
 rw[if_neg (by decide+kernel)] at o2
 rw[k1] at k2
 rw[m1] at m2
 rw[o1] at o2
 revert l2 k2 m2 o2
 generalize putF "prices" (.ref D) f1=f2
 intro l2 k2 m2 o2
 have b8:ButP H (upd H7 p (.ins cFloor dx f2)) p:=(b6.st s7).up
 have hp8:upd H7 p (.ins cFloor dx f2) p=some (.ins cFloor dx f2):=upd_same
 have hd8:upd H7 p (.ins cFloor dx f2) d=some (.dT []):=by rw[upd_ne ndp];exact s7 _ _ hd6
 revert b8 hp8 hd8
 generalize upd H7 p (.ins cFloor dx f2)=H8
 intro b8 hp8 hd8
 refine⟨_,rfl,vi,_,rfl,.inl (SqL.of (b8 _ _ nvip p4)),fun l nl=>?_⟩
 have s9:Same H8 (upd H8 l (.lst (List.replicate n (.int 1)))):=(Same.refl H8).upd nl
 revert s9
 generalize upd H8 l (.lst (List.replicate n (.int 1)))=H9
 intro s9
 refine⟨_,rfl,p,cFloor,dx,f2,rfl,s9 _ _ hp8,T.cl_Floor,T.na_Floor_vias,by simp at l1;omega,?_⟩
 have l3:=length_putF "vias" (.ref l) f2
 have k3':=lookup_putF "vias" "sizes" (.ref l) f2
 have m3:=lookup_putF "vias" "is_rock" (.ref l) f2
 have o3:=lookup_putF "vias" "open_spots" (.ref l) f2
 rw[if_neg (by decide+kernel),k2] at k3'
 rw[if_neg (by decide+kernel),m2] at m3
 rw[if_neg (by decide+kernel),o2] at o3
 revert l3 k3' m3 o3
 generalize putF "vias" (.ref l) f2=f3
 intro l3 k3' m3 o3
 have bA:ButP H (upd H9 p (.ins cFloor dx f3)) p:=(b8.st s9).up
 have hpA:upd H9 p (.ins cFloor dx f3) p=some (.ins cFloor dx f3):=upd_same
 have hdA:upd H9 p (.ins cFloor dx f3) d=some (.dT []):=by rw[upd_ne ndp];exact s9 _ _ hd8
 revert bA hpA hdA
 generalize upd H9 p (.ins cFloor dx f3)=HA
 intro bA hpA hdA
 refine⟨_,rfl,ro,rfl,⟨_,SqL.of (bA _ _ nrop hro)⟩,fun D2 nD2=>?_⟩
 refine lc_listG (K:=K) (xs:=as.map V.ref) (fun i τ H'=>∃(x0:Option V) (es:List Addr),τ=[x0]∧Same HA H'∧H' D2=some (.lst (es.map V.ref))∧Prs H' es (kv (rs.take i))∧es.length=i) ⟨none,[],rfl,(Same.refl HA).upd nD2,upd_same,.nil,rfl⟩ (fun i τ H' _ ⟨_,_,_,s,_⟩=>SqL.of (s _ _ (bA _ _ nrop hro))) ?_ ?_
 ·rintro i x τ H' hx ⟨x0,es,rfl,s,hD,hes,hel⟩
  obtain⟨a,ha,rfl⟩:=at_ref hx
  obtain⟨u,hu,hau⟩:=Spots.at hsp ha
  have hi:i<as.length:=(List.getElem?_eq_some_iff.mp ha).1
  refine gn (lc_el ?_)
  refine⟨_,rfl,(by show 2≤sizeLine;decide),fun t nt=>?_⟩
  have hau':=s _ _ (bA _ _ (ne_of hau hp (fun z=>nomatch z)) hau)
  have keep:∀b xs,H' b=some (.tup xs)→upd (upd H' t (.tup [.ref a,.bl true])) D2 (.lst (es.map V.ref++[.ref t])) b=some (.tup xs):=fun b xs e=>by
   rw[upd_ne (ne_of e hD (fun z=>nomatch z)),upd_ne (ne_of_none e nt)];exact e
  have ntD:t≠D2:=Ne.symm (ne_of_none hD nt)
  refine⟨es.map V.ref,(by rw[upd_ne (Ne.symm ntD)];exact hD),by rw[List.length_map];omega,_,es++[t],rfl,same_at (s.upd nt) nD2,by rw[upd_same,List.map_append];rfl,?_,by simp[hel]⟩
  rw[take_at hu]
  unfold kv
  rw[List.map_append]
  exact prs_app (Prs.mono hes keep) (.cons ⟨a,by rw[upd_ne ntD,upd_same],keep _ _ hau'⟩ .nil)
 rintro τ HB ⟨x0',es,rfl,sB,hDB,hes,hel⟩
 rw[List.length_map,len,List.take_length] at hes
 refine⟨D2,es,kv rs,rfl,hDB,hes,fun rd nrd=>?_⟩
 have sC:Same HB (upd HB rd (.dT (mkD (kv rs)))):=(Same.refl HB).upd nrd
 have hrC:upd HB rd (.dT (mkD (kv rs))) rd=some (.dT (mkD (kv rs))):=upd_same
 have nrdp:rd≠p:=Ne.symm (ne_of_none (sB _ _ hpA) nrd)
 revert sC hrC
 generalize upd HB rd (.dT (mkD (kv rs)))=HC
 intro sC hrC
 have sAC:=sB.trans sC
 refine⟨_,rfl,p,cFloor,dx,f3,rfl,sAC _ _ hpA,T.cl_Floor,T.na_Floor_rocks,by simp at l1;omega,?_⟩
 have l4:=length_putF "rocks" (.ref rd) f3
 have k4:=lookup_putF "rocks" "sizes" (.ref rd) f3
 have m4:=lookup_putF "rocks" "is_rock" (.ref rd) f3
 have o4:=lookup_putF "rocks" "open_spots" (.ref rd) f3
 have r4:=lookup_putF "rocks" "rocks" (.ref rd) f3
 rw[if_neg (by decide+kernel),k3'] at k4
 rw[if_neg (by decide+kernel),m3] at m4
 rw[if_neg (by decide+kernel),o3] at o4
 rw[if_pos rfl] at r4
 revert l4 k4 m4 o4 r4
 generalize putF "rocks" (.ref rd) f3=f4
 intro l4 k4 m4 o4 r4
 have bD:ButP H (upd HC p (.ins cFloor dx f4)) p:=(bA.st sAC).up
 have hpD:upd HC p (.ins cFloor dx f4) p=some (.ins cFloor dx f4):=upd_same
 have hdD:upd HC p (.ins cFloor dx f4) d=some (.dT []):=by rw[upd_ne ndp];exact sAC _ _ hdA
 have hrD:upd HC p (.ins cFloor dx f4) rd=some (.dT (mkD (kv rs))):=by rw[upd_ne nrdp];exact hrC
 revert bD hpD hdD hrD
 generalize upd HC p (.ins cFloor dx f4)=HD
 intro bD hpD hdD hrD
 refine⟨_,rfl,d,rfl,.inr ⟨[],.inl hdD,List.nodup_nil,fun t nt=>?_⟩⟩
 have sE:Same HD (upd HD t (.dT [])):=(Same.refl HD).upd nt
 revert sE
 generalize upd HD t (.dT [])=HE
 intro sE
 refine⟨_,rfl,p,cFloor,dx,f4,rfl,sE _ _ hpD,T.cl_Floor,T.na_Floor_tolls,by simp at l1;omega,?_⟩
 have k5:=lookup_putF "tolls" "sizes" (.ref t) f4
 have m5:=lookup_putF "tolls" "is_rock" (.ref t) f4
 have o5:=lookup_putF "tolls" "open_spots" (.ref t) f4
 have r5:=lookup_putF "tolls" "rocks" (.ref t) f4
 rw[if_neg (by decide+kernel),k4] at k5
 rw[if_neg (by decide+kernel),m4] at m5
 rw[if_neg (by decide+kernel),o4] at o5
 rw[if_neg (by decide+kernel),r4] at r5
 refine q _ (bD.st sE).up ⟨dx,z,rd,_,mkD (kv rs),upd_same,k5,r5,⟨m5,o5⟩,?_,?_,DR.mk _ rs rfl⟩
 ·rw[upd_ne nzp];exact sE _ _ (bD _ _ nzp hz)
 ·rw[upd_ne nrdp];exact sE _ _ hrD
theorem ok_IsRock {cThing cNet cBundle cFloor cMS:Addr}{f:Addr}{fd:FuncData}(F:Fun K "is_rock" "Floor.is_rock" sIsRock f fd)(T:Txt K mg cThing cNet cBundle cFloor cMS)(gCInside:Callee P w K mg base "check_inside" 2 ["sizes", "spot"] spCInside):FnOk P w K mg base CX0 3 f fd ["self", "spot"] (spIsRock cFloor):=by
 have sc:FnScope ["self", "spot"] ["self", "spot"] (defScope sIsRock):=⟨rfl,rfl,rfl,by decide+kernel,rfl,by decide+kernel,by decide+kernel⟩
 refine F.ok sc (fun vs H Q E h=>by repeat (first|(obtain⟨rfl,_⟩:=h;rfl)|(obtain⟨_,h⟩:=h))) (fun cdv A outer s H vs Q E hr h=>?_)
 obtain⟨p,b,L,R,C,rs,u,rfl,hf,hb,hi,q⟩:=h
 refine⟨_,(pss_cons (ps_expr (pe_cal gCInside (hr.mono (by decide)) (by rfl) (pa_cons (pe_fld (pv 0) rfl) (pa_cons (pv 1) pa_nil))))
 (pss_one (ps_ret (pe_cmp (pc_din (Room.one hr) (pv 1) (pe_fld (pv 0) rfl)))))),?_⟩
 obtain⟨dx,z,d,fs,kvs,h1,h2,h3,hn,h4,h5,h6⟩:=hf.ex
 refine⟨_,rfl,p,cFloor,dx,fs,_,rfl,h1,T.cl_Floor,T.na_Floor_sizes,h2,_,rfl,z,b,L,R,C,u.1,u.2.1,u.2.2,rfl,h4,hb,hi,?_⟩
 refine⟨_,rfl,_,rfl,p,cFloor,dx,fs,_,rfl,h1,T.cl_Floor,T.na_Floor_rocks,h3,d,_,rfl,DGet.t (k:=k3 u) h5 hb,?_⟩
 rw[h6 u]
 exact q
theorem ok_Apart {cThing cNet cBundle cFloor cMS:Addr}{f:Addr}{fd:FuncData}(F:Fun K "apart" "apart" sApart f fd)(T:Txt K mg cThing cNet cBundle cFloor cMS):FnOk P w K mg base CX0 1 f fd ["one", "two"] spApart:=by
 have sc:FnScope ["one", "two"] ["one", "two"] (defScope sApart):=⟨rfl,rfl,rfl,by decide+kernel,rfl,by decide+kernel,by decide+kernel⟩
 refine F.ok sc (fun vs H Q E h=>by repeat (first|(obtain⟨rfl,_⟩:=h;rfl)|(obtain⟨_,h⟩:=h))) (fun cdv A outer s H vs Q E hr h=>?_)
 obtain⟨a,b,l,r,c,l',r',c',rfl,ha,hb,q⟩:=h
 refine⟨_,(pss_cons (ps_if (pt_cmpR op_ne (pe_ix ix_tup (pv 0) pe_int (fun _ _=>rfl)) (pe_ix ix_tup (pv 1) pe_int (fun _ _=>rfl)) (nomark _))
 (pss_one (ps_ret pe_non))
 pss_nil)
 (pss_one (ps_ret (pe_callB (call_max2 rfl) (by rfl) T.max_ bt_max (pa_cons (pe_callB call_abs (by rfl) T.abs_ bt_abs (pa_cons (pe_op op_sub (pe_ix ix_tup (pv 0) pe_int (fun _ _=>rfl)) (pe_ix ix_tup (pv 1) pe_int (fun _ _=>rfl))) pa_nil)) (pa_cons (pe_callB call_abs (by rfl) T.abs_ bt_abs (pa_cons (pe_op op_sub (pe_ix ix_tup (pv 0) pe_int (fun _ _=>rfl)) (pe_ix ix_tup (pv 1) pe_int (fun _ _=>rfl))) pa_nil)) pa_nil)))))),?_⟩
 refine sq_if (et_test (ev_neI (ev_ixT (v:=.int l) (ev_var rfl) ev_c (SqT.of ha) rfl) (ev_ixT (v:=.int l') (ev_var rfl) ev_c (SqT.of hb) rfl))) (fun e=>?_) (fun e=>?_)
 ·have ne:¬l=l':=by simpa using e
  have ev:apV l r c l' r' c'=.non:=if_neg ne
  rw[ev] at q
  exact q
 ·have ne:l=l':=by simpa using e
  have ev:apV l r c l' r' c'=.int (mx (ab (r - r')) (ab (c - c'))):=if_pos ne
  rw[ev] at q
  exact rd_ret (ev_cb (ea_cons (ev_cb (ea_cons (ev_I0 (ev_ixT (v:=.int r) (ev_var rfl) ev_c (SqT.of ha) rfl) (ev_ixT (v:=.int r') (ev_var rfl) ev_c (SqT.of hb) rfl)) ea_nil) fun Q' q'=>⟨_,rfl,q'⟩) (ea_cons (ev_cb (ea_cons (ev_I0 (ev_ixT (v:=.int c) (ev_var rfl) ev_c (SqT.of ha) rfl) (ev_ixT (v:=.int c') (ev_var rfl) ev_c (SqT.of hb) rfl)) ea_nil) fun Q' q'=>⟨_,rfl,q'⟩) ea_nil)) fun Q' q'=>⟨_,_,rfl,q'⟩) q
theorem ok_Reach {cThing cNet cBundle cFloor cMS:Addr}{f:Addr}{fd:FuncData}(F:Fun K "reach_of" "reach_of" sReach f fd)(T:Txt K mg cThing cNet cBundle cFloor cMS):FnOk P w K mg base CX0 1 f fd ["thing", "other"] (spReach cNet cBundle):=by
 have sc:FnScope ["thing", "other"] ["thing", "other"] (defScope sReach):=⟨rfl,rfl,rfl,by decide+kernel,rfl,by decide+kernel,by decide+kernel⟩
 refine F.ok sc (fun vs H Q E h=>by repeat (first|(obtain⟨rfl,_⟩:=h;rfl)|(obtain⟨_,h⟩:=h))) (fun cdv A outer s H vs Q E hr h=>?_)
 obtain⟨p,p',h1,r1,h2,r2,rfl,⟨C,dx,fs,e1,c1,l1,m1⟩,⟨C',dx',fs',e2,c2,l2,m2⟩,q⟩:=h
 refine⟨_,(pss_one (ps_ret (pe_op op_add (pe_op op_add (pe_fld (pv 0) rfl) (pe_fld (pv 1) rfl)) (pe_callB (call_max2 rfl) (by rfl) T.max_ bt_max (pa_cons (pe_fld (pv 0) rfl) (pa_cons (pe_fld (pv 1) rfl) pa_nil)))))),?_⟩
 have k1:Cls K C∧NoAttr K C "half" ∧NoAttr K C "room" :=by rcases c1 with rfl|rfl<;>first|exact⟨T.cl_Net,T.na_Net_half,T.na_Net_room⟩|exact⟨T.cl_Bundle,T.na_Bundle_half,T.na_Bundle_room⟩
 have k2:Cls K C'∧NoAttr K C' "half" ∧NoAttr K C' "room" :=by rcases c2 with rfl|rfl<;>first|exact⟨T.cl_Net,T.na_Net_half,T.na_Net_room⟩|exact⟨T.cl_Bundle,T.na_Bundle_half,T.na_Bundle_room⟩
 exact rd_ret (ev_I0 (ev_I0 (ev_fldT (ev_var rfl) e1 k1.1 k1.2.1 l1) (ev_fldT (ev_var rfl) e2 k2.1 k2.2.1 l2)) (ev_cb (ea_cons (ev_fldT (ev_var rfl) e1 k1.1 k1.2.2 m1) (ea_cons (ev_fldT (ev_var rfl) e2 k2.1 k2.2.2 m2) ea_nil)) fun Q' q'=>⟨_,_,rfl,q'⟩)) q
theorem ok_Clash {cThing cNet cBundle cFloor cMS:Addr}{f:Addr}{fd:FuncData}(F:Fun K "clash" "clash" sClash f fd)(T:Txt K mg cThing cNet cBundle cFloor cMS)(gApart:Callee P w K mg base "apart" 1 ["one", "two"] spApart)(gReach:Callee P w K mg base "reach_of" 1 ["thing", "other"] (spReach cNet cBundle)):FnOk P w K mg base CX0 2 f fd ["thing", "spot", "other", "place"] (spClash cNet cBundle):=by
 have sc:FnScope ["thing", "spot", "other", "place", "distance"] ["thing", "spot", "other", "place"] (defScope sClash):=⟨rfl,rfl,rfl,by decide+kernel,rfl,by decide+kernel,by decide+kernel⟩
 refine F.ok sc (fun vs H Q E h=>by repeat (first|(obtain⟨rfl,_⟩:=h;rfl)|(obtain⟨_,h⟩:=h))) (fun cdv A outer s H vs Q E hr h=>?_)
 obtain⟨p,a,p',b,h1,r1,h2,r2,l,r,c,l',r',c',rfl,t1,t2,ha,hb,q⟩:=h
 refine⟨_,(pss_cons (ps_set (i:=4) sc.nd rfl (Or.inl rfl) (pe_cal gApart (hr.mono (by decide)) (by rfl) (pa_cons (pv 1) (pa_cons (pv 3) pa_nil))))
 (pss_one (ps_ret (pe_and (pe_cmpR op_notN (pv 4) pe_non (nomark _)) (pe_one (pe_cmpR op_le (pv 4) (pe_cal gReach (hr.mono (by decide)) (by rfl) (pa_cons (pv 0) (pa_cons (pv 2) pa_nil))) (nomark _))))))),?_⟩
 refine sq_set (ev_call (ea_cons (ev_var rfl) (ea_cons (ev_var rfl) ea_nil)) fun Q' q'=>⟨a,b,l,r,c,l',r',c',rfl,ha,hb,q'⟩) ?_
 by_cases e:l=l'
 ·have ev:apV l r c l' r' c'=.int (mx (ab (r - r')) (ab (c - c'))):=if_pos e
  rw[ev]
  refine rd_ret (ev_of (ev_and (a:=true) (ev_of (ev_notN (ev_var rfl) ev_c) (by rfl)) fun _=>ev_I0 (ev_var rfl) (ev_call (ea_cons (ev_var rfl) (ea_cons (ev_var rfl) ea_nil)) fun Q' q'=>⟨p,p',h1,r1,h2,r2,rfl,t1,t2,q'⟩)) ?_) q
  unfold clV
  rw[decide_eq_true e]
 ·have ev:apV l r c l' r' c'=.non:=if_neg e
  rw[ev]
  refine rd_ret (ev_of (ev_and (a:=false) (b:=false) (ev_of (ev_notN (ev_var rfl) ev_c) (by rfl)) fun z=>absurd z Bool.false_ne_true) ?_) q
  unfold clV
  rw[decide_eq_false e];rfl
theorem ok_Name {cThing cNet cBundle cFloor cMS:Addr}{f:Addr}{fd:FuncData}(F:Fun K "is_name" "is_name" sName f fd)(T:Txt K mg cThing cNet cBundle cFloor cMS):FnOk P w K mg base CX0 1 f fd ["name"] spName:=by
 have sc:FnScope ["name"] ["name"] (defScope sName):=⟨rfl,rfl,rfl,by decide+kernel,rfl,by decide+kernel,by decide+kernel⟩
 refine F.ok sc (fun vs H Q E h=>by repeat (first|(obtain⟨rfl,_⟩:=h;rfl)|(obtain⟨_,h⟩:=h))) (fun cdv A outer s H vs Q E hr h=>?_)
 obtain⟨x,rfl,nm,q⟩:=h
 refine⟨_,(pss_cons (ps_if (pw_or (pt_not (pt_chain op_le op_le pe_int (pe_callB call_len_str (by rfl) T.len_ bt_len (pa_cons (pv 0) pa_nil)) (pe_const (by rfl) (by exact T.g_MOST_SIGNS)))) (pw_or1 (pt_cmpR op_notin_str (pe_ix ix_str (pv 0) pe_int (fun _ _=>rfl)) (pe_const (by rfl) (by exact T.g_LETTERS)) (by with_unfolding_all rfl)))).pt
 (pss_one (ps_ret pe_bl))
 pss_nil)
 (pss_one (ps_ret (pe_callB (call_all rfl) (by rfl) T.all_ bt_all (pa_cons (pe_lc (ls:=["sign"]) (ys:=[]) (ix:=[]) rfl ⟨rfl,by rfl,by rfl,by rfl,by rfl,rfl⟩ (pi_str (pv 0)) (fun _ _ _ _ _=>(pg_name (i:=0) (show(["sign"]:List Str).Nodup by decide+kernel) rfl (Or.inl rfl))) (fun _ _ _ _ _=>pf_nil) (fun _ _ _ _ _=>(pe_or (pe_cmpR op_in_str (pv 0) (pe_const (by rfl) (by exact T.g_LETTERS)) (by with_unfolding_all rfl)) (pe_one (pe_cmpR op_in_str (pv 0) (pe_const (by rfl) (by exact T.g_FIGURES)) (by with_unfolding_all rfl)))))) pa_nil))))),?_⟩
 have hsz:sizeLine=2^24:=rfl
 have hlo:=nm.lo
 have hhi:=nm.hi
 obtain⟨c,r,hcr,hcl⟩:=nm.fst
 refine sq_ifF (et_orF (et_notF (et_of (et_test (ev_chain ev_c (ev_lenT (ev_var rfl) (by omega)) ev_c)) ?_)) (et_test (ev_notinS (ev_ixS (c:=c) (ev_var rfl) ev_c (by omega) (by rw[hcr];exact atI_nat (j:=0) rfl)) ev_c))) ?_ ?_
 ·rw[decide_eq_true (by omega),decide_eq_true (by omega)];rfl
 ·have:c∈cp (Str.ofString "abcdefghijklmnopqrstuvwxyz"):=hcl
  rw[decide_eq_true this];rfl
 refine⟨_,rfl,x,rfl,nm.as,fun D nD=>?_⟩
 refine lc_str (fun i τ H'=>∃x0:Option V,τ=[x0]∧H'=upd H D (.lst ((List.replicate i true).map V.bl))) ⟨none,rfl,rfl⟩ ?_ ?_
 ·rintro i d τ H2 hd ⟨x0,rfl,rfl⟩
  have hi:i<x.length:=by have:=(List.getElem?_eq_some_iff.mp hd).1;rw[cp_len] at this;exact this
  refine gn (lc_el ?_)
  refine(ev_of (ev_or (ev_inS (c:=d) (ev_var rfl) ev_c) fun _=>ev_inS (c:=d) (ev_var rfl) ev_c) (c:=.bl true) ?_) _ ⟨_,upd_same,by simp;omega,_,rfl,?_⟩
  ·rcases nm.all d (List.mem_of_getElem? hd) with z|z
   ·have z':d∈cp (Str.ofString "abcdefghijklmnopqrstuvwxyz"):=z
    rw[decide_eq_true z'];rfl
   ·have z':d∈cp (Str.ofString "0123456789"):=z
    rw[decide_eq_true z',Bool.or_true]
  ·rw[upd_upd,List.replicate_succ',List.map_append];rfl
 ·rintro τ H2 ⟨x0,rfl,rfl⟩
  refine⟨D,List.replicate x.length true,rfl,SqL.of upd_same,?_⟩
  have e:(List.replicate x.length true).all id=true:=by rw[List.all_eq_true];intro b hb;rw[List.eq_of_mem_replicate hb];rfl
  rw[e]
  exact q _ ((Same.refl H).upd nD)
theorem ok_TInit {cThing cNet cBundle cFloor cMS:Addr}{f:Addr}{fd:FuncData}(F:Fun K "__init__" "Thing.__init__" sTInit f fd)(hB:K.In base)(T:Txt K mg cThing cNet cBundle cFloor cMS)(gName:Callee P w K mg base "is_name" 1 ["name"] spName):FnOk P w K mg base CX0 2 f fd ["self", "name", "half", "room"] (spTInit cNet cBundle):=by
 have sc:FnScope ["self", "name", "half", "room"] ["self", "name", "half", "room"] (defScope sTInit):=⟨rfl,rfl,rfl,by decide+kernel,rfl,by decide+kernel,by decide+kernel⟩
 refine F.ok sc (fun vs H Q E h=>by repeat (first|(obtain⟨rfl,_⟩:=h;rfl)|(obtain⟨_,h⟩:=h))) (fun cdv A outer s H vs Q E hr h=>?_)
 obtain⟨p,C,dx,x,h,r,rfl,hp,hC,nm,h0,h2,r0,r3,q⟩:=h
 refine⟨_,(pss_cons (ps_if (pt_not (pt_val (pe_cal gName (hr.mono (by decide)) (by rfl) (pa_cons (pv 1) pa_nil))))
 (pss_one ps_never)
 pss_nil)
 (pss_cons (ps_if (pt_not (pt_chain op_le op_le pe_int (pv 2) (pe_const (by rfl) (by exact T.g_MOST_HALF))))
 (pss_one ps_never)
 pss_nil)
 (pss_cons (ps_if (pt_not (pt_chain op_le op_le pe_int (pv 3) (pe_const (by rfl) (by exact T.g_MOST_ROOM))))
 (pss_one ps_never)
 pss_nil)
 (pss_cons (ps_fld (pv 0) (pv 1) rfl)
 (pss_cons (ps_fld (pv 0) (pv 2) rfl)
 (pss_one (ps_fld (pv 0) (pv 3) rfl))))))),?_⟩
 have kc:Cls K C∧NoAttr K C "name" ∧NoAttr K C "half" ∧NoAttr K C "room" :=by rcases hC with rfl|rfl<;>first|exact⟨T.cl_Net,T.na_Net_name,T.na_Net_half,T.na_Net_room⟩|exact⟨T.cl_Bundle,T.na_Bundle_name,T.na_Bundle_half,T.na_Bundle_room⟩
 refine sq_ifof ⟨_,rfl,x,rfl,nm,fun H1 s1=>⟨_,rfl,?_⟩⟩
 refine iteF ?_
 refine sq_ifF (et_notF (et_of (et_test (ev_chain ev_c (ev_var rfl) ev_c)) (by rw[decide_eq_true h0,decide_eq_true h2];rfl))) rfl ?_
 refine sq_ifF (et_notF (et_of (et_test (ev_chain ev_c (ev_var rfl) ev_c)) (by rw[decide_eq_true r0,decide_eq_true r3];rfl))) rfl ?_
 refine⟨_,rfl,_,rfl,p,C,dx,[],rfl,s1 _ _ hp,kc.1,kc.2.1,(by decide),?_⟩
 refine⟨_,rfl,_,rfl,p,C,dx,_,rfl,upd_same,kc.1,kc.2.2.1,Nat.lt_of_le_of_lt (length_putF _ _ _) (by decide),?_⟩
 refine⟨_,rfl,_,rfl,p,C,dx,_,rfl,upd_same,kc.1,kc.2.2.2,Nat.lt_of_le_of_lt (Nat.le_trans (length_putF _ _ _) (Nat.succ_le_succ (length_putF _ _ _))) (by decide),?_⟩
 refine q _ _ (fun b o hb e=>?_) upd_same ⟨Nat.le_trans (Nat.le_trans (length_putF _ _ _) (Nat.succ_le_succ (Nat.le_trans (length_putF _ _ _) (Nat.succ_le_succ (length_putF _ _ _))))) (by decide),?_,?_,?_,?_⟩ (Nat.le_trans (length_putF _ _ _) (Nat.succ_le_succ (Nat.le_trans (length_putF _ _ _) (Nat.succ_le_succ (length_putF _ _ _)))))
 ·rw[upd_ne hb,upd_ne hb,upd_ne hb];exact s1 _ _ e
 ·rw[lookup_putF,if_neg (by decide+kernel),lookup_putF,if_neg (by decide+kernel),lookup_putF,if_pos rfl]
 ·rw[lookup_putF,if_neg (by decide+kernel),lookup_putF,if_pos rfl]
 ·rw[lookup_putF,if_pos rfl]
 ·rw[lookup_putF,if_neg (by decide+kernel),lookup_putF,if_neg (by decide+kernel),lookup_putF,if_neg (by decide+kernel)];rfl
theorem ok_NInit {cThing cNet cBundle cFloor cMS:Addr}{f:Addr}{fd:FuncData}(F:FunD K "__init__" "Net.__init__" sNInit f fd)(hB:K.In base)(T:Txt K mg cThing cNet cBundle cFloor cMS)(gUnlike:Callee P w K mg base "check_unlike" 1 ["spots"] spUnlike)(gTInit:ClsCallee P w K mg base cThing "__init__" 2 ["self", "name", "half", "room"] (spTInit cNet cBundle)):FnOk P w K mg base CX0 3 f fd ["self", "name", "pins", "half", "room"] (spNInit cNet):=by
 have sc:FnScope ["self", "name", "pins", "half", "room"] ["self", "name", "pins", "half", "room"] (defScope sNInit):=⟨rfl,rfl,rfl,by decide+kernel,rfl,by decide+kernel,by decide+kernel⟩
 refine F.ok sc (fun vs H Q E h=>by repeat (first|(obtain⟨rfl,_⟩:=h;rfl)|(obtain⟨_,h⟩:=h))) (fun cdv A outer s H vs Q E hr h=>?_)
 obtain⟨p,dx,l,as,cs,x,h,r,rfl,hp,hl,ht,h7,nd,l2,l6,nm,h0,h2,r0,r3,q⟩:=h
 refine⟨_,(pss_cons (ps_expr (pe_clsC (pe_globC (by rfl) T.mg_Thing) gTInit (hr.mono (by decide)) (pa_cons (pv 0) (pa_cons (pv 1) (pa_cons (pv 3) (pa_cons (pv 4) pa_nil))))))
 (pss_cons (ps_if (pt_not (pt_chain op_le op_le pe_int (pe_callB call_len (by rfl) T.len_ bt_len (pa_cons (pv 2) pa_nil)) (pe_const (by rfl) (by exact T.g_MOST_PINS))))
 (pss_one ps_never)
 pss_nil)
 (pss_cons (ps_expr (pe_cal gUnlike (hr.mono (by decide)) (by rfl) (pa_cons (pv 2) pa_nil)))
 (pss_one (ps_fld (pv 0) (pe_callTy call_tuple_of (by rfl) T.tuple_ bt_tuple (pa_cons (pv 2) pa_nil)) rfl))))),?_⟩
 have nlp:l≠p:=ne_of hl hp (fun z=>nomatch z)
 have len:as.length=cs.length:=Paired.length ht
 refine⟨_,rfl,_,rfl,_,rfl,_,rfl,p,cNet,dx,x,h,r,rfl,hp,.inl rfl,nm,h0,h2,r0,r3,fun H1 fs b1 hp1 bs few=>?_⟩
 have hl1:=b1 _ _ nlp hl
 have ht1:Tups H1 as cs:=Paired.mapP ht fun a c e=>b1 _ _ (ne_of e hp (fun z=>nomatch z)) e
 refine st ?_
 refine sq_ifF (et_notF (et_of (et_test (ev_chain ev_c (ev_cb (ea_cons (ev_var rfl) ea_nil) fun Q' q'=>⟨_,_,rfl,.inl ⟨_,SqL.of hl1,rfl⟩,q'⟩) ev_c)) ?_)) rfl ?_
 ·rw[List.length_map,decide_eq_true (by omega),decide_eq_true (by omega)];rfl
 refine⟨_,rfl,l,cs,rfl,⟨as,hl1,ht1⟩,h7,nd,by omega,fun H2 s2=>?_⟩
 refine⟨_,rfl,l,_,rfl,.inl ⟨SqL.of (s2 _ _ hl1),fun t nt=>?_⟩⟩
 have hp2:=s2 _ _ hp1
 refine⟨_,rfl,p,cNet,dx,fs,rfl,by rw[upd_ne (ne_of_none hp2 nt)];exact hp2,T.cl_Net,T.na_Net_pins,by have:=bs.few;omega,?_⟩
 have ntp:t≠p:=fun z=>by rw[z,hp2] at nt;cases nt
 refine q _ _ t (fun b o hb e=>?_) upd_same (bs.put (by omega) (by decide+kernel) (by decide+kernel) (by decide+kernel) (by decide+kernel)) (by rw[lookup_putF,if_pos rfl]) (by rw[upd_ne ntp,upd_same])
 have e2:=s2 _ _ (b1 _ _ hb e)
 rw[upd_ne hb,upd_ne (ne_of_none e2 nt)];exact e2
theorem ok_BInit {cThing cNet cBundle cFloor cMS:Addr}{f:Addr}{fd:FuncData}(F:FunD K "__init__" "Bundle.__init__" sBInit f fd)(hB:K.In base)(T:Txt K mg cThing cNet cBundle cFloor cMS)(gUnlike:Callee P w K mg base "check_unlike" 1 ["spots"] spUnlike)(gTInit:ClsCallee P w K mg base cThing "__init__" 2 ["self", "name", "half", "room"] (spTInit cNet cBundle)):FnOk P w K mg base CX0 3 f fd ["self", "name", "starts", "goals", "room"] (spBInit cBundle):=by
 have sc:FnScope ["self", "name", "starts", "goals", "room"] ["self", "name", "starts", "goals", "room"] (defScope sBInit):=⟨rfl,rfl,rfl,by decide+kernel,rfl,by decide+kernel,by decide+kernel⟩
 refine F.ok sc (fun vs H Q E h=>by repeat (first|(obtain⟨rfl,_⟩:=h;rfl)|(obtain⟨_,h⟩:=h))) (fun cdv A outer s H vs Q E hr h=>?_)
 obtain⟨p,dx,l,m,as,bs,cs,ds,x,r,rfl,hp,hl,hm,ht,hu,h7,nd,l1,l6,lg,g12,nm,r0,r3,q⟩:=h
 refine⟨_,(pss_cons (ps_expr (pe_clsC (pe_globC (by rfl) T.mg_Thing) gTInit (hr.mono (by decide)) (pa_cons (pv 0) (pa_cons (pv 1) (pa_cons pe_int (pa_cons (pv 4) pa_nil))))))
 (pss_cons (ps_if (pt_not (pt_chain op_le op_le pe_int (pe_callB call_len (by rfl) T.len_ bt_len (pa_cons (pv 2) pa_nil)) (pe_const (by rfl) (by exact T.g_MOST_STARTS))))
 (pss_one ps_never)
 pss_nil)
 (pss_cons (ps_if (pt_not (pt_chain op_le op_le (pe_callB call_len (by rfl) T.len_ bt_len (pa_cons (pv 2) pa_nil)) (pe_callB call_len (by rfl) T.len_ bt_len (pa_cons (pv 3) pa_nil)) (pe_const (by rfl) (by exact T.g_MOST_GOALS))))
 (pss_one ps_never)
 pss_nil)
 (pss_cons (ps_expr (pe_cal gUnlike (hr.mono (by decide)) (by rfl) (pa_cons (pe_op op_cat (pv 2) (pv 3)) pa_nil)))
 (pss_cons (ps_fld (pv 0) (pe_callTy call_tuple_of (by rfl) T.tuple_ bt_tuple (pa_cons (pv 2) pa_nil)) rfl)
 (pss_one (ps_fld (pv 0) (pe_callTy call_tuple_of (by rfl) T.tuple_ bt_tuple (pa_cons (pv 3) pa_nil)) rfl))))))),?_⟩
 have hsz:sizeLine=2^24:=rfl
 have nlp:l≠p:=ne_of hl hp (fun z=>nomatch z)
 have nmp:m≠p:=ne_of hm hp (fun z=>nomatch z)
 have len:as.length=cs.length:=Paired.length ht
 have len2:bs.length=ds.length:=Paired.length hu
 refine⟨_,rfl,_,rfl,_,rfl,p,cBundle,dx,x,0,r,rfl,hp,.inr rfl,nm,by decide,by decide,r0,r3,fun H1 fs b1 hp1 bas few=>?_⟩
 have hl1:=b1 _ _ nlp hl
 have hm1:=b1 _ _ nmp hm
 have ht1:Tups H1 as cs:=Paired.mapP ht fun a c e=>b1 _ _ (ne_of e hp (fun z=>nomatch z)) e
 have hu1:Tups H1 bs ds:=Paired.mapP hu fun a c e=>b1 _ _ (ne_of e hp (fun z=>nomatch z)) e
 refine st ?_
 refine sq_ifF (et_notF (et_of (et_test (ev_chain ev_c (ev_cb (ea_cons (ev_var rfl) ea_nil) fun Q' q'=>⟨_,_,rfl,.inl ⟨_,SqL.of hl1,rfl⟩,q'⟩) ev_c)) ?_)) rfl ?_
 ·rw[List.length_map,decide_eq_true (by omega),decide_eq_true (by omega)];rfl
 refine sq_ifF (et_notF (et_of (et_test (ev_chain (ev_cb (ea_cons (ev_var rfl) ea_nil) fun Q' q'=>⟨_,_,rfl,.inl ⟨_,SqL.of hl1,rfl⟩,q'⟩) (ev_cb (ea_cons (ev_var rfl) ea_nil) fun Q' q'=>⟨_,_,rfl,.inl ⟨_,SqL.of hm1,rfl⟩,q'⟩) ev_c)) ?_)) rfl ?_
 ·rw[List.length_map,List.length_map,decide_eq_true (by omega),decide_eq_true (by omega)];rfl
 refine⟨_,rfl,_,rfl,l,m,_,_,rfl,rfl,hl1,hm1,by rw[List.length_map,List.length_map];omega,fun c nc=>?_⟩
 have s2:Same H1 (upd H1 c (.lst (as.map V.ref++bs.map V.ref))):=(Same.refl H1).upd nc
 refine⟨c,cs++ds,rfl,⟨as++bs,by rw[upd_same,List.map_append],Tups.same (tups_app ht1 hu1) s2⟩,h7,nd,by rw[List.length_append];omega,fun H2 s3=>?_⟩
 have s13:=s2.trans s3
 refine⟨_,rfl,l,_,rfl,.inl ⟨SqL.of (s13 _ _ hl1),fun t nt=>?_⟩⟩
 have hp2:=s13 _ _ hp1
 refine⟨_,rfl,p,cBundle,dx,fs,rfl,by rw[upd_ne (ne_of_none hp2 nt)];exact hp2,T.cl_Bundle,T.na_Bundle_starts,by have:=bas.few;omega,?_⟩
 have hm2:upd (upd H2 t (.tup (as.map V.ref))) p (.ins cBundle dx (putF "starts" (.ref t) fs)) m=some (.lst (bs.map V.ref)):=by
  rw[upd_ne nmp,upd_ne (ne_of_none (s13 _ _ hm1) nt)];exact s13 _ _ hm1
 have hlen:=length_putF "starts" (.ref t) fs
 refine⟨_,rfl,m,_,rfl,.inl ⟨SqL.of hm2,fun t' nt'=>?_⟩⟩
 have npt:t'≠p:=fun z=>by rw[z,upd_same] at nt';cases nt'
 refine⟨_,rfl,p,cBundle,dx,_,rfl,by rw[upd_ne (Ne.symm npt),upd_same],T.cl_Bundle,T.na_Bundle_goals,by omega,?_⟩
 have npt0:t≠p:=fun z=>by rw[z,hp2] at nt;cases nt
 have ntt:t'≠t:=fun z=>by rw[z,upd_ne npt0,upd_same] at nt';cases nt'
 refine q _ _ t t' (fun b o hb e=>?_) upd_same ((bas.put (by omega) (by decide+kernel) (by decide+kernel) (by decide+kernel) (by decide+kernel)).put (by omega) (by decide+kernel) (by decide+kernel) (by decide+kernel) (by decide+kernel)) (by rw[lookup_putF,if_neg (by decide+kernel),lookup_putF,if_pos rfl]) (by rw[lookup_putF,if_pos rfl]) (by rw[upd_ne npt0,upd_ne (Ne.symm ntt),upd_ne npt0,upd_same]) (by rw[upd_ne npt,upd_same])
 have e2:=s13 _ _ (b1 _ _ hb e)
 have e3:upd (upd H2 t (.tup (as.map V.ref))) p (.ins cBundle dx (putF "starts" (.ref t) fs)) b=some o:=by rw[upd_ne hb,upd_ne (ne_of_none e2 nt)];exact e2
 rw[upd_ne hb,upd_ne (ne_of_none e3 nt')];exact e3
theorem ok_NEnds {cThing cNet cBundle cFloor cMS:Addr}{f:Addr}{fd:FuncData}(F:Fun K "ends" "Net.ends" sNEnds f fd)(T:Txt K mg cThing cNet cBundle cFloor cMS):FnOk P w K mg base CX0 1 f fd ["self"] (spNEnds cNet):=by
 have sc:FnScope ["self"] ["self"] (defScope sNEnds):=⟨rfl,rfl,rfl,by decide+kernel,rfl,by decide+kernel,by decide+kernel⟩
 refine F.ok sc (fun vs H Q E h=>by repeat (first|(obtain⟨rfl,_⟩:=h;rfl)|(obtain⟨_,h⟩:=h))) (fun cdv A outer s H vs Q E hr h=>?_)
 obtain⟨p,dx,t,fs,as,rfl,hp,hf,ht,q⟩:=h
 refine⟨_,(pss_one (ps_ret (pe_callTy call_list_of (by rfl) T.list_ bt_list (pa_cons (pe_fld (pv 0) rfl) pa_nil)))),?_⟩
 exact rd_te ((ev_fldT (ev_var rfl) hp T.cl_Net T.na_Net_pins hf) _ ⟨t,_,rfl,.inr (SqT.of ht),fun l nl=>q _ l ((Same.refl H).upd nl) nl upd_same⟩)
theorem ok_BEnds {cThing cNet cBundle cFloor cMS:Addr}{f:Addr}{fd:FuncData}(F:Fun K "ends" "Bundle.ends" sBEnds f fd)(T:Txt K mg cThing cNet cBundle cFloor cMS):FnOk P w K mg base CX0 1 f fd ["self"] (spBEnds cBundle):=by
 have sc:FnScope ["self"] ["self"] (defScope sBEnds):=⟨rfl,rfl,rfl,by decide+kernel,rfl,by decide+kernel,by decide+kernel⟩
 refine F.ok sc (fun vs H Q E h=>by repeat (first|(obtain⟨rfl,_⟩:=h;rfl)|(obtain⟨_,h⟩:=h))) (fun cdv A outer s H vs Q E hr h=>?_)
 obtain⟨p,dx,t,u,fs,as,bs,rfl,hp,hf,hg,ht,hu,hz,q⟩:=h
 refine⟨_,(pss_one (ps_ret (pe_callTy call_list_of (by rfl) T.list_ bt_list (pa_cons (pe_op op_catG (pe_fld (pv 0) rfl) (pe_fld (pv 0) rfl)) pa_nil)))),?_⟩
 have hsz:sizeLine=2^24:=rfl
 refine rd_te (te_cb1 (te_op ((ev_fldT (ev_var rfl) hp T.cl_Bundle T.na_Bundle_starts hf) _ ((ev_fldT (ev_var rfl) hp T.cl_Bundle T.na_Bundle_goals hg) _ ⟨t,u,_,_,rfl,rfl,ht,hu,by rw[List.length_map,List.length_map];omega,fun p1 H1 s1 hp1=>⟨p1,_,rfl,.inr (SqT.of hp1),fun l nl=>?_⟩⟩))))
 exact q _ l (s1.upd nl) (fresh_of s1 nl) (by rw[upd_same,List.map_append])
theorem ok_Cell {cThing cNet cBundle cFloor cMS:Addr}{f:Addr}{fd:FuncData}(F:Fun K "_law_cell_at" "_law_cell_at" sCell f fd)(T:Txt K mg cThing cNet cBundle cFloor cMS):FnOk P w K mg base CX0 1 f fd ["script", "k"] (spCell K):=by
 have sc:FnScope ["script", "k"] ["script", "k"] (defScope sCell):=⟨rfl,rfl,rfl,by decide+kernel,rfl,by decide+kernel,by decide+kernel⟩
 refine F.ok sc (fun vs H Q E h=>by repeat (first|(obtain⟨rfl,_⟩:=h;rfl)|(obtain⟨_,h⟩:=h))) (fun cdv A outer s H vs Q E hr h=>?_)
 obtain⟨a,ns,i,rfl,ha,h0,q⟩:=h
 refine⟨_,(pss_cons (ps_if (pt_cmpR op_lt (pv 1) (pe_callB call_len (by rfl) T.len_ bt_len (pa_cons (pv 0) pa_nil)) (nomark _))
 (pss_one (ps_ret (pe_ix ix_list (pv 0) (pv 1) (fun _ _=>rfl))))
 pss_nil)
 (pss_one (ps_ret pe_int))),?_⟩
 refine rd_if (et_test (ev_I0 (ev_var rfl) (ev_cb (ea_cons (ev_var rfl) ea_nil) fun Q' q'=>⟨_,_,rfl,by first|exact .inl ⟨_,by assumption,rfl⟩|exact .inl ⟨_,SqL.of (by assumption),rfl⟩|exact .inr ⟨_,by assumption,rfl⟩|exact .inr ⟨_,SqT.of (by assumption),rfl⟩,q'⟩))) (fun e=>?_) (fun _=>?_)
 ·have hlt:i<((ns.map V.int).length:Int):=of_decide_eq_true e
  rw[List.length_map] at hlt
  obtain⟨j,rfl⟩:=Int.eq_ofNat_of_zero_le h0
  have hj:j<ns.length:=by omega
  exact rd_ret (ev_ixL (v:=.int ns[j]) (ev_var rfl) (ev_var rfl) ha (atI_nat (by simp[hj]))) (q _)
 ·exact q 0
theorem ok_LFits {cThing cNet cBundle cFloor cMS:Addr}{f:Addr}{fd:FuncData}(F:Fun K "_law_fits" "_law_fits" sLFits f fd)(T:Txt K mg cThing cNet cBundle cFloor cMS):FnOk P w K mg base CX0 1 f fd ["sizes", "rocks", "half", "spot"] spLFits:=by
 have sc:FnScope ["sizes", "rocks", "half", "spot", "row", "column"] ["sizes", "rocks", "half", "spot"] (defScope sLFits):=⟨rfl,rfl,rfl,by decide+kernel,rfl,by decide+kernel,by decide+kernel⟩
 refine F.ok sc (fun vs H Q E h=>by repeat (first|(obtain⟨rfl,_⟩:=h;rfl)|(obtain⟨_,h⟩:=h))) (fun cdv A outer s H vs Q E hr h=>?_)
 obtain⟨z,l,b,as,L,R,C,half,rs,u,rfl,hz,hl,hsp,h0,h2,hb,⟨u1,u2,u3,u4⟩,⟨x0,x1⟩,q⟩:=h
 refine⟨_,(pss_cons (ps_for PassesOwn.never rfl (pi_range2 (by rfl) T.range_ (pa_cons (pe_op op_sub (pe_ix ix_tup (pv 3) pe_int (fun _ _=>rfl)) (pv 2)) (pa_cons (pe_op op_add (pe_op op_add (pe_ix ix_tup (pv 3) pe_int (fun _ _=>rfl)) (pv 2)) pe_int) pa_nil))) (pg_name (i:=4) sc.nd rfl (Or.inl rfl))
 (pss_one (ps_for PassesOwn.never rfl (pi_range2 (by rfl) T.range_ (pa_cons (pe_op op_sub (pe_ix ix_tup (pv 3) pe_int (fun _ _=>rfl)) (pv 2)) (pa_cons (pe_op op_add (pe_op op_add (pe_ix ix_tup (pv 3) pe_int (fun _ _=>rfl)) (pv 2)) pe_int) pa_nil))) (pg_name (i:=5) sc.nd rfl (Or.inl rfl))
 (pss_cons (ps_if (pw_or (pt_cmpR op_lt (pv 4) pe_int (nomark _)) (pw_or (pt_cmpR op_ge (pv 4) (pe_ix ix_tup (pv 0) pe_int (fun _ _=>rfl)) (nomark _)) (pw_or (pt_cmpR op_lt (pv 5) pe_int (nomark _)) (pw_or1 (pt_cmpR op_ge (pv 5) (pe_ix ix_tup (pv 0) pe_int (fun _ _=>rfl)) (nomark _)))))).pt
 (pss_one (ps_ret pe_bl))
 pss_nil)
 (pss_one (ps_if (pt_cmpR (op_inT hr) (pe_tup (pa_cons (pe_ix ix_tup (pv 3) pe_int (fun _ _=>rfl)) (pa_cons (pv 4) (pa_cons (pv 5) pa_nil)))) (pv 1) (by with_unfolding_all rfl))
 (pss_one (ps_ret pe_bl))
 pss_nil))))))
 (pss_one (ps_ret pe_bl))),?_⟩
 obtain⟨w,hw⟩:∃w:Nat,(w:Int)=2*half+1:=⟨(2*half+1).toNat,by omega⟩
 have ew:(u.2.1+half+1 - (u.2.1 - half)).toNat=w:=by omega
 have ew2:(u.2.2+half+1 - (u.2.2 - half)).toNat=w:=by omega
 refine sq_rng2 (i:=u.2.1 - half) (j:=u.2.1+half+1) (ea_cons (ev_I0 (ev_ixT (v:=.int u.2.1) (ev_var rfl) ev_c (SqT.of hb) rfl) (ev_var rfl)) (ea_cons (ev_I0 (ev_I0 (g:=fun i j=>V.int (i+j)) (ev_ixT (v:=.int u.2.1) (ev_var rfl) ev_c (SqT.of hb) rfl) (ev_var rfl)) ev_c) ea_nil)) ⟨by omega,by omega,by omega,by omega⟩ ?_
 refine for_range (fun i σ H'=>∃x4 x5:Option V,σ=[some (.ref z),some (.ref l),some (.int half),some (.ref b),x4,x5]∧Same H H'∧∀j<i,∀k<w,Ins L R C u.1 (u.2.1 - half+(j:Nat)) (u.2.2 - half+(k:Nat))∧(u.1,u.2.1 - half+(j:Nat),u.2.2 - half+(k:Nat))∉rs) ⟨none,none,rfl,Same.refl H,fun j hj=>absurd hj (Nat.not_lt_zero _)⟩ ?_ ?_
 ·rintro j σ H2 hj ⟨x4,x5,rfl,s2,ok⟩
  have hj':j<w:=by omega
  refine gn ?_
  have hb2:=s2 _ _ hb
  refine rd_rng2 (i:=u.2.2 - half) (j:=u.2.2+half+1) (ea_cons (ev_I0 (ev_ixT (v:=.int u.2.2) (ev_var rfl) ev_c (SqT.of hb2) rfl) (ev_var rfl)) (ea_cons (ev_I0 (ev_I0 (g:=fun i j=>V.int (i+j)) (ev_ixT (v:=.int u.2.2) (ev_var rfl) ev_c (SqT.of hb2) rfl) (ev_var rfl)) ev_c) ea_nil)) ⟨by omega,by omega,by omega,by omega⟩ ?_
  refine for_range (fun i σ H'=>∃x5:Option V,σ=[some (.ref z),some (.ref l),some (.int half),some (.ref b),some (.int (u.2.1 - half+(j:Nat))),x5]∧Same H H'∧∀k<i,Ins L R C u.1 (u.2.1 - half+(j:Nat)) (u.2.2 - half+(k:Nat))∧(u.1,u.2.1 - half+(j:Nat),u.2.2 - half+(k:Nat))∉rs) ⟨_,rfl,s2,fun k hk=>absurd hk (Nat.not_lt_zero _)⟩ ?_ ?_
  ·rintro k σ H3 hk ⟨x5',rfl,s3,okk⟩
   have hk':k<w:=by omega
   refine gn ?_
   have hz3:=s3 _ _ hz
   refine sq_if (et_or (et_test (ev_lt (ev_var rfl) ev_c)) fun _=>et_or (et_test (ev_ge (ev_var rfl) (ev_ixT (v:=.int R) (ev_var rfl) ev_c (SqT.of hz3) rfl))) fun _=>et_or (et_test (ev_lt (ev_var rfl) ev_c)) fun _=>et_test (ev_ge (ev_var rfl) (ev_ixT (v:=.int C) (ev_var rfl) ev_c (SqT.of hz3) rfl))) (fun e=>?_) (fun e=>?_)
   ·refine rd_ret ev_c (q _ false s3 ⟨fun z=>absurd z (by simp),fun f=>absurd f (not_fit hw hj' hk' fun z=>?_)⟩)
    obtain⟨i1,i2,i3,i4,i5,i6⟩:=z.1
    rw[decide_eq_false (by omega),decide_eq_false (by omega),decide_eq_false (by omega),decide_eq_false (by omega)] at e
    cases e
   ·simp only[Bool.or_eq_false_iff,decide_eq_false_iff_not] at e
    obtain⟨e1,e2,e3,e4⟩:=e
    refine rd_ifof (et_raw (te_op (te_tup (vs:=([u.1,u.2.1 - half+(j:Nat),u.2.2 - half+(k:Nat)]:T3).map V.int) (ea_cons (ev_ixT (v:=.int u.1) (ev_var rfl) ev_c (SqT.of (s3 _ _ hb)) rfl) (ea_cons (ev_var rfl) (ea_cons (ev_var rfl) ea_nil))) (by show 3≤sizeLine;decide) fun t nt=>?_)))
    have s4:Same H (upd H3 t (.tup (([u.1,u.2.1 - half+(j:Nat),u.2.2 - half+(k:Nat)]:T3).map V.int))):=s3.upd nt
    refine te_inT (K:=K) (ev_var rfl) upd_same (SqL.of (s4 _ _ hl)) (Tups.same (spots_tups hsp) s4) ⟨_,rfl,?_⟩
    by_cases hm:([u.1,u.2.1 - half+(j:Nat),u.2.2 - half+(k:Nat)]:T3)∈rs.map t3
    ·rw[decide_eq_true hm]
     exact iteT (rd_ret ev_c (q _ false s4 ⟨fun z=>absurd z (by simp),fun f=>absurd f (not_fit hw hj' hk' fun z=>z.2 (mem_t3.mp hm))⟩))
    ·rw[decide_eq_false hm]
     refine iteF ⟨_,rfl,s4,fun k2 hk2=>?_⟩
     by_cases ek:k2=k
     ·subst ek
      exact⟨⟨x0,x1,by omega,by omega,by omega,by omega⟩,fun h=>hm (mem_t3.mpr h)⟩
     ·exact okk k2 (by omega)
  ·rintro σ H3 ⟨x5',rfl,s3,okk⟩
   refine⟨_,_,rfl,s3,fun j2 hj2 k hk=>?_⟩
   by_cases ej:j2=j
   ·subst ej
    exact okk k (by omega)
   ·exact ok j2 (by omega) k hk
 ·rintro σ H2 ⟨x4,x5,rfl,s2,ok⟩
  rw[ew] at ok
  exact st (rd_ret ev_c (q _ true s2 ⟨fun _=>fit_of hw ok,fun _=>rfl⟩))
theorem ok_SpotOf {cThing cNet cBundle cFloor cMS:Addr}{f:Addr}{fd:FuncData}(F:Fun K "spot_of" "spot_of" sSpotOf f fd)(hB:K.In base)(T:Txt K mg cThing cNet cBundle cFloor cMS):FnOk P w K mg base CX0 1 f fd ["sizes", "number"] (spSpotOf K):=by
 have sc:FnScope ["sizes", "number", "layers", "rows", "columns", "rest", "column", "layer", "row"] ["sizes", "number"] (defScope sSpotOf):=⟨rfl,rfl,rfl,by decide+kernel,rfl,by decide+kernel,by decide+kernel⟩
 refine F.ok sc (fun vs H Q E h=>by repeat (first|(obtain⟨rfl,_⟩:=h;rfl)|(obtain⟨_,h⟩:=h))) (fun cdv A outer s H vs Q E hr h=>?_)
 obtain⟨z,L,R,C,n,rfl,hz,S,hn,q⟩:=h
 refine⟨_,(pss_cons (ps_asg (pv 0) (pg_tup rfl (pgs_cons (pg_name (i:=2) sc.nd rfl (Or.inl rfl)) (pgs_cons (pg_name (i:=3) sc.nd rfl (Or.inl rfl)) (pgs_cons (pg_name (i:=4) sc.nd rfl (Or.inl rfl)) pgs_nil)))))
 (pss_cons (ps_if (pt_not (pt_chain op_le op_lt pe_int (pv 1) (pe_op op_mul (pe_op op_mul (pv 2) (pv 3)) (pv 4))))
 (pss_one ps_never)
 pss_nil)
 (pss_cons (ps_asg (pe_callB call_divmodB (by rfl) T.divmod_ bt_divmod (pa_cons (pv 1) (pa_cons (pv 4) pa_nil))) (pg_tup rfl (pgs_cons (pg_name (i:=5) sc.nd rfl (Or.inl rfl)) (pgs_cons (pg_name (i:=6) sc.nd rfl (Or.inl rfl)) pgs_nil))))
 (pss_cons (ps_asg (pe_callB call_divmodB (by rfl) T.divmod_ bt_divmod (pa_cons (pv 5) (pa_cons (pv 3) pa_nil))) (pg_tup rfl (pgs_cons (pg_name (i:=7) sc.nd rfl (Or.inl rfl)) (pgs_cons (pg_name (i:=8) sc.nd rfl (Or.inl rfl)) pgs_nil))))
 (pss_one (ps_ret (pe_tup (pa_cons (pv 7) (pa_cons (pv 8) (pa_cons (pv 6) pa_nil)))))))))),?_⟩
 have l0:=S.l0
 have l1:=S.l1
 have r0:=S.r0
 have r1:=S.r1
 have c0:=S.c0
 have c1:=S.c1
 refine sq_un3 (ev_var rfl) (SqT.of hz) ?_
 refine sq_ifF (b:=false) (et_notF (et_of (et_test (ev_chain ev_c (ev_var rfl) (ev_I (ev_I (ev_var rfl) (ev_var rfl) (cmR (by omega) (by omega))) (ev_var rfl) (cmR (by omega) (by omega))))) ?_)) rfl ?_
 ·rw[decide_eq_true (Int.natCast_nonneg n),decide_eq_true hn];rfl
 refine⟨_,rfl,_,rfl,_,_,rfl,cdB (by omega) (by omega),fun p np=>?_⟩
 refine⟨p,_,rfl,SqT.of upd_same,rfl,_,_,rfl,_,_,rfl,rfl,?_⟩
 refine⟨_,rfl,_,rfl,_,_,rfl,cdB (by omega) (by omega),fun p2 np2=>?_⟩
 refine⟨p2,_,rfl,SqT.of upd_same,rfl,_,_,rfl,_,_,rfl,rfl,?_⟩
 have s:=((Same.refl H).upd (o:=.tup [.int ((n:Int)/C),.int ((n:Int)%C)]) np).upd (o:=.tup [.int ((n:Int)/C/R),.int ((n:Int)/C%R)]) np2
 refine rd_tup (vs:=(sN R C n).map V.int) (ea_cons (ev_var rfl) (ea_cons (ev_var rfl) (ea_cons (ev_var rfl) ea_nil))) (by show 3≤sizeLine;decide) fun t nt=>?_
 refine q _ t (s.upd nt) ?_ upd_same
 cases e:H t with
 |none=>rfl
 |some o=>rw[s _ _ e] at nt;cases nt
theorem lohi_iff {p n m v:Int}:(lo p n≤v∧v≤hi m p n)↔(0≤v∧v<m∧p - n≤v∧v≤p+n):=by
 unfold lo hi mx mn
 split<;>split<;>omega
theorem lohi_b {p n m:Int}(h:1≤m)(h2:m≤16)(hp: -1≤p∧p≤15)(hn:0≤n∧n≤10):0≤lo p n∧lo p n≤15∧ -12≤hi m p n∧hi m p n≤m - 1:=by
 unfold lo hi mx mn
 split<;>split<;>omega
theorem spots_mono' {H H':Hp}{as:List Addr}{rs:List Sp3}(h:Spots H as rs)(s:∀b xs,H b=some (.tup xs)→H' b=some (.tup xs)):Spots H' as rs:=Paired.mapP h fun a c e=>s _ _ e
theorem lst_up {H:Hp}{p:Addr}{xs ys:List V}(hp:H p=some (.lst xs)):∀b zs,H b=some (.tup zs)→upd H p (.lst ys) b=some (.tup zs):=fun b zs e=>by rw[upd_ne (ne_of e hp (fun z=>nomatch z))];exact e
theorem ok_Square {cThing cNet cBundle cFloor cMS:Addr}{f:Addr}{fd:FuncData}(F:Fun K "square" "square" sSquare f fd)(T:Txt K mg cThing cNet cBundle cFloor cMS):FnOk P w K mg base CX0 1 f fd ["sizes", "spot", "reach"] spSquare9:=by
 have sc:FnScope ["sizes", "spot", "reach", "layer", "row", "column", "top", "bottom", "left", "right", "spots", "one"] ["sizes", "spot", "reach"] (defScope sSquare):=⟨rfl,rfl,rfl,by decide+kernel,rfl,by decide+kernel,by decide+kernel⟩
 refine F.ok sc (fun vs H Q E h=>by repeat (first|(obtain⟨rfl,_⟩:=h;rfl)|(obtain⟨_,h⟩:=h))) (fun cdv A outer s H vs Q E hr h=>?_)
 obtain⟨a,b,L,r,c,x,y,z,n,rfl,ha,hb,⟨r0,r1⟩,⟨c0,c1⟩,yb,zb,nb',q⟩:=h
 refine⟨_,(pss_cons (ps_asg (pv 1) (pg_tup rfl (pgs_cons (pg_name (i:=3) sc.nd rfl (Or.inr rfl)) (pgs_cons (pg_name (i:=4) sc.nd rfl (Or.inl rfl)) (pgs_cons (pg_name (i:=5) sc.nd rfl (Or.inl rfl)) pgs_nil)))))
 (pss_cons (ps_set (i:=6) sc.nd rfl (Or.inl rfl) (pe_callB (call_max2 rfl) (by rfl) T.max_ bt_max (pa_cons pe_int (pa_cons (pe_op op_sub (pv 4) (pv 2)) pa_nil))))
 (pss_cons (ps_set (i:=7) sc.nd rfl (Or.inl rfl) (pe_callB (call_min2 rfl) (by rfl) T.min_ bt_min (pa_cons (pe_op op_sub (pe_ix ix_tup (pv 0) pe_int (fun _ _=>rfl)) pe_int) (pa_cons (pe_op op_add (pv 4) (pv 2)) pa_nil))))
 (pss_cons (ps_set (i:=8) sc.nd rfl (Or.inl rfl) (pe_callB (call_max2 rfl) (by rfl) T.max_ bt_max (pa_cons pe_int (pa_cons (pe_op op_sub (pv 5) (pv 2)) pa_nil))))
 (pss_cons (ps_set (i:=9) sc.nd rfl (Or.inl rfl) (pe_callB (call_min2 rfl) (by rfl) T.min_ bt_min (pa_cons (pe_op op_sub (pe_ix ix_tup (pv 0) pe_int (fun _ _=>rfl)) pe_int) (pa_cons (pe_op op_add (pv 5) (pv 2)) pa_nil))))
 (pss_cons (ps_set (i:=10) sc.nd rfl (Or.inl rfl) (pe_lst pa_nil))
 (pss_cons (ps_for PassesOwn.never rfl (pi_range2 (by rfl) T.range_ (pa_cons (pv 6) (pa_cons (pe_op op_add (pv 7) pe_int) pa_nil))) (pg_name (i:=11) sc.nd rfl (Or.inr rfl))
 (pss_one (ps_expr (pe_bm PySem.F.plainAttrs_list PySem.F.slot_list_extend PySem.F.type_list_extend mt_extend (pv 10) (pa_cons (pe_lc (ls:=["two"]) (ys:=["layer", "one"]) (ix:=[3,11]) rfl ⟨rfl,by rfl,by rfl,by rfl,by rfl,rfl⟩ (pi_range2 (by rfl) T.range_ (pa_cons (pv 8) (pa_cons (pe_op op_add (pv 9) pe_int) pa_nil))) (fun _ _ _ _ _=>(pg_name (i:=0) (show(["two", "layer", "one"]:List Str).Nodup by decide+kernel) rfl (Or.inl rfl))) (fun _ _ _ _ _=>pf_nil) (fun _ _ _ _ _=>(pe_tup (pa_cons (pv 1) (pa_cons (pv 2) (pa_cons (pv 0) pa_nil)))))) pa_nil)))))
 (pss_one (ps_ret (pv 10)))))))))),?_⟩
 have hsz:sizeLine=2^24:=rfl
 refine sq_un3 (ev_var rfl) (SqT.of hb) ?_
 refine sq_set (v:=.int (lo y n)) (ev_cb (ea_cons ev_c (ea_cons (ev_I0 (ev_var rfl) (ev_var rfl)) ea_nil)) fun Q' q'=>⟨_,_,rfl,q'⟩) ?_
 refine sq_set (v:=.int (hi r y n)) (ev_cb (ea_cons (ev_I0 (ev_ixT (ev_var rfl) ev_c (SqT.of ha) rfl) ev_c) (ea_cons (ev_I0 (ev_var rfl) (ev_var rfl)) ea_nil)) fun Q' q'=>⟨_,_,rfl,q'⟩) ?_
 refine sq_set (v:=.int (lo z n)) (ev_cb (ea_cons ev_c (ea_cons (ev_I0 (ev_var rfl) (ev_var rfl)) ea_nil)) fun Q' q'=>⟨_,_,rfl,q'⟩) ?_
 refine sq_set (v:=.int (hi c z n)) (ev_cb (ea_cons (ev_I0 (ev_ixT (ev_var rfl) ev_c (SqT.of ha) rfl) ev_c) (ea_cons (ev_I0 (ev_var rfl) (ev_var rfl)) ea_nil)) fun Q' q'=>⟨_,_,rfl,q'⟩) ?_
 have by1:=lohi_b r0 r1 yb nb'
 have bz1:=lohi_b c0 c1 zb nb'
 have iy:∀v,(lo y n≤v∧v≤hi r y n)↔(0≤v∧v<r∧y - n≤v∧v≤y+n):=fun v=>lohi_iff
 have iz:∀v,(lo z n≤v∧v≤hi c z n)↔(0≤v∧v<c∧z - n≤v∧v≤z+n):=fun v=>lohi_iff
 generalize lo y n=ly at by1 iy⊢
 generalize hi r y n=hy at by1 iy⊢
 generalize lo z n=lz at bz1 iz⊢
 generalize hi c z n=hz at bz1 iz⊢
 refine⟨Nat.zero_le _,fun pS nS=>?_⟩
 refine sq_rng2 (i:=ly) (j:=hy+1) (ea_cons (ev_var rfl) (ea_cons (ev_I0 (ev_var rfl) ev_c) ea_nil)) ⟨by omega,by omega,by omega,by omega⟩ ?_
 refine for_range (n:=(hy+1 - ly).toNat) (fun j σ H2=>∃(o:Option V) (ps:List Addr) (qs:List Sp3),σ=[some (.ref a),some (.ref b),some (.int n),some (.int x),some (.int y),some (.int z),some (.int ly),some (.int hy),some (.int lz),some (.int hz),some (.ref pS),o]∧
   Same H H2∧H2 pS=some (.lst (ps.map V.ref))∧Spots H2 ps qs∧(∀q:Sp3,q∈qs↔q.1=x∧(ly≤q.2.1∧q.2.1<ly+(j:Nat))∧(lz≤q.2.2∧q.2.2≤hz))∧qs.length≤16*j)
  ⟨none,[],[],rfl,(Same.refl H).upd nS,upd_same,.nil,(fun q=>⟨(fun h=>nomatch h),fun⟨_,h,_⟩=>by have:=h.2;omega⟩),by simp⟩ ?_ ?_
 ·rintro j σ H2 hj ⟨o,ps,qs,rfl,s2,hp,hsp,hmem,hlen⟩
  have hj:j<(hy+1 - ly).toNat:=hj
  have lps:ps.length=qs.length:=Paired.length hsp
  refine gn ?_
  refine⟨_,rfl,.inl ⟨rfl,_,SqL.of hp⟩,?_⟩
  refine⟨_,rfl,_,rfl,_,_,rfl,rfl,_,_,rfl,⟨by omega,by omega,by omega,by omega⟩,fun D nD=>?_⟩
  refine lc_range (n:=(hz+1 - lz).toNat) (fun i τ H3=>∃(o:Option V) (rs:List Addr) (us:List Sp3),τ=[o,some (.int x),some (.int (ly+j))]∧Same H2 H3∧H3 D=some (.lst (rs.map V.ref))∧Spots H3 rs us∧(∀q:Sp3,q∈us↔q.1=x∧q.2.1=ly+(j:Nat)∧(lz≤q.2.2∧q.2.2<lz+(i:Nat)))∧us.length=i)
   ⟨none,[],[],rfl,(Same.refl H2).upd nD,upd_same,.nil,(fun q=>⟨(fun h=>nomatch h),fun⟨_,_,h⟩=>by have:=h.2;omega⟩),rfl⟩ ?_ ?_
  ·rintro i τ H3 hi ⟨o3,rs,us,rfl,s3,hD,hsr,hmr,hrl⟩
   have hi:i<(hz+1 - lz).toNat:=hi
   have lrs:rs.length=us.length:=Paired.length hsr
   refine gn (lc_el ?_)
   refine te_tup (vs:=tp (x,ly+(j:Nat),lz+(i:Nat))) (ea_cons (ev_var rfl) (ea_cons (ev_var rfl) (ea_cons (ev_var rfl) ea_nil))) (by show 3≤sizeLine;decide) fun pt nt=>?_
   have hDt:D≠pt:=ne_of_none hD nt
   have hD':upd H3 pt (.tup (tp (x,ly+(j:Nat),lz+(i:Nat)))) D=some (.lst (rs.map V.ref)):=by rw[upd_ne hDt];exact hD
   refine⟨_,hD',by rw[List.length_map];omega,_,rs++[pt],us++[(x,ly+(j:Nat),lz+(i:Nat))],rfl,same_at (s3.upd nt) nD,by rw[upd_same,List.map_append];rfl,?_,fun v=>?_,by rw[List.length_append,hrl];rfl⟩
   ·exact spots_app (spots_mono' (Spots.same hsr ((Same.refl H3).upd nt)) (lst_up hD')) (.cons (lst_up hD' _ _ upd_same) .nil)
   ·rw[List.mem_append,hmr,List.mem_singleton]
    constructor
    ·rintro(⟨h1,h2,h3,h4⟩|rfl)
     ·exact⟨h1,h2,h3,by omega⟩
     ·exact⟨rfl,rfl,by show lz≤lz+(i:Int);omega,by show lz+(i:Int)<lz+((i+1:Nat):Int);omega⟩
    ·rintro⟨h1,h2,h3,h4⟩
     by_cases e:v.2.2=lz+(i:Nat)
     ·exact .inr (by rw[←h1,←h2,←e])
     ·exact .inl ⟨h1,h2,h3,by omega⟩
  ·rintro τ H3 ⟨o3,rs,us,rfl,s3,hD,hsr,hmr,hrl⟩
   have hrl:us.length=(hz+1 - lz).toNat:=hrl
   have lrs:rs.length=us.length:=Paired.length hsr
   have hp3:=s3 _ _ hp
   refine⟨pS,D,_,_,rfl,rfl,hp3,hD,(by rw[List.length_map,List.length_map];omega),?_⟩
   refine⟨_,ps++rs,qs++us,rfl,same_at (s2.trans s3) nS,by rw[upd_same,List.map_append],spots_app (spots_mono' (Spots.same hsp s3) (lst_up hp3)) (spots_mono' hsr (lst_up hp3)),fun v=>?_,by rw[List.length_append];omega⟩
   rw[List.mem_append,hmem,hmr]
   constructor
   ·rintro(⟨h1,⟨h2,h3⟩,h4⟩|⟨h1,h2,h3,h4⟩)
    ·exact⟨h1,⟨h2,by omega⟩,h4⟩
    ·exact⟨h1,⟨by omega,by omega⟩,h3,by omega⟩
   ·rintro⟨h1,⟨h2,h3⟩,h4,h5⟩
    by_cases e:v.2.1=ly+(j:Nat)
    ·exact .inr ⟨h1,e,h4,by omega⟩
    ·exact .inl ⟨h1,⟨h2,by omega⟩,h4,h5⟩
 ·rintro σ H2 ⟨o,ps,qs,rfl,s2,hp,hsp,hmem,hlen⟩
  refine st ⟨_,rfl,q pS ps qs H2 s2 hp hsp (fun v=>?_) (by omega)⟩
  rw[hmem]
  unfold inSq
  rw[←iy v.2.1,←iz v.2.2]
  constructor
  ·rintro⟨h1,⟨h2,h3⟩,h4⟩
   exact⟨h1,⟨h2,by omega⟩,h4⟩
  ·rintro⟨h1,⟨h2,h3⟩,h4⟩
   exact⟨h1,⟨h2,by omega⟩,h4⟩
theorem ok_Fits {cThing cNet cBundle cFloor cMS:Addr}{f:Addr}{fd:FuncData}(F:Fun K "fits" "fits" sFits f fd)(T:Txt K mg cThing cNet cBundle cFloor cMS)(gInside:Callee P w K mg base "inside" 1 ["sizes", "spot"] spInside)(gSquare:Callee P w K mg base "square" 1 ["sizes", "spot", "reach"] spSquare9)(gIsRock:MCallee P w K mg base cFloor "is_rock" 3 ["self", "spot"] (spIsRock cFloor)):FnOk P w K mg base CX0 4 f fd ["floor", "thing", "spot"] (spFits cNet cBundle cFloor):=by
 have sc:FnScope ["floor", "thing", "spot", "layer", "row", "column", "first", "last"] ["floor", "thing", "spot"] (defScope sFits):=⟨rfl,rfl,rfl,by decide+kernel,rfl,by decide+kernel,by decide+kernel⟩
 refine F.ok sc (fun vs H Q E h=>by repeat (first|(obtain⟨rfl,_⟩:=h;rfl)|(obtain⟨_,h⟩:=h))) (fun cdv A outer s H vs Q E hr h=>?_)
 obtain⟨p,t,b,L,R,C,rs,half,room,u,rfl,hf,sz,⟨C',dx',fs',e1,c1,l1,m1⟩,h0,h2,hb,q⟩:=h
 refine⟨_,(pss_cons (ps_asg (pv 2) (pg_tup rfl (pgs_cons (pg_name (i:=3) sc.nd rfl (Or.inl rfl)) (pgs_cons (pg_name (i:=4) sc.nd rfl (Or.inl rfl)) (pgs_cons (pg_name (i:=5) sc.nd rfl (Or.inl rfl)) pgs_nil)))))
 (pss_cons (ps_set (i:=6) sc.nd rfl (Or.inl rfl) (pe_tup (pa_cons (pv 3) (pa_cons (pe_op op_sub (pv 4) (pe_fld (pv 1) rfl)) (pa_cons (pe_op op_sub (pv 5) (pe_fld (pv 1) rfl)) pa_nil)))))
 (pss_cons (ps_set (i:=7) sc.nd rfl (Or.inl rfl) (pe_tup (pa_cons (pv 3) (pa_cons (pe_op op_add (pv 4) (pe_fld (pv 1) rfl)) (pa_cons (pe_op op_add (pv 5) (pe_fld (pv 1) rfl)) pa_nil)))))
 (pss_cons (ps_if (pw_or (pt_not (pt_val (pe_cal gInside (hr.mono (by decide)) (by rfl) (pa_cons (pe_fld (pv 0) rfl) (pa_cons (pv 6) pa_nil))))) (pw_or1 (pt_not (pt_val (pe_cal gInside (hr.mono (by decide)) (by rfl) (pa_cons (pe_fld (pv 0) rfl) (pa_cons (pv 7) pa_nil))))))).pt
 (pss_one (ps_ret pe_bl))
 pss_nil)
 (pss_one (ps_ret (pe_not (pe_callB (call_any rfl) (by rfl) T.any_ bt_any (pa_cons (pe_lc (ls:=["near"]) (ys:=["floor"]) (ix:=[0]) rfl ⟨rfl,by rfl,by rfl,by rfl,by rfl,rfl⟩ (pi_list (pe_cal gSquare (hr.mono (by decide)) (by rfl) (pa_cons (pe_fld (pv 0) rfl) (pa_cons (pv 2) (pa_cons (pe_fld (pv 1) rfl) pa_nil))))) (fun _ _ _ _ _=>(pg_name (i:=0) (show(["near", "floor"]:List Str).Nodup by decide+kernel) rfl (Or.inl rfl))) (fun _ _ _ _ _=>pf_nil) (fun _ _ _ _ _=>(pe_met (pv 1) (by exact T.cl_Floor) (by exact gIsRock) (by exact(hr.mono (by decide))) (pa_cons (pv 0) pa_nil)))) pa_nil))))))))),?_⟩
 have hsz:sizeLine=2^24:=rfl
 have kc:Cls K C'∧NoAttr K C' "half" :=by rcases c1 with rfl|rfl<;>first|exact⟨T.cl_Net,T.na_Net_half⟩|exact⟨T.cl_Bundle,T.na_Bundle_half⟩
 refine sq_un3 (ev_var rfl) (SqT.of hb) ?_
 refine sq_tup (vs:=[.int u.1,.int (u.2.1 - half),.int (u.2.2 - half)]) (ea_cons (ev_var rfl) (ea_cons (ev_I0 (ev_var rfl) (ev_fldT (ev_var rfl) e1 kc.1 kc.2 l1)) (ea_cons (ev_I0 (ev_var rfl) (ev_fldT (ev_var rfl) e1 kc.1 kc.2 l1)) ea_nil))) (by show 3≤sizeLine;decide) fun a1 n1=>?_
 have s1:Same H (upd H a1 (.tup [.int u.1,.int (u.2.1 - half),.int (u.2.2 - half)])):=(Same.refl H).upd n1
 have ha1:At3 (upd H a1 (.tup [.int u.1,.int (u.2.1 - half),.int (u.2.2 - half)])) a1 u.1 (u.2.1 - half) (u.2.2 - half):=upd_same
 revert s1 ha1
 generalize upd H a1 (.tup [.int u.1,.int (u.2.1 - half),.int (u.2.2 - half)])=H1
 intro s1 ha1
 refine sq_tup (vs:=[.int u.1,.int (u.2.1+half),.int (u.2.2+half)]) (ea_cons (ev_var rfl) (ea_cons (ev_I0 (ev_var rfl) (ev_fldT (ev_var rfl) (s1 _ _ e1) kc.1 kc.2 l1)) (ea_cons (ev_I0 (ev_var rfl) (ev_fldT (ev_var rfl) (s1 _ _ e1) kc.1 kc.2 l1)) ea_nil))) (by show 3≤sizeLine;decide) fun a2 n2=>?_
 have s2:Same H1 (upd H1 a2 (.tup [.int u.1,.int (u.2.1+half),.int (u.2.2+half)])):=(Same.refl H1).upd n2
 have ha2:At3 (upd H1 a2 (.tup [.int u.1,.int (u.2.1+half),.int (u.2.2+half)])) a2 u.1 (u.2.1+half) (u.2.2+half):=upd_same
 revert s2 ha2
 generalize upd H1 a2 (.tup [.int u.1,.int (u.2.1+half),.int (u.2.2+half)])=H2
 intro s2 ha2
 have s12:=s1.trans s2
 have hf2:=hf.same s12
 obtain⟨dx,z,d,fs,kvs,g1,g2,g3,gn',g4,g5,g6⟩:=hf2.ex
 refine sq_if (et_or (et_not (et_B (ev_call (ea_cons (ev_fldT (ev_var rfl) g1 T.cl_Floor T.na_Floor_sizes g2) (ea_cons (ev_var rfl) ea_nil)) fun Q' q'=>⟨z,a1,L,R,C,_,_,_,rfl,g4,s2 _ _ ha1,q'⟩))) fun _=>et_not (et_B (ev_call (ea_cons (ev_fldT (ev_var rfl) g1 T.cl_Floor T.na_Floor_sizes g2) (ea_cons (ev_var rfl) ea_nil)) fun Q' q'=>⟨z,a2,L,R,C,_,_,_,rfl,g4,ha2,q'⟩))) (fun e=>?_) (fun e=>?_)
 ·refine rd_ret ev_c (q _ false s12 ⟨fun z=>absurd z (by simp),fun f=>?_⟩)
  rw[Bool.or_eq_true] at e
  rcases e with e|e
  ·exact absurd f (not_fit1 h0 (by simpa using e))
  ·exact absurd f (not_fit2 h0 (by simpa using e))
 have i1:Ins L R C u.1 (u.2.1 - half) (u.2.2 - half):=by rw[Bool.or_eq_false_iff] at e;simpa using e.1
 have i2:Ins L R C u.1 (u.2.1+half) (u.2.2+half):=by rw[Bool.or_eq_false_iff] at e;simpa using e.2
 have hr1:=sz.r1
 have hc1:=sz.c1
 obtain⟨j1,j2,j3,j4,j5,j6⟩:=id i1
 obtain⟨j1',j2',j3',j4',j5',j6'⟩:=id i2
 refine⟨_,rfl,p,cFloor,dx,fs,_,rfl,g1,T.cl_Floor,T.na_Floor_sizes,g2,_,rfl,_,rfl,t,C',dx',fs',_,rfl,s12 _ _ e1,kc.1,kc.2,l1,z,b,L,R,C,u.1,u.2.1,u.2.2,half,rfl,g4,s12 _ _ hb,⟨by omega,by omega⟩,⟨by omega,by omega⟩,⟨by omega,by omega⟩,⟨by omega,by omega⟩,⟨h0,by omega⟩,fun S ps qs H3 s3 hS hsp hmem hlen=>⟨S,rfl,⟨_,SqL.of hS⟩,fun D nD=>?_⟩⟩
 have hf3:=hf2.same s3
 have lps:ps.length=qs.length:=Paired.length hsp
 refine lc_listG (K:=K) (xs:=ps.map V.ref) (fun i τ H'=>∃x0:Option V,τ=[x0,some (.ref p)]∧H'=upd H3 D (.lst (((qs.take i).map fun q=>decide (q∈rs)).map V.bl))) ⟨none,rfl,rfl⟩ (fun i τ H' _ ⟨_,_,e⟩=>SqL.of (by rw[e,upd_ne (ne_of_none hS nD)];exact hS)) ?_ ?_
 ·rintro i x τ H' hx ⟨x0,rfl,rfl⟩
  obtain⟨a,ha,rfl⟩:=at_ref hx
  obtain⟨v,hv,hga⟩:=paired_at hsp ha
  have hiv:=lt_of_get hv
  obtain⟨w1,⟨w2,w3,w4,w5⟩,w6,w7,w8,w9⟩:=(hmem v).mp (List.mem_of_getElem? hv)
  refine gn (lc_el ?_)
  have sD:Same H3 (upd H3 D (.lst (((qs.take i).map fun q=>decide (q∈rs)).map V.bl))):=(Same.refl H3).upd nD
  refine⟨_,rfl,p,dx,fs,rfl,sD _ _ (s3 _ _ g1),gn'.1,_,rfl,p,a,L,R,C,rs,v,rfl,hf3.same sD,sD _ _ hga,⟨by omega,by omega,w2,w3,w6,w7⟩,?_⟩
  refine⟨_,upd_same,by rw[List.length_map,List.length_map,List.length_take];omega,_,rfl,?_⟩
  rw[upd_upd,take_one hv,List.map_append,List.map_append];rfl
 ·rintro τ H' ⟨x0,rfl,rfl⟩
  rw[List.length_map,lps,List.take_length]
  refine⟨D,_,rfl,SqL.of upd_same,_,rfl,q _ _ (s12.trans (s3.upd nD)) ?_⟩
  rw[Bool.not_eq_true',List.any_eq_false]
  constructor
  ·intro h r' c' h1 h2' h3 h4
   have hm:(u.1,r',c')∈qs:=(hmem _).mpr ⟨rfl,⟨by show 0≤r';omega,by show r'<R;omega,h1,h2'⟩,by show 0≤c';omega,by show c'<C;omega,h3,h4⟩
   refine⟨⟨by omega,by omega,by omega,by omega,by omega,by omega⟩,fun hr=>?_⟩
   have:=h (decide ((u.1,r',c')∈rs)) (List.mem_map.mpr ⟨_,hm,rfl⟩)
   rw[decide_eq_true hr] at this
   exact this rfl
  ·intro f x hx
   obtain⟨v,hv,rfl⟩:=List.mem_map.mp hx
   obtain⟨w1,⟨w2,w3,w4,w5⟩,w6,w7,w8,w9⟩:=(hmem v).mp hv
   have:=(f v.2.1 v.2.2 w4 w5 w8 w9).2
   have e:v=(u.1,v.2.1,v.2.2):=by rw[←w1]
   rw[←e] at this
   rw[decide_eq_false this];decide
theorem ok_Unlike {cThing cNet cBundle cFloor cMS:Addr}{f:Addr}{fd:FuncData}(F:Fun K "check_unlike" "check_unlike" sUnlike f fd)(hB:K.In base)(T:Txt K mg cThing cNet cBundle cFloor cMS):FnOk P w K mg base CX0 1 f fd ["spots"] spUnlike:=by
 have sc:FnScope ["spots"] ["spots"] (defScope sUnlike):=⟨rfl,rfl,rfl,by decide+kernel,rfl,by decide+kernel,by decide+kernel⟩
 refine F.ok sc (fun vs H Q E h=>by repeat (first|(obtain⟨rfl,_⟩:=h;rfl)|(obtain⟨_,h⟩:=h))) (fun cdv A outer s H vs Q E hr h=>?_)
 obtain⟨l,cs,rfl,⟨as,hl,ht⟩,h7,nd,h18,q⟩:=h
 refine⟨_,(pss_one (ps_if (pt_cmpR op_ne (pe_callB call_lenM (by rfl) T.len_ bt_len (pa_cons (pe_callTy (call_setM rfl hr) (by rfl) T.set_ bt_set (pa_cons (pv 0) pa_nil)) pa_nil)) (pe_callB call_len (by rfl) T.len_ bt_len (pa_cons (pv 0) pa_nil)) (nomark _))
 (pss_one ps_never)
 pss_nil)),?_⟩
 have len:as.length=cs.length:=Paired.length ht
 refine if_of ⟨_,rfl,l,as,cs,rfl,SqL.of hl,ht,by omega,fun c hc d hd e=>sp7_inj (h7 c hc) (h7 d hd) e,fun b p bs ds np tb nds mem l74 hb=>⟨b,p,bs,rfl,upd_same,by have:=Paired.length tb;omega,_,rfl,_,_,rfl,.inl ⟨_,SqL.of (by rw[upd_ne (ne_of_none hl np)];exact hl),rfl⟩,rfl,_,rfl,?_⟩⟩
 have a1:=nd_len nds (ys:=cs) fun x hx=>(mem x).mp hx
 have a2:=nd_len nd (ys:=ds) fun x hx=>(mem x).mpr hx
 have a3:bs.length=ds.length:=Paired.length tb
 have e:(!decide (V.int (bs.length:Nat)=V.int ((as.map V.ref).length:Nat)))=false:=by
  rw[List.length_map,len,show bs.length=cs.length by omega];simp
 rw[e]
 exact iteF (q _ ((Same.refl H).upd np))
theorem ok_ClashA {cThing cNet cBundle cFloor cMS:Addr}{f:Addr}{fd:FuncData}(F:Fun K "clash_at_all" "clash_at_all" sClashA f fd)(T:Txt K mg cThing cNet cBundle cFloor cMS)(gClash:Callee P w K mg base "clash" 2 ["thing", "spot", "other", "place"] (spClash cNet cBundle)):FnOk P w K mg base CX0 3 f fd ["thing", "spots", "other", "places"] (spClashA cNet cBundle):=by
 have sc:FnScope ["thing", "spots", "other", "places", "spot"] ["thing", "spots", "other", "places"] (defScope sClashA):=⟨rfl,rfl,rfl,by decide+kernel,rfl,by decide+kernel,by decide+kernel⟩
 refine F.ok sc (fun vs H Q E h=>by repeat (first|(obtain⟨rfl,_⟩:=h;rfl)|(obtain⟨_,h⟩:=h))) (fun cdv A outer s H vs Q E hr h=>?_)
 obtain⟨p,l,p',m,g,h,cs,ds,rfl,tg,th,⟨as,hl,ht⟩,⟨bs,hm,hu⟩,og,oh,h18,q⟩:=h
 refine⟨_,(pss_cons (ps_for PassesOwn.never rfl (pi_list (pv 1)) (pg_name (i:=4) sc.nd rfl (Or.inr rfl))
 (pss_one (ps_if (pt_val (pe_callB (call_any rfl) (by rfl) T.any_ bt_any (pa_cons (pe_lc (ls:=["place"]) (ys:=["thing", "spot", "other"]) (ix:=[0,4,2]) rfl ⟨rfl,by rfl,by rfl,by rfl,by rfl,rfl⟩ (pi_list (pv 3)) (fun _ _ _ _ _=>(pg_name (i:=0) (show(["place", "thing", "spot", "other"]:List Str).Nodup by decide+kernel) rfl (Or.inl rfl))) (fun _ _ _ _ _=>pf_nil) (fun _ _ _ _ _=>(pe_cal (by exact gClash) (by exact(hr.mono (by decide))) (by rfl) (pa_cons (pv 1) (pa_cons (pv 2) (pa_cons (pv 3) (pa_cons (pv 0) pa_nil))))))) pa_nil)))
 (pss_one (ps_ret pe_bl))
 pss_nil)))
 (pss_one (ps_ret pe_bl))),?_⟩
 have hsz:sizeLine=2^24:=rfl
 have la:as.length=cs.length:=Paired.length ht
 have lb:bs.length=ds.length:=Paired.length hu
 refine⟨_,rfl,l,rfl,⟨_,SqL.of hl⟩,?_⟩
 refine for_list (K:=K) (xs:=as.map V.ref) (fun i σ H'=>∃x4:Option V,σ=[some (.ref p),some (.ref l),some (.ref p'),some (.ref m),x4]∧Same H H'∧((cs.take i).any fun c=>ds.any fun d=>clT g h c d)=false) ⟨none,rfl,Same.refl H,rfl⟩ (fun i σ H' _ ⟨_,_,s,_⟩=>SqL.of (s _ _ hl)) ?_ ?_
 ·rintro i x σ H1 hx ⟨x4,rfl,s1,ok⟩
  obtain⟨a,ha,rfl⟩:=at_ref hx
  obtain⟨c,hc,e⟩:=paired_at ht ha
  have h7:=og c (List.mem_of_getElem? hc)
  refine gn ?_
  refine if_of ⟨_,rfl,m,rfl,⟨_,SqL.of (s1 _ _ hm)⟩,fun D nD=>?_⟩
  refine lc_listG (K:=K) (xs:=bs.map V.ref) (fun j τ H'=>∃x0:Option V,τ=[x0,some (.ref p),some (.ref a),some (.ref p')]∧H'=upd H1 D (.lst (((ds.take j).map fun d=>clT g h c d).map V.bl))) ⟨none,rfl,rfl⟩ (fun j τ H' _ ⟨_,_,e⟩=>SqL.of (by rw[e,upd_ne (ne_of_none (s1 _ _ hm) nD)];exact s1 _ _ hm)) ?_ ?_
  ·rintro j x τ H' hx' ⟨x0,rfl,rfl⟩
   obtain⟨b,hb,rfl⟩:=at_ref hx'
   obtain⟨d,hd,e'⟩:=paired_at hu hb
   have h7':=oh d (List.mem_of_getElem? hd)
   refine gn (lc_el ?_)
   have sD:Same H1 (upd H1 D (.lst (((ds.take j).map fun d=>clT g h c d).map V.bl))):=(Same.refl H1).upd nD
   have sH:=s1.trans sD
   refine⟨_,rfl,_,rfl,_,rfl,_,rfl,p,a,p',b,_,_,_,_,_,_,_,_,_,_,rfl,(tg.same sH).th,(th.same sH).th,sp7_at h7 (sH _ _ e),sp7_at h7' (sH _ _ e'),?_⟩
   refine⟨_,upd_same,by rw[List.length_map,List.length_map,List.length_take];omega,_,rfl,?_⟩
   rw[upd_upd,take_one hd,List.map_append,List.map_append];rfl
  ·rintro τ H' ⟨x0,rfl,rfl⟩
   have sD:Same H (upd H1 D (.lst (((ds.take (bs.map V.ref).length).map fun d=>clT g h c d).map V.bl))):=s1.upd nD
   refine⟨D,(ds.map fun d=>clT g h c d),rfl,SqL.of (by rw[upd_same,List.length_map,lb,List.take_length]),_,rfl,?_⟩
   have em:((ds.map fun d=>clT g h c d).any id)=ds.any fun d=>clT g h c d:=by rw[List.any_map];rfl
   rw[em]
   cases eb:ds.any fun d=>clT g h c d
   ·exact iteF ⟨_,rfl,sD,any_snoc ok hc eb⟩
   ·refine iteT (rd_ret ev_c ?_)
    have:(cs.any fun c=>ds.any fun d=>clT g h c d)=true:=List.any_eq_true.mpr ⟨c,List.mem_of_getElem? hc,eb⟩
    rw[←this];exact q _ sD
 ·rintro σ H1 ⟨x4,rfl,s1,ok⟩
  rw[List.length_map,la,List.take_length] at ok
  refine st (rd_ret ev_c ?_)
  rw[←ok];exact q _ s1
theorem ok_Open {cThing cNet cBundle cFloor cMS:Addr}{f:Addr}{fd:FuncData}(F:Fun K "open_spots" "Floor.open_spots" sOpen f fd)(T:Txt K mg cThing cNet cBundle cFloor cMS)(gSpotOf:Callee P w K mg base "spot_of" 1 ["sizes", "number"] (spSpotOf K)):FnOk P w K mg base CX0 2 f fd ["self"] (spOpen cFloor):=by
 have sc:FnScope ["self", "layers", "rows", "columns", "spots"] ["self"] (defScope sOpen):=⟨rfl,rfl,rfl,by decide+kernel,rfl,by decide+kernel,by decide+kernel⟩
 refine F.ok sc (fun vs H Q E h=>by repeat (first|(obtain⟨rfl,_⟩:=h;rfl)|(obtain⟨_,h⟩:=h))) (fun cdv A outer s H vs Q E hr h=>?_)
 obtain⟨p,L,R,C,rs,rfl,hF,S,q⟩:=h
 refine⟨_,(pss_cons (ps_asg (pe_fld (pv 0) rfl) (pg_tup rfl (pgs_cons (pg_name (i:=1) sc.nd rfl (Or.inl rfl)) (pgs_cons (pg_name (i:=2) sc.nd rfl (Or.inl rfl)) (pgs_cons (pg_name (i:=3) sc.nd rfl (Or.inl rfl)) pgs_nil)))))
 (pss_cons (ps_lcset (i:=4) (ls:=["number"]) (ys:=["self"]) (ix:=[0]) rfl sc.nd rfl (Or.inl rfl) ⟨rfl,by rfl,by rfl,by rfl,by rfl,rfl⟩ (pi_range1 (by rfl) T.range_ (pa_cons (pe_op op_mul (pe_op op_mul (pv 1) (pv 2)) (pv 3)) pa_nil)) (fun _ _ _ _ _=>(pg_name (i:=0) (show(["number", "self"]:List Str).Nodup by decide+kernel) rfl (Or.inl rfl))) (fun _ _ _ _ _=>pf_nil) (fun _ _ _ _ _=>(pe_cal (by exact gSpotOf) (by exact(hr.mono (by decide))) (by rfl) (pa_cons (pe_fldK (K:=K) rfl (pv 1) rfl) (pa_cons (pv 0) pa_nil)))))
 (pss_one (ps_ret (pe_lc (ls:=["spot"]) (ys:=["self"]) (ix:=[0]) rfl ⟨rfl,by rfl,by rfl,by rfl,by rfl,rfl⟩ (pi_list (pv 4)) (fun _ _ _ _ _=>(pg_name (i:=0) (show(["spot", "self"]:List Str).Nodup by decide+kernel) rfl (Or.inl rfl))) (fun _ _ _ _ _=>(pf_one (pt_cmp (pc_dnotin (by exact(Room.one hr)) (pv 0) (pe_fldK (K:=K) rfl (pv 1) rfl))))) (fun _ _ _ _ _=>(pv 0))))))),?_⟩
 have l0:=S.l0
 have l1:=S.l1
 have r0:=S.r0
 have r1:=S.r1
 have c0:=S.c0
 have c1:=S.c1
 have hsz:sizeLine=2^24:=rfl
 have m0:0≤L*R*C:=Int.mul_nonneg (Int.mul_nonneg (by omega) (by omega)) (by omega)
 have m1:L*R*C≤4*16*16:=Int.mul_le_mul (Int.mul_le_mul l1 r1 (by omega) (by omega)) c1 (by omega) (by omega)
 obtain⟨dx,z,d,fs,kvs,h1,h2,h3,hn,h4,h5,h6⟩:=hF.ex
 refine sq_un3 (ev_fldT (ev_var rfl) h1 T.cl_Floor T.na_Floor_sizes h2) (SqT.of h4) ?_
 refine sq_lc1 (j:=L*R*C) (ea_cons (ev_I (ev_I (ev_var rfl) (ev_var rfl) (cmR (by omega) (by omega))) (ev_var rfl) (cmR (by omega) (by omega))) ea_nil) (by omega) (by omega) fun D nD=>?_
 refine lc_range (n:=(L*R*C).toNat) (fun i τ H'=>∃(x0:Option V) (bs:List Addr),τ=[x0,some (.ref p)]∧Same H H'∧H' D=some (.lst (bs.map V.ref))∧Spots H' bs (gr3 R C i)∧bs.length=i) ⟨none,[],rfl,(Same.refl H).upd nD,upd_same,.nil,rfl⟩ ?_ ?_
 ·rintro i τ H' hi ⟨x0,bs,rfl,s,hD,hbs,hl⟩
  have hi:i<(L*R*C).toNat:=hi
  refine gn (lc_el (te_cal (ea_cons (ev_fldT (ev_var rfl) (s _ _ h1) T.cl_Floor T.na_Floor_sizes h2) (ea_cons (ev_var rfl) ea_nil)) ⟨z,L,R,C,i,by rw[Int.zero_add],s _ _ h4,S,by omega,fun H2 t s2 nt ht=>?_⟩))
  have hD2:=s2 _ _ hD
  refine⟨bs.map V.ref,hD2,by rw[List.length_map];omega,_,bs++[t],rfl,same_at (s.trans s2) nD,by rw[upd_same,List.map_append];rfl,?_,by rw[List.length_append,hl];rfl⟩
  unfold gr3
  rw[List.range_succ,List.map_append]
  exact spots_app (spots_mono' (Spots.same hbs s2) (lst_up hD2)) (.cons (lst_up hD2 _ _ ht) .nil)
 ·rintro τ H2 ⟨x0,bs,rfl,s2,hD,hbs,hl⟩
  have hl:bs.length=(L*R*C).toNat:=hl
  have lg:(gr3 R C (L*R*C).toNat).length=(L*R*C).toNat:=by unfold gr3;rw[List.length_map,List.length_range]
  obtain⟨gs,hgs⟩:∃gs,gr3 R C (L*R*C).toNat=gs:=⟨_,rfl⟩
  have hbs:Spots H2 bs (gr3 R C (L*R*C).toNat):=hbs
  rw[hgs] at hbs lg q
  refine rd_te (te_lcL (K:=K) (xs:=bs.map V.ref) (ev_var rfl) (SqL.of hD) fun D2 nD2=>?_)
  refine lc_listG (K:=K) (xs:=bs.map V.ref) (fun i τ H'=>∃(x0:Option V) (as:List Addr),τ=[x0,some (.ref p)]∧Same H2 H'∧H' D2=some (.lst (as.map V.ref))∧Spots H' as ((gs.take i).filter fun q=>!decide (q∈rs))∧as.length≤i) ⟨none,[],rfl,(Same.refl H2).upd nD2,upd_same,.nil,Nat.le_refl _⟩ (fun i τ H' _ ⟨_,_,_,s,_⟩=>SqL.of (s _ _ hD)) ?_ ?_
  ·rintro i x τ H' hx ⟨x0',as,rfl,s3,hD3,hsp,hle⟩
   obtain⟨b,hb,rfl⟩:=at_ref hx
   obtain⟨v,hv,hvb⟩:=paired_at hbs hb
   have hib:=lt_of_get hb
   have s23:=s2.trans s3
   refine gn ?_
   have ec:EvT (tTest (tDNotIn (tVar 0) (tFld K (tVar 1) "rocks"))) [some (.ref b),some (.ref p)] H' (!decide (v∈rs)):=et_of (et_test (ev_dnotin (ev_var rfl) (ev_fldT (ev_var rfl) (s23 _ _ h1) T.cl_Floor T.na_Floor_rocks h3) (DGet.t (k:=k3 v) (s23 _ _ h5) (s3 _ _ hvb)))) (by rw[h6])
   refine et_use ec ?_
   cases e:!decide (v∈rs)
   ·refine iteF ⟨_,as,rfl,s3,hD3,?_,by omega⟩
    rw[take_one hv,List.filter_append,List.filter_cons_of_neg (by rw[e];decide),List.filter_nil,List.append_nil]
    exact hsp
   ·refine iteT (te_use (ev_var rfl) ⟨_,hD3,by rw[List.length_map];omega,_,as++[b],rfl,same_at s3 nD2,by rw[upd_same,List.map_append];rfl,?_,by rw[List.length_append];show as.length+1≤i+1;omega⟩)
    rw[take_one hv,List.filter_append,List.filter_cons_of_pos (p:=fun q:Sp3=>!decide (q∈rs)) e,List.filter_nil]
    exact spots_app (spots_mono' hsp (lst_up hD3)) (.cons (lst_up hD3 _ _ (s3 _ _ hvb)) .nil)
  ·rintro τ H' ⟨x0',as,rfl,s3,hD3,hsp,hle⟩
   rw[List.length_map,hl,←lg,List.take_length] at hsp
   exact q H' D2 as (s2.trans s3) hD3 hsp
theorem srt_of {ds:List T3}(h:ds.Pairwise fun c d=>HT.lexLt d c=false)(nd:ds.Nodup):Srt3 ds:=by
 refine(List.Pairwise.and h nd).imp fun{c d} ⟨h1,h2⟩=>?_
 cases e:HT.lexLt c d with
 |true=>rfl
 |false=>exact absurd (lex_total _ _ e h1) h2
theorem srt_nd {ds:List T3}(h:Srt3 ds):ds.Nodup:=h.imp fun{c d} h e=>by rw[e,lex_irrefl] at h;cases h
theorem srt_uniq:∀{ds es:List T3},Srt3 ds→Srt3 es→(∀c,c∈ds↔c∈es)→ds=es
 |[],[],_,_,_=>rfl
 |[],e::es,_,_,h=>absurd ((h e).mpr List.mem_cons_self) (by simp)
 |d::ds,[],_,_,h=>absurd ((h d).mp List.mem_cons_self) (by simp)
 |d::ds,e::es,h1,h2,h=>by
  have p1:=List.pairwise_cons.mp h1
  have p2:=List.pairwise_cons.mp h2
  have ede:d=e:=by
   rcases List.mem_cons.mp ((h d).mp List.mem_cons_self) with r|r
   ·exact r
   ·rcases List.mem_cons.mp ((h e).mpr List.mem_cons_self) with r'|r'
    ·exact r'.symm
    ·have a:=p2.1 d r
     have b:=p1.1 e r'
     have:=lex_trans _ _ _ a b
     rw[lex_irrefl] at this;cases this
  subst ede
  rw[srt_uniq p1.2 p2.2 fun c=>?_]
  have n1:c=d→c∉ds:=fun z hc=>by have:=p1.1 c hc;rw[z,lex_irrefl] at this;cases this
  have n2:c=d→c∉es:=fun z hc=>by have:=p2.1 c hc;rw[z,lex_irrefl] at this;cases this
  constructor
  ·intro hc
   rcases List.mem_cons.mp ((h c).mp (List.mem_cons_of_mem _ hc)) with r|r
   ·exact absurd hc (n1 r)
   ·exact r
  ·intro hc
   rcases List.mem_cons.mp ((h c).mpr (List.mem_cons_of_mem _ hc)) with r|r
   ·exact absurd hc (n2 r)
   ·exact r
theorem wsp_snoc {W:Wg}{i:Nat}{w:T3×T3}(h:W[i]?=some w):wsp (W.take (i+1))=wsp (W.take i)++[w.1,w.2]:=by
 unfold wsp
 rw[take_one h,List.flatMap_append];rfl
theorem wsp_len (W:Wg):(wsp W).length=2*W.length:=by
 unfold wsp
 induction W with
 |nil=>rfl
 |cons a r ih=>simp only[List.flatMap_cons,List.length_append,ih,List.length_cons,List.length_nil];omega
theorem wsp_mem {W:Wg}{c:T3}(h:c∈wsp W):∃w∈W,c=w.1∨c=w.2:=by
 obtain⟨w,hw,hc⟩:=List.mem_flatMap.mp h
 refine⟨w,hw,?_⟩
 simpa using hc
theorem hsp7 {g:Tg}{W:Wg}(og:TgOk g)(ow:WgOk W):∀c∈hsp g W,Sp7 c:=fun c hc=>by
 rcases List.mem_append.mp hc with h|h
 ·exact og.es c h
 ·obtain⟨w,hw,rfl|rfl⟩:=wsp_mem h
  ·exact(ow.s w hw).1
  ·exact(ow.s w hw).2
theorem atI_last {α:Type}{xs:List α}{x:α}:atI (xs++[x]) (-1)=some x:=by
 unfold atI ixN
 rw[if_neg (by decide),if_pos (by rw[List.length_append];show -((xs.length+1:Nat):Int)≤ -1;omega)]
 show(xs++[x])[(-1+((xs++[x]).length:Int)).toNat]?=some x
 rw[List.length_append,show(-1+(((xs.length+[x].length:Nat)):Int)).toNat=xs.length by show(-1+((xs.length+1:Nat):Int)).toNat=_;omega]
 simp
theorem lex_le_of {ds:List T3}(h:ds.Pairwise fun c d=>HT.lexLt d c=false){i:Nat}{x c:T3}(hx:ds[i]?=some x)(hc:c∈ds.take i):HT.lexLt x c=false:=by
 obtain⟨j,hj⟩:=List.mem_iff_getElem?.mp hc
 have hji:j<i:=by have:=lt_of_get hj;rw[List.length_take] at this;omega
 rw[List.getElem?_take,if_pos hji] at hj
 have h1:=lt_of_get hj
 have h2:=lt_of_get hx
 have:=List.pairwise_iff_getElem.mp h j i h1 h2 hji
 rw[List.getElem?_eq_getElem h1] at hj
 rw[List.getElem?_eq_getElem h2] at hx
 rw[←Option.some.inj hj,←Option.some.inj hx];exact this
theorem near_law {g h:Tg}{u:Sp3}{c:T3}:(decide ((q3 c).1=u.1)&&(decide (ab ((q3 c).2.1 - u.2.1)≤g.hf+h.hf+mx g.rm h.rm)&&decide (ab ((q3 c).2.2 - u.2.2)≤g.hf+h.hf+mx g.rm h.rm)))=clT g h (t3 u) c:=by
 unfold clT clV
 show _=(decide (u.1=(q3 c).1)&&decide (mx (ab (u.2.1 - (q3 c).2.1)) (ab (u.2.2 - (q3 c).2.2))≤g.hf+h.hf+mx g.rm h.rm))
 rw[ab_sub u.2.1,ab_sub u.2.2,decide_eq_decide.mpr (mx_le _ _ _),Bool.decide_and,decide_eq_decide.mpr ⟨Eq.symm,Eq.symm⟩]
theorem dd_srt {ds es:List T3}{i:Nat}{c:T3}(h:ds.Pairwise fun c d=>HT.lexLt d c=false)(hc:ds[i]?=some c)(srt:Srt3 es)(mem:∀x,x∈es↔x∈ds.take i)(hn:c∉es):Srt3 (es++[c]):=by
 refine List.pairwise_append.mpr ⟨srt,List.pairwise_singleton _ _,fun x hx y hy=>?_⟩
 rw[List.mem_singleton.mp hy]
 cases e:HT.lexLt x c with
 |true=>rfl
 |false=>exact absurd (lex_total _ _ e (lex_le_of h hc ((mem x).mp hx))▸hx) hn
theorem dd_mem {ds es:List T3}{i:Nat}{c:T3}(hc:ds[i]?=some c)(mem:∀x,x∈es↔x∈ds.take i):∀x,x∈es++[c]↔x∈ds.take (i+1):=fun x=>by
 rw[take_one hc,List.mem_append,List.mem_append,mem]
theorem dd_not {ds ini:List T3}{i:Nat}{c d:T3}(h:ds.Pairwise fun c d=>HT.lexLt d c=false)(hc:ds[i]?=some c)(srt:Srt3 (ini++[d]))(mem:∀x,x∈ini++[d]↔x∈ds.take i)(ne:d≠c):c∉ini++[d]:=fun hm=>by
 rcases List.mem_append.mp hm with r|r
 ·have h1:=(List.pairwise_append.mp srt).2.2 c r d (by simp)
  rw[lex_le_of h hc ((mem d).mp (by simp))] at h1
  cases h1
 ·exact ne (List.mem_singleton.mp r).symm
theorem ok_Held {cThing cNet cBundle cFloor cMS:Addr}{f:Addr}{fd:FuncData}(F:Fun K "held" "held" sHeld f fd)(T:Txt K mg cThing cNet cBundle cFloor cMS)(gNEnds:MCallee P w K mg base cNet "ends" 1 ["self"] (spNEnds cNet))(gBEnds:MCallee P w K mg base cBundle "ends" 1 ["self"] (spBEnds cBundle)):FnOk P w K mg base CX0 2 f fd ["thing", "wiring"] (spHeld cNet cBundle):=by
 have sc:FnScope ["thing", "wiring", "spots", "one", "two"] ["thing", "wiring"] (defScope sHeld):=⟨rfl,rfl,rfl,by decide+kernel,rfl,by decide+kernel,by decide+kernel⟩
 refine F.ok sc (fun vs H Q E h=>by repeat (first|(obtain⟨rfl,_⟩:=h;rfl)|(obtain⟨_,h⟩:=h))) (fun cdv A outer s H vs Q E hr h=>?_)
 obtain⟨p,v,g,W,rfl,tg,og,e2,nde,e2',hW,ow,q⟩:=h
 refine⟨_,(pss_cons (ps_set (i:=2) sc.nd rfl (Or.inl rfl) (pe_met20 (pv 0) T.cl_Net T.cl_Bundle gNEnds gBEnds (hr.mono (by decide)) (hr.mono (by decide))))
 (pss_cons (ps_if (pt_cmpR op_notN (pv 1) pe_non (nomark _))
 (pss_one (ps_for PassesOwn.never rfl (pi_list (pv 1)) (pg_tup rfl (pgs_cons (pg_name (i:=3) sc.nd rfl (Or.inl rfl)) (pgs_cons (pg_name (i:=4) sc.nd rfl (Or.inl rfl)) pgs_nil)))
 (pss_one (ps_expr (pe_bm PySem.F.plainAttrs_list PySem.F.slot_list_extend PySem.F.type_list_extend mt_extend (pv 2) (pa_cons (pe_lst (pa_cons (pv 3) (pa_cons (pv 4) pa_nil))) pa_nil))))))
 pss_nil)
 (pss_one (ps_ret (pe_callB (call_sortedM rfl) (by rfl) T.sorted_ bt_sorted (pa_cons (pe_callTy (call_setM rfl hr) (by rfl) T.set_ bt_set (pa_cons (pv 2) pa_nil)) pa_nil)))))),?_⟩
 have hsz:sizeLine=2^24:=rfl
 have hw8:=ow.n
 refine sq_asg (te_ends (ev_var rfl) tg og.ln fun H1 l s1 nl ⟨as,hl,ht⟩=>?_)
 refine sq_J (fun σ H'=>∃(x3 x4:Option V) (as:List Addr),σ=[some (.ref p),some v,some (.ref l),x3,x4]∧Same H H'∧H' l=some (.lst (as.map V.ref))∧Tups H' as (hsp g W)) (fun R0 hR=>?_) ?_
 ·rcases hW with ⟨rfl,rfl⟩|⟨lw,ws,rfl,hlw,hpw⟩
  ·refine rd_ifF (b:=false) (et_of (et_test (ev_notN (ev_var rfl) ev_c)) rfl) rfl ?_
   exact hR _ _ ⟨none,none,as,rfl,s1,hl,by unfold hsp wsp;rw[List.flatMap_nil,List.append_nil];exact ht⟩
  ·refine rd_ifT (b:=true) (et_of (et_test (ev_notN (ev_var rfl) ev_c)) rfl) rfl ?_
   have lws:ws.length=W.length:=Paired.length hpw
   refine⟨_,rfl,lw,rfl,⟨_,SqL.of (s1 _ _ hlw)⟩,?_⟩
   refine for_list (K:=K) (xs:=ws.map V.ref) (fun i σ H'=>∃(x3 x4:Option V) (as:List Addr),σ=[some (.ref p),some (.ref lw),some (.ref l),x3,x4]∧Same H H'∧H' l=some (.lst (as.map V.ref))∧Tups H' as (g.es++wsp (W.take i))) ⟨none,none,as,rfl,s1,hl,by unfold wsp;rw[List.take_zero,List.flatMap_nil,List.append_nil];exact ht⟩ (fun i σ H' _ ⟨_,_,_,_,s,_⟩=>SqL.of (s _ _ hlw)) ?_ ?_
   ·rintro i x σ H2 hx ⟨x3,x4,as,rfl,s2,hl2,ht2⟩
    obtain⟨a,ha,rfl⟩:=at_ref hx
    obtain⟨w,hw,b,c,h1,h2,h3⟩:=paired_at hpw ha
    have hiw:=lt_of_get hw
    have las:as.length=(g.es++wsp (W.take i)).length:=Paired.length ht2
    rw[List.length_append,wsp_len,List.length_take] at las
    refine⟨a,_,rfl,SqT.of (s2 _ _ h1),rfl,_,_,rfl,_,_,rfl,rfl,?_⟩
    refine rd_drop (te_bm (ev_var rfl) (.inl ⟨rfl,_,SqL.of hl2⟩) (ta_one (te_lst (vs:=[.ref b,.ref c]) (ea_cons (ev_var rfl) (ea_cons (ev_var rfl) ea_nil)) (by show 2≤sizeLine;decide) fun e ne=>?_)))
    have hle:l≠e:=ne_of_none hl2 ne
    have hl3:upd H2 e (.lst [.ref b,.ref c]) l=some (.lst (as.map V.ref)):=by rw[upd_ne hle];exact hl2
    refine⟨l,e,_,_,rfl,rfl,hl3,upd_same,by rw[List.length_map];show as.length+2≤_;omega,?_⟩
    have up:∀b' xs,H2 b'=some (.tup xs)→upd (upd H2 e (.lst [.ref b,.ref c])) l (.lst (as.map V.ref++[.ref b,.ref c])) b'=some (.tup xs):=fun b' xs e'=>by
     rw[upd_ne (ne_of e' hl2 (fun z=>nomatch z)),upd_ne (ne_of_none e' ne)];exact e'
    refine⟨_,_,as++[b,c],rfl,same_at (s2.upd ne) nl,by rw[upd_same,List.map_append];rfl,?_⟩
    rw[wsp_snoc hw,←List.append_assoc]
    exact tups_app (tups_mono ht2 up) (.cons (up _ _ (s2 _ _ h2)) (.cons (up _ _ (s2 _ _ h3)) .nil))
   ·rintro σ H2 ⟨x3,x4,as,rfl,s2,hl2,ht2⟩
    rw[List.length_map,lws,List.take_length] at ht2
    exact hR _ _ ⟨_,_,as,rfl,s2,hl2,ht2⟩
 clear hl ht s1
 rintro σ H1 ⟨x3,x4,as,rfl,s1,hl,ht⟩
 have las:as.length=(hsp g W).length:=Paired.length ht
 have lhs:(hsp g W).length=g.es.length+2*W.length:=by unfold hsp;rw[List.length_append,wsp_len]
 have h7:=hsp7 og ow
 refine rd_te (te_cb1 (te_cb1 (te_use (ev_var rfl) ⟨l,as,hsp g W,rfl,SqL.of hl,ht,by omega,fun c hc d hd e=>sp7_inj (h7 c hc) (h7 d hd) e,fun b p1 bs ds np tb nds mem l74 hb=>?_⟩)))
 have s2:Same H1 (upd H1 p1 (stM b p1 bs)):=(Same.refl H1).upd np
 have a1:=nd_len nde (ys:=ds) fun x hx=>(mem x).mpr (List.mem_append_left _ hx)
 have a2:=nd_len nds (ys:=hsp g W) fun x hx=>(mem x).mp hx
 refine⟨b,p1,bs,ds,rfl,upd_same,hb,Tups.same tb s2,fun c hc=>?_,by omega,by omega,fun l' bs' ds' nl' tb' pm st'=>?_⟩
 ·obtain⟨x,y,w,e,_⟩:=h7 c ((mem c).mp hc)
  rw[e];simp
 have s3:Same (upd H1 p1 (stM b p1 bs)) (upd (upd H1 p1 (stM b p1 bs)) l' (.lst (bs'.map V.ref))):=(Same.refl _).upd nl'
 exact q _ l' ds' (s1.trans (s2.trans s3)) (fresh_of (s1.trans s2) nl') ⟨bs',upd_same,Tups.same tb' s3⟩ (srt_of st' (pm.nodup_iff.mpr nds)) fun c=>by rw[pm.mem_iff];exact mem c
theorem ok_LHeld {cThing cNet cBundle cFloor cMS:Addr}{f:Addr}{fd:FuncData}(F:Fun K "_law_held" "_law_held" sLHeld f fd)(T:Txt K mg cThing cNet cBundle cFloor cMS)(gNEnds:MCallee P w K mg base cNet "ends" 1 ["self"] (spNEnds cNet))(gBEnds:MCallee P w K mg base cBundle "ends" 1 ["self"] (spBEnds cBundle)):FnOk P w K mg base CX0 2 f fd ["thing", "wiring"] (spLHeld cNet cBundle):=by
 have sc:FnScope ["thing", "wiring", "spots", "pair", "gathered", "spot"] ["thing", "wiring"] (defScope sLHeld):=⟨rfl,rfl,rfl,by decide+kernel,rfl,by decide+kernel,by decide+kernel⟩
 refine F.ok sc (fun vs H Q E h=>by repeat (first|(obtain⟨rfl,_⟩:=h;rfl)|(obtain⟨_,h⟩:=h))) (fun cdv A outer s H vs Q E hr h=>?_)
 obtain⟨p,v,g,W,rfl,tg,og,e2,nde,e2',hW,ow,q⟩:=h
 refine⟨_,(pss_cons (ps_set (i:=2) sc.nd rfl (Or.inl rfl) (pe_callTy call_list_of (by rfl) T.list_ bt_list (pa_cons (pe_met20 (pv 0) T.cl_Net T.cl_Bundle gNEnds gBEnds (hr.mono (by decide)) (hr.mono (by decide))) pa_nil)))
 (pss_cons (ps_if (pt_cmpR op_notN (pv 1) pe_non (nomark _))
 (pss_one (ps_for PassesOwn.never rfl (pi_list (pv 1)) (pg_name (i:=3) sc.nd rfl (Or.inl rfl))
 (pss_cons (ps_expr (pe_bm PySem.F.plainAttrs_list PySem.F.slot_list_append PySem.F.type_list_append mt_append (pv 2) (pa_cons (pe_ix ix_tup (pv 3) pe_int (fun _ _=>rfl)) pa_nil)))
 (pss_one (ps_expr (pe_bm PySem.F.plainAttrs_list PySem.F.slot_list_append PySem.F.type_list_append mt_append (pv 2) (pa_cons (pe_ix ix_tup (pv 3) pe_int (fun _ _=>rfl)) pa_nil)))))))
 pss_nil)
 (pss_cons (ps_set (i:=4) sc.nd rfl (Or.inl rfl) (pe_lst pa_nil))
 (pss_cons (ps_for PassesOwn.never rfl (pi_list (pe_callB (call_sortedI hr) (by rfl) T.sorted_ bt_sorted (pa_cons (pv 2) pa_nil))) (pg_name (i:=5) sc.nd rfl (Or.inl rfl))
 (pss_one (ps_if (pw_or (pt_cmpR op_eq (pe_callB call_len (by rfl) T.len_ bt_len (pa_cons (pv 4) pa_nil)) pe_int (nomark _)) (pw_or1 (pt_cmpR (op_neD hr) (pe_ix ix_list (pv 4) (pe_un un_neg pe_int) (fun _ _=>rfl)) (pv 5) (nomark _)))).pt
 (pss_one (ps_expr (pe_bm PySem.F.plainAttrs_list PySem.F.slot_list_append PySem.F.type_list_append mt_append (pv 4) (pa_cons (pv 5) pa_nil))))
 pss_nil)))
 (pss_one (ps_ret (pv 4))))))),?_⟩
 have hsz:sizeLine=2^24:=rfl
 have hw8:=ow.n
 refine sq_asg (te_cb1 (te_ends (ev_var rfl) tg og.ln fun H0 l0 s0 nl0 ⟨as,hl0,ht0⟩=>⟨l0,_,rfl,.inl (SqL.of hl0),fun l nl=>?_⟩))
 have s1:Same H0 (upd H0 l (.lst (as.map V.ref))):=(Same.refl H0).upd nl
 have hl:upd H0 l (.lst (as.map V.ref)) l=some (.lst (as.map V.ref)):=upd_same
 have ht:=Tups.same ht0 s1
 revert s1 hl ht
 generalize upd H0 l (.lst (as.map V.ref))=H1
 intro s1' hl ht
 have s1:=s0.trans s1'
 have nl:H l=none:=fresh_of s0 nl
 clear s1' s0 hl0 ht0 nl0
 refine sq_J (fun σ H'=>∃(x3:Option V) (as:List Addr),σ=[some (.ref p),some v,some (.ref l),x3,none,none]∧Same H H'∧H' l=some (.lst (as.map V.ref))∧Tups H' as (hsp g W)) (fun R0 hR=>?_) ?_
 ·rcases hW with ⟨rfl,rfl⟩|⟨lw,ws,rfl,hlw,hpw⟩
  ·refine rd_ifF (b:=false) (et_of (et_test (ev_notN (ev_var rfl) ev_c)) rfl) rfl ?_
   exact hR _ _ ⟨none,as,rfl,s1,hl,by unfold hsp wsp;rw[List.flatMap_nil,List.append_nil];exact ht⟩
  ·refine rd_ifT (b:=true) (et_of (et_test (ev_notN (ev_var rfl) ev_c)) rfl) rfl ?_
   have lws:ws.length=W.length:=Paired.length hpw
   refine⟨_,rfl,lw,rfl,⟨_,SqL.of (s1 _ _ hlw)⟩,?_⟩
   refine for_list (K:=K) (xs:=ws.map V.ref) (fun i σ H'=>∃(x3:Option V) (as:List Addr),σ=[some (.ref p),some (.ref lw),some (.ref l),x3,none,none]∧Same H H'∧H' l=some (.lst (as.map V.ref))∧Tups H' as (g.es++wsp (W.take i))) ⟨none,as,rfl,s1,hl,by unfold wsp;rw[List.take_zero,List.flatMap_nil,List.append_nil];exact ht⟩ (fun i σ H' _ ⟨_,_,_,s,_⟩=>SqL.of (s _ _ hlw)) ?_ ?_
   ·rintro i x σ H2 hx ⟨x3,as,rfl,s2,hl2,ht2⟩
    obtain⟨a,ha,rfl⟩:=at_ref hx
    obtain⟨w,hw,b,c,h1,h2,h3⟩:=paired_at hpw ha
    have hiw:=lt_of_get hw
    have las:as.length=(g.es++wsp (W.take i)).length:=Paired.length ht2
    rw[List.length_append,wsp_len,List.length_take] at las
    refine gn ?_
    refine sq_drop (te_bm (ev_var rfl) (.inl ⟨rfl,_,SqL.of hl2⟩) (ta_ev (ev_ixT (v:=.ref b) (ev_var rfl) ev_c (SqT.of (s2 _ _ h1)) rfl) ⟨l,_,_,rfl,rfl,hl2,by rw[List.length_map];omega,?_⟩))
    have up:∀b' xs,H2 b'=some (.tup xs)→upd H2 l (.lst (as.map V.ref++[.ref b])) b'=some (.tup xs):=lst_up hl2
    have hl3:upd H2 l (.lst (as.map V.ref++[.ref b])) l=some (.lst (as.map V.ref++[.ref b])):=upd_same
    have s3:Same H (upd H2 l (.lst (as.map V.ref++[.ref b]))):=same_at s2 nl
    refine rd_drop (te_bm (ev_var rfl) (.inl ⟨rfl,_,SqL.of hl3⟩) (ta_ev (ev_ixT (v:=.ref c) (ev_var rfl) ev_c (SqT.of (up _ _ (s2 _ _ h1))) rfl) ⟨l,_,_,rfl,rfl,hl3,by rw[List.length_append,List.length_map];show as.length+1<_;omega,?_⟩))
    have up2:∀b' xs,H2 b'=some (.tup xs)→upd (upd H2 l (.lst (as.map V.ref++[.ref b]))) l (.lst (as.map V.ref++[.ref b]++[.ref c])) b'=some (.tup xs):=fun b' xs e=>lst_up hl3 _ _ (up _ _ e)
    refine⟨_,as++[b,c],rfl,same_at s3 nl,by rw[upd_same,List.map_append,List.append_assoc];rfl,?_⟩
    rw[wsp_snoc hw,←List.append_assoc]
    exact tups_app (tups_mono ht2 up2) (.cons (up2 _ _ (s2 _ _ h2)) (.cons (up2 _ _ (s2 _ _ h3)) .nil))
   ·rintro σ H2 ⟨x3,as,rfl,s2,hl2,ht2⟩
    rw[List.length_map,lws,List.take_length] at ht2
    exact hR _ _ ⟨_,as,rfl,s2,hl2,ht2⟩
 clear hl ht s1
 rintro σ H1 ⟨x3,as,rfl,s1,hl,ht⟩
 have las:as.length=(hsp g W).length:=Paired.length ht
 have lhs:(hsp g W).length=g.es.length+2*W.length:=by unfold hsp;rw[List.length_append,wsp_len]
 have h7:=hsp7 og ow
 refine sq_lst (vs:=[]) ea_nil (by show 0≤sizeLine;decide) fun gd ngd=>?_
 have s2:Same H1 (upd H1 gd (.lst [])):=(Same.refl H1).upd ngd
 have hgd:upd H1 gd (.lst []) gd=some (.lst (([]:List Addr).map V.ref)):=upd_same
 revert s2 hgd
 generalize upd H1 gd (.lst [])=H2
 intro s2 hgd
 refine sq_forL (te_cb1 (te_use (ev_var rfl) ⟨l,as,hsp g W,rfl,SqL.of (s2 _ _ hl),Tups.same ht s2,fun c hc=>?_,by omega,fun l' bs ds nl' tb pm st'=>⟨l',rfl,⟨_,SqL.of upd_same⟩,?_⟩⟩))
 ·obtain⟨x,y,w,e,_⟩:=h7 c hc
  rw[e];simp
 have s3:Same H2 (upd H2 l' (.lst (bs.map V.ref))):=(Same.refl H2).upd nl'
 have hl3:upd H2 l' (.lst (bs.map V.ref)) l'=some (.lst (bs.map V.ref)):=upd_same
 have ngl:gd≠l':=ne_of_none hgd nl'
 have hg3:upd H2 l' (.lst (bs.map V.ref)) gd=some (.lst (([]:List Addr).map V.ref)):=by rw[upd_ne ngl];exact hgd
 have tb3:=Tups.same tb s3
 revert s3 hl3 hg3 tb3
 generalize upd H2 l' (.lst (bs.map V.ref))=H3
 intro s3 hl3 hg3 tb3
 have lbs:bs.length=ds.length:=Paired.length tb
 have lds:=pm.length_eq
 have s03:=s1.trans (s2.trans s3)
 have nHg:H gd=none:=fresh_of s1 ngd
 refine for_list (K:=K) (xs:=bs.map V.ref) (fun i σ H'=>∃(x5:Option V) (ea:List Addr) (es:List T3),σ=[some (.ref p),some v,some (.ref l),x3,some (.ref gd),x5]∧Same H H'∧H' l'=some (.lst (bs.map V.ref))∧Tups H' bs ds∧H' gd=some (.lst (ea.map V.ref))∧Tups H' ea es∧Srt3 es∧(∀c,c∈es↔c∈ds.take i)∧es.length≤i)
  ⟨none,[],[],rfl,s03,hl3,tb3,hg3,.nil,.nil,(fun c=>by simp),Nat.le_refl _⟩ (fun i σ H' _ ⟨_,_,_,_,_,e,_⟩=>SqL.of e) ?_ ?_
 ·rintro i x σ H4 hx ⟨x5,ea,es,rfl,s4,hl4,tb4,hg4,te4,srt,mem,le⟩
  obtain⟨a,ha,rfl⟩:=at_ref hx
  obtain⟨c,hc,e⟩:=paired_at tb4 ha
  have hid:=lt_of_get hc
  have lea:ea.length=es.length:=Paired.length te4
  have ng':H gd=none:=nHg
  have nlg:l'≠gd:=Ne.symm ngl
  have app:c∉es→∃(x5:Option V) (ea':List Addr) (es':List T3),[some (.ref p),some v,some (.ref l),x3,some (.ref gd),some (.ref a)]=[some (.ref p),some v,some (.ref l),x3,some (.ref gd),x5]∧Same H (upd H4 gd (.lst (ea.map V.ref++[.ref a])))∧upd H4 gd (.lst (ea.map V.ref++[.ref a])) l'=some (.lst (bs.map V.ref))∧Tups (upd H4 gd (.lst (ea.map V.ref++[.ref a]))) bs ds∧upd H4 gd (.lst (ea.map V.ref++[.ref a])) gd=some (.lst (ea'.map V.ref))∧Tups (upd H4 gd (.lst (ea.map V.ref++[.ref a]))) ea' es'∧Srt3 es'∧(∀c,c∈es'↔c∈ds.take (i+1))∧es'.length≤i+1:=fun hn=>
   ⟨_,ea++[a],es++[c],rfl,same_at s4 nHg,by rw[upd_ne nlg];exact hl4,tups_mono tb4 (lst_up hg4),by rw[upd_same,List.map_append];rfl,tups_app (tups_mono te4 (lst_up hg4)) (.cons (lst_up hg4 _ _ e) .nil),dd_srt st' hc srt mem hn,dd_mem hc mem,by rw[List.length_append];show es.length+1≤i+1;omega⟩
  have pos:c∉es→tDrop (tBM K "list" rAppend (tVar 4) (tCons (tVar 5) tNil)) {nx:=fun σ H'=>∃(x5:Option V) (ea:List Addr) (es:List T3),σ=[some (.ref p),some v,some (.ref l),x3,some (.ref gd),x5]∧Same H H'∧H' l'=some (.lst (bs.map V.ref))∧Tups H' bs ds∧H' gd=some (.lst (ea.map V.ref))∧Tups H' ea es∧Srt3 es∧(∀c,c∈es↔c∈ds.take (i+1))∧es.length≤i+1,rt:=fun _ _=>False,bk:=fun _ _=>False,ct:=fun _ _=>False} [some (.ref p),some v,some (.ref l),x3,some (.ref gd),some (.ref a)] H4:=fun hn=>
   rd_drop (te_bm (ev_var rfl) (.inl ⟨rfl,_,SqL.of hg4⟩) (ta_ev (ev_var rfl) ⟨gd,_,_,rfl,rfl,hg4,by rw[List.length_map];omega,app hn⟩))
  refine gn ?_
  have elen:Ev (tCB (fun xs H Q=>∃x n,xs=[x]∧LenV K x H n∧Q (.int n) H) (tCons (tVar 4) tNil)) [some (.ref p),some v,some (.ref l),x3,some (.ref gd),some (.ref a)] H4 (.int (ea.length:Nat)):=ev_cb (ea_cons (ev_var rfl) ea_nil) fun Q' q'=>⟨_,_,rfl,.inl ⟨_,SqL.of hg4,(by rw[List.length_map])⟩,q'⟩
  rcases List.eq_nil_or_concat es with rfl|⟨ini,d,rfl⟩
  ·have e0:ea=[]:=List.eq_nil_of_length_eq_zero lea
   refine rd_ifT (b:=true) (et_of (et_or (a:=true) (b:=false) (et_of (et_test (ev_eqI elen ev_c)) (by rw[e0];rfl)) (fun z=>absurd z (by decide))) rfl) rfl ?_
   exact pos (by simp)
  ·rw[List.concat_eq_append] at*
   have hne:ea≠[]:=fun z=>by rw[z,List.length_append] at lea;simp at lea
   obtain⟨ei,ad,rfl⟩:∃ei ad,ea=ei++[ad]:=⟨ea.dropLast,ea.getLast hne,(List.dropLast_concat_getLast hne).symm⟩
   have lei:ei.length=ini.length:=by rw[List.length_append,List.length_append] at lea;simpa using lea
   obtain⟨d',hd',ed⟩:=paired_at te4 (i:=ei.length) (a:=ad) (by simp)
   have edd:d'=d:=by rw[lei] at hd';simpa using hd'.symm
   subst edd
   have dd1:=Dp.ints (K:=K) (SqT.of ed)
   have dd2:=Dp.ints (K:=K) (SqT.of e)
   refine rd_if (b:=!decide (d'=c)) (et_of (et_or (a:=false) (b:=!decide (d'=c)) (et_of (et_test (ev_eqI elen ev_c)) (by rw[List.length_append];exact decide_eq_false (by show¬((ei.length+1:Nat):Int)=0;omega))) fun _=>et_of (et_test (ev_neD (ev_ixL (v:=.ref ad) (ev_var rfl) (ev_of (ev_U ev_c) rfl) (SqL.of hg4) (by rw[List.map_append];exact atI_last)) (ev_var rfl) dd1 dd2 (depth_ti _))) (by rw[eqv_tints])) rfl) (fun ee=>?_) (fun ee=>?_)
   ·have ne:d'≠c:=by simpa using ee
    exact pos (dd_not st' hc srt mem ne)
   ·have eq:d'=c:=by simpa using ee
    subst eq
    refine⟨_,ei++[ad],ini++[d'],rfl,s4,hl4,tb4,hg4,te4,srt,fun x=>?_,by omega⟩
    rw[mem,take_one hc,List.mem_append,List.mem_singleton]
    exact⟨.inl,fun h=>h.elim id fun z=>by rw[z,←mem];simp⟩
 ·rintro σ H4 ⟨x5,ea,es,rfl,s4,hl4,tb4,hg4,te4,srt,mem,le⟩
  rw[List.length_map,lbs,List.take_length] at mem
  exact st (rd_ret (ev_var rfl) (q _ gd es s4 nHg ⟨ea,hg4,te4⟩ srt fun c=>by rw[mem,pm.mem_iff]))
theorem ok_LNear {cThing cNet cBundle cFloor cMS:Addr}{f:Addr}{fd:FuncData}(F:Fun K "_law_near" "_law_near" sLNear f fd)(T:Txt K mg cThing cNet cBundle cFloor cMS):FnOk P w K mg base CX0 1 f fd ["thing", "spot", "pair"] (spLNear cNet cBundle):=by
 have sc:FnScope ["thing", "spot", "pair", "reach", "place"] ["thing", "spot", "pair"] (defScope sLNear):=⟨rfl,rfl,rfl,by decide+kernel,rfl,by decide+kernel,by decide+kernel⟩
 refine F.ok sc (fun vs H Q E h=>by repeat (first|(obtain⟨rfl,_⟩:=h;rfl)|(obtain⟨_,h⟩:=h))) (fun cdv A outer s H vs Q E hr h=>?_)
 obtain⟨t,b,a,g,u,o,rfl,tg,hb,⟨p,m,ha,to,as,hm,hs⟩,oo,q⟩:=h
 refine⟨_,(pss_cons (ps_set (i:=3) sc.nd rfl (Or.inl rfl) (pe_op op_add (pe_op op_add (pe_fld (pv 0) rfl) (pe_fld (pe_ix ix_tup (pv 2) pe_int (fun _ _=>rfl)) rfl)) (pe_callB (call_max2 rfl) (by rfl) T.max_ bt_max (pa_cons (pe_fld (pv 0) rfl) (pa_cons (pe_fld (pe_ix ix_tup (pv 2) pe_int (fun _ _=>rfl)) rfl) pa_nil)))))
 (pss_cons (ps_for PassesOwn.never rfl (pi_list (pe_ix ix_tup (pv 2) pe_int (fun _ _=>rfl))) (pg_name (i:=4) sc.nd rfl (Or.inl rfl))
 (pss_one (ps_if (pw_and (pt_cmpR op_eq (pe_ix ix_tup (pv 4) pe_int (fun _ _=>rfl)) (pe_ix ix_tup (pv 1) pe_int (fun _ _=>rfl)) (nomark _)) (pw_and (pt_cmpR op_le (pe_callB call_abs (by rfl) T.abs_ bt_abs (pa_cons (pe_op op_sub (pe_ix ix_tup (pv 4) pe_int (fun _ _=>rfl)) (pe_ix ix_tup (pv 1) pe_int (fun _ _=>rfl))) pa_nil)) (pv 3) (nomark _)) (pw_and1 (pt_cmpR op_le (pe_callB call_abs (by rfl) T.abs_ bt_abs (pa_cons (pe_op op_sub (pe_ix ix_tup (pv 4) pe_int (fun _ _=>rfl)) (pe_ix ix_tup (pv 1) pe_int (fun _ _=>rfl))) pa_nil)) (pv 3) (nomark _))))).pt
 (pss_one (ps_ret pe_bl))
 pss_nil)))
 (pss_one (ps_ret pe_bl)))),?_⟩
 have la:as.length=o.2.length:=Paired.length hs
 have eP:∀{σ:St},σ[2]?=some (some (.ref a))→Ev (tOp (rIxT K) (tVar 2) (tC (.int 0))) σ H (.ref p):=fun e=>ev_ixT (ev_var e) ev_c (SqT.of ha) rfl
 refine sq_set (v:=.int (g.hf+o.1.hf+mx g.rm o.1.rm)) (ev_I0 (ev_I0 (g:=fun i j=>V.int (i+j)) (ta_fld tg (ev_var rfl) T.cl_Net T.na_Net_half T.cl_Bundle T.na_Bundle_half (fun _ b=>b.half)) (ta_fld to (eP rfl) T.cl_Net T.na_Net_half T.cl_Bundle T.na_Bundle_half (fun _ b=>b.half))) (ev_cb (v:=.int (mx g.rm o.1.rm)) (ea_cons (ta_fld tg (ev_var rfl) T.cl_Net T.na_Net_room T.cl_Bundle T.na_Bundle_room (fun _ b=>b.room)) (ea_cons (ta_fld to (eP rfl) T.cl_Net T.na_Net_room T.cl_Bundle T.na_Bundle_room (fun _ b=>b.room)) ea_nil)) fun Q' q'=>⟨_,_,rfl,q'⟩)) ?_
 refine nrm (σ':=[some (.ref t),some (.ref b),some (.ref a),some (.int (g.hf+o.1.hf+mx g.rm o.1.rm)),none]) (by kernel_rfl) ?_
 refine sq_forL (te_use (v:=.ref m) (ev_ixT (ev_var rfl) ev_c (SqT.of ha) rfl) ⟨m,rfl,⟨_,SqL.of hm⟩,?_⟩)
 refine for_list (K:=K) (xs:=as.map V.ref) (fun i σ H'=>∃x4:Option V,σ=[some (.ref t),some (.ref b),some (.ref a),some (.int (g.hf+o.1.hf+mx g.rm o.1.rm)),x4]∧H=H'∧((o.2.take i).any fun c=>clT g o.1 (t3 u) c)=false) ⟨none,rfl,rfl,rfl⟩ (fun i σ H' _ ⟨_,_,e,_⟩=>e▸SqL.of hm) ?_ ?_
 ·rintro i x σ H' hx ⟨x4,rfl,rfl,ok⟩
  obtain⟨d,hd,rfl⟩:=at_ref hx
  obtain⟨c,hc,e⟩:=paired_at hs hd
  have ec:=sp7_at (oo.s c (List.mem_of_getElem? hc)) e
  have eb:H b=some (.tup [.int u.1,.int u.2.1,.int u.2.2]):=hb
  refine gn ?_
  refine rd_if (b:=clT g o.1 (t3 u) c) (et_of (et_and (et_test (ev_eqI (ev_ixT (v:=.int (q3 c).1) (ev_var rfl) ev_c (SqT.of ec) rfl) (ev_ixT (v:=.int u.1) (ev_var rfl) ev_c (SqT.of eb) rfl))) fun _=>et_and (et_test (ev_le (ev_cb (v:=.int (ab ((q3 c).2.1 - u.2.1))) (ea_cons (ev_I0 (ev_ixT (v:=.int (q3 c).2.1) (ev_var rfl) ev_c (SqT.of ec) rfl) (ev_ixT (v:=.int u.2.1) (ev_var rfl) ev_c (SqT.of eb) rfl)) ea_nil) fun Q' q'=>⟨_,rfl,q'⟩) (ev_var rfl))) fun _=>et_test (ev_le (ev_cb (v:=.int (ab ((q3 c).2.2 - u.2.2))) (ea_cons (ev_I0 (ev_ixT (v:=.int (q3 c).2.2) (ev_var rfl) ev_c (SqT.of ec) rfl) (ev_ixT (v:=.int u.2.2) (ev_var rfl) ev_c (SqT.of eb) rfl)) ea_nil) fun Q' q'=>⟨_,rfl,q'⟩) (ev_var rfl))) near_law) (fun ee=>?_) (fun ee=>⟨_,rfl,rfl,any_snoc ok hc ee⟩)
  refine rd_ret ev_c ?_
  have:clO g u o=true:=List.any_eq_true.mpr ⟨c,List.mem_of_getElem? hc,ee⟩
  rw[←this];exact q
 ·rintro σ H' ⟨x4,rfl,rfl,ok⟩
  rw[List.length_map,la,List.take_length] at ok
  refine st (rd_ret ev_c ?_)
  have:clO g u o=false:=ok
  rw[←this];exact q
theorem te_ifE {t:TT}{ta tb:TE}{σ:St}{H:Hp}{Q:VK}(h:t σ H fun c H1=>if c=true then ta σ H1 Q else tb σ H1 Q):tIf t ta tb σ H Q:=h
theorem near_take {R C:Int}{g:Tg}{os:List Ot}{i:Nat}{o:Ot}(h:os[i]?=some o)(q:Sp3):nearP R C g (os.take (i+1)) q↔nearP R C g (os.take i) q∨∃c∈o.2,inSq R C (q3 c).1 (q3 c).2.1 (q3 c).2.2 (rch g o.1) q:=by
 unfold nearP
 rw[take_one h]
 constructor
 ·rintro⟨o',ho,r⟩
  rcases List.mem_append.mp ho with h|h
  ·exact .inl ⟨o',h,r⟩
  ·rw[List.mem_singleton.mp h] at r;exact .inr r
 ·rintro(⟨o',ho,r⟩|r)
  ·exact⟨o',List.mem_append_left _ ho,r⟩
  ·exact⟨o,List.mem_append_right _ (List.mem_singleton.mpr rfl),r⟩
theorem rch_b {g h:Tg}(og:TgOk g)(oh:TgOk h):0≤rch g h∧rch g h≤10:=by
 have:=og.h0;have:=og.h2;have:=og.r0;have:=og.r3
 have:=oh.h0;have:=oh.h2;have:=oh.r0;have:=oh.r3
 unfold rch mx
 split<;>omega
theorem mkD_go:∀(l acc:List (List Key×V)),((acc++l).map (·.1)).Nodup→l.foldl (fun acc kv=>putK acc kv.1 kv.2) acc=acc++l
 |[],acc,_=>by simp
 |a::r,acc,nd=>by
  have hn:valV acc a.1=none:=by
   cases e:valV acc a.1 with
   |none=>rfl
   |some v=>
    have h1:=valV_in e
    rw[List.map_append,List.map_cons] at nd
    have:=(List.nodup_append.mp nd).2.2 _ h1 _ (List.mem_cons_self)
    exact absurd rfl this
  rw[List.foldl_cons,putK_new _ hn,mkD_go r (acc++[(a.1,a.2)]) (by simpa using nd)]
  simp
theorem mkD_kv {fr:List Sp3}(nd:fr.Nodup):mkD (kv fr)=kv fr:=by
 refine mkD_go (kv fr) [] ?_
 show((kv fr).map (·.1)).Nodup
 unfold kv
 rw[List.map_map]
 exact List.pairwise_map.mpr (nd.imp fun{a b} h e=>h (k3_inj e))
theorem n3_inj {R C:Int}(hR:0<R)(hC:0<C){n m:Nat}(e:n3 R C n=n3 R C m):n=m:=by
 unfold n3 at e
 injection e with e1 e
 injection e with e2 e3
 have h1:=Int.mul_ediv_add_emod ((n:Int)/C) R
 have h2:=Int.mul_ediv_add_emod ((m:Int)/C) R
 rw[e1,e2] at h1
 have h3:=Int.mul_ediv_add_emod (n:Int) C
 have h4:=Int.mul_ediv_add_emod (m:Int) C
 rw[←h1,e3,h2,h4] at h3
 exact Int.ofNat.inj h3.symm
theorem gr3_nd {R C:Int}(hR:0<R)(hC:0<C)(M:Nat):(gr3 R C M).Nodup:=by
 unfold gr3
 exact List.pairwise_map.mpr (List.nodup_range.imp fun{a b} h e=>h (n3_inj hR hC e))
theorem paired_app {α β:Type}{R:α→β→Prop}:∀{as cs:List α} {bs ds:List β},Paired R as bs→Paired R cs ds→Paired R (as++cs) (bs++ds)
 |_,_,_,_,.nil,g=>g
 |_,_,_,_,.cons r t,g=> .cons r (paired_app t g)
theorem ok_LBarred {cThing cNet cBundle cFloor cMS:Addr}{f:Addr}{fd:FuncData}(F:Fun K "_law_barred" "_law_barred" sLBarred f fd)(T:Txt K mg cThing cNet cBundle cFloor cMS)(gLFits:Callee P w K mg base "_law_fits" 1 ["sizes", "rocks", "half", "spot"] spLFits)(gLNear:Callee P w K mg base "_law_near" 1 ["thing", "spot", "pair"] (spLNear cNet cBundle)):FnOk P w K mg base CX0 2 f fd ["sizes", "rocks", "thing", "others", "spot"] (spLBarred cNet cBundle):=by
 have sc:FnScope ["sizes", "rocks", "thing", "others", "spot", "gathered", "pair"] ["sizes", "rocks", "thing", "others", "spot"] (defScope sLBarred):=⟨rfl,rfl,rfl,by decide+kernel,rfl,by decide+kernel,by decide+kernel⟩
 refine F.ok sc (fun vs H Q E h=>by repeat (first|(obtain⟨rfl,_⟩:=h;rfl)|(obtain⟨_,h⟩:=h))) (fun cdv A outer s H vs Q E hr h=>?_)
 obtain⟨z,r,t,l,b,as,L,R,C,rs,g,os,u,rfl,hz,hr',hsp,tg,og,⟨ls,hl,hpo⟩,oo,hb,h7,hL,q⟩:=h
 refine⟨_,(pss_cons (ps_set (i:=5) sc.nd rfl (Or.inl rfl) (pe_lst pa_nil))
 (pss_cons (ps_if (pt_not (pt_val (pe_cal gLFits (hr.mono (by decide)) (by rfl) (pa_cons (pv 0) (pa_cons (pv 1) (pa_cons (pe_fld (pv 2) rfl) (pa_cons (pv 4) pa_nil)))))))
 (pss_one (ps_expr (pe_bm PySem.F.plainAttrs_list PySem.F.slot_list_append PySem.F.type_list_append mt_append (pv 5) (pa_cons pe_str pa_nil))))
 pss_nil)
 (pss_cons (ps_for PassesOwn.never rfl (pi_list (pv 3)) (pg_name (i:=6) sc.nd rfl (Or.inl rfl))
 (pss_one (ps_if (pt_val (pe_cal gLNear (hr.mono (by decide)) (by rfl) (pa_cons (pv 2) (pa_cons (pv 4) (pa_cons (pv 6) pa_nil)))))
 (pss_one (ps_expr (pe_bm PySem.F.plainAttrs_list PySem.F.slot_list_append PySem.F.type_list_append mt_append (pv 5) (pa_cons (pe_fld (pe_ix ix_tup (pv 6) pe_int (fun _ _=>rfl)) rfl) pa_nil))))
 pss_nil)))
 (pss_one (ps_ret (pv 5)))))),?_⟩
 have hsz:sizeLine=2^24:=rfl
 have h3:=oo.n
 have lls:ls.length=os.length:=Paired.length hpo
 obtain⟨u1,u2,u3⟩:=sp7_b h7
 refine sq_lst (vs:=[]) ea_nil (by show 0≤sizeLine;decide) fun gd ngd=>?_
 have s1:Same H (upd H gd (.lst [])):=(Same.refl H).upd ngd
 have hgd:upd H gd (.lst []) gd=some (.lst (([]:List Str).map V.str)):=upd_same
 revert s1 hgd
 generalize upd H gd (.lst [])=H1
 intro s1 hgd
 obtain⟨pr,hpr⟩:∃pr:List Str,(if cd (Fit L R C rs g.hf u.1 u.2.1 u.2.2)=true then [] else [(Str.ofString "#")])=pr:=⟨_,rfl⟩
 have lpr:pr.length≤1:=by rw[←hpr];split<;>decide
 refine sq_J (fun σ H'=>σ=[some (.ref z),some (.ref r),some (.ref t),some (.ref l),some (.ref b),some (.ref gd),none]∧Same H H'∧H' gd=some (.lst (pr.map V.str))) (fun R0 hR=>?_) ?_
 ·refine rd_ifof (show tNot (tB (tCall spLFits [] E0 _)) _ _ _ from ?_)
  refine tb_cal (ta_ev (ev_var rfl) (ta_ev (ev_var rfl) (ta_ev (ta_fld (tg.same s1) (ev_var rfl) T.cl_Net T.na_Net_half T.cl_Bundle T.na_Bundle_half (fun _ b=>b.half)) (ta_ev (ev_var rfl) ?_))))
  refine⟨z,r,b,as,L,R,C,g.hf,rs,u,rfl,s1 _ _ hz,s1 _ _ hr',Spots.same hsp s1,og.h0,og.h2,s1 _ _ hb,⟨by show -100≤u.2.1;have: -1≤u.2.1:=u2.1;omega,by show u.2.1≤100;have:u.2.1≤15:=u2.2;omega,by show -100≤u.2.2;have: -1≤u.2.2:=u3.1;omega,by show u.2.2≤100;have:u.2.2≤15:=u3.2;omega⟩,hL,fun H2 k s2 hk=>⟨_,rfl,?_⟩⟩
  have hg2:=s2 _ _ hgd
  cases k with
  |true=>exact iteF (hR _ _ ⟨rfl,s1.trans s2,by rw[←hpr,if_pos (cd_iff.mpr (hk.mp rfl))];exact hg2⟩)
  |false=>
   refine iteT (rd_drop (te_bm (ev_var rfl) (.inl ⟨rfl,_,SqL.of hg2⟩) (ta_ev ev_c ⟨gd,_,_,rfl,rfl,hg2,by show 0<sizeLine;decide,hR _ _ ⟨rfl,same_at (s1.trans s2) ngd,?_⟩⟩)))
   rw[←hpr,if_neg (fun z=>by have:=hk.mpr (cd_iff.mp z);cases this)]
   exact upd_same
 clear s1 hgd
 rintro σ H1 ⟨rfl,s1,hgd⟩
 refine⟨_,rfl,l,rfl,⟨_,SqL.of (s1 _ _ hl)⟩,?_⟩
 refine for_list (K:=K) (xs:=ls.map V.ref) (fun i σ H'=>∃x6:Option V,σ=[some (.ref z),some (.ref r),some (.ref t),some (.ref l),some (.ref b),some (.ref gd),x6]∧Same H H'∧H' gd=some (.lst ((pr++((os.take i).filter (clO g u)).map (·.1.nm)).map V.str))) ⟨none,rfl,s1,by rw[List.take_zero,List.filter_nil,List.map_nil,List.append_nil];exact hgd⟩ (fun i σ H' _ ⟨_,_,s,_⟩=>SqL.of (s _ _ hl)) ?_ ?_
 ·rintro i x σ H2 hx ⟨x6,rfl,s2,hg2⟩
  obtain⟨a,ha,rfl⟩:=at_ref hx
  obtain⟨o,ho,oa⟩:=paired_at hpo ha
  have oo':=oo.ok o (List.mem_of_getElem? ho)
  have hio:=lt_of_get ho
  refine gn ?_
  refine if_of (tb_cal (ta_ev (ev_var rfl) (ta_ev (ev_var rfl) (ta_ev (ev_var rfl) ⟨t,b,a,g,u,o,rfl,tg.same s2,s2 _ _ hb,oa.same s2,oo',_,rfl,?_⟩))))
  obtain⟨p,m,hap,to,am⟩:=oa
  cases e:clO g u o
  ·refine iteF ⟨_,rfl,s2,?_⟩
   rw[take_one ho,List.filter_append,List.filter_cons_of_neg (by rw[e];decide),List.filter_nil,List.append_nil]
   exact hg2
  ·refine iteT (rd_drop (te_bm (ev_var rfl) (.inl ⟨rfl,_,SqL.of hg2⟩) (ta_ev (ta_fld (to.same s2) (ev_ixT (v:=.ref p) (ev_var rfl) ev_c (SqT.of (s2 _ _ hap)) rfl) T.cl_Net T.na_Net_name T.cl_Bundle T.na_Bundle_name (fun _ b=>b.name)) ⟨gd,_,_,rfl,rfl,hg2,?_,?_⟩)))
   ·rw[List.length_map,List.length_append,List.length_map]
    have:=List.length_filter_le (clO g u) (os.take i)
    rw[List.length_take] at this
    omega
   ·refine⟨_,rfl,same_at s2 ngd,?_⟩
    rw[upd_same,take_one ho,List.filter_append,List.filter_cons_of_pos e,List.filter_nil,List.map_append,List.map_append,List.map_append,List.map_append,List.append_assoc]
    rfl
 ·rintro σ H2 ⟨x6,rfl,s2,hg2⟩
  rw[List.length_map,lls,List.take_length] at hg2
  refine st (rd_ret (ev_var rfl) (q _ gd s2 ?_))
  unfold barS
  rw[hpr];exact hg2
theorem ok_Barred {cThing cNet cBundle cFloor cMS:Addr}{f:Addr}{fd:FuncData}(F:Fun K "barred_by" "barred_by" sBarred f fd)(T:Txt K mg cThing cNet cBundle cFloor cMS)(gFits:Callee P w K mg base "fits" 4 ["floor", "thing", "spot"] (spFits cNet cBundle cFloor))(gClashA:Callee P w K mg base "clash_at_all" 3 ["thing", "spots", "other", "places"] (spClashA cNet cBundle)):FnOk P w K mg base CX0 5 f fd ["floor", "thing", "others", "spot"] (spBarred cNet cBundle cFloor):=by
 have sc:FnScope ["floor", "thing", "others", "spot", "names"] ["floor", "thing", "others", "spot"] (defScope sBarred):=⟨rfl,rfl,rfl,by decide+kernel,rfl,by decide+kernel,by decide+kernel⟩
 refine F.ok sc (fun vs H Q E h=>by repeat (first|(obtain⟨rfl,_⟩:=h;rfl)|(obtain⟨_,h⟩:=h))) (fun cdv A outer s H vs Q E hr h=>?_)
 obtain⟨f,t,l,b,L,R,C,rs,g,os,u,rfl,hf,sz,tg,og,⟨ls,hl,hpo⟩,oo,hb,h7,q⟩:=h
 refine⟨_,(pss_cons (ps_lcset (i:=4) (ls:=["other", "spots"]) (ys:=["thing", "spot"]) (ix:=[1,3]) rfl sc.nd rfl (Or.inl rfl) ⟨rfl,by rfl,by rfl,by rfl,by rfl,rfl⟩ (pi_list (pv 2)) (fun _ _ _ _ _=>(pg_tupK (K:=K) (n:=2) rfl rfl (pgs_cons (pg_name (i:=0) (show(["other", "spots", "thing", "spot"]:List Str).Nodup by decide+kernel) rfl (Or.inl rfl) (hf:=.inr rfl)) (pgs_cons (pg_name (i:=1) (show(["other", "spots", "thing", "spot"]:List Str).Nodup by decide+kernel) rfl (Or.inl rfl) (hf:=.inr rfl)) pgs_nil)) rfl rfl)) (fun _ _ _ _ _=>(pf_one (pt_val (pe_cal (by exact gClashA) (by exact(hr.mono (by decide))) (by rfl) (pa_cons (pv 2) (pa_cons (pe_lst (pa_cons (pv 3) pa_nil)) (pa_cons (pv 0) (pa_cons (pv 1) pa_nil)))))))) (fun _ _ _ _ _=>(pe_fldK (K:=K) rfl (pv 0) rfl)))
 (pss_one (ps_ret (pe_ifExp (pt_val (pe_cal gFits (hr.mono (by decide)) (by rfl) (pa_cons (pv 0) (pa_cons (pv 1) (pa_cons (pv 3) pa_nil))))) (pv 4) (pe_op op_cat (pe_lst (pa_cons pe_str pa_nil)) (pv 4)))))),?_⟩
 have hsz:sizeLine=2^24:=rfl
 have h3:=oo.n
 have lls:ls.length=os.length:=Paired.length hpo
 refine⟨_,rfl,l,rfl,⟨_,SqL.of hl⟩,fun D nD=>?_⟩
 refine lc_listG (K:=K) (xs:=ls.map V.ref) (fun i τ H'=>∃x0 x1:Option V,τ=[x0,x1,some (.ref t),some (.ref b)]∧Same H H'∧H' D=some (.lst ((((os.take i).filter (clO g u)).map (·.1.nm)).map V.str))) ⟨none,none,rfl,(Same.refl H).upd nD,upd_same⟩ (fun i τ H' _ ⟨_,_,_,s,_⟩=>SqL.of (s _ _ hl)) ?_ ?_
 ·rintro i x τ H1 hx ⟨x0,x1,rfl,s1,hD⟩
  obtain⟨a,ha,rfl⟩:=at_ref hx
  obtain⟨o,ho,p,m,hap,to,am⟩:=paired_at hpo ha
  have oo':=oo.ok o (List.mem_of_getElem? ho)
  have hio:=lt_of_get ho
  refine⟨a,_,rfl,SqT.of (s1 _ _ hap),rfl,_,_,rfl,_,_,rfl,rfl,?_⟩
  refine tb_cal (ta_ev (ev_var rfl) (ta_one (te_lst (vs:=[.ref b]) (ea_cons (ev_var rfl) ea_nil) (by show 1≤sizeLine;decide) fun l1 n1=>ta_ev (ev_var rfl) (ta_ev (ev_var rfl) ?_))))
  have s2:Same H1 (upd H1 l1 (.lst [.ref b])):=(Same.refl H1).upd n1
  have hl1:upd H1 l1 (.lst [.ref b]) l1=some (.lst [.ref b]):=upd_same
  revert s2 hl1
  generalize upd H1 l1 (.lst [.ref b])=H2
  intro s2 hl1
  have s12:=s1.trans s2
  refine⟨t,l1,p,m,g,o.1,[t3 u],o.2,rfl,tg.same s12,to.same s12,⟨[b],hl1,.cons (s12 _ _ hb) .nil⟩,am.same s12,fun c hc=>by rw[List.mem_singleton.mp hc];exact h7,oo'.s,oo'.n,fun H3 s3=>⟨_,rfl,?_⟩⟩
  have e1:([t3 u].any fun c=>o.2.any fun d=>clT g o.1 c d)=clO g u o:=by rw[List.any_cons,List.any_nil,Bool.or_false];rfl
  rw[e1]
  have s13:=s12.trans s3
  have hD3:=s3 _ _ (s2 _ _ hD)
  cases e:clO g u o
  ·refine iteF ⟨_,_,rfl,s13,?_⟩
   rw[take_one ho,List.filter_append,List.filter_cons_of_neg (by rw[e];decide),List.filter_nil,List.append_nil]
   exact hD3
  ·refine iteT (ta_fld (to.same s13) (ev_var rfl) T.cl_Net T.na_Net_name T.cl_Bundle T.na_Bundle_name (fun _ b=>b.name) _ ⟨_,hD3,?_,_,_,rfl,same_at s13 nD,?_⟩)
   ·rw[List.length_map,List.length_map]
    have:=List.length_filter_le (clO g u) (os.take i)
    rw[List.length_take] at this
    omega
   ·rw[upd_same,take_one ho,List.filter_append,List.filter_cons_of_pos e,List.filter_nil,List.map_append,List.map_append]
    rfl
 rintro τ H1 ⟨x0,x1,rfl,s1,hD⟩
 rw[List.length_map,lls,List.take_length] at hD
 refine rd_te (te_ifE (tb_cal (ta_ev (ev_var rfl) (ta_ev (ev_var rfl) (ta_ev (ev_var rfl) ?_)))))
 refine⟨f,t,b,L,R,C,rs,g.hf,g.rm,u,rfl,hf.same s1,sz,(tg.same s1).th,og.h0,og.h2,s1 _ _ hb,fun H2 k s2 hk=>⟨_,rfl,?_⟩⟩
 have hD2:=s2 _ _ hD
 have s12:=s1.trans s2
 cases k with
 |true=>
  refine iteT (te_use (ev_var rfl) (q _ D s12 ?_))
  unfold barS
  rw[if_pos (cd_iff.mpr (hk.mp rfl)),List.nil_append]
  exact hD2
 |false=>
  refine iteF (te_op (te_lst (vs:=[.str (Str.ofString "#")]) (ea_cons ev_c ea_nil) (by show 1≤sizeLine;decide) fun e ne=>te_use (ev_var rfl) ?_))
  have s3:Same H2 (upd H2 e (.lst [.str (Str.ofString "#")])):=(Same.refl H2).upd ne
  refine⟨e,D,_,_,rfl,rfl,upd_same,s3 _ _ hD2,?_,fun p np=>?_⟩
  ·rw[List.length_map,List.length_map]
   have:=List.length_filter_le (clO g u) os
   show 1+_≤_
   omega
  ·refine q _ p ((s12.trans s3).upd np) ?_
   unfold barS
   rw[if_neg (fun z=>by have:=hk.mpr (cd_iff.mp z);cases this),upd_same]
   rfl
theorem ok_TooNear {cThing cNet cBundle cFloor cMS:Addr}{f:Addr}{fd:FuncData}(F:Fun K "too_near" "too_near" sTooNear f fd)(T:Txt K mg cThing cNet cBundle cFloor cMS)(gSquare:Callee P w K mg base "square" 1 ["sizes", "spot", "reach"] spSquare9)(gReach:Callee P w K mg base "reach_of" 1 ["thing", "other"] (spReach cNet cBundle)):FnOk P w K mg base CX0 2 f fd ["floor", "thing", "others"] (spTooNear cNet cBundle cFloor):=by
 have sc:FnScope ["floor", "thing", "others", "near", "other", "spots", "reach", "spot", "place"] ["floor", "thing", "others"] (defScope sTooNear):=⟨rfl,rfl,rfl,by decide+kernel,rfl,by decide+kernel,by decide+kernel⟩
 refine F.ok sc (fun vs H Q E h=>by repeat (first|(obtain⟨rfl,_⟩:=h;rfl)|(obtain⟨_,h⟩:=h))) (fun cdv A outer s H vs Q E hr h=>?_)
 obtain⟨f,t,l,L,R,C,rs,g,os,rfl,hf,sz,tg,og,⟨ls,hl,hpo⟩,oo,q⟩:=h
 refine⟨_,(pss_cons (ps_set (i:=3) sc.nd rfl (Or.inl rfl) pe_dnewT)
 (pss_cons (ps_for PassesOwn.never rfl (pi_list (pv 2)) (pg_tup rfl (pgs_cons (pg_name (i:=4) sc.nd rfl (Or.inl rfl)) (pgs_cons (pg_name (i:=5) sc.nd rfl (Or.inl rfl)) pgs_nil)))
 (pss_cons (ps_set (i:=6) sc.nd rfl (Or.inl rfl) (pe_cal gReach (hr.mono (by decide)) (by rfl) (pa_cons (pv 1) (pa_cons (pv 4) pa_nil))))
 (pss_one (ps_for PassesOwn.never rfl (pi_list (pv 5)) (pg_name (i:=7) sc.nd rfl (Or.inl rfl))
 (pss_one (ps_for PassesOwn.never rfl (pi_list (pe_cal gSquare (hr.mono (by decide)) (by rfl) (pa_cons (pe_fld (pv 0) rfl) (pa_cons (pv 7) (pa_cons (pv 6) pa_nil))))) (pg_name (i:=8) sc.nd rfl (Or.inl rfl))
 (pss_one (ps_dput (Room.one hr) (pv 3) (pv 8) pe_bl (by rfl)))))))))
 (pss_one (ps_ret (pv 3))))),?_⟩
 have hsz:sizeLine=2^24:=rfl
 have h3:=oo.n
 have lls:ls.length=os.length:=Paired.length hpo
 have r0:=sz.r0
 have r1:=sz.r1
 have c0:=sz.c0
 have c1:=sz.c1
 refine sq_asg fun d nd=>?_
 have s1:Same H (upd H d (.dT [])):=(Same.refl H).upd nd
 have hd1:upd H d (.dT []) d=some (.dT []):=upd_same
 revert s1 hd1
 generalize upd H d (.dT [])=H1
 intro s1 hd1
 refine⟨_,rfl,l,rfl,⟨_,SqL.of (s1 _ _ hl)⟩,?_⟩
 refine for_list (K:=K) (xs:=ls.map V.ref) (fun i σ H'=>∃(x4 x5 x6 x7 x8:Option V) (kvs:List (List Key×V)) (ns:List Sp3),σ=[some (.ref f),some (.ref t),some (.ref l),some (.ref d),x4,x5,x6,x7,x8]∧Same H H'∧H' d=some (.dT kvs)∧DR kvs ns∧(∀q,q∈ns↔nearP R C g (os.take i) q)∧kvs.length≤5000*i)
  ⟨none,none,none,none,none,[],[],rfl,s1,hd1,DR.nil,(fun q=>⟨(fun h=>nomatch h),fun⟨o,ho,_⟩=>by simp at ho⟩),Nat.le_refl _⟩ (fun i σ H' _ ⟨_,_,_,_,_,_,_,_,s,_⟩=>SqL.of (s _ _ hl)) ?_ ?_
 ·rintro i x σ H2 hx ⟨x4,x5,x6,x7,x8,kvs,ns,rfl,s2,hd2,dr,mem,le⟩
  obtain⟨a,ha,rfl⟩:=at_ref hx
  obtain⟨o,ho,p,m,hap,to,ms,hm,hms⟩:=paired_at hpo ha
  have oo':=oo.ok o (List.mem_of_getElem? ho)
  have o18:=oo'.n
  have hio:=lt_of_get ho
  have lms:ms.length=o.2.length:=Paired.length hms
  obtain⟨rb0,rb1⟩:=rch_b og oo'.g
  refine⟨a,_,rfl,SqT.of (s2 _ _ hap),rfl,_,_,rfl,_,_,rfl,rfl,?_⟩
  refine sq_asg (te_cal (ea_cons (ev_var rfl) (ea_cons (ev_var rfl) ea_nil)) ⟨t,p,g.hf,g.rm,o.1.hf,o.1.rm,rfl,(tg.same s2).th,(to.same s2).th,?_⟩)
  have er:g.hf+o.1.hf+mx g.rm o.1.rm=rch g o.1:=rfl
  rw[er]
  obtain⟨rc,hrc⟩:∃rc,rch g o.1=rc:=⟨_,rfl⟩
  rw[hrc] at rb0 rb1⊢
  try dsimp only
  refine nrm (σ':=[some (.ref f),some (.ref t),some (.ref l),some (.ref d),some (.ref p),some (.ref m),some (.int rc),x7,x8]) (by kernel_rfl) ?_
  refine⟨_,rfl,m,rfl,⟨_,SqL.of (s2 _ _ hm)⟩,?_⟩
  refine for_list (K:=K) (xs:=ms.map V.ref) (fun j σ H'=>∃(x7 x8:Option V) (kvs:List (List Key×V)) (ns:List Sp3),σ=[some (.ref f),some (.ref t),some (.ref l),some (.ref d),some (.ref p),some (.ref m),some (.int rc),x7,x8]∧Same H H'∧H' d=some (.dT kvs)∧DR kvs ns∧(∀q,q∈ns↔nearP R C g (os.take i) q∨∃c∈o.2.take j,inSq R C (q3 c).1 (q3 c).2.1 (q3 c).2.2 rc q)∧kvs.length≤5000*i+256*j)
   ⟨_,_,kvs,ns,rfl,s2,hd2,dr,(fun q=>by rw[mem];exact⟨.inl,fun h=>h.elim id fun⟨c,hc,_⟩=>by simp at hc⟩),by omega⟩ (fun i σ H' _ ⟨_,_,_,_,_,s,_⟩=>SqL.of (s _ _ hm)) ?_ ?_
  ·clear hd2 dr mem le
   clear kvs ns
   rintro j x σ H3 hx ⟨x7',x8',kvs,ns,rfl,s3,hd3,dr,mem,le⟩
   obtain⟨e,he,rfl⟩:=at_ref hx
   obtain⟨c,hc,hec⟩:=paired_at hms he
   have hjo:=lt_of_get hc
   have c7:=oo'.s c (List.mem_of_getElem? hc)
   obtain⟨b1,b2,b3⟩:=sp7_b c7
   refine gn ?_
   obtain⟨dx,z,rd,fs,kr,g1,g2,g3,g4,g5,g6,g7⟩:=(hf.same s3).ex
   refine rd_forT (te_cal (ea_cons (ev_fldT (ev_var rfl) g1 T.cl_Floor T.na_Floor_sizes g2) (ea_cons (ev_var rfl) (ea_cons (ev_var rfl) ea_nil))) ⟨z,e,L,R,C,(q3 c).1,(q3 c).2.1,(q3 c).2.2,rc,rfl,g5,sp7_at c7 (s3 _ _ hec),⟨r0,r1⟩,⟨c0,c1⟩,b2,b3,⟨rb0,rb1⟩,fun S ps qs H4 s4 hS hsp hmem hlen=>⟨S,rfl,⟨_,SqL.of hS⟩,?_⟩⟩)
   have lps:ps.length=qs.length:=Paired.length hsp
   have hd4:=s4 _ _ hd3
   have nSd:S≠d:=ne_of hS hd4 (fun z=>nomatch z)
   refine for_list (K:=K) (xs:=ps.map V.ref) (fun k σ H'=>∃(x8:Option V) (kvs:List (List Key×V)) (ns:List Sp3),σ=[some (.ref f),some (.ref t),some (.ref l),some (.ref d),some (.ref p),some (.ref m),some (.int rc),some (.ref e),x8]∧Same H H'∧ButP H4 H' d∧H' d=some (.dT kvs)∧DR kvs ns∧(∀q,q∈ns↔(nearP R C g (os.take i) q∨∃c∈o.2.take j,inSq R C (q3 c).1 (q3 c).2.1 (q3 c).2.2 rc q)∨q∈qs.take k)∧kvs.length≤5000*i+256*j+k)
    ⟨_,kvs,ns,rfl,s3.trans s4,fun _ _ _ z=>z,hd4,dr,(fun q=>by rw[mem,List.take_zero];exact⟨.inl,fun h=>h.elim id fun z=>nomatch z⟩),by omega⟩ (fun i σ H' _ ⟨_,_,_,_,_,bb,_⟩=>SqL.of (bb _ _ nSd hS)) ?_ ?_
   ·clear dr mem le
    rintro k x σ H5 hx ⟨x8'',kvs,ns,rfl,s5,b5,hd5,dr,mem,le⟩
    obtain⟨v,hv,rfl⟩:=at_ref hx
    obtain⟨w,hw,hvw⟩:=paired_at hsp hv
    have hkq:=lt_of_get hw
    have hvd:v≠d:=ne_of hvw hd4 (fun z=>nomatch z)
    have hv5:=b5 _ _ hvd hvw
    refine gn ?_
    refine rd_dput (v:=.bl true) ev_c (ev_var rfl) (ev_var rfl) (DPut.t (k:=k3 w) hd5 hv5 (by omega)) ?_
    refine⟨_,_,ns++[w],rfl,same_at s5 nd,fun bb ob hb' e'=>by rw[upd_ne hb'];exact b5 _ _ hb' e',upd_same,dr.put,fun q=>?_,Nat.le_trans put_len (by omega)⟩
    rw[List.mem_append,mem,take_one hw,List.mem_append,or_assoc]
   ·rintro σ H5 ⟨x8'',kvs',ns',rfl,s5,b5,hd5,dr',mem',le'⟩
    rw[List.length_map,lps,List.take_length] at mem'
    rw[List.length_map,lps] at le'
    refine⟨_,_,kvs',ns',rfl,s5,hd5,dr',fun q=>?_,by omega⟩
    rw[mem',hmem,take_one hc]
    constructor
    ·rintro((h|⟨c',h1,h2⟩)|h)
     ·exact .inl h
     ·exact .inr ⟨c',List.mem_append_left _ h1,h2⟩
     ·exact .inr ⟨c,List.mem_append_right _ (List.mem_singleton.mpr rfl),h⟩
    ·rintro(h|⟨c',h1,h2⟩)
     ·exact .inl (.inl h)
     ·rcases List.mem_append.mp h1 with h1|h1
      ·exact .inl (.inr ⟨c',h1,h2⟩)
      ·rw[List.mem_singleton.mp h1] at h2;exact .inr h2
  ·rintro σ H3 ⟨x7',x8',kvs',ns',rfl,s3,hd3,dr',mem',le'⟩
   rw[List.length_map,lms,List.take_length] at mem'
   rw[List.length_map,lms] at le'
   refine⟨_,_,_,_,_,kvs',ns',rfl,s3,hd3,dr',fun q=>?_,by omega⟩
   rw[mem',near_take ho,hrc]
 ·rintro σ H2 ⟨x4,x5,x6,x7,x8,kvs,ns,rfl,s2,hd2,dr,mem,le⟩
  rw[List.length_map,lls,List.take_length] at mem
  exact st (rd_ret (ev_var rfl) (q _ d kvs ns s2 hd2 dr mem))
theorem ok_FreeFor {cThing cNet cBundle cFloor cMS:Addr}{f:Addr}{fd:FuncData}(F:Fun K "free_for" "free_for" sFreeFor f fd)(T:Txt K mg cThing cNet cBundle cFloor cMS)(gOpen:MCallee P w K mg base cFloor "open_spots" 2 ["self"] (spOpen cFloor))(gFits:Callee P w K mg base "fits" 4 ["floor", "thing", "spot"] (spFits cNet cBundle cFloor))(gTooNear:Callee P w K mg base "too_near" 2 ["floor", "thing", "others"] (spTooNear cNet cBundle cFloor)):FnOk P w K mg base CX0 5 f fd ["floor", "thing", "others"] (spFreeFor cNet cBundle cFloor):=by
 have sc:FnScope ["floor", "thing", "others", "near", "spots"] ["floor", "thing", "others"] (defScope sFreeFor):=⟨rfl,rfl,rfl,by decide+kernel,rfl,by decide+kernel,by decide+kernel⟩
 refine F.ok sc (fun vs H Q E h=>by repeat (first|(obtain⟨rfl,_⟩:=h;rfl)|(obtain⟨_,h⟩:=h))) (fun cdv A outer s H vs Q E hr h=>?_)
 obtain⟨f,t,l,L,R,C,rs,g,os,rfl,hf,sz,tg,og,hol,oo,q⟩:=h
 refine⟨_,(pss_cons (ps_set (i:=3) sc.nd rfl (Or.inr rfl) (pe_cal gTooNear (hr.mono (by decide)) (by rfl) (pa_cons (pv 0) (pa_cons (pv 1) (pa_cons (pv 2) pa_nil)))))
 (pss_cons (ps_lcset (i:=4) (ls:=["spot"]) (ys:=["near"]) (ix:=[3]) rfl sc.nd rfl (Or.inl rfl) ⟨rfl,by rfl,by rfl,by rfl,by rfl,rfl⟩ (pi_list (pe_met0 (pv 0) T.cl_Floor gOpen (hr.mono (by decide)))) (fun _ _ _ _ _=>(pg_name (i:=0) (show(["spot", "near"]:List Str).Nodup by decide+kernel) rfl (Or.inl rfl))) (fun _ _ _ _ _=>(pf_one (pt_cmp (pc_dnotin (by exact(Room.one hr)) (pv 0) (pv 1))))) (fun _ _ _ _ _=>(pv 0)))
 (pss_one (ps_ret (pe_callTy (call_dictPairs rfl hr) (by rfl) T.dict_ bt_dict (pa_cons (pe_lc (ls:=["spot"]) (ys:=["floor", "thing"]) (ix:=[0,1]) rfl ⟨rfl,by rfl,by rfl,by rfl,by rfl,rfl⟩ (pi_list (pv 4)) (fun _ _ _ _ _=>(pg_name (i:=0) (show(["spot", "floor", "thing"]:List Str).Nodup by decide+kernel) rfl (Or.inl rfl))) (fun _ _ _ _ _=>(pf_one (pt_val (pe_cal (by exact gFits) (by exact(hr.mono (by decide))) (by rfl) (pa_cons (pv 1) (pa_cons (pv 2) (pa_cons (pv 0) pa_nil))))))) (fun _ _ _ _ _=>(pe_tup (pa_cons (pv 0) (pa_cons pe_bl pa_nil))))) pa_nil)))))),?_⟩
 have hsz:sizeLine=2^24:=rfl
 have l0:=sz.l0
 have l1:=sz.l1
 have r0:=sz.r0
 have r1:=sz.r1
 have c0:=sz.c0
 have c1:=sz.c1
 have m0:0≤L*R*C:=Int.mul_nonneg (Int.mul_nonneg (by omega) (by omega)) (by omega)
 have m1:L*R*C≤4*16*16:=Int.mul_le_mul (Int.mul_le_mul l1 r1 (by omega) (by omega)) c1 (by omega) (by omega)
 have lg:(gr3 R C (L*R*C).toNat).length=(L*R*C).toNat:=by unfold gr3;rw[List.length_map,List.length_range]
 have ndg:(gr3 R C (L*R*C).toNat).Nodup:=gr3_nd (by omega) (by omega) _
 obtain⟨gs,hgs⟩:∃gs,gr3 R C (L*R*C).toNat=gs:=⟨_,rfl⟩
 rw[hgs] at lg ndg q
 refine sq_asg (te_cal (ea_cons (ev_var rfl) (ea_cons (ev_var rfl) (ea_cons (ev_var rfl) ea_nil))) ⟨f,t,l,L,R,C,rs,g,os,rfl,hf,sz,tg,og,hol,oo,fun H1 d kvs ns s1 hd dr hns=>?_⟩)
 obtain⟨dx,z,rd,fs,kr,g1,g2,g3,g4,g5,g6,g7⟩:=(hf.same s1).ex
 refine⟨_,rfl,f,dx,fs,rfl,g1,g4.2,f,L,R,C,rs,rfl,hf.same s1,sz,fun H2 l2 as s2 hl2 hsp=>⟨l2,rfl,⟨_,SqL.of hl2⟩,fun D nD=>?_⟩⟩
 rw[hgs] at hsp
 obtain⟨g2s,hg2⟩:∃g2s,gs.filter (fun q=>!decide (q∈rs))=g2s:=⟨_,rfl⟩
 rw[hg2] at hsp
 have lg2:g2s.length≤gs.length:=by rw[←hg2];exact List.length_filter_le _ _
 have las:as.length=g2s.length:=Paired.length hsp
 refine lc_listG (K:=K) (xs:=as.map V.ref) (fun i τ H'=>∃(x0:Option V) (bs:List Addr),τ=[x0,some (.ref d)]∧Same H2 H'∧H' D=some (.lst (bs.map V.ref))∧Spots H' bs ((g2s.take i).filter fun q=>!decide (q∈ns))∧bs.length≤i) ⟨none,[],rfl,(Same.refl H2).upd nD,upd_same,.nil,Nat.le_refl _⟩ (fun i τ H' _ ⟨_,_,_,s,_⟩=>SqL.of (s _ _ hl2)) ?_ ?_
 ·rintro i x τ H' hx ⟨x0,bs,rfl,s3,hD3,hsb,hle⟩
  obtain⟨b,hb,rfl⟩:=at_ref hx
  obtain⟨v,hv,hvb⟩:=paired_at hsp hb
  have hib:=lt_of_get hb
  refine gn ?_
  have ec:EvT (tTest (tDNotIn (tVar 0) (tVar 1))) [some (.ref b),some (.ref d)] H' (!decide (v∈ns)):=et_of (et_test (ev_dnotin (ev_var rfl) (ev_var rfl) (DGet.t (k:=k3 v) (s3 _ _ (s2 _ _ hd)) (s3 _ _ hvb)))) (by rw[dr])
  refine et_use ec ?_
  cases e:!decide (v∈ns)
  ·refine iteF ⟨_,bs,rfl,s3,hD3,?_,by omega⟩
   rw[take_one hv,List.filter_append,List.filter_cons_of_neg (by rw[e];decide),List.filter_nil,List.append_nil]
   exact hsb
  ·refine iteT (te_use (ev_var rfl) ⟨_,hD3,by rw[List.length_map];omega,_,bs++[b],rfl,same_at s3 nD,by rw[upd_same,List.map_append];rfl,?_,by rw[List.length_append];show bs.length+1≤i+1;omega⟩)
   rw[take_one hv,List.filter_append,List.filter_cons_of_pos (p:=fun q:Sp3=>!decide (q∈ns)) e,List.filter_nil]
   exact spots_app (spots_mono' hsb (lst_up hD3)) (.cons (lst_up hD3 _ _ (s3 _ _ hvb)) .nil)
 rintro τ H3 ⟨x0,bs,rfl,s3,hD3,hsb,hle⟩
 rw[List.length_map,las,List.take_length] at hsb
 rw[List.length_map,las] at hle
 obtain⟨g3s,hg3⟩:∃g3s,g2s.filter (fun q=>!decide (q∈ns))=g3s:=⟨_,rfl⟩
 rw[hg3] at hsb
 have lbs:bs.length=g3s.length:=Paired.length hsb
 have s13:=s2.trans s3
 have s03:=s1.trans s13
 refine st (rd_te (te_cb1 ?_))
 refine⟨_,rfl,D,rfl,⟨_,SqL.of hD3⟩,fun D2 nD2=>?_⟩
 refine lc_listG (K:=K) (xs:=bs.map V.ref) (fun i τ H'=>∃(x0:Option V) (es:List Addr),τ=[x0,some (.ref f),some (.ref t)]∧Same H3 H'∧H' D2=some (.lst (es.map V.ref))∧Prs H' es (kv ((g3s.take i).filter fun q=>cd (Fit L R C rs g.hf q.1 q.2.1 q.2.2)))∧es.length≤i) ⟨none,[],rfl,(Same.refl H3).upd nD2,upd_same,.nil,Nat.le_refl _⟩ (fun i τ H' _ ⟨_,_,_,s,_⟩=>SqL.of (s _ _ hD3)) ?_ ?_
 ·rintro i x τ H' hx ⟨x0',es,rfl,s4,hD4,hes,hel⟩
  obtain⟨b,hb,rfl⟩:=at_ref hx
  obtain⟨v,hv,hvb⟩:=paired_at hsb hb
  have hib:=lt_of_get hb
  have s04:=s03.trans s4
  refine gn ?_
  refine tb_cal (ta_ev (ev_var rfl) (ta_ev (ev_var rfl) (ta_ev (ev_var rfl) ?_)))
  refine⟨f,t,b,L,R,C,rs,g.hf,g.rm,v,rfl,hf.same s04,sz,(tg.same s04).th,og.h0,og.h2,s4 _ _ hvb,fun H5 k s5 hk=>⟨_,rfl,?_⟩⟩
  have hD5:=s5 _ _ hD4
  have hes5:Prs H5 es (kv ((g3s.take i).filter fun q=>cd (Fit L R C rs g.hf q.1 q.2.1 q.2.2))):=Paired.mapP hes fun a kv ⟨b',h1,h2⟩=>⟨b',s5 _ _ h1,s5 _ _ h2⟩
  have s45:=s4.trans s5
  cases k with
  |false=>
   refine iteF ⟨_,es,rfl,s45,hD5,?_,by omega⟩
   have e:cd (Fit L R C rs g.hf v.1 v.2.1 v.2.2)=false:=cd_not.mpr fun z=>by have:=hk.mpr z;cases this
   rw[take_one hv,List.filter_append,List.filter_cons_of_neg (by rw[e];decide),List.filter_nil,List.append_nil]
   exact hes5
  |true=>
   have e:cd (Fit L R C rs g.hf v.1 v.2.1 v.2.2)=true:=cd_iff.mpr (hk.mp rfl)
   refine iteT (te_tup (vs:=[.ref b,.bl true]) (ea_cons (ev_var rfl) (ea_cons ev_c ea_nil)) (by show 2≤sizeLine;decide) fun pt nt=>?_)
   have ntD:pt≠D2:=Ne.symm (ne_of_none hD5 nt)
   have hD6:upd H5 pt (.tup [.ref b,.bl true]) D2=some (.lst (es.map V.ref)):=by rw[upd_ne (Ne.symm ntD)];exact hD5
   refine⟨_,hD6,by rw[List.length_map];omega,_,es++[pt],rfl,same_at (s45.upd nt) nD2,by rw[upd_same,List.map_append];rfl,?_,by rw[List.length_append];show es.length+1≤i+1;omega⟩
   rw[take_one hv,List.filter_append,List.filter_cons_of_pos (p:=fun q:Sp3=>cd (Fit L R C rs g.hf q.1 q.2.1 q.2.2)) e,List.filter_nil]
   unfold kv
   rw[List.map_append]
   have up:∀b' xs,H5 b'=some (.tup xs)→upd (upd H5 pt (.tup [.ref b,.bl true])) D2 (.lst (es.map V.ref++[.ref pt])) b'=some (.tup xs):=fun b' xs e'=>lst_up hD6 _ _ (by rw[upd_ne (ne_of_none e' nt)];exact e')
   refine paired_app (Paired.mapP hes5 fun a kv ⟨b',h1,h2⟩=>⟨b',up _ _ h1,up _ _ h2⟩) (.cons ⟨b,?_,?_⟩ .nil)
   ·rw[upd_ne ntD,upd_same]
   ·exact up _ _ (s5 _ _ (s4 _ _ hvb))
 ·rintro τ H4 ⟨x0',es,rfl,s4,hD4,hes,hel⟩
  rw[List.length_map,lbs,List.take_length] at hes
  refine⟨D2,es,_,rfl,hD4,hes,fun d2 nd2=>?_⟩
  have efr:g3s.filter (fun q=>cd (Fit L R C rs g.hf q.1 q.2.1 q.2.2))=gs.filter (frB L R C rs g os):=by
   rw[←hg3,←hg2,List.filter_filter,List.filter_filter]
   refine List.filter_congr fun v _=>?_
   unfold frB
   rw[Bool.eq_iff_iff,Bool.and_eq_true,Bool.and_eq_true,cd_iff,cd_iff,Bool.not_eq_true',Bool.not_eq_true',decide_eq_false_iff_not,decide_eq_false_iff_not,hns]
   have h0:=og.h0
   exact⟨fun⟨⟨h1,h2⟩,_⟩=>⟨h1,h2⟩,fun⟨h1,h2⟩=>⟨⟨h1,h2⟩,(h1 v.2.1 v.2.2 (by omega) (by omega) (by omega) (by omega)).2⟩⟩
  rw[efr] at hes⊢
  rw[mkD_kv (ndg.sublist List.filter_sublist)]
  exact q _ d2 ((s03.trans s4).upd nd2) upd_same
noncomputable def wname9 (a k:Nat):Str:=Txt.slice "wire" none (some (a:Int))++⟨#[120+k]⟩++Txt.slice "wire" (some (a:Int)) none
theorem wname9_all:∀a,a<5→∀k,k<3→nmB (wname9 a k)=true:=by decide+kernel
theorem wname9_ok {a k:Nat}(ha:a<5)(hk:k<3):NmOk (wname9 a k):=nm_of (wname9_all a ha k hk)
theorem mine_ok:NmOk (Str.ofString "mine"):=nm_of (by decide+kernel)
theorem wl92:∀k,k<3→atI (cp (Str.ofString "xyz")) ((k:Nat):Int)=some (120+k):=by decide+kernel
theorem wl93:∀a,a<5→∀k,k<3→(Txt.slice "wire" none (some ((a:Nat):Int))++⟨#[120+k]⟩).length≤100:=by decide+kernel
theorem ok_Folded {cThing cNet cBundle cFloor cMS:Addr}{f:Addr}{fd:FuncData}(F:Fun K "_law_folded" "_law_folded" sFolded f fd)(T:Txt K mg cThing cNet cBundle cFloor cMS):FnOk P w K mg base CX0 1 f fd ["script", "behind", "many"] (spFolded K):=by
 have sc:FnScope ["script", "behind", "many", "gathered", "k", "at"] ["script", "behind", "many"] (defScope sFolded):=⟨rfl,rfl,rfl,by decide+kernel,rfl,by decide+kernel,by decide+kernel⟩
 refine F.ok sc (fun vs H Q E h=>by repeat (first|(obtain⟨rfl,_⟩:=h;rfl)|(obtain⟨_,h⟩:=h))) (fun cdv A outer s H vs Q E hr h=>?_)
 obtain⟨a,ns,rfl,ha,hn,q⟩:=h
 refine⟨_,(pss_cons (ps_lcset (i:=3) (ls:=["k"]) (ys:=[]) (ix:=[]) rfl sc.nd rfl (Or.inl rfl) ⟨rfl,by rfl,by rfl,by rfl,by rfl,rfl⟩ (pi_range1 (by rfl) T.range_ (pa_cons (pv 2) pa_nil)) (fun _ _ _ _ _=>(pg_name (i:=0) (show(["k"]:List Str).Nodup by decide+kernel) rfl (Or.inl rfl))) (fun _ _ _ _ _=>pf_nil) (fun _ _ _ _ _=>(pe_op op_add (pe_op op_mul (pv 0) (pv 0)) (pv 0))))
 (pss_cons (ps_for PassesOwn.never rfl (pi_range2 (by rfl) T.range_ (pa_cons (pv 1) (pa_cons (pe_callB call_len (by rfl) T.len_ bt_len (pa_cons (pv 0) pa_nil)) pa_nil))) (pg_name (i:=4) sc.nd rfl (Or.inl rfl))
 (pss_cons (ps_set (i:=5) sc.nd rfl (Or.inl rfl) (pe_op op_mod (pe_op op_sub (pv 4) (pv 1)) (pv 2)))
 (pss_one (ps_asg (pe_op op_mod (pe_op op_add (pe_op op_mul (pe_ix ix_list (pv 3) (pv 5) (fun _ _=>rfl)) pe_int) (pe_ix ix_list (pv 0) (pv 4) (fun _ _=>rfl))) pe_int) (pg_sub (pv 3) (pv 5) set_list)))))
 (pss_one (ps_ret (pv 3))))),?_⟩
 have hsz:sizeLine=2^24:=rfl
 refine sq_lc1 (j:=34) (ea_cons (ev_var rfl) ea_nil) (by decide) (by decide) fun D nD=>?_
 refine lc_range (fun i τ H'=>∃(x0:Option V) (cs:List Int),τ=[x0]∧H'=upd H D (.lst (cs.map V.int))∧cs.length=i) ⟨none,[],rfl,rfl,rfl⟩ ?_ ?_
 ·rintro i τ H' hi ⟨x0,cs,rfl,rfl,hl⟩
  have hi:i<34:=hi
  refine gn (lc_el ?_)
  refine(ev_I0 (ev_I (ev_var rfl) (ev_var rfl) (cmR (by omega) (by omega))) (ev_var rfl)) _ ?_
  refine⟨_,upd_same,by rw[List.length_map];omega,_,cs++[(0+(i:Int))*(0+(i:Int))+(0+(i:Int))],rfl,?_,by rw[List.length_append,hl];rfl⟩
  rw[upd_upd,List.map_append];rfl
 rintro τ H' ⟨x0,cs,rfl,rfl,hl⟩
 have hl:cs.length=34:=hl
 have s1:Same H (upd H D (.lst (cs.map V.int))):=(Same.refl H).upd nD
 have hD:upd H D (.lst (cs.map V.int)) D=some (.lst (cs.map V.int)):=upd_same
 revert s1 hD
 generalize upd H D (.lst (cs.map V.int))=H1
 intro s1 hD
 try dsimp only[List.set]
 refine sq_rng2 (i:=8) (j:=(ns.length:Nat)) (ea_cons (ev_var rfl) (ea_cons (ev_cb (v:=.int (ns.length:Nat)) (ea_cons (ev_var rfl) ea_nil) fun Q' q'=>⟨_,_,rfl,.inl ⟨_,s1.seq ha,(by rw[List.length_map])⟩,q'⟩) ea_nil)) ⟨by omega,by omega,by omega,by omega⟩ ?_
 refine for_range (n:=((ns.length:Int) - 8).toNat) (fun i σ H'=>∃(x4 x5:Option V) (cs:List Int),σ=[some (.ref a),some (.int 8),some (.int 34),some (.ref D),x4,x5]∧Same H H'∧H' D=some (.lst (cs.map V.int))∧cs.length=34) ⟨none,none,cs,rfl,s1,hD,hl⟩ ?_ ?_
 ·rintro i σ H' hi ⟨x4,x5,cs,rfl,s,hD,hl⟩
  refine gn ?_
  refine sq_set (v:=.int ((8+(i:Int) - 8)%34)) (ev_I (ev_I0 (ev_var rfl) (ev_var rfl)) (ev_var rfl) (by show(0:Int)<34;decide)) ?_
  have b0:=Int.emod_nonneg (8+(i:Int) - 8) (show(34:Int)≠0 by decide)
  have b1:=Int.emod_lt_of_pos (8+(i:Int) - 8) (show(0:Int)<34 by decide)
  obtain⟨c,ec,ei⟩:=at_int (cs:=cs) b0 (by rw[hl];exact b1)
  obtain⟨u,eu,_⟩:=at_int (cs:=ns) (i:=8+(i:Int)) (by omega) (by omega)
  refine rd_asgE (v:=.int ((c*31+u)%1000000000039)) ?_ ?_
  ·exact ev_I (ev_I0 (ev_I (ev_ixL (v:=.int c) (ev_var rfl) (ev_var rfl) (SqL.of hD) ec) ev_c (cmR (by decide) (by decide))) (ev_ixL (v:=.int u) (ev_var rfl) (ev_var rfl) (s.seq ha) eu)) ev_c (by show(0:Int)<1000000000039;decide)
  refine⟨_,rfl,_,rfl,D,_,_,_,rfl,rfl,hD,ei,?_⟩
  exact⟨_,_,cs.set ((8+(i:Int) - 8)%34).toNat ((c*31+u)%1000000000039),rfl,same_at s nD,by rw[upd_same,List.map_set],by rw[List.length_set];exact hl⟩
 ·rintro σ H' ⟨x4,x5,cs,rfl,s,hD,hl⟩
  exact st (rd_ret (ev_var rfl) (q _ D cs s nD hD hl))
theorem ok_Sizes {cThing cNet cBundle cFloor cMS:Addr}{f:Addr}{fd:FuncData}(F:Fun K "_law_sizes" "_law_sizes" sSizes f fd)(T:Txt K mg cThing cNet cBundle cFloor cMS):FnOk P w K mg base CX0 1 f fd ["cell"] spSizes:=by
 have sc:FnScope ["cell", "sizes"] ["cell"] (defScope sSizes):=⟨rfl,rfl,rfl,by decide+kernel,rfl,by decide+kernel,by decide+kernel⟩
 refine F.ok sc (fun vs H Q E h=>by repeat (first|(obtain⟨rfl,_⟩:=h;rfl)|(obtain⟨_,h⟩:=h))) (fun cdv A outer s H vs Q E hr h=>?_)
 obtain⟨c,rfl,q⟩:=h
 refine⟨_,(pss_cons (ps_set (i:=1) sc.nd rfl (Or.inl rfl) (pe_lst (pa_cons (pe_op op_add pe_int (pe_op op_mod (pv 0) pe_int)) (pa_cons (pe_op op_add pe_int (pe_op op_mod (pe_op op_fdivB (pv 0) pe_int) pe_int)) (pa_cons (pe_op op_add pe_int (pe_op op_mod (pe_op op_fdivB (pv 0) pe_int) pe_int)) pa_nil)))))
 (pss_cons (ps_if (pt_cmpR op_eq (pe_op op_mod (pe_op op_fdivB (pv 0) pe_int) pe_int) pe_int (nomark _))
 (pss_one (ps_asg (pe_op op_add pe_int (pe_op op_mod (pe_op op_fdivB (pv 0) pe_int) pe_int)) (pg_sub (pv 1) (pe_op op_add pe_int (pe_op op_mod (pe_op op_fdivB (pv 0) pe_int) pe_int)) set_list)))
 pss_nil)
 (pss_one (ps_ret (pe_tup (pa_cons (pe_ix ix_list (pv 1) pe_int (fun _ _=>rfl)) (pa_cons (pe_ix ix_list (pv 1) pe_int (fun _ _=>rfl)) (pa_cons (pe_ix ix_list (pv 1) pe_int (fun _ _=>rfl)) pa_nil)))))))),?_⟩
 refine sq_lst (vs:=[.int (1+c%2),.int (1+c/2%3),.int (1+c/6%3)]) (ea_cons (ev_I0 ev_c (ev_I (ev_var rfl) ev_c (by show(0:Int)<2;decide))) (ea_cons (ev_I0 ev_c (ev_I (ev_I (ev_var rfl) ev_c (cdB (by decide) (by decide))) ev_c (by show(0:Int)<3;decide))) (ea_cons (ev_I0 ev_c (ev_I (ev_I (ev_var rfl) ev_c (cdB (by decide) (by decide))) ev_c (by show(0:Int)<3;decide))) ea_nil))) (by show 3≤sizeLine;decide) fun p np=>?_
 have s1:Same H (upd H p (.lst [.int (1+c%2),.int (1+c/2%3),.int (1+c/6%3)])):=(Same.refl H).upd np
 have hp:upd H p (.lst [.int (1+c%2),.int (1+c/2%3),.int (1+c/6%3)]) p=some (.lst [.int (1+c%2),.int (1+c/2%3),.int (1+c/6%3)]):=upd_same
 have hS:Szl (1+c%2) (1+c/2%3) (1+c/6%3):=⟨by omega,by omega,by omega,by omega,by omega,by omega⟩
 revert s1 hp hS
 generalize upd H p (.lst [.int (1+c%2),.int (1+c/2%3),.int (1+c/6%3)])=H1
 generalize 1+c%2=x
 generalize 1+c/2%3=y
 generalize 1+c/6%3=w
 intro s1 hp hS
 refine sq_J (fun σ H'=>∃x y w:Int,σ=[some (.int c),some (.ref p)]∧Same H H'∧H' p=some (.lst [.int x,.int y,.int w])∧Szl x y w) (fun R hR=>?_) ?_
 ·refine rd_if (et_test (ev_eqI (ev_I (ev_I (ev_var rfl) ev_c (cdB (by decide) (by decide))) ev_c (by show(0:Int)<4;decide)) ev_c)) (fun _=>?_) (fun _=>hR _ _ ⟨x,y,w,rfl,s1,hp,hS⟩)
  refine te_use (v:=.int (1+c/144%9)) (ev_I0 ev_c (ev_I (ev_I (ev_var rfl) ev_c (cdB (by decide) (by decide))) ev_c (by show(0:Int)<9;decide))) ?_
  have nb:1≤1+c/144%9∧1+c/144%9≤9:=by omega
  generalize 1+c/144%9=n at nb⊢
  refine⟨_,rfl,te_use (v:=.int (1+c/72%2)) (ev_I0 ev_c (ev_I (ev_I (ev_var rfl) ev_c (cdB (by decide) (by decide))) ev_c (by show(0:Int)<2;decide))) ?_⟩
  have hA:1+c/72%2=1∨1+c/72%2=2:=by omega
  rcases hA with e|e<;>rw[e]
  ·exact⟨p,_,_,1,rfl,rfl,hp,rfl,hR _ _ ⟨x,n,w,rfl,same_at s1 np,upd_same,⟨hS.l0,hS.l1,nb.1,nb.2,hS.c0,hS.c1⟩⟩⟩
  ·exact⟨p,_,_,2,rfl,rfl,hp,rfl,hR _ _ ⟨x,y,n,rfl,same_at s1 np,upd_same,⟨hS.l0,hS.l1,hS.r0,hS.r1,nb.1,nb.2⟩⟩⟩
 rintro σ H2 ⟨x',y',w',rfl,s2,hp2,hS2⟩
 exact rd_tup (vs:=[.int x',.int y',.int w']) (ea_cons (ev_ixL (v:=.int x') (ev_var rfl) ev_c (SqL.of hp2) rfl) (ea_cons (ev_ixL (v:=.int y') (ev_var rfl) ev_c (SqL.of hp2) rfl) (ea_cons (ev_ixL (v:=.int w') (ev_var rfl) ev_c (SqL.of hp2) rfl) ea_nil))) (by show 3≤sizeLine;decide) fun t nt=>q _ t x' y' w' (s2.upd nt) upd_same hS2
theorem ok_Spot {cThing cNet cBundle cFloor cMS:Addr}{f:Addr}{fd:FuncData}(F:Fun K "_law_spot" "_law_spot" sSpot f fd)(T:Txt K mg cThing cNet cBundle cFloor cMS):FnOk P w K mg base CX0 1 f fd ["sizes", "cell", "more"] spSpot:=by
 have sc:FnScope ["sizes", "cell", "more"] ["sizes", "cell", "more"] (defScope sSpot):=⟨rfl,rfl,rfl,by decide+kernel,rfl,by decide+kernel,by decide+kernel⟩
 refine F.ok sc (fun vs H Q E h=>by repeat (first|(obtain⟨rfl,_⟩:=h;rfl)|(obtain⟨_,h⟩:=h))) (fun cdv A outer s H vs Q E hr h=>?_)
 obtain⟨z,L,R,C,d,m,rfl,hz,sz,m0,m3,q⟩:=h
 refine⟨_,(pss_one (ps_ret (pe_tup (pa_cons (pe_op op_mod (pv 1) (pe_ix ix_tup (pv 0) pe_int (fun _ _=>rfl))) (pa_cons (pe_op op_mod (pe_op op_fdivB (pv 1) pe_int) (pe_op op_add (pe_ix ix_tup (pv 0) pe_int (fun _ _=>rfl)) (pv 2))) (pa_cons (pe_op op_mod (pe_op op_fdivB (pv 1) pe_int) (pe_op op_add (pe_ix ix_tup (pv 0) pe_int (fun _ _=>rfl)) (pv 2))) pa_nil)))))),?_⟩
 have l0:=sz.l0
 have r0:=sz.r0
 have c0:=sz.c0
 exact rd_tup (vs:=[.int (d%L),.int (d/7%(R+m)),.int (d/91%(C+m))]) (ea_cons (ev_I (ev_var rfl) (ev_ixT (v:=.int L) (ev_var rfl) ev_c (SqT.of hz) rfl) (by show(0:Int)<L;omega)) (ea_cons (ev_I (ev_I (ev_var rfl) ev_c (cdB (by decide) (by decide))) (ev_I0 (ev_ixT (v:=.int R) (ev_var rfl) ev_c (SqT.of hz) rfl) (ev_var rfl)) (by show(0:Int)<R+m;omega)) (ea_cons (ev_I (ev_I (ev_var rfl) ev_c (cdB (by decide) (by decide))) (ev_I0 (ev_ixT (v:=.int C) (ev_var rfl) ev_c (SqT.of hz) rfl) (ev_var rfl)) (by show(0:Int)<C+m;omega)) ea_nil))) (by show 3≤sizeLine;decide)
  fun t nt=>q _ t _ _ _ ((Same.refl H).upd nt) upd_same ⟨Int.emod_nonneg _ (by omega),Int.emod_lt_of_pos _ (by omega)⟩ ⟨Int.emod_nonneg _ (by omega),Int.emod_lt_of_pos _ (by omega)⟩ ⟨Int.emod_nonneg _ (by omega),Int.emod_lt_of_pos _ (by omega)⟩
theorem ok_LThing {cThing cNet cBundle cFloor cMS:Addr}{f:Addr}{fd:FuncData}(F:Fun K "_law_thing" "_law_thing" sLThing f fd)(T:Txt K mg cThing cNet cBundle cFloor cMS)(gNInit:KCalleeZ P w K mg base cNet "Net" 3 ["self", "name", "pins", "half", "room"] (spNInit cNet) 2)(gBInit:KCalleeZ P w K mg base cBundle "Bundle" 3 ["self", "name", "starts", "goals", "room"] (spBInit cBundle) 1)(gSpot:Callee P w K mg base "_law_spot" 1 ["sizes", "cell", "more"] spSpot):FnOk P w K mg base CX0 5 f fd ["name", "cell", "sizes", "place"] (spLThing cNet cBundle):=by
 have sc:FnScope ["name", "cell", "sizes", "place", "spot", "next_one"] ["name", "cell", "sizes", "place"] (defScope sLThing):=⟨rfl,rfl,rfl,by decide+kernel,rfl,by decide+kernel,by decide+kernel⟩
 refine F.ok sc (fun vs H Q E h=>by repeat (first|(obtain⟨rfl,_⟩:=h;rfl)|(obtain⟨_,h⟩:=h))) (fun cdv A outer s H vs Q E hr h=>?_)
 obtain⟨z,x,L,R,C,c,t,rfl,nm,hz,sz,q⟩:=h
 refine⟨_,(pss_cons (ps_set (i:=4) sc.nd rfl (Or.inl rfl) (pe_cal gSpot (hr.mono (by decide)) (by rfl) (pa_cons (pv 2) (pa_cons (pv 3) (pa_cons pe_int pa_nil)))))
 (pss_cons (ps_set (i:=5) sc.nd rfl (Or.inl rfl) (pe_tup (pa_cons (pe_ix ix_tup (pv 4) pe_int (fun _ _=>rfl)) (pa_cons (pe_ix ix_tup (pv 4) pe_int (fun _ _=>rfl)) (pa_cons (pe_op op_add (pe_op op_add (pe_ix ix_tup (pv 4) pe_int (fun _ _=>rfl)) pe_int) (pe_op op_mod (pe_op op_fdivB (pv 3) pe_int) pe_int)) pa_nil)))))
 (pss_cons (ps_if (pt_cmpR op_eq (pe_op op_mod (pv 1) pe_int) pe_int (nomark _))
 (pss_one (ps_ret (pe_mkZ0 gBInit (hr.mono (by decide)) (by rfl) (pa_cons (pv 0) (pa_cons (pe_lst (pa_cons (pv 4) pa_nil)) (pa_cons (pe_lst (pa_cons (pv 5) pa_nil)) (pa_cons (pe_op op_mod (pe_op op_fdivB (pv 1) pe_int) pe_int) pa_nil)))))))
 pss_nil)
 (pss_one (ps_ret (pe_mkZ0 gNInit (hr.mono (by decide)) (by rfl) (pa_cons (pv 0) (pa_cons (pe_lst (pa_cons (pv 5) (pa_cons (pv 4) pa_nil))) (pa_cons (pe_op op_mod (pv 1) pe_int) (pa_cons (pe_op op_mod (pe_op op_fdivB (pv 1) pe_int) pe_int) pa_nil)))))))))),?_⟩
 have hsz:sizeLine=2^24:=rfl
 have hl1:=sz.l1
 have hr1:=sz.r1
 have hc1:=sz.c1
 refine sq_asg (te_cal (ea_cons (ev_var rfl) (ea_cons (ev_var rfl) (ea_cons ev_c ea_nil))) ⟨z,L,R,C,t,1,rfl,hz,sz,by decide,by decide,fun H1 a x1 y1 w1 s1 ha hx hy hw=>?_⟩)
 try dsimp only
 refine nrm (σ':=[some (.str x),some (.int c),some (.ref z),some (.int t),some (.ref a),none]) (by kernel_rfl) ?_
 refine sq_tup (vs:=([x1,y1,w1+1+t/1009%2]:T3).map V.int) (ea_cons (ev_ixT (v:=.int x1) (ev_var rfl) ev_c (SqT.of ha) rfl) (ea_cons (ev_ixT (v:=.int y1) (ev_var rfl) ev_c (SqT.of ha) rfl) (ea_cons (ev_I0 (ev_I0 (g:=fun i j=>V.int (i+j)) (ev_ixT (v:=.int w1) (ev_var rfl) ev_c (SqT.of ha) rfl) ev_c) (ev_I (ev_I (ev_var rfl) ev_c (cdB (by decide) (by decide))) ev_c (by show(0:Int)<2;decide))) ea_nil))) (by show 3≤sizeLine;decide) fun b nb=>?_
 have wb:w1+1≤w1+1+t/1009%2∧w1+1+t/1009%2≤w1+2:=by omega
 generalize w1+1+t/1009%2=w2 at wb⊢
 have s2:Same H1 (upd H1 b (.tup (([x1,y1,w2]:T3).map V.int))):=(Same.refl H1).upd nb
 have hb:upd H1 b (.tup (([x1,y1,w2]:T3).map V.int)) b=some (.tup (([x1,y1,w2]:T3).map V.int)):=upd_same
 revert s2 hb
 generalize upd H1 b (.tup (([x1,y1,w2]:T3).map V.int))=H2
 intro s2 hb
 have ha2:H2 a=some (.tup (([x1,y1,w1]:T3).map V.int)):=s2 _ _ ha
 have s12:=s1.trans s2
 have p1:Sp7 [x1,y1,w1]:=⟨x1,y1,w1,rfl,by omega,by omega,by omega⟩
 have p2:Sp7 [x1,y1,w2]:=⟨x1,y1,w2,rfl,by omega,by omega,by omega⟩
 have ne12:([x1,y1,w1]:T3)≠[x1,y1,w2]:=fun e=>by injection e with _ e;injection e with _ e;injection e with e _;omega
 refine nrm (σ':=[some (.str x),some (.int c),some (.ref z),some (.int t),some (.ref a),some (.ref b)]) (by kernel_rfl) ?_
 have hr:0≤c/12%4∧c/12%4≤3:=by omega
 refine sq_if (et_test (ev_eqI (ev_I (ev_var rfl) ev_c (by show(0:Int)<4;decide)) ev_c)) (fun _=>?_) (fun e=>?_)
 ·refine rd_te (ta_ev (ev_var rfl) (ta_one (te_lst (vs:=[.ref a]) (ea_cons (ev_var rfl) ea_nil) (by show 1≤sizeLine;decide) fun l1 n1=>ta_one ?_)))
  have s3:Same H2 (upd H2 l1 (.lst [.ref a])):=(Same.refl H2).upd n1
  have hl1:upd H2 l1 (.lst [.ref a]) l1=some (.lst ([a].map V.ref)):=upd_same
  revert s3 hl1
  generalize upd H2 l1 (.lst [.ref a])=H3
  intro s3 hl1
  refine te_lst (vs:=[.ref b]) (ea_cons (ev_var rfl) ea_nil) (by show 1≤sizeLine;decide) fun l2 n2=>?_
  have s4:Same H3 (upd H3 l2 (.lst [.ref b])):=(Same.refl H3).upd n2
  have hl2:upd H3 l2 (.lst [.ref b]) l2=some (.lst ([b].map V.ref)):=upd_same
  revert s4 hl2
  generalize upd H3 l2 (.lst [.ref b])=H4
  intro s4 hl2
  refine ta_ev (v:=.int (c/12%4)) (ev_I (ev_I (ev_var rfl) ev_c (cdB (by decide) (by decide))) ev_c (by show(0:Int)<4;decide)) ?_
  intro p dx np ndx ne
  have sm:Same H4 (upd (upd H4 dx (.own p)) p (.ins cBundle dx [])):=same_make np ndx
  have s24:=s3.trans s4
  refine⟨p,dx,l1,l2,[a],[b],[[x1,y1,w1]],[[x1,y1,w2]],x,c/12%4,rfl,upd_same,sm _ _ (s4 _ _ hl1),sm _ _ hl2,.cons (sm _ _ (s24 _ _ ha2)) .nil,.cons (sm _ _ (s24 _ _ hb)) .nil,fun d hd=>?_,?_,by show 1≤1;decide,by show 1≤6;decide,by show 1≤1;decide,by show 1≤12;decide,nm,hr.1,hr.2,fun H5 fs ta tb b5 hp5 bas hfa hfb hta htb=>⟨rfl,?_⟩⟩
  ·rcases List.mem_cons.mp hd with rfl|hd
   ·exact p1
   ·rw[List.mem_singleton.mp hd];exact p2
  ·exact List.nodup_cons.mpr ⟨fun h=>ne12 (List.mem_singleton.mp h),List.nodup_cons.mpr ⟨List.not_mem_nil,List.nodup_nil⟩⟩
  have s45:Same H4 H5:=ButP.same sm np b5
  have s25:=s24.trans s45
  refine q H5 p ⟨x,0,c/12%4,[[x1,y1,w1],[x1,y1,w2]]⟩ (s12.trans s25) ⟨dx,fs,[a,b],bas,.cons (s25 _ _ ha2) (.cons (s25 _ _ hb) .nil),.inr ⟨hp5,ta,tb,[a],[b],rfl,hfa,hfb,hta,htb⟩⟩ ⟨nm,Int.le_refl 0,by show(0:Int)≤2;decide,hr.1,hr.2,fun d hd=>?_,by show 2≤7;decide⟩ rfl ?_
  ·rcases List.mem_cons.mp hd with rfl|hd
   ·exact p1
   ·rw[List.mem_singleton.mp hd];exact p2
  ·exact List.nodup_cons.mpr ⟨fun h=>ne12 (List.mem_singleton.mp h),List.nodup_cons.mpr ⟨List.not_mem_nil,List.nodup_nil⟩⟩
 ·have e3:=of_decide_eq_false e
  have hh:0≤c%4∧c%4≤2:=by omega
  refine rd_te (ta_ev (ev_var rfl) (ta_one (te_lst (vs:=[.ref b,.ref a]) (ea_cons (ev_var rfl) (ea_cons (ev_var rfl) ea_nil)) (by show 2≤sizeLine;decide) fun l1 n1=>?_)))
  have s3:Same H2 (upd H2 l1 (.lst [.ref b,.ref a])):=(Same.refl H2).upd n1
  have hl1:upd H2 l1 (.lst [.ref b,.ref a]) l1=some (.lst ([b,a].map V.ref)):=upd_same
  revert s3 hl1
  generalize upd H2 l1 (.lst [.ref b,.ref a])=H3
  intro s3 hl1
  refine ta_ev (v:=.int (c%4)) (ev_I (ev_var rfl) ev_c (by show(0:Int)<4;decide)) (ta_ev (v:=.int (c/12%4)) (ev_I (ev_I (ev_var rfl) ev_c (cdB (by decide) (by decide))) ev_c (by show(0:Int)<4;decide)) ?_)
  intro p dx np ndx ne
  have sm:Same H3 (upd (upd H3 dx (.own p)) p (.ins cNet dx [])):=same_make np ndx
  have a7:∀d∈[[x1,y1,w2],[x1,y1,w1]],Sp7 d:=fun d hd=>by
   rcases List.mem_cons.mp hd with rfl|hd
   ·exact p2
   ·rw[List.mem_singleton.mp hd];exact p1
  have nd2:([[x1,y1,w2],[x1,y1,w1]]:List T3).Nodup:=List.nodup_cons.mpr ⟨fun h=>ne12 (List.mem_singleton.mp h).symm,List.nodup_cons.mpr ⟨List.not_mem_nil,List.nodup_nil⟩⟩
  refine⟨p,dx,l1,[b,a],[[x1,y1,w2],[x1,y1,w1]],x,c%4,c/12%4,rfl,upd_same,sm _ _ hl1,.cons (sm _ _ (s3 _ _ hb)) (.cons (sm _ _ (s3 _ _ ha2)) .nil),a7,nd2,by show 2≤2;decide,by show 2≤6;decide,nm,hh.1,hh.2,hr.1,hr.2,fun H5 fs ta b5 hp5 bas hfa hta=>⟨rfl,?_⟩⟩
  have s35:Same H3 H5:=ButP.same sm np b5
  have s25:=s3.trans s35
  exact q H5 p ⟨x,c%4,c/12%4,[[x1,y1,w2],[x1,y1,w1]]⟩ (s12.trans s25) ⟨dx,fs,[b,a],bas,.cons (s25 _ _ hb) (.cons (s25 _ _ ha2) .nil),.inl ⟨hp5,ta,hfa,hta⟩⟩ ⟨nm,hh.1,hh.2,hr.1,hr.2,a7,by show 2≤7;decide⟩ rfl nd2
theorem ok_LOthers {cThing cNet cBundle cFloor cMS:Addr}{f:Addr}{fd:FuncData}(F:Fun K "_law_others" "_law_others" sLOthers f fd)(T:Txt K mg cThing cNet cBundle cFloor cMS)(gCell:Callee P w K mg base "_law_cell_at" 1 ["script", "k"] (spCell K))(gSpot:Callee P w K mg base "_law_spot" 1 ["sizes", "cell", "more"] spSpot)(gLThing:Callee P w K mg base "_law_thing" 5 ["name", "cell", "sizes", "place"] (spLThing cNet cBundle)):FnOk P w K mg base CX0 6 f fd ["script", "sizes", "cells"] (spLOthers K cNet cBundle):=by
 have sc:FnScope ["script", "sizes", "cells", "gathered", "at", "k", "name", "thing", "wiring", "j", "one"] ["script", "sizes", "cells"] (defScope sLOthers):=⟨rfl,rfl,rfl,by decide+kernel,rfl,by decide+kernel,by decide+kernel⟩
 refine F.ok sc (fun vs H Q E h=>by repeat (first|(obtain⟨rfl,_⟩:=h;rfl)|(obtain⟨_,h⟩:=h))) (fun cdv A outer s H vs Q E hr h=>?_)
 obtain⟨a,z,l,ns,cs,L,R,C,rfl,ha,hz,sz,hl,hcl,q⟩:=h
 refine⟨_,(pss_cons (ps_set (i:=3) sc.nd rfl (Or.inl rfl) (pe_lst pa_nil))
 (pss_cons (ps_set (i:=4) sc.nd rfl (Or.inl rfl) (pe_op op_mod (pe_cal gCell (hr.mono (by decide)) (by rfl) (pa_cons (pv 0) (pa_cons pe_int pa_nil))) pe_int))
 (pss_cons (ps_for PassesOwn.never rfl (pi_range1 (by rfl) T.range_ (pa_cons (pe_op op_mod (pe_cal gCell (hr.mono (by decide)) (by rfl) (pa_cons (pv 0) (pa_cons pe_int pa_nil))) pe_int) pa_nil)) (pg_name (i:=5) sc.nd rfl (Or.inl rfl))
 (pss_cons (ps_set (i:=6) sc.nd rfl (Or.inl rfl) (pe_op op_add_str (pe_op op_add_str (pe_slice sl_str pe_str po_none (po_some (pv 4))) (pe_ix ix_str pe_str (pv 5) (fun _ _=>rfl))) (pe_slice sl_str pe_str (po_some (pv 4)) po_none)))
 (pss_cons (ps_set (i:=7) sc.nd rfl (Or.inl rfl) (pe_cal gLThing (hr.mono (by decide)) (by rfl) (pa_cons (pv 6) (pa_cons (pe_cal gCell (hr.mono (by decide)) (by rfl) (pa_cons (pv 0) (pa_cons (pe_op op_add pe_int (pv 5)) pa_nil))) (pa_cons (pv 1) (pa_cons (pe_ix ix_list (pv 2) (pv 5) (fun _ _=>rfl)) pa_nil))))))
 (pss_cons (ps_set (i:=8) sc.nd rfl (Or.inl rfl) (pe_lst pa_nil))
 (pss_cons (ps_for PassesOwn.never rfl (pi_range1 (by rfl) T.range_ (pa_cons (pe_op op_mod (pe_ix ix_list (pv 2) (pe_op op_add pe_int (pv 5)) (fun _ _=>rfl)) pe_int) pa_nil)) (pg_name (i:=9) sc.nd rfl (Or.inl rfl))
 (pss_cons (ps_set (i:=10) sc.nd rfl (Or.inl rfl) (pe_cal gSpot (hr.mono (by decide)) (by rfl) (pa_cons (pv 1) (pa_cons (pe_ix ix_list (pv 2) (pe_op op_add (pe_op op_add pe_int (pe_op op_mul pe_int (pv 5))) (pv 9)) (fun _ _=>rfl)) (pa_cons pe_int pa_nil)))))
 (pss_one (ps_expr (pe_bm PySem.F.plainAttrs_list PySem.F.slot_list_append PySem.F.type_list_append mt_append (pv 8) (pa_cons (pe_tup (pa_cons (pv 10) (pa_cons (pe_tup (pa_cons (pe_ix ix_tup (pv 10) pe_int (fun _ _=>rfl)) (pa_cons (pe_op op_add (pe_ix ix_tup (pv 10) pe_int (fun _ _=>rfl)) (pe_op op_mod (pv 9) pe_int)) (pa_cons (pe_op op_sub (pe_op op_add (pe_ix ix_tup (pv 10) pe_int (fun _ _=>rfl)) pe_int) (pe_op op_mod (pv 9) pe_int)) pa_nil)))) pa_nil))) pa_nil))))))
 (pss_cons (ps_if (pt_cmpR op_eq (pe_op op_mod (pe_op op_fdivB (pe_ix ix_list (pv 2) (pv 5) (fun _ _=>rfl)) pe_int) pe_int) pe_int (nomark _))
 (pss_one (ps_set (i:=8) sc.nd rfl (Or.inl rfl) pe_non))
 pss_nil)
 (pss_one (ps_expr (pe_bm PySem.F.plainAttrs_list PySem.F.slot_list_append PySem.F.type_list_append mt_append (pv 3) (pa_cons (pe_tup (pa_cons (pv 7) (pa_cons (pv 8) pa_nil))) pa_nil))))))))))
 (pss_one (ps_ret (pv 3)))))),?_⟩
 have hsz:sizeLine=2^24:=rfl
 have hl1:=sz.l1
 have hr1:=sz.r1
 have hc1:=sz.c1
 refine sq_lst (vs:=[]) ea_nil (by show 0≤sizeLine;decide) fun g ng=>?_
 have s1:Same H (upd H g (.lst [])):=(Same.refl H).upd ng
 have hg:upd H g (.lst []) g=some (.lst (([]:List Addr).map V.ref)):=upd_same
 obtain⟨H1,hH1⟩:∃H1,upd H g (.lst [])=H1:=⟨_,rfl⟩
 rw[hH1] at s1 hg⊢
 have f1:∀{b:Addr},b≠g→H b=none→H1 b=none:=fun h1 h2=>by rw[←hH1,upd_ne h1];exact h2
 refine sq_asg (te_op (te_cal (ea_cons (ev_var rfl) (ea_cons ev_c ea_nil)) ⟨a,ns,3,rfl,s1.seq ha,by decide,fun v=>⟨v,5,rfl,rfl,(by show(0:Int)<5;decide),?_⟩⟩))
 obtain⟨p5,hp5⟩:=Int.eq_ofNat_of_zero_le (show 0≤v%5 by omega)
 have hp5':p5<5:=by omega
 dsimp only
 rw[hp5]
 refine nrm (σ':=[some (.ref a),some (.ref z),some (.ref l),some (.ref g),some (.int (p5:Nat)),none,none,none,none,none,none]) (by kernel_rfl) ?_
 refine sq_rng1T (te_op (te_cal (ea_cons (ev_var rfl) (ea_cons ev_c ea_nil)) ⟨a,ns,2,rfl,s1.seq ha,by decide,fun v2=>⟨v2,4,rfl,rfl,(by show(0:Int)<4;decide),v2%4,rfl,by omega,by omega,?_⟩⟩))
 refine for_range (n:=(v2%4).toNat) (fun i σ H'=>∃(x5 x6 x7 x8 x9 x10:Option V) (as:List Addr) (os:List Ow),σ=[some (.ref a),some (.ref z),some (.ref l),some (.ref g),some (.int (p5:Nat)),x5,x6,x7,x8,x9,x10]∧Same H H'∧H' g=some (.lst (as.map V.ref))∧Paired (fun a o=>OWf H1 cNet cBundle H' a o) as os∧(∀o∈os,OwOk o)∧os.length=i)
  ⟨none,none,none,none,none,none,[],[],rfl,s1,hg,.nil,(fun _ h=>nomatch h),rfl⟩ ?_ ?_
 ·rintro i σ H3 hi ⟨x5,x6,x7,x8,x9,x10,as,os,rfl,s3,hg3,hp3,ok3,hl3⟩
  have hi:i<(v2%4).toNat:=hi
  have hi3:i<3:=by omega
  have las:as.length=os.length:=Paired.length hp3
  refine gn ?_
  obtain⟨w1,w2⟩:=wl1 p5 hp5'
  have w3:=wl93 p5 hp5' i hi3
  refine sq_set (v:=.str (wname9 p5 i)) (ev_addS (ev_addS (x:=Txt.slice "wire" none (some ((p5:Nat):Int))) (y:=⟨#[120+i]⟩) (ev_slTo ev_c (ev_var rfl) (by decide)) (ev_ixS ev_c (ev_var rfl) (by decide) (by rw[Int.zero_add];exact wl92 i hi3)) ?_) (ev_slFrom ev_c (ev_var rfl) (by decide)) ?_) ?_
  ·have:(⟨#[120+i]⟩:Str).length=1:=rfl
   omega
  ·omega
  refine nrm (σ':=[some (.ref a),some (.ref z),some (.ref l),some (.ref g),some (.int (p5:Nat)),some (.int (0+(i:Int))),some (.str (wname9 p5 i)),x7,x8,x9,x10]) (by kernel_rfl) ?_
  obtain⟨cc,ec,_⟩:=at_int (cs:=cs) (i:=0+(i:Int)) (by omega) (by omega)
  obtain⟨c3,ec3,_⟩:=at_int (cs:=cs) (i:=3+(0+(i:Int))) (by omega) (by omega)
  refine sq_asg (te_callA (ta_ev (ev_var rfl) (ta_one (te_cal (ea_cons (ev_var rfl) (ea_cons (ev_I0 ev_c (ev_var rfl)) ea_nil)) ⟨a,ns,_,rfl,s3.seq ha,by omega,fun v3=>ta_ev (ev_var rfl) (ta_ev (ev_ixL (v:=.int cc) (ev_var rfl) (ev_var rfl) (SqL.of (s3 _ _ hl)) ec) ?_)⟩))))
  refine⟨z,wname9 p5 i,L,R,C,v3,cc,rfl,wname9_ok hp5' hi3,s3 _ _ hz,sz,fun H4 p g' s4 tg og e2 nd=>?_⟩
  try dsimp only
  refine nrm (σ':=[some (.ref a),some (.ref z),some (.ref l),some (.ref g),some (.int (p5:Nat)),some (.int (0+(i:Int))),some (.str (wname9 p5 i)),some (.ref p),x8,x9,x10]) (by kernel_rfl) ?_
  have s34:=s3.trans s4
  refine sq_lst (vs:=[]) ea_nil (by show 0≤sizeLine;decide) fun wl nwl=>?_
  have s5:Same H4 (upd H4 wl (.lst [])):=(Same.refl H4).upd nwl
  have hwl:upd H4 wl (.lst []) wl=some (.lst (([]:List Addr).map V.ref)):=upd_same
  have nHw:H1 wl=none:=f1 (fun z=>by rw[z,s4 _ _ hg3] at nwl;cases nwl) (fresh_of s34 nwl)
  revert s5 hwl
  generalize upd H4 wl (.lst [])=H5
  intro s5 hwl
  refine nrm (σ':=[some (.ref a),some (.ref z),some (.ref l),some (.ref g),some (.int (p5:Nat)),some (.int (0+(i:Int))),some (.str (wname9 p5 i)),some (.ref p),some (.ref wl),x9,x10]) (by kernel_rfl) ?_
  refine sq_rng1 (j:=c3%9) (ea_cons (ev_I (ev_ixL (v:=.int c3) (ev_var rfl) (ev_I0 ev_c (ev_var rfl)) (SqL.of (s5 _ _ (s34 _ _ hl))) ec3) ev_c (by show(0:Int)<9;decide)) ea_nil) (by omega) (by omega) ?_
  refine for_range (n:=(c3%9).toNat) (fun j σ H'=>∃(x9 x10:Option V) (ws:List Addr) (W:Wg),σ=[some (.ref a),some (.ref z),some (.ref l),some (.ref g),some (.int (p5:Nat)),some (.int (0+(i:Int))),some (.str (wname9 p5 i)),some (.ref p),some (.ref wl),x9,x10]∧Same H4 H'∧H' wl=some (.lst (ws.map V.ref))∧Paired (fun a w=>PA2 H' a w) ws W∧(∀w∈W,Sp7 w.1∧Sp7 w.2)∧W.length=j)
   ⟨_,_,[],[],rfl,s5,hwl,.nil,(fun _ h=>nomatch h),rfl⟩ ?_ ?_
  ·rintro j σ H6 hj ⟨y9,y10,ws,W,rfl,s6,hw6,hp6,h67,hl6⟩
   have hj:j<(c3%9).toNat:=hj
   have lws:ws.length=W.length:=Paired.length hp6
   refine gn ?_
   obtain⟨c6,ec6,_⟩:=at_int (cs:=cs) (i:=6+8*(0+(i:Int))+(0+(j:Int))) (by omega) (by omega)
   refine sq_asg (te_callA (ta_ev (ev_var rfl) (ta_ev (ev_ixL (v:=.int c6) (ev_var rfl) (ev_I0 (ev_I0 (g:=fun i j=>V.int (i+j)) ev_c (ev_I (C:=CMul) (g:=fun i j=>V.int (i*j)) ev_c (ev_var rfl) (cmL (by decide) (by decide)))) (ev_var rfl)) (SqL.of (s6 _ _ (s34 _ _ hl))) ec6) (ta_ev ev_c ?_))))
   refine⟨z,L,R,C,c6,3,rfl,s6 _ _ (s34 _ _ hz),sz,by decide,by decide,fun H7 t x y w s7 ht hx hy hw=>?_⟩
   try dsimp only
   refine nrm (σ':=[some (.ref a),some (.ref z),some (.ref l),some (.ref g),some (.int (p5:Nat)),some (.int (0+(i:Int))),some (.str (wname9 p5 i)),some (.ref p),some (.ref wl),some (.int (0+(j:Int))),some (.ref t)]) (by kernel_rfl) ?_
   have hw7:=s7 _ _ hw6
   have jb:0≤(0+(j:Int))%2∧(0+(j:Int))%2≤1:=by omega
   refine rd_drop (te_bm (ev_var rfl) (.inl ⟨rfl,_,SqL.of hw7⟩) (ta_one (te_two (te_use (ev_var rfl) (te_tup (vs:=([x,y+(0+(j:Int))%2,w+1 - (0+(j:Int))%2]:T3).map V.int) (ea_cons (ev_ixT (v:=.int x) (ev_var rfl) ev_c (SqT.of ht) rfl) (ea_cons (ev_I0 (ev_ixT (v:=.int y) (ev_var rfl) ev_c (SqT.of ht) rfl) (ev_I (ev_var rfl) ev_c (by show(0:Int)<2;decide))) (ea_cons (ev_I0 (ev_I0 (g:=fun i j=>V.int (i+j)) (ev_ixT (v:=.int w) (ev_var rfl) ev_c (SqT.of ht) rfl) ev_c) (ev_I (ev_var rfl) ev_c (by show(0:Int)<2;decide))) ea_nil))) (by show 3≤sizeLine;decide) fun t2 n2=>⟨by show 2≤sizeLine;decide,fun t3' n3=>?_⟩)))))
   generalize (0+(j:Int))%2=jj at jb n3⊢
   have s8:Same H7 (upd H7 t2 (.tup (([x,y+jj,w+1 - jj]:T3).map V.int))):=(Same.refl H7).upd n2
   have ht2:upd H7 t2 (.tup (([x,y+jj,w+1 - jj]:T3).map V.int)) t2=some (.tup (([x,y+jj,w+1 - jj]:T3).map V.int)):=upd_same
   revert s8 ht2 n3
   generalize upd H7 t2 (.tup (([x,y+jj,w+1 - jj]:T3).map V.int))=H8
   intro n3 s8 ht2
   have s9:Same H8 (upd H8 t3' (.tup [.ref t,.ref t2])):=(Same.refl H8).upd n3
   have ht3:upd H8 t3' (.tup [.ref t,.ref t2]) t3'=some (.tup [.ref t,.ref t2]):=upd_same
   revert s9 ht3
   generalize upd H8 t3' (.tup [.ref t,.ref t2])=H9
   intro s9 ht3
   have s79:=s8.trans s9
   have hw9:=s79 _ _ hw7
   refine⟨wl,_,_,rfl,rfl,hw9,by rw[List.length_map];omega,?_⟩
   refine⟨_,_,ws++[t3'],W++[([x,y,w],[x,y+jj,w+1 - jj])],rfl,same_at (s6.trans (s7.trans s79)) nwl,by rw[upd_same,List.map_append];rfl,?_,fun v hv=>?_,by rw[List.length_append,hl6];rfl⟩
   ·refine paired_snoc ?_ (Paired.mapP hp6 fun a w e=>e.mono fun b xs e'=>lst_up hw9 _ _ (s79 _ _ (s7 _ _ e')))
    exact⟨t,t2,lst_up hw9 _ _ ht3,lst_up hw9 _ _ (s79 _ _ ht),lst_up hw9 _ _ (s9 _ _ ht2)⟩
   ·rcases List.mem_append.mp hv with h|h
    ·exact h67 v h
    ·rw[List.mem_singleton.mp h]
     exact⟨⟨x,y,w,rfl,by omega,by omega,by omega⟩,⟨x,y+jj,w+1 - jj,rfl,by omega,by omega,by omega⟩⟩
  ·rintro σ H6 ⟨y9,y10,ws,W,rfl,s6,hw6,hp6,h67,hl6⟩
   have hl6:W.length=(c3%9).toNat:=hl6
   refine st ?_
   refine sq_J (fun σ H'=>∃(v:V) (W:Wg),σ=[some (.ref a),some (.ref z),some (.ref l),some (.ref g),some (.int (p5:Nat)),some (.int (0+(i:Int))),some (.str (wname9 p5 i)),some (.ref p),some v,y9,y10]∧H6=H'∧WA H6 v W∧WgOk W∧∀lw,v=.ref lw→H1 lw=none) (fun R0 hR=>?_) ?_
   ·refine rd_if (et_test (ev_eqI (ev_I (ev_I (ev_ixL (v:=.int cc) (ev_var rfl) (ev_var rfl) (SqL.of (s6 _ _ (s34 _ _ hl))) ec) ev_c (cdB (by decide) (by decide))) ev_c (by show(0:Int)<4;decide)) ev_c)) (fun _=>?_) (fun _=>hR _ _ ⟨.ref wl,W,rfl,rfl,.inr ⟨wl,ws,rfl,hw6,hp6⟩,⟨h67,by omega⟩,fun lw e=>by cases e;exact nHw⟩)
    exact rd_set ev_c (hR _ _ ⟨.non,[],rfl,rfl,.inl ⟨rfl,rfl⟩,⟨(fun _ h=>nomatch h),Nat.zero_le _⟩,fun lw e=>nomatch e⟩)
   rintro σ H' ⟨v,W',rfl,rfl,wa,ow,fr⟩
   have s46:=s34.trans s6
   have hg6:=s6 _ _ (s4 _ _ hg3)
   refine rd_drop (te_bm (ev_var rfl) (.inl ⟨rfl,_,SqL.of hg6⟩) (ta_one (te_tup (vs:=[.ref p,v]) (ea_cons (ev_var rfl) (ea_cons (ev_var rfl) ea_nil)) (by show 2≤sizeLine;decide) fun tt ntt=>?_)))
   have s7:Same H6 (upd H6 tt (.tup [.ref p,v])):=(Same.refl H6).upd ntt
   have htt:upd H6 tt (.tup [.ref p,v]) tt=some (.tup [.ref p,v]):=upd_same
   revert s7 htt
   generalize upd H6 tt (.tup [.ref p,v])=H7
   intro s7 htt
   have hg7:=s7 _ _ hg6
   have owl:∀{a:Addr} {o:Ow},OWf H1 cNet cBundle H7 a o→OWf H1 cNet cBundle (upd H7 g (.lst (as.map V.ref++[.ref tt]))) a o:=fun{a o} ⟨p',v',h1,h2,h3,h4⟩=>by
    refine⟨p',v',lst_up hg7 _ _ h1,ta_lst h2 hg7,?_,h4⟩
    rcases h3 with h3|⟨lw,as',e1,e2,e3⟩
    ·exact .inl h3
    ·have e:lw≠g:=fun e=>by have:=h4 lw e1;rw[e,hg] at this;cases this
     exact .inr ⟨lw,as',e1,by rw[upd_ne e];exact e2,Paired.mapP e3 fun a w e=>e.mono fun b xs e'=>lst_up hg7 _ _ e'⟩
   refine⟨g,_,_,rfl,rfl,hg7,by rw[List.length_map];omega,?_⟩
   refine⟨_,_,_,_,_,_,as++[tt],os++[(g',W')],rfl,same_at (s46.trans s7) ng,by rw[upd_same,List.map_append];rfl,paired_snoc (owl ⟨p,v,htt,tg.same (s6.trans s7),wa.same s7,fr⟩) (Paired.mapP hp3 fun a o e=>owl (e.same (s4.trans (s6.trans s7)))),fun o ho=>?_,by rw[List.length_append,hl3];rfl⟩
   rcases List.mem_append.mp ho with h|h
   ·exact ok3 o h
   ·rw[List.mem_singleton.mp h]
    exact⟨og,e2,nd,ow⟩
 ·rintro σ H3 ⟨x5,x6,x7,x8,x9,x10,as,os,rfl,s3,hg3,hp3,ok3,hl3⟩
  have hl3:os.length=(v2%4).toNat:=hl3
  exact st (rd_ret (ev_var rfl) (q _ g as os s3 ng hg3 (Paired.mapP hp3 fun a o ⟨p,v,h1,h2,h3,h4⟩=>⟨p,v,h1,h2,h3,fun lw e=>fresh_of s1 (h4 lw e)⟩) ok3 (by omega)))
theorem range_mul (n m:Nat):List.range (n*m)=(List.range n).flatMap fun i=>(List.range m).map fun j=>i*m+j:=by
 induction n with
 |zero=>simp
 |succ n ih=>
  rw[List.range_succ,List.flatMap_append,←ih,Nat.succ_mul,List.range_add]
  simp
noncomputable def gr (L R C:Nat):List Sp3:=(List.range L).flatMap fun l:Nat=>(List.range R).flatMap fun r:Nat=>(List.range C).map fun c:Nat=>((l:Int),(r:Int),(c:Int))
theorem flat_ext {α β:Type}{f g:α→List β}:∀{l:List α},(∀x∈l,f x=g x)→l.flatMap f=l.flatMap g
 |[],_=>rfl
 |a::r,h=>by rw[List.flatMap_cons,List.flatMap_cons,h a List.mem_cons_self,flat_ext fun x hx=>h x (List.mem_cons_of_mem _ hx)]
theorem flat_flat {α β γ:Type}{f:α→List β}{g:β→List γ}:∀{l:List α},(l.flatMap f).flatMap g=l.flatMap fun a=>(f a).flatMap g
 |[]=>rfl
 |a::r=>by rw[List.flatMap_cons,List.flatMap_append,flat_flat,List.flatMap_cons]
theorem flat_map {α β γ:Type}{f:α→β}{g:β→List γ}:∀{l:List α},(l.map f).flatMap g=l.flatMap fun a=>g (f a)
 |[]=>rfl
 |a::r=>by rw[List.map_cons,List.flatMap_cons,flat_map,List.flatMap_cons]
theorem map_flat {α β γ:Type}{f:α→List β}{g:β→γ}:∀{l:List α},(l.flatMap f).map g=l.flatMap fun a=>(f a).map g
 |[]=>rfl
 |a::r=>by rw[List.flatMap_cons,List.map_append,map_flat,List.flatMap_cons]
theorem gr3_eq (L R C:Nat)(hR:0<R)(hC:0<C):gr3 (R:Int) (C:Int) (L*R*C)=gr L R C:=by
 unfold gr3 gr
 rw[range_mul (L*R) C,map_flat,range_mul L R,flat_flat]
 refine flat_ext fun l _=>?_
 rw[flat_map]
 refine flat_ext fun r hr=>?_
 rw[List.map_map]
 refine List.map_congr_left fun c hc=>?_
 have hr:=List.mem_range.mp hr
 have hc:=List.mem_range.mp hc
 show n3 (R:Int) (C:Int) ((l*R+r)*C+c)=_
 unfold n3
 have e1:(((l*R+r)*C+c:Nat):Int)/(C:Int)=((l*R+r:Nat):Int):=by
  rw[←Int.natCast_ediv,Nat.mul_comm (l*R+r) C,Nat.mul_add_div hC,Nat.div_eq_of_lt hc,Nat.add_zero]
 have e2:(((l*R+r)*C+c:Nat):Int)%(C:Int)=((c:Nat):Int):=by
  rw[←Int.natCast_emod,Nat.mul_comm (l*R+r) C,Nat.mul_add_mod,Nat.mod_eq_of_lt hc]
 have e3:((l*R+r:Nat):Int)/(R:Int)=((l:Nat):Int):=by
  rw[←Int.natCast_ediv,Nat.mul_comm l R,Nat.mul_add_div hR,Nat.div_eq_of_lt hr,Nat.add_zero]
 have e4:((l*R+r:Nat):Int)%(R:Int)=((r:Nat):Int):=by
  rw[←Int.natCast_emod,Nat.mul_comm l R,Nat.mul_add_mod,Nat.mod_eq_of_lt hr]
 rw[e1,e2,e3,e4]
theorem gr_more {L R C:Nat}{P:Sp3→Bool}(h:∀l r c:Nat,P ((l:Int),(r:Int),(c:Int))=true→r<R∧c<C):(gr L (R+1) (C+1)).filter P=(gr L R C).filter P:=by
 unfold gr
 rw[List.filter_flatMap,List.filter_flatMap]
 refine flat_ext fun l _=>?_
 rw[List.filter_flatMap,List.filter_flatMap,show List.range (R+1)=List.range R++[R] from List.range_succ,List.flatMap_append]
 have e0:∀r:Nat,((List.range (C+1)).map fun c:Nat=>((l:Int),(r:Int),(c:Int))).filter P=((List.range C).map fun c:Nat=>((l:Int),(r:Int),(c:Int))).filter P:=fun r=>by
  rw[List.range_succ,List.map_append,List.filter_append]
  have:([C].map fun c:Nat=>((l:Int),(r:Int),(c:Int))).filter P=[]:=by
   refine List.filter_eq_nil_iff.mpr fun q hq=>?_
   rw[List.map_cons,List.map_nil,List.mem_singleton] at hq
   rw[hq]
   intro z
   exact absurd (h l r C z).2 (Nat.lt_irrefl _)
  rw[this,List.append_nil]
 have e1:([R].flatMap fun r:Nat=>((List.range (C+1)).map fun c:Nat=>((l:Int),(r:Int),(c:Int))).filter P)=[]:=by
  rw[List.flatMap_cons,List.flatMap_nil,List.append_nil]
  refine List.filter_eq_nil_iff.mpr fun q hq=>?_
  obtain⟨c,_,rfl⟩:=List.mem_map.mp hq
  intro z
  exact absurd (h l R c z).1 (Nat.lt_irrefl _)
 rw[e1,List.append_nil]
 exact flat_ext fun r _=>e0 r
theorem bar_nil {L R C:Int}{rs:List Sp3}{g:Tg}{os:List Ot}{q:Sp3}(h0:0≤g.hf):(barS L R C rs g os q=[])↔frB L R C rs g os q=true:=by
 unfold barS frB
 refine Iff.trans ?_ cd_iff.symm
 rw[List.append_eq_nil_iff,List.map_eq_nil_iff,List.filter_eq_nil_iff]
 constructor
 ·rintro⟨h1,h2⟩
  have hf:Fit L R C rs g.hf q.1 q.2.1 q.2.2:=by
   by_cases e:cd (Fit L R C rs g.hf q.1 q.2.1 q.2.2)=true
   ·exact cd_iff.mp e
   ·rw[if_neg e] at h1;cases h1
  refine⟨hf,fun⟨o,ho,c,hc,hs⟩=>h2 o ho ?_⟩
  refine List.any_eq_true.mpr ⟨c,hc,?_⟩
  obtain⟨s1,⟨s2,s3,s4,s5⟩,s6,s7,s8,s9⟩:=hs
  rw[←near_law]
  rw[decide_eq_true s1.symm,decide_eq_true ((ab_le _ _).mpr ⟨by unfold rch at s4 s5;omega,by unfold rch at s4 s5;omega⟩),decide_eq_true ((ab_le _ _).mpr ⟨by unfold rch at s8 s9;omega,by unfold rch at s8 s9;omega⟩)]
  rfl
 ·rintro⟨hf,hn⟩
  refine⟨by rw[if_pos (cd_iff.mpr hf)],fun o ho hc=>hn ?_⟩
  obtain⟨c,hc,e⟩:=List.any_eq_true.mp hc
  rw[←near_law,Bool.and_eq_true,Bool.and_eq_true] at e
  obtain⟨e1,e2,e3⟩:=e
  have e1:=of_decide_eq_true e1
  have e2:=(ab_le _ _).mp (of_decide_eq_true e2)
  have e3:=(ab_le _ _).mp (of_decide_eq_true e3)
  obtain⟨_,_,i3,i4,i5,i6⟩:=(hf q.2.1 q.2.2 (by omega) (by omega) (by omega) (by omega)).1
  exact⟨o,ho,c,hc,e1.symm,⟨i3,i4,by unfold rch;omega,by unfold rch;omega⟩,i5,i6,by unfold rch;omega,by unfold rch;omega⟩
theorem fr_in {L R C:Int}{rs:List Sp3}{g:Tg}{os:List Ot}{q:Sp3}(h0:0≤g.hf)(h:frB L R C rs g os q=true):Ins L R C q.1 q.2.1 q.2.2:=by
 unfold frB at h
 exact((cd_iff.mp h).1 q.2.1 q.2.2 (by omega) (by omega) (by omega) (by omega)).1
theorem nm_strOk {x:Str}(h:NmOk x):PyData.strOk x=true:=by
 have:=h.as
 unfold PyData.strOk
 rw[Array.all_eq_true] at this⊢
 exact fun i hi=>decide_eq_true (Nat.lt_trans (of_decide_eq_true (this i hi)) (by decide))
theorem bar_strOk {L R C:Int}{rs:List Sp3}{g:Tg}{os:List Ot}{q:Sp3}(oo:OsOk os):∀x∈barS L R C rs g os q,PyData.strOk x=true:=fun x hx=>by
 unfold barS at hx
 rcases List.mem_append.mp hx with h|h
 ·split at h
  ·cases h
  ·rw[List.mem_singleton.mp h];decide+kernel
 ·obtain⟨o,ho,rfl⟩:=List.mem_map.mp h
  exact nm_strOk (oo.ok o (List.mem_filter.mp ho).1).g.nm
theorem dps_strs {K:PySem.W.Frag}{H:Hp}:∀{xs:List Str},(∀x∈xs,PyData.strOk x=true)→Dps K H (xs.map V.str) (xs.map PyData.str)
 |[],_=> .nil
 |x::r,h=> .cons (.str x (h x List.mem_cons_self)) (dps_strs fun y hy=>h y (List.mem_cons_of_mem _ hy))
theorem depth_strs {xs:List Str}:(PyData.list (xs.map PyData.str)).depth≤60:=by
 have:PyData.depthAll (xs.map PyData.str)≤1:=depthAll_le fun d hd=>by
  obtain⟨c,_,rfl⟩:=List.mem_map.mp hd
  exact Nat.zero_le _
 simp only[PyData.depth]
 omega
noncomputable def dRow (cs:List T3):PyData:=.list (cs.map fun c=>PyData.tuple (c.map PyData.int))
theorem depth_rows {os:List Ot}:(PyData.list (os.map fun o=>dRow o.2)).depth≤60:=by
 have h1:∀cs:List T3,(dRow cs).depth≤5:=fun cs=>by
  have:PyData.depthAll (cs.map fun c=>PyData.tuple (c.map PyData.int))≤1:=depthAll_le fun d hd=>by
   obtain⟨c,_,rfl⟩:=List.mem_map.mp hd
   exact depth_tints c
  unfold dRow
  simp only[PyData.depth]
  omega
 have:PyData.depthAll (os.map fun o=>dRow o.2)≤5:=depthAll_le fun d hd=>by
  obtain⟨c,_,rfl⟩:=List.mem_map.mp hd
  exact h1 c.2
 simp only[PyData.depth]
 omega
def RA (H:Hp) (D:Addr) (os:List Ot):Prop:=∃ls:List Addr,H D=some (.lst (ls.map V.ref))∧Paired (fun l (o:Ot)=>AtL H l o.2) ls os
theorem RA.same {H H':Hp}{D:Addr}{os:List Ot}(h:RA H D os)(s:Same H H'):RA H' D os:=by
 obtain⟨ls,h1,h2⟩:=h
 exact⟨ls,s _ _ h1,Paired.mapP h2 fun _ _ e=>AtL.same e s⟩
theorem dps_rows {K:PySem.W.Frag}{H:Hp}:∀{ls:List Addr} {os:List Ot},Paired (fun l (o:Ot)=>AtL H l o.2) ls os→Dps K H (ls.map V.ref) (os.map fun o=>dRow o.2)
 |_,_,.nil=> .nil
 |_,_,.cons ⟨as,h1,h2⟩ t=> .cons (dp_row h1 h2) (dps_rows t)
theorem dp_rows {K:PySem.W.Frag}{H:Hp}{D:Addr}{os:List Ot}(h:RA H D os):Dp K H (.ref D) (.list (os.map fun o=>dRow o.2)):=by
 obtain⟨ls,h1,h2⟩:=h
 exact .lst (SqL.of h1) (dps_rows h2)
theorem dp_spots {K:PySem.W.Frag}{H:Hp}{l:Addr}{as:List Addr}{rs:List Sp3}(h:H l=some (.lst (as.map V.ref)))(t:Spots H as rs):Dp K H (.ref l) (dRow (rs.map t3)):=dp_row h (spots_tups t)
theorem val_kv {fr:List Sp3}{q:Sp3}(h:q∈fr):valV (kv fr) (k3 q)=some (.bl true):=by
 induction fr with
 |nil=>cases h
 |cons a r ih=>
  by_cases e:k3 a=k3 q
  ·exact valV_pos e
  ·show valV ((k3 a,.bl true)::kv r) (k3 q)=_
   rw[valV_neg e]
   rcases List.mem_cons.mp h with rfl|h
   ·exact absurd rfl e
   ·exact ih h
theorem key_spots {H:Hp}:∀{fr:List Sp3} {ys:List V},ys.length=fr.length→(∀(i:Nat) y,ys[i]?=some y→∃v,KeyAt H (.dT (kv fr)) i y v)→∃as:List Addr,ys=as.map V.ref∧Spots H as fr
 |[],[],_,_=>⟨[],rfl,.nil⟩
 |[],_::_,h,_=>by simp at h
 |_::_,[],h,_=>by simp at h
 |q::fr,y::ys,h,k=>by
  obtain⟨as,e1,e2⟩:=key_spots (fr:=fr) (ys:=ys) (by simpa using h) fun i y' hy=>by
   obtain⟨v,kk,b,h1,h2,h3⟩:=k (i+1) y' (by simpa using hy)
   exact⟨v,kk,b,by simpa[kv] using h1,h2,h3⟩
  obtain⟨v,kk,b,h1,h2,h3⟩:=k 0 y rfl
  have ek:kk=k3 q:=by
   have:(kv (q::fr))[0]?=some (k3 q,.bl true):=rfl
   rw[this] at h1
   exact(congrArg Prod.fst (Option.some.inj h1)).symm
  subst ek
  exact⟨b::as,by rw[h2,e1];rfl,.cons h3 e2⟩
noncomputable def rowG (i C j:Nat):List Sp3:=(List.range j).flatMap fun r:Nat=>(List.range C).map fun c:Nat=>((i:Int),(r:Int),(c:Int))
noncomputable def celG (i j k:Nat):List Sp3:=(List.range k).map fun c:Nat=>((i:Int),(j:Int),(c:Int))
def OAn (ol cN cB:Addr) (H:Hp) (a:Addr) (o:Ot):Prop:=∃p m,H a=some (.tup [.ref p,.ref m])∧TA cN cB H p o.1∧AtL H m o.2∧m≠ol
theorem OAn.same {ol cN cB:Addr}{H H':Hp}{a:Addr}{o:Ot}(h:OAn ol cN cB H a o)(s:Same H H'):OAn ol cN cB H' a o:=by
 obtain⟨p,m,h1,h2,h3,h4⟩:=h
 exact⟨p,m,s _ _ h1,h2.same s,h3.same s,h4⟩
theorem oan_upd {ol cN cB:Addr}{H:Hp}{a:Addr}{o:Ot}{xs ys:List V}(h:OAn ol cN cB H a o)(hl:H ol=some (.lst xs)):OAn ol cN cB (upd H ol (.lst ys)) a o:=by
 obtain⟨p,m,h1,h2,⟨as,h3,h5⟩,h4⟩:=h
 exact⟨p,m,lst_up hl _ _ h1,ta_lst h2 hl,⟨as,by rw[upd_ne h4];exact h3,tups_mono h5 (lst_up hl)⟩,h4⟩
theorem owf_upd {H0:Hp}{cN cB g:Addr}{H:Hp}{a:Addr}{o:Ow}{x:HO}{xs ys:List V}(h:OWf H0 cN cB H a o)(h0:H0 g=some x)(hg:H g=some (.lst xs)):OWf H0 cN cB (upd H g (.lst ys)) a o:=by
 obtain⟨p',v',h1,h2,h3,h4⟩:=h
 refine⟨p',v',lst_up hg _ _ h1,ta_lst h2 hg,?_,h4⟩
 rcases h3 with h3|⟨lw,as',e1,e2,e3⟩
 ·exact .inl h3
 ·have e:lw≠g:=fun e=>by have:=h4 lw e1;rw[e,h0] at this;cases this
  exact .inr ⟨lw,as',e1,by rw[upd_ne e];exact e2,Paired.mapP e3 fun a w e=>e.mono fun b xs e'=>lst_up hg _ _ e'⟩
theorem lc_rows {K:PySem.W.Frag}{cN cB D ol:Addr}{H:Hp}{os:List Ot}{Q:Hp→Prop}(h:OL cN cB H ol os)(oo:OsOk os)(nD:H D=none)(q:∀H',Same H H'→RA H' D os→Q H'):
  lcW [none] (gName 0) tYes (tCB (fun xs H Q=>∃p ys,xs=[V.ref p]∧(SqL K H p ys∨SqT K H p ys)∧∀l,H l=none→Q (.ref l) (upd H l (.lst ys))) (tCons (tOp (rIxT K) (tVar 0) (tC (.int 1))) tNil)) (Itl K ol) H D Q:=by
 have hsz:sizeLine=2^24:=rfl
 have h3:=oo.n
 obtain⟨as,hl,hp⟩:=h
 have las:as.length=os.length:=Paired.length hp
 refine lc_listG (K:=K) (xs:=as.map V.ref) (fun i τ H'=>∃(x0:Option V) (ls:List Addr),τ=[x0]∧Same H H'∧H' D=some (.lst (ls.map V.ref))∧Paired (fun l (o:Ot)=>AtL H' l o.2∧l≠D) ls (os.take i)∧ls.length=i) ⟨none,[],rfl,(Same.refl H).upd nD,upd_same,.nil,rfl⟩ (fun i τ H' _ ⟨_,_,_,s,_⟩=>SqL.of (s _ _ hl)) ?_ ?_
 ·rintro i x τ H1 hx ⟨x0,ls,rfl,s1,hD,hls,ll⟩
  obtain⟨a,ha,rfl⟩:=at_ref hx
  obtain⟨o,ho,p,m,hap,to,ms,hm,hms⟩:=paired_at hp ha
  have hio:=lt_of_get ho
  refine gn (lc_el ?_)
  refine te_cb1 (te_use (v:=.ref m) (ev_ixT (ev_var rfl) ev_c (SqT.of (s1 _ _ hap)) rfl) ⟨m,_,rfl,.inl (SqL.of (s1 _ _ hm)),fun l nl=>?_⟩)
  have nlD:l≠D:=fun z=>by rw[z,hD] at nl;cases nl
  have hD2:upd H1 l (.lst (ms.map V.ref)) D=some (.lst (ls.map V.ref)):=by rw[upd_ne (Ne.symm nlD)];exact hD
  have s2:Same H1 (upd H1 l (.lst (ms.map V.ref))):=(Same.refl H1).upd nl
  have up:∀{l':Addr} {cs:List T3},AtL (upd H1 l (.lst (ms.map V.ref))) l' cs→l'≠D→AtL (upd (upd H1 l (.lst (ms.map V.ref))) D (.lst (ls.map V.ref++[.ref l]))) l' cs:=fun{l' cs} ⟨bs,h1,h2⟩ hn=>⟨bs,by rw[upd_ne hn];exact h1,tups_mono h2 (lst_up hD2)⟩
  refine⟨_,hD2,by rw[List.length_map];omega,_,ls++[l],rfl,same_at (s1.upd nl) nD,by rw[upd_same,List.map_append];rfl,?_,by rw[List.length_append,ll];rfl⟩
  rw[take_one ho]
  exact paired_snoc ⟨up ⟨ms,upd_same,Tups.same hms (s1.trans s2)⟩ nlD,nlD⟩ (Paired.mapP hls fun l' o' ⟨e1,e2⟩=>⟨up (e1.same s2) e2,e2⟩)
 ·rintro τ H1 ⟨x0,ls,rfl,s1,hD,hls,ll⟩
  rw[List.length_map,las,List.take_length] at hls
  exact q H1 s1 ⟨ls,hD,Paired.mapP hls fun _ _ e=>e.1⟩
theorem or_raw {t u:TT}{σ:St}{H:Hp}{Q:Bool→Hp→Prop}(h:t σ H fun c H1=>if c=true then Q true H1 else u σ H1 Q):tOr t u σ H Q:=h
theorem ok_law {cThing cNet cBundle cFloor cMS:Addr}{f:Addr}{fd:FuncData}(F:Fun K "law" "law" slaw f fd)(T:Txt K mg cThing cNet cBundle cFloor cMS)(gFInit:KCalleeM P w K mg base cFloor "Floor" 3 ["self", "sizes", "prices", "vias", "rocks", "tolls"] (spFInit cFloor))(gHeld:Callee P w K mg base "held" 2 ["thing", "wiring"] (spHeld cNet cBundle))(gFreeFor:Callee P w K mg base "free_for" 5 ["floor", "thing", "others"] (spFreeFor cNet cBundle cFloor))(gBarred:Callee P w K mg base "barred_by" 5 ["floor", "thing", "others", "spot"] (spBarred cNet cBundle cFloor))(gCell:Callee P w K mg base "_law_cell_at" 1 ["script", "k"] (spCell K))(gFolded:Callee P w K mg base "_law_folded" 1 ["script", "behind", "many"] (spFolded K))(gSizes:Callee P w K mg base "_law_sizes" 1 ["cell"] spSizes)(gSpot:Callee P w K mg base "_law_spot" 1 ["sizes", "cell", "more"] spSpot)(gLThing:Callee P w K mg base "_law_thing" 5 ["name", "cell", "sizes", "place"] (spLThing cNet cBundle))(gLOthers:Callee P w K mg base "_law_others" 6 ["script", "sizes", "cells"] (spLOthers K cNet cBundle))(gLHeld:Callee P w K mg base "_law_held" 2 ["thing", "wiring"] (spLHeld cNet cBundle))(gLBarred:Callee P w K mg base "_law_barred" 2 ["sizes", "rocks", "thing", "others", "spot"] (spLBarred cNet cBundle)):FnOk P w K mg base CX0 7 f fd ["script"] (spLaw K):=by
 have sc:FnScope ["script", "sizes", "cells", "rocks", "floor", "thing", "others", "pair", "due", "found", "copies", "free", "layer", "row", "column", "spot", "gathered"] ["script"] (defScope slaw):=⟨rfl,rfl,rfl,by decide+kernel,rfl,by decide+kernel,by decide+kernel⟩
 refine F.ok sc (fun vs H Q E h=>by repeat (first|(obtain⟨rfl,_⟩:=h;rfl)|(obtain⟨_,h⟩:=h))) (fun cdv A outer s H vs Q E hr h=>?_)
 obtain⟨a,ns,rfl,ha,hle,q⟩:=h
 refine⟨_,(pss_cons (ps_set (i:=1) sc.nd rfl (Or.inr rfl) (pe_cal gSizes (hr.mono (by decide)) (by rfl) (pa_cons (pe_cal gCell (hr.mono (by decide)) (by rfl) (pa_cons (pv 0) (pa_cons pe_int pa_nil))) pa_nil)))
 (pss_cons (ps_set (i:=2) sc.nd rfl (Or.inr rfl) (pe_cal gFolded (hr.mono (by decide)) (by rfl) (pa_cons (pv 0) (pa_cons pe_int (pa_cons pe_int pa_nil)))))
 (pss_cons (ps_lcset (i:=3) (ls:=["k"]) (ys:=["sizes", "cells"]) (ix:=[1,2]) rfl sc.nd rfl (Or.inl rfl) ⟨rfl,by rfl,by rfl,by rfl,by rfl,rfl⟩ (pi_range1 (by rfl) T.range_ (pa_cons (pe_op op_mod (pe_cal gCell (hr.mono (by decide)) (by rfl) (pa_cons (pv 0) (pa_cons pe_int pa_nil))) pe_int) pa_nil)) (fun _ _ _ _ _=>(pg_name (i:=0) (show(["k", "sizes", "cells"]:List Str).Nodup by decide+kernel) rfl (Or.inl rfl))) (fun _ _ _ _ _=>pf_nil) (fun _ _ _ _ _=>(pe_cal (by exact gSpot) (by exact(hr.mono (by decide))) (by rfl) (pa_cons (pv 1) (pa_cons (pe_ix (ix_listK (K:=K) rfl) (pv 2) (pe_op op_add pe_int (pv 0)) (fun _ _=>rfl)) (pa_cons pe_int pa_nil))))))
 (pss_cons (ps_set (i:=4) sc.nd rfl (Or.inl rfl) (pe_mkM1 gFInit (hr.mono (by decide)) (by rfl) (pa_cons (pv 1) (pa_cons (pe_lc (ls:=["k"]) (ys:=[]) (ix:=[]) rfl ⟨rfl,by rfl,by rfl,by rfl,by rfl,rfl⟩ (pi_range1 (by rfl) T.range_ (pa_cons (pe_ix ix_tup (pv 1) pe_int (fun _ _=>rfl)) pa_nil)) (fun _ _ _ _ _=>(pg_name (i:=0) (show(["k"]:List Str).Nodup by decide+kernel) rfl (Or.inl rfl))) (fun _ _ _ _ _=>pf_nil) (fun _ _ _ _ _=>(pe_tup (pa_cons pe_int (pa_cons pe_int pa_nil))))) (pa_cons (pe_lc (ls:=["k"]) (ys:=[]) (ix:=[]) rfl ⟨rfl,by rfl,by rfl,by rfl,by rfl,rfl⟩ (pi_range1 (by rfl) T.range_ (pa_cons (pe_op op_sub (pe_ix ix_tup (pv 1) pe_int (fun _ _=>rfl)) pe_int) pa_nil)) (fun _ _ _ _ _=>(pg_name (i:=0) (show(["k"]:List Str).Nodup by decide+kernel) rfl (Or.inl rfl))) (fun _ _ _ _ _=>pf_nil) (fun _ _ _ _ _=>pe_int)) (pa_cons (pe_callTy call_list_of (by rfl) T.list_ bt_list (pa_cons (pv 3) pa_nil)) pa_nil))))))
 (pss_cons (ps_set (i:=5) sc.nd rfl (Or.inl rfl) (pe_cal gLThing (hr.mono (by decide)) (by rfl) (pa_cons pe_str (pa_cons (pe_cal gCell (hr.mono (by decide)) (by rfl) (pa_cons (pv 0) (pa_cons pe_int pa_nil))) (pa_cons (pv 1) (pa_cons pe_int pa_nil))))))
 (pss_cons (ps_set (i:=6) sc.nd rfl (Or.inl rfl) (pe_lst pa_nil))
 (pss_cons (ps_for PassesOwn.never rfl (pi_list (pe_cal gLOthers (hr.mono (by decide)) (by rfl) (pa_cons (pv 0) (pa_cons (pv 1) (pa_cons (pv 2) pa_nil))))) (pg_name (i:=7) sc.nd rfl (Or.inl rfl))
 (pss_cons (ps_set (i:=8) sc.nd rfl (Or.inl rfl) (pe_cal gLHeld (hr.mono (by decide)) (by rfl) (pa_cons (pe_ix ix_tup (pv 7) pe_int (fun _ _=>rfl)) (pa_cons (pe_ix ix_tup (pv 7) pe_int (fun _ _=>rfl)) pa_nil))))
 (pss_cons (ps_set (i:=9) sc.nd rfl (Or.inl rfl) (pe_cal gHeld (hr.mono (by decide)) (by rfl) (pa_cons (pe_ix ix_tup (pv 7) pe_int (fun _ _=>rfl)) (pa_cons (pe_ix ix_tup (pv 7) pe_int (fun _ _=>rfl)) pa_nil))))
 (pss_cons (ps_if (pw_or (pt_not (pt_val (pe_callB call_isinst (by rfl) T.isinstance_ bt_isinstance (pa_cons (pv 9) (pa_cons (pe_bltn (v:=.ty "list") (by rfl) T.list_ bt_list (by rfl)) pa_nil))))) (pw_or1 (pt_cmpR (op_neD hr) (pv 9) (pv 8) (nomark _)))).pt
 (pss_one (ps_ret pe_bl))
 pss_nil)
 (pss_one (ps_expr (pe_bm PySem.F.plainAttrs_list PySem.F.slot_list_append PySem.F.type_list_append mt_append (pv 6) (pa_cons (pe_tup (pa_cons (pe_ix ix_tup (pv 7) pe_int (fun _ _=>rfl)) (pa_cons (pv 8) pa_nil))) pa_nil))))))))
 (pss_cons (ps_lcset (i:=10) (ls:=["pair"]) (ys:=[]) (ix:=[]) rfl sc.nd rfl (Or.inl rfl) ⟨rfl,by rfl,by rfl,by rfl,by rfl,rfl⟩ (pi_list (pv 6)) (fun _ _ _ _ _=>(pg_name (i:=0) (show(["pair"]:List Str).Nodup by decide+kernel) rfl (Or.inl rfl))) (fun _ _ _ _ _=>pf_nil) (fun _ _ _ _ _=>(pe_callTy (call_list_ofK (K:=K) rfl) (by rfl) T.list_ bt_list (pa_cons (pe_ix (ix_tupK (K:=K) rfl) (pv 0) pe_int (fun _ _=>rfl)) pa_nil))))
 (pss_cons (ps_set (i:=11) sc.nd rfl (Or.inl rfl) (pe_lst pa_nil))
 (pss_cons (ps_for PassesOwn.never rfl (pi_range1 (by rfl) T.range_ (pa_cons (pe_ix ix_tup (pv 1) pe_int (fun _ _=>rfl)) pa_nil)) (pg_name (i:=12) sc.nd rfl (Or.inl rfl))
 (pss_one (ps_for PassesOwn.never rfl (pi_range1 (by rfl) T.range_ (pa_cons (pe_op op_add (pe_ix ix_tup (pv 1) pe_int (fun _ _=>rfl)) pe_int) pa_nil)) (pg_name (i:=13) sc.nd rfl (Or.inl rfl))
 (pss_one (ps_for PassesOwn.never rfl (pi_range1 (by rfl) T.range_ (pa_cons (pe_op op_add (pe_ix ix_tup (pv 1) pe_int (fun _ _=>rfl)) pe_int) pa_nil)) (pg_name (i:=14) sc.nd rfl (Or.inl rfl))
 (pss_cons (ps_set (i:=15) sc.nd rfl (Or.inl rfl) (pe_tup (pa_cons (pv 12) (pa_cons (pv 13) (pa_cons (pv 14) pa_nil)))))
 (pss_cons (ps_set (i:=8) sc.nd rfl (Or.inl rfl) (pe_cal gLBarred (hr.mono (by decide)) (by rfl) (pa_cons (pv 1) (pa_cons (pv 3) (pa_cons (pv 5) (pa_cons (pv 6) (pa_cons (pv 15) pa_nil)))))))
 (pss_cons (ps_set (i:=9) sc.nd rfl (Or.inl rfl) (pe_cal gBarred (hr.mono (by decide)) (by rfl) (pa_cons (pv 4) (pa_cons (pv 5) (pa_cons (pv 6) (pa_cons (pv 15) pa_nil))))))
 (pss_cons (ps_if (pw_or (pt_not (pt_val (pe_callB call_isinst (by rfl) T.isinstance_ bt_isinstance (pa_cons (pv 9) (pa_cons (pe_bltn (v:=.ty "list") (by rfl) T.list_ bt_list (by rfl)) pa_nil))))) (pw_or1 (pt_cmpR (op_neD hr) (pv 9) (pv 8) (nomark _)))).pt
 (pss_one (ps_ret pe_bl))
 pss_nil)
 (pss_one (ps_if (pt_cmpR op_eq (pe_callB call_len (by rfl) T.len_ bt_len (pa_cons (pv 8) pa_nil)) pe_int (nomark _))
 (pss_one (ps_expr (pe_bm PySem.F.plainAttrs_list PySem.F.slot_list_append PySem.F.type_list_append mt_append (pv 11) (pa_cons (pv 15) pa_nil))))
 pss_nil)))))))))))
 (pss_cons (ps_set (i:=16) sc.nd rfl (Or.inr rfl) (pe_cal gFreeFor (hr.mono (by decide)) (by rfl) (pa_cons (pv 4) (pa_cons (pv 5) (pa_cons (pv 6) pa_nil)))))
 (pss_cons (ps_if (pw_or (pt_not (pt_val (pe_callB call_isinst (by rfl) T.isinstance_ bt_isinstance (pa_cons (pv 16) (pa_cons (pe_bltn (v:=.ty "dict") (by rfl) T.dict_ bt_dict (by rfl)) pa_nil))))) (pw_or (pt_cmpR (op_neD hr) (pe_callTy (call_listD rfl) (by rfl) T.list_ bt_list (pa_cons (pv 16) pa_nil)) (pv 11) (nomark _)) (pw_or1 (pt_not (pt_val (pe_callB (call_all rfl) (by rfl) T.all_ bt_all (pa_cons (pe_lc (ls:=["spot"]) (ys:=["gathered"]) (ix:=[16]) rfl ⟨rfl,by rfl,by rfl,by rfl,by rfl,rfl⟩ (pi_list (pv 11)) (fun _ _ _ _ _=>(pg_name (i:=0) (show(["spot", "gathered"]:List Str).Nodup by decide+kernel) rfl (Or.inl rfl))) (fun _ _ _ _ _=>pf_nil) (fun _ _ _ _ _=>(pe_cmpR op_is_bl (pe_dget (by exact(Room.one hr)) (pv 1) (pv 0) (fun _ _=>rfl)) pe_bl (nomark _)))) pa_nil))))))).pt
 (pss_one (ps_ret pe_bl))
 pss_nil)
 (pss_one (ps_ret (pe_cmpR (op_eqD hr) (pe_lc (ls:=["pair"]) (ys:=[]) (ix:=[]) rfl ⟨rfl,by rfl,by rfl,by rfl,by rfl,rfl⟩ (pi_list (pv 6)) (fun _ _ _ _ _=>(pg_name (i:=0) (show(["pair"]:List Str).Nodup by decide+kernel) rfl (Or.inl rfl))) (fun _ _ _ _ _=>pf_nil) (fun _ _ _ _ _=>(pe_callTy (call_list_ofK (K:=K) rfl) (by rfl) T.list_ bt_list (pa_cons (pe_ix (ix_tupK (K:=K) rfl) (pv 0) pe_int (fun _ _=>rfl)) pa_nil)))) (pv 10) (nomark _)))))))))))))))),?_⟩
 have hsz:sizeLine=2^24:=rfl
 refine sq_asg (te_nest2 (te_cal (ea_cons (ev_var rfl) (ea_cons ev_c ea_nil)) ⟨a,ns,0,rfl,ha,by decide,fun v0=>?_⟩))
 refine⟨v0,rfl,fun H1 z L R C s1 hz1 szl=>?_⟩
 try dsimp only
 refine nrm (σ':=[some (.ref a),some (.ref z),none,none,none,none,none,none,none,none,none,none,none,none,none,none,none]) (by kernel_rfl) ?_
 have bL:=szl.l0
 have bL1:=szl.l1
 have bR:=szl.r0
 have bR1:=szl.r1
 have bC:=szl.c0
 have bC1:=szl.c1
 have szs:=szl.s
 refine sq_asg (te_cal (ea_cons (ev_var rfl) (ea_cons ev_c (ea_cons ev_c ea_nil))) ⟨a,ns,rfl,s1.seq ha,hle,fun H2 cl cs s2 ncl hcl lcs=>?_⟩)
 try dsimp only
 refine nrm (σ':=[some (.ref a),some (.ref z),some (.ref cl),none,none,none,none,none,none,none,none,none,none,none,none,none,none]) (by kernel_rfl) ?_
 have ha2:=(s1.trans s2).seq ha
 have hz2:=s2 _ _ hz1
 refine sq_lcT (te_op (te_cal (ea_cons (ev_var rfl) (ea_cons ev_c ea_nil)) ⟨a,ns,1,rfl,ha2,by decide,fun v1=>⟨v1,5,rfl,rfl,(by show(0:Int)<5;decide),v1%5,rfl,by omega,by omega,fun ro nro=>?_⟩⟩))
 refine lc_range (n:=(v1%5).toNat) (fun i τ H'=>∃(x0:Option V) (as:List Addr) (rs:List Sp3),τ=[x0,some (.ref z),some (.ref cl)]∧Same H2 H'∧H' ro=some (.lst (as.map V.ref))∧Spots H' as rs∧(∀q∈rs,Ins L R C q.1 q.2.1 q.2.2)∧as.length=i) ⟨none,[],[],rfl,(Same.refl H2).upd nro,upd_same,.nil,(fun _ h=>nomatch h),rfl⟩ ?_ ?_
 ·rintro i τ H' hi ⟨x0,as,rs,rfl,s3,hro,hspR,hin,hlen⟩
  have hi:i<(v1%5).toNat:=hi
  have lr:as.length=rs.length:=Paired.length hspR
  obtain⟨cc,ec,_⟩:=at_int (cs:=cs) (i:=30+(0+(i:Int))) (by omega) (by omega)
  refine gn (lc_el ?_)
  refine te_callA (ta_ev (ev_var rfl) (ta_ev (ev_ixL (v:=.int cc) (ev_var rfl) (ev_I0 ev_c (ev_var rfl)) (SqL.of (s3 _ _ hcl)) ec) (ta_ev ev_c ?_)))
  refine⟨z,L,R,C,cc,0,rfl,s3 _ _ hz2,szl,by decide,by decide,fun H3 t x y w s4 ht hx hy hw=>?_⟩
  have hro3:=s4 _ _ hro
  refine⟨_,hro3,by rw[List.length_map];omega,_,as++[t],rs++[(x,y,w)],rfl,same_at (s3.trans s4) nro,by rw[upd_same,List.map_append];rfl,?_,fun p hp=>?_,by rw[List.length_append,hlen];rfl⟩
  ·exact spots_app (spots_mono' (Spots.same hspR s4) (lst_up hro3)) (.cons (lst_up hro3 _ _ ht) .nil)
  ·rcases List.mem_append.mp hp with h|h
   ·exact hin p h
   ·rw[List.mem_singleton.mp h]
    exact⟨hx.1,hx.2,hy.1,by show y<R;omega,hw.1,by show w<C;omega⟩
 rintro τ H3 ⟨x0,as,rs,rfl,s3,hro,hspR,hin,hlen⟩
 have lr:as.length=rs.length:=Paired.length hspR
 have hlen5:as.length≤5:=by omega
 clear hlen
 try dsimp only
 refine nrm (σ':=[some (.ref a),some (.ref z),some (.ref cl),some (.ref ro),none,none,none,none,none,none,none,none,none,none,none,none,none]) (by kernel_rfl) ?_
 have ha3:=s3.seq ha2
 have hz3:=s3 _ _ hz2
 have hcl3:=s3 _ _ hcl
 refine sq_asg ⟨_,rfl,_,rfl,z,_,0,.int L,rfl,rfl,SqT.of hz3,rfl,L,rfl,by omega,by omega,fun D nD=>?_⟩
 refine lc_range (n:=L.toNat) (fun i τ H'=>∃(x0:Option V) (ps:List Addr),τ=[x0]∧Same H3 H'∧H' D=some (.lst (ps.map V.ref))∧ps.length=i∧∀b∈ps,H' b=some (.tup [.int 1,.int 1])) ⟨none,[],rfl,(Same.refl H3).upd nD,upd_same,rfl,(fun _ h=>nomatch h)⟩ ?_ ?_
 ·rintro i τ H' hi ⟨x0,ps,rfl,s,hD,hpl,hps⟩
  refine gn (lc_el ?_)
  refine⟨(by show 2≤sizeLine;decide),fun t nt=>?_⟩
  have ntD:t≠D:=Ne.symm (ne_of_none hD nt)
  have keep:∀b xs,H' b=some (.tup xs)→upd (upd H' t (.tup [.int 1,.int 1])) D (.lst (ps.map V.ref++[.ref t])) b=some (.tup xs):=fun b xs e=>by
   rw[upd_ne (ne_of e hD (fun z=>nomatch z)),upd_ne (ne_of_none e nt)];exact e
  refine⟨_,by rw[upd_ne (Ne.symm ntD)];exact hD,by rw[List.length_map];omega,_,ps++[t],rfl,same_at (s.upd nt) nD,by rw[upd_same,List.map_append];rfl,by rw[List.length_append];show ps.length+1=_;omega,fun b hb=>?_⟩
  rcases List.mem_append.mp hb with hb|hb
  ·exact keep _ _ (hps b hb)
  ·rw[List.mem_singleton.mp hb,upd_ne ntD,upd_same]
 rintro τ H4 ⟨x0,pps,rfl,s4,hD4,hpl,hps⟩
 refine⟨_,rfl,z,_,0,.int L,rfl,rfl,SqT.of (s4 _ _ hz3),rfl,_,_,rfl,rfl,L - 1,rfl,by omega,by omega,fun E nE=>?_⟩
 refine lc_range (n:=(L - 1).toNat) (fun i τ H'=>∃x0:Option V,τ=[x0]∧H'=upd H4 E (.lst (List.replicate i (.int 1)))) ⟨none,rfl,rfl⟩ ?_ ?_
 ·rintro i τ H' hi ⟨x0',rfl,rfl⟩
  refine gn (lc_el ?_)
  refine⟨_,upd_same,by rw[List.length_replicate];omega,_,rfl,?_⟩
  rw[upd_upd,List.replicate_succ']
 rintro τ H5' ⟨x0',rfl,rfl⟩
 have s5:Same H4 (upd H4 E (.lst (List.replicate (L - 1).toNat (.int 1)))):=(Same.refl H4).upd nE
 have hE5:(upd H4 E (.lst (List.replicate (L - 1).toNat (.int 1)))) E=some (.lst (List.replicate (L - 1).toNat (.int 1))):=upd_same
 revert s5 hE5
 generalize upd H4 E (.lst (List.replicate (L - 1).toNat (.int 1)))=H5
 intro s5 hE5
 have s35:=s4.trans s5
 have hpr:Prices H5 D E L:=⟨pps,(L - 1).toNat,s5 _ _ hD4,by omega,fun b hb=>s5 _ _ (hps b hb),hE5,by omega⟩
 refine⟨_,rfl,ro,_,rfl,.inl (SqL.of (s35 _ _ hro)),fun r2 nr2=>?_⟩
 have s6:Same H5 (upd H5 r2 (.lst (as.map V.ref))):=(Same.refl H5).upd nr2
 have hr6:(upd H5 r2 (.lst (as.map V.ref))) r2=some (.lst (as.map V.ref)):=upd_same
 revert s6 hr6
 generalize upd H5 r2 (.lst (as.map V.ref))=H6
 intro s6 hr6
 have s36:=s35.trans s6
 refine fun fp dx np ndx ne=>?_
 have s7:=same_make (C:=cFloor) np ndx
 refine⟨fp,dx,z,D,E,r2,L,R,C,as,rs,rfl,upd_same,s7 _ _ (s36 _ _ hz3),szs,(hpr.same s6).same s7,s7 _ _ hr6,hspR.same (s36.trans s7),hin,by omega,fun H7 b7 flo=>⟨rfl,?_⟩⟩
 have s37:Same H3 H7:=ButP.same (s36.trans s7) (s36.free np) b7
 have ha7:=s37.seq ha3
 have hz7:=s37 _ _ hz3
 have hcl7:=s37 _ _ hcl3
 have hro7:=s37 _ _ hro
 have hsp7:=Spots.same hspR s37
 clear b7 s7 hr6 s6 hpr hE5 s5 hD4 hps s4
 try dsimp only
 refine nrm (σ':=[some (.ref a),some (.ref z),some (.ref cl),some (.ref ro),some (.ref fp),none,none,none,none,none,none,none,none,none,none,none,none]) (by kernel_rfl) ?_
 refine sq_asg (te_callA (ta_ev ev_c (ta_one (te_cal (ea_cons (ev_var rfl) (ea_cons ev_c ea_nil)) ⟨a,ns,7,rfl,ha7,by decide,fun v7=>ta_ev (ev_var rfl) (ta_ev ev_c ?_)⟩))))
 refine⟨z,_,L,R,C,v7,5,rfl,mine_ok,hz7,szl,fun H8 t g s8 tg og ge2 gnd=>?_⟩
 try dsimp only
 refine nrm (σ':=[some (.ref a),some (.ref z),some (.ref cl),some (.ref ro),some (.ref fp),some (.ref t),none,none,none,none,none,none,none,none,none,none,none]) (by kernel_rfl) ?_
 have fl8:=flo.same s8
 have hz8:=s8 _ _ hz7
 have ha8:=s8.seq ha7
 have hcl8:=s8 _ _ hcl7
 have hro8:=s8 _ _ hro7
 have hsp8:=Spots.same hsp7 s8
 clear ha7 hz7 hcl7 hro7 hsp7 s8
 refine sq_lst (vs:=[]) ea_nil (by show 0≤sizeLine;decide) fun ol nol=>?_
 have s9:Same H8 (upd H8 ol (.lst [])):=(Same.refl H8).upd nol
 have hol9:(upd H8 ol (.lst [])) ol=some (.lst (([]:List Addr).map V.ref)):=upd_same
 revert s9 hol9
 generalize upd H8 ol (.lst [])=H9
 intro s9 hol9
 try dsimp only
 refine nrm (σ':=[some (.ref a),some (.ref z),some (.ref cl),some (.ref ro),some (.ref fp),some (.ref t),some (.ref ol),none,none,none,none,none,none,none,none,none,none]) (by kernel_rfl) ?_
 refine sq_forL (te_cal (ea_cons (ev_var rfl) (ea_cons (ev_var rfl) (ea_cons (ev_var rfl) ea_nil))) ⟨a,z,cl,ns,cs,L,R,C,rfl,s9.seq ha8,s9 _ _ hz8,szl,s9 _ _ hcl8,lcs,fun H10 lo ls ows s10 nlo hlo hpw owk ow3=>⟨lo,rfl,⟨_,SqL.of hlo⟩,?_⟩⟩)
 have hol10:=s10 _ _ hol9
 have lls:ls.length=ows.length:=Paired.length hpw
 have s810:=s9.trans s10
 have nlo':lo≠ol:=fun e=>by rw[e,hol9] at nlo;cases nlo
 refine for_list (K:=K) (xs:=ls.map V.ref) (fun i σ H'=>∃(x7 x8 x9:Option V) (os:List Ot) (oa:List Addr),σ=[some (.ref a),some (.ref z),some (.ref cl),some (.ref ro),some (.ref fp),some (.ref t),some (.ref ol),x7,x8,x9,none,none,none,none,none,none,none]∧Same H8 H'∧H' lo=some (.lst (ls.map V.ref))∧Paired (fun a o=>OWf H9 cNet cBundle H' a o) ls ows∧H' ol=some (.lst (oa.map V.ref))∧Paired (fun a o=>OAn ol cNet cBundle H' a o) oa os∧(∀o∈os,OtOk o)∧os.length=i) ⟨none,none,none,[],[],rfl,s810,hlo,hpw,hol10,.nil,(fun _ h=>nomatch h),rfl⟩ (fun i σ H' hi ⟨_,_,_,_,_,_,s,e,_⟩=>SqL.of e) ?_ ?_
 ·rintro i x σ H11 hx ⟨x7,x8,x9,os,oa,rfl,s11,hlo11,hpw11,hol11,hpo11,ook,hlen⟩
  obtain⟨b,hb,rfl⟩:=at_ref hx
  obtain⟨o,ho,p,v,hap,to,wa,frs⟩:=paired_at hpw11 hb
  have ok:=owk o (List.mem_of_getElem? ho)
  have hio:=lt_of_get ho
  have loa:oa.length=os.length:=Paired.length hpo11
  have e2:=ok.e2
  refine gn ?_
  refine sq_asg (te_cal (ea_cons (ev_ixT (v:=.ref p) (ev_var rfl) ev_c (SqT.of hap) rfl) (ea_cons (ev_ixT (v:=v) (ev_var rfl) ev_c (SqT.of hap) rfl) ea_nil)) ⟨p,v,o.1,o.2,rfl,to,ok.g,by omega,ok.nd,by omega,wa,ok.w,fun H12 m ds s12 nm am srt mem=>?_⟩)
  try dsimp only
  refine nrm (σ':=[some (.ref a),some (.ref z),some (.ref cl),some (.ref ro),some (.ref fp),some (.ref t),some (.ref ol),some (.ref b),some (.ref m),x9,none,none,none,none,none,none,none]) (by kernel_rfl) ?_
  refine sq_asg (te_cal (ea_cons (ev_ixT (v:=.ref p) (ev_var rfl) ev_c (SqT.of (s12 _ _ hap)) rfl) (ea_cons (ev_ixT (v:=v) (ev_var rfl) ev_c (SqT.of (s12 _ _ hap)) rfl) ea_nil)) ⟨p,v,o.1,o.2,rfl,to.same s12,ok.g,by omega,ok.nd,by omega,wa.same s12,ok.w,fun H13 m2 ds2 s13 nm2 am2 srt2 mem2=>?_⟩)
  try dsimp only
  refine nrm (σ':=[some (.ref a),some (.ref z),some (.ref cl),some (.ref ro),some (.ref fp),some (.ref t),some (.ref ol),some (.ref b),some (.ref m),some (.ref m2),none,none,none,none,none,none,none]) (by kernel_rfl) ?_
  have eds:ds2=ds:=srt_uniq srt2 srt fun c=>by rw[mem2,mem]
  subst eds
  have s1113:=s12.trans s13
  have am13:=am.same s13
  obtain⟨ma,hm,hmt⟩:=am13
  obtain⟨ma2,hm2,hmt2⟩:=am2
  refine sq_ifF (b:=false) (et_of (et_or (a:=false) (b:=false) (et_not (b:=true) (et_B (ev_cb (v:=.bl true) (ea_cons (ev_var rfl) (ea_cons ev_c ea_nil)) fun Q' q'=>⟨_,_,_,_,_,rfl,.ty "list",.lst hm2,T.ll,q'⟩))) fun _=>et_test (ev_neDs (ev_var rfl) (ev_var rfl) (dp_row (K:=K) hm2 hmt2) (dp_row (K:=K) hm hmt) depth_row)) rfl) rfl ?_
  refine rd_drop (te_bm (ev_var rfl) (.inl ⟨rfl,_,SqL.of (s1113 _ _ hol11)⟩) (ta_one (te_tup (vs:=[.ref p,.ref m]) (ea_cons (ev_ixT (v:=.ref p) (ev_var rfl) ev_c (SqT.of (s1113 _ _ hap)) rfl) (ea_cons (ev_var rfl) ea_nil)) (by show 2≤sizeLine;decide) fun tt ntt=>?_)))
  have s14:Same H13 (upd H13 tt (.tup [.ref p,.ref m])):=(Same.refl H13).upd ntt
  have htt:upd H13 tt (.tup [.ref p,.ref m]) tt=some (.tup [.ref p,.ref m]):=upd_same
  revert s14 htt
  generalize upd H13 tt (.tup [.ref p,.ref m])=H14
  intro s14 htt
  have s1114:=s1113.trans s14
  have hol14:=s1114 _ _ hol11
  have hm14:=s14 _ _ hm
  have nmo:m≠ol:=fun e=>by rw[e,hol11] at nm;cases nm
  refine⟨ol,_,_,rfl,rfl,hol14,by rw[List.length_map];omega,?_⟩
  refine⟨_,_,_,os++[(o.1,ds2)],oa++[tt],rfl,same_at (s11.trans s1114) nol,by rw[upd_ne nlo'];exact s1114 _ _ hlo11,Paired.mapP hpw11 fun a o e=>owf_upd (e.same s1114) hol9 hol14,by rw[upd_same,List.map_append];rfl,?_,fun o' ho'=>?_,by rw[List.length_append,hlen];rfl⟩
  ·exact paired_snoc (oan_upd ⟨p,m,htt,to.same s1114,⟨ma,hm14,Tups.same hmt s14⟩,nmo⟩ hol14) (Paired.mapP hpo11 fun a o e=>oan_upd (e.same s1114) hol14)
  ·rcases List.mem_append.mp ho' with h|h
   ·exact ook o' h
   ·rw[List.mem_singleton.mp h]
    have h7:=hsp7 ok.g ok.w
    have n18:=nd_len (srt_nd srt) (ys:=hsp o.1 o.2) fun x hx=>(mem x).mp hx
    have lhs:(hsp o.1 o.2).length=o.1.es.length+2*o.2.length:=by unfold hsp;rw[List.length_append,wsp_len]
    have w8:=ok.w.n
    exact⟨ok.g,fun c hc=>h7 c ((mem c).mp hc),by show ds2.length≤18;omega⟩
 rintro σ H11 ⟨x7,x8,x9,os,oa,rfl,s11,hlo11,hpw11,hol11,hpo11,ook,hlen⟩
 rw[List.length_map] at hlen
 have oo:OsOk os:=⟨ook,by omega⟩
 have hOL:OL cNet cBundle H11 ol os:=⟨oa,hol11,Paired.mapP hpo11 fun a o ⟨p,m,h1,h2,h3,_⟩=>⟨p,m,h1,h2,h3⟩⟩
 have fl11:=fl8.same s11
 have hz11:=s11 _ _ hz8
 have hro11:=s11 _ _ hro8
 have hsp11:=Spots.same hsp8 s11
 have tg11:=tg.same s11
 clear hpo11 hpw11 hlo11 s11 hpw hlo s810 hol10 s10 hol9 s9 hlen
 refine st ?_
 refine⟨_,rfl,ol,rfl,⟨_,SqL.of hol11⟩,fun cp ncp=>?_⟩
 refine lc_rows hOL oo ncp fun H12 s12 hra=>?_
 try dsimp only
 refine nrm (σ':=[some (.ref a),some (.ref z),some (.ref cl),some (.ref ro),some (.ref fp),some (.ref t),some (.ref ol),x7,x8,x9,some (.ref cp),none,none,none,none,none,none]) (by kernel_rfl) ?_
 have hOL12:=hOL.same s12
 have fl12:=fl11.same s12
 have hz12:=s12 _ _ hz11
 have hro12:=s12 _ _ hro11
 have hsp12:=Spots.same hsp11 s12
 have tg12:=tg11.same s12
 clear fl11 hz11 hro11 hsp11 tg11 ncp
 refine sq_lst (vs:=[]) ea_nil (by show 0≤sizeLine;decide) fun fl nfl=>?_
 have s13:Same H12 (upd H12 fl (.lst [])):=(Same.refl H12).upd nfl
 have hfl13:upd H12 fl (.lst []) fl=some (.lst (([]:List Addr).map V.ref)):=upd_same
 revert s13 hfl13
 generalize upd H12 fl (.lst [])=H13
 intro s13 hfl13
 try dsimp only
 refine nrm (σ':=[some (.ref a),some (.ref z),some (.ref cl),some (.ref ro),some (.ref fp),some (.ref t),some (.ref ol),x7,x8,x9,some (.ref cp),some (.ref fl),none,none,none,none,none]) (by kernel_rfl) ?_
 obtain⟨Ln,rfl⟩:=Int.eq_ofNat_of_zero_le (show 0≤L by omega)
 obtain⟨Rn,rfl⟩:=Int.eq_ofNat_of_zero_le (show 0≤R by omega)
 obtain⟨Cn,rfl⟩:=Int.eq_ofNat_of_zero_le (show 0≤C by omega)
 obtain⟨P0,hP0⟩:∃P0,frB (Ln:Int) (Rn:Int) (Cn:Int) rs g os=P0:=⟨_,rfl⟩
 have h0:=og.h0
 refine sq_rng1 (j:=(Ln:Nat)) (ea_cons (ev_ixT (v:=.int (Ln:Nat)) (ev_var rfl) ev_c (SqT.of (s13 _ _ hz12)) rfl) ea_nil) (by omega) (by omega) ?_
 refine for_range (n:=((Ln:Nat):Int).toNat) (fun i σ H'=>∃(x8 x9 y12 y13 y14 y15:Option V) (fa:List Addr),σ=[some (.ref a),some (.ref z),some (.ref cl),some (.ref ro),some (.ref fp),some (.ref t),some (.ref ol),x7,x8,x9,some (.ref cp),some (.ref fl),y12,y13,y14,y15,none]∧Same H12 H'∧H' fl=some (.lst (fa.map V.ref))∧Spots H' fa ((gr i (Rn+1) (Cn+1)).filter P0)∧fa.length≤100*i) ⟨_,_,none,none,none,none,[],rfl,s13,hfl13,.nil,Nat.le_refl _⟩ ?_ ?_
 ·rintro i σ H14 hi ⟨x8,x9,y12,y13,y14,y15,fa,rfl,s14,hfl14,hfa14,lfa⟩
  have hi:i<((Ln:Nat):Int).toNat:=hi
  refine gn ?_
  refine rd_rng1 (j:=(Rn:Nat)+1) (ea_cons (ev_I0 (ev_ixT (v:=.int (Rn:Nat)) (ev_var rfl) ev_c (SqT.of (s14 _ _ hz12)) rfl) ev_c) ea_nil) (by omega) (by omega) ?_
  refine for_range (n:=(((Rn:Nat):Int)+1).toNat) (fun j σ H'=>∃(x8 x9 y13 y14 y15:Option V) (fa:List Addr),σ=[some (.ref a),some (.ref z),some (.ref cl),some (.ref ro),some (.ref fp),some (.ref t),some (.ref ol),x7,x8,x9,some (.ref cp),some (.ref fl),some (.int (0+(i:Int))),y13,y14,y15,none]∧Same H12 H'∧H' fl=some (.lst (fa.map V.ref))∧Spots H' fa ((gr i (Rn+1) (Cn+1)++rowG i (Cn+1) j).filter P0)∧fa.length≤100*i+10*j) ⟨_,_,_,_,_,fa,rfl,s14,hfl14,by unfold rowG;rw[List.range_zero,List.flatMap_nil,List.append_nil];exact hfa14,by omega⟩ ?_ ?_
  ·clear hfl14 hfa14 lfa
   rintro j σ H15 hj ⟨x8,x9,y13,y14,y15,fa,rfl,s15,hfl15,hfa15,lfa⟩
   have hj:j<(((Rn:Nat):Int)+1).toNat:=hj
   refine gn ?_
   refine rd_rng1 (j:=(Cn:Nat)+1) (ea_cons (ev_I0 (ev_ixT (v:=.int (Cn:Nat)) (ev_var rfl) ev_c (SqT.of (s15 _ _ hz12)) rfl) ev_c) ea_nil) (by omega) (by omega) ?_
   refine for_range (n:=(((Cn:Nat):Int)+1).toNat) (fun k σ H'=>∃(x8 x9 y14 y15:Option V) (fa:List Addr),σ=[some (.ref a),some (.ref z),some (.ref cl),some (.ref ro),some (.ref fp),some (.ref t),some (.ref ol),x7,x8,x9,some (.ref cp),some (.ref fl),some (.int (0+(i:Int))),some (.int (0+(j:Int))),y14,y15,none]∧Same H12 H'∧H' fl=some (.lst (fa.map V.ref))∧Spots H' fa ((gr i (Rn+1) (Cn+1)++rowG i (Cn+1) j++celG i j k).filter P0)∧fa.length≤100*i+10*j+k) ⟨_,_,_,_,fa,rfl,s15,hfl15,by unfold celG;rw[List.range_zero,List.map_nil,List.append_nil];exact hfa15,by omega⟩ ?_ ?_
   ·clear hfl15 hfa15 lfa
    rintro k σ H16 hk ⟨x8,x9,y14,y15,fa,rfl,s16,hfl16,hfa16,lfa⟩
    have hk:k<(((Cn:Nat):Int)+1).toNat:=hk
    refine gn ?_
    refine sq_tup (vs:=tp ((i:Int),(j:Int),(k:Int))) (ea_cons (ev_of (ev_var rfl) (by rw[Int.zero_add])) (ea_cons (ev_of (ev_var rfl) (by rw[Int.zero_add])) (ea_cons (ev_of (ev_var rfl) (by rw[Int.zero_add])) ea_nil))) (by show 3≤sizeLine;decide) fun sp nsp=>?_
    have s17:Same H12 (upd H16 sp (.tup (tp ((i:Int),(j:Int),(k:Int))))):=s16.upd nsp
    have hsp17:upd H16 sp (.tup (tp ((i:Int),(j:Int),(k:Int)))) sp=some (.tup (tp ((i:Int),(j:Int),(k:Int)))):=upd_same
    have hfl17:upd H16 sp (.tup (tp ((i:Int),(j:Int),(k:Int)))) fl=some (.lst (fa.map V.ref)):=by rw[upd_ne (ne_of_none hfl16 nsp)];exact hfl16
    have hfa17:=Spots.same hfa16 ((Same.refl H16).upd nsp (o:=.tup (tp ((i:Int),(j:Int),(k:Int)))))
    revert s17 hsp17 hfl17 hfa17
    generalize upd H16 sp (.tup (tp ((i:Int),(j:Int),(k:Int))))=H17
    intro s17 hsp17 hfl17 hfa17
    clear hfl16 hfa16
    have u7:Sp7 (t3 ((i:Int),(j:Int),(k:Int))):=⟨(i:Int),(j:Int),(k:Int),rfl,by omega,by omega,by omega⟩
    obtain⟨u,hu⟩:∃u:Sp3,((i:Int),(j:Int),(k:Int))=u:=⟨_,rfl⟩
    have u1:0≤u.1∧u.1<(Ln:Int):=by rw[←hu];exact⟨by show(0:Int)≤(i:Int);omega,by show(i:Int)<(Ln:Int);omega⟩
    rw[hu] at hsp17 u7
    try dsimp only
    refine nrm (σ':=[some (.ref a),some (.ref z),some (.ref cl),some (.ref ro),some (.ref fp),some (.ref t),some (.ref ol),x7,x8,x9,some (.ref cp),some (.ref fl),some (.int (0+(i:Int))),some (.int (0+(j:Int))),some (.int (0+(k:Int))),some (.ref sp),none]) (by kernel_rfl) ?_
    refine sq_asg (te_cal (ea_cons (ev_var rfl) (ea_cons (ev_var rfl) (ea_cons (ev_var rfl) (ea_cons (ev_var rfl) (ea_cons (ev_var rfl) ea_nil))))) ⟨z,ro,t,ol,sp,as,_,_,_,rs,g,os,u,rfl,s17 _ _ hz12,s17 _ _ hro12,Spots.same hsp12 s17,tg12.same s17,og,hOL12.same s17,oo,hsp17,u7,u1,fun H18 m s18 hm=>?_⟩)
    try dsimp only
    refine nrm (σ':=[some (.ref a),some (.ref z),some (.ref cl),some (.ref ro),some (.ref fp),some (.ref t),some (.ref ol),x7,some (.ref m),x9,some (.ref cp),some (.ref fl),some (.int (0+(i:Int))),some (.int (0+(j:Int))),some (.int (0+(k:Int))),some (.ref sp),none]) (by kernel_rfl) ?_
    have s1218:=s17.trans s18
    refine sq_asg (te_cal (ea_cons (ev_var rfl) (ea_cons (ev_var rfl) (ea_cons (ev_var rfl) (ea_cons (ev_var rfl) ea_nil)))) ⟨fp,t,ol,sp,_,_,_,rs,g,os,u,rfl,fl12.same s1218,szs,tg12.same s1218,og,hOL12.same s1218,oo,s18 _ _ hsp17,u7,fun H19 m2 s19 hm2=>?_⟩)
    try dsimp only
    refine nrm (σ':=[some (.ref a),some (.ref z),some (.ref cl),some (.ref ro),some (.ref fp),some (.ref t),some (.ref ol),x7,some (.ref m),some (.ref m2),some (.ref cp),some (.ref fl),some (.int (0+(i:Int))),some (.int (0+(j:Int))),some (.int (0+(k:Int))),some (.ref sp),none]) (by kernel_rfl) ?_
    have s1219:=s1218.trans s19
    have hm19:=s19 _ _ hm
    have hbn:=bar_nil (L:=(Ln:Int)) (R:=(Rn:Int)) (C:=(Cn:Int)) (rs:=rs) (os:=os) (q:=u) h0
    have hbs:=bar_strOk (L:=(Ln:Int)) (R:=(Rn:Int)) (C:=(Cn:Int)) (rs:=rs) (g:=g) (q:=u) oo
    rw[hP0] at hbn
    generalize barS (Ln:Int) (Rn:Int) (Cn:Int) rs g os u=bs at hm19 hm2 hbn hbs
    refine sq_ifF (b:=false) (et_of (et_or (a:=false) (b:=false) (et_not (b:=true) (et_B (ev_cb (v:=.bl true) (ea_cons (ev_var rfl) (ea_cons ev_c ea_nil)) fun Q' q'=>⟨_,_,_,_,_,rfl,.ty "list",.lst hm2,T.ll,q'⟩))) fun _=>et_test (ev_neDs (ev_var rfl) (ev_var rfl) (.lst (SqL.of hm2) (dps_strs hbs)) (.lst (SqL.of hm19) (dps_strs hbs)) depth_strs)) rfl) rfl ?_
    have hfl19:=s19 _ _ (s18 _ _ hfl17)
    have hfa19:=Spots.same hfa17 (s18.trans s19)
    have hsp19:=s19 _ _ (s18 _ _ hsp17)
    have ecel:celG i j (k+1)=celG i j k++[u]:=by unfold celG;rw[List.range_succ,List.map_append,←hu];rfl
    refine rd_if (et_test (ev_eqI (ev_cb (v:=.int (bs.length:Nat)) (ea_cons (ev_var rfl) ea_nil) fun Q' q'=>⟨_,_,rfl,.inl ⟨_,SqL.of hm19,(by rw[List.length_map])⟩,q'⟩) ev_c)) (fun e=>?_) (fun e=>?_)
    ·have e':bs=[]:=List.eq_nil_of_length_eq_zero (by have:=of_decide_eq_true e;omega)
     have eP:=hbn.mp e'
     refine rd_drop (te_bm (ev_var rfl) (.inl ⟨rfl,_,SqL.of hfl19⟩) (ta_ev (ev_var rfl) ⟨fl,_,_,rfl,rfl,hfl19,by rw[List.length_map];omega,?_⟩))
     refine⟨_,_,_,_,fa++[sp],rfl,same_at s1219 nfl,by rw[upd_same,List.map_append];rfl,?_,by rw[List.length_append];show fa.length+1≤_;omega⟩
     rw[ecel,←List.append_assoc,List.filter_append,List.filter_cons_of_pos eP,List.filter_nil]
     exact spots_app (spots_mono' hfa19 (lst_up hfl19)) (.cons (lst_up hfl19 _ _ hsp19) .nil)
    ·have eP:P0 u=false:=by
      cases e':P0 u with
      |false=>rfl
      |true=>have:=hbn.mpr e';rw[this] at e;exact absurd e (by decide)
     refine⟨_,_,_,_,fa,rfl,s1219,hfl19,?_,by omega⟩
     rw[ecel,←List.append_assoc,List.filter_append,List.filter_cons_of_neg (by rw[eP];decide),List.filter_nil,List.append_nil]
     exact hfa19
   ·rintro σ H16 ⟨x8,x9,y14,y15,fa,rfl,s16,hfl16,hfa16,lfa⟩
    refine⟨_,_,_,_,_,fa,rfl,s16,hfl16,?_,by omega⟩
    have e1:(((Cn:Nat):Int)+1).toNat=Cn+1:=by omega
    rw[e1] at hfa16
    have e2:rowG i (Cn+1) (j+1)=rowG i (Cn+1) j++celG i j (Cn+1):=by unfold rowG celG;rw[List.range_succ (n:=j),List.flatMap_append,List.flatMap_cons,List.flatMap_nil,List.append_nil]
    rw[e2,←List.append_assoc];exact hfa16
  ·rintro σ H15 ⟨x8,x9,y13,y14,y15,fa,rfl,s15,hfl15,hfa15,lfa⟩
   refine⟨_,_,_,_,_,_,fa,rfl,s15,hfl15,?_,by omega⟩
   have e1:(((Rn:Nat):Int)+1).toNat=Rn+1:=by omega
   rw[e1] at hfa15
   have e2:gr (i+1) (Rn+1) (Cn+1)=gr i (Rn+1) (Cn+1)++rowG i (Cn+1) (Rn+1):=by unfold gr rowG;rw[List.range_succ (n:=i),List.flatMap_append,List.flatMap_cons,List.flatMap_nil,List.append_nil]
   rw[e2];exact hfa15
 rintro σ H14 ⟨x8,x9,y12,y13,y14,y15,fa,rfl,s14,hfl14,hfa14,lfa⟩
 rw[show((Ln:Nat):Int).toNat=Ln by omega] at hfa14 lfa
 refine st ?_
 refine sq_asg (te_cal (ea_cons (ev_var rfl) (ea_cons (ev_var rfl) (ea_cons (ev_var rfl) ea_nil))) ⟨fp,t,ol,_,_,_,rs,g,os,rfl,fl12.same s14,szs,tg12.same s14,og,hOL12.same s14,oo,fun H15 d s15 hd=>?_⟩)
 try dsimp only
 refine nrm (σ':=[some (.ref a),some (.ref z),some (.ref cl),some (.ref ro),some (.ref fp),some (.ref t),some (.ref ol),x7,x8,x9,some (.ref cp),some (.ref fl),y12,y13,y14,y15,some (.ref d)]) (by kernel_rfl) ?_
 have efr:(gr3 (Rn:Int) (Cn:Int) ((Ln:Int)*(Rn:Int)*(Cn:Int)).toNat).filter (frB (Ln:Int) (Rn:Int) (Cn:Int) rs g os)=(gr Ln (Rn+1) (Cn+1)).filter P0:=by
  rw[show((Ln:Int)*(Rn:Int)*(Cn:Int)).toNat=Ln*Rn*Cn by rw[←Int.natCast_mul,←Int.natCast_mul];rfl,gr3_eq Ln Rn Cn (by omega) (by omega),hP0,gr_more fun l r c hp=>?_]
  rw[←hP0] at hp
  obtain⟨_,_,_,i4,_,i6⟩:=fr_in h0 hp
  exact⟨by have:(r:Int)<(Rn:Int):=i4;omega,by have:(c:Int)<(Cn:Int):=i6;omega⟩
 rw[efr] at hd
 have lfr:((gr Ln (Rn+1) (Cn+1)).filter P0).length=fa.length:=(Paired.length hfa14).symm
 generalize (gr Ln (Rn+1) (Cn+1)).filter P0=fr at hd hfa14 lfr
 have s1215:=s14.trans s15
 have hfl15:=s15 _ _ hfl14
 have hfa15:=Spots.same hfa14 s15
 clear hfl14 hfa14 efr
 refine sq_ifof (or_F (et_not (et_B (ev_cb (v:=.bl true) (ea_cons (ev_var rfl) (ea_cons ev_c ea_nil)) fun Q' q'=>⟨_,_,_,_,_,rfl,.ty "dict",.dT hd,T.dd,q'⟩))) rfl ?_)
 have lkv:szU (.dT (kv fr))=fr.length:=by show(kv fr).length=_;unfold kv;rw[List.length_map]
 refine or_raw (et_raw (te_op (te_cb1 (te_use (ev_var rfl) ⟨d,_,rfl,hd,trivial,trivial,by rw[lkv];omega,fun lg ys nlg hyl hyk=>te_use (ev_var rfl) ?_⟩))))
 obtain⟨ya,rfl,hya⟩:=key_spots (by rw[hyl,lkv]) hyk
 have s16:Same H15 (upd H15 lg (.lst (ya.map V.ref))):=(Same.refl H15).upd nlg
 have hlg:upd H15 lg (.lst (ya.map V.ref)) lg=some (.lst (ya.map V.ref)):=upd_same
 revert s16 hlg
 generalize upd H15 lg (.lst (ya.map V.ref))=H16
 intro s16 hlg
 have dd1:=dp_spots (K:=K) hlg (Spots.same hya s16)
 refine⟨_,_,dd1,dp_spots (K:=K) (s16 _ _ hfl15) (Spots.same hfa15 s16),depth_row,_,rfl,?_⟩
 rw[eqv_same dd1]
 refine iteF ?_
 have hfl16:=s16 _ _ hfl15
 have hfa16:=Spots.same hfa15 s16
 have hd16:=s16 _ _ hd
 refine⟨_,rfl,fl,rfl,⟨_,SqL.of hfl16⟩,fun D2 nD2=>?_⟩
 refine lc_listG (K:=K) (xs:=fa.map V.ref) (fun i τ H'=>∃x0:Option V,τ=[x0,some (.ref d)]∧H'=upd H16 D2 (.lst ((List.replicate i true).map V.bl))) ⟨none,rfl,rfl⟩ (fun i τ H' _ ⟨_,_,e⟩=>SqL.of (by rw[e,upd_ne (ne_of_none hfl16 nD2)];exact hfl16)) ?_ ?_
 ·rintro i x τ H' hx ⟨x0,rfl,rfl⟩
  obtain⟨b,hb,rfl⟩:=at_ref hx
  obtain⟨u,hu,hub⟩:=paired_at hfa16 hb
  have hib:=lt_of_get hb
  have sD:Same H16 (upd H16 D2 (.lst ((List.replicate i true).map V.bl))):=(Same.refl H16).upd nD2
  refine gn (lc_el ?_)
  have dg:=DGet.t (k:=k3 u) (sD _ _ hd16) (sD _ _ hub)
  rw[val_kv (List.mem_of_getElem? hu)] at dg
  refine te_op (te_use (ev_dget (ev_var rfl) (ev_var rfl) dg) (te_use ev_c ⟨true,true,rfl,rfl,?_⟩))
  refine⟨_,upd_same,by rw[List.length_map,List.length_replicate];omega,_,rfl,?_⟩
  rw[upd_upd,List.replicate_succ',List.map_append];rfl
 rintro τ H17 ⟨x0,rfl,rfl⟩
 have e:(List.replicate (fa.map V.ref).length true).all id=true:=by rw[List.all_eq_true];intro b hb;rw[List.eq_of_mem_replicate hb];rfl
 refine⟨D2,_,rfl,SqL.of upd_same,_,rfl,?_⟩
 rw[e]
 refine iteF ?_
 have s17:Same H16 (upd H16 D2 (.lst ((List.replicate (fa.map V.ref).length true).map V.bl))):=(Same.refl H16).upd nD2
 revert s17
 generalize upd H16 D2 (.lst ((List.replicate (fa.map V.ref).length true).map V.bl))=H17
 intro s17
 have s1217:=s1215.trans (s16.trans s17)
 have hOL17:=hOL12.same s1217
 have hol17:=s1217 _ _ (s12 _ _ hol11)
 refine rd_te (te_op ?_)
 refine⟨_,rfl,ol,rfl,⟨_,SqL.of hol17⟩,fun D3 nD3=>?_⟩
 refine lc_rows hOL17 oo nD3 fun H18 s18 hra18=>te_use (ev_var rfl) ?_
 have dr1:=dp_rows (K:=K) hra18
 refine⟨_,_,dr1,dp_rows (K:=K) (hra.same (s1217.trans s18)),depth_rows,?_⟩
 rw[eqv_refl dr1.lay]
 exact q _
end
set_option maxHeartbeats 2000000 in
theorem all_mk {l:PySem.W.OpenLaw}{w:World}{K:PySem.W.Frag}{h:Heap}{mg:Str→Option Value}{fa:Addr}(X:K.In h)(G:h.Ns mainGlobals mg)(hfa:mg "law" =some (.ref fa))
  {cThing:Addr}
  {cNet:Addr}
  {cBundle:Addr}
  {cFloor:Addr}
  {cMS:Addr}
  {f0:Addr} {od0 an0:Option Addr} {sl0:Array (Option Value)} {oc0 kV0 dc0 pm0 cd0 ct0:Value}
  {f1:Addr} {od1 an1:Option Addr} {sl1:Array (Option Value)} {oc1 kV1 dc1 pm1 cd1 ct1:Value}
  {f2:Addr} {od2 an2:Option Addr} {sl2:Array (Option Value)} {oc2 kV2 dc2 pm2 cd2 ct2:Value}
  {f3:Addr} {od3 an3:Option Addr} {sl3:Array (Option Value)} {oc3 kV3 dc3 pm3 cd3 ct3:Value}
  {f4:Addr} {od4 an4:Option Addr} {sl4:Array (Option Value)} {oc4 kV4 dc4 pm4 cd4 ct4:Value}
  {f5:Addr} {od5 an5:Option Addr} {sl5:Array (Option Value)} {oc5 kV5 dc5 pm5 cd5 ct5:Value}
  {f6:Addr} {od6 an6:Option Addr} {sl6:Array (Option Value)} {oc6 kV6 dc6 pm6 cd6 ct6:Value}
  {f7:Addr} {od7 an7:Option Addr} {sl7:Array (Option Value)} {oc7 kV7 dc7 pm7 cd7 ct7:Value}
  {f8:Addr} {od8 an8:Option Addr} {sl8:Array (Option Value)} {oc8 kV8 dc8 pm8 cd8 ct8:Value}
  {T8:Addr} {do8:Option Addr} {ds8:Array (Option Value)} {dq8:Value} {dn8:Nat}
  {f9:Addr} {od9 an9:Option Addr} {sl9:Array (Option Value)} {oc9 kV9 dc9 pm9 cd9 ct9:Value}
  {f10:Addr} {od10 an10:Option Addr} {sl10:Array (Option Value)} {oc10 kV10 dc10 pm10 cd10 ct10:Value}
  {f11:Addr} {od11 an11:Option Addr} {sl11:Array (Option Value)} {oc11 kV11 dc11 pm11 cd11 ct11:Value}
  {f12:Addr} {od12 an12:Option Addr} {sl12:Array (Option Value)} {oc12 kV12 dc12 pm12 cd12 ct12:Value}
  {f13:Addr} {od13 an13:Option Addr} {sl13:Array (Option Value)} {oc13 kV13 dc13 pm13 cd13 ct13:Value}
  {f14:Addr} {od14 an14:Option Addr} {sl14:Array (Option Value)} {oc14 kV14 dc14 pm14 cd14 ct14:Value}
  {T14:Addr} {do14:Option Addr} {ds14:Array (Option Value)} {dq14:Value} {dn14:Nat} {dt14_0:Tok} {dt14_1:Tok}
  {f15:Addr} {od15 an15:Option Addr} {sl15:Array (Option Value)} {oc15 kV15 dc15 pm15 cd15 ct15:Value}
  {f16:Addr} {od16 an16:Option Addr} {sl16:Array (Option Value)} {oc16 kV16 dc16 pm16 cd16 ct16:Value}
  {T16:Addr} {do16:Option Addr} {ds16:Array (Option Value)} {dq16:Value} {dn16:Nat} {dt16_0:Tok}
  {f17:Addr} {od17 an17:Option Addr} {sl17:Array (Option Value)} {oc17 kV17 dc17 pm17 cd17 ct17:Value}
  {f18:Addr} {od18 an18:Option Addr} {sl18:Array (Option Value)} {oc18 kV18 dc18 pm18 cd18 ct18:Value}
  {f19:Addr} {od19 an19:Option Addr} {sl19:Array (Option Value)} {oc19 kV19 dc19 pm19 cd19 ct19:Value}
  {f20:Addr} {od20 an20:Option Addr} {sl20:Array (Option Value)} {oc20 kV20 dc20 pm20 cd20 ct20:Value}
  {f21:Addr} {od21 an21:Option Addr} {sl21:Array (Option Value)} {oc21 kV21 dc21 pm21 cd21 ct21:Value}
  {f22:Addr} {od22 an22:Option Addr} {sl22:Array (Option Value)} {oc22 kV22 dc22 pm22 cd22 ct22:Value}
  {f23:Addr} {od23 an23:Option Addr} {sl23:Array (Option Value)} {oc23 kV23 dc23 pm23 cd23 ct23:Value}
  {f24:Addr} {od24 an24:Option Addr} {sl24:Array (Option Value)} {oc24 kV24 dc24 pm24 cd24 ct24:Value}
  {f25:Addr} {od25 an25:Option Addr} {sl25:Array (Option Value)} {oc25 kV25 dc25 pm25 cd25 ct25:Value}
  {f26:Addr} {od26 an26:Option Addr} {sl26:Array (Option Value)} {oc26 kV26 dc26 pm26 cd26 ct26:Value}
  {f27:Addr} {od27 an27:Option Addr} {sl27:Array (Option Value)} {oc27 kV27 dc27 pm27 cd27 ct27:Value}
  {f28:Addr} {od28 an28:Option Addr} {sl28:Array (Option Value)} {oc28 kV28 dc28 pm28 cd28 ct28:Value}
  {f29:Addr} {od29 an29:Option Addr} {sl29:Array (Option Value)} {oc29 kV29 dc29 pm29 cd29 ct29:Value}
  {f30:Addr} {od30 an30:Option Addr} {sl30:Array (Option Value)} {oc30 kV30 dc30 pm30 cd30 ct30:Value}
  {f31:Addr} {od31 an31:Option Addr} {sl31:Array (Option Value)} {oc31 kV31 dc31 pm31 cd31 ct31:Value}
  {f32:Addr} {od32 an32:Option Addr} {sl32:Array (Option Value)} {oc32 kV32 dc32 pm32 cd32 ct32:Value}
  {f33:Addr} {od33 an33:Option Addr} {sl33:Array (Option Value)} {oc33 kV33 dc33 pm33 cd33 ct33:Value}
  {f34:Addr} {od34 an34:Option Addr} {sl34:Array (Option Value)} {oc34 kV34 dc34 pm34 cd34 ct34:Value}
  {f35:Addr} {od35 an35:Option Addr} {sl35:Array (Option Value)} {oc35 kV35 dc35 pm35 cd35 ct35:Value}
  {f36:Addr} {od36 an36:Option Addr} {sl36:Array (Option Value)} {oc36 kV36 dc36 pm36 cd36 ct36:Value}
  {tMOST_PRICE:Tok}
  {tLETTERS:Tok}
  {tFIGURES:Tok}
  {tMOST_SIGNS:Tok}
  {tMOST_HALF:Tok}
  {tMOST_ROOM:Tok}
  {tMOST_PINS:Tok}
  {tMOST_STARTS:Tok}
  {tMOST_GOALS:Tok}
  {odMS:Option Addr} {slMS:Array (Option Value)} {dnMS:Nat} {tMS0:Tok} {tMS1:Tok} {tMS2:Tok}
  (n_Thing:PySem.W.nsIn K mainGlobals "Thing" =some (some (.ref cThing)))
  (n_Net:PySem.W.nsIn K mainGlobals "Net" =some (some (.ref cNet)))
  (n_Bundle:PySem.W.nsIn K mainGlobals "Bundle" =some (some (.ref cBundle)))
  (n_Floor:PySem.W.nsIn K mainGlobals "Floor" =some (some (.ref cFloor)))
  (a0:PySem.W.nsIn K mainGlobals "inside" =some (some (.ref f0)))
  (l0:K.lookup f0=some ⟨oc0,od0,.func (PySem.W.fnOf "inside" "inside" (defArgs sInside) (defBody sInside) (defScope sInside) .none kV0 dc0 pm0 an0 cd0 ct0),sl0⟩)
  (c0:PySem.W.codeIn K cd0 "inside" =true)
  (k0:PySem.W.keepIn K (.ref f0)=true)
  (a1:PySem.W.nsIn K mainGlobals "spot_of" =some (some (.ref f1)))
  (l1:K.lookup f1=some ⟨oc1,od1,.func (PySem.W.fnOf "spot_of" "spot_of" (defArgs sSpotOf) (defBody sSpotOf) (defScope sSpotOf) .none kV1 dc1 pm1 an1 cd1 ct1),sl1⟩)
  (c1:PySem.W.codeIn K cd1 "spot_of" =true)
  (k1:PySem.W.keepIn K (.ref f1)=true)
  (a2:PySem.W.nsIn K mainGlobals "apart" =some (some (.ref f2)))
  (l2:K.lookup f2=some ⟨oc2,od2,.func (PySem.W.fnOf "apart" "apart" (defArgs sApart) (defBody sApart) (defScope sApart) .none kV2 dc2 pm2 an2 cd2 ct2),sl2⟩)
  (c2:PySem.W.codeIn K cd2 "apart" =true)
  (k2:PySem.W.keepIn K (.ref f2)=true)
  (a3:PySem.W.nsIn K mainGlobals "square" =some (some (.ref f3)))
  (l3:K.lookup f3=some ⟨oc3,od3,.func (PySem.W.fnOf "square" "square" (defArgs sSquare) (defBody sSquare) (defScope sSquare) .none kV3 dc3 pm3 an3 cd3 ct3),sl3⟩)
  (c3:PySem.W.codeIn K cd3 "square" =true)
  (k3:PySem.W.keepIn K (.ref f3)=true)
  (a4:PySem.W.nsIn K mainGlobals "check_sizes" =some (some (.ref f4)))
  (l4:K.lookup f4=some ⟨oc4,od4,.func (PySem.W.fnOf "check_sizes" "check_sizes" (defArgs sCSizes) (defBody sCSizes) (defScope sCSizes) .none kV4 dc4 pm4 an4 cd4 ct4),sl4⟩)
  (c4:PySem.W.codeIn K cd4 "check_sizes" =true)
  (k4:PySem.W.keepIn K (.ref f4)=true)
  (a5:PySem.W.nsIn K mainGlobals "check_price" =some (some (.ref f5)))
  (l5:K.lookup f5=some ⟨oc5,od5,.func (PySem.W.fnOf "check_price" "check_price" (defArgs sCPrice) (defBody sCPrice) (defScope sCPrice) .none kV5 dc5 pm5 an5 cd5 ct5),sl5⟩)
  (c5:PySem.W.codeIn K cd5 "check_price" =true)
  (k5:PySem.W.keepIn K (.ref f5)=true)
  (a6:PySem.W.nsIn K mainGlobals "check_prices" =some (some (.ref f6)))
  (l6:K.lookup f6=some ⟨oc6,od6,.func (PySem.W.fnOf "check_prices" "check_prices" (defArgs sCPrices) (defBody sCPrices) (defScope sCPrices) .none kV6 dc6 pm6 an6 cd6 ct6),sl6⟩)
  (c6:PySem.W.codeIn K cd6 "check_prices" =true)
  (k6:PySem.W.keepIn K (.ref f6)=true)
  (a7:PySem.W.nsIn K mainGlobals "check_inside" =some (some (.ref f7)))
  (l7:K.lookup f7=some ⟨oc7,od7,.func (PySem.W.fnOf "check_inside" "check_inside" (defArgs sCInside) (defBody sCInside) (defScope sCInside) .none kV7 dc7 pm7 an7 cd7 ct7),sl7⟩)
  (c7:PySem.W.codeIn K cd7 "check_inside" =true)
  (k7:PySem.W.keepIn K (.ref f7)=true)
  (a8:PySem.W.findIn K (.ref cFloor) "__init__" =some (some (.ref f8)))
  (i8:PySem.W.isFn K (.ref f8)=true)
  (l8:K.lookup f8=some ⟨oc8,od8,.func (PySem.W.fnOf "__init__" "Floor.__init__" (defArgs sFInit) (defBody sFInit) (defScope sFInit) (.ref T8) kV8 dc8 pm8 an8 cd8 ct8),sl8⟩)
  (d8:K.lookup T8=some ⟨dq8,do8,.seq #[.none,.none] dn8,ds8⟩)
  (c8:PySem.W.codeIn K cd8 "Floor.__init__" =true)
  (k8:PySem.W.keepIn K (.ref f8)=true)
  (a9:PySem.W.findIn K (.ref cFloor) "is_rock" =some (some (.ref f9)))
  (i9:PySem.W.isFn K (.ref f9)=true)
  (l9:K.lookup f9=some ⟨oc9,od9,.func (PySem.W.fnOf "is_rock" "Floor.is_rock" (defArgs sIsRock) (defBody sIsRock) (defScope sIsRock) .none kV9 dc9 pm9 an9 cd9 ct9),sl9⟩)
  (c9:PySem.W.codeIn K cd9 "Floor.is_rock" =true)
  (k9:PySem.W.keepIn K (.ref f9)=true)
  (a10:PySem.W.findIn K (.ref cFloor) "open_spots" =some (some (.ref f10)))
  (i10:PySem.W.isFn K (.ref f10)=true)
  (l10:K.lookup f10=some ⟨oc10,od10,.func (PySem.W.fnOf "open_spots" "Floor.open_spots" (defArgs sOpen) (defBody sOpen) (defScope sOpen) .none kV10 dc10 pm10 an10 cd10 ct10),sl10⟩)
  (c10:PySem.W.codeIn K cd10 "Floor.open_spots" =true)
  (k10:PySem.W.keepIn K (.ref f10)=true)
  (a11:PySem.W.nsIn K mainGlobals "is_name" =some (some (.ref f11)))
  (l11:K.lookup f11=some ⟨oc11,od11,.func (PySem.W.fnOf "is_name" "is_name" (defArgs sName) (defBody sName) (defScope sName) .none kV11 dc11 pm11 an11 cd11 ct11),sl11⟩)
  (c11:PySem.W.codeIn K cd11 "is_name" =true)
  (k11:PySem.W.keepIn K (.ref f11)=true)
  (a12:PySem.W.nsIn K mainGlobals "check_unlike" =some (some (.ref f12)))
  (l12:K.lookup f12=some ⟨oc12,od12,.func (PySem.W.fnOf "check_unlike" "check_unlike" (defArgs sUnlike) (defBody sUnlike) (defScope sUnlike) .none kV12 dc12 pm12 an12 cd12 ct12),sl12⟩)
  (c12:PySem.W.codeIn K cd12 "check_unlike" =true)
  (k12:PySem.W.keepIn K (.ref f12)=true)
  (r13:PySem.W.readsIn K cThing (.type "type")=true)
  (q13:PySem.W.findCls K (.ref cThing) (.type "type") "__init__" =some (.val (.ref f13)))
  (g13:PySem.W.specialIn K (.ref cThing) "__getattribute__" =some (some (.builtin "type.__getattribute__")))
  (l13:K.lookup f13=some ⟨oc13,od13,.func (PySem.W.fnOf "__init__" "Thing.__init__" (defArgs sTInit) (defBody sTInit) (defScope sTInit) .none kV13 dc13 pm13 an13 cd13 ct13),sl13⟩)
  (c13:PySem.W.codeIn K cd13 "Thing.__init__" =true)
  (k13:PySem.W.keepIn K (.ref f13)=true)
  (a14:PySem.W.findIn K (.ref cNet) "__init__" =some (some (.ref f14)))
  (i14:PySem.W.isFn K (.ref f14)=true)
  (l14:K.lookup f14=some ⟨oc14,od14,.func (PySem.W.fnOf "__init__" "Net.__init__" (defArgs sNInit) (defBody sNInit) (defScope sNInit) (.ref T14) kV14 dc14 pm14 an14 cd14 ct14),sl14⟩)
  (d14:K.lookup T14=some ⟨dq14,do14,.seq #[.int 0 dt14_0,.int 0 dt14_1] dn14,ds14⟩)
  (c14:PySem.W.codeIn K cd14 "Net.__init__" =true)
  (k14:PySem.W.keepIn K (.ref f14)=true)
  (a15:PySem.W.findIn K (.ref cNet) "ends" =some (some (.ref f15)))
  (i15:PySem.W.isFn K (.ref f15)=true)
  (l15:K.lookup f15=some ⟨oc15,od15,.func (PySem.W.fnOf "ends" "Net.ends" (defArgs sNEnds) (defBody sNEnds) (defScope sNEnds) .none kV15 dc15 pm15 an15 cd15 ct15),sl15⟩)
  (c15:PySem.W.codeIn K cd15 "Net.ends" =true)
  (k15:PySem.W.keepIn K (.ref f15)=true)
  (a16:PySem.W.findIn K (.ref cBundle) "__init__" =some (some (.ref f16)))
  (i16:PySem.W.isFn K (.ref f16)=true)
  (l16:K.lookup f16=some ⟨oc16,od16,.func (PySem.W.fnOf "__init__" "Bundle.__init__" (defArgs sBInit) (defBody sBInit) (defScope sBInit) (.ref T16) kV16 dc16 pm16 an16 cd16 ct16),sl16⟩)
  (d16:K.lookup T16=some ⟨dq16,do16,.seq #[.int 0 dt16_0] dn16,ds16⟩)
  (c16:PySem.W.codeIn K cd16 "Bundle.__init__" =true)
  (k16:PySem.W.keepIn K (.ref f16)=true)
  (a17:PySem.W.findIn K (.ref cBundle) "ends" =some (some (.ref f17)))
  (i17:PySem.W.isFn K (.ref f17)=true)
  (l17:K.lookup f17=some ⟨oc17,od17,.func (PySem.W.fnOf "ends" "Bundle.ends" (defArgs sBEnds) (defBody sBEnds) (defScope sBEnds) .none kV17 dc17 pm17 an17 cd17 ct17),sl17⟩)
  (c17:PySem.W.codeIn K cd17 "Bundle.ends" =true)
  (k17:PySem.W.keepIn K (.ref f17)=true)
  (a18:PySem.W.nsIn K mainGlobals "fits" =some (some (.ref f18)))
  (l18:K.lookup f18=some ⟨oc18,od18,.func (PySem.W.fnOf "fits" "fits" (defArgs sFits) (defBody sFits) (defScope sFits) .none kV18 dc18 pm18 an18 cd18 ct18),sl18⟩)
  (c18:PySem.W.codeIn K cd18 "fits" =true)
  (k18:PySem.W.keepIn K (.ref f18)=true)
  (a19:PySem.W.nsIn K mainGlobals "reach_of" =some (some (.ref f19)))
  (l19:K.lookup f19=some ⟨oc19,od19,.func (PySem.W.fnOf "reach_of" "reach_of" (defArgs sReach) (defBody sReach) (defScope sReach) .none kV19 dc19 pm19 an19 cd19 ct19),sl19⟩)
  (c19:PySem.W.codeIn K cd19 "reach_of" =true)
  (k19:PySem.W.keepIn K (.ref f19)=true)
  (a20:PySem.W.nsIn K mainGlobals "clash" =some (some (.ref f20)))
  (l20:K.lookup f20=some ⟨oc20,od20,.func (PySem.W.fnOf "clash" "clash" (defArgs sClash) (defBody sClash) (defScope sClash) .none kV20 dc20 pm20 an20 cd20 ct20),sl20⟩)
  (c20:PySem.W.codeIn K cd20 "clash" =true)
  (k20:PySem.W.keepIn K (.ref f20)=true)
  (a21:PySem.W.nsIn K mainGlobals "clash_at_all" =some (some (.ref f21)))
  (l21:K.lookup f21=some ⟨oc21,od21,.func (PySem.W.fnOf "clash_at_all" "clash_at_all" (defArgs sClashA) (defBody sClashA) (defScope sClashA) .none kV21 dc21 pm21 an21 cd21 ct21),sl21⟩)
  (c21:PySem.W.codeIn K cd21 "clash_at_all" =true)
  (k21:PySem.W.keepIn K (.ref f21)=true)
  (a22:PySem.W.nsIn K mainGlobals "held" =some (some (.ref f22)))
  (l22:K.lookup f22=some ⟨oc22,od22,.func (PySem.W.fnOf "held" "held" (defArgs sHeld) (defBody sHeld) (defScope sHeld) .none kV22 dc22 pm22 an22 cd22 ct22),sl22⟩)
  (c22:PySem.W.codeIn K cd22 "held" =true)
  (k22:PySem.W.keepIn K (.ref f22)=true)
  (a23:PySem.W.nsIn K mainGlobals "too_near" =some (some (.ref f23)))
  (l23:K.lookup f23=some ⟨oc23,od23,.func (PySem.W.fnOf "too_near" "too_near" (defArgs sTooNear) (defBody sTooNear) (defScope sTooNear) .none kV23 dc23 pm23 an23 cd23 ct23),sl23⟩)
  (c23:PySem.W.codeIn K cd23 "too_near" =true)
  (k23:PySem.W.keepIn K (.ref f23)=true)
  (a24:PySem.W.nsIn K mainGlobals "free_for" =some (some (.ref f24)))
  (l24:K.lookup f24=some ⟨oc24,od24,.func (PySem.W.fnOf "free_for" "free_for" (defArgs sFreeFor) (defBody sFreeFor) (defScope sFreeFor) .none kV24 dc24 pm24 an24 cd24 ct24),sl24⟩)
  (c24:PySem.W.codeIn K cd24 "free_for" =true)
  (k24:PySem.W.keepIn K (.ref f24)=true)
  (a25:PySem.W.nsIn K mainGlobals "barred_by" =some (some (.ref f25)))
  (l25:K.lookup f25=some ⟨oc25,od25,.func (PySem.W.fnOf "barred_by" "barred_by" (defArgs sBarred) (defBody sBarred) (defScope sBarred) .none kV25 dc25 pm25 an25 cd25 ct25),sl25⟩)
  (c25:PySem.W.codeIn K cd25 "barred_by" =true)
  (k25:PySem.W.keepIn K (.ref f25)=true)
  (a26:PySem.W.nsIn K mainGlobals "_law_cell_at" =some (some (.ref f26)))
  (l26:K.lookup f26=some ⟨oc26,od26,.func (PySem.W.fnOf "_law_cell_at" "_law_cell_at" (defArgs sCell) (defBody sCell) (defScope sCell) .none kV26 dc26 pm26 an26 cd26 ct26),sl26⟩)
  (c26:PySem.W.codeIn K cd26 "_law_cell_at" =true)
  (k26:PySem.W.keepIn K (.ref f26)=true)
  (a27:PySem.W.nsIn K mainGlobals "_law_folded" =some (some (.ref f27)))
  (l27:K.lookup f27=some ⟨oc27,od27,.func (PySem.W.fnOf "_law_folded" "_law_folded" (defArgs sFolded) (defBody sFolded) (defScope sFolded) .none kV27 dc27 pm27 an27 cd27 ct27),sl27⟩)
  (c27:PySem.W.codeIn K cd27 "_law_folded" =true)
  (k27:PySem.W.keepIn K (.ref f27)=true)
  (a28:PySem.W.nsIn K mainGlobals "_law_sizes" =some (some (.ref f28)))
  (l28:K.lookup f28=some ⟨oc28,od28,.func (PySem.W.fnOf "_law_sizes" "_law_sizes" (defArgs sSizes) (defBody sSizes) (defScope sSizes) .none kV28 dc28 pm28 an28 cd28 ct28),sl28⟩)
  (c28:PySem.W.codeIn K cd28 "_law_sizes" =true)
  (k28:PySem.W.keepIn K (.ref f28)=true)
  (a29:PySem.W.nsIn K mainGlobals "_law_spot" =some (some (.ref f29)))
  (l29:K.lookup f29=some ⟨oc29,od29,.func (PySem.W.fnOf "_law_spot" "_law_spot" (defArgs sSpot) (defBody sSpot) (defScope sSpot) .none kV29 dc29 pm29 an29 cd29 ct29),sl29⟩)
  (c29:PySem.W.codeIn K cd29 "_law_spot" =true)
  (k29:PySem.W.keepIn K (.ref f29)=true)
  (a30:PySem.W.nsIn K mainGlobals "_law_thing" =some (some (.ref f30)))
  (l30:K.lookup f30=some ⟨oc30,od30,.func (PySem.W.fnOf "_law_thing" "_law_thing" (defArgs sLThing) (defBody sLThing) (defScope sLThing) .none kV30 dc30 pm30 an30 cd30 ct30),sl30⟩)
  (c30:PySem.W.codeIn K cd30 "_law_thing" =true)
  (k30:PySem.W.keepIn K (.ref f30)=true)
  (a31:PySem.W.nsIn K mainGlobals "_law_others" =some (some (.ref f31)))
  (l31:K.lookup f31=some ⟨oc31,od31,.func (PySem.W.fnOf "_law_others" "_law_others" (defArgs sLOthers) (defBody sLOthers) (defScope sLOthers) .none kV31 dc31 pm31 an31 cd31 ct31),sl31⟩)
  (c31:PySem.W.codeIn K cd31 "_law_others" =true)
  (k31:PySem.W.keepIn K (.ref f31)=true)
  (a32:PySem.W.nsIn K mainGlobals "_law_held" =some (some (.ref f32)))
  (l32:K.lookup f32=some ⟨oc32,od32,.func (PySem.W.fnOf "_law_held" "_law_held" (defArgs sLHeld) (defBody sLHeld) (defScope sLHeld) .none kV32 dc32 pm32 an32 cd32 ct32),sl32⟩)
  (c32:PySem.W.codeIn K cd32 "_law_held" =true)
  (k32:PySem.W.keepIn K (.ref f32)=true)
  (a33:PySem.W.nsIn K mainGlobals "_law_fits" =some (some (.ref f33)))
  (l33:K.lookup f33=some ⟨oc33,od33,.func (PySem.W.fnOf "_law_fits" "_law_fits" (defArgs sLFits) (defBody sLFits) (defScope sLFits) .none kV33 dc33 pm33 an33 cd33 ct33),sl33⟩)
  (c33:PySem.W.codeIn K cd33 "_law_fits" =true)
  (k33:PySem.W.keepIn K (.ref f33)=true)
  (a34:PySem.W.nsIn K mainGlobals "_law_near" =some (some (.ref f34)))
  (l34:K.lookup f34=some ⟨oc34,od34,.func (PySem.W.fnOf "_law_near" "_law_near" (defArgs sLNear) (defBody sLNear) (defScope sLNear) .none kV34 dc34 pm34 an34 cd34 ct34),sl34⟩)
  (c34:PySem.W.codeIn K cd34 "_law_near" =true)
  (k34:PySem.W.keepIn K (.ref f34)=true)
  (a35:PySem.W.nsIn K mainGlobals "_law_barred" =some (some (.ref f35)))
  (l35:K.lookup f35=some ⟨oc35,od35,.func (PySem.W.fnOf "_law_barred" "_law_barred" (defArgs sLBarred) (defBody sLBarred) (defScope sLBarred) .none kV35 dc35 pm35 an35 cd35 ct35),sl35⟩)
  (c35:PySem.W.codeIn K cd35 "_law_barred" =true)
  (k35:PySem.W.keepIn K (.ref f35)=true)
  (a36:PySem.W.nsIn K mainGlobals "law" =some (some (.ref f36)))
  (l36:K.lookup f36=some ⟨oc36,od36,.func (PySem.W.fnOf "law" "law" (defArgs slaw) (defBody slaw) (defScope slaw) .none kV36 dc36 pm36 an36 cd36 ct36),sl36⟩)
  (c36:PySem.W.codeIn K cd36 "law" =true)
  (k36:PySem.W.keepIn K (.ref f36)=true)
  (pg_Thing:PySem.W.plainGet K cThing Str.empty=true)
  (hd_Thing:PySem.W.hasDictIn K cThing=true)
  (po_Thing:PySem.W.plainOver K cThing=true)
  (sa_Thing:PySem.W.findIn K (.ref cThing) "__setattr__" =some (some (.builtin "object.__setattr__")))
  (pg_Net:PySem.W.plainGet K cNet Str.empty=true)
  (hd_Net:PySem.W.hasDictIn K cNet=true)
  (po_Net:PySem.W.plainOver K cNet=true)
  (sa_Net:PySem.W.findIn K (.ref cNet) "__setattr__" =some (some (.builtin "object.__setattr__")))
  (mk_Net:PySem.W.makesIn K cNet=true)
  (kc_Net:PySem.W.keepIn K (.ref cNet)=true)
  (na_Net_name:PySem.W.findIn K (.ref cNet) "name" =some none)
  (na_Net_half:PySem.W.findIn K (.ref cNet) "half" =some none)
  (na_Net_room:PySem.W.findIn K (.ref cNet) "room" =some none)
  (na_Net_pins:PySem.W.findIn K (.ref cNet) "pins" =some none)
  (pg_Bundle:PySem.W.plainGet K cBundle Str.empty=true)
  (hd_Bundle:PySem.W.hasDictIn K cBundle=true)
  (po_Bundle:PySem.W.plainOver K cBundle=true)
  (sa_Bundle:PySem.W.findIn K (.ref cBundle) "__setattr__" =some (some (.builtin "object.__setattr__")))
  (mk_Bundle:PySem.W.makesIn K cBundle=true)
  (kc_Bundle:PySem.W.keepIn K (.ref cBundle)=true)
  (na_Bundle_name:PySem.W.findIn K (.ref cBundle) "name" =some none)
  (na_Bundle_half:PySem.W.findIn K (.ref cBundle) "half" =some none)
  (na_Bundle_room:PySem.W.findIn K (.ref cBundle) "room" =some none)
  (na_Bundle_starts:PySem.W.findIn K (.ref cBundle) "starts" =some none)
  (na_Bundle_goals:PySem.W.findIn K (.ref cBundle) "goals" =some none)
  (pg_Floor:PySem.W.plainGet K cFloor Str.empty=true)
  (hd_Floor:PySem.W.hasDictIn K cFloor=true)
  (po_Floor:PySem.W.plainOver K cFloor=true)
  (sa_Floor:PySem.W.findIn K (.ref cFloor) "__setattr__" =some (some (.builtin "object.__setattr__")))
  (mk_Floor:PySem.W.makesIn K cFloor=true)
  (kc_Floor:PySem.W.keepIn K (.ref cFloor)=true)
  (na_Floor_sizes:PySem.W.findIn K (.ref cFloor) "sizes" =some none)
  (na_Floor_prices:PySem.W.findIn K (.ref cFloor) "prices" =some none)
  (na_Floor_vias:PySem.W.findIn K (.ref cFloor) "vias" =some none)
  (na_Floor_rocks:PySem.W.findIn K (.ref cFloor) "rocks" =some none)
  (na_Floor_tolls:PySem.W.findIn K (.ref cFloor) "tolls" =some none)
  (z_len:PySem.W.nsIn K mainGlobals "len" =some none)
  (z_range:PySem.W.nsIn K mainGlobals "range" =some none)
  (z_isinstance:PySem.W.nsIn K mainGlobals "isinstance" =some none)
  (z_int:PySem.W.nsIn K mainGlobals "int" =some none)
  (z_bool:PySem.W.nsIn K mainGlobals "bool" =some none)
  (z_tuple:PySem.W.nsIn K mainGlobals "tuple" =some none)
  (z_set:PySem.W.nsIn K mainGlobals "set" =some none)
  (z_list:PySem.W.nsIn K mainGlobals "list" =some none)
  (z_dict:PySem.W.nsIn K mainGlobals "dict" =some none)
  (z_str:PySem.W.nsIn K mainGlobals "str" =some none)
  (z_all:PySem.W.nsIn K mainGlobals "all" =some none)
  (z_any:PySem.W.nsIn K mainGlobals "any" =some none)
  (z_zip:PySem.W.nsIn K mainGlobals "zip" =some none)
  (z_min:PySem.W.nsIn K mainGlobals "min" =some none)
  (z_max:PySem.W.nsIn K mainGlobals "max" =some none)
  (z_abs:PySem.W.nsIn K mainGlobals "abs" =some none)
  (z_sorted:PySem.W.nsIn K mainGlobals "sorted" =some none)
  (z_divmod:PySem.W.nsIn K mainGlobals "divmod" =some none)
  (z_ValueError:PySem.W.nsIn K mainGlobals "ValueError" =some none)
  (q_MOST_PRICE:PySem.W.nsIn K mainGlobals "MOST_PRICE" =some (some (.int 1000000000000 tMOST_PRICE)))
  (q_LETTERS:PySem.W.nsIn K mainGlobals "LETTERS" =some (some (.str (Str.ofString "abcdefghijklmnopqrstuvwxyz") tLETTERS)))
  (q_FIGURES:PySem.W.nsIn K mainGlobals "FIGURES" =some (some (.str (Str.ofString "0123456789") tFIGURES)))
  (q_MOST_SIGNS:PySem.W.nsIn K mainGlobals "MOST_SIGNS" =some (some (.int 12 tMOST_SIGNS)))
  (q_MOST_HALF:PySem.W.nsIn K mainGlobals "MOST_HALF" =some (some (.int 2 tMOST_HALF)))
  (q_MOST_ROOM:PySem.W.nsIn K mainGlobals "MOST_ROOM" =some (some (.int 3 tMOST_ROOM)))
  (q_MOST_PINS:PySem.W.nsIn K mainGlobals "MOST_PINS" =some (some (.int 6 tMOST_PINS)))
  (q_MOST_STARTS:PySem.W.nsIn K mainGlobals "MOST_STARTS" =some (some (.int 6 tMOST_STARTS)))
  (q_MOST_GOALS:PySem.W.nsIn K mainGlobals "MOST_GOALS" =some (some (.int 12 tMOST_GOALS)))
  (q_MOST_SIZES:PySem.W.nsIn K mainGlobals "MOST_SIZES" =some (some (.ref cMS)))
  (qt_MOST_SIZES:K.lookup cMS=some ⟨.type "tuple",odMS,.seq #[.int 4 tMS0,.int 16 tMS1,.int 16 tMS2] dnMS,slMS⟩)
  (ll:PySem.W.kitOne K (.type "list") (.type "list")=some true)
  (dd:PySem.W.kitOne K (.type "dict") (.type "dict")=some true)
  :∃fd:FuncData,(∀(s:Shared) (v:Value),BindsTo s fd ⟨[v],[]⟩ [("script",v)])∧∀base:Heap,K.In base→base.Ns mainGlobals mg→FnOk l.prog w K mg base CX0 7 fa fd ["script"] (spLaw K):=by
 have e:=hfa.symm.trans (PySem.W.mg_of X G a36)
 cases e
 have T:Txt K mg cThing cNet cBundle cFloor cMS:=⟨PySem.W.mg_none_of X G z_len,PySem.W.mg_none_of X G z_range,PySem.W.mg_none_of X G z_isinstance,PySem.W.mg_none_of X G z_int,PySem.W.mg_none_of X G z_bool,PySem.W.mg_none_of X G z_tuple,PySem.W.mg_none_of X G z_set,PySem.W.mg_none_of X G z_list,PySem.W.mg_none_of X G z_dict,PySem.W.mg_none_of X G z_str,PySem.W.mg_none_of X G z_all,PySem.W.mg_none_of X G z_any,PySem.W.mg_none_of X G z_zip,PySem.W.mg_none_of X G z_min,PySem.W.mg_none_of X G z_max,PySem.W.mg_none_of X G z_abs,PySem.W.mg_none_of X G z_sorted,PySem.W.mg_none_of X G z_divmod,PySem.W.mg_none_of X G z_ValueError,⟨pg_Thing,hd_Thing,po_Thing,sa_Thing⟩,PySem.W.mg_of X G n_Thing,⟨pg_Net,hd_Net,po_Net,sa_Net⟩,PySem.W.mg_of X G n_Net,na_Net_name,na_Net_half,na_Net_room,na_Net_pins,⟨pg_Bundle,hd_Bundle,po_Bundle,sa_Bundle⟩,PySem.W.mg_of X G n_Bundle,na_Bundle_name,na_Bundle_half,na_Bundle_room,na_Bundle_starts,na_Bundle_goals,⟨pg_Floor,hd_Floor,po_Floor,sa_Floor⟩,PySem.W.mg_of X G n_Floor,na_Floor_sizes,na_Floor_prices,na_Floor_vias,na_Floor_rocks,na_Floor_tolls,⟨_,PySem.W.mg_of X G q_MOST_PRICE,⟨_,rfl⟩⟩,⟨_,PySem.W.mg_of X G q_LETTERS,⟨_,rfl⟩⟩,⟨_,PySem.W.mg_of X G q_FIGURES,⟨_,rfl⟩⟩,⟨_,PySem.W.mg_of X G q_MOST_SIGNS,⟨_,rfl⟩⟩,⟨_,PySem.W.mg_of X G q_MOST_HALF,⟨_,rfl⟩⟩,⟨_,PySem.W.mg_of X G q_MOST_ROOM,⟨_,rfl⟩⟩,⟨_,PySem.W.mg_of X G q_MOST_PINS,⟨_,rfl⟩⟩,⟨_,PySem.W.mg_of X G q_MOST_STARTS,⟨_,rfl⟩⟩,⟨_,PySem.W.mg_of X G q_MOST_GOALS,⟨_,rfl⟩⟩,⟨_,PySem.W.mg_of X G q_MOST_SIZES,rfl⟩,fun _=> .inr ⟨_,_,_,qt_MOST_SIZES,rfl,rfl,(by show 3≤sizeLine;decide),(.cons ⟨_,rfl⟩ (.cons ⟨_,rfl⟩ (.cons ⟨_,rfl⟩ .nil)))⟩,ll,dd⟩
 have F0:=fun_mk (st:=sInside) l0 c0 k0
 have b0:=bd2 (p0:= "sizes") (p1:= "spot") F0 fun _ _ _ _ _ _ _ _=>rfl
 have F1:=fun_mk (st:=sSpotOf) l1 c1 k1
 have b1:=bd2 (p0:= "sizes") (p1:= "number") F1 fun _ _ _ _ _ _ _ _=>rfl
 have F2:=fun_mk (st:=sApart) l2 c2 k2
 have b2:=bd2 (p0:= "one") (p1:= "two") F2 fun _ _ _ _ _ _ _ _=>rfl
 have F3:=fun_mk (st:=sSquare) l3 c3 k3
 have b3:=bd3 (p0:= "sizes") (p1:= "spot") (p2:= "reach") F3 fun _ _ _ _ _ _ _ _ _=>rfl
 have F4:=fun_mk (st:=sCSizes) l4 c4 k4
 have b4:=bd3 (p0:= "sizes") (p1:= "prices") (p2:= "vias") F4 fun _ _ _ _ _ _ _ _ _=>rfl
 have F5:=fun_mk (st:=sCPrice) l5 c5 k5
 have b5:=bd2 (p0:= "price") (p1:= "least") F5 fun _ _ _ _ _ _ _ _=>rfl
 have F6:=fun_mk (st:=sCPrices) l6 c6 k6
 have b6:=bd3 (p0:= "prices") (p1:= "vias") (p2:= "tolls") F6 fun _ _ _ _ _ _ _ _ _=>rfl
 have F7:=fun_mk (st:=sCInside) l7 c7 k7
 have b7:=bd2 (p0:= "sizes") (p1:= "spot") F7 fun _ _ _ _ _ _ _ _=>rfl
 have F8:=fund_mk (st:=sFInit) l8 c8
 have b8_0:Binds K (PySem.W.fnOf "__init__" "Floor.__init__" (defArgs sFInit) (defBody sFInit) (defScope sFInit) (.ref T8) kV8 dc8 pm8 an8 cd8 ct8) ["self", "sizes", "prices", "vias", "rocks", "tolls"] ([]:List Value):=bindsM rfl d8 6 rfl fun us hl=>(by obtain⟨_,_,_,_,_,_,rfl⟩:=bl6 (us:=us) hl;exact⟨_,rfl,rfl⟩)
 have b8_1:Binds K (PySem.W.fnOf "__init__" "Floor.__init__" (defArgs sFInit) (defBody sFInit) (defScope sFInit) (.ref T8) kV8 dc8 pm8 an8 cd8 ct8) ["self", "sizes", "prices", "vias", "rocks", "tolls"] ([Value.none]:List Value):=bindsM rfl d8 5 rfl fun us hl=>(by obtain⟨_,_,_,_,_,rfl⟩:=bl5 (us:=us) hl;exact⟨_,rfl,rfl⟩)
 have b8_2:Binds K (PySem.W.fnOf "__init__" "Floor.__init__" (defArgs sFInit) (defBody sFInit) (defScope sFInit) (.ref T8) kV8 dc8 pm8 an8 cd8 ct8) ["self", "sizes", "prices", "vias", "rocks", "tolls"] ([Value.none,Value.none]:List Value):=bindsM rfl d8 4 rfl fun us hl=>(by obtain⟨_,_,_,_,rfl⟩:=bl4 (us:=us) hl;exact⟨_,rfl,rfl⟩)
 have F9:=fun_mk (st:=sIsRock) l9 c9 k9
 have b9:=bd2 (p0:= "self") (p1:= "spot") F9 fun _ _ _ _ _ _ _ _=>rfl
 have F10:=fun_mk (st:=sOpen) l10 c10 k10
 have b10:=bd1 (p0:= "self") F10 fun _ _ _ _ _ _ _=>rfl
 have F11:=fun_mk (st:=sName) l11 c11 k11
 have b11:=bd1 (p0:= "name") F11 fun _ _ _ _ _ _ _=>rfl
 have F12:=fun_mk (st:=sUnlike) l12 c12 k12
 have b12:=bd1 (p0:= "spots") F12 fun _ _ _ _ _ _ _=>rfl
 have F13:=fun_mk (st:=sTInit) l13 c13 k13
 have b13:=bd4 (p0:= "self") (p1:= "name") (p2:= "half") (p3:= "room") F13 fun _ _ _ _ _ _ _ _ _ _=>rfl
 have F14:=fund_mk (st:=sNInit) l14 c14
 have b14_0:Binds K (PySem.W.fnOf "__init__" "Net.__init__" (defArgs sNInit) (defBody sNInit) (defScope sNInit) (.ref T14) kV14 dc14 pm14 an14 cd14 ct14) ["self", "name", "pins", "half", "room"] ([]:List Value):=bindsM rfl d14 5 rfl fun us hl=>(by obtain⟨_,_,_,_,_,rfl⟩:=bl5 (us:=us) hl;exact⟨_,rfl,rfl⟩)
 have b14_1:Binds K (PySem.W.fnOf "__init__" "Net.__init__" (defArgs sNInit) (defBody sNInit) (defScope sNInit) (.ref T14) kV14 dc14 pm14 an14 cd14 ct14) ["self", "name", "pins", "half", "room"] ([.int 0 dt14_1]:List Value):=bindsM rfl d14 4 rfl fun us hl=>(by obtain⟨_,_,_,_,rfl⟩:=bl4 (us:=us) hl;exact⟨_,rfl,rfl⟩)
 have b14_2:Binds K (PySem.W.fnOf "__init__" "Net.__init__" (defArgs sNInit) (defBody sNInit) (defScope sNInit) (.ref T14) kV14 dc14 pm14 an14 cd14 ct14) ["self", "name", "pins", "half", "room"] ([.int 0 dt14_0,.int 0 dt14_1]:List Value):=bindsM rfl d14 3 rfl fun us hl=>(by obtain⟨_,_,_,rfl⟩:=bl3 (us:=us) hl;exact⟨_,rfl,rfl⟩)
 have F15:=fun_mk (st:=sNEnds) l15 c15 k15
 have b15:=bd1 (p0:= "self") F15 fun _ _ _ _ _ _ _=>rfl
 have F16:=fund_mk (st:=sBInit) l16 c16
 have b16_0:Binds K (PySem.W.fnOf "__init__" "Bundle.__init__" (defArgs sBInit) (defBody sBInit) (defScope sBInit) (.ref T16) kV16 dc16 pm16 an16 cd16 ct16) ["self", "name", "starts", "goals", "room"] ([]:List Value):=bindsM rfl d16 5 rfl fun us hl=>(by obtain⟨_,_,_,_,_,rfl⟩:=bl5 (us:=us) hl;exact⟨_,rfl,rfl⟩)
 have b16_1:Binds K (PySem.W.fnOf "__init__" "Bundle.__init__" (defArgs sBInit) (defBody sBInit) (defScope sBInit) (.ref T16) kV16 dc16 pm16 an16 cd16 ct16) ["self", "name", "starts", "goals", "room"] ([.int 0 dt16_0]:List Value):=bindsM rfl d16 4 rfl fun us hl=>(by obtain⟨_,_,_,_,rfl⟩:=bl4 (us:=us) hl;exact⟨_,rfl,rfl⟩)
 have F17:=fun_mk (st:=sBEnds) l17 c17 k17
 have b17:=bd1 (p0:= "self") F17 fun _ _ _ _ _ _ _=>rfl
 have F18:=fun_mk (st:=sFits) l18 c18 k18
 have b18:=bd3 (p0:= "floor") (p1:= "thing") (p2:= "spot") F18 fun _ _ _ _ _ _ _ _ _=>rfl
 have F19:=fun_mk (st:=sReach) l19 c19 k19
 have b19:=bd2 (p0:= "thing") (p1:= "other") F19 fun _ _ _ _ _ _ _ _=>rfl
 have F20:=fun_mk (st:=sClash) l20 c20 k20
 have b20:=bd4 (p0:= "thing") (p1:= "spot") (p2:= "other") (p3:= "place") F20 fun _ _ _ _ _ _ _ _ _ _=>rfl
 have F21:=fun_mk (st:=sClashA) l21 c21 k21
 have b21:=bd4 (p0:= "thing") (p1:= "spots") (p2:= "other") (p3:= "places") F21 fun _ _ _ _ _ _ _ _ _ _=>rfl
 have F22:=fun_mk (st:=sHeld) l22 c22 k22
 have b22:=bd2 (p0:= "thing") (p1:= "wiring") F22 fun _ _ _ _ _ _ _ _=>rfl
 have F23:=fun_mk (st:=sTooNear) l23 c23 k23
 have b23:=bd3 (p0:= "floor") (p1:= "thing") (p2:= "others") F23 fun _ _ _ _ _ _ _ _ _=>rfl
 have F24:=fun_mk (st:=sFreeFor) l24 c24 k24
 have b24:=bd3 (p0:= "floor") (p1:= "thing") (p2:= "others") F24 fun _ _ _ _ _ _ _ _ _=>rfl
 have F25:=fun_mk (st:=sBarred) l25 c25 k25
 have b25:=bd4 (p0:= "floor") (p1:= "thing") (p2:= "others") (p3:= "spot") F25 fun _ _ _ _ _ _ _ _ _ _=>rfl
 have F26:=fun_mk (st:=sCell) l26 c26 k26
 have b26:=bd2 (p0:= "script") (p1:= "k") F26 fun _ _ _ _ _ _ _ _=>rfl
 have F27:=fun_mk (st:=sFolded) l27 c27 k27
 have b27:=bd3 (p0:= "script") (p1:= "behind") (p2:= "many") F27 fun _ _ _ _ _ _ _ _ _=>rfl
 have F28:=fun_mk (st:=sSizes) l28 c28 k28
 have b28:=bd1 (p0:= "cell") F28 fun _ _ _ _ _ _ _=>rfl
 have F29:=fun_mk (st:=sSpot) l29 c29 k29
 have b29:=bd3 (p0:= "sizes") (p1:= "cell") (p2:= "more") F29 fun _ _ _ _ _ _ _ _ _=>rfl
 have F30:=fun_mk (st:=sLThing) l30 c30 k30
 have b30:=bd4 (p0:= "name") (p1:= "cell") (p2:= "sizes") (p3:= "place") F30 fun _ _ _ _ _ _ _ _ _ _=>rfl
 have F31:=fun_mk (st:=sLOthers) l31 c31 k31
 have b31:=bd3 (p0:= "script") (p1:= "sizes") (p2:= "cells") F31 fun _ _ _ _ _ _ _ _ _=>rfl
 have F32:=fun_mk (st:=sLHeld) l32 c32 k32
 have b32:=bd2 (p0:= "thing") (p1:= "wiring") F32 fun _ _ _ _ _ _ _ _=>rfl
 have F33:=fun_mk (st:=sLFits) l33 c33 k33
 have b33:=bd4 (p0:= "sizes") (p1:= "rocks") (p2:= "half") (p3:= "spot") F33 fun _ _ _ _ _ _ _ _ _ _=>rfl
 have F34:=fun_mk (st:=sLNear) l34 c34 k34
 have b34:=bd3 (p0:= "thing") (p1:= "spot") (p2:= "pair") F34 fun _ _ _ _ _ _ _ _ _=>rfl
 have F35:=fun_mk (st:=sLBarred) l35 c35 k35
 have b35:=bd5 (p0:= "sizes") (p1:= "rocks") (p2:= "thing") (p3:= "others") (p4:= "spot") F35 fun _ _ _ _ _ _ _ _ _ _ _=>rfl
 have F36:=fun_mk (st:=slaw) l36 c36 k36
 refine⟨PySem.W.fnOf "law" "law" (defArgs slaw) (defBody slaw) (defScope slaw) .none kV36 dc36 pm36 an36 cd36 ct36,fun s v=> .of_eq rfl,fun base hB _=>?_⟩
 have gInside:Callee l.prog w K mg base "inside" 1 ["sizes", "spot"] spInside:=⟨f0,_,ok_Inside F0 T,PySem.W.mg_of X G a0,k0,b0⟩
 have gSpotOf:Callee l.prog w K mg base "spot_of" 1 ["sizes", "number"] (spSpotOf K):=⟨f1,_,ok_SpotOf F1 hB T,PySem.W.mg_of X G a1,k1,b1⟩
 have gApart:Callee l.prog w K mg base "apart" 1 ["one", "two"] spApart:=⟨f2,_,ok_Apart F2 T,PySem.W.mg_of X G a2,k2,b2⟩
 have gSquare:Callee l.prog w K mg base "square" 1 ["sizes", "spot", "reach"] spSquare9:=⟨f3,_,ok_Square F3 T,PySem.W.mg_of X G a3,k3,b3⟩
 have gCSizes:Callee l.prog w K mg base "check_sizes" 1 ["sizes", "prices", "vias"] spCSizes:=⟨f4,_,ok_CSizes F4 hB T,PySem.W.mg_of X G a4,k4,b4⟩
 have gCPrice:Callee l.prog w K mg base "check_price" 1 ["price", "least"] spCPrice:=⟨f5,_,ok_CPrice F5 hB T,PySem.W.mg_of X G a5,k5,b5⟩
 have gCPrices:Callee l.prog w K mg base "check_prices" 2 ["prices", "vias", "tolls"] spCPrices:=⟨f6,_,ok_CPrices F6 T gCPrice,PySem.W.mg_of X G a6,k6,b6⟩
 have gCInside:Callee l.prog w K mg base "check_inside" 2 ["sizes", "spot"] spCInside:=⟨f7,_,ok_CInside F7 hB T gInside,PySem.W.mg_of X G a7,k7,b7⟩
 have gFInit:KCalleeM l.prog w K mg base cFloor "Floor" 3 ["self", "sizes", "prices", "vias", "rocks", "tolls"] (spFInit cFloor):=⟨f8,_,ok_FInit F8 T gCSizes gCPrices gCInside,⟨mk_Floor,a8,i8,kc_Floor⟩,PySem.W.mg_of X G n_Floor,b8_0,b8_1,b8_2⟩
 have gIsRock:MCallee l.prog w K mg base cFloor "is_rock" 3 ["self", "spot"] (spIsRock cFloor):=⟨f9,_,ok_IsRock F9 T gCInside,⟨a9,i9,k9⟩,b9⟩
 have gOpen:MCallee l.prog w K mg base cFloor "open_spots" 2 ["self"] (spOpen cFloor):=⟨f10,_,ok_Open F10 T gSpotOf,⟨a10,i10,k10⟩,b10⟩
 have gName:Callee l.prog w K mg base "is_name" 1 ["name"] spName:=⟨f11,_,ok_Name F11 T,PySem.W.mg_of X G a11,k11,b11⟩
 have gUnlike:Callee l.prog w K mg base "check_unlike" 1 ["spots"] spUnlike:=⟨f12,_,ok_Unlike F12 hB T,PySem.W.mg_of X G a12,k12,b12⟩
 have gTInit:ClsCallee l.prog w K mg base cThing "__init__" 2 ["self", "name", "half", "room"] (spTInit cNet cBundle):=⟨f13,_,ok_TInit F13 hB T gName,⟨⟨_,r13,q13⟩,rfl,g13,k13⟩,b13⟩
 have gNInit:KCalleeZ l.prog w K mg base cNet "Net" 3 ["self", "name", "pins", "half", "room"] (spNInit cNet) 2:=⟨f14,_,ok_NInit F14 hB T gUnlike gTInit,⟨mk_Net,a14,i14,kc_Net⟩,PySem.W.mg_of X G n_Net,bindsZ2 b14_0 b14_1 b14_2⟩
 have gNEnds:MCallee l.prog w K mg base cNet "ends" 1 ["self"] (spNEnds cNet):=⟨f15,_,ok_NEnds F15 T,⟨a15,i15,k15⟩,b15⟩
 have gBInit:KCalleeZ l.prog w K mg base cBundle "Bundle" 3 ["self", "name", "starts", "goals", "room"] (spBInit cBundle) 1:=⟨f16,_,ok_BInit F16 hB T gUnlike gTInit,⟨mk_Bundle,a16,i16,kc_Bundle⟩,PySem.W.mg_of X G n_Bundle,bindsZ1 b16_0 b16_1⟩
 have gBEnds:MCallee l.prog w K mg base cBundle "ends" 1 ["self"] (spBEnds cBundle):=⟨f17,_,ok_BEnds F17 T,⟨a17,i17,k17⟩,b17⟩
 have gFits:Callee l.prog w K mg base "fits" 4 ["floor", "thing", "spot"] (spFits cNet cBundle cFloor):=⟨f18,_,ok_Fits F18 T gInside gSquare gIsRock,PySem.W.mg_of X G a18,k18,b18⟩
 have gReach:Callee l.prog w K mg base "reach_of" 1 ["thing", "other"] (spReach cNet cBundle):=⟨f19,_,ok_Reach F19 T,PySem.W.mg_of X G a19,k19,b19⟩
 have gClash:Callee l.prog w K mg base "clash" 2 ["thing", "spot", "other", "place"] (spClash cNet cBundle):=⟨f20,_,ok_Clash F20 T gApart gReach,PySem.W.mg_of X G a20,k20,b20⟩
 have gClashA:Callee l.prog w K mg base "clash_at_all" 3 ["thing", "spots", "other", "places"] (spClashA cNet cBundle):=⟨f21,_,ok_ClashA F21 T gClash,PySem.W.mg_of X G a21,k21,b21⟩
 have gHeld:Callee l.prog w K mg base "held" 2 ["thing", "wiring"] (spHeld cNet cBundle):=⟨f22,_,ok_Held F22 T gNEnds gBEnds,PySem.W.mg_of X G a22,k22,b22⟩
 have gTooNear:Callee l.prog w K mg base "too_near" 2 ["floor", "thing", "others"] (spTooNear cNet cBundle cFloor):=⟨f23,_,ok_TooNear F23 T gSquare gReach,PySem.W.mg_of X G a23,k23,b23⟩
 have gFreeFor:Callee l.prog w K mg base "free_for" 5 ["floor", "thing", "others"] (spFreeFor cNet cBundle cFloor):=⟨f24,_,ok_FreeFor F24 T gOpen gFits gTooNear,PySem.W.mg_of X G a24,k24,b24⟩
 have gBarred:Callee l.prog w K mg base "barred_by" 5 ["floor", "thing", "others", "spot"] (spBarred cNet cBundle cFloor):=⟨f25,_,ok_Barred F25 T gFits gClashA,PySem.W.mg_of X G a25,k25,b25⟩
 have gCell:Callee l.prog w K mg base "_law_cell_at" 1 ["script", "k"] (spCell K):=⟨f26,_,ok_Cell F26 T,PySem.W.mg_of X G a26,k26,b26⟩
 have gFolded:Callee l.prog w K mg base "_law_folded" 1 ["script", "behind", "many"] (spFolded K):=⟨f27,_,ok_Folded F27 T,PySem.W.mg_of X G a27,k27,b27⟩
 have gSizes:Callee l.prog w K mg base "_law_sizes" 1 ["cell"] spSizes:=⟨f28,_,ok_Sizes F28 T,PySem.W.mg_of X G a28,k28,b28⟩
 have gSpot:Callee l.prog w K mg base "_law_spot" 1 ["sizes", "cell", "more"] spSpot:=⟨f29,_,ok_Spot F29 T,PySem.W.mg_of X G a29,k29,b29⟩
 have gLThing:Callee l.prog w K mg base "_law_thing" 5 ["name", "cell", "sizes", "place"] (spLThing cNet cBundle):=⟨f30,_,ok_LThing F30 T gNInit gBInit gSpot,PySem.W.mg_of X G a30,k30,b30⟩
 have gLOthers:Callee l.prog w K mg base "_law_others" 6 ["script", "sizes", "cells"] (spLOthers K cNet cBundle):=⟨f31,_,ok_LOthers F31 T gCell gSpot gLThing,PySem.W.mg_of X G a31,k31,b31⟩
 have gLHeld:Callee l.prog w K mg base "_law_held" 2 ["thing", "wiring"] (spLHeld cNet cBundle):=⟨f32,_,ok_LHeld F32 T gNEnds gBEnds,PySem.W.mg_of X G a32,k32,b32⟩
 have gLFits:Callee l.prog w K mg base "_law_fits" 1 ["sizes", "rocks", "half", "spot"] spLFits:=⟨f33,_,ok_LFits F33 T,PySem.W.mg_of X G a33,k33,b33⟩
 have gLNear:Callee l.prog w K mg base "_law_near" 1 ["thing", "spot", "pair"] (spLNear cNet cBundle):=⟨f34,_,ok_LNear F34 T,PySem.W.mg_of X G a34,k34,b34⟩
 have gLBarred:Callee l.prog w K mg base "_law_barred" 2 ["sizes", "rocks", "thing", "others", "spot"] (spLBarred cNet cBundle):=⟨f35,_,ok_LBarred F35 T gLFits gLNear,PySem.W.mg_of X G a35,k35,b35⟩
 exact ok_law F36 T gFInit gHeld gFreeFor gBarred gCell gFolded gSizes gSpot gLThing gLOthers gLHeld gLBarred
theorem walk {l:PySem.W.OpenLaw}{q:Program}{loose:List Str}{XP:(Str→Option Value)→Heap→Prop}{YP:World→Heap→Prop}{d:DefRec}{K:Params→PySem.W.Frag}(hn:l.most=some 63)(hdf:d.params.defaults=[])
  (hY:∀(w:World) (h:Heap),YP w h→(K w.params).In h)
  (F:∀(w:World) (mg:Str→Option Value) (fa:Addr) (h:Heap),(K w.params).In h→h.Ns mainGlobals mg→mg d.name=some (.ref fa)→
   ∃fd:FuncData,(∀(s:Shared) (u:Value),BindsTo s fd ⟨[u],[]⟩ [("script",u)])∧∀base:Heap,(K w.params).In base→base.Ns mainGlobals mg→FnOk l.prog w (K w.params) mg base CX0 7 fa fd ["script"] (spLaw (K w.params))):
  PySem.W.WalkO q loose XP YP l.row.toRowW d [] (fun f vs=>PySem.call f vs):=
 L2.walk_of (n:=63) (k:=7) (x:= "script") (CX:=fun _=>CX0) (sp:=fun w=>spLaw (K w.params)) hn (by decide) hdf ⟨rfl,by decide,by decide,rfl⟩ hY F (fun _ _ a ns hl _ hS=>⟨a,ns,rfl,hS,hl,fun _=>rfl⟩) fun _ _ _ _ _ z=>z
end K09
end
/-! these names are taken, so that the head lays no second forms of the greatest of its objects -/
def PySem.W.Fast.tw6766631073019741866 : Unit := ()
def PySem.W.Fast.tw549911894823884559 : Unit := ()
def PySem.W.Fast.tw16355232500061756643 : Unit := ()
def PySem.W.Fast.tw12604604440102274100 : Unit := ()
def PySem.W.Fast.tw11557137750094352113 : Unit := ()
def PySem.W.Fast.tw17203577371640018790 : Unit := ()
def PySem.W.Fast.tw16973269260357166407 : Unit := ()
def PySem.W.Fast.tw4065874683938532975 : Unit := ()
def PySem.W.Fast.tw6417299537074294054 : Unit := ()
def PySem.W.Fast.tw16931170854997745403 : Unit := ()
def PySem.W.Fast.tw6913495623993335941 : Unit := ()
def PySem.W.Fast.tw6629522645514554734 : Unit := ()
def PySem.W.Fast.tw2063124608601722528 : Unit := ()
def PySem.W.Fast.tw12956184084594632765 : Unit := ()
def PySem.W.Fast.tw14318540193544822538 : Unit := ()
def PySem.W.Fast.tw16540037407862549222 : Unit := ()
def PySem.W.Fast.tw955717679204903618 : Unit := ()
def PySem.W.Fast.tw545725379022289539 : Unit := ()
def PySem.W.Fast.tw15415343309475904568 : Unit := ()
def PySem.W.Fast.tw16110987250981750179 : Unit := ()
def PySem.W.Fast.tw11172910612780750961 : Unit := ()
def PySem.W.Fast.tw15598492096836784302 : Unit := ()
def PySem.W.Fast.tw8585317162337638196 : Unit := ()
def PySem.W.Fast.tw12151451590846820889 : Unit := ()
def PySem.W.Fast.tw12501096609437914704 : Unit := ()
def PySem.W.Fast.tw4380013916591610270 : Unit := ()
def PySem.W.Fast.tw6119281829612185927 : Unit := ()
def PySem.W.Fast.tw2872634438779859656 : Unit := ()
def PySem.W.Fast.tw11484329789693310651 : Unit := ()
def PySem.W.Fast.tw15313353880704588457 : Unit := ()
def PySem.W.Fast.tw8285079579466601969 : Unit := ()
def PySem.W.Fast.tw13215763970552902095 : Unit := ()
def PySem.W.Fast.tw11668261552983519268 : Unit := ()
def PySem.W.Fast.tw2848012335452882254 : Unit := ()
def PySem.W.Fast.tw9812613562353307673 : Unit := ()
def PySem.W.Fast.tw17493597868314437885 : Unit := ()
def PySem.W.Fast.tw1892961390593371173 : Unit := ()
def PySem.W.Fast.tw162567028225488582 : Unit := ()
def PySem.W.Fast.tw6909209310024828532 : Unit := ()
def PySem.W.Fast.tw17537066418933905889 : Unit := ()
def PySem.W.Fast.tw14431686752271875376 : Unit := ()
def PySem.W.Fast.tw15871061664898342619 : Unit := ()
def PySem.W.Fast.tw11581858652167970444 : Unit := ()
def PySem.W.Fast.tw12638067931457076228 : Unit := ()
def PySem.W.Fast.tw2232436002204330535 : Unit := ()
def PySem.W.Fast.tw2098465545515217536 : Unit := ()
def PySem.W.Fast.tw1680329968123723697 : Unit := ()
def PySem.W.Fast.tw3381362510883761427 : Unit := ()
def PySem.W.Fast.tw16713938022253618014 : Unit := ()
def PySem.W.Fast.tw7874970201896728327 : Unit := ()
def PySem.W.Fast.tw7669333830448547921 : Unit := ()
def PySem.W.Fast.tw2286443376146870016 : Unit := ()
def PySem.W.Fast.tw11641517232929119122 : Unit := ()
def PySem.W.Fast.tw7730315173290025343 : Unit := ()
def PySem.W.Fast.tw2927545146682535320 : Unit := ()
def PySem.W.Fast.tw13348569954616918190 : Unit := ()
def PySem.W.Fast.tw1585776479647447893 : Unit := ()
def PySem.W.Fast.tw16543567237192819225 : Unit := ()
def PySem.W.Fast.tw569124890209099485 : Unit := ()
def PySem.W.Fast.tw1613859119546583468 : Unit := ()
def PySem.W.Fast.tw17237409553684402144 : Unit := ()
def PySem.W.Fast.tw8339219419644974723 : Unit := ()
def PySem.W.Fast.tw15997237357365986929 : Unit := ()
def PySem.W.Fast.tw11437109073404597938 : Unit := ()
def PySem.W.Fast.tw501976529478027082 : Unit := ()
def PySem.W.Fast.tw4520255629315089810 : Unit := ()
def PySem.W.Fast.tw16843533987599941145 : Unit := ()
def PySem.W.Fast.tw1466019145089616598 : Unit := ()
def PySem.W.Fast.tw11958990563654892723 : Unit := ()
def PySem.W.Fast.tw3347990658880277156 : Unit := ()
def PySem.W.Fast.tw12978208912352202083 : Unit := ()
def PySem.W.Fast.tw6911456232374869752 : Unit := ()
def PySem.W.Fast.tw17480878950772741842 : Unit := ()
def PySem.W.Fast.tw2888113826313228399 : Unit := ()
def PySem.W.Fast.tw1709035578077823220 : Unit := ()
def PySem.W.Fast.tw3910249772386196177 : Unit := ()
def PySem.W.Fast.tw1774947029522000386 : Unit := ()
def PySem.W.Fast.tw8455008201687705255 : Unit := ()
def PySem.W.Fast.tw3983716150360382980 : Unit := ()
def PySem.W.Fast.tw7983501834509291308 : Unit := ()
def PySem.W.Fast.tw9060211076447647216 : Unit := ()
def PySem.W.Fast.tw11304818286741949362 : Unit := ()
def PySem.W.Fast.tw12689270794753372004 : Unit := ()
def PySem.W.Fast.tw11902336452018641252 : Unit := ()
def PySem.W.Fast.tw16481467496324772501 : Unit := ()
def PySem.W.Fast.tw5909789226231416965 : Unit := ()
def PySem.W.Fast.tw12252586604283555795 : Unit := ()
def PySem.W.Fast.tw8736086471370224183 : Unit := ()
def PySem.W.Fast.tw17650138328505009978 : Unit := ()
def PySem.W.Fast.tw14416252011412761562 : Unit := ()
def PySem.W.Fast.tw10195543426423789399 : Unit := ()
def PySem.W.Fast.tw14406047566132175943 : Unit := ()
def PySem.W.Fast.tw6876129582645667939 : Unit := ()
def PySem.W.Fast.tw3843724635990790397 : Unit := ()
def PySem.W.Fast.tw4019997987267823446 : Unit := ()
def PySem.W.Fast.tw2410257899037004391 : Unit := ()
open PySem PySem.W PyProof.Rows
set_option maxRecDepth 100000 in
set_option maxHeartbeats 0 in
theorem PySem.Challenge.cw_wirefloor_k09_free_spots_holds : PySem.Challenge.rw_wirefloor_k09_free_spots.Holds := by
  w_on; o_law; k_head; (case hw => w_witness2)
  k_fill
  refine K09.walk (l := PySem.Challenge.rw_wirefloor_k09_free_spots) rfl rfl (fun w h Y => PySem.W.kIn_of Y) ?F
  case F =>
    intro w mg fa h KX G hmg
    refine' K09.all_mk KX G hmg ?n_Thing ?n_Net ?n_Bundle ?n_Floor ?a0 ?l0 ?c0 ?k0 ?a1 ?l1 ?c1 ?k1 ?a2 ?l2 ?c2 ?k2 ?a3 ?l3 ?c3 ?k3 ?a4 ?l4 ?c4 ?k4 ?a5 ?l5 ?c5 ?k5 ?a6 ?l6 ?c6 ?k6 ?a7 ?l7 ?c7 ?k7 ?a8 ?i8 ?l8 ?d8 ?c8 ?k8 ?a9 ?i9 ?l9 ?c9 ?k9 ?a10 ?i10 ?l10 ?c10 ?k10 ?a11 ?l11 ?c11 ?k11 ?a12 ?l12 ?c12 ?k12 ?r13 ?q13 ?g13 ?l13 ?c13 ?k13 ?a14 ?i14 ?l14 ?d14 ?c14 ?k14 ?a15 ?i15 ?l15 ?c15 ?k15 ?a16 ?i16 ?l16 ?d16 ?c16 ?k16 ?a17 ?i17 ?l17 ?c17 ?k17 ?a18 ?l18 ?c18 ?k18 ?a19 ?l19 ?c19 ?k19 ?a20 ?l20 ?c20 ?k20 ?a21 ?l21 ?c21 ?k21 ?a22 ?l22 ?c22 ?k22 ?a23 ?l23 ?c23 ?k23 ?a24 ?l24 ?c24 ?k24 ?a25 ?l25 ?c25 ?k25 ?a26 ?l26 ?c26 ?k26 ?a27 ?l27 ?c27 ?k27 ?a28 ?l28 ?c28 ?k28 ?a29 ?l29 ?c29 ?k29 ?a30 ?l30 ?c30 ?k30 ?a31 ?l31 ?c31 ?k31 ?a32 ?l32 ?c32 ?k32 ?a33 ?l33 ?c33 ?k33 ?a34 ?l34 ?c34 ?k34 ?a35 ?l35 ?c35 ?k35 ?a36 ?l36 ?c36 ?k36 ?pg_Thing ?hd_Thing ?po_Thing ?sa_Thing ?pg_Net ?hd_Net ?po_Net ?sa_Net ?mk_Net ?kc_Net ?na_Net_name ?na_Net_half ?na_Net_room ?na_Net_pins ?pg_Bundle ?hd_Bundle ?po_Bundle ?sa_Bundle ?mk_Bundle ?kc_Bundle ?na_Bundle_name ?na_Bundle_half ?na_Bundle_room ?na_Bundle_starts ?na_Bundle_goals ?pg_Floor ?hd_Floor ?po_Floor ?sa_Floor ?mk_Floor ?kc_Floor ?na_Floor_sizes ?na_Floor_prices ?na_Floor_vias ?na_Floor_rocks ?na_Floor_tolls ?z_len ?z_range ?z_isinstance ?z_int ?z_bool ?z_tuple ?z_set ?z_list ?z_dict ?z_str ?z_all ?z_any ?z_zip ?z_min ?z_max ?z_abs ?z_sorted ?z_divmod ?z_ValueError ?q_MOST_PRICE ?q_LETTERS ?q_FIGURES ?q_MOST_SIGNS ?q_MOST_HALF ?q_MOST_ROOM ?q_MOST_PINS ?q_MOST_STARTS ?q_MOST_GOALS ?q_MOST_SIZES ?qt_MOST_SIZES ?ll ?dd
    (case n_Thing => k_is)
    (case n_Net => k_is)
    (case n_Bundle => k_is)
    (case n_Floor => k_is)
    (case a0 => k_is)
    (case l0 => k_is)
    (case c0 => k_is)
    (case k0 => k_is)
    (case a1 => k_is)
    (case l1 => k_is)
    (case c1 => k_is)
    (case k1 => k_is)
    (case a2 => k_is)
    (case l2 => k_is)
    (case c2 => k_is)
    (case k2 => k_is)
    (case a3 => k_is)
    (case l3 => k_is)
    (case c3 => k_is)
    (case k3 => k_is)
    (case a4 => k_is)
    (case l4 => k_is)
    (case c4 => k_is)
    (case k4 => k_is)
    (case a5 => k_is)
    (case l5 => k_is)
    (case c5 => k_is)
    (case k5 => k_is)
    (case a6 => k_is)
    (case l6 => k_is)
    (case c6 => k_is)
    (case k6 => k_is)
    (case a7 => k_is)
    (case l7 => k_is)
    (case c7 => k_is)
    (case k7 => k_is)
    (case a8 => k_is)
    (case i8 => k_is)
    (case l8 => k_is)
    (case d8 => k_is)
    (case c8 => k_is)
    (case k8 => k_is)
    (case a9 => k_is)
    (case i9 => k_is)
    (case l9 => k_is)
    (case c9 => k_is)
    (case k9 => k_is)
    (case a10 => k_is)
    (case i10 => k_is)
    (case l10 => k_is)
    (case c10 => k_is)
    (case k10 => k_is)
    (case a11 => k_is)
    (case l11 => k_is)
    (case c11 => k_is)
    (case k11 => k_is)
    (case a12 => k_is)
    (case l12 => k_is)
    (case c12 => k_is)
    (case k12 => k_is)
    (case r13 => k_is)
    (case q13 => k_is)
    (case g13 => k_is)
    (case l13 => k_is)
    (case c13 => k_is)
    (case k13 => k_is)
    (case a14 => k_is)
    (case i14 => k_is)
    (case l14 => k_is)
    (case d14 => k_is)
    (case c14 => k_is)
    (case k14 => k_is)
    (case a15 => k_is)
    (case i15 => k_is)
    (case l15 => k_is)
    (case c15 => k_is)
    (case k15 => k_is)
    (case a16 => k_is)
    (case i16 => k_is)
    (case l16 => k_is)
    (case d16 => k_is)
    (case c16 => k_is)
    (case k16 => k_is)
    (case a17 => k_is)
    (case i17 => k_is)
    (case l17 => k_is)
    (case c17 => k_is)
    (case k17 => k_is)
    (case a18 => k_is)
    (case l18 => k_is)
    (case c18 => k_is)
    (case k18 => k_is)
    (case a19 => k_is)
    (case l19 => k_is)
    (case c19 => k_is)
    (case k19 => k_is)
    (case a20 => k_is)
    (case l20 => k_is)
    (case c20 => k_is)
    (case k20 => k_is)
    (case a21 => k_is)
    (case l21 => k_is)
    (case c21 => k_is)
    (case k21 => k_is)
    (case a22 => k_is)
    (case l22 => k_is)
    (case c22 => k_is)
    (case k22 => k_is)
    (case a23 => k_is)
    (case l23 => k_is)
    (case c23 => k_is)
    (case k23 => k_is)
    (case a24 => k_is)
    (case l24 => k_is)
    (case c24 => k_is)
    (case k24 => k_is)
    (case a25 => k_is)
    (case l25 => k_is)
    (case c25 => k_is)
    (case k25 => k_is)
    (case a26 => k_is)
    (case l26 => k_is)
    (case c26 => k_is)
    (case k26 => k_is)
    (case a27 => k_is)
    (case l27 => k_is)
    (case c27 => k_is)
    (case k27 => k_is)
    (case a28 => k_is)
    (case l28 => k_is)
    (case c28 => k_is)
    (case k28 => k_is)
    (case a29 => k_is)
    (case l29 => k_is)
    (case c29 => k_is)
    (case k29 => k_is)
    (case a30 => k_is)
    (case l30 => k_is)
    (case c30 => k_is)
    (case k30 => k_is)
    (case a31 => k_is)
    (case l31 => k_is)
    (case c31 => k_is)
    (case k31 => k_is)
    (case a32 => k_is)
    (case l32 => k_is)
    (case c32 => k_is)
    (case k32 => k_is)
    (case a33 => k_is)
    (case l33 => k_is)
    (case c33 => k_is)
    (case k33 => k_is)
    (case a34 => k_is)
    (case l34 => k_is)
    (case c34 => k_is)
    (case k34 => k_is)
    (case a35 => k_is)
    (case l35 => k_is)
    (case c35 => k_is)
    (case k35 => k_is)
    (case a36 => k_is)
    (case l36 => k_is)
    (case c36 => k_is)
    (case k36 => k_is)
    (case pg_Thing => k_is)
    (case hd_Thing => k_is)
    (case po_Thing => k_is)
    (case sa_Thing => k_is)
    (case pg_Net => k_is)
    (case hd_Net => k_is)
    (case po_Net => k_is)
    (case sa_Net => k_is)
    (case mk_Net => k_is)
    (case kc_Net => k_is)
    (case na_Net_name => k_is)
    (case na_Net_half => k_is)
    (case na_Net_room => k_is)
    (case na_Net_pins => k_is)
    (case pg_Bundle => k_is)
    (case hd_Bundle => k_is)
    (case po_Bundle => k_is)
    (case sa_Bundle => k_is)
    (case mk_Bundle => k_is)
    (case kc_Bundle => k_is)
    (case na_Bundle_name => k_is)
    (case na_Bundle_half => k_is)
    (case na_Bundle_room => k_is)
    (case na_Bundle_starts => k_is)
    (case na_Bundle_goals => k_is)
    (case pg_Floor => k_is)
    (case hd_Floor => k_is)
    (case po_Floor => k_is)
    (case sa_Floor => k_is)
    (case mk_Floor => k_is)
    (case kc_Floor => k_is)
    (case na_Floor_sizes => k_is)
    (case na_Floor_prices => k_is)
    (case na_Floor_vias => k_is)
    (case na_Floor_rocks => k_is)
    (case na_Floor_tolls => k_is)
    (case z_len => k_is)
    (case z_range => k_is)
    (case z_isinstance => k_is)
    (case z_int => k_is)
    (case z_bool => k_is)
    (case z_tuple => k_is)
    (case z_set => k_is)
    (case z_list => k_is)
    (case z_dict => k_is)
    (case z_str => k_is)
    (case z_all => k_is)
    (case z_any => k_is)
    (case z_zip => k_is)
    (case z_min => k_is)
    (case z_max => k_is)
    (case z_abs => k_is)
    (case z_sorted => k_is)
    (case z_divmod => k_is)
    (case z_ValueError => k_is)
    (case q_MOST_PRICE => k_is)
    (case q_LETTERS => k_is)
    (case q_FIGURES => k_is)
    (case q_MOST_SIGNS => k_is)
    (case q_MOST_HALF => k_is)
    (case q_MOST_ROOM => k_is)
    (case q_MOST_PINS => k_is)
    (case q_MOST_STARTS => k_is)
    (case q_MOST_GOALS => k_is)
    (case q_MOST_SIZES => k_is)
    (case qt_MOST_SIZES => k_is)
    (case ll => kit_is)
    (case dd => kit_is)
