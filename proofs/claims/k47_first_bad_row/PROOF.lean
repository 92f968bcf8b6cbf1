import PyProof.Rows.All
import Wide.All
import OpenK.AllK
import Wide.FinOn
import Lean
import PyProof.EqAt
import PyProof.EqKinds
import PyProof.TupleCall
import OpenK.KRaise
import OpenK.KOwn
import KE.KTryMore
import KE.RegKTryMore
import PyProof.ExcArgsOwn
import KE.KIntText
import KE.KSortTup
import KE.KDictOf
import KE.KRevIter
import KE.KEqDict
import PyProof.Rows.SetFrom
import PyProof.TupleKey
import PyProof.Rows.SetObj
import PyProof.SetRoads
import PyProof.IsiH_list
import PyProof.ZipIter
import PyProof.Rows.TupIter
import PyProof.DictValues
import PyProof.DictWalks
import KE.KDictSum
import KE.KNest
import KE.KLam
import KE.KNestM
import KE.KDictList
import KE.KDictLaws
import PyProof.Rows.SetFrom
import PyProof.TupleKey
import PyProof.Rows.SetObj
import PyProof.SetRoads
import PyProof.StrLawsRepr
import PyProof.ReprStr
import PyProof.FString
import PyProof.EnumMake
import PySem.Challenge.RW_wirefloor_k47_first_bad_row
set_option Elab.async false
set_option linter.all false
set_option maxRecDepth 100000
noncomputable section
namespace L2
open PySem PySem.Spec PyProof.Rows
abbrev Key:=Sum Int Str
noncomputable def keyIs:Key→Value→Bool
 | .inl k,v=>Value.isInt k v
 | .inr x,v=>Value.isStrOf x v
noncomputable def keyH (w:World):Key→Int
 | .inl k=>hashInt k
 | .inr x=>hashStr w x
theorem keyIs_shape:∀{k:Key} {v:Value},keyIs k v=true→(∃i t,k=Sum.inl i∧v=Value.int i t)∨(∃x t,k=Sum.inr x∧v=Value.str x t)
 | .inl i,v,h=>by
  obtain⟨t,e⟩:=Value.isInt_shape (k:=i) (v:=v) h
  exact .inl ⟨i,t,rfl,e⟩
 | .inr x,v,h=>by
  obtain⟨t,e⟩:=Value.isStrOf_shape (x:=x) (v:=v) h
  exact .inr ⟨x,t,rfl,e⟩
theorem keyIs_int (i:Int)(t:Tok):keyIs (.inl i) (.int i t)=true:=by simp[keyIs,Value.isInt]
theorem keyIs_str (x:Str)(t:Tok):keyIs (.inr x) (.str x t)=true:=by simp[keyIs,Value.isStrOf]
theorem key_ll (a b:Int):decide ((Sum.inl a:Key)=Sum.inl b)=(a==b):=by
 by_cases e:a=b
 ·subst e;simp
 ·have h:¬(Sum.inl a:Key)=Sum.inl b:=fun q=>e (Sum.inl.inj q)
  rw[decide_eq_false h]
  exact(beq_eq_false_iff_ne.mpr e).symm
theorem key_rr (a b:Str):decide ((Sum.inr a:Key)=Sum.inr b)=decide (a=b):=by
 by_cases e:a=b
 ·subst e;simp
 ·have h:¬(Sum.inr a:Key)=Sum.inr b:=fun q=>e (Sum.inr.inj q)
  rw[decide_eq_false h,decide_eq_false e]
theorem key_lr (a:Int)(b:Str):decide ((Sum.inl a:Key)=Sum.inr b)=false:=decide_eq_false (fun q=>nomatch q)
theorem key_rl (a:Str)(b:Int):decide ((Sum.inr a:Key)=Sum.inl b)=false:=decide_eq_false (fun q=>nomatch q)
noncomputable def mixKind (prog:Program) (w:World):PySem.KeyKind prog w Key where
 is:=keyIs
 hash:=keyH w
 inj:=fun v a b ha hb=>by
  rcases keyIs_shape ha with ⟨i,t,rfl,rfl⟩|⟨x,t,rfl,rfl⟩
  ·rcases keyIs_shape hb with ⟨j,u,rfl,e⟩|⟨y,u,rfl,e⟩
   ·injection e with e1 _;rw[e1]
   ·exact nomatch e
  ·rcases keyIs_shape hb with ⟨j,u,rfl,e⟩|⟨y,u,rfl,e⟩
   ·exact nomatch e
   ·injection e with e1 _;rw[e1]
 byValue:=fun k v h=>by
  rcases keyIs_shape h with ⟨i,t,rfl,rfl⟩|⟨x,t,rfl,rfl⟩<;>rfl
 pyHash:=fun hv h=>by
  rcases keyIs_shape hv with ⟨i,t,rfl,rfl⟩|⟨x,t,rfl,rfl⟩
  ·exact wpAny_pyHash_int h
  ·exact wpAny_pyHash_str h
 eqBool:=fun hu hv h=>by
  rcases keyIs_shape hu with ⟨i,t,rfl,rfl⟩|⟨x,t,rfl,rfl⟩
  ·rcases keyIs_shape hv with ⟨j,u,rfl,rfl⟩|⟨y,u,rfl,rfl⟩
   ·rw[key_ll] at h;exact wpAny_eqBool_int h
   ·rw[key_lr] at h;exact SeqAt.EqAt.int_str i t y u _ _ _ _ h
  ·rcases keyIs_shape hv with ⟨j,u,rfl,rfl⟩|⟨y,u,rfl,rfl⟩
   ·rw[key_rl] at h;exact SeqAt.EqAt.str_int x t j u _ _ _ _ h
   ·rw[key_rr] at h;exact wpAny_eqBool_str h
 «strs»:=fun k x t v h=>by
  rcases keyIs_shape h with ⟨i,u,rfl,e⟩|⟨y,u,rfl,e⟩
  ·exact nomatch e
  ·injection e with e1 _
   subst e1
   cases v<;>rfl
theorem mixKind_int (prog:Program)(w:World)(i:Int)(t:Tok):(mixKind prog w).is (.inl i) (.int i t)=true:=keyIs_int i t
theorem mixKind_str (prog:Program)(w:World)(x:Str)(t:Tok):(mixKind prog w).is (.inr x) (.str x t)=true:=keyIs_str x t
inductive V where
 |non|bl (b:Bool)|int (i:Int)|str (x:Str)|byt (b:Array UInt8)|flt (b:UInt64)|ref (a:Addr)|ty (n:String)
 deriving DecidableEq
noncomputable def RelV:V→Value→Prop
 | .non,u=>u=Value.none
 | .bl b,u=>u=Value.bool b
 | .int i,u=>∃t,u=Value.int i t
 | .str x,u=>∃t,u=Value.str x t
 | .byt b,u=>∃t,u=Value.bytes b t
 | .flt b,u=>∃t,u=Value.float b t
 | .ref a,u=>u=Value.ref a
 | .ty n,u=>u=Value.type n
abbrev Vals:List V→List Value→Prop:=Paired RelV
theorem Vals.length {xs:List V}{us:List Value}(r:Vals xs us):xs.length=us.length:=Paired.length r
theorem Vals.get:∀{xs:List V} {us:List Value} {i:Nat} {x:V},Vals xs us→xs[i]?=some x→∃u,us[i]?=some u∧RelV x u
 |_,_,_,_,.nil,e=>by simp at e
 |_,_,0,_,.cons r _,e=>by simp at e;subst e;exact⟨_,rfl,r⟩
 |_,_,i+1,x,.cons _ t,e=>by
  obtain⟨u,h1,h2⟩:=Vals.get (i:=i) (x:=x) t (by simpa using e)
  exact⟨u,by simpa using h1,h2⟩
theorem Vals.append:∀{xs ys:List V} {us ws:List Value},Vals xs us→Vals ys ws→Vals (xs++ys) (us++ws)
 |_,_,_,_,.nil,s=>s
 |_,_,_,_,.cons r t,s=> .cons r (Vals.append t s)
theorem Vals.take:∀{xs:List V} {us:List Value} (n:Nat),Vals xs us→Vals (xs.take n) (us.take n)
 |_,_,0,_=> .nil
 |_,_,_+1,.nil=> .nil
 |_,_,n+1,.cons r t=> .cons r (Vals.take n t)
theorem Vals.drop:∀{xs:List V} {us:List Value} (n:Nat),Vals xs us→Vals (xs.drop n) (us.drop n)
 |_,_,0,r=>r
 |_,_,_+1,.nil=> .nil
 |_,_,n+1,.cons _ t=>Vals.drop n t
noncomputable def RelO:Option V→Option Value→Prop
 |some v,some u=>RelV v u
 |none,none=>True
 |_,_=>False
def KV {κ:Type}:List (κ×V)→List (κ×Value)→Prop:=Paired fun(p:κ×V) (q:κ×Value)=>p.1=q.1∧RelV p.2 q.2
def kV:Key→V
 | .inl i=> .int i
 | .inr x=> .str x
inductive HO where
 |lst (xs:List V)
 |tup (xs:List V)
 |dK (kvs:List (Key×V))|dT (kvs:List (List Key×V))
 |set (S:Int→Bool) (n:Nat)
 |ins (C dx:Addr) (fs:List (Str×V))
 |own (x:Addr)
 |xd (fs:List (Str×V))
 |met (f x:Addr)
 |rng (lo hi:Int)
 |frz (o:Obj) (u:HO)
 |tbl (ps:Array Value)
 |ext (φ:Heap→Prop)
abbrev Hp:=Addr→Option HO
noncomputable def upd (H:Hp) (a:Addr) (o:HO):Hp:=fun b=>if b=a then some o else H b
theorem upd_same {H:Hp}{a:Addr}{o:HO}:upd H a o a=some o:=by unfold upd;rw[if_pos rfl]
theorem upd_ne {H:Hp}{a b:Addr}{o:HO}(h:b≠a):upd H a o b=H b:=by unfold upd;rw[if_neg h]
theorem upd_upd {H:Hp}{a:Addr}{o u:HO}:upd (upd H a o) a u=upd H a u:=by
 funext b;unfold upd;split<;>rfl
theorem ne_of {H:Hp}{a b:Addr}{o u:HO}(h:H a=some o)(h':H b=some u)(d:o≠u):a≠b:=by
 intro e;subst e;rw[h] at h';exact d (Option.some.inj h')
theorem ne_of_none {H:Hp}{a b:Addr}{o:HO}(h:H a=some o)(h':H b=none):a≠b:=by
 intro e;subst e;rw[h] at h';cases h'
section
variable (P:Program) (w:World)
noncomputable def ObjOk (H:Hp) (h:Heap) (a:Addr):HO→Prop
 | .lst xs=>xs.length≤sizeLine∧∃(its:List Value) (n:Nat),Vals xs its∧h.get? a=some {cls:=.type "list",data:=.seq its.toArray n}
 | .tup xs=>xs.length≤sizeLine∧∃its:List Value,Vals xs its∧IsTup h a its.toArray
 | .dK kvs=>kvs.length≤sizeLine∧(a==sysModules)=false∧∃vs,KV kvs vs∧h.DictOf (mixKind P w) a vs
 | .dT kvs=>kvs.length≤sizeLine∧(a==sysModules)=false∧∃xs:List (List Key×Addr×Value),
   Paired (fun(p:List Key×V) (q:List Key×Addr×Value)=>p.1=q.1∧H q.2.1=some (.tup (p.1.map kV))∧RelV p.2 q.2.2) kvs xs∧
   ∃o es ep,h.get? a=some o∧o.ExactDict∧o.data=.dict es ep∧es.toList=xs.map (entryOfKey (tupleKind (mixKind P w)))∧(xs.map (·.1)).Nodup
 | .set S n=>h.SetOf (intKind P w) a S n
 | .ins C dx fs=>H dx=some (.own a)∧fs.length≤1000∧dx≠a∧h.get? a=some (PySem.W.instObj C dx)∧
   ∃mA,h.Ns1 dx mA∧(∀f,RelO (fs.lookup f) (mA f))∧PySem.Within mA (fs.map (·.1))
 | .own _=>∃o,h.get? a=some o
 | .xd fs=>∃mA,h.Ns1 a mA∧∀f,RelO (fs.lookup f) (mA f)
 | .rng lo hi=>∃t u v,h.get? a=some {cls:=.type "range",data:=.fields #[.int lo t,.int hi u,.int 1 v]}
 | .frz o u=>h.get? a=some o∧ObjOk H h a u
 | .tbl ps=>h.get? a=some {cls:=.none,data:=.fields ps}
 | .met f x=>h.get? a=some (PySem.W.methodObj (.ref f) (.ref x))
 | .ext φ=>φ h∧(∃o,h.get? a=some o)∧∀h1 h2:Heap,φ h1→(∀o,h1.get? a=some o→h2.get? a=some o)→φ h2
def HOk (H:Hp) (h:Heap):Prop:=∀a o,H a=some o→ObjOk P w H h a o
end
section
variable {P:Program} {w:World} {H H':Hp} {h h':Heap} {a:Addr} {o:HO}
theorem ObjOk.lt (x:ObjOk P w H h a o):a<h.objs.size:=by
 cases o with
 |lst xs=>obtain⟨_,_,_,_,e⟩:=x;exact Heap.lt_size e
 |tup xs=>obtain⟨_,_,_,p⟩:=x;exact p.lt
 |dK kvs=>obtain⟨_,_,_,_,o,_,_,e,_⟩:=x;exact Heap.lt_size e
 |dT kvs=>obtain⟨_,_,_,_,o,_,_,e,_⟩:=x;exact Heap.lt_size e
 |set S n=>obtain⟨o,_,_,_,e,_⟩:=x;exact Heap.lt_size e
 |ins C dx fs=>obtain⟨_,_,_,e,_⟩:=x;exact Heap.lt_size e
 |own y=>obtain⟨_,e⟩:=x;exact Heap.lt_size e
 |xd fs=>obtain⟨_,⟨_,_,_,e,_⟩,_⟩:=x;exact Heap.lt_size e
 |rng lo hi=>obtain⟨_,_,_,e⟩:=x;exact Heap.lt_size e
 |frz ob u=>obtain⟨e,_⟩:=x;exact Heap.lt_size e
 |tbl ps=>exact Heap.lt_size (show h.get? a=some _ from x)
 |met f y=>exact Heap.lt_size (show h.get? a=some _ from x)
 |ext φ=>obtain⟨_,⟨_,e⟩,_⟩:=x;exact Heap.lt_size e
theorem Paired.mapP {α β:Type}{F G:α→β→Prop}:∀{l₁:List α} {l₂:List β},Paired F l₁ l₂→(∀a b,F a b→G a b)→Paired G l₁ l₂
 |_,_,.nil,_=> .nil
 |_,_,.cons r t,f=> .cons (f _ _ r) (Paired.mapP t f)
theorem ObjOk.stay (x:ObjOk P w H h a o)(k:∀b u,(b=a∨H b=some (.own a))→h.get? b=some u→h'.get? b=some u)
  (ho:∀b,H b=some (.own a)→H' b=some (.own a)) (ht:∀b xs,H b=some (.tup xs)→H' b=some (.tup xs)):ObjOk P w H' h' a o:=by
 induction o with
 |lst xs=>obtain⟨z,its,n,r,e⟩:=x;exact⟨z,its,n,r,k _ _ (.inl rfl) e⟩
 |tup xs=>obtain⟨z,its,r,ob,e,c⟩:=x;exact⟨z,its,r,ob,k _ _ (.inl rfl) e,c⟩
 |dK kvs=>obtain⟨z,y,vs,r,ob,es,ep,e,c⟩:=x;exact⟨z,y,vs,r,ob,es,ep,k _ _ (.inl rfl) e,c⟩
 |dT kvs=>
  obtain⟨z,y,xs,r,ob,es,ep,e,c⟩:=x
  exact⟨z,y,xs,Paired.mapP r fun p q z=>⟨z.1,ht _ _ z.2.1,z.2.2⟩,ob,es,ep,k _ _ (.inl rfl) e,c⟩
 |set S n=>obtain⟨ob,es,ep,t,e,c⟩:=x;exact⟨ob,es,ep,t,k _ _ (.inl rfl) e,c⟩
 |ins C dx fs=>
  obtain⟨d,z,ne,e,mA,⟨od,es,ep,e2,c⟩,r⟩:=x
  exact⟨ho _ d,z,ne,k _ _ (.inl rfl) e,mA,⟨od,es,ep,k _ _ (.inr d) e2,c⟩,r⟩
 |own y=>obtain⟨ob,e⟩:=x;exact⟨ob,k _ _ (.inl rfl) e⟩
 |xd fs=>obtain⟨mA,⟨od,es,ep,e,c⟩,r⟩:=x;exact⟨mA,⟨od,es,ep,k _ _ (.inl rfl) e,c⟩,r⟩
 |rng lo hi=>obtain⟨t,u,v,e⟩:=x;exact⟨t,u,v,k _ _ (.inl rfl) e⟩
 |frz ob u ih=>obtain⟨e,q⟩:=x;exact⟨k _ _ (.inl rfl) e,ih q⟩
 |tbl ps=>
  have e:h.get? a=some {cls:=.none,data:=.fields ps}:=x
  show h'.get? a=some {cls:=.none,data:=.fields ps}
  exact k a _ (.inl rfl) e
 |met f y=>
  have e:h.get? a=some (PySem.W.methodObj (.ref f) (.ref y)):=x
  show h'.get? a=some (PySem.W.methodObj (.ref f) (.ref y))
  exact k a _ (.inl rfl) e
 |ext φ=>obtain⟨p,⟨o,e⟩,st⟩:=x;exact⟨st _ _ p fun o q=>k _ _ (.inl rfl) q,⟨o,k _ _ (.inl rfl) e⟩,st⟩
theorem HOk.lt (x:HOk P w H h)(e:H a=some o):a<h.objs.size:=(x a o e).lt
theorem HOk.fresh (x:HOk P w H h)(e:h.objs.size≤a):H a=none:=by
 cases q:H a with
 |none=>rfl
 |some u=>exact absurd (Nat.lt_of_lt_of_le (x.lt q) e) (Nat.lt_irrefl _)
theorem HOk.kept (x:HOk P w H h)(k:∀b u,h.get? b=some u→h'.get? b=some u):HOk P w H h':=fun a o e=>
 (x a o e).stay (fun b u _ q=>k b u q) (fun _ q=>q) fun _ _ q=>q
theorem HOk.laid (x:HOk P w H h)(k:∀b u,h.get? b=some u→h'.get? b=some u)(hp:h.objs.size≤a)(new:ObjOk P w (upd H a o) h' a o):HOk P w (upd H a o) h':=fun b u e=>by
 have hn:=x.fresh hp
 by_cases hb:b=a
 ·subst hb;rw[upd_same] at e;cases e;exact new
 ·rw[upd_ne hb] at e
  exact(x b u e).stay (fun c v _ q=>k c v q) (fun c q=>by rw[upd_ne (ne_of_none q hn)];exact q) fun c xs q=>by rw[upd_ne (ne_of_none q hn)];exact q
end
def Rd (H:Hp) (a:Addr) (u:HO):Prop:=H a=some u∨∃o,H a=some (.frz o u)
theorem Rd.ok {P:Program}{w:World}{H:Hp}{h:Heap}{a:Addr}{u:HO}(r:Rd H a u)(x:HOk P w H h):ObjOk P w H h a u:=by
 rcases r with r|⟨o,r⟩
 ·exact x a u r
 ·obtain⟨_,q⟩:=x a _ r
  exact q
noncomputable def Mut:Option HO→Prop
 |some (.lst _)=>True
 |some (.dK _)=>True
 |some (.dT _)=>True
 |some (.set _ _)=>True
 |some (.ins _ _ _)=>True
 |some (.ext _)=>True
 |_=>False
section
variable {P:Program} {w:World} {H:Hp} {h h':Heap} {x e:Addr} {o':HO}
theorem HOk.write (ok:HOk P w H h)(mu:Mut (H x))(he:e=x∨H e=some (.own x))(k:∀b u,b≠e→h.get? b=some u→h'.get? b=some u)(heo:∃u,h'.get? e=some u)
  (new:ObjOk P w (upd H x o') h' x o'):HOk P w (upd H x o') h':=fun b u q=>by
 have nown:∀c y,H c=some (.own y)→c≠x:=fun c y r z=>by subst z;rw[r] at mu;exact mu
 have ntup:∀c xs,H c=some (.tup xs)→c≠x:=fun c xs r z=>by subst z;rw[r] at mu;exact mu
 by_cases hb:b=x
 ·subst hb;rw[upd_same] at q;cases q;exact new
 ·rw[upd_ne hb] at q
  by_cases hbe:b=e
  ·have q':H b=some (.own x):=by
    rcases he with z|z
    ·exact absurd (hbe.trans z) hb
    ·rw[hbe];exact z
   rw[q] at q';cases q'
   obtain⟨v,hv⟩:=heo
   exact⟨v,by rw[hbe];exact hv⟩
  ·refine(ok b u q).stay (fun c v hc r=>k c v ?_ r) (fun c r=>by rw[upd_ne (nown c b r)];exact r) fun c xs r=>by rw[upd_ne (ntup c xs r)];exact r
   rcases hc with rfl|hc
   ·exact hbe
   ·rintro rfl
    rcases he with z|z
    ·exact nown c b hc z
    ·rw[hc] at z;cases z;exact hb rfl
end
structure Un (fs ex:List Addr) (H H':Hp) (h h':Heap):Prop where
 keep:∀b o,h.get? b=some o→H b=none→b∉fs→b∉ex→h'.get? b=some o
 slot:∀b o,h.get? b=some o→H b=none→b∈fs→b∉ex→∃sl,h'.get? b=some {o with slots:=sl}
 free:∀b o,h.get? b=some o→H b=none→b∉ex→H' b=none
 there:∀b o,h.get? b=some o→b∉ex→∃o',h'.get? b=some o'
 tups:∀b xs,H b=some (.tup xs)→H' b=some (.tup xs)
 frzs:∀b o u,H b=some (.frz o u)→H' b=some (.frz o u)
 tbls:∀b ps,H b=some (.tbl ps)→∃more,H' b=some (.tbl (ps++more))
section
variable {fs fs' ex ex':List Addr} {H H1 H2:Hp} {h h1 h2 h':Heap} {a x e:Addr} {o:HO}
theorem Un.any (u:Un fs ex H H1 h h1){b:Addr}{ob:Obj}(q:h.get? b=some ob)(n:H b=none)(hx:b∉ex):∃sl,h1.get? b=some {ob with slots:=sl}:=by
 by_cases hb:b∈fs
 ·exact u.slot b ob q n hb hx
 ·exact⟨ob.slots,u.keep b ob q n hb hx⟩
theorem Un.kept (k:∀b u,h.get? b=some u→h'.get? b=some u):Un fs ex H H h h':=
 ⟨fun b ob q _ _ _=>k b ob q,fun b ob q _ _ _=>⟨ob.slots,k b ob q⟩,fun _ _ _ n _=>n,fun b ob q _=>⟨ob,k b ob q⟩,fun _ _ q=>q,fun _ _ _ q=>q,fun _ ps q=>⟨#[],by rw[q];simp⟩⟩
theorem Un.refl:Un fs ex H H h h:=Un.kept fun _ _ q=>q
theorem Un.laid (k:∀b u,h.get? b=some u→h'.get? b=some u)(hp:h.objs.size≤a)(hn:H a=none):Un fs ex H (upd H a o) h h' where
 keep:=fun b u q _ _ _=>k b u q
 slot:=fun b u q _ _ _=>⟨u.slots,k b u q⟩
 free:=fun b u q n _=>by rw[upd_ne (Nat.ne_of_lt (Nat.lt_of_lt_of_le (Heap.lt_size q) hp))];exact n
 there:=fun b u q _=>⟨u,k b u q⟩
 tups:=fun b xs q=>by rw[upd_ne (ne_of_none q hn)];exact q
 frzs:=fun b u xs q=>by rw[upd_ne (ne_of_none q hn)];exact q
 tbls:=fun b ps q=>⟨#[],by rw[upd_ne (ne_of_none q hn),q];simp⟩
theorem Un.write (mu:Mut (H x))(he:e=x∨H e=some (.own x))(k:∀b u,b≠e→h.get? b=some u→h'.get? b=some u)(heo:∃u,h'.get? e=some u):Un fs ex H (upd H x o) h h':=by
 have hx:∀b,H b=none→b≠x:=fun b n z=>by subst z;rw[n] at mu;exact mu
 have hb:∀b,H b=none→b≠e:=fun b n z=>by
  subst z
  rcases he with r|r
  ·exact hx b n r
  ·rw[n] at r;cases r
 have hm:∀b u,H b=some u→¬Mut (some u)→b≠x:=fun b u q nm z=>by subst z;rw[q] at mu;exact nm mu
 refine⟨fun b u q n _ _=>k b u (hb b n) q,fun b u q n _ _=>⟨u.slots,k b u (hb b n) q⟩,fun b u q n _=>by rw[upd_ne (hx b n)];exact n,fun b u q _=>?_,
  fun b xs q=>by rw[upd_ne (hm b _ q fun z=>z)];exact q,fun b u xs q=>by rw[upd_ne (hm b _ q fun z=>z)];exact q,fun b ps q=>⟨#[],by rw[upd_ne (hm b _ q fun z=>z),q];simp⟩⟩
 by_cases hbe:b=e
 ·subst hbe;exact heo
 ·exact⟨u,k b u hbe q⟩
end
noncomputable def trk (h:Heap) (H:Hp):List Addr:=(List.range h.objs.size).filter fun a=>(H a).isSome
def hidT (h:Heap) (H:Hp):Heap:=PySem.W.hideAll h (trk h H)
theorem hidT_size (h:Heap)(H:Hp):(hidT h H).objs.size=h.objs.size:=PySem.W.hideAll_size _ _
theorem hidT_get {h:Heap}{H:Hp}{b:Addr}{o:Obj}(e:h.get? b=some o)(n:H b=none):(hidT h H).get? b=some o:=
 PySem.W.hideAll_get _ e fun hm=>by
  have q:(H b).isSome=true:=(List.mem_filter.mp hm).2
  rw[n] at q;simp at q
theorem of_hidT {h:Heap}{H:Hp}{b:Addr}{o:Obj}(e:(hidT h H).get? b=some o):h.get? b=some o∧H b=none:=by
 have e':h.get? b=some o:=PySem.W.of_hideAll (trk h H) e
 refine⟨e',?_⟩
 cases q:H b with
 |none=>rfl
 |some x=>
  have hm:b∈trk h H:=List.mem_filter.mpr ⟨List.mem_range.mpr (Heap.lt_size e'),by simp[q]⟩
  have z:(hidT h H).get? b=none:=PySem.W.hideAll_none (trk h H) hm
  rw[z] at e;cases e
noncomputable def allNews (g h:Heap) (L:Addr):List (Addr×Obj):=(List.range h.objs.size).filterMap fun a=>if a=L∨(g.get? a).isSome=true then none else (h.get? a).map fun o=>(a,o)
theorem mem_allNews {g h:Heap}{L a:Addr}{o:Obj}(h1:a≠L)(h2:g.get? a=none)(h3:h.get? a=some o):(a,o)∈allNews g h L:=
 List.mem_filterMap.mpr ⟨a,List.mem_range.mpr (Heap.lt_size h3),by simp[h1,h2,h3]⟩
theorem of_mem_allNews {g h:Heap}{L:Addr}{p:Addr×Obj}(hp:p∈allNews g h L):p.1≠L∧g.get? p.1=none∧h.get? p.1=some p.2:=by
 obtain⟨b,_,e⟩:=List.mem_filterMap.mp hp
 split at e
 ·cases e
 ·rename_i hn
  cases q:h.get? b with
  |none=>rw[q] at e;simp at e
  |some u=>
   rw[q] at e
   simp only[Option.map_some,Option.some.injEq] at e
   subst e
   refine⟨fun z=>hn (.inl z),?_,q⟩
   show g.get? b=none
   cases r:g.get? b with
   |none=>rfl
   |some v=>exact(hn (.inr (by simp[r]))).elim
noncomputable def rest (g h:Heap) (L d:Addr):List (Addr×Obj):=(allNews g h L).filter fun p=>decide (p.1≠d)
theorem news_all {g h:Heap}{L:Addr}:News g L h (allNews g h L):=fun p hp=>let ⟨a,b,c⟩:=of_mem_allNews hp;⟨c,a,b⟩
structure Mod (K:PySem.W.Frag) (mg:Str→Option Value) (base:Heap):Prop where
 kin:K.In base
 glob:base.Ns mainGlobals mg
 blt:∃mb,base.Ns builtinsNs mb∧∀x:Str,x≠ "__name__" →mb x=bootBuiltins x
 nolimit:base.NoLimit
structure Cx where
 prog:Program
 w:World
 K:PySem.W.Frag
 mg:Str→Option Value
 base:Heap
 A:Around
 N:List Str
 s₀:Shared
 H₀:Hp
 env:Env
 outer:List Env
 stack:List Env
 ex:List Addr
 fn:Str→Bool
 calm:Bool
 pn:List (Addr×Obj)
 xe:Value→Shared→Prop
def frs (l:List Env):List Addr:=l.filterMap (·.frame)
abbrev Cx.fs (X:Cx):List Addr:=frs X.outer
def Vis (sc:Scope) (x:Str):Prop:=sc.names.lookup x=some .local∨sc.names.lookup x=some .cell∨sc.names.lookup x=some .free
def Loc (sc:Scope) (x:Str):Prop:=sc.names.lookup x=some .local∨sc.names.lookup x=some .cell
def Look (env:Env) (h:Heap) (m:Str→Option Value) (x:Str) (u:Value):Prop:=
 (env.kindOf x=some .local∧m x=some u)∨((env.kindOf x=some .cell∨env.kindOf x=some .free)∧∃c,env.cells.lookup x=some c∧h.IsCell c (some u))
structure Cx.Ok (X:Cx):Prop where
 mod:Mod X.K X.mg X.base
 kind:X.env.scope.kind=.function
 glob:X.env.globals=mainGlobals
 blt:X.env.builtins=builtinsNs
 above:X.s₀.heap.objs.size≤X.env.locals
 inj:∀x y c,X.env.cells.lookup x=some c→X.env.cells.lookup y=some c→x=y
 has:∀x,(X.env.kindOf x=some .cell∨X.env.kindOf x=some .free)→∃c,X.env.cells.lookup x=some c
 cab:∀x c,X.fn x=true→X.env.cells.lookup x=some c→X.s₀.heap.objs.size≤c
 hd:X.calm=true→X.A.handled=none
 frames:X.A.frames=some X.stack
 stk:X.stack=X.outer∨(X.stack=X.env::X.outer∧X.env.frame=some X.env.locals)
 exf:∀b∈X.ex,b≠X.env.locals∧∀x c,X.env.cells.lookup x=some c→c≠b
 bs:∀b o,X.base.get? b=some o→X.s₀.heap.get? b=some o∧X.H₀ b=none
 bsz:X.base.objs.size≤X.s₀.heap.objs.size
 noex:∀b o,X.base.get? b=some o→b∉X.ex
 exfs:∀b∈X.ex,b∉X.fs
 funs:X.s₀.heap.FunFrames X.base X.outer
 frf:∀b∈X.fs,X.H₀ b=none
structure Inv (X:Cx) (pins:List (Addr×Obj)) (σ:List (Option V)) (H:Hp) (s:Shared):Prop where
 ok:X.Ok
 os:s.os=X.s₀.os
 bare:AllBare s.gens
 base:Un X.fs X.ex X.H₀ H X.s₀.heap s.heap
 loc:∃m,s.heap.Ns X.env.locals m∧∀(i:Nat) (x:Str) (v:V),X.N[i]?=some x→σ[i]?=some (some v)→Vis X.env.scope x→∃u,RelV v u∧Look X.env s.heap m x u
 cell:∀x c,X.env.cells.lookup x=some c→∃v,s.heap.IsCell c v
 free:H X.env.locals=none
 freeC:∀x c,X.env.cells.lookup x=some c→H c=none
 pin:∀p∈X.pn++pins,s.heap.get? p.1=some p.2∧H p.1=none∧p.1≠X.env.locals∧p.1∉X.fs∧∀v,p.2.data≠.cell v
 hok:HOk X.prog X.w H s.heap
 len:σ.length=X.N.length
section
variable {X:Cx} {pins:List (Addr×Obj)} {σ:List (Option V)} {H H':Hp} {s:Shared} {h':Heap}
theorem Cx.Ok.nofr (ok:X.Ok){b:Addr}{o:Obj}(e:X.base.get? b=some o):b∉X.fs:=fun hb=>by
 have:=(ok.funs.mem hb).1
 rw[e] at this;cases this
theorem Inv.bs (I:Inv X pins σ H s):∀b o,X.base.get? b=some o→s.heap.get? b=some o∧H b=none:=fun b o e=>
 ⟨I.base.keep b o (I.ok.bs b o e).1 (I.ok.bs b o e).2 (I.ok.nofr e) (I.ok.noex b o e),I.base.free b o (I.ok.bs b o e).1 (I.ok.bs b o e).2 (I.ok.noex b o e)⟩
theorem Inv.bk (I:Inv X pins σ H s):∀b o,X.base.get? b=some o→s.heap.get? b=some o:=fun b o e=>(I.bs b o e).1
theorem Inv.mod (I:Inv X pins σ H s):Mod X.K X.mg X.base:=I.ok.mod
theorem Inv.kIn (I:Inv X pins σ H s):X.K.In s.heap:=I.ok.mod.kin.keeps I.bk
theorem Inv.lt (I:Inv X pins σ H s):X.env.locals<s.heap.objs.size:=let ⟨_,hn,_⟩:=I.loc;hn.lt
theorem Inv.sz (I:Inv X pins σ H s):X.s₀.heap.objs.size≤s.heap.objs.size:=Nat.le_trans I.ok.above (Nat.le_of_lt I.lt)
theorem Inv.nofs (I:Inv X pins σ H s){a:Addr}(h:s.heap.objs.size≤a):a∉X.fs:=fun hb=>by
 obtain⟨_,o,ho,_⟩:=I.ok.funs.mem hb
 exact absurd (Nat.lt_of_lt_of_le (Heap.lt_size ho) (Nat.le_trans I.sz h)) (Nat.lt_irrefl _)
theorem Inv.cne (I:Inv X pins σ H s):∀x c,X.env.cells.lookup x=some c→c≠X.env.locals:=fun x c e z=>by
 obtain⟨v,o,ho,hd⟩:=I.cell x c e
 obtain⟨m,⟨o',es,ep,ho',hd',_⟩,_⟩:=I.loc
 rw[z,ho'] at ho;cases ho;rw[hd'] at hd;cases hd
theorem Inv.funs (I:Inv X pins σ H s):s.heap.FunFrames X.base X.outer:=by
 have all:∀(l:List Env),(∀b∈frs l,b∈X.fs)→X.s₀.heap.FunFrames X.base l→s.heap.FunFrames X.base l:=by
  intro l
  induction l with
  |nil=>intro _ _;trivial
  |cons env r ih=>
   intro hs hl
   obtain⟨hk,⟨L,o,hf,hn,ho,hd⟩,hr⟩:=hl
   have hL:L∈X.fs:=hs L (by unfold frs;rw[List.filterMap_cons,hf];exact List.mem_cons_self)
   obtain⟨sl,e⟩:=I.base.slot L o ho (I.ok.frf L hL) hL fun z=>I.ok.exfs L z hL
   exact⟨hk,⟨L,_,hf,hn,e,hd⟩,ih (fun b hb=>hs b (by unfold frs;rw[List.filterMap_cons,hf];exact List.mem_cons_of_mem _ hb)) hr⟩
 exact all X.outer (fun _ hb=>hb) I.ok.funs
theorem Inv.stack (I:Inv X pins σ H s):s.heap.FunFrames X.base X.stack:=by
 rcases I.ok.stk with e|⟨e,hf⟩
 ·rw[e];exact I.funs
 ·rw[e]
  obtain⟨m,hn,_⟩:=I.loc
  refine .cons (by rw[I.ok.kind];decide) hf hn ?_ I.funs
  exact Heap.get?_none_of_le (Nat.le_trans I.ok.bsz I.ok.above)
theorem Inv.stkSub (I:Inv X pins σ H s):∀b∈frs X.stack,b∈X.env.locals::X.fs:=fun b hb=>by
 rcases I.ok.stk with e|⟨e,hf⟩
 ·rw[e] at hb;exact List.mem_cons_of_mem _ hb
 ·rw[e] at hb
  unfold frs at hb
  rw[List.filterMap_cons,hf] at hb
  exact hb
theorem Inv.stkFree (I:Inv X pins σ H s):∀b∈frs X.stack,H b=none:=fun b hb=>by
 rcases List.mem_cons.mp (I.stkSub b hb) with e|hb
 ·rw[e];exact I.free
 ·obtain⟨_,o,ho,_⟩:=I.ok.funs.mem hb
  exact I.base.free b o ho (I.ok.frf b hb) fun z=>I.ok.exfs b z hb
theorem Inv.step {g':Array GenState}{t':Nat}{d':Drawn}{ch:List Addr}(I:Inv X pins σ H s)
  (hch:∀b∈ch,(b∈X.ex∨X.s₀.heap.objs.size≤b)∧b≠X.env.locals∧(∀x c,X.env.cells.lookup x=some c→c≠b)∧∀p∈X.pn++pins,p.1≠b)
  (keep:∀b o,b≠X.env.locals→b∉X.fs→b∉ch→s.heap.get? b=some o→H b=none→h'.get? b=some o)
  (slot:∀b o,b≠X.env.locals→b∈X.fs→b∉ch→s.heap.get? b=some o→H b=none→∃sl,h'.get? b=some {o with slots:=sl}) (free:∀b o,b∉ch→s.heap.get? b=some o→H b=none→H' b=none)
  (there:∀b o,b∉ch→s.heap.get? b=some o→∃o',h'.get? b=some o')
  (tups:∀b xs,H b=some (.tup xs)→H' b=some (.tup xs)) (frzs:∀b o u,H b=some (.frz o u)→H' b=some (.frz o u)) (tbls:∀b ps,H b=some (.tbl ps)→∃more,H' b=some (.tbl (ps++more)))
  (ns:∀m,s.heap.Ns X.env.locals m→h'.Ns X.env.locals m) (hok:HOk X.prog X.w H' h') (hg:AllBare g'):
  Inv X pins σ H' {s with heap:=h',gens:=g',drawn:=d',toks:=t'}:=by
 have neL:∀b o,X.s₀.heap.get? b=some o→b≠X.env.locals:=fun b o e=>Nat.ne_of_lt (Nat.lt_of_lt_of_le (Heap.lt_size e) I.ok.above)
 have neC:∀b o,X.s₀.heap.get? b=some o→b∉X.ex→b∉ch:=fun b o e hx hb=>by
  rcases(hch b hb).1 with z|z
  ·exact hx z
  ·exact absurd (Nat.lt_of_lt_of_le (Heap.lt_size e) z) (Nat.lt_irrefl _)
 have cellK:∀x c,X.env.cells.lookup x=some c→∀v,s.heap.IsCell c v→h'.IsCell c v:=fun x c e v ⟨o,ho,hd⟩=>by
  have nch:c∉ch:=fun z=>(hch c z).2.2.1 x c e rfl
  by_cases hc:c∈X.fs
  ·obtain⟨sl,q⟩:=slot c o (I.cne x c e) hc nch ho (I.freeC x c e)
   exact⟨_,q,hd⟩
  ·exact⟨o,keep c o (I.cne x c e) hc nch ho (I.freeC x c e),hd⟩
 refine⟨I.ok,I.os,hg,⟨fun b o e n hb hx=>?_,fun b o e n hb hx=>?_,fun b o e n hx=>?_,fun b o e hx=>?_,fun b xs e=>tups b xs (I.base.tups b xs e),fun b o xs e=>frzs b o xs (I.base.frzs b o xs e),fun b ps e=>?_⟩,?_,fun x c e=>?_,?_,fun x c e=>?_,fun p hp=>?_,hok,I.len⟩
 ·exact keep b o (neL b o e) hb (neC b o e hx) (I.base.keep b o e n hb hx) (I.base.free b o e n hx)
 ·obtain⟨sl,e1⟩:=I.base.slot b o e n hb hx
  obtain⟨sl',e2⟩:=slot b _ (neL b o e) hb (neC b o e hx) e1 (I.base.free b o e n hx)
  exact⟨sl',e2⟩
 ·obtain⟨o',e1⟩:=I.base.there b o e hx
  exact free b o' (neC b o e hx) e1 (I.base.free b o e n hx)
 ·obtain⟨o',e1⟩:=I.base.there b o e hx
  exact there b o' (neC b o e hx) e1
 ·obtain⟨m1,e1⟩:=I.base.tbls b ps e
  obtain⟨m2,e2⟩:=tbls b _ e1
  exact⟨m1++m2,by rw[e2,Array.append_assoc]⟩
 ·obtain⟨m,hn,hl⟩:=I.loc
  refine⟨m,ns m hn,fun i x v e1 e2 e3=>?_⟩
  obtain⟨u,r,l⟩:=hl i x v e1 e2 e3
  refine⟨u,r,?_⟩
  rcases l with l|⟨k,c,e,z⟩
  ·exact .inl l
  ·exact .inr ⟨k,c,e,cellK x c e _ z⟩
 ·obtain⟨v,z⟩:=I.cell x c e
  exact⟨v,cellK x c e v z⟩
 ·obtain⟨m,⟨o,_,_,ho,_⟩,_⟩:=I.loc
  exact free _ o (fun z=>(hch _ z).2.1 rfl) ho I.free
 ·obtain⟨v,o,ho,hd⟩:=I.cell x c e
  exact free c o (fun z=>(hch c z).2.2.1 x c e rfl) ho (I.freeC x c e)
 ·obtain⟨e,n,ne,nf,d⟩:=I.pin p hp
  have nch:p.1∉ch:=fun z=>(hch p.1 z).2.2.2 p hp rfl
  exact⟨keep p.1 p.2 ne nf nch e n,free p.1 p.2 nch e n,ne,nf,d⟩
theorem Inv.un {t':Nat}(I:Inv X pins σ H s)(u:Un X.fs [] H H' s.heap h')(hok:HOk X.prog X.w H' h'):Inv X pins σ H' {s with heap:=h',toks:=t'}:=by
 obtain⟨m,⟨o,es,ep,ho,r⟩,_⟩:=id I.loc
 obtain⟨sl,hL⟩:=u.any ho I.free (by simp)
 exact I.step (g':=s.gens) (d':=s.drawn) (ch:=[]) (fun _ z=>nomatch z) (fun b o _ hb _ e n=>u.keep b o e n hb (by simp)) (fun b o _ hb _ e n=>u.slot b o e n hb (by simp)) (fun b o _ e n=>u.free b o e n (by simp)) (fun b o _ e=>u.there b o e (by simp)) u.tups u.frzs u.tbls (fun m' hm=>by
  obtain⟨o',es',ep',ho',r'⟩:=hm
  rw[ho] at ho';cases ho'
  exact⟨_,es',ep',hL,r'⟩) hok I.bare
theorem Inv.call {g':Array GenState}{t':Nat}{d':Drawn}{ch:List Addr}(I:Inv X pins σ H s)(u:Un (frs X.stack) ch H H' s.heap h')(hok:HOk X.prog X.w H' h')(hg:AllBare g')
  (hch:∀b∈ch,(b∈X.ex∨X.s₀.heap.objs.size≤b)∧b≠X.env.locals∧(∀x c,X.env.cells.lookup x=some c→c≠b)∧∀p∈X.pn++pins,p.1≠b):
  Inv X pins σ H' {s with heap:=h',gens:=g',drawn:=d',toks:=t'}:=by
 obtain⟨m,⟨o,es,ep,ho,r⟩,_⟩:=id I.loc
 obtain⟨sl,hL⟩:=u.any ho I.free fun z=>(hch _ z).2.1 rfl
 exact I.step (ch:=ch) hch (fun b o hL hb hc e n=>u.keep b o e n (fun z=>(List.mem_cons.mp (I.stkSub b z)).elim hL hb) hc) (fun b o _ _ hc e n=>u.any e n hc) (fun b o hc e n=>u.free b o e n hc) (fun b o hc e=>u.there b o e hc) u.tups u.frzs u.tbls (fun m' hm=>by
  obtain⟨o',es',ep',ho',r'⟩:=hm
  rw[ho] at ho';cases ho'
  exact⟨_,es',ep',hL,r'⟩) hok hg
theorem Inv.turned {t':Nat}{it:Addr}(I:Inv X pins σ H s)(k:∀b o,b≠it→s.heap.get? b=some o→h'.get? b=some o)(hn:H it=none)(hL:it≠X.env.locals)
  (h1:it∈X.ex∨X.s₀.heap.objs.size≤it) (h2:∀x c,X.env.cells.lookup x=some c→c≠it) (h3:∀p∈X.pn++pins,p.1≠it):Inv X pins σ H {s with heap:=h',toks:=t'}:=by
 have nit:∀b u,H b=some u→b≠it:=fun b u e z=>by rw[z,hn] at e;cases e
 refine I.step (g':=s.gens) (d':=s.drawn) (ch:=[it]) (fun b hb=>?_) (fun b o _ _ hc e _=>k b o (fun z=>hc (by simp[z])) e) (fun b o _ _ hc e _=>⟨o.slots,k b o (fun z=>hc (by simp[z])) e⟩) (fun _ _ _ _ n=>n)
  (fun b o hc e=>⟨o,k b o (fun z=>hc (by simp[z])) e⟩) (fun _ _ e=>e) (fun _ _ _ e=>e) (fun b ps e=>⟨#[],by rw[e];simp⟩) (fun m hm=>?_) (fun b u e=>?_) I.bare
 ·have e:b=it:=by simpa using hb
  subst e
  exact⟨h1,hL,h2,h3⟩
 ·obtain⟨o,es,ep,ho,r⟩:=hm
  exact⟨o,es,ep,k _ o (Ne.symm hL) ho,r⟩
 ·refine(I.hok b u e).stay (fun c v hc q=>k c v ?_ q) (fun _ q=>q) fun _ _ q=>q
  rcases hc with z|z
  ·rw[z];exact nit b u e
  ·exact nit c _ z
theorem Inv.tok (I:Inv X pins σ H s)(t:Nat):Inv X pins σ H {s with toks:=t}:=I.un (h':=s.heap) (t':=t) Un.refl I.hok
theorem Inv.kept {t':Nat}(I:Inv X pins σ H s)(k:∀b u,s.heap.get? b=some u→h'.get? b=some u):Inv X pins σ H {s with heap:=h',toks:=t'}:=I.un (Un.kept k) (I.hok.kept k)
theorem Inv.laid {a:Addr}{o:HO}{t':Nat}(I:Inv X pins σ H s)(k:∀b u,s.heap.get? b=some u→h'.get? b=some u)(hp:s.heap.objs.size≤a)(new:ObjOk X.prog X.w (upd H a o) h' a o):
  Inv X pins σ (upd H a o) {s with heap:=h',toks:=t'}:=I.un (Un.laid k hp (I.hok.fresh hp)) (I.hok.laid k hp new)
theorem Inv.write {x e:Addr}{o:HO}{t':Nat}(I:Inv X pins σ H s)(mu:Mut (H x))(he:e=x∨H e=some (.own x))(k:∀b u,b≠e→s.heap.get? b=some u→h'.get? b=some u)(heo:∃u,h'.get? e=some u)
  (new:ObjOk X.prog X.w (upd H x o) h' x o):Inv X pins σ (upd H x o) {s with heap:=h',toks:=t'}:=I.un (Un.write mu he k heo) (I.hok.write mu he k heo new)
theorem Inv.pins_of {pins':List (Addr×Obj)}(I:Inv X pins σ H s)(h:∀p∈pins',s.heap.get? p.1=some p.2∧H p.1=none∧p.1≠X.env.locals∧p.1∉X.fs∧∀v,p.2.data≠.cell v):Inv X pins' σ H s:=
 ⟨I.ok,I.os,I.bare,I.base,I.loc,I.cell,I.free,I.freeC,fun p hp=>(List.mem_append.mp hp).elim (fun z=>I.pin p (List.mem_append_left _ z)) (h p),I.hok,I.len⟩
theorem nodup_ix {N:List Str}(hN:N.Nodup){i j:Nat}{x:Str}(a:N[i]?=some x)(b:N[j]?=some x):i=j:=by
 obtain⟨h1,e1⟩:=List.getElem?_eq_some_iff.mp a
 obtain⟨h2,e2⟩:=List.getElem?_eq_some_iff.mp b
 exact(List.getElem_inj hN).mp (e1.trans e2.symm)
theorem store_ok2 {M:Model}{A:Around}{E:Value→Shared→Prop}{i:Nat}{x:Str}{v:V}{u:Value}{Q:Unit→Shared→Prop}(I:Inv X pins σ H s)(hN:X.N.Nodup)(hi:X.N[i]?=some x)(hx:Loc X.env.scope x)(r:RelV v u)
  (h:∀s',Inv X pins (σ.set i (some v)) H s'→(∃a,Heap.SameBut a s.heap s'.heap∧(a=X.env.locals∨X.env.cells.lookup x=some a))→Q () s') (hf:X.fn x=true∨X.env.scope.names.lookup x=some .local:=by first|exact .inl rfl|exact .inr rfl|assumption):wpAny M A (storeName X.env x u) Q E s:=by
 obtain⟨m,hn,hl⟩:=id I.loc
 have hcls:(X.env.scope.kind==.class||(X.env.scope.kind==.module&&X.env.locals !=X.env.globals))=false:=by rw[I.ok.kind];rfl
 have hiσ:i<σ.length:=by rw[I.len];exact(List.getElem?_eq_some_iff.mp hi).1
 have cne:=I.cne
 have tracked:∀{a:Addr} {h':Heap},(∃o,s.heap.get? a=some o∧H a=none)→Heap.SameBut a s.heap h'→HOk X.prog X.w H h':=fun{a h'} ha hs b ob e=>by
  obtain⟨_,_,hfree⟩:=ha
  refine(I.hok b ob e).stay (fun c w' hc q=>(hs.2 c ?_).trans q) (fun _ q=>q) fun _ _ q=>q
  rintro rfl
  rcases hc with rfl|hc
  ·rw[hfree] at e;cases e
  ·rw[hfree] at hc;cases hc
 rcases hx with hk|hk
 ·refine wpAny_storeName_local hk hn (fun h' hn' hs=>?_) hcls
  obtain⟨oL,_,_,hoL,_⟩:=id hn
  refine h _ ⟨I.ok,I.os,I.bare,⟨fun b o e n hb hx=>?_,fun b o e n hb hx=>?_,I.base.free,fun b o e hx=>?_,I.base.tups,I.base.frzs,I.base.tbls⟩,⟨_,hn',fun j y v' e1 e2 e3=>?_⟩,fun y c e=>?_,I.free,I.freeC,fun p hp=>?_,tracked ⟨oL,hoL,I.free⟩ hs,by simpa using I.len⟩ ⟨_,hs,.inl rfl⟩
  ·exact(hs.2 b (Nat.ne_of_lt (Nat.lt_of_lt_of_le (Heap.lt_size e) I.ok.above))).trans (I.base.keep b o e n hb hx)
  ·obtain⟨sl,e1⟩:=I.base.slot b o e n hb hx
   exact⟨sl,(hs.2 b (Nat.ne_of_lt (Nat.lt_of_lt_of_le (Heap.lt_size e) I.ok.above))).trans e1⟩
  ·obtain⟨o',e1⟩:=I.base.there b o e hx
   exact⟨o',(hs.2 b (Nat.ne_of_lt (Nat.lt_of_lt_of_le (Heap.lt_size e) I.ok.above))).trans e1⟩
  ·by_cases hj:j=i
   ·subst hj
    rw[hi] at e1;cases e1
    rw[List.getElem?_set_self hiσ] at e2
    cases e2
    exact⟨u,r,.inl ⟨hk,by simp⟩⟩
   ·rw[List.getElem?_set_ne (Ne.symm hj)] at e2
    obtain⟨u',r',q⟩:=hl j y v' e1 e2 e3
    refine⟨u',r',?_⟩
    rcases q with ⟨k,e⟩|⟨k,c,e,z⟩
    ·refine .inl ⟨k,?_⟩
     have:y≠x:=fun e=>hj (nodup_ix hN e1 (e▸hi))
     simp[this,e]
    ·exact .inr ⟨k,c,e,z.sameBut hs (cne y c e)⟩
  ·obtain⟨w',z⟩:=I.cell y c e
   exact⟨w',z.sameBut hs (cne y c e)⟩
  ·obtain⟨e,n,ne,nf,d⟩:=I.pin p hp
   exact⟨(hs.2 p.1 ne).trans e,n,ne,nf,d⟩
 ·have hfn:X.fn x=true:=by
   rcases hf with z|z
   ·exact z
   ·rw[z] at hk;cases hk
  obtain⟨c,hc⟩:=I.ok.has x (.inl hk)
  obtain⟨w',z⟩:=I.cell x c hc
  refine wpAny_storeName_cell I.ok.kind hk hc z (fun h' hc' hs=>?_)
  obtain⟨oc,hoc,hocd⟩:=id z
  refine h {s with heap:=h'} ⟨I.ok,I.os,I.bare,⟨fun b o e n hb hx=>?_,fun b o e n hb hx=>?_,I.base.free,fun b o e hx=>?_,I.base.tups,I.base.frzs,I.base.tbls⟩,⟨m,hn.sameBut hs (Ne.symm (cne x c hc)),fun j y v' e1 e2 e3=>?_⟩,fun y c' e=>?_,I.free,I.freeC,fun p hp=>?_,tracked ⟨oc,hoc,I.freeC x c hc⟩ hs,by simpa using I.len⟩ ⟨c,hs,.inr hc⟩
  ·exact(hs.2 b (Nat.ne_of_lt (Nat.lt_of_lt_of_le (Heap.lt_size e) (I.ok.cab x c hfn hc)))).trans (I.base.keep b o e n hb hx)
  ·obtain⟨sl,e1⟩:=I.base.slot b o e n hb hx
   exact⟨sl,(hs.2 b (Nat.ne_of_lt (Nat.lt_of_lt_of_le (Heap.lt_size e) (I.ok.cab x c hfn hc)))).trans e1⟩
  ·obtain⟨o',e1⟩:=I.base.there b o e hx
   exact⟨o',(hs.2 b (Nat.ne_of_lt (Nat.lt_of_lt_of_le (Heap.lt_size e) (I.ok.cab x c hfn hc)))).trans e1⟩
  ·by_cases hj:j=i
   ·subst hj
    rw[hi] at e1;cases e1
    rw[List.getElem?_set_self hiσ] at e2
    cases e2
    exact⟨u,r,.inr ⟨.inl hk,c,hc,hc'⟩⟩
   ·rw[List.getElem?_set_ne (Ne.symm hj)] at e2
    obtain⟨u',r',q⟩:=hl j y v' e1 e2 e3
    refine⟨u',r',?_⟩
    rcases q with q|⟨k,c',e,z'⟩
    ·exact .inl q
    ·refine .inr ⟨k,c',e,z'.sameBut hs ?_⟩
     rintro rfl
     exact hj (nodup_ix hN e1 (I.ok.inj _ _ _ e hc▸hi))
  ·by_cases hcc:c'=c
   ·subst hcc;exact⟨_,hc'⟩
   ·obtain⟨w2,z2⟩:=I.cell y c' e
    exact⟨w2,z2.sameBut hs hcc⟩
  ·obtain⟨e,n,ne,nf,d⟩:=I.pin p hp
   refine⟨(hs.2 p.1 ?_).trans e,n,ne,nf,d⟩
   intro q
   rw[q,hoc] at e
   have q':oc=p.2:=Option.some.inj e
   exact d w' (by rw[←q'];exact hocd)
theorem store_ok {M:Model}{A:Around}{E:Value→Shared→Prop}{i:Nat}{x:Str}{v:V}{u:Value}{Q:Unit→Shared→Prop}(I:Inv X pins σ H s)(hN:X.N.Nodup)(hi:X.N[i]?=some x)(hx:Loc X.env.scope x)(r:RelV v u)
  (h:∀s',Inv X pins (σ.set i (some v)) H s'→Q () s') (hf:X.fn x=true∨X.env.scope.names.lookup x=some .local:=by first|exact .inl rfl|exact .inr rfl|assumption):wpAny M A (storeName X.env x u) Q E s:=
 store_ok2 I hN hi hx r (fun s' I' _=>h s' I') hf
theorem Inv.call' {s':Shared}{ch:List Addr}(I:Inv X pins σ H s)(ho:s'.os=s.os)(u:Un (frs X.stack) ch H H' s.heap s'.heap)(hok:HOk X.prog X.w H' s'.heap)(hg:AllBare s'.gens)
  (hch:∀b∈ch,(b∈X.ex∨X.s₀.heap.objs.size≤b)∧b≠X.env.locals∧(∀x c,X.env.cells.lookup x=some c→c≠b)∧∀p∈X.pn++pins,p.1≠b):Inv X pins σ H' s':=by
 obtain⟨h',g',d',t',o'⟩:=s'
 have e:o'=s.os:=ho
 subst e
 exact I.call (g':=g') (t':=t') (d':=d') u hok hg hch
end
abbrev XK:=Value→Option Addr→Hp→Prop
abbrev St:=List (Option V)
abbrev VK:=V→Hp→Prop
abbrev TE:=St→Hp→VK→Prop
abbrev TT:=St→Hp→(Bool→Hp→Prop)→Prop
abbrev TA:=St→Hp→(List V→Hp→Prop)→Prop
structure Ends where
 nx:St→Hp→Prop
 rt:VK
 bk:St→Hp→Prop:=fun _ _=>False
 ct:St→Hp→Prop:=fun _ _=>False
abbrev TS:=Ends→St→Hp→Prop
def EP (X:Cx) (pins:List (Addr×Obj)) (σ:St) (Q:VK) (u:Value) (s':Shared):Prop:=∃v H',Inv X pins σ H' s'∧RelV v u∧Q v H'
def TP (X:Cx) (pins:List (Addr×Obj)) (σ:St) (Q:Bool→Hp→Prop) (b:Bool) (s':Shared):Prop:=∃H',Inv X pins σ H' s'∧Q b H'
def AP (X:Cx) (pins:List (Addr×Obj)) (σ:St) (Q:List V→Hp→Prop) (us:List Value) (s':Shared):Prop:=∃vs H',Inv X pins σ H' s'∧Vals vs us∧Q vs H'
def SP (X:Cx) (pins:List (Addr×Obj)) (D:Ends) (f:Flow) (s':Shared):Prop:=
 match f with
 | .next=>∃σ' H',Inv X pins σ' H' s'∧D.nx σ' H'
 | .brk=>∃σ' H',Inv X pins σ' H' s'∧D.bk σ' H'
 | .cont=>∃σ' H',Inv X pins σ' H' s'∧D.ct σ' H'
 | .ret u=>∃v σ' H',Inv X pins σ' H' s'∧RelV v u∧D.rt v H'
def PE (X:Cx) (e:Expr) (t:TE):Prop:=
 ∀(pins:List (Addr×Obj)) (s:Shared) (σ:St) (H:Hp) (Q:VK),Inv X pins σ H s→t σ H Q→wpAny (model X.prog X.w) X.A (eval e X.env) (EP X pins σ Q) X.xe s
def PT (X:Cx) (e:Expr) (t:TT):Prop:=
 ∀(pins:List (Addr×Obj)) (s:Shared) (σ:St) (H:Hp) (Q:Bool→Hp→Prop),Inv X pins σ H s→t σ H Q→wpAny (model X.prog X.w) X.A (isTrue e X.env (eval e X.env)) (TP X pins σ Q) X.xe s
def PW (X:Cx) (e:Expr) (t:TT):Prop:=
 ∀(whole:Sem Value) (pins:List (Addr×Obj)) (s:Shared) (σ:St) (H:Hp) (Q:Bool→Hp→Prop),Inv X pins σ H s→t σ H Q→wpAny (model X.prog X.w) X.A (isTrue e X.env whole) (TP X pins σ Q) X.xe s
theorem PW.pt {X:Cx}{e:Expr}{t:TT}(h:PW X e t):PT X e t:=h _
def PA (X:Cx) (es:List Expr) (t:TA):Prop:=
 ∀(pos:Pos) (pins:List (Addr×Obj)) (s:Shared) (σ:St) (H:Hp) (Q:List V→Hp→Prop),Inv X pins σ H s→t σ H Q→wpAny (model X.prog X.w) X.A (spliced (backTo pos (starEach es X.env))) (AP X pins σ Q) X.xe s
def PS (X:Cx) (st:Stmt) (t:TS):Prop:=
 ∀(pins:List (Addr×Obj)) (s:Shared) (σ:St) (H:Hp) (D:Ends),Inv X pins σ H s→t D σ H→wpAny (model X.prog X.w) X.A (exec st X.env) (SP X pins D) X.xe s
def PSs (X:Cx) (st:List Stmt) (t:TS):Prop:=
 ∀(pins:List (Addr×Obj)) (s:Shared) (σ:St) (H:Hp) (D:Ends),Inv X pins σ H s→t D σ H→wpAny (model X.prog X.w) X.A (execs st X.env) (SP X pins D) X.xe s
theorem thn {α:Type}{t:Sem α}{Q Q':α→Shared→Prop}{M:Model}{A:Around}{E:Value→Shared→Prop}{s:Shared}(h:wpAny M A t Q E s)(hQ:∀a s,Q a s→Q' a s):wpAny M A t Q' E s:=wpAny_mono h hQ fun _ _ x=>x
section
variable {X:Cx}
def tVar (i:Nat):TE:=fun σ H Q=>∃v,σ[i]?=some (some v)∧Q v H
def tC (v:V):TE:=fun _ H Q=>Q v H
theorem pe_var {i:Nat}{x:Str}{pos:Pos}(hN:X.N[i]?=some x)(hv:Vis X.env.scope x)(hd:(x==("__debug__" :Str))=false:=by decide)(hcd:(x==("__classdict__" :Str))=false:=by decide):PE X (.Name x pos) (tVar i):=by
 intro pins s σ H Q I h
 obtain⟨v,e,h⟩:=h
 obtain⟨m,hn,hl⟩:=I.loc
 obtain⟨u,r,l⟩:=hl i x v hN e hv
 have fin:EP X pins σ Q u s:=⟨v,H,I,r,h⟩
 rcases l with ⟨hk,hm⟩|⟨hk,c,hc,hcell⟩
 ·exact wpAny_Name (wpAny_loadName_local I.ok.kind hk hn hm fin) hd
 ·rcases hk with hk|hk
  ·exact wpAny_Name (wpAny_loadName_cell I.ok.kind hk hc hcell fin) hd
  ·exact wpAny_Name (wpAny_loadName_free I.ok.kind hk hc hcell fin hcd) hd
theorem pe_int {i j pos}:PE X (.Constant (.int i) j pos) (tC (.int i)):=fun _ _ _ H _ I h=>wpAny_Constant_int ⟨.int i,H,I.tok _,⟨_,rfl⟩,h⟩
theorem pe_bl {b j pos}:PE X (.Constant (.bool b) j pos) (tC (.bl b)):=fun _ _ _ H _ I h=>Constant_bool ⟨.bl b,H,I,rfl,h⟩
theorem pe_non {j pos}:PE X (.Constant .none j pos) (tC .non):=fun _ _ _ H _ I h=>Constant_none ⟨.non,H,I,rfl,h⟩
theorem pe_str {x j pos}:PE X (.Constant (.str x) j pos) (tC (.str x)):=fun _ _ _ H _ I h=>Calls.Constant_str ⟨.str x,H,I.tok _,⟨_,rfl⟩,h⟩
def Gl (X:Cx) (x:Str):Prop:=X.env.kindOf x=some .globalImplicit
theorem ld_glob {E:Value→Shared→Prop}{pins:List (Addr×Obj)}{s:Shared}{σ:St}{H:Hp}{x:Str}{u:Value}{pos:Pos}{Q:Value→Shared→Prop}(I:Inv X pins σ H s)(hg:Gl X x)(hm:X.mg x=some u)(h:Q u s)
  (hd:(x==("__debug__" :Str))=false:=by decide):wpAny (model X.prog X.w) X.A (eval (.Name x pos) X.env) Q E s:=
 Calls.Name_function_global I.ok.kind hg (Calls.loadGlobal_global (by rw[I.ok.glob];exact I.mod.glob.keeps I.bk) hm h) hd
theorem ld_blt {E:Value→Shared→Prop}{pins:List (Addr×Obj)}{s:Shared}{σ:St}{H:Hp}{x:Str}{u:Value}{pos:Pos}{Q:Value→Shared→Prop}(I:Inv X pins σ H s)(hg:Gl X x)(hm:X.mg x=none)(hv:bootBuiltins x=some u)(h:Q u s)
  (hn:x≠ "__name__" :=by decide) (hd:(x==("__debug__" :Str))=false:=by decide):wpAny (model X.prog X.w) X.A (eval (.Name x pos) X.env) Q E s:=by
 obtain⟨mb,h1,h2⟩:=I.mod.blt
 exact Calls.Name_function_global I.ok.kind hg (Calls.loadGlobal_builtin (by rw[I.ok.glob];exact I.mod.glob.keeps I.bk) hm (by rw[I.ok.blt];exact h1.keeps I.bk) ((h2 x hn).trans hv) h) hd
theorem pe_glob {x:Str}{v:V}{u:Value}{pos:Pos}(hg:Gl X x)(hm:X.mg x=some u)(r:RelV v u)(hd:(x==("__debug__" :Str))=false:=by decide):PE X (.Name x pos) (tC v):=
 fun _ _ _ H _ I h=>ld_glob I hg hm ⟨v,H,I,r,h⟩ hd
theorem pe_bltn {x:Str}{v:V}{u:Value}{pos:Pos}(hg:Gl X x)(hm:X.mg x=none)(hv:bootBuiltins x=some u)(r:RelV v u)(hn:x≠ "__name__" :=by decide)(hd:(x==("__debug__" :Str))=false:=by decide):PE X (.Name x pos) (tC v):=
 fun _ _ _ H _ I h=>ld_blt I hg hm hv ⟨v,H,I,r,h⟩ hn hd
variable {a b:Expr} {ta tb:TE} {pos:Pos}
def PC (X:Cx) (op:CmpOp) (a b:Expr) (t:TE):Prop:=
 ∀(pins:List (Addr×Obj)) (s:Shared) (σ:St) (H:Hp) (Q:VK),Inv X pins σ H s→t σ H Q→
  wpAny (model X.prog X.w) X.A (eval a X.env) (fun v s₁=>wpAny (model X.prog X.w) X.A (eval b X.env) (fun u s₂=>wpAny (model X.prog X.w) X.A (compareOp op v u) (EP X pins σ Q) X.xe s₂) X.xe s₁) X.xe s
theorem nobehind (b:Expr){op:CmpOp}(h:op≠.In)(h2:op≠.NotIn):behindInMarks op b=false:=by
 have e1:(op==CmpOp.In)=false:=by cases op<;>first|rfl|exact absurd rfl h
 have e2:(op==CmpOp.NotIn)=false:=by cases op<;>first|rfl|exact absurd rfl h2
 cases b<;>simp[behindInMarks,e1,e2]
def tB (t:TE):TT:=fun σ H Q=>t σ H fun x H1=>∃c,x=.bl c∧Q c H1
theorem pt_cmp {op:CmpOp}{t:TE}(h:PC X op a b t)(h1:behindInMarks op b=false:=by first|exact nobehind _ (by decide) (by decide)|rfl):PT X (.Compare a [op] [b] pos) (tB t):=by
 intro pins s σ H Q I hw
 refine wpAny_isTrue_Compare1 (thn (h pins s σ H _ I hw) fun v s1 h1=>thn h1 fun u s2 h2=>thn h2 fun c s3 ⟨x,H1,I1,r1,q1⟩=>?_) h1
 obtain⟨d,rfl,q⟩:=q1
 cases r1
 exact wpAny_truthy_bool ⟨H1,I1,q⟩
theorem pt_val {e:Expr}{t:TE}(h:PE X e t)(he:∀whole,isTrue e X.env whole=(do let v←whole;standAt e.pos;holding [v] (truthy v)):=by intro _;rfl):PT X e (tB t):=by
 intro pins s σ H Q I hw
 refine isTrue_plain (thn (h pins s σ H _ I hw) fun v s1 ⟨x,H1,I1,r1,q1⟩=>?_) (he _)
 obtain⟨d,rfl,q⟩:=q1
 cases r1
 exact wpAny_truthy_bool ⟨H1,I1,q⟩
variable {tA tB':TT} {rest:List Expr}
def tAnd (t u:TT):TT:=fun σ H Q=>t σ H fun c H1=>if c=true then u σ H1 Q else Q false H1
def tOr (t u:TT):TT:=fun σ H Q=>t σ H fun c H1=>if c=true then Q true H1 else u σ H1 Q
def tNot (t:TT):TT:=fun σ H Q=>t σ H fun c H1=>Q (!c) H1
theorem pw_and1 (ha:PT X a tA):PW X (.BoolOp .And [a] pos) tA:=by
 intro wh pins s σ H Q I h
 refine isTrue_and (thn (ha pins s σ H Q I h) fun c s1 e=>?_)
 cases c with
 |true=>exact isTrue_and_nil e
 |false=>exact e
theorem pw_or1 (ha:PT X a tA):PW X (.BoolOp .Or [a] pos) tA:=by
 intro wh pins s σ H Q I h
 refine isTrue_or (thn (ha pins s σ H Q I h) fun c s1 e=>?_)
 cases c with
 |false=>exact isTrue_or_nil e
 |true=>exact e
theorem pw_and (ha:PT X a tA)(hb:PW X (.BoolOp .And (b::rest) pos) tB'):PW X (.BoolOp .And (a::b::rest) pos) (tAnd tA tB'):=by
 intro wh pins s σ H Q I h
 refine isTrue_and (thn (ha pins s σ H _ I h) fun c s1 ⟨H1,I1,q1⟩=>?_)
 cases c with
 |true=>exact hb wh pins s1 σ H1 Q I1 q1
 |false=>exact⟨H1,I1,q1⟩
theorem pw_or (ha:PT X a tA)(hb:PW X (.BoolOp .Or (b::rest) pos) tB'):PW X (.BoolOp .Or (a::b::rest) pos) (tOr tA tB'):=by
 intro wh pins s σ H Q I h
 refine isTrue_or (thn (ha pins s σ H _ I h) fun c s1 ⟨H1,I1,q1⟩=>?_)
 cases c with
 |true=>exact⟨H1,I1,q1⟩
 |false=>exact hb wh pins s1 σ H1 Q I1 q1
theorem pt_not (ha:PT X a tA):PT X (.UnaryOp .Not a pos) (tNot tA):=by
 intro pins s σ H Q I h
 exact isTrue_not (ha pins s σ H (fun c H1=>Q (!c) H1) I h)
def tAndV (ta tb:TE):TE:=fun σ H Q=>ta σ H fun x H1=>∃c,x=.bl c∧if c=true then tb σ H1 Q else Q (.bl false) H1
def tOrV (ta tb:TE):TE:=fun σ H Q=>ta σ H fun x H1=>∃c,x=.bl c∧if c=true then Q (.bl true) H1 else tb σ H1 Q
theorem pe_one {op}{t:TE}(h:PE X a t):PE X (.BoolOp op [a] pos) t:=fun pins s σ H Q I hw=>BoolOp_one (h pins s σ H Q I hw)
theorem pe_and (ha:PE X a ta)(hb:PE X (.BoolOp .And (b::rest) pos) tb):PE X (.BoolOp .And (a::b::rest) pos) (tAndV ta tb):=by
 intro pins s σ H Q I h
 refine BoolOp_and (thn (ha pins s σ H _ I h) fun v s1 ⟨x,H1,I1,r1,q1⟩=>?_)
 obtain⟨c,rfl,q1⟩:=q1
 cases r1
 refine wpAny_truthy_bool ?_
 cases c with
 |true=>exact hb pins s1 σ H1 Q I1 q1
 |false=>exact⟨.bl false,H1,I1,rfl,q1⟩
theorem pe_or (ha:PE X a ta)(hb:PE X (.BoolOp .Or (b::rest) pos) tb):PE X (.BoolOp .Or (a::b::rest) pos) (tOrV ta tb):=by
 intro pins s σ H Q I h
 refine BoolOp_or (thn (ha pins s σ H _ I h) fun v s1 ⟨x,H1,I1,r1,q1⟩=>?_)
 obtain⟨c,rfl,q1⟩:=q1
 cases r1
 refine wpAny_truthy_bool ?_
 cases c with
 |false=>exact hb pins s1 σ H1 Q I1 q1
 |true=>exact⟨.bl true,H1,I1,rfl,q1⟩
def tIf (t:TT) (ta tb:TE):TE:=fun σ H Q=>t σ H fun c H1=>if c=true then ta σ H1 Q else tb σ H1 Q
theorem pe_ifExp {c:Expr}(hc:PT X c tA)(ha:PE X a ta)(hb:PE X b tb):PE X (.IfExp c a b pos) (tIf tA ta tb):=by
 intro pins s σ H Q I h
 refine wpAny_IfExp (thn (hc pins s σ H _ I h) fun d s1 ⟨H1,I1,q1⟩=>?_)
 cases d with
 |true=>exact ha pins s1 σ H1 Q I1 q1
 |false=>exact hb pins s1 σ H1 Q I1 q1
end
def SqL (K:PySem.W.Frag) (H:Hp) (a:Addr) (xs:List V):Prop:=
 Rd H a (.lst xs)∨
  ∃(o:Obj) (its:Array Value) (n:Nat),K.lookup a=some o∧o.cls=.type "list" ∧o.dict=none∧o.data=.seq its n∧its.size≤sizeLine∧Vals xs its.toList
def SqT (K:PySem.W.Frag) (H:Hp) (a:Addr) (xs:List V):Prop:=
 Rd H a (.tup xs)∨
  ∃(o:Obj) (its:Array Value) (n:Nat),K.lookup a=some o∧o.cls=.type "tuple" ∧o.data=.seq its n∧its.size≤sizeLine∧Vals xs its.toList
noncomputable def absV:Value→Option V
 | .none=>some .non
 | .bool b=>some (.bl b)
 | .int i _=>some (.int i)
 | .str x _=>some (.str x)
 | .bytes b _=>some (.byt b)
 | .float b _=>some (.flt b)
 | .ref a=>some (.ref a)
 | .type n=>some (.ty n)
 |_=>none
theorem RelV.abs {x:V}{u:Value}(r:RelV x u):absV u=some x:=by
 cases x with
 |non=>cases r;rfl
 |bl _=>cases r;rfl
 |int _=>obtain⟨t,rfl⟩:=r;rfl
 |str _=>obtain⟨t,rfl⟩:=r;rfl
 |byt _=>obtain⟨t,rfl⟩:=r;rfl
 |flt _=>obtain⟨t,rfl⟩:=r;rfl
 |ref _=>cases r;rfl
 |ty _=>cases r;rfl
theorem RelV.inj {x y:V}{u:Value}(r:RelV x u)(q:RelV y u):x=y:=Option.some.inj (r.abs.symm.trans q.abs)
theorem Vals.inj:∀{xs ys:List V} {us:List Value},Vals xs us→Vals ys us→xs=ys
 |_,_,_,.nil,.nil=>rfl
 |_,_,_,.cons r t,.cons r' t'=>by rw[r.inj r',Vals.inj t t']
section
variable {X:Cx} {pins:List (Addr×Obj)} {σ:St} {H:Hp} {s:Shared} {a:Addr} {xs ys:List V}
theorem SqL.of {K:PySem.W.Frag}(h:H a=some (.lst xs)):SqL K H a xs:=.inl (.inl h)
theorem SqT.of {K:PySem.W.Frag}(h:H a=some (.tup xs)):SqT K H a xs:=.inl (.inl h)
theorem Inv.list (I:Inv X pins σ H s)(h:SqL X.K H a xs):∃its:List Value,Vals xs its∧PlainL s.heap a its.toArray∧xs.length≤sizeLine:=by
 rcases h with h|⟨o,its,n,hk,hc,hd,hs,hz,r⟩
 ·obtain⟨z,its,n,r,e⟩:=h.ok I.hok
  exact⟨its,r,⟨_,n,e,rfl,rfl,rfl⟩,z⟩
 ·refine⟨its.toList,r,⟨o,n,I.kIn a o hk,hc,hd,by simpa using hs⟩,?_⟩
  have e:=r.length
  simp only[Array.length_toList] at e
  omega
theorem Inv.tuple (I:Inv X pins σ H s)(h:SqT X.K H a xs):∃its:List Value,Vals xs its∧IsTup s.heap a its.toArray∧xs.length≤sizeLine:=by
 rcases h with h|⟨o,its,n,hk,hc,hs,hz,r⟩
 ·obtain⟨z,its,r,p⟩:=h.ok I.hok
  exact⟨its,r,p,z⟩
 ·refine⟨its.toList,r,⟨o,I.kIn a o hk,hc,n,by simpa using hs⟩,?_⟩
  have e:=r.length
  simp only[Array.length_toList] at e
  omega
theorem Inv.list_inj (I:Inv X pins σ H s)(h:SqL X.K H a xs)(h':SqL X.K H a ys):xs=ys:=by
 obtain⟨its,r,⟨o,n,e,_,_,d⟩,_⟩:=I.list h
 obtain⟨its',r',⟨o',n',e',_,_,d'⟩,_⟩:=I.list h'
 rw[e] at e';cases e'
 rw[d] at d'
 injection d' with d1 _
 have:its=its':=by simpa using congrArg Array.toList d1
 subst this
 exact r.inj r'
theorem Inv.tuple_inj (I:Inv X pins σ H s)(h:SqT X.K H a xs)(h':SqT X.K H a ys):xs=ys:=by
 obtain⟨its,r,⟨o,e,_,n,d⟩,_⟩:=I.tuple h
 obtain⟨its',r',⟨o',e',_,n',d'⟩,_⟩:=I.tuple h'
 rw[e] at e';cases e'
 rw[d] at d'
 injection d' with d1 _
 have:its=its':=by simpa using congrArg Array.toList d1
 subst this
 exact r.inj r'
end
abbrev Cx.wish (X:Cx) (E:Value→Shared→Prop):Cx:={X with xe:=E}
abbrev Cx.nox (X:Cx):Cx:=X.wish fun _ _=>False
theorem Cx.Ok.wish {X:Cx}(ok:X.Ok)(E:Value→Shared→Prop):(X.wish E).Ok:=
 ⟨ok.mod,ok.kind,ok.glob,ok.blt,ok.above,ok.inj,ok.has,ok.cab,ok.hd,ok.frames,ok.stk,ok.exf,ok.bs,ok.bsz,ok.noex,ok.exfs,ok.funs,ok.frf⟩
theorem Cx.Ok.unwish {X:Cx}{E:Value→Shared→Prop}(ok:(X.wish E).Ok):X.Ok:=
 ⟨ok.mod,ok.kind,ok.glob,ok.blt,ok.above,ok.inj,ok.has,ok.cab,ok.hd,ok.frames,ok.stk,ok.exf,ok.bs,ok.bsz,ok.noex,ok.exfs,ok.funs,ok.frf⟩
section
variable {X:Cx} {pins:List (Addr×Obj)} {σ:St} {H:Hp} {s:Shared} {E:Value→Shared→Prop}
theorem Inv.wish (I:Inv X pins σ H s)(E:Value→Shared→Prop):Inv (X.wish E) pins σ H s:=⟨I.ok.wish E,I.os,I.bare,I.base,I.loc,I.cell,I.free,I.freeC,I.pin,I.hok,I.len⟩
theorem Inv.unwish (I:Inv (X.wish E) pins σ H s):Inv X pins σ H s:=⟨I.ok.unwish,I.os,I.bare,I.base,I.loc,I.cell,I.free,I.freeC,I.pin,I.hok,I.len⟩
theorem SP.unwish {D:Ends}{f:Flow}{s':Shared}(h:SP (X.wish E) pins D f s'):SP X pins D f s':=by
 cases f with
 |next=>obtain⟨σ',H',I,q⟩:=h;exact⟨σ',H',I.unwish,q⟩
 |brk=>obtain⟨σ',H',I,q⟩:=h;exact⟨σ',H',I.unwish,q⟩
 |cont=>obtain⟨σ',H',I,q⟩:=h;exact⟨σ',H',I.unwish,q⟩
 |ret u=>obtain⟨v,σ',H',I,r,q⟩:=h;exact⟨v,σ',H',I.unwish,r,q⟩
theorem PSs.nox {st:List Stmt}{t:TS}(h:PSs X.nox st t):PSs X st t:=fun pins s σ H D I hw=>
 wpAny_mono (h pins s σ H D (I.wish _) hw) (fun _ _ q=>q.unwish) fun _ _ z=>False.elim z
end
section
variable {X:Cx} {st:Stmt} {rest:List Stmt} {t u:TS} {e:Expr} {te:TE} {pos:Pos}
def tNext:TS:=fun D σ H=>D.nx σ H
def tSeq (t u:TS):TS:=fun D σ H=>t {D with nx:=u D} σ H
theorem pss_nil:PSs X [] tNext:=fun _ _ σ H _ I h=>wpAny_execs_nil ⟨σ,H,I,h⟩
theorem pss_cons (h1:PS X st t)(h2:PSs X rest u):PSs X (st::rest) (tSeq t u):=by
 intro pins s σ H D I h
 refine wpAny_execs_cons (thn (h1 pins s σ H {D with nx:=u D} I h) fun f s1 q=>?_)
 cases f with
 |next=>
  obtain⟨σ',H',I',q⟩:=q
  exact h2 pins s1 σ' H' D I' q
 |ret v=>exact q
 |brk=>exact q
 |cont=>exact q
theorem pss_one (h1:PS X st t):PSs X [st] t:=by
 intro pins s σ H D I h
 refine wpAny_execs_cons (thn (h1 pins s σ H D I h) fun f s1 q=>?_)
 cases f with
 |next=>exact wpAny_execs_nil q
 |ret v=>exact q
 |brk=>exact q
 |cont=>exact q
theorem Inv.quiet {pins:List (Addr×Obj)}{σ:St}{H:Hp}{s:Shared}(I:Inv X pins σ H s):interactive X.env=false:=by simp[interactive,I.ok.kind]
def tDrop (te:TE):TS:=fun D σ H=>te σ H fun _ H1=>D.nx σ H1
theorem ps_expr (he:PE X e te)(hs:swapsWith e none pos.line X.env=pure false:=by rfl):PS X (.Expr e pos) (tDrop te):=by
 intro pins s σ H D I h
 exact wpAny_Expr_any (thn (he pins s σ H _ I h) fun v s1 ⟨x,H1,I1,r1,q1⟩=>⟨σ,H1,I1,q1⟩) I.quiet hs
def tRet (te:TE):TS:=fun D σ H=>te σ H D.rt
theorem ps_ret (he:PE X e te):PS X (.Return (some e) pos) (tRet te):=by
 intro pins s σ H D I h
 exact wpAny_Return_some (thn (he pins s σ H _ I h) fun v s1 ⟨x,H1,I1,r1,q1⟩=>⟨x,σ,H1,I1,r1,q1⟩)
def tIfS (c:TT) (t u:TS):TS:=fun D σ H=>c σ H fun b H1=>if b=true then t D σ H1 else u D σ H1
theorem ps_if {c:Expr}{a b:List Stmt}{tc:TT}(hc:PT X c tc)(ha:PSs X a t)(hb:PSs X b u):PS X (.If c a b pos) (tIfS tc t u):=by
 intro pins s σ H D I h
 refine wpAny_If (thn (hc pins s σ H _ I h) fun d s1 ⟨H1,I1,q1⟩=>?_)
 cases d with
 |true=>exact ha pins s1 σ H1 D I1 q1
 |false=>exact hb pins s1 σ H1 D I1 q1
def tNever:TS:=fun _ _ _=>False
theorem ps_never:PS X st tNever:=fun _ _ _ _ _ _ h=>h.elim
end
abbrev TG:=V→St→Hp→(St→Hp→Prop)→Prop
abbrev TGs:=List V→St→Hp→(St→Hp→Prop)→Prop
def PG (X:Cx) (target:Expr) (t:TG):Prop:=
 ∀(pins:List (Addr×Obj)) (s:Shared) (σ:St) (H:Hp) (v:V) (u:Value) (Q:St→Hp→Prop),Inv X pins σ H s→RelV v u→t v σ H Q→
  wpAny (model X.prog X.w) X.A (assign target X.env u) (fun _ s'=>∃σ' H',Inv X pins σ' H' s'∧Q σ' H') X.xe s
def PGs (X:Cx) (ts:List Expr) (t:TGs):Prop:=
 ∀(pins:List (Addr×Obj)) (s:Shared) (σ:St) (H:Hp) (vs:List V) (us:List Value) (Q:St→Hp→Prop),Inv X pins σ H s→Vals vs us→t vs σ H Q→
  wpAny (model X.prog X.w) X.A (assignInOrder ((assignEach ts X.env).map (·.2)) us) (fun _ s'=>∃σ' H',Inv X pins σ' H' s'∧Q σ' H') X.xe s
section
variable {X:Cx} {pos:Pos}
def gName (i:Nat):TG:=fun v σ H Q=>Q (σ.set i (some v)) H
theorem pg_name {i:Nat}{x:Str}(hN:X.N.Nodup)(hi:X.N[i]?=some x)(hx:Loc X.env.scope x)(hf:X.fn x=true∨X.env.scope.names.lookup x=some .local:=by first|exact .inl rfl|exact .inr rfl|assumption):PG X (.Name x pos) (gName i):=by
 intro pins s σ H v u Q I r h
 exact wpAny_assign_Name (store_ok I hN hi hx r (fun s' I'=>⟨_,H,I',h⟩) hf)
def gNil:TGs:=fun vs σ H Q=>vs=[]∧Q σ H
noncomputable def gCons (t:TG) (u:TGs):TGs:=fun vs σ H Q=>∃v r,vs=v::r∧t v σ H fun σ' H'=>u r σ' H' Q
theorem pgs_nil:PGs X [] gNil:=by
 intro pins s σ H vs us Q I r h
 obtain⟨e,h⟩:=h
 subst e
 cases r
 exact assignInOrder_nil ⟨σ,H,I,h⟩
theorem pgs_cons {e:Expr}{es:List Expr}{t:TG}{u:TGs}(h1:PG X e t)(h2:PGs X es u)
  (hs:(assignEach (e::es) X.env).map (·.2)=assign e X.env::(assignEach es X.env).map (·.2):=by rfl):PGs X (e::es) (gCons t u):=by
 intro pins s σ H vs us Q I r h
 obtain⟨v,vr,e1,h⟩:=h
 subst e1
 cases r with
 |cons r rr=>
  rw[hs]
  refine assignInOrder_cons (thn (h1 pins s σ H _ _ _ I r h) fun _ s1 ⟨σ1,H1,I1,q1⟩=>?_)
  exact h2 pins s1 σ1 H1 _ _ Q I1 rr q1
def gTup (K:PySem.W.Frag) (n:Nat) (t:TGs):TG:=fun v σ H Q=>∃a xs,v=.ref a∧SqT K H a xs∧xs.length=n∧t xs σ H Q
theorem pg_tup {es:List Expr}{k:Nat}{t:TGs}{n:Nat}(hc:X.calm=true)(h:PGs X es t)
  (hn:(assignEach es X.env).length=n:=by rfl) (hst:(assignEach es X.env).findIdx? (·.1)=none:=by rfl):PG X (.Tuple es k pos) (gTup X.K n t):=by
 intro pins s σ H v u Q I r hw
 obtain⟨a,xs,e1,hq,hl,hw⟩:=hw
 subst e1
 cases r
 obtain⟨its,rv,ht,hz⟩:=I.tuple hq
 refine assign_Tuple_tuple (I.ok.hd hc) ht (by simp[hn,←hl,rv.length]) hst fun h' hx=>?_
 have I1:Inv X pins σ H {s with heap:=h'}:=I.kept (t':=s.toks) fun b o e=>hx b o (Nat.ne_of_lt (Heap.lt_size e)) e
 exact h pins _ σ H xs _ Q I1 (by simpa using rv) hw
def tAsg (te:TE) (g:TG):TS:=fun D σ H=>te σ H fun x H1=>g x σ H1 D.nx
theorem ps_asg {tg e:Expr}{te:TE}{g:TG}(he:PE X e te)(hg:PG X tg g)(hs:swapsWithSole [tg] e pos.line X.env=pure false:=by rfl)(hw:swappedStores [tg] e X.env=pure none:=by rfl)
  (h1:(assignEach [tg] X.env).map (·.2)=[assign tg X.env]:=by rfl):PS X (.Assign [tg] e pos) (tAsg te g):=by
 intro pins s σ H D I h
 refine wpAny_Assign_stores (thn (he pins s σ H _ I h) fun v s1 ⟨x,H1,I1,r1,q1⟩=>?_) hs hw
 rw[h1]
 exact thn (hg pins s1 σ H1 x v _ I1 r1 q1) fun _ s2 q=>q
theorem ps_set {i:Nat}{x:Str}{e:Expr}{te:TE}{pos':Pos}(hN:X.N.Nodup)(hi:X.N[i]?=some x)(hx:Loc X.env.scope x)(he:PE X e te)(hs:swapsWith e (some (.Name x pos')) pos.line X.env=pure false:=by rfl)(hf:X.fn x=true∨X.env.scope.names.lookup x=some .local:=by first|exact .inl rfl|exact .inr rfl|assumption):
  PS X (.Assign [.Name x pos'] e pos) (tAsg te (gName i)):=by
 intro pins s σ H D I h
 refine wpAny_Assign_Name (thn (he pins s σ H _ I h) fun v s1 ⟨y,H1,I1,r1,q1⟩=>?_) hs
 exact store_ok I1 hN hi hx r1 (fun s2 I2=>⟨_,H1,I2,q1⟩) hf
end
section
variable {X:Cx} {pos:Pos}
end
structure It where
 go:Nat→Hp→Prop
 yld:Nat→Hp→V→Hp→Prop
 stop:Nat→Hp→Prop
def FpOk (X:Cx) (pins:List (Addr×Obj)) (H:Hp) (b:Addr):Prop:=
 H b=none∧b≠X.env.locals∧b∉X.fs∧(b∈X.ex∨X.s₀.heap.objs.size≤b)∧(∀x c,X.env.cells.lookup x=some c→c≠b)∧∀p∈X.pn++pins,p.1≠b
theorem Inv.fpOk {X:Cx}{pins:List (Addr×Obj)}{σ:St}{H H':Hp}{s:Shared}{b:Addr}(I:Inv X pins σ H s)(hb:s.heap.objs.size≤b)(hn:H' b=none):FpOk X pins H' b:=by
 refine⟨hn,Nat.ne_of_gt (Nat.lt_of_lt_of_le I.lt hb),I.nofs hb,.inr (Nat.le_trans I.sz hb),fun x c e z=>?_,fun p hp z=>?_⟩
 ·obtain⟨v,q⟩:=I.cell x c e
  exact absurd (Nat.lt_of_lt_of_le q.lt (by rw[z];exact hb)) (Nat.lt_irrefl _)
 ·exact absurd (Nat.lt_of_lt_of_le (Heap.lt_size (I.pin p hp).1) (by rw[z];exact hb)) (Nat.lt_irrefl _)
structure Turn (P:Program) (w:World) (K:PySem.W.Frag) (tg:Expr) (J:It) (fp:List Addr) (it:Addr) (tn:Nat→Heap→Prop):Prop where
 mem:it∈fp
 obj:∀i h,tn i h→∀b∈fp,∃o,h.get? b=some o∧∀v,o.data≠.cell v
 keep:∀i h h',tn i h→(∀b∈fp,∀o,h.get? b=some o→h'.get? b=some o)→tn i h'
 item:∀(X:Cx),X.prog=P→X.w=w→X.K=K→X.calm=true→∀(i:Nat) (pins:List (Addr×Obj)) (s:Shared) (σ:St) (H:Hp) (E:Value→Shared→Prop),Inv X pins σ H s→(∀b∈fp,FpOk X pins H b)→tn i s.heap→J.go i H→
  wpAny (model P w) X.A (pyNext (.ref it)) (fun r s1=>∃u,r=some u∧
   wpAny (model P w) X.A (letOwnedTupleGo tg (.ref it) u) (fun _ s2=>∃x H',Inv X pins σ H' s2∧RelV x u∧J.yld i H x H'∧tn (i+1) s2.heap∧∀b∈fp,H' b=none) E s1) E s
 done:∀(X:Cx),X.prog=P→X.w=w→X.K=K→X.calm=true→∀(i:Nat) (pins:List (Addr×Obj)) (s:Shared) (σ:St) (H:Hp) (E:Value→Shared→Prop),Inv X pins σ H s→(∀b∈fp,FpOk X pins H b)→tn i s.heap→J.stop i H→
  wpAny (model P w) X.A (pyNext (.ref it)) (fun r s1=>r=none∧Inv X pins σ H s1) E s
 self:∀(A:Around) (i:Nat) (s:Shared) (Q:Value→Shared→Prop) (E:Value→Shared→Prop),tn i s.heap→Q (.ref it) s→wpAny (model P w) A (pyIter (.ref it)) Q E s
abbrev TI:=St→Hp→(It→Hp→Prop)→Prop
def PIE (X:Cx) (pins:List (Addr×Obj)) (σ:St) (tg:Expr) (R:It→Hp→Prop) (itv:Value) (s2:Shared):Prop:=
 ∃(it:Addr) (fp:List Addr) (tn:Nat→Heap→Prop) (J:It) (H':Hp),itv=.ref it∧Inv X pins σ H' s2∧Turn X.prog X.w X.K tg J fp it tn∧tn 0 s2.heap∧(∀b∈fp,FpOk X pins H' b)∧R J H'
def PI (X:Cx) (tg iter:Expr) (wi:TI):Prop:=
 ∀(pins:List (Addr×Obj)) (s:Shared) (σ:St) (H:Hp) (R:It→Hp→Prop),Inv X pins σ H s→wi σ H R→
  wpAny (model X.prog X.w) X.A (eval iter X.env) (fun v s1=>wpAny (model X.prog X.w) X.A (pyIter v) (PIE X pins σ tg R) X.xe s1) X.xe s
theorem go_of {M:Model}{A:Around}{E:Value→Shared→Prop}{s:Shared}{tg:Expr}{it:Addr}{u:Value}{o:Obj}{n:String}{vs:Array Value}{Q:Unit→Shared→Prop}(ho:s.heap.get? it=some o)(hc:o.cls=.type n)(hd:o.data=.fields vs)
  (hn:["enumerate", "zip", "dict_itemiterator", "dict_reverseitemiterator", "odict_iterator", "itertools.zip_longest", "itertools.pairwise"].contains n=false) (hQ:Q () s):wpAny M A (letOwnedTupleGo tg (.ref it) u) Q E s:=by
 unfold letOwnedTupleGo
 cases tg<;>first
  |exact wpAny_pure hQ
  |(cases u<;>first
    |exact wpAny_pure hQ
    |(refine wpAny_bind (wpAny_load ho ?_)
      rw[hc,hd]
      show wpAny M A (if (["enumerate", "zip", "dict_itemiterator", "dict_reverseitemiterator", "odict_iterator", "itertools.zip_longest", "itertools.pairwise"].contains n&&vs[0]?==some (rawInt _))=true then _ else _) Q E s
      rw[if_neg (by intro h;rw[hn,Bool.false_and] at h;cases h)]
      exact wpAny_pure hQ))
noncomputable def Itl (K:PySem.W.Frag) (a:Addr):It:=
 ⟨fun i H=>∃xs x,SqL K H a xs∧xs[i]?=some x,fun i H x H'=>H'=H∧∀xs,SqL K H a xs→xs[i]?=some x,fun i H=>∃xs,SqL K H a xs∧xs.length≤i⟩
noncomputable def Itt (K:PySem.W.Frag) (a:Addr):It:=
 ⟨fun i H=>∃xs x,SqT K H a xs∧xs[i]?=some x,fun i H x H'=>H'=H∧∀xs,SqT K H a xs→xs[i]?=some x,fun i H=>∃xs,SqT K H a xs∧xs.length≤i⟩
noncomputable def Itr (lo:Int) (n:Nat):It:=⟨fun i _=>i<n,fun i H x H'=>H'=H∧x=.int (lo+i),fun i _=>n≤i⟩
theorem turn_list {P:Program}{w:World}{K:PySem.W.Frag}{tg:Expr}(a it:Addr):Turn P w K tg (Itl K a) [it] it (fun i h=>h.IsListIter it a i) where
 mem:=by simp
 obj:=fun i h st b hb=>by
  have e:b=it:=by simpa using hb
  subst e
  obtain⟨o,e,c,d⟩:=st
  exact⟨o,e,fun v z=>by rw[d] at z;cases z⟩
 keep:=fun i h h' st k=>st.at fun o e=>k it (by simp) o e
 item:=by
  intro X hP hw hK hc i pins s σ H E I hf st hg
  subst hP hw hK
  obtain⟨xs,x,hq,hx⟩:=hg
  obtain⟨its,rv,p,hz⟩:=I.list hq
  obtain⟨u,hu,ru⟩:=rv.get hx
  obtain⟨f0,f1,f2,f3,f4,f5⟩:=hf it (by simp)
  refine wpAny_pyNext_list_item st p.isList (x:=u) (by simpa using hu) fun h' st' sb=>?_
  have I1:Inv X pins σ H {s with heap:=h'}:=I.turned (t':=s.toks) (fun b o hb e=>(sb.2 b hb).trans e) f0 f1 f3 f4 f5
  obtain⟨o,e,c,d⟩:=id st'
  exact⟨u,rfl,go_of (s:={s with heap:=h'}) e c d (by decide) ⟨x,H,I1,ru,⟨rfl,fun ys hy=>by rw[I.list_inj hy hq];exact hx⟩,st',fun b hb=>(hf b hb).1⟩⟩
 done:=by
  intro X hP hw hK hc i pins s σ H E I hf st hg
  subst hP hw hK
  obtain⟨xs,hq,hx⟩:=hg
  obtain⟨its,rv,p,hz⟩:=I.list hq
  obtain⟨f0,f1,f2,f3,f4,f5⟩:=hf it (by simp)
  have hl:=rv.length
  exact wpAny_pyNext_list_end (I.ok.hd hc) st p.isList (by simp;omega) fun h' eb=>⟨rfl,I.turned (t':=s.toks) (fun b o hb e=>eb b o hb e) f0 f1 f3 f4 f5⟩
 self:=fun _ _ _ _ _ st h=>wpAny_pyIter_listiter st h
theorem turn_tuple {P:Program}{w:World}{K:PySem.W.Frag}{tg:Expr}(a it:Addr):Turn P w K tg (Itt K a) [it] it (fun i h=>h.IsTupleIter it a i) where
 mem:=by simp
 obj:=fun i h st b hb=>by
  have e:b=it:=by simpa using hb
  subst e
  obtain⟨o,e,c,d⟩:=st
  exact⟨o,e,fun v z=>by rw[d] at z;cases z⟩
 keep:=fun i h h' st k=>st.at fun o e=>k it (by simp) o e
 item:=by
  intro X hP hw hK hc i pins s σ H E I hf st hg
  subst hP hw hK
  obtain⟨xs,x,hq,hx⟩:=hg
  obtain⟨its,rv,p,hz⟩:=I.tuple hq
  obtain⟨u,hu,ru⟩:=rv.get hx
  obtain⟨f0,f1,f2,f3,f4,f5⟩:=hf it (by simp)
  refine wpAny_pyNext_tuple_item st (show s.heap.IsTuple a its.toArray from p) (x:=u) (by simpa using hu) fun h' st' sb=>?_
  have I1:Inv X pins σ H {s with heap:=h'}:=I.turned (t':=s.toks) (fun b o hb e=>(sb.2 b hb).trans e) f0 f1 f3 f4 f5
  obtain⟨o,e,c,d⟩:=id st'
  exact⟨u,rfl,go_of (s:={s with heap:=h'}) e c d (by decide) ⟨x,H,I1,ru,⟨rfl,fun ys hy=>by rw[I.tuple_inj hy hq];exact hx⟩,st',fun b hb=>(hf b hb).1⟩⟩
 done:=by
  intro X hP hw hK hc i pins s σ H E I hf st hg
  subst hP hw hK
  obtain⟨xs,hq,hx⟩:=hg
  obtain⟨its,rv,p,hz⟩:=I.tuple hq
  obtain⟨f0,f1,f2,f3,f4,f5⟩:=hf it (by simp)
  have hl:=rv.length
  exact wpAny_pyNext_tuple_end (I.ok.hd hc) st (show s.heap.IsTuple a its.toArray from p) (by simp;omega) fun h' eb=>⟨rfl,I.turned (t':=s.toks) (fun b o hb e=>eb b o hb e) f0 f1 f3 f4 f5⟩
 self:=fun _ _ _ _ _ st h=>wpAny_pyIter_tupleiter st h
theorem turn_range {P:Program}{w:World}{K:PySem.W.Frag}{tg:Expr}(it:Addr)(lo:Int)(n:Nat):Turn P w K tg (Itr lo n) [it] it (fun i h=>IsRangeIter h it (lo+(i:Nat)*1) ((n:Int) - (i:Nat)) 1) where
 mem:=by simp
 obj:=fun i h st b hb=>by
  have e:b=it:=by simpa using hb
  subst e
  exact⟨_,st,fun v z=>by
   have z':Data.fields _=Data.cell v:=z
   cases z'⟩
 keep:=fun i h h' st k=>k it (by simp) _ st
 item:=by
  intro X hP hw hK hc i pins s σ H E I hf st hg
  subst hP hw hK
  obtain⟨f0,f1,f2,f3,f4,f5⟩:=hf it (by simp)
  have W:=Walks.range (prog:=X.prog) (w:=X.w) (I.ok.hd hc) it lo 1 n
  refine W.item i s _ _ hg st fun v h' tk hv st' kk=>?_
  obtain⟨t,rfl⟩:=hv
  have I1:Inv X pins σ H {s with heap:=h',toks:=tk}:=I.turned (fun b o hb e=>kk b o (by simpa using hb) e) f0 f1 f3 f4 f5
  refine⟨_,rfl,go_of (s:={s with heap:=h',toks:=tk}) (n:= "range_iterator") st' rfl rfl (by decide) ⟨.int (lo+i),H,I1,⟨t,?_⟩,⟨rfl,rfl⟩,st',fun b hb=>(hf b hb).1⟩⟩
  rw[Int.mul_one]
 done:=by
  intro X hP hw hK hc i pins s σ H E I hf st hg
  subst hP hw hK
  obtain⟨f0,f1,f2,f3,f4,f5⟩:=hf it (by simp)
  exact wpAny_pyNext_range_end (I.ok.hd hc) st (by have:n≤i:=hg;omega) fun h' eb=>⟨rfl,I.turned (t':=s.toks) (fun b o hb e=>eb b o hb e) f0 f1 f3 f4 f5⟩
 self:=fun _ _ _ _ _ st h=>wpAny_pyIter_rangeiter st h
section
variable {X:Cx} {tg:Expr}
def iList (K:PySem.W.Frag) (tl:TE):TI:=fun σ H R=>tl σ H fun x H1=>∃a,x=.ref a∧(∃xs,SqL K H1 a xs)∧R (Itl K a) H1
def iTup (K:PySem.W.Frag) (tl:TE):TI:=fun σ H R=>tl σ H fun x H1=>∃a,x=.ref a∧(∃xs,SqT K H1 a xs)∧R (Itt K a) H1
theorem pi_list {l:Expr}{tl:TE}(hl:PE X l tl):PI X tg l (iList X.K tl):=by
 intro pins s σ H R I h
 refine thn (hl pins s σ H _ I h) fun v s1 ⟨x,H1,I1,r1,q1⟩=>?_
 obtain⟨a,e,⟨xs,hq⟩,q⟩:=q1
 subst e
 cases r1
 obtain⟨its,rv,p,hz⟩:=I1.list hq
 refine wpAny_pyIter_list p.isList ?_
 refine⟨s1.heap.objs.size,[s1.heap.objs.size],_,_,H1,rfl,I1.kept (t':=s1.toks) fun b o e=>Heap.get?_push_of_some _ e,turn_list a _,⟨_,Heap.get?_push_size _ rfl,rfl,rfl⟩,fun b hb=>?_,q⟩
 have e:b=s1.heap.objs.size:=by simpa using hb
 subst e
 exact I1.fpOk (Nat.le_refl _) (I1.hok.fresh (Nat.le_refl _))
theorem pi_tup {l:Expr}{tl:TE}(hl:PE X l tl):PI X tg l (iTup X.K tl):=by
 intro pins s σ H R I h
 refine thn (hl pins s σ H _ I h) fun v s1 ⟨x,H1,I1,r1,q1⟩=>?_
 obtain⟨a,e,⟨xs,hq⟩,q⟩:=q1
 subst e
 cases r1
 obtain⟨its,rv,p,hz⟩:=I1.tuple hq
 refine wpAny_pyIter_tuple (show s1.heap.IsTuple a its.toArray from p) ?_
 refine⟨s1.heap.objs.size,[s1.heap.objs.size],_,_,H1,rfl,I1.kept (t':=s1.toks) fun b o e=>Heap.get?_push_of_some _ e,turn_tuple a _,⟨_,Heap.get?_push_size _ rfl,rfl,rfl⟩,fun b hb=>?_,q⟩
 have e:b=s1.heap.objs.size:=by simpa using hb
 subst e
 exact I1.fpOk (Nat.le_refl _) (I1.hok.fresh (Nat.le_refl _))
theorem range_it {pins:List (Addr×Obj)}{σ:St}{H:Hp}{s:Shared}{R:It→Hp→Prop}{E:Value→Shared→Prop}{lo hi:Int}{t u v:Tok}{tk:Nat}(I:Inv X pins σ H s)(h1: -(2^62)≤lo)(h2:lo<2^62)(h3: -(2^62)≤hi)(h4:hi<2^62)
  (q:R (Itr lo (hi - lo).toNat) H):wpAny (model X.prog X.w) X.A (pyIter (.ref s.heap.objs.size)) (PIE X pins σ tg R) E {s with heap:=s.heap.push {cls:=.type "range",data:=.fields #[.int lo t,.int hi u,.int 1 v]},toks:=tk}:=by
 refine wpAny_pyIter_range (IsRange.new ..) (small_one h1 h2 h3 h4) ?_
 have I1:Inv X pins σ H {s with heap:=s.heap.push {cls:=.type "range",data:=.fields #[.int lo t,.int hi u,.int 1 v]},toks:=tk}:=I.kept fun b o e=>Heap.get?_push_of_some _ e
 refine⟨(s.heap.push {cls:=.type "range",data:=.fields #[.int lo t,.int hi u,.int 1 v]}).objs.size,[(s.heap.push {cls:=.type "range",data:=.fields #[.int lo t,.int hi u,.int 1 v]}).objs.size],_,_,H,rfl,
  I1.kept (t':=tk) fun b o e=>Heap.get?_push_of_some _ e,turn_range _ lo (hi - lo).toNat,?_,fun b hb=>?_,q⟩
 ·have e1:lo+((0:Nat):Int)*1=lo:=by simp
  have e2:(((hi - lo).toNat:Nat):Int) - ((0:Nat):Int)=Builtin.Range.rangeSize lo hi 1:=by rw[rangeSize_one];split<;>omega
  show IsRangeIter _ _ (lo+((0:Nat):Int)*1) ((((hi - lo).toNat:Nat):Int) - ((0:Nat):Int)) 1
  rw[e1,e2]
  exact Heap.get?_push_size _ rfl
 ·have e:b=(s.heap.push {cls:=.type "range",data:=.fields #[.int lo t,.int hi u,.int 1 v]}).objs.size:=by simpa using hb
  subst e
  exact I1.fpOk (Nat.le_refl _) (I1.hok.fresh (Nat.le_refl _))
def iRng1 (ta:TA):TI:=fun σ H R=>ta σ H fun vs H1=>∃j:Int,vs=[.int j]∧ -(2^62)≤j∧j<2^62∧R (Itr 0 j.toNat) H1
theorem pi_range1 {a:Expr}{ta:TA}{p pos:Pos}(hg:Gl X "range")(hm:X.mg "range" =none)(ha:PA X [a] ta)(hs:starEach [a] X.env=[(false,eval a X.env)]:=by rfl):PI X tg (.Call (.Name "range" p) [a] [] pos) (iRng1 ta):=by
 intro pins s σ H R I h
 refine Call_ (ld_blt I hg hm boot_range (PyProof.Rows.callWith_type1 (thn (ha pos pins s σ H _ I h) fun us s1 ⟨vs,H1,I1,r1,q1⟩=>?_) hs rfl))
 obtain⟨j,e,q1,q2,q⟩:=q1
 subst e
 cases r1 with
 |cons r rr=>
  cases rr
  obtain⟨t,rfl⟩:=r
  exact call_range_1 (range_it I1 (by omega) (by omega) q1 q2 (by simpa using q))
def tFor (wi:TI) (g:TG) (tb:TS):TS:=fun D σ H=>wi σ H fun J H1=>∃W:Nat→Nat→St→Hp→Prop,(∃m,W 0 m σ H1)∧∀i m σ H,W i m σ H→
 (J.stop i H∧D.nx σ H)∨(J.go i H∧∃N:St→Hp→Prop,(∀σ' H',N σ' H'→∃m',m'<m∧W (i+1) m' σ' H')∧∀x H',J.yld i H x H'→g x σ H' fun σ2 H2=>tb {D with nx:=N,ct:=N,bk:=D.nx} σ2 H2)
noncomputable def pinsAt (fp:List Addr) (h:Heap):List (Addr×Obj):=fp.filterMap fun b=>(h.get? b).map fun o=>(b,o)
theorem mem_pinsAt {fp:List Addr}{h:Heap}{b:Addr}{o:Obj}(hb:b∈fp)(e:h.get? b=some o):(b,o)∈pinsAt fp h:=List.mem_filterMap.mpr ⟨b,hb,by rw[e];rfl⟩
theorem of_pinsAt {fp:List Addr}{h:Heap}{p:Addr×Obj}(hp:p∈pinsAt fp h):p.1∈fp∧h.get? p.1=some p.2:=by
 obtain⟨b,hb,e⟩:=List.mem_filterMap.mp hp
 cases q:h.get? b with
 |none=>rw[q] at e;cases e
 |some o=>
  rw[q] at e
  have e':(b,o)=p:=Option.some.inj e
  subst e'
  exact⟨hb,q⟩
theorem Inv.pinned {pins:List (Addr×Obj)}{σ:St}{H:Hp}{s:Shared}{fp:List Addr}(I:Inv X pins σ H s)(hf:∀b∈fp,FpOk X pins H b)(ho:∀b∈fp,∃o,s.heap.get? b=some o∧∀v,o.data≠.cell v):Inv X (pins++pinsAt fp s.heap) σ H s:=
 I.pins_of fun p hp=>(List.mem_append.mp hp).elim (fun z=>I.pin p (List.mem_append_right _ z)) fun z=>by
  obtain⟨hb,e⟩:=of_pinsAt z
  obtain⟨f0,f1,f2,_⟩:=hf p.1 hb
  obtain⟨o,e',d⟩:=ho p.1 hb
  rw[e] at e';cases e'
  exact⟨e,f0,f1,f2,d⟩
theorem Inv.unpinned {pins pl:List (Addr×Obj)}{σ:St}{H:Hp}{s:Shared}(I:Inv X (pins++pl) σ H s):Inv X pins σ H s:=I.pins_of fun p hp=>I.pin p (List.mem_append_right _ (List.mem_append_left _ hp))
theorem ps_for {iter:Expr}{body:List Stmt}{wi:TI}{g:TG}{tb:TS}{pos:Pos}(hp:PassesOwn (model X.prog X.w) X.A X.env X.xe)(hc:X.calm=true)(hi:PI X tg iter wi)(hg:PG X tg g)(hb:PSs X body tb)
  (hs:∀x,foldedSetIterable iter X.env x=pure x:=by intro _;rfl):PS X (.For tg iter body [] pos) (tFor wi g tb):=by
 intro pins s σ H D I h
 refine wpAny_For (thn (hi pins s σ H _ I h) fun v s1 h1=>thn h1 fun itv s2 h2=>?_) hs
 obtain⟨it,fp,tn,J,H2,e,I2,T,st2,f2,W,⟨m0,w0⟩,turn⟩:=h2
 subst e
 have stat:∀{H':Hp},(∀b∈fp,H' b=none)→∀b∈fp,FpOk X pins H' b:=fun hn b hb=>⟨hn b hb,(f2 b hb).2⟩
 refine codeAny_forLoop_any (fun n s'=>∃i σ' H',Inv X pins σ' H' s'∧tn i s'.heap∧(∀b∈fp,H' b=none)∧W i n σ' H') ?_ m0 ⟨0,σ,H2,I2,st2,fun b hb=>(f2 b hb).1,w0⟩
 rintro n s3 ⟨i,σ3,H3,I3,st3,fr3,w3⟩
 rcases turn i n σ3 H3 w3 with ⟨stop,qn⟩|⟨go,N,hN,step⟩
 ·refine wpAny_passesOwn hp (thn (T.done X rfl rfl rfl hc i pins s3 σ3 H3 X.xe I3 (stat fr3) st3 stop) fun r s4 ⟨hr,I4⟩=>?_)
  subst hr
  exact wpAny_execs_nil ⟨σ3,H3,I4,qn⟩
 ·refine wpAny_passesOwn hp (thn (T.item X rfl rfl rfl hc i pins s3 σ3 H3 X.xe I3 (stat fr3) st3 go) fun r s4 ⟨u,hr,h4⟩=>?_)
  subst hr
  refine wpAny_passesOwn hp (thn h4 fun _ s5 ⟨x,H5,I5,r5,y5,st5,fr5⟩=>?_)
  have I5':=I5.pinned (stat fr5) (T.obj _ _ st5)
  refine wpAny_passesOwn hp (thn (hg _ s5 σ3 H5 x u _ I5' r5 (step x H5 y5)) fun _ s6 ⟨σ6,H6,I6,q6⟩=>?_)
  refine wpAny_passesOwn hp (thn (hb _ s6 σ6 H6 _ I6 q6) fun f s7 q7=>?_)
  have again:∀{σ7:St} {H7:Hp},Inv X (pins++pinsAt fp s5.heap) σ7 H7 s7→N σ7 H7→∃m,m<n∧∃i σ' H',Inv X pins σ' H' s7∧tn i s7.heap∧(∀b∈fp,H' b=none)∧W i m σ' H':=fun{σ7 H7} I7 n7=>by
   obtain⟨m',hm,w7⟩:=hN σ7 H7 n7
   refine⟨m',hm,i+1,σ7,H7,I7.unpinned,T.keep _ _ _ st5 fun b hb o e=>(I7.pin (b,o) (List.mem_append_right _ (List.mem_append_right _ (mem_pinsAt hb e)))).1,fun b hb=>?_,w7⟩
   obtain⟨o,e,d⟩:=T.obj _ _ st5 b hb
   exact(I7.pin (b,o) (List.mem_append_right _ (List.mem_append_right _ (mem_pinsAt hb e)))).2.1
  cases f with
  |next=>obtain⟨σ7,H7,I7,n7⟩:=q7;exact again I7 n7
  |cont=>obtain⟨σ7,H7,I7,n7⟩:=q7;exact again I7 n7
  |brk=>obtain⟨σ7,H7,I7,q7⟩:=q7;exact⟨σ7,H7,I7.unpinned,q7⟩
  |ret v=>obtain⟨x7,σ7,H7,I7,r7,q7⟩:=q7;exact⟨x7,σ7,H7,I7.unpinned,r7,q7⟩
end
theorem for_list {K:PySem.W.Frag}{a:Addr}{xs:List V}{g:TG}{tb:TS}{D:Ends}{σ:St}{H:Hp}(Pv:Nat→St→Hp→Prop)(h0:Pv 0 σ H)(hl:∀i σ H,i≤xs.length→Pv i σ H→SqL K H a xs)
  (hs:∀i x σ H,xs[i]?=some x→Pv i σ H→g x σ H fun σ2 H2=>tb {D with nx:=Pv (i+1),ct:=Pv (i+1),bk:=D.nx} σ2 H2) (hd:∀σ H,Pv xs.length σ H→D.nx σ H):
  ∃W:Nat→Nat→St→Hp→Prop,(∃m,W 0 m σ H)∧∀i m σ H,W i m σ H→
   ((Itl K a).stop i H∧D.nx σ H)∨((Itl K a).go i H∧∃N:St→Hp→Prop,(∀σ' H',N σ' H'→∃m',m'<m∧W (i+1) m' σ' H')∧∀x H',(Itl K a).yld i H x H'→g x σ H' fun σ2 H2=>tb {D with nx:=N,ct:=N,bk:=D.nx} σ2 H2):=by
 refine⟨fun i m σ H=>m=xs.length - i∧i≤xs.length∧Pv i σ H,⟨xs.length,by simp,Nat.zero_le _,h0⟩,?_⟩
 rintro i m σ H ⟨rfl,hi,p⟩
 have q:=hl i σ H hi p
 by_cases hlt:i<xs.length
 ·refine .inr ⟨⟨xs,xs[i],q,by simp[hlt]⟩,Pv (i+1),fun σ' H' p'=>⟨xs.length - (i+1),by omega,rfl,hlt,p'⟩,fun x H' y=>?_⟩
  obtain⟨e,y⟩:=y
  subst e
  exact hs i x σ _ (y xs q) p
 ·have e:i=xs.length:=by omega
  subst e
  exact .inl ⟨⟨xs,q,Nat.le_refl _⟩,hd σ H p⟩
theorem for_range {lo:Int}{n:Nat}{g:TG}{tb:TS}{D:Ends}{σ:St}{H:Hp}(Pv:Nat→St→Hp→Prop)(h0:Pv 0 σ H)
  (hs:∀i σ H,i<n→Pv i σ H→g (.int (lo+i)) σ H fun σ2 H2=>tb {D with nx:=Pv (i+1),ct:=Pv (i+1),bk:=D.nx} σ2 H2) (hd:∀σ H,Pv n σ H→D.nx σ H):
  ∃W:Nat→Nat→St→Hp→Prop,(∃m,W 0 m σ H)∧∀i m σ H,W i m σ H→
   ((Itr lo n).stop i H∧D.nx σ H)∨((Itr lo n).go i H∧∃N:St→Hp→Prop,(∀σ' H',N σ' H'→∃m',m'<m∧W (i+1) m' σ' H')∧∀x H',(Itr lo n).yld i H x H'→g x σ H' fun σ2 H2=>tb {D with nx:=N,ct:=N,bk:=D.nx} σ2 H2):=by
 refine⟨fun i m σ H=>m=n - i∧i≤n∧Pv i σ H,⟨n,by simp,Nat.zero_le _,h0⟩,?_⟩
 rintro i m σ H ⟨rfl,hi,p⟩
 by_cases hlt:i<n
 ·refine .inr ⟨hlt,Pv (i+1),fun σ' H' p'=>⟨n - (i+1),by omega,rfl,hlt,p'⟩,fun x H' y=>?_⟩
  obtain⟨e,y⟩:=y
  subst e y
  exact hs i σ _ hlt p
 ·have e:i=n:=by omega
  subst e
  exact .inl ⟨Nat.le_refl _,hd σ H p⟩
abbrev R2:=V→V→Hp→VK→Prop
def OpR (X:Cx) (f:Value→Value→Sem Value) (r:R2):Prop:=
 ∀(pins:List (Addr×Obj)) (s:Shared) (σ:St) (H:Hp) (x y:V) (v u:Value) (Q:VK),Inv X pins σ H s→RelV x v→RelV y u→r x y H Q→
  wpAny (model X.prog X.w) X.A (f v u) (EP X pins σ Q) X.xe s
def UnR (X:Cx) (f:Value→Sem Value) (r:V→Hp→VK→Prop):Prop:=
 ∀(pins:List (Addr×Obj)) (s:Shared) (σ:St) (H:Hp) (x:V) (v:Value) (Q:VK),Inv X pins σ H s→RelV x v→r x H Q→
  wpAny (model X.prog X.w) X.A (f v) (EP X pins σ Q) X.xe s
def CallR (X:Cx) (f:Value) (r:List V→Hp→VK→Prop):Prop:=
 ∀(pins:List (Addr×Obj)) (s:Shared) (σ:St) (H:Hp) (xs:List V) (us:List Value) (Q:VK),Inv X pins σ H s→Vals xs us→r xs H Q→
  wpAny (model X.prog X.w) X.A (call f us) (EP X pins σ Q) X.xe s
def tOp (r:R2) (ta tb:TE):TE:=fun σ H Q=>ta σ H fun x H1=>tb σ H1 fun y H2=>r x y H2 Q
def tUn (r:V→Hp→VK→Prop) (ta:TE):TE:=fun σ H Q=>ta σ H fun x H1=>r x H1 Q
def rI (C:Int→Int→Prop) (g:Int→Int→V):R2:=fun x y H Q=>∃i j,x=.int i∧y=.int j∧C i j∧Q (g i j) H
def rI0 (g:Int→Int→V):R2:=fun x y H Q=>∃i j,x=.int i∧y=.int j∧Q (g i j) H
def rU (g:Int→V):V→Hp→VK→Prop:=fun x H Q=>∃i,x=.int i∧Q (g i) H
section
variable {X:Cx} {a b c:Expr} {ta tb tc:TE} {pos:Pos}
theorem binT (ha:PE X a ta)(hb:PE X b tb){pins:List (Addr×Obj)}{s:Shared}{σ:St}{H:Hp}{R:V→V→Hp→Prop}(I:Inv X pins σ H s)
  (h:ta σ H fun x H1=>tb σ H1 fun y H2=>R x y H2) {Q:Value→Shared→Prop} {f:Value→Value→Sem Value}
  (hf:∀v u s2 x y H2,Inv X pins σ H2 s2→RelV x v→RelV y u→R x y H2→wpAny (model X.prog X.w) X.A (f v u) Q X.xe s2):
  wpAny (model X.prog X.w) X.A (eval a X.env) (fun v s₁=>wpAny (model X.prog X.w) X.A (eval b X.env) (fun u s₂=>wpAny (model X.prog X.w) X.A (f v u) Q X.xe s₂) X.xe s₁) X.xe s:=by
 refine thn (ha pins s σ H _ I h) fun v s1 ⟨x,H1,I1,r1,q1⟩=>?_
 refine thn (hb pins s1 σ H1 _ I1 q1) fun u s2 ⟨y,H2,I2,r2,q2⟩=>?_
 exact hf v u s2 x y H2 I2 r1 r2 q2
theorem pe_op {op:Operator}{r:R2}(ho:OpR X (binaryOp op) r)(ha:PE X a ta)(hb:PE X b tb):PE X (.BinOp a op b pos) (tOp r ta tb):=by
 intro pins s σ H Q I h
 exact wpAny_BinOp (binT ha hb I h fun v u s2 x y H2 I2 rx ry q=>ho pins s2 σ H2 x y v u Q I2 rx ry q)
theorem pe_un {op:UnaryOp}{r:V→Hp→VK→Prop}(ho:UnR X (unaryOp op) r)(ha:PE X a ta):PE X (.UnaryOp op a pos) (tUn r ta):=by
 intro pins s σ H Q I h
 exact UnaryOp_ (thn (ha pins s σ H _ I h) fun v s1 ⟨x,H1,I1,r1,q1⟩=>ho pins s1 σ H1 x v Q I1 r1 q1)
theorem opI {f:Value→Value→Sem Value}{C:Int→Int→Prop}{g:Int→Int→Int}
  (rule:∀(i j:Int) (t u:Tok) (s:Shared) (Q:Value→Shared→Prop) (E:Value→Shared→Prop),C i j→Q (.int (g i j) s.toks) {s with toks:=s.toks+1}→wpAny (model X.prog X.w) X.A (f (.int i t) (.int j u)) Q E s):
  OpR X f (rI C fun i j=> .int (g i j)):=by
 intro pins s σ H x y v u Q I rx ry h
 obtain⟨i,j,rfl,rfl,hc,q⟩:=h
 obtain⟨t,rfl⟩:=rx
 obtain⟨t',rfl⟩:=ry
 exact rule i j t t' s _ _ hc ⟨.int (g i j),H,I.tok _,⟨_,rfl⟩,q⟩
theorem opI0 {f:Value→Value→Sem Value}{g:Int→Int→Int}
  (rule:∀(i j:Int) (t u:Tok) (s:Shared) (Q:Value→Shared→Prop) (E:Value→Shared→Prop),Q (.int (g i j) s.toks) {s with toks:=s.toks+1}→wpAny (model X.prog X.w) X.A (f (.int i t) (.int j u)) Q E s):
  OpR X f (rI0 fun i j=> .int (g i j)):=by
 intro pins s σ H x y v u Q I rx ry h
 obtain⟨i,j,rfl,rfl,q⟩:=h
 obtain⟨t,rfl⟩:=rx
 obtain⟨t',rfl⟩:=ry
 exact rule i j t t' s _ _ ⟨.int (g i j),H,I.tok _,⟨_,rfl⟩,q⟩
theorem opB0 {f:Value→Value→Sem Value}{g:Int→Int→Bool}
  (rule:∀(i j:Int) (t u:Tok) (s:Shared) (Q:Value→Shared→Prop) (E:Value→Shared→Prop),Q (.bool (g i j)) s→wpAny (model X.prog X.w) X.A (f (.int i t) (.int j u)) Q E s):
  OpR X f (rI0 fun i j=> .bl (g i j)):=by
 intro pins s σ H x y v u Q I rx ry h
 obtain⟨i,j,rfl,rfl,q⟩:=h
 obtain⟨t,rfl⟩:=rx
 obtain⟨t',rfl⟩:=ry
 exact rule i j t t' s _ _ ⟨.bl (g i j),H,I,rfl,q⟩
def CPow (i j:Int):Prop:=0≤j∧j≤1000000∧i.natAbs<2^64
def CMul (i j:Int):Prop:=(-(2^64)<i∧i<2^64)∨(-(2^64)<j∧j<2^64)
theorem CMul.ok {i j:Int}(h:CMul i j):IntMulOk i j:=by
 rcases h with ⟨h1,h2⟩|⟨h1,h2⟩
 ·exact .of_left (intBits_le_64 h1 h2)
 ·exact .of_right (intBits_le_64 h1 h2)
theorem op_add:OpR X (binaryOp .Add) (rI0 fun i j=> .int (i+j)):=opI0 fun _ _ _ _ _ _ _ q=>add_int q
theorem op_sub:OpR X (binaryOp .Sub) (rI0 fun i j=> .int (i - j)):=opI0 fun _ _ _ _ _ _ _ q=>sub_int q
theorem op_mul:OpR X (binaryOp .Mult) (rI CMul fun i j=> .int (i*j)):=opI fun _ _ _ _ _ _ _ hc q=>mul_int q hc.ok
theorem op_mod:OpR X (binaryOp .Mod) (rI (fun _ j=>0<j) fun i j=> .int (i%j)):=opI fun i j _ _ _ _ _ hc q=>by
 have h1:(0:Int)<j:=hc
 exact mod_int' (by omega) (by rw[Int.fmod_eq_emod_of_nonneg i (by omega)];exact q)
theorem op_pow:OpR X (binaryOp .Pow) (rI CPow fun i j=> .int (i^j.toNat)):=opI fun _ _ _ _ _ _ _ hc q=>pow_int_small hc.1 hc.2.1 hc.2.2 q
theorem unI {f:Value→Sem Value}{g:Int→Int}
  (rule:∀(i:Int) (t:Tok) (s:Shared) (Q:Value→Shared→Prop) (E:Value→Shared→Prop),Q (.int (g i) s.toks) {s with toks:=s.toks+1}→wpAny (model X.prog X.w) X.A (f (.int i t)) Q E s):
  UnR X f (rU fun i=> .int (g i)):=by
 intro pins s σ H x v Q I rx h
 obtain⟨i,rfl,q⟩:=h
 obtain⟨t,rfl⟩:=rx
 exact rule i t s _ _ ⟨.int (g i),H,I.tok _,⟨_,rfl⟩,q⟩
theorem un_neg:UnR X (unaryOp .USub) (rU fun i=> .int (-i)):=unI fun _ _ _ _ _ q=>neg_int q
end
noncomputable def scal:V→V→Bool
 | .non,.non=>true| .non,.int _=>true| .int _,.non=>true| .non,.bl _=>true| .bl _,.non=>true| .non,.str _=>true| .str _,.non=>true
 | .int _,.int _=>true| .bl _,.bl _=>true| .str _,.str _=>true| .byt _,.byt _=>true
 | .int _,.str _=>true| .str _,.int _=>true| .bl _,.str _=>true| .str _,.bl _=>true
 |_,_=>false
def rEq:R2:=fun x y H Q=>scal x y=true∧Q (.bl (decide (x=y))) H
def rNe:R2:=fun x y H Q=>scal x y=true∧Q (.bl (!decide (x=y))) H
theorem dec_int {i j:Int}:decide (V.int i=V.int j)=(i==j):=by
 rw[Bool.eq_iff_iff]
 simp
theorem dec_bl {i j:Bool}:decide (V.bl i=V.bl j)=(i==j):=by
 rw[Bool.eq_iff_iff]
 simp
theorem dec_str {i j:Str}:decide (V.str i=V.str j)=(i==j):=by
 rw[Bool.eq_iff_iff]
 simp
theorem dec_byt {i j:Array UInt8}:decide (V.byt i=V.byt j)=(i.toList==j.toList):=by
 rw[Bool.eq_iff_iff]
 cases i
 cases j
 simp
section
variable {X:Cx} {a b c:Expr} {ta tb tc:TE} {pos:Pos}
theorem fin_bl {pins:List (Addr×Obj)}{σ:St}{H:Hp}{s:Shared}{Q:VK}{k k':Bool}(I:Inv X pins σ H s)(q:Q (.bl k) H)(e:k=k'):EP X pins σ Q (.bool k') s:=by
 subst e
 exact⟨.bl k,H,I,rfl,q⟩
theorem op_eq:OpR X (compareOp .Eq) rEq:=by
 intro pins s σ H x y v u Q I rx ry h
 obtain⟨hs,q⟩:=h
 cases x with
 |non=>
  cases rx
  cases y with
  |non=>cases ry;exact PySem.EqNone.eq_none_none (fin_bl I q (by simp))
  |bl j=>cases ry;exact PySem.EqNone.eq_none_bool (fin_bl I q (by simp))
  |int j=>obtain⟨t',rfl⟩:=ry;exact PySem.EqNone.eq_none_int (fin_bl I q (by simp))
  |str j=>obtain⟨t',rfl⟩:=ry;exact PySem.EqNone.eq_none_str (fin_bl I q (by simp))
  |_=>exact absurd (show false=true from hs) Bool.false_ne_true
 |bl i=>
  cases rx
  cases y with
  |non=>cases ry;exact PySem.EqNone.eq_bool_none (fin_bl I q (by simp))
  |bl j=>cases ry;exact eq_bool (fin_bl I q dec_bl)
  |str j=>obtain⟨t',rfl⟩:=ry;exact PySem.EqMixed.eq_bool_str (fin_bl I q (by simp))
  |_=>exact absurd (show false=true from hs) Bool.false_ne_true
 |int i=>
  obtain⟨t,rfl⟩:=rx
  cases y with
  |non=>cases ry;exact PySem.EqNone.eq_int_none (fin_bl I q (by simp))
  |int j=>obtain⟨t',rfl⟩:=ry;exact eq_int (fin_bl I q dec_int)
  |str j=>obtain⟨t',rfl⟩:=ry;exact PySem.EqMixed.eq_int_str (fin_bl I q (by simp))
  |_=>exact absurd (show false=true from hs) Bool.false_ne_true
 |str i=>
  obtain⟨t,rfl⟩:=rx
  cases y with
  |non=>cases ry;exact PySem.EqNone.eq_str_none (fin_bl I q (by simp))
  |bl j=>cases ry;exact PySem.EqMixed.eq_str_bool (fin_bl I q (by simp))
  |int j=>obtain⟨t',rfl⟩:=ry;exact PySem.EqMixed.eq_str_int (fin_bl I q (by simp))
  |str j=>obtain⟨t',rfl⟩:=ry;exact eq_str (fin_bl I q dec_str)
  |_=>exact absurd (show false=true from hs) Bool.false_ne_true
 |byt i=>
  obtain⟨t,rfl⟩:=rx
  cases y with
  |byt j=>obtain⟨t',rfl⟩:=ry;exact PySem.W.eq_bytes (fin_bl I q dec_byt)
  |_=>exact absurd (show false=true from hs) Bool.false_ne_true
 |_=>cases y<;>exact absurd (show false=true from hs) Bool.false_ne_true
theorem op_ne:OpR X (compareOp .NotEq) rNe:=by
 intro pins s σ H x y v u Q I rx ry h
 obtain⟨hs,q⟩:=h
 cases x with
 |non=>
  cases rx
  cases y with
  |non=>cases ry;exact PySem.EqNone.ne_none_none (fin_bl I q (by simp))
  |bl j=>cases ry;exact PySem.EqNone.ne_none_bool (fin_bl I q (by simp))
  |int j=>obtain⟨t',rfl⟩:=ry;exact PySem.EqNone.ne_none_int (fin_bl I q (by simp))
  |str j=>obtain⟨t',rfl⟩:=ry;exact PySem.EqNone.ne_none_str (fin_bl I q (by simp))
  |_=>exact absurd (show false=true from hs) Bool.false_ne_true
 |bl i=>
  cases rx
  cases y with
  |non=>cases ry;exact PySem.EqNone.ne_bool_none (fin_bl I q (by simp))
  |bl j=>cases ry;exact ne_bool (fin_bl I q (congrArg not dec_bl))
  |str j=>obtain⟨t',rfl⟩:=ry;exact PySem.EqMixed.ne_bool_str (fin_bl I q (by simp))
  |_=>exact absurd (show false=true from hs) Bool.false_ne_true
 |int i=>
  obtain⟨t,rfl⟩:=rx
  cases y with
  |non=>cases ry;exact PySem.EqNone.ne_int_none (fin_bl I q (by simp))
  |int j=>obtain⟨t',rfl⟩:=ry;exact ne_int (fin_bl I q (congrArg not dec_int))
  |str j=>obtain⟨t',rfl⟩:=ry;exact PySem.EqMixed.ne_int_str (fin_bl I q (by simp))
  |_=>exact absurd (show false=true from hs) Bool.false_ne_true
 |str i=>
  obtain⟨t,rfl⟩:=rx
  cases y with
  |non=>cases ry;exact PySem.EqNone.ne_str_none (fin_bl I q (by simp))
  |bl j=>cases ry;exact PySem.EqMixed.ne_str_bool (fin_bl I q (by simp))
  |int j=>obtain⟨t',rfl⟩:=ry;exact PySem.EqMixed.ne_str_int (fin_bl I q (by simp))
  |str j=>obtain⟨t',rfl⟩:=ry;exact ne_str (fin_bl I q (congrArg not dec_str))
  |_=>exact absurd (show false=true from hs) Bool.false_ne_true
 |byt i=>
  obtain⟨t,rfl⟩:=rx
  cases y with
  |byt j=>obtain⟨t',rfl⟩:=ry;exact PySem.W.ne_bytes (fin_bl I q (congrArg not dec_byt))
  |_=>exact absurd (show false=true from hs) Bool.false_ne_true
 |_=>cases y<;>exact absurd (show false=true from hs) Bool.false_ne_true
theorem op_lt:OpR X (compareOp .Lt) (rI0 fun i j=> .bl (decide (i<j))):=opB0 fun _ _ _ _ _ _ _ q=>lt_int q
theorem op_le:OpR X (compareOp .LtE) (rI0 fun i j=> .bl (decide (i≤j))):=opB0 fun _ _ _ _ _ _ _ q=>le_int q
theorem op_gt:OpR X (compareOp .Gt) (rI0 fun i j=> .bl (decide (j<i))):=opB0 fun _ _ _ _ _ _ _ q=>gt_int q
theorem op_ge:OpR X (compareOp .GtE) (rI0 fun i j=> .bl (decide (j≤i))):=opB0 fun _ _ _ _ _ _ _ q=>ge_int q
theorem op_in_str:OpR X (compareOp .In) (fun x y H Q=>∃i j,x=.str i∧y=.str j∧Q (.bl (!(Builtin.Str.occurrences j i 0 j.length 1).isEmpty)) H):=by
 intro pins s σ H x y v u Q I rx ry h
 obtain⟨i,j,rfl,rfl,q⟩:=h
 obtain⟨t,rfl⟩:=rx
 obtain⟨t',rfl⟩:=ry
 exact in_str (fin_bl I q rfl)
theorem op_isN:OpR X (compareOp .Is) (fun x y H Q=>y=.non∧Q (.bl (decide (x=.non))) H):=by
 intro pins s σ H x y v u Q I rx ry h
 obtain⟨rfl,q⟩:=h
 cases ry
 refine is_none_gen (fin_bl I q ?_)
 cases x<;>first
  |(cases rx;rfl)
  |(obtain⟨t,rfl⟩:=rx;rfl)
theorem op_notN:OpR X (compareOp .IsNot) (fun x y H Q=>y=.non∧Q (.bl (!decide (x=.non))) H):=by
 intro pins s σ H x y v u Q I rx ry h
 obtain⟨rfl,q⟩:=h
 cases ry
 refine isnot_none_gen (fin_bl I q ?_)
 cases x<;>first
  |(cases rx;rfl)
  |(obtain⟨t,rfl⟩:=rx;rfl)
theorem op_notin_str:OpR X (compareOp .NotIn) (fun x y H Q=>∃i j,x=.str i∧y=.str j∧Q (.bl (!(!(Builtin.Str.occurrences j i 0 j.length 1).isEmpty))) H):=by
 intro pins s σ H x y v u Q I rx ry h
 obtain⟨i,j,rfl,rfl,q⟩:=h
 obtain⟨t,rfl⟩:=rx
 obtain⟨t',rfl⟩:=ry
 exact notIn_str (fin_bl I q rfl)
theorem nomark (b:Expr){op:CmpOp}(h:op≠.In:=by decide)(h2:op≠.NotIn:=by decide):behindInMarks op b=false:=by
 have e1:(op==CmpOp.In)=false:=by cases op<;>first|rfl|exact absurd rfl h
 have e2:(op==CmpOp.NotIn)=false:=by cases op<;>first|rfl|exact absurd rfl h2
 cases b<;>simp[behindInMarks,e1,e2]
theorem pe_cmpR {op:CmpOp}{r:R2}(ho:OpR X (compareOp op) r)(ha:PE X a ta)(hb:PE X b tb)(hm:behindInMarks op b=false):PE X (.Compare a [op] [b] pos) (tOp r ta tb):=by
 intro pins s σ H Q I h
 exact wpAny_Compare1 (binT ha hb I h fun v u s2 x y H2 I2 rx ry q=>ho pins s2 σ H2 x y v u Q I2 rx ry q) hm
def tTest (t:TE):TT:=fun σ H Q=>t σ H fun x H'=>∃k,x=.bl k∧Q k H'
theorem pt_cmpR {op:CmpOp}{r:R2}(ho:OpR X (compareOp op) r)(ha:PE X a ta)(hb:PE X b tb)(hm:behindInMarks op b=false):PT X (.Compare a [op] [b] pos) (tTest (tOp r ta tb)):=by
 intro pins s σ H Q I h
 refine wpAny_isTrue_Compare1 (thn (ha pins s σ H _ I h) fun v s1 ⟨x,H1,I1,r1,q1⟩=>thn (hb pins s1 σ H1 _ I1 q1) fun u s2 ⟨y,H2,I2,r2,q2⟩=>
  thn (ho pins s2 σ H2 x y v u _ I2 r1 r2 q2) fun c s3 ⟨z,H3,I3,r3,k,e,q3⟩=>?_) hm
 subst e
 cases r3
 exact wpAny_truthy_bool ⟨H3,I3,q3⟩
def tChain (r r':R2) (ta tb tc:TE):TE:=fun σ H Q=>ta σ H fun x H1=>tb σ H1 fun y H2=>r x y H2 fun z H3=>∃k,z=.bl k∧
 (if k=true then tc σ H3 fun w' H4=>r' y w' H4 Q else Q (.bl false) H3)
theorem pt_chain {op op':CmpOp}{r r':R2}(ho:OpR X (compareOp op) r)(ho':OpR X (compareOp op') r')(ha:PE X a ta)(hb:PE X b tb)(hc:PE X c tc)
  (hm:lastMarks [op,op'] [b,c]=false:=by with_unfolding_all rfl):PT X (.Compare a [op,op'] [b,c] pos) (tTest (tChain r r' ta tb tc)):=by
 intro pins s σ H Q I h
 refine isTrue_chain (thn (ha pins s σ H _ I h) fun v s1 ⟨x,H1,I1,r1,q1⟩=>test_link (thn (hb pins s1 σ H1 _ I1 q1) fun u s2 ⟨y,H2,I2,r2,q2⟩=>
  thn (ho pins s2 σ H2 x y v u _ I2 r1 r2 q2) fun d s3 ⟨z,H3,I3,r3,k,e,q3⟩=>?_)) hm
 subst e
 cases r3
 refine wpAny_truthy_bool ?_
 cases k with
 |false=>
  obtain⟨k',e',q'⟩:=q3
  cases e'
  exact ite_ff ⟨H3,I3,q'⟩
 |true=>
  refine ite_tt (test_last (thn (hc pins s3 σ H3 _ I3 q3) fun w' s4 ⟨z',H4,I4,r4,q4⟩=>thn (ho' pins s4 σ H4 y z' u w' _ I4 r2 r4 q4) fun d' s5 ⟨z2,H5,I5,r5,k2,e2,q5⟩=>?_))
  subst e2
  cases r5
  exact wpAny_truthy_bool ⟨H5,I5,q5⟩
theorem line63:(sizeLine:Nat)<2^63:=by rw[sizeLine_eq];decide
theorem op_add_str:OpR X (binaryOp .Add) (fun x y H Q=>∃i j,x=.str i∧y=.str j∧i.length+j.length≤sizeLine∧Q (.str (i++j)) H):=by
 intro pins s σ H x y v u Q I rx ry h
 obtain⟨i,j,rfl,rfl,hz,q⟩:=h
 obtain⟨t,rfl⟩:=rx
 obtain⟨t',rfl⟩:=ry
 exact add_str (fun t' tk=>⟨.str (i++j),H,I.tok _,⟨_,rfl⟩,q⟩) hz
theorem vals1 {x:V}{us:List Value}(r:Vals [x] us):∃u,us=[u]∧RelV x u:=by
 cases r with
 |cons r1 r2=>cases r2;exact⟨_,rfl,r1⟩
theorem vals2 {x y:V}{us:List Value}(r:Vals [x,y] us):∃u w',us=[u,w']∧RelV x u∧RelV y w':=by
 cases r with
 |cons r1 r2=>
  cases r2 with
  |cons r3 r4=>cases r4;exact⟨_,_,rfl,r1,r3⟩
theorem call_str_int:CallR X (.type "str") (fun xs H Q=>∃i,xs=[.int i]∧i.natAbs.log2<1920∧Q (.str (toString i)) H):=by
 intro pins s σ H xs us Q I r h
 obtain⟨i,rfl,hz,q⟩:=h
 obtain⟨u,rfl,t,rfl⟩:=vals1 r
 exact PySem.P.str_of_int hz ⟨.str _,H,I.tok _,⟨_,rfl⟩,q⟩
def LenV (K:PySem.W.Frag) (x:V) (H:Hp) (n:Nat):Prop:=
 match x with
 | .str y=>y.length≤sizeLine∧n=y.length
 | .byt y=>y.size≤sizeLine∧n=y.size
 | .ref p=>(∃xs,SqL K H p xs∧n=xs.length)∨∃xs,SqT K H p xs∧n=xs.length
 |_=>False
theorem call_len:CallR X (.builtin "len") (fun xs H Q=>∃x n,xs=[x]∧LenV X.K x H n∧Q (.int n) H):=by
 intro pins s σ H xs us Q I r h
 obtain⟨x,n,rfl,e,q⟩:=h
 obtain⟨u,rfl,rx⟩:=vals1 r
 have hl:=line63
 have hs:sizeLine=16777216:=sizeLine_eq
 cases x with
 |str y=>
  obtain⟨t,rfl⟩:=rx
  obtain⟨hy,e'⟩:y.length≤sizeLine∧n=y.length:=e
  subst e'
  exact len_str (by omega) ⟨.int _,H,I.tok _,⟨_,rfl⟩,q⟩
 |byt y=>
  obtain⟨t,rfl⟩:=rx
  obtain⟨hy,e'⟩:y.size≤sizeLine∧n=y.size:=e
  subst e'
  exact PySem.W.len_bytes (by omega) ⟨.int _,H,I.tok _,⟨_,rfl⟩,q⟩
 |ref p=>
  cases rx
  have e':(∃xs,SqL X.K H p xs∧n=xs.length)∨∃xs,SqT X.K H p xs∧n=xs.length:=e
  rcases e' with ⟨xs,hx,e'⟩|⟨xs,hx,e'⟩
  ·subst e'
   obtain⟨its,r',pl,hz⟩:=I.list hx
   have hlen:=r'.length
   exact Calls.call_len_list pl.isList (by simp only[List.size_toArray];omega) ⟨.int xs.length,H,I.tok _,⟨_,by simp only[List.size_toArray];rw[hlen]⟩,q⟩
  ·subst e'
   obtain⟨its,r',pl,hz⟩:=I.tuple hx
   have hlen:=r'.length
   exact len_tuple pl (by simp only[List.size_toArray];omega) ⟨.int xs.length,H,I.tok _,⟨_,by simp only[List.size_toArray];rw[hlen]⟩,q⟩
 |_=>exact(show False from e).elim
end
structure ObjM (h:Heap) (x dx C:Addr) (mA:Str→Option Value):Prop where
 obj:h.get? x=some (PySem.W.instObj C dx)
 ns:h.Ns1 dx mA
 ne:dx≠x
theorem lookIn_ns {h:Heap}{dx:Addr}{mA:Str→Option Value}(n:h.Ns1 dx mA):∃od,h.get? dx=some od∧∀name,PySem.W.lookIn name od=some (mA name):=by
 obtain⟨o,es,ep,ho,hd,hk,_,hm⟩:=n
 refine⟨o,ho,fun name=>?_⟩
 have e:=hm name
 unfold nsFind findBy at e
 rw[←Array.find?_toList] at e
 unfold PySem.W.lookIn
 rw[hd]
 dsimp only
 split
 ·rename_i y q
  rw[q] at e
  exact congrArg some e
 ·rename_i q
  rw[q] at e
  have a:es.toList.any (·.refKey)=false:=by
   rw[List.any_eq_false]
   intro y hy
   obtain⟨z,t,hkey⟩:=hk y (Array.mem_toList_iff.mp hy)
   simp[DictEntry.refKey,hkey]
  have a':¬es.toList.any (·.refKey)=true:=by rw[a];exact Bool.false_ne_true
  rw[if_neg a']
  exact congrArg some e
theorem ObjM.look {h:Heap}{x dx C:Addr}{mA:Str→Option Value}(I:ObjM h x dx C mA):∃od,PySem.W.InstAt h x (PySem.W.instObj C dx) C (some od)∧∀name,PySem.W.lookIn name od=some (mA name):=
 let ⟨od,ho,hl⟩:=lookIn_ns I.ns
 ⟨od,⟨I.obj,rfl,rfl,ho⟩,hl⟩
section
variable {prog:Program} {w:World} {A:Around} {E:Value→Shared→Prop} {s:Shared} {K:PySem.W.Frag} {x dx C f:Addr} {mA:Str→Option Value} {name:Str} {v:Value}
theorem get_map {expr:Bool}{Q:Value→Shared→Prop}(X:K.In s.heap)(I:ObjM s.heap x dx C mA)(hg:PySem.W.plainGet K C name=true)(hh:PySem.W.hasDictIn K C=true)
  (ha:PySem.W.findIn K (.ref C) name=some none) (hv:mA name=some v) (hv':PySem.W.handedIn v=true) (h:Q v {s with toks:=s.toks+1}):
  wpAny (model prog w) A (getAttr (.ref x) name expr) Q E s:=by
 obtain⟨od,J,hl⟩:=I.look
 exact PySem.W.get_value X J (PySem.W.plainGet_of hg).1 (PySem.W.findObj_own hh ha rfl (by rw[hl,hv])) hv' h
theorem get_meth {pl:Sem Bool}{Q:Value×List Value→Shared→Prop}(X:K.In s.heap)(I:ObjM s.heap x dx C mA)(hg:PySem.W.plainGet K C name=true)
  (hf:PySem.W.findIn K (.ref C) name=some (some (.ref f))) (ht:PySem.W.isFn K (.ref f)=true) (hv:mA name=none) (h:Q (.ref f,[.ref x]) s):
  wpAny (model prog w) A (getMethod (.ref x) name pl) Q E s:=by
 obtain⟨od,J,hl⟩:=I.look
 exact PySem.W.method_fn X J (PySem.W.plainGet_of hg).1 (PySem.W.plainGet_of hg).2 hf (beq_iff_eq.mp ht) (by show(PySem.W.lookIn name od).map (·.isSome)=some false;rw[hl,hv];rfl) h
theorem set_map {ns:List Str}{Q:Unit→Shared→Prop}(X:K.In s.heap)(I:ObjM s.heap x dx C mA)
  (hs:PySem.W.findIn K (.ref C) "__setattr__" =some (some (.builtin "object.__setattr__"))) (hp:PySem.W.plainOver K C=true) (ht:PySem.W.takerIn K C name=some none) (hh:PySem.W.hasDictIn K C=true)
  (hw:PySem.Within mA ns) (hsz:ns.length≤sizeLine)
  (h:∀h',ObjM h' x dx C (fun y=>if y=name then some v else mA y)→Heap.SameBut dx s.heap h'→Q () {s with heap:=h',toks:=s.toks+2}):
  wpAny (model prog w) A (setAttr (.ref x) name v) Q E s:=by
 obtain⟨od,J,hl⟩:=I.look
 refine PySem.W.set_plain X J hs (PySem.W.osa_open (s:={s with toks:=s.toks+1}) (r:=none) X J hp ht fun b=>?_)
 obtain⟨cd,hc,hd'⟩:=PySem.W.any_some hh
 have hx:s.heap.get? x=some ⟨.ref C,some dx,.plain,#[]⟩:=I.obj
 refine wpAny_bind (wpAny_pure (wpAny_bind (wpAny_bind (wpAny_loadPart hx (wpAny_bind (PySem.W.Looks.here (s:={s with toks:=s.toks+1}) (PySem.W.looks_clsIn X hc) ?_))))))
 rw[hd']
 refine wpAny_pure (a:=some dx) (wpAny_bind (wpAny_pure (wpAny_bind ?_)))
 refine wpAny_nsSet1 (s:={s with toks:=s.toks+1}) I.ns fun h' hn2 hs2=>?_
 obtain⟨oD,esD,epD,hoD,hdD,hcD⟩:=hn2.count (PySem.Within.cons name v hw)
 refine wpAny_bind (wpAny_lookBehind hoD (by rw[hdD];exact pastItsLine_dict (Nat.le_trans hcD (by rw[List.length_cons];omega))) ?_)
 exact wpAny_pure (h _ ⟨(hs2.2 _ (Ne.symm I.ne)).trans I.obj,hn2,I.ne⟩ hs2)
theorem make_map {R:Result→Shared→Prop}{vs:List Value}{kw:List (Str×Value)}(X:K.In s.heap)(hm:PySem.W.makesIn K C=true)
  (hi:PySem.W.findIn K (.ref C) "__init__" =some (some (.ref f))) (hf:PySem.W.typeIn K (.ref f)=some (.type "function"))
  (h:codeAny (model prog w) (A.under (.builtin "type.__call__" ⟨.ref C::vs,kw⟩)) (.call (.ref f) ⟨.ref (s.heap.objs.size+1)::vs,kw⟩) (PySem.W.InitBack (s.heap.objs.size+1) R)
   {s with heap:=(s.heap.push PySem.W.emptyDict).push (PySem.W.instObj C s.heap.objs.size)}):
  codeAny (model prog w) A (.call (.ref C) ⟨vs,kw⟩) R s:=by
 obtain⟨hh,g,d,t,os⟩:=s
 exact PySem.W.make_core (PySem.W.makes_of X hm) (PySem.W.looks_findIn X hi) (fun self=>PySem.W.bind_fn X self hf) (.inl rfl) h
end
noncomputable def putF (f:Str) (v:V):List (Str×V)→List (Str×V)
 |[]=>[(f,v)]
 |(g,x)::r=>if g=f then (g,v)::r else (g,x)::putF f v r
theorem lookup_putF (f g:Str)(v:V):∀fs:List (Str×V),(putF f v fs).lookup g=if g=f then some v else fs.lookup g
 |[]=>by
  show List.lookup g [(f,v)]=_
  by_cases h:g=f
  ·have hb:(g==f)=true:=beq_iff_eq.mpr h
   simp only[List.lookup,hb,if_pos h]
  ·have hb:(g==f)=false:=beq_eq_false_iff_ne.mpr h
   simp only[List.lookup,hb,if_neg h]
 |(k,x)::r=>by
  have ih:=lookup_putF f g v r
  rw[show putF f v ((k,x)::r)=(if k=f then (k,v)::r else (k,x)::putF f v r) from rfl]
  by_cases hk:k=f
  ·rw[if_pos hk]
   by_cases h:g=k
   ·have hb:(g==k)=true:=beq_iff_eq.mpr h
    simp only[List.lookup,hb,if_pos (h.trans hk)]
   ·have hb:(g==k)=false:=beq_eq_false_iff_ne.mpr h
    simp only[List.lookup,hb,if_neg (fun e:g=f=>h (e.trans hk.symm))]
  ·rw[if_neg hk]
   by_cases h:g=k
   ·have hb:(g==k)=true:=beq_iff_eq.mpr h
    simp only[List.lookup,hb,if_neg (fun e:g=f=>hk (h.symm.trans e))]
   ·have hb:(g==k)=false:=beq_eq_false_iff_ne.mpr h
    simp only[List.lookup,hb]
    exact ih
theorem keys_putF (f:Str)(v:V):∀fs:List (Str×V),f∈(putF f v fs).map (·.1)∧∀g,g∈fs.map (·.1)→g∈(putF f v fs).map (·.1)
 |[]=>⟨by simp[putF],fun g h=>by simp at h⟩
 |(k,x)::r=>by
  obtain⟨i1,i2⟩:=keys_putF f v r
  rw[show putF f v ((k,x)::r)=(if k=f then (k,v)::r else (k,x)::putF f v r) from rfl]
  by_cases hk:k=f
  ·rw[if_pos hk]
   subst hk
   exact⟨by simp,fun g h=>by simpa using h⟩
  ·rw[if_neg hk]
   refine⟨?_,fun g h=>?_⟩
   ·rw[List.map_cons]
    exact List.mem_cons_of_mem _ i1
   ·rw[List.map_cons] at h⊢
    rcases List.mem_cons.mp h with e|e
    ·exact List.mem_cons.mpr (.inl e)
    ·exact List.mem_cons_of_mem _ (i2 g e)
theorem length_putF (f:Str)(v:V):∀fs:List (Str×V),(putF f v fs).length≤fs.length+1
 |[]=>by simp[putF]
 |(k,x)::r=>by
  have ih:=length_putF f v r
  rw[show putF f v ((k,x)::r)=(if k=f then (k,v)::r else (k,x)::putF f v r) from rfl]
  by_cases hk:k=f
  ·rw[if_pos hk,List.length_cons,List.length_cons];omega
  ·rw[if_neg hk,List.length_cons,List.length_cons];omega
theorem RelO.some_of {v:V}{o:Option Value}(r:RelO (some v) o):∃u,o=some u∧RelV v u:=by
 cases o with
 |none=>exact(show False from r).elim
 |some u=>exact⟨u,rfl,r⟩
theorem RelO.none_of {o:Option Value}(r:RelO none o):o=none:=by
 cases o with
 |none=>rfl
 |some u=>exact(show False from r).elim
theorem handed_of {v:V}{u:Value}(r:RelV v u):PySem.W.handedIn u=true:=by
 cases v with
 |non=>cases(show u=Value.none from r);rfl
 |bl b=>cases(show u=Value.bool b from r);rfl
 |int i=>obtain⟨t,e⟩:=(show∃t,u=Value.int i t from r);cases e;rfl
 |str x=>obtain⟨t,e⟩:=(show∃t,u=Value.str x t from r);cases e;rfl
 |byt b=>obtain⟨t,e⟩:=(show∃t,u=Value.bytes b t from r);cases e;rfl
 |flt b=>obtain⟨t,e⟩:=(show∃t,u=Value.float b t from r);cases e;rfl
 |ref a=>cases(show u=Value.ref a from r);rfl
 |ty n=>cases(show u=Value.type n from r);rfl
section
variable {P:Program} {w:World} {H H':Hp} {h h':Heap} {a C dx:Addr} {fs fs':List (Str×V)}
theorem ins_get (hok:HOk P w H h)(e:H a=some (.ins C dx fs)):∃mA,ObjM h a dx C mA∧(∀f,RelO (fs.lookup f) (mA f))∧PySem.Within mA (fs.map (·.1))∧fs.length≤1000∧H dx=some (.own a):=by
 obtain⟨d,z,ne,ob,mA,n,r,q⟩:=(show ObjOk P w H h a (.ins C dx fs) from hok a _ e)
 exact⟨mA,⟨ob,n,ne⟩,r,q,z,d⟩
end
structure Cls (K:PySem.W.Frag) (C:Addr):Prop where
 pg:PySem.W.plainGet K C Str.empty=true
 hd:PySem.W.hasDictIn K C=true
 po:PySem.W.plainOver K C=true
 sa:PySem.W.findIn K (.ref C) "__setattr__" =some (some (.builtin "object.__setattr__"))
theorem Cls.get {K:PySem.W.Frag}{C:Addr}(c:Cls K C)(f:Str):PySem.W.plainGet K C f=true:=c.pg
def NoAttr (K:PySem.W.Frag) (C:Addr) (f:Str):Prop:=PySem.W.findIn K (.ref C) f=some none
theorem NoAttr.taker {K:PySem.W.Frag}{C:Addr}{f:Str}(n:NoAttr K C f):PySem.W.takerIn K C f=some none:=by
 unfold PySem.W.takerIn
 rw[show PySem.W.findIn K (.ref C) f=some none from n]
 rfl
structure Meth (K:PySem.W.Frag) (C:Addr) (m:Str) (f:Addr):Prop where
 at_:PySem.W.findIn K (.ref C) m=some (some (.ref f))
 fn:PySem.W.isFn K (.ref f)=true
 kp:PySem.W.keepIn K (.ref f)=true
section
variable {X:Cx} {pins:List (Addr×Obj)} {σ:St} {H:Hp} {s:Shared} {a C dx:Addr} {fs:List (Str×V)} {f:Str} {v:V} {A:Around} {E:Value→Shared→Prop}
theorem getattr_ok {b:Bool}{Q:Value→Shared→Prop}(I:Inv X pins σ H s)(e:H a=some (.ins C dx fs))(c:Cls X.K C)(n:NoAttr X.K C f)(l:fs.lookup f=some v)
  (h:∀u s',Inv X pins σ H s'→RelV v u→Q u s'):wpAny (model X.prog X.w) A (getAttr (.ref a) f b) Q E s:=by
 obtain⟨mA,O,r,_,_,_⟩:=ins_get I.hok e
 obtain⟨u,hu,ru⟩:=RelO.some_of (v:=v) (o:=mA f) (by rw[←l];exact r f)
 exact get_map I.kIn O (c.get f) c.hd n hu (handed_of ru) (h u _ (I.tok _) ru)
theorem getmeth_ok {m:Str}{g:Addr}{pl:Sem Bool}{Q:Value×List Value→Shared→Prop}(I:Inv X pins σ H s)(e:H a=some (.ins C dx fs))(c:Cls X.K C)(k:Meth X.K C m g)(l:fs.lookup m=none)
  (h:Q (.ref g,[.ref a]) s):wpAny (model X.prog X.w) A (getMethod (.ref a) m pl) Q E s:=by
 obtain⟨mA,O,r,_,_,_⟩:=ins_get I.hok e
 have hn:mA m=none:=RelO.none_of (by rw[←l];exact r m)
 exact get_meth I.kIn O (c.get m) k.at_ k.fn hn h
theorem setattr_ok {y:V}{u:Value}{Q:Unit→Shared→Prop}(I:Inv X pins σ H s)(e:H a=some (.ins C dx fs))(c:Cls X.K C)(n:NoAttr X.K C f)(hl:fs.length<1000)(ry:RelV y u)
  (h:∀s',Inv X pins σ (upd H a (.ins C dx (putF f y fs))) s'→Q () s'):wpAny (model X.prog X.w) A (setAttr (.ref a) f u) Q E s:=by
 obtain⟨mA,O,r,wi,_,ho⟩:=ins_get I.hok e
 have hz:(fs.map (·.1)).length≤sizeLine:=by rw[List.length_map,sizeLine_eq];omega
 refine set_map I.kIn O c.sa c.po n.taker c.hd wi hz fun h' O' sb=>h _ ?_
 have hd:∃o,h'.get? dx=some o:=let ⟨o,_,_,e',_⟩:=O'.ns;⟨o,e'⟩
 refine I.write (x:=a) (e:=dx) (by rw[e];exact True.intro) (.inr ho) (fun b q hb z=>(sb.2 b hb).trans z) hd ?_
 refine⟨by rw[upd_ne O.ne];exact ho,?_,O.ne,O'.obj,_,O'.ns,fun g=>?_,fun g hg=>?_⟩
 ·have:=length_putF f y fs;omega
 ·show RelO ((putF f y fs).lookup g) (if g=f then some u else mA g)
  rw[lookup_putF]
  by_cases q:g=f
  ·rw[if_pos q,if_pos q];exact ry
  ·rw[if_neg q,if_neg q];exact r g
 ·by_cases q:g=f
  ·rw[q];exact(keys_putF f y fs).1
  ·refine(keys_putF f y fs).2 g (wi g fun z=>hg ?_)
   show(if g=f then some u else mA g)=none
   rw[if_neg q];exact z
theorem Inv.made (I:Inv X pins σ H s):Inv X pins σ (upd (upd H s.heap.objs.size (.own (s.heap.objs.size+1))) (s.heap.objs.size+1) (.ins C s.heap.objs.size []))
  {s with heap:=(s.heap.push PySem.W.emptyDict).push (PySem.W.instObj C s.heap.objs.size)}:=by
 have e1:(s.heap.push PySem.W.emptyDict).get? s.heap.objs.size=some PySem.W.emptyDict:=Heap.get?_push_size s.heap rfl
 have e2:((s.heap.push PySem.W.emptyDict).push (PySem.W.instObj C s.heap.objs.size)).get? (s.heap.objs.size+1)=some (PySem.W.instObj C s.heap.objs.size):=by
  have:=Heap.get?_push_size (s.heap.push PySem.W.emptyDict) (o:=PySem.W.instObj C s.heap.objs.size) rfl
  rwa [Heap.size_push] at this
 have e3:(s.heap.push PySem.W.emptyDict).Ns s.heap.objs.size (fun _=>none):=⟨PySem.W.emptyDict,#[],_,e1,rfl,(fun e he=>absurd he (by simp)),fun _=>rfl⟩
 have I1:=I.laid (a:=s.heap.objs.size) (o:=.own (s.heap.objs.size+1)) (h':=s.heap.push PySem.W.emptyDict) (t':=s.toks) (fun b u q=>Heap.get?_push_of_some _ q) (Nat.le_refl _) ⟨_,e1⟩
 refine I1.laid (a:=s.heap.objs.size+1) (o:=.ins C s.heap.objs.size []) (t':=s.toks) (fun b u q=>Heap.get?_push_of_some _ q) (Nat.le_of_eq (Heap.size_push _ _)) ?_
 have ne:s.heap.objs.size≠s.heap.objs.size+1:=Nat.ne_of_lt (Nat.lt_succ_self _)
 refine⟨by rw[upd_ne ne,upd_same],Nat.zero_le _,ne,e2,fun _=>none,(Heap.Ns1.of_empty e3).at fun o q=>Heap.get?_push_of_some _ q,fun _=>True.intro,fun y hy=>absurd rfl hy⟩
theorem attr_of {prog:Program}{w:World}{env:Env}{e:Expr}{f:Str}{pos:Pos}{s:Shared}{Q:Value→Shared→Prop}(hb:attributeBase e f env (eval e env)=eval e env)
  (h:wpAny (model prog w) A (eval e env) (fun o s₁=>wpAny (model prog w) A (getAttr o f true) Q E s₁) E s):wpAny (model prog w) A (eval (.Attribute e f pos) env) Q E s:=
 Attribute_any_ h (by rw[arm_eval_Attribute,hb])
end
def tFld (K:PySem.W.Frag) (ta:TE) (f:Str):TE:=fun σ H Q=>ta σ H fun x H1=>∃a C dx fs v,x=.ref a∧H1 a=some (.ins C dx fs)∧Cls K C∧NoAttr K C f∧fs.lookup f=some v∧Q v H1
def sFld (K:PySem.W.Frag) (ta tv:TE) (f:Str):TS:=fun D σ H=>tv σ H fun y H1=>ta σ H1 fun x H2=>∃a C dx fs,x=.ref a∧H2 a=some (.ins C dx fs)∧Cls K C∧NoAttr K C f∧fs.length<1000∧
 D.nx σ (upd H2 a (.ins C dx (putF f y fs)))
section
variable {X:Cx} {o e value:Expr} {f:Str} {pos pos' tpos:Pos} {ta tv:TE}
theorem pe_fld (he:PE X e ta)(hb:attributeBase e f X.env (eval e X.env)=eval e X.env):PE X (.Attribute e f pos) (tFld X.K ta f):=by
 intro pins s σ H Q I h
 refine attr_of hb (thn (he pins s σ H _ I h) fun u s1 ⟨x,H1,I1,rx,a,C,dx,fs,v,ex,ea,c,n,l,q⟩=>?_)
 subst ex
 obtain rfl:u=Value.ref a:=rx
 exact getattr_ok I1 ea c n l fun u' s2 I2 ru=>⟨v,H1,I2,ru,q⟩
theorem ps_fld (ha:PE X o ta)(hv:PE X value tv)(hs:swapsWith value (some (.Attribute o f pos')) pos.line X.env=pure false):PS X (.Assign [.Attribute o f pos'] value pos) (sFld X.K ta tv f):=by
 intro pins s σ H D I h
 refine plainObj_wpAny_Assign_Attribute (thn (hv pins s σ H _ I h) fun u s1 ⟨y,H1,I1,ry,q⟩=>thn (ha pins s1 σ H1 _ I1 q) fun ov s2 ⟨x,H2,I2,rx,a,C,dx,fs,ex,ea,c,n,l,q2⟩=>?_) hs
 subst ex
 obtain rfl:ov=Value.ref a:=rx
 exact setattr_ok I2 ea c n l ry fun s3 I3=>⟨σ,_,I3,q2⟩
end
section
variable {X:Cx} {pins:List (Addr×Obj)} {σ:St} {H:Hp} {s:Shared} {A:Around} {E:Value→Shared→Prop} {Q:Value→Shared→Prop} {c:Value} {b:Bool}
inductive TyOf (K:PySem.W.Frag) (H:Hp):V→Value→Prop where
 |non:TyOf K H .non (.type "NoneType")
 |bl (x:Bool):TyOf K H (.bl x) (.type "bool")
 |int (i:Int):TyOf K H (.int i) (.type "int")
 |str (x:Str):TyOf K H (.str x) (.type "str")
 |flt (x:UInt64):TyOf K H (.flt x) (.type "float")
 |lst {a:Addr} {xs:List V} (e:H a=some (.lst xs)):TyOf K H (.ref a) (.type "list")
 |frz {a:Addr} {o:Obj} {xs:List V} (e:H a=some (.frz o (.lst xs))):TyOf K H (.ref a) (.type "list")
 |tup {a:Addr} {xs:List V} (e:H a=some (.tup xs)):TyOf K H (.ref a) (.type "tuple")
 |dK {a:Addr} {kvs:List (Key×V)} (e:H a=some (.dK kvs)):TyOf K H (.ref a) (.type "dict")
 |dT {a:Addr} {kvs:List (List Key×V)} (e:H a=some (.dT kvs)):TyOf K H (.ref a) (.type "dict")
 |ins {a C dx:Addr} {fs:List (Str×V)} (e:H a=some (.ins C dx fs)) (cl:Cls K C) (ha:PySem.W.findIn K (.ref C) "__class__" =some (some (.builtin "object.__class__")))
   (hn:PySem.W.specialIn K (.builtin "object.__class__") "__get__" =some (some (.builtin "getset_descriptor.__get__"))) (htk:PySem.W.takesIn K (.builtin "object.__class__")=some true)
   (hm:PySem.W.mroIn K C (.type "object")=some true):TyOf K H (.ref a) (.ref C)
theorem isinst_ok {x:V}{u t:Value}(I:Inv X pins σ H s)(rx:RelV x u)(ty:TyOf X.K H x t)(e:PySem.W.kitOne X.K t c=some b)(h:∀tk,Q (.bool b) {s with toks:=tk}):
  wpAny (model X.prog X.w) A (call (.builtin "isinstance") [u,c]) Q E s:=by
 cases ty with
 |non=>cases(show u=Value.none from rx);exact PySem.W.kia_one PySem.W.kitx_none I.kIn True.intro e (fun z=>nomatch z) h
 |bl y=>cases(show u=Value.bool y from rx);exact PySem.W.kia_one PySem.W.kitx_bool I.kIn True.intro e (fun z=>nomatch z) h
 |int i=>obtain⟨t,q⟩:=(show∃t,u=Value.int i t from rx);cases q;exact PySem.W.kia_one PySem.W.kitx_int I.kIn True.intro e (fun z=>nomatch z) h
 |str y=>obtain⟨t,q⟩:=(show∃t,u=Value.str y t from rx);cases q;exact PySem.W.kia_one PySem.W.kitx_str I.kIn True.intro e (fun z=>nomatch z) h
 |flt y=>obtain⟨t,q⟩:=(show∃t,u=Value.float y t from rx);cases q;exact PySem.W.kia_one PySem.W.kitx_float I.kIn True.intro e (fun z=>nomatch z) h
 | @lst a xs ea=>
  cases(show u=Value.ref a from rx)
  obtain⟨_,_,n,_,h1⟩:=(show ObjOk X.prog X.w H s.heap a (.lst xs) from I.hok a _ ea)
  exact PySem.W.kia_one PySem.W.kitx_list I.kIn ⟨_,h1,rfl⟩ e (fun z=>nomatch z) h
 | @frz a ob xs ea=>
  cases(show u=Value.ref a from rx)
  obtain⟨_,_,_,n,_,h1⟩:=(show ObjOk X.prog X.w H s.heap a (.frz ob (.lst xs)) from I.hok a _ ea)
  exact PySem.W.kia_one PySem.W.kitx_list I.kIn ⟨_,h1,rfl⟩ e (fun z=>nomatch z) h
 | @tup a xs ea=>
  cases(show u=Value.ref a from rx)
  obtain⟨_,_,_,p⟩:=(show ObjOk X.prog X.w H s.heap a (.tup xs) from I.hok a _ ea)
  obtain⟨o,h1,h2,_⟩:=p
  exact PySem.W.kia_one PySem.W.kitx_tuple I.kIn ⟨o,h1,h2⟩ e (fun z=>nomatch z) h
 | @dK a kvs ea=>
  cases(show u=Value.ref a from rx)
  obtain⟨_,_,vs,_,p⟩:=(show ObjOk X.prog X.w H s.heap a (.dK kvs) from I.hok a _ ea)
  obtain⟨o,es,ep,h1,h2,_⟩:=p
  exact PySem.W.kia_one PySem.W.kitx_dict I.kIn ⟨o,h1,h2.1⟩ e (fun z=>nomatch z) h
 | @dT a kvs ea=>
  cases(show u=Value.ref a from rx)
  obtain⟨_,_,xs,_,o,es,ep,h1,h2,_⟩:=(show ObjOk X.prog X.w H s.heap a (.dT kvs) from I.hok a _ ea)
  exact PySem.W.kia_one PySem.W.kitx_dict I.kIn ⟨o,h1,h2.1⟩ e (fun z=>nomatch z) h
 | @ins a C dx fs ea cl ha hn htk hm=>
  cases(show u=Value.ref a from rx)
  obtain⟨mA,O,_⟩:=ins_get I.hok ea
  obtain⟨od,J,_⟩:=O.look
  exact PySem.W.kia_one (PySem.W.kitx_own (cl.get _) cl.hd ha hn htk hm) I.kIn J e (fun z=>nomatch z) h
end
structure Room (k:Nat) (A:Around):Prop where
 hd:A.handled=none
 dp:A.depth+3*k+5<recursionLimit
 un:A.units+16*k+200<cLine
 gd:A.guards=some []
theorem Room.mono {j k:Nat}{A:Around}(r:Room k A)(h:j≤k):Room j A:=⟨r.hd,by have:=r.dp;omega,by have:=r.un;omega,r.gd⟩
theorem Room.deeper {k:Nat}{A:Around}(r:Room (k+1) A)(env:Env):Room k (A.deeper env):=
 ⟨r.hd,by have:=r.dp;show A.depth+1+3*k+5<_;omega,by have:=r.un;show A.units+3+16*k+200<_;omega,r.gd⟩
theorem make_depth {A:Around}{C:Addr}{us:List Value}{kw:List (Str×Value)}:(A.under (.builtin "type.__call__" ⟨.ref C::us,kw⟩)).depth=A.depth+1:=by
 first|rfl|simp[Around.under,Code.weight,Code.isCreation,Code.isGuard,Code.isCaller,Code.frames,Code.isFrame,guardIds]
theorem make_units {A:Around}{C:Addr}{us:List Value}{kw:List (Str×Value)}:(A.under (.builtin "type.__call__" ⟨.ref C::us,kw⟩)).units=A.units+1:=by
 first|rfl|simp[Around.under,Code.cUnits,Code.frames,Code.isFrame]
theorem make_guards {A:Around}{C:Addr}{us:List Value}{kw:List (Str×Value)}:(A.under (.builtin "type.__call__" ⟨.ref C::us,kw⟩)).guards=A.guards:=by
 first|rfl|simp[Around.under,Code.isGuard,Code.guards,guardIds]
theorem Room.make {k:Nat}{A:Around}(r:Room (k+1) A)(C:Addr)(us:List Value)(kw:List (Str×Value)):Room k (A.under (.builtin "type.__call__" ⟨.ref C::us,kw⟩)):=
 ⟨r.hd,by have:=r.dp;rw[make_depth];omega,by have:=r.un;rw[make_units];omega,by rw[make_guards];exact r.gd⟩
theorem Room.depth {k:Nat}{A:Around}(r:Room k A):A.depth<recursionLimit:=by have:=r.dp;omega
theorem Room.units {k:Nat}{A:Around}(r:Room k A):A.units+64<cLine:=by have:=r.un;omega
def tNil:TA:=fun _ H Q=>Q [] H
def tCons (ta:TE) (tr:TA):TA:=fun σ H Q=>ta σ H fun x H1=>tr σ H1 fun xs H2=>Q (x::xs) H2
section
variable {X:Cx} {e:Expr} {es:List Expr} {te:TE} {t:TA} {pos:Pos}
theorem pa_nil:PA X [] tNil:=fun _ _ _ _ H Q I h=>Calls.spliced_nil ⟨[],H,I,.nil,h⟩
theorem pa_cons (ha:PE X e te)(hr:PA X es t)(hs:starEach (e::es) X.env=(false,eval e X.env)::starEach es X.env:=by rfl):PA X (e::es) (tCons te t):=by
 intro pos pins s σ H Q I h
 rw[hs]
 show wpAny _ _ (spliced ((false,eval e X.env)::backTo pos (starEach es X.env))) _ _ s
 refine Calls.spliced_cons (thn (ha pins s σ H _ I h) fun u s1 ⟨x,H1,I1,r1,q1⟩=>?_)
 exact thn (hr pos pins s1 σ H1 _ I1 q1) fun us s2 ⟨xs,H2,I2,r2,q2⟩=>⟨x::xs,H2,I2,.cons r1 r2,q2⟩
def tTup (t:TA):TE:=fun σ H Q=>t σ H fun xs H1=>xs.length≤sizeLine∧∀p,H1 p=none→Q (.ref p) (upd H1 p (.tup xs))
def tLst (t:TA):TE:=fun σ H Q=>t σ H fun xs H1=>xs.length≤sizeLine∧∀p,H1 p=none→Q (.ref p) (upd H1 p (.lst xs))
theorem pe_tup {x1}(h:PA X es t):PE X (.Tuple es x1 pos) (tTup t):=by
 intro pins s σ H Q I hq
 refine wpAny_Tuple_spliced (thn (h pos pins s σ H _ I hq) fun us s1 ⟨xs,H1,I1,r,z,q⟩=>⟨by rw[←r.length];exact z,?_⟩)
 have hf:H1 s1.heap.objs.size=none:=I1.hok.fresh (Nat.le_refl _)
 refine⟨.ref s1.heap.objs.size,upd H1 s1.heap.objs.size (.tup xs),I1.laid (t':=s1.toks) (fun b u e=>Heap.get?_push_of_some _ e) (Nat.le_refl _) ?_,rfl,q _ hf⟩
 exact⟨z,us,r,⟨_,Heap.get?_push_size _ rfl,rfl,_,rfl⟩⟩
theorem pe_lst (h:PA X es t):PE X (.List es pos) (tLst t):=by
 intro pins s σ H Q I hq
 refine wpAny_List_spliced (thn (h pos pins s σ H _ I hq) fun us s1 ⟨xs,H1,I1,r,z,q⟩=>⟨by rw[←r.length];exact z,?_⟩)
 have hf:H1 s1.heap.objs.size=none:=I1.hok.fresh (Nat.le_refl _)
 refine⟨.ref s1.heap.objs.size,upd H1 s1.heap.objs.size (.lst xs),I1.laid (t':=s1.toks) (fun b u e=>Heap.get?_push_of_some _ e) (Nat.le_refl _) ?_,rfl,q _ hf⟩
 exact⟨z,us,0,r,Heap.get?_push_size _ rfl⟩
end
abbrev Sp:=List V→Hp→VK→XK→Prop
abbrev CXT:=List Env→Hp→Shared→XK→Value→Shared→Prop
structure Env0 (P:Program) (w:World) (K:PySem.W.Frag) (mg:Str→Option Value) (base:Heap) (A:Around) (outer:List Env) (s:Shared) (H:Hp):Prop where
 frames:A.frames=some outer
 mod:Mod K mg base
 bs:∀b o,base.get? b=some o→s.heap.get? b=some o∧H b=none
 bsz:base.objs.size≤s.heap.objs.size
 funs:s.heap.FunFrames base outer
 frf:∀b∈frs outer,H b=none
 hok:HOk P w H s.heap
 bare:AllBare s.gens
def CE (outer:List Env) (P:Program) (w:World) (H:Hp) (s:Shared) (Q:VK) (u:Value) (s':Shared):Prop:=
 ∃v H',s'.os=s.os∧AllBare s'.gens∧Un (frs outer) [] H H' s.heap s'.heap∧HOk P w H' s'.heap∧RelV v u∧Q v H'
def CR (CX:CXT) (outer:List Env) (P:Program) (w:World) (H:Hp) (s:Shared) (Q:VK) (E:XK) (r:Result) (s':Shared):Prop:=
 match r with
 | .ok (.ret u)=>CE outer P w H s Q u s'
 | .ok _=>False
 | .error e=>CX outer H s E e s'
structure FnOk (P:Program) (w:World) (K:PySem.W.Frag) (mg:Str→Option Value) (base:Heap) (CX:CXT) (k:Nat) (f:Addr) (fd:FuncData) (ps:List Str) (sp:Sp):Prop where
 len:∀vs H Q E,sp vs H Q E→vs.length=ps.length
 run:∀(A:Around) (outer:List Env) (s:Shared) (H:Hp) (args:Args) (us:List Value) (vs:List V) (Q:VK) (E:XK),Room k A→Env0 P w K mg base A outer s H→BindsTo s fd args (ps.zip us)→Vals vs us→sp vs H Q E→
  codeAny (model P w) A (.call (.ref f) args) (CR CX outer P w H s Q E) s
theorem Env0.make {P:Program}{w:World}{K:PySem.W.Frag}{mg:Str→Option Value}{base:Heap}{A:Around}{outer:List Env}{s:Shared}{H:Hp}(e:Env0 P w K mg base A outer s H)(C:Addr)(us:List Value)(kw:List (Str×Value)):
  Env0 P w K mg base (A.under (.builtin "type.__call__" ⟨.ref C::us,kw⟩)) outer s H:=⟨by first|exact e.frames|(simpa[Around.under,Code.envs,Code.isFrame,pushEnvs] using e.frames),e.mod,e.bs,e.bsz,e.funs,e.frf,e.hok,e.bare⟩
section
variable {X:Cx} {pins:List (Addr×Obj)} {σ:St} {H:Hp} {s s':Shared}
theorem Inv.env0 (I:Inv X pins σ H s):Env0 X.prog X.w X.K X.mg X.base X.A X.stack s H:=
 ⟨I.ok.frames,I.ok.mod,I.bs,Nat.le_trans I.ok.bsz I.sz,I.stack,I.stkFree,I.hok,I.bare⟩
theorem Inv.after {Q:VK}{u:Value}(I:Inv X pins σ H s)(h:CE X.stack X.prog X.w H s Q u s'):EP X pins σ Q u s':=by
 obtain⟨v,H',os,bare,un,hok,r,q⟩:=h
 obtain⟨hh,g,d,t,os'⟩:=s'
 obtain rfl:os'=s.os:=os
 exact⟨v,H',I.call (h':=hh) (g':=g) (d':=d) (t':=t) (ch:=[]) un hok bare (fun b z=>absurd z (by simp)),r,q⟩
end
def tCall (sp:Sp) (dvs:List V) (E:XK) (t:TA):TE:=fun σ H Q=>t σ H fun vs H1=>sp (vs++dvs) H1 Q E
def tMeth (C:Addr) (m:Str) (sp:Sp) (dvs:List V) (E:XK) (ta:TE) (t:TA):TE:=fun σ H Q=>ta σ H fun x H1=>∃a dx fs,x=.ref a∧H1 a=some (.ins C dx fs)∧fs.lookup m=none∧
 t σ H1 fun vs H2=>sp (x::(vs++dvs)) H2 Q E
def tMake (C:Addr) (sp:Sp) (dvs:List V) (E:XK) (t:TA):TE:=fun σ H Q=>t σ H fun vs H1=>∀x dx,H1 x=none→H1 dx=none→dx≠x→
 sp (.ref x::(vs++dvs)) (upd (upd H1 dx (.own x)) x (.ins C dx [])) (fun v H2=>v=.non∧Q (.ref x) H2) E
def Binds (K:PySem.W.Frag) (fd:FuncData) (ps:List Str) (ds:List Value):Prop:=
 ∀(s:Shared) (us:List Value),K.In s.heap→(us++ds).length=ps.length→BindsTo s fd ⟨us,[]⟩ (ps.zip (us++ds))
theorem Binds.all {K:PySem.W.Frag}{fd:FuncData}{ps:List Str}(h:∀us:List Value,us.length=ps.length→bindArgs fd ⟨us,[]⟩=pure (ps.zip us)):Binds K fd ps []:=fun s us _ hl=>by
 rw[List.append_nil] at hl⊢
 exact .of_eq (h us hl)
def Passes (CX:CXT) (X:Cx) (E:XK):Prop:=∀(pins:List (Addr×Obj)) (σ:St) (H:Hp) (s:Shared) (e:Value) (s':Shared),Inv X pins σ H s→CX X.stack H s E e s'→X.xe e s'
section
variable {X:Cx} {CX:CXT} {k:Nat} {f C:Addr} {fd:FuncData} {ps:List Str} {sp:Sp} {dvs:List V} {ds:List Value} {E:XK} {x m:Str} {p pos apos:Pos} {e o:Expr} {es:List Expr} {ta:TE} {t:TA}
theorem run_fn {pins:List (Addr×Obj)}{σ:St}{H:Hp}{s:Shared}{Q:VK}{us:List Value}{vs:List V}(F:FnOk X.prog X.w X.K X.mg X.base CX k f fd ps sp)(hr:Room k X.A)(hb:Binds X.K fd ps ds)(hd:Vals dvs ds)(hx:Passes CX X E)
  (I:Inv X pins σ H s) (r:Vals vs us) (h:sp (vs++dvs) H Q E):wpAny (model X.prog X.w) X.A (call (.ref f) us) (EP X pins σ Q) X.xe s:=by
 have r2:Vals (vs++dvs) (us++ds):=r.append hd
 have hl:(us++ds).length=ps.length:=by rw[←r2.length];exact F.len _ _ _ _ h
 refine wpAny_call (codeAny_mono (F.run X.A X.stack s H ⟨us,[]⟩ (us++ds) (vs++dvs) Q E hr I.env0 (hb s us I.kIn hl) r2 h) fun r s' hq=>?_)
 cases r with
 |error e=>exact hx pins σ H s e s' I hq
 |ok fl=>
  cases fl with
  |ret u=>exact I.after hq
  |next=>exact False.elim hq
  |brk=>exact False.elim hq
  |cont=>exact False.elim hq
theorem pe_call (F:FnOk X.prog X.w X.K X.mg X.base CX k f fd ps sp)(hr:Room k X.A)(hg:Gl X x)(hm:X.mg x=some (.ref f))(hk:PySem.W.keepIn X.K (.ref f)=true)(hb:Binds X.K fd ps ds)(hd:Vals dvs ds)(hx:Passes CX X E)
  (ha:PA X (e::es) t) (hdb:(x==("__debug__" :Str))=false:=by decide) (he:starEach (e::es) X.env=(false,eval e X.env)::starEach es X.env:=by rfl) (hpl:(backTo pos (starEach es X.env)).any (·.1)=false:=by rfl):
  PE X (.Call (.Name x p) (e::es) [] pos) (tCall sp dvs E t):=by
 intro pins s σ H Q I h
 refine wpAny_Call_Name_kw (ld_glob I hg hm ?_ hdb)
 refine PySem.W.callWith_K (h₀:=X.base) I.ok.mod.kin hk (thn (ha pos pins s σ H _ I h) fun us s1 ⟨vs,H1,I1,r,q⟩=>⟨I1.kIn,?_⟩) he hpl
 exact run_fn F hr hb hd hx I1 r q
theorem pe_meth {pl:Sem Bool}(he:PE X o ta)(c:Cls X.K C)(hm:Meth X.K C m f)(F:FnOk X.prog X.w X.K X.mg X.base CX k f fd ps sp)(hr:Room k X.A)(hb:Binds X.K fd ps ds)(hd:Vals dvs ds)(hx:Passes CX X E)(ha:PA X (e::es) t)
  (hst:starEach (e::es) X.env=(false,eval e X.env)::starEach es X.env:=by rfl) (hpl:(backTo pos (starEach es X.env)).any (·.1)=false:=by rfl)
  (ht:eval (.Call (.Attribute o m apos) (e::es) [] pos) X.env=(do
   let ov←eval o X.env
   standAt apos.atName
   let (f,first)←holding [ov] (getMethod ov m pl)
   callWith pos f first (backTo pos (starEach (e::es) X.env)) (backToKw pos (keywordEach [] X.env))):=by rfl):
  PE X (.Call (.Attribute o m apos) (e::es) [] pos) (tMeth C m sp dvs E ta t):=by
 intro pins s σ H Q I h
 refine PySem.W.methodCall_KW (pl:=pl) (thn (he pins s σ H _ I h) fun u s1 ⟨x,H1,I1,rx,a,dx,fs,ex,ea,l,q⟩=>?_) ht
 subst ex
 obtain rfl:u=Value.ref a:=rx
 refine getmeth_ok I1 ea c hm l ?_
 refine PySem.W.callWith_K (first:=[.ref a]) (h₀:=X.base) I.ok.mod.kin hm.kp (thn (ha pos pins s1 σ H1 _ I1 q) fun us s2 ⟨vs,H2,I2,r,q2⟩=>⟨I2.kIn,?_⟩) hst hpl
 exact run_fn (us:=.ref a::us) (vs:=.ref a::vs) F hr hb hd hx I2 (.cons rfl r) q2
structure Mk (K:PySem.W.Frag) (C f:Addr):Prop where
 makes:PySem.W.makesIn K C=true
 init:PySem.W.findIn K (.ref C) "__init__" =some (some (.ref f))
 fn:PySem.W.isFn K (.ref f)=true
 kp:PySem.W.keepIn K (.ref C)=true
theorem run_make {pins:List (Addr×Obj)}{σ:St}{H:Hp}{s:Shared}{Q:VK}{us:List Value}{vs:List V}(M:Mk X.K C f)(F:FnOk X.prog X.w X.K X.mg X.base CX k f fd ps sp)(hr:Room (k+1) X.A)(hb:Binds X.K fd ps ds)(hd:Vals dvs ds)
  (hx:Passes CX X E) (I:Inv X pins σ H s) (r:Vals vs us)
  (h:∀x dx,H x=none→H dx=none→dx≠x→sp (.ref x::(vs++dvs)) (upd (upd H dx (.own x)) x (.ins C dx [])) (fun v H2=>v=.non∧Q (.ref x) H2) E):
  wpAny (model X.prog X.w) X.A (call (.ref C) us) (EP X pins σ Q) X.xe s:=by
 have hq:=h (s.heap.objs.size+1) s.heap.objs.size (I.hok.fresh (Nat.le_succ _)) (I.hok.fresh (Nat.le_refl _)) (Nat.ne_of_lt (Nat.lt_succ_self _))
 have I2:=Inv.made (C:=C) I
 have r2:Vals (V.ref (s.heap.objs.size+1)::(vs++dvs)) (Value.ref (s.heap.objs.size+1)::(us++ds)):=.cons rfl (r.append hd)
 have hl:(Value.ref (s.heap.objs.size+1)::us++ds).length=ps.length:=by
  have e:=r2.length
  rw[F.len _ _ _ _ hq] at e
  exact e.symm
 refine wpAny_call (make_map (f:=f) I.kIn M.makes M.init (beq_iff_eq.mp M.fn) (codeAny_mono (F.run _ X.stack _ _ ⟨Value.ref (s.heap.objs.size+1)::us,[]⟩ (Value.ref (s.heap.objs.size+1)::(us++ds)) _ _ E (hr.make C us [])
  (I2.env0.make C us []) (hb _ (Value.ref (s.heap.objs.size+1)::us) I2.kIn hl) r2 hq) fun r s' hq'=>?_))
 cases r with
 |error e=>exact hx pins σ _ _ e s' I2 hq'
 |ok fl=>
  cases fl with
  |ret u=>
   obtain⟨v,H',I3,rv,ev,q3⟩:=I2.after hq'
   subst ev
   exact⟨rv,⟨V.ref (s.heap.objs.size+1),H',I3,rfl,q3⟩⟩
  |next=>exact False.elim hq'
  |brk=>exact False.elim hq'
  |cont=>exact False.elim hq'
theorem pe_make (M:Mk X.K C f)(F:FnOk X.prog X.w X.K X.mg X.base CX k f fd ps sp)(hr:Room (k+1) X.A)(hg:Gl X x)(hm:X.mg x=some (.ref C))(hb:Binds X.K fd ps ds)(hd:Vals dvs ds)(hx:Passes CX X E)
  (ha:PA X (e::es) t) (hdb:(x==("__debug__" :Str))=false:=by decide) (he:starEach (e::es) X.env=(false,eval e X.env)::starEach es X.env:=by rfl) (hpl:(backTo pos (starEach es X.env)).any (·.1)=false:=by rfl):
  PE X (.Call (.Name x p) (e::es) [] pos) (tMake C sp dvs E t):=by
 intro pins s σ H Q I h
 refine wpAny_Call_Name_kw (ld_glob I hg hm ?_ hdb)
 refine PySem.W.callWith_K (h₀:=X.base) I.ok.mod.kin M.kp (thn (ha pos pins s σ H _ I h) fun us s1 ⟨vs,H1,I1,r,q⟩=>⟨I1.kIn,?_⟩) he hpl
 exact run_make M F hr hb hd hx I1 r q
theorem pe_make0 (M:Mk X.K C f)(F:FnOk X.prog X.w X.K X.mg X.base CX k f fd ps sp)(hr:Room (k+1) X.A)(hg:Gl X x)(hm:X.mg x=some (.ref C))(hb:Binds X.K fd ps ds)(hd:Vals dvs ds)(hx:Passes CX X E)
  (hdb:(x==("__debug__" :Str))=false:=by decide):PE X (.Call (.Name x p) [] [] pos) (tMake C sp dvs E tNil):=by
 intro pins s σ H Q I h
 refine wpAny_Call_Name_kw (ld_glob I hg hm ?_ hdb)
 exact PySem.W.callWith_K0 I.kIn M.kp (run_make (us:=[]) M F hr hb hd hx I .nil h)
end
section
variable {X:Cx} {CX:CXT} {k:Nat} {f C:Addr} {fd:FuncData} {ps ks:List Str} {sp:Sp} {E:XK} {x m:Str} {p pos apos kpos:Pos} {e o:Expr} {es:List Expr} {kws:List Keyword} {te ta:TE} {t tk:TA} {nm:Option Str}
variable {g:List Value→List Value→List Value} {gV:List V→List V→List V}
end
structure FnScope (N P:List Str) (sc:Scope):Prop where
 kind:sc.kind=.function
 co:sc.isCoroutine=false
 gen:sc.isGenerator=false
 nd:N.Nodup
 pre:N.take P.length=P
 par:∀x∈P,sc.names.lookup x=some .local∨sc.names.lookup x=some .cell
 nofree:∀y∈sc.names,y.2≠.free
theorem bindL_out {kindOf:Str→Option NameKind}{x:Str}:∀{binds:List (Str×Value)} {m:Str→Option Value},(∀v,(x,v)∉binds)→bindL kindOf binds m x=m x
 |[],_,_=>rfl
 |(n,v)::r,m,h=>by
  unfold bindL
  rw[bindL_out fun w hw=>h w (List.mem_cons_of_mem _ hw)]
  split
  ·have:x≠n:=by rintro rfl;exact h v List.mem_cons_self
   simp[this]
  ·rfl
theorem bindC_out {kindOf:Str→Option NameKind}{x:Str}:∀{binds:List (Str×Value)} {m:Str→Option Value},(∀v,(x,v)∉binds)→bindC kindOf binds m x=m x
 |[],_,_=>rfl
 |(n,v)::r,m,h=>by
  unfold bindC
  rw[bindC_out fun w hw=>h w (List.mem_cons_of_mem _ hw)]
  split
  ·rfl
  ·have:x≠n:=by rintro rfl;exact h v List.mem_cons_self
   simp[this]
theorem bindL_get {kindOf:Str→Option NameKind}{x:Str}{v:Value}:∀{P:List Str} {vs:List Value} {i:Nat} {m:Str→Option Value},P.Nodup→P[i]?=some x→vs[i]?=some v→kindOf x=some .local→
  bindL kindOf (P.zip vs) m x=some v
 |[],_,_,_,_,h,_,_=>by simp at h
 |_::_,[],_,_,_,_,h,_=>by simp at h
 |p::P,w::vs,0,m,nd,h1,h2,hk=>by
  simp at h1 h2;subst h1;subst h2
  show bindL kindOf ((p,w)::P.zip vs) m p=_
  unfold bindL
  rw[bindL_out fun v hv=>(List.nodup_cons.mp nd).1 (List.of_mem_zip hv).1,if_pos hk]
  simp
 |p::P,w::vs,i+1,m,nd,h1,h2,hk=>by
  show bindL kindOf ((p,w)::P.zip vs) m x=_
  unfold bindL
  exact bindL_get (i:=i) (List.nodup_cons.mp nd).2 (by simpa using h1) (by simpa using h2) hk
theorem bindC_get {kindOf:Str→Option NameKind}{x:Str}{v:Value}:∀{P:List Str} {vs:List Value} {i:Nat} {m:Str→Option Value},P.Nodup→P[i]?=some x→vs[i]?=some v→kindOf x≠some .local→
  bindC kindOf (P.zip vs) m x=some v
 |[],_,_,_,_,h,_,_=>by simp at h
 |_::_,[],_,_,_,_,h,_=>by simp at h
 |p::P,w::vs,0,m,nd,h1,h2,hk=>by
  simp at h1 h2;subst h1;subst h2
  show bindC kindOf ((p,w)::P.zip vs) m p=_
  unfold bindC
  rw[bindC_out fun v hv=>(List.nodup_cons.mp nd).1 (List.of_mem_zip hv).1,if_neg hk]
  simp
 |p::P,w::vs,i+1,m,nd,h1,h2,hk=>by
  show bindC kindOf ((p,w)::P.zip vs) m x=_
  unfold bindC
  exact bindC_get (i:=i) (List.nodup_cons.mp nd).2 (by simpa using h1) (by simpa using h2) hk
noncomputable def start (N:List Str) (vs:List V):St:=vs.map some++List.replicate (N.length - vs.length) none
noncomputable def cxOf (CX:CXT) (P:Program) (w:World) (K:PySem.W.Frag) (mg:Str→Option Value) (base:Heap) (N:List Str) (qual:Str) (scope:Scope) (f:Addr) (cd:Value) (A:Around) (outer:List Env) (s:Shared) (H:Hp) (E:XK):Cx where
 prog:=P
 w:=w
 K:=K
 mg:=mg
 base:=base
 A:=A.deeper (envOfC qual scope s.heap.objs.size f cd)
 N:=N
 s₀:=s
 H₀:=H
 env:=envOfC qual scope s.heap.objs.size f cd
 outer:=outer
 stack:=envOfC qual scope s.heap.objs.size f cd::outer
 ex:=[]
 calm:=true
 fn:=fun _=>true
 pn:=[]
 xe:=fun e s'=>wpAny (model P w) (A.deeper (envOfC qual scope s.heap.objs.size f cd)) (leaving (envOfC qual scope s.heap.objs.size f cd) e) (fun _ s''=>CX outer H s E e s'') (fun e' s''=>CX outer H s E e' s'') s'
theorem cell_has {sc:Scope}{n:Nat}{x:Str}(h:sc.names.lookup x=some .cell):∃c,(cellsFrom n sc.names []).lookup x=some c:=by
 have q:=PySem.W.cellsFrom_some sc.names n [] (.inl h)
 exact Option.isSome_iff_exists.mp q
theorem inv_start {CX:CXT}{P:Program}{w:World}{K:PySem.W.Frag}{mg:Str→Option Value}{base:Heap}{N ps:List Str}{qual:Str}{scope:Scope}{f:Addr}{cd:Value}{A:Around}{outer:List Env}{s s1:Shared}{H:Hp}{E:XK}{us:List Value}{vs:List V}
  (S:FnScope N ps scope) (hd:A.handled=none) (e0:Env0 P w K mg base A outer s H) (hl:vs.length=ps.length) (r:Vals vs us)
  (x:InCallC s s.heap.objs.size (bindL (envOfC qual scope s.heap.objs.size f cd).kindOf (ps.zip us) fun _=>none) (cellsFrom (s.heap.objs.size+1) scope.names []) (bindC (envOfC qual scope s.heap.objs.size f cd).kindOf (ps.zip us) fun _=>none) s1):
  Inv (cxOf CX P w K mg base N qual scope f cd A outer s H E) [] (start N vs) H s1:=by
 have hpl:ps.length≤N.length:=by have:=congrArg List.length S.pre;rw[List.length_take] at this;omega
 obtain⟨h1,tk,rfl,hk⟩:=x.done
 have noA:∀b:Addr,b∉(cxOf CX P w K mg base N qual scope f cd A outer s H E).ex:=fun b z=>absurd (show b∈([]:List Addr) from z) (by simp)
 refine⟨⟨e0.mod,S.kind,rfl,rfl,Nat.le_refl _,fun y z c h1 h2=>?_,fun y hy=>?_,fun y c _ h=>?_,fun _=>hd,Around.frames_deeper e0.frames,.inr ⟨rfl,rfl⟩,fun b z=>absurd z (noA b),e0.bs,e0.bsz,fun b _ _=>noA b,fun b z=>absurd z (noA b),e0.funs,e0.frf⟩,
  rfl,e0.bare,Un.kept hk,⟨_,x.toInCall.ns,fun i y v h1 h2 h3=>?_⟩,fun y c h=>⟨_,x.cell y c h⟩,e0.hok.fresh (Nat.le_refl _),fun y c h=>?_,fun p hp=>absurd (show p∈([]:List (Addr×Obj)) from hp) (by simp),e0.hok.kept hk,?_⟩
 ·exact name_of_addr x.apart (PySem.mem_of_lookup h1) (PySem.mem_of_lookup h2)
 ·have hy:scope.names.lookup y=some .cell∨scope.names.lookup y=some .free:=hy
  rcases hy with hy|hy
  ·exact cell_has hy
  ·exact absurd rfl (S.nofree _ (PySem.mem_of_lookup hy))
 ·exact Nat.le_of_lt (x.above y c (PySem.mem_of_lookup h))
 ·have hi:i<vs.length:=by
   unfold start at h2
   by_cases hi:i<vs.length
   ·exact hi
   ·rw[List.getElem?_append_right (by simpa using hi)] at h2
    rw[List.getElem?_replicate] at h2
    split at h2<;>cases h2
  have ha:vs[i]?=some v:=by
   unfold start at h2
   rw[List.getElem?_append_left (by simpa using hi),List.getElem?_map] at h2
   cases e:vs[i]? with
   |none=>rw[e] at h2;cases h2
   |some a=>rw[e] at h2;cases h2;rfl
  obtain⟨u,hu,rv⟩:=r.get ha
  have hp:ps[i]?=some y:=by
   rw[←S.pre,List.getElem?_take_of_lt (by omega)];exact h1
  have ndP:ps.Nodup:=by rw[←S.pre];exact S.nd.sublist (List.take_sublist _ _)
  refine⟨u,rv,?_⟩
  rcases S.par y (List.mem_of_getElem? hp) with k|k
  ·exact .inl ⟨k,bindL_get ndP hp hu k⟩
  ·obtain⟨c,e⟩:=cell_has (n:=s.heap.objs.size+1) k
   refine .inr ⟨.inl k,c,e,?_⟩
   have q:=x.cell y c e
   rw[bindC_get ndP hp hu (by show scope.names.lookup y≠_;rw[k];decide)] at q
   exact q
 ·exact e0.hok.fresh (Nat.le_of_lt (x.above y c (PySem.mem_of_lookup h)))
 ·unfold start
  show _=N.length
  rw[List.length_append,List.length_map,List.length_replicate]
  omega
theorem fn_of {CX:CXT}{P:Program}{w:World}{K:PySem.W.Frag}{mg:Str→Option Value}{base:Heap}{k:Nat}{f:Addr}{name qual:Str}{params:Arguments}{body:List Stmt}{scope:Scope}{dV kV doc pm cdv ct oc:Value}{an od:Option Addr}
  {osl:Array (Option Value)} {N ps:List Str} {sp:Sp} (lk:K.lookup f=some ⟨oc,od,.func (PySem.W.fnOf name qual params body scope dV kV doc pm an cdv ct),osl⟩) (hcd:PySem.W.codeIn K cdv qual=true) (S:FnScope N ps scope)
  (len:∀vs H Q E,sp vs H Q E→vs.length=ps.length)
  (hbody:∀(A:Around) (outer:List Env) (s:Shared) (H:Hp) (vs:List V) (Q:VK) (E:XK),Room k (A.deeper (envOfC qual scope s.heap.objs.size f cdv))→sp vs H Q E→
   ∃t,PSs (cxOf CX P w K mg base N qual scope f cdv A outer s H E) body t∧t {nx:=fun _ H'=>Q .non H',rt:=Q} (start N vs) H):
  FnOk P w K mg base CX (k+1) f (PySem.W.fnOf name qual params body scope dV kV doc pm an cdv ct) ps sp:=by
 refine⟨len,fun A outer s H args us vs Q E hr e0 hb r hsp=>?_⟩
 have hl:=len _ _ _ _ hsp
 have KX:K.In s.heap:=e0.mod.kin.keeps fun b o e=>(e0.bs b o e).1
 have lim:s.heap.NoLimit:=e0.mod.nolimit.keeps fun b o e=>(e0.bs b o e).1
 have hkind:∀y∈ps.zip us,scope.names.lookup y.1=some .local∨(scope.names.lookup y.1=some .cell∧((cellsFrom (s.heap.objs.size+1) scope.names []).lookup y.1).isSome=true):=fun⟨n,v⟩ hy=>by
  rcases S.par n (List.of_mem_zip hy).1 with q|q
  ·exact .inl q
  ·exact .inr ⟨q,PySem.W.cellsFrom_some _ _ _ (.inl q)⟩
 refine codeAny_call_function hr.depth (KX _ _ lk) rfl S.co S.gen rfl (PySem.W.codeRec_of KX hcd) (hb _ _ _ _ ?_)
 refine wpAny_newFunctionEnv_cells S.kind hkind fun env he s1 x=>?_
 subst he
 refine⟨lim.keeps x.toInCall.keep,codeAny_func ?_⟩
 obtain⟨t,ht,hq⟩:=hbody A outer s H vs Q E (hr.deeper _) hsp
 have I:Inv (cxOf CX P w K mg base N qual scope f cdv A outer s H E) [] (start N vs) H s1:=inv_start S hr.hd e0 hl r x
 refine wpAny_mono (ht [] s1 (start N vs) H _ I hq) (fun fl s' hs=>?_) fun e s' hs=>hs
 have fin:∀{σ':St} {H':Hp} {v:V} {u:Value},Inv (cxOf CX P w K mg base N qual scope f cdv A outer s H E) [] σ' H' s'→RelV v u→Q v H'→CE outer P w H s Q u s':=
  fun{σ' H' v u} J rv q=>⟨v,H',J.os,J.bare,J.base,J.hok,rv,q⟩
 cases fl with
 |ret u=>
  obtain⟨v,σ',H',J,rv,q⟩:=hs
  exact fin J rv q
 |next=>
  obtain⟨σ',H',J,q⟩:=hs
  exact fin (v:=V.non) (u:=Value.none) J rfl q
 |brk=>
  obtain⟨_,_,_,q⟩:=hs
  exact False.elim q
 |cont=>
  obtain⟨_,_,_,q⟩:=hs
  exact False.elim q
section
variable {X:Cx} {x:Str} {p pos:Pos} {e:Expr} {es:List Expr} {t:TA} {id T:String} {r:List V→Hp→VK→Prop}
def tCB (r:List V→Hp→VK→Prop) (t:TA):TE:=fun σ H Q=>t σ H fun vs H1=>r vs H1 Q
theorem pe_callB (hc:CallR X (.builtin id) r)(hg:Gl X x)(hm:X.mg x=none)(hv:bootBuiltins x=some (.builtin id))(ha:PA X (e::es) t)(hn:x≠ "__name__" :=by decide)(hdb:(x==("__debug__" :Str))=false:=by decide)
  (he:starEach (e::es) X.env=(false,eval e X.env)::starEach es X.env:=by rfl) (hpl:(backTo pos (starEach es X.env)).any (·.1)=false:=by rfl):PE X (.Call (.Name x p) (e::es) [] pos) (tCB r t):=by
 intro pins s σ H Q I h
 refine wpAny_Call_Name_kw (ld_blt I hg hm hv ?_ hn hdb)
 exact PyProof.Rows.callWith_builtin1 (thn (ha pos pins s σ H _ I h) fun us s1 ⟨vs,H1,I1,r1,q1⟩=>hc pins s1 σ H1 vs us Q I1 r1 q1) he hpl
theorem pe_callTy (hc:CallR X (.type T) r)(hg:Gl X x)(hm:X.mg x=none)(hv:bootBuiltins x=some (.type T))(ha:PA X (e::es) t)(hn:x≠ "__name__" :=by decide)(hdb:(x==("__debug__" :Str))=false:=by decide)
  (he:starEach (e::es) X.env=(false,eval e X.env)::starEach es X.env:=by rfl) (hpl:(backTo pos (starEach es X.env)).any (·.1)=false:=by rfl):PE X (.Call (.Name x p) (e::es) [] pos) (tCB r t):=by
 intro pins s σ H Q I h
 refine wpAny_Call_Name_kw (ld_blt I hg hm hv ?_ hn hdb)
 exact PyProof.Rows.callWith_type1 (thn (ha pos pins s σ H _ I h) fun us s1 ⟨vs,H1,I1,r1,q1⟩=>hc pins s1 σ H1 vs us Q I1 r1 q1) he hpl
end
end L2
namespace HT
open PySem PyProof.Rows
noncomputable def lexLt:List Int→List Int→Bool
 |[],[]=>false
 |[],_::_=>true
 |_::_,[]=>false
 |x::xs,y::ys=>if x=y then lexLt xs ys else decide (x<y)
theorem lexLt_cons (x y:Int)(xs ys:List Int):lexLt (x::xs) (y::ys)=if x=y then lexLt xs ys else decide (x<y):=rfl
theorem lexLt_nil_nil:lexLt [] []=false:=rfl
theorem lexLt_cons_nil (x:Int)(xs:List Int):lexLt (x::xs) []=false:=rfl
section
open PySem.SeqAt
open PySem.AutoSeq1 (wpAny_loadPart')
open PySem.MeetsSeq PySem.MeetsSeq2 PySem.MeetsSeq3
end
section
variable {prog:Program} {w:World} {A:Around} {E:Value→Shared→Prop} {s:Shared}
noncomputable def sIx (n d:Nat):Option Int→Nat
 |none=>d
 |some v=>if v<0 then (v+(n:Int)).toNat else min v.toNat n
theorem sIx_none (n d:Nat):sIx n d none=d:=rfl
theorem sIx_nat (n d k:Nat):sIx n d (some (k:Int))=min k n:=by
 show(if (k:Int)<0 then ((k:Int)+(n:Int)).toNat else min (k:Int).toNat n)=min k n
 rw[if_neg (by omega),Int.toNat_natCast]
theorem sIx_le (n d:Nat)(hd:d≤n)(o:Option Int):sIx n d o≤n:=by
 cases o with
 |none=>exact hd
 |some v=>
  show(if v<0 then (v+(n:Int)).toNat else min v.toNat n)≤n
  by_cases hv:v<0
  ·rw[if_pos hv];omega
  ·rw[if_neg hv];exact Nat.min_le_right _ _
end
end HT
namespace L2
open PySem PySem.Spec PyProof.Rows
abbrev TO:=St→Hp→(Option Int→Hp→Prop)→Prop
def PO (X:Cx) (e:Option Expr) (t:TO):Prop:=
 ∀(pins:List (Addr×Obj)) (s:Shared) (σ:St) (H:Hp) (Q:Option Int→Hp→Prop),Inv X pins σ H s→t σ H Q→
  wpAny (model X.prog X.w) X.A (evalPart e X.env) (fun u s'=>∃o H',Inv X pins σ H' s'∧IsPart u o∧Q o H') X.xe s
def tNoPart:TO:=fun _ H Q=>Q none H
noncomputable def tPart (t:TE):TO:=fun σ H Q=>t σ H fun x H1=>∃i,x=.int i∧Q (some i) H1
section
variable {X:Cx} {e:Expr} {te:TE} {lo hi:Option Expr} {tl th:TO} {pos p2:Pos}
theorem po_none:PO X none tNoPart:=by
 intro pins s σ H Q I h
 rw[evalPart_none]
 exact wpAny_pure ⟨none,H,I,.none,h⟩
theorem po_some (h:PE X e te):PO X (some e) (tPart te):=by
 intro pins s σ H Q I hw
 rw[evalPart_some]
 refine thn (h pins s σ H _ I hw) fun u s1 ⟨x,H1,I1,r1,q1⟩=>?_
 obtain⟨i,rfl,q⟩:=q1
 obtain⟨t,rfl⟩:=r1
 exact⟨some i,H1,I1,.int i t,q⟩
def SlR (X:Cx) (r:V→Option Int→Option Int→Hp→VK→Prop):Prop:=
 ∀(pins:List (Addr×Obj)) (s:Shared) (σ:St) (H:Hp) (x:V) (v vl vu:Value) (lo hi:Option Int) (sl:Addr) (Q:VK),Inv X pins σ H s→RelV x v→s.heap.IsSliceOf sl vl vu .none→IsPart vl lo→IsPart vu hi→r x lo hi H Q→
  ∃T id,typeLookup (.type T) "__getitem__" =pure (some (.builtin id))∧s.TypeIs v T∧wpAny (model X.prog X.w) X.A (getItem v (.ref sl)) (EP X pins σ Q) X.xe s
def tSl (r:V→Option Int→Option Int→Hp→VK→Prop) (te:TE) (tl th:TO):TE:=fun σ H Q=>te σ H fun x H1=>tl σ H1 fun l H2=>th σ H2 fun u H3=>r x l u H3 Q
theorem pe_slice {r:V→Option Int→Option Int→Hp→VK→Prop}(hr:SlR X r)(he:PE X e te)(hl:PO X lo tl)(hu:PO X hi th):PE X (.Subscript e (.Slice lo hi none p2) pos) (tSl r te tl th):=by
 intro pins s σ H Q I h
 refine Subscript_ (thn (he pins s σ H _ I h) fun v s1 ⟨x,H1,I1,r1,q1⟩=>?_)
 refine wpAny_Slice (thn (hl pins s1 σ H1 _ I1 q1) fun vl s2 ⟨l,H2,I2,pl,q2⟩=>thn (hu pins s2 σ H2 _ I2 q2) fun vu s3 ⟨u,H3,I3,pu,q3⟩=>?_)
 rw[evalPart_none]
 refine wpAny_pure ?_
 have I4:Inv X pins σ H3 {s3 with heap:=s3.heap.push {cls:=.type "slice",data:=.fields #[vl,vu,.none]}}:=I3.kept (t':=s3.toks) fun b ob q=>Heap.get?_push_of_some _ q
 obtain⟨T,id,hT,ht,hg⟩:=hr pins {s3 with heap:=s3.heap.push {cls:=.type "slice",data:=.fields #[vl,vu,.none]}} σ H3 x v vl vu l u s3.heap.objs.size Q I4 r1 (Heap.IsSliceOf.new ..) pl pu q3
 show wpAny (model X.prog X.w) X.A (subscriptTail e (.Slice lo hi none p2) v (.ref s3.heap.objs.size)) (EP X pins σ Q) X.xe {s3 with heap:=s3.heap.push {cls:=.type "slice",data:=.fields #[vl,vu,.none]}}
 exact tail_any (ops:=[.ref s3.heap.objs.size,v]) ht hT hg (by with_unfolding_all rfl)
noncomputable def cutV (xs:List V) (lo hi:Option Int):List V:=(xs.drop (HT.sIx xs.length 0 lo)).take (HT.sIx xs.length xs.length hi - HT.sIx xs.length 0 lo)
theorem cutV_length (xs:List V)(lo hi:Option Int):(cutV xs lo hi).length≤xs.length:=by
 unfold cutV
 rw[List.length_take,List.length_drop]
 omega
end
noncomputable def ixN (n:Nat) (i:Int):Option Nat:=if 0≤i then (if i<n then some i.toNat else none) else if -(n:Int)≤i then some (i+n).toNat else none
noncomputable def atI {α:Type} (xs:List α) (i:Int):Option α:=(ixN xs.length i).bind fun j=>xs[j]?
theorem ixN_seq {n:Nat}{i:Int}{j:Nat}(h:ixN n i=some j):seqIndex? i n=some j∧j<n∧ -(n:Int)≤i∧i<n:=by
 unfold ixN at h
 by_cases h0:0≤i
 ·rw[if_pos h0] at h
  by_cases h1:i<n
  ·rw[if_pos h1] at h
   have e:i.toNat=j:=Option.some.inj h
   exact⟨by rw[seqIndex_of h0 h1,e],by omega,by omega,h1⟩
  ·rw[if_neg h1] at h;cases h
 ·rw[if_neg h0] at h
  by_cases h1: -(n:Int)≤i
  ·rw[if_pos h1] at h
   have e:(i+n).toNat=j:=Option.some.inj h
   exact⟨by rw[seqIndex_neg (by omega) h1,e],by omega,h1,by omega⟩
  ·rw[if_neg h1] at h;cases h
theorem atI_get {α:Type}{xs:List α}{i:Int}{v:α}(h:atI xs i=some v):∃j,seqIndex? i xs.length=some j∧xs[j]?=some v∧j<xs.length∧ -(xs.length:Int)≤i∧i<xs.length:=by
 unfold atI at h
 cases e:ixN xs.length i with
 |none=>rw[e] at h;cases h
 |some j=>
  rw[e] at h
  obtain⟨h1,h2,h3,h4⟩:=ixN_seq e
  exact⟨j,h1,h,h2,h3,h4⟩
theorem atI_nat {α:Type}{xs:List α}{j:Nat}{v:α}(h:xs[j]?=some v):atI xs (j:Int)=some v:=by
 have hj:j<xs.length:=(List.getElem?_eq_some_iff.mp h).1
 have e:ixN xs.length (j:Int)=some j:=by
  unfold ixN
  rw[if_pos (by omega),if_pos (by omega)];simp
 unfold atI;rw[e];exact h
def PlainIx (b:Expr):Prop:=∀o i,subscripted b false o i=operate [o,i] (getItem o i)
def IxR (X:Cx) (r:R2):Prop:=
 ∀(value slice:Expr) (pins:List (Addr×Obj)) (s:Shared) (σ:St) (H:Hp) (x y:V) (v u:Value) (Q:VK),Inv X pins σ H s→RelV x v→RelV y u→r x y H Q→
  subscripted slice false v u=operate [v,u] (getItem v u)→wpAny (model X.prog X.w) X.A (subscriptTail value slice v u) (EP X pins σ Q) X.xe s
def MtR (X:Cx) (id:String) (r:V→List V→Hp→VK→Prop):Prop:=
 ∀(pins:List (Addr×Obj)) (s:Shared) (σ:St) (H:Hp) (x:V) (xs:List V) (v:Value) (us:List Value) (Q:VK),Inv X pins σ H s→RelV x v→Vals xs us→r x xs H Q→
  wpAny (model X.prog X.w) X.A (call (.builtin id) (v::us)) (EP X pins σ Q) X.xe s
section
variable {X:Cx} {a b:Expr} {ta tb:TE} {pos:Pos}
theorem pe_ix {r:R2}(hr:IxR X r)(ha:PE X a ta)(hb:PE X b tb)(hs:PlainIx b):PE X (.Subscript a b pos) (tOp r ta tb):=by
 intro pins s σ H Q I h
 exact Subscript_ (binT ha hb I h fun v u s2 x y H2 I2 rx ry q=>hr a b pins s2 σ H2 x y v u Q I2 rx ry q (hs _ _))
def rIxL (K:PySem.W.Frag):R2:=fun x y H Q=>∃p xs i v,x=.ref p∧y=.int i∧SqL K H p xs∧atI xs i=some v∧Q v H
def rIxT (K:PySem.W.Frag):R2:=fun x y H Q=>∃p xs i v,x=.ref p∧y=.int i∧SqT K H p xs∧atI xs i=some v∧Q v H
def rIxS:R2:=fun x y H Q=>∃z i c,x=.str z∧y=.int i∧z.length≤sizeLine∧atI z.cps.toList i=some c∧Q (.str ⟨#[c]⟩) H
theorem ix_list:IxR X (rIxL X.K):=by
 intro value slice pins s σ H x y v u Q I rx ry h hs
 obtain⟨p,xs,i,z,rfl,rfl,hq,he,q⟩:=h
 cases rx
 obtain⟨t,rfl⟩:=ry
 obtain⟨its,r,pl,hz⟩:=I.list hq
 obtain⟨j,h1,h2,h3,h4,h5⟩:=atI_get he
 obtain⟨w,ew,rw'⟩:=r.get h2
 have hl:=r.length
 have hn:=line63
 have fin:EP X pins σ Q w s:=⟨z,H,I,rw',q⟩
 by_cases h0:0≤i
 ·have hj:i.toNat=j:=by
   rw[seqIndex_of h0 h5] at h1
   exact Option.some.inj h1
  exact item_listR pl.isList h0 (by omega) (by rw[hj];simpa using ew) fin hs
 ·have hj:(i+(its.toArray.size:Int)).toNat=j:=by
   rw[seqIndex_neg (by omega) h4] at h1
   rw[List.size_toArray,←hl]
   exact Option.some.inj h1
  exact subscriptTail_builtinR (x:=w) pl.isList.typeIs slot_list_getitem.lookup
   (wpAny_getItem_list_neg (Q:=fun r s'=>r=w∧EP X pins σ Q r s') pl.isList (by omega) (by rw[List.size_toArray]<;>omega) (by omega) (by rw[hj];simpa using ew) ⟨rfl,fin⟩) hs
theorem ix_tup:IxR X (rIxT X.K):=by
 intro value slice pins s σ H x y v u Q I rx ry h hs
 obtain⟨p,xs,i,z,rfl,rfl,hq,he,q⟩:=h
 cases rx
 obtain⟨t,rfl⟩:=ry
 obtain⟨its,r,pl,hz⟩:=I.tuple hq
 obtain⟨j,h1,h2,h3,h4,h5⟩:=atI_get he
 obtain⟨w,ew,rw'⟩:=r.get h2
 have hl:=r.length
 have hn:=line63
 have fin:EP X pins σ Q w s:=⟨z,H,I,rw',q⟩
 exact subscriptTail_builtinR (x:=w) pl.typeIs slot_tuple_getitem.lookup
  (getItem_tuple (j:=j) (Q:=fun r s'=>r=w∧EP X pins σ Q r s') pl (by omega) (by omega) (by rw[List.size_toArray,←hl];exact h1) (by simpa using ew) ⟨rfl,fin⟩) hs
theorem ix_str:IxR X rIxS:=by
 intro value slice pins s σ H x y v u Q I rx ry h hs
 obtain⟨z,i,c,rfl,rfl,hz,he,q⟩:=h
 obtain⟨t,rfl⟩:=rx
 obtain⟨t',rfl⟩:=ry
 obtain⟨j,h1,h2,h3,h4,h5⟩:=atI_get he
 have hl:z.cps.toList.length=z.length:=by simp[Str.length]
 rw[hl] at h1 h4 h5
 have hn:=line63
 exact tail_any (typeIs_str s z t) slot_str_getitem.lookup (getItem_str (c:=c) (by
  have e1:decide (i< -(2^63:Int))=false:=decide_eq_false (by omega)
  have e2:decide (i≥2^63)=false:=decide_eq_false (by omega)
  rw[e1,e2,Bool.or_false]) (by rw[h1];simpa using h2) ⟨.str ⟨#[c]⟩,H,I.tok _,⟨_,rfl⟩,q⟩) hs
theorem slice_bounds (lo hi:Option Int)(n:Nat):(sliceBounds lo hi none n).1=((HT.sIx n 0 lo:Nat):Int)∧(sliceBounds lo hi none n).2.1=((HT.sIx n n hi:Nat):Int)∧(sliceBounds lo hi none n).2.2=1:=by
 refine⟨?_,?_,rfl⟩
 ·cases lo with
  |none=>simp[sliceBounds,HT.sIx]
  |some i=>
   simp only[sliceBounds,HT.sIx,Option.getD_none,show(1:Int)>0 by decide,if_true]
   by_cases h:i<0
   ·simp only[h,if_true]<;>omega
   ·simp only[h,if_false]<;>omega
 ·cases hi with
  |none=>simp[sliceBounds,HT.sIx]
  |some i=>
   simp only[sliceBounds,HT.sIx,Option.getD_none,show(1:Int)>0 by decide,if_true]
   by_cases h:i<0
   ·simp only[h,if_true]<;>omega
   ·simp only[h,if_false]<;>omega
theorem slicePick_cut (its:List Value)(lo hi:Option Int):slicePick its.toArray lo hi none=((its.drop (HT.sIx its.length 0 lo)).take (HT.sIx its.length its.length hi - HT.sIx its.length 0 lo)).toArray:=by
 obtain⟨h1,h2,h3⟩:=slice_bounds lo hi its.toArray.size
 unfold slicePick
 rw[h1,h2,h3]
 simp only[sliceRange_one,pick_run,List.size_toArray]<;>rfl
def rSlL (K:PySem.W.Frag):V→Option Int→Option Int→Hp→VK→Prop:=fun x lo hi H Q=>∃a xs,x=.ref a∧SqL K H a xs∧∀p,H p=none→Q (.ref p) (upd H p (.lst (cutV xs lo hi)))
theorem sl_list:SlR X (rSlL X.K):=by
 intro pins s σ H x v vl vu lo hi sl Q I rx hs pl pu h
 obtain⟨a,xs,rfl,hx,q⟩:=h
 cases rx
 obtain⟨its,r,ht,hz⟩:=I.list hx
 have hlen:=r.length
 refine⟨"list",_,slot_list_getitem.lookup,ht.isList.typeIs,?_⟩
 refine wpAny_getItem_list_slice ht.isList hs pl pu .none (by simp) ?_ (by rw[List.size_toArray]<;>omega)
 rw[slicePick_cut,←hlen]
 refine⟨.ref s.heap.objs.size,_,I.laid (t':=s.toks) (o:=.lst (cutV xs lo hi)) (fun b ob q=>Heap.get?_push_of_some _ q) (Nat.le_refl _) ?_,rfl,q _ (I.hok.fresh (Nat.le_refl _))⟩
 exact⟨Nat.le_trans (cutV_length xs lo hi) hz,_,0,(r.drop (HT.sIx xs.length 0 lo)).take (HT.sIx xs.length xs.length hi - HT.sIx xs.length 0 lo),Heap.get?_push_size _ rfl⟩
noncomputable def flatV:V→Bool
 | .non=>true
 | .bl _=>true
 | .int _=>true
 | .str _=>true
 |_=>false
noncomputable def eqV:V→V→Bool
 | .non,.non=>true
 | .bl a,.bl b=>a==b
 | .bl a,.int b=>(if a then 1 else 0)==b
 | .int a,.bl b=>a==(if b then 1 else 0)
 | .int a,.int b=>a==b
 | .str a,.str b=>a==b
 |_,_=>false
theorem eqAt_V {A:Around}{s:Shared}{y x:V}{u v:Value}(ry:RelV y u)(rx:RelV x v)(fy:flatV y=true)(fx:flatV x=true):SeqAt.EqAt A s u v (eqV y x):=by
 cases y with
 |non=>
  cases ry
  cases x with
  |non=>cases rx;exact SeqAt.EqAt.same _
  |bl b=>cases rx;exact SeqAt.EqAt.none_bool b
  |int b=>obtain⟨t,rfl⟩:=rx;exact SeqAt.EqAt.none_int b t
  |str b=>obtain⟨t,rfl⟩:=rx;exact SeqAt.EqAt.none_str b t
  |_=>exact absurd (show false=true from fx) Bool.false_ne_true
 |bl a=>
  cases ry
  cases x with
  |non=>cases rx;exact SeqAt.EqAt.bool_none a
  |bl b=>cases rx;exact SeqAt.EqAt.bool_bool a b
  |int b=>obtain⟨t,rfl⟩:=rx;exact SeqAt.EqAt.bool_int a b t
  |str b=>obtain⟨t,rfl⟩:=rx;exact SeqAt.EqAt.bool_str a b t
  |_=>exact absurd (show false=true from fx) Bool.false_ne_true
 |int a=>
  obtain⟨t',rfl⟩:=ry
  cases x with
  |non=>cases rx;exact SeqAt.EqAt.int_none a t'
  |bl b=>cases rx;exact SeqAt.EqAt.int_bool a t' b
  |int b=>obtain⟨t,rfl⟩:=rx;exact SeqAt.EqAt.int_int a t' b t
  |str b=>obtain⟨t,rfl⟩:=rx;exact SeqAt.EqAt.int_str a t' b t
  |_=>exact absurd (show false=true from fx) Bool.false_ne_true
 |str a=>
  obtain⟨t',rfl⟩:=ry
  cases x with
  |non=>cases rx;exact SeqAt.EqAt.str_none a t'
  |bl b=>cases rx;exact SeqAt.EqAt.str_bool a t' b
  |int b=>obtain⟨t,rfl⟩:=rx;exact SeqAt.EqAt.str_int a t' b t
  |str b=>obtain⟨t,rfl⟩:=rx;exact SeqAt.EqAt.str_str a t' b t
  |_=>exact absurd (show false=true from fx) Bool.false_ne_true
 |_=>exact absurd (show false=true from fy) Bool.false_ne_true
noncomputable def eqU (x:V) (u:Value):Bool:=match u with
 | .none=>eqV .non x
 | .bool b=>eqV (.bl b) x
 | .int i _=>eqV (.int i) x
 | .str z _=>eqV (.str z) x
 |_=>false
theorem eqU_of {x y:V}{u:Value}(r:RelV y u)(f:flatV y=true):eqU x u=eqV y x:=by
 cases y with
 |non=>cases r;rfl
 |bl b=>cases r;rfl
 |int i=>obtain⟨t,rfl⟩:=r;rfl
 |str z=>obtain⟨t,rfl⟩:=r;rfl
 |_=>exact absurd (show false=true from f) Bool.false_ne_true
theorem any_eqU {x:V}:∀{xs:List V} {us:List Value},Vals xs us→xs.all flatV=true→us.any (eqU x)=xs.any fun y=>eqV y x
 |_,_,.nil,_=>rfl
 |y::xs,u::us,.cons r t,f=>by
  rw[List.all_cons,Bool.and_eq_true] at f
  rw[List.any_cons,List.any_cons,eqU_of r f.1,any_eqU t f.2]
theorem mem_eqAt {A:Around}{s:Shared}{x:V}{v:Value}(rx:RelV x v)(fx:flatV x=true):∀{xs:List V} {us:List Value},Vals xs us→xs.all flatV=true→∀u∈us,SeqAt.EqAt A s u v (eqU x u)
 |_,_,.nil,_=>fun u hu=>by cases hu
 |y::xs,u::us,.cons r t,f=>fun u' hu=>by
  rw[List.all_cons,Bool.and_eq_true] at f
  rcases List.mem_cons.mp hu with rfl|hu
  ·rw[eqU_of r f.1];exact eqAt_V r rx f.1 fx
  ·exact mem_eqAt rx fx t f.2 u' hu
def inV (x:V) (xs:List V):Bool:=xs.any fun y=>eqV y x
def rIn (K:PySem.W.Frag) (neg:Bool):R2:=fun x y H Q=>∃p xs,y=.ref p∧(SqL K H p xs∨SqT K H p xs)∧flatV x=true∧xs.all flatV=true∧Q (.bl (if neg then !inV x xs else inV x xs)) H
theorem op_in_seq:OpR X (compareOp .In) (rIn X.K false):=by
 intro pins s σ H x y v u Q I rx ry h
 obtain⟨p,xs,rfl,hq,fx,fs,q⟩:=h
 cases ry
 rcases hq with hq|hq
 ·obtain⟨its,r,pl,hz⟩:=I.list hq
  refine SeqAt.in_listAt (eqU x) pl.isList (fun w hw=>mem_eqAt rx fx r fs w (by simpa using hw)) ⟨.bl _,H,I,rfl,?_⟩
  rw[show its.toArray.any (eqU x)=its.any (eqU x) by simp,any_eqU r fs]
  exact q
 ·obtain⟨its,r,pl,hz⟩:=I.tuple hq
  refine SeqAt.in_tupleAt (eqU x) pl (fun w hw=>mem_eqAt rx fx r fs w (by simpa using hw)) ⟨.bl _,H,I,rfl,?_⟩
  rw[show its.toArray.any (eqU x)=its.any (eqU x) by simp,any_eqU r fs]
  exact q
theorem op_notIn_seq:OpR X (compareOp .NotIn) (rIn X.K true):=by
 intro pins s σ H x y v u Q I rx ry h
 obtain⟨p,xs,rfl,hq,fx,fs,q⟩:=h
 cases ry
 rcases hq with hq|hq
 ·obtain⟨its,r,pl,hz⟩:=I.list hq
  refine SeqAt.notIn_listAt (eqU x) pl.isList (fun w hw=>mem_eqAt rx fx r fs w (by simpa using hw)) ⟨.bl _,H,I,rfl,?_⟩
  rw[show its.toArray.any (eqU x)=its.any (eqU x) by simp,any_eqU r fs]
  exact q
 ·obtain⟨its,r,pl,hz⟩:=I.tuple hq
  refine SeqAt.notIn_tupleAt (eqU x) pl (fun w hw=>mem_eqAt rx fx r fs w (by simpa using hw)) ⟨.bl _,H,I,rfl,?_⟩
  rw[show its.toArray.any (eqU x)=its.any (eqU x) by simp,any_eqU r fs]
  exact q
theorem call_len_str:CallR X (.builtin "len") (fun xs H Q=>∃z,xs=[.str z]∧z.length≤sizeLine∧Q (.int z.length) H):=by
 intro pins s σ H xs us Q I r h
 obtain⟨z,rfl,hz,q⟩:=h
 obtain⟨u,rfl,t,rfl⟩:=vals1 r
 have hn:=line63
 exact len_str (by omega) ⟨.int z.length,H,I.tok _,⟨_,rfl⟩,q⟩
theorem call_tuple_of:CallR X (.type "tuple") (fun xs H Q=>∃p ys,xs=[.ref p]∧((SqL X.K H p ys∧∀l,H l=none→Q (.ref l) (upd H l (.tup ys)))∨(SqT X.K H p ys∧Q (.ref p) H))):=by
 intro pins s σ H xs us Q I r h
 obtain⟨p,ys,rfl,h⟩:=h
 obtain⟨u,rfl,rx⟩:=vals1 r
 cases rx
 rcases h with ⟨hq,q⟩|⟨hq,q⟩
 ·obtain⟨its,r',pl,hz⟩:=I.list hq
  have hlen:=r'.length
  refine call_tuple_list pl.isList (fun h' kp=>?_) (by simp only[List.size_toArray]<;>omega)
  have I1:Inv X pins σ H {s with heap:=h'}:=I.kept (t':=s.toks) kp
  have I2:Inv X pins σ (upd H h'.objs.size (.tup ys)) {s with heap:=h'.push {cls:=.type "tuple",data:=.seq its.toArray}}:=
   I1.laid (t':=s.toks) (fun b o e=>Heap.get?_push_of_some _ e) (Nat.le_refl _) (show ObjOk X.prog X.w _ _ _ (.tup ys) from⟨hz,its,r',IsTup.new _ _⟩)
  exact⟨.ref h'.objs.size,_,I2,rfl,q _ (I1.hok.fresh (Nat.le_refl _))⟩
 ·obtain⟨its,r',pl,hz⟩:=I.tuple hq
  exact call_tuple_same pl ⟨.ref p,H,I,rfl,q⟩
def tyV (K:PySem.W.Frag) (T:String) (x:V) (H:Hp):Prop:=match x with
 | .str _=>T= "str"
 | .int _=>T= "int"
 | .ref p=>(T= "list" ∧∃xs,SqL K H p xs)∨(T= "tuple" ∧∃o,K.lookup p=some o∧o.cls=.type "tuple" ∧o.dict=none)∨
   (T= "dict" ∧((∃kvs,H p=some (.dK kvs))∨∃kvs,H p=some (.dT kvs)))∨(T= "set" ∧∃S n,H p=some (.set S n))
 |_=>False
theorem tyV_is {pins:List (Addr×Obj)}{σ:St}{H:Hp}{s:Shared}{T:String}{x:V}{v:Value}(I:Inv X pins σ H s)(r:RelV x v)(ty:tyV X.K T x H):
  s.TypeIs v T∧∀a,v=.ref a→∃ob,s.heap.get? a=some ob∧ob.dict=none:=by
 cases x with
 |str z=>
  obtain⟨t,rfl⟩:=r
  cases(show T= "str" from ty)
  exact⟨typeIs_str s z t,fun _ e=>nomatch e⟩
 |int i=>
  obtain⟨t,rfl⟩:=r
  cases(show T= "int" from ty)
  exact⟨typeIs_int s i t,fun _ e=>nomatch e⟩
 |ref p=>
  cases r
  rcases ty with ⟨rfl,xs,hq⟩|⟨rfl,o,hk,hc,hd⟩|⟨rfl,hk⟩|⟨rfl,S,n,hk⟩
  ·obtain⟨its,_,pl,_⟩:=I.list hq
   refine⟨pl.isList.typeIs,fun a e=>?_⟩
   cases e
   obtain⟨o,n,e,c,hd,_⟩:=pl
   exact⟨o,e,hd⟩
  ·refine⟨⟨o,I.kIn p o hk,hc⟩,fun a e=>?_⟩
   cases e
   exact⟨o,I.kIn _ o hk,hd⟩
  ·have z:∃o,s.heap.get? p=some o∧o.ExactDict:=by
    rcases hk with ⟨kvs,hk⟩|⟨kvs,hk⟩
    ·obtain⟨_,_,_,_,o,_,_,e,ex,_⟩:=I.hok p _ hk
     exact⟨o,e,ex⟩
    ·obtain⟨_,_,_,_,o,_,_,e,ex,_⟩:=I.hok p _ hk
     exact⟨o,e,ex⟩
   obtain⟨o,e,ex⟩:=z
   refine⟨⟨o,e,ex.1⟩,fun a e2=>?_⟩
   cases e2
   exact⟨o,e,ex.2.1⟩
  ·obtain⟨o,_,_,_,e,ex,_⟩:=I.hok p _ hk
   refine⟨⟨o,e,ex.1⟩,fun a e2=>?_⟩
   cases e2
   exact⟨o,e,ex.2.1⟩
 |_=>exact False.elim ty
def tBM (K:PySem.W.Frag) (T:String) (r:V→List V→Hp→VK→Prop) (to:TE) (t:TA):TE:=fun σ H Q=>to σ H fun x H1=>tyV K T x H1∧t σ H1 fun xs H2=>r x xs H2 Q
variable {o e:Expr} {es:List Expr} {to:TE} {t:TA} {name:Str} {apos cpos:Pos} {T id:String} {r:V→List V→Hp→VK→Prop}
theorem pe_bm (pa:PlainAttrs T)(slot:Slot T name id)(hty:typeOf (.builtin id)=pure (.type "method_descriptor"))(hm:MtR X id r)(ho:PE X o to)(ha:PA X (e::es) t)
  (hbase:attributeBase o name X.env (eval o X.env)=eval o X.env:=by rfl)
  (hfew:((backTo cpos (starEach (e::es) X.env)).all (fun x=>!x.1)&&(backToKw cpos (keywordEach [] X.env)).all (fun x=>x.1.isSome)
   &&decide ((e::es).length+([]:List Keyword).length+(if ([]:List Keyword).isEmpty then 0 else 1)<30))=true:=by rfl)
  (hline:(apos.endLine==cpos.line)=true:=by rfl) (hs:starEach (e::es) X.env=(false,eval e X.env)::starEach es X.env:=by rfl) (hplain:(backTo cpos (starEach es X.env)).any (·.1)=false:=by rfl):
  PE X (.Call (.Attribute o name apos) (e::es) [] cpos) (tBM X.K T r to t):=by
 intro pins s σ H Q I h
 refine wpAny_Call_method_late hbase hfew hline rfl (thn (ho pins s σ H _ I h) fun v s1 ⟨x,H1,I1,r1,ty,q1⟩=>?_)
 obtain⟨h1,h2⟩:=tyV_is I1 r1 ty
 refine⟨T,id,pa,slot,hty,h1,h2,?_⟩
 have hA:=ha cpos pins s1 σ H1 _ I1 q1
 rw[hs] at hA⊢
 refine Calls.callWith_builtin (by show(false||(backTo cpos (starEach es X.env)).any (·.1))=false;rw[hplain]<;>rfl) (Calls.evalArgs_plain ?_)
 exact thn hA fun us s2 ⟨vs,H2,I2,r2,q2⟩=>hm pins s2 σ H2 x vs v us Q I2 r1 r2 q2
end
def MtM (X:Cx) (id:String) (r:V→List V→Hp→VK→Prop):Prop:=
 ∀(pins:List (Addr×Obj)) (s:Shared) (σ:St) (H:Hp) (x:V) (xs:List V) (v:Value) (us:List Value) (Q:VK),Inv X pins σ H s→RelV x v→Vals xs us→r x xs H Q→
  wpAny (model X.prog X.w) X.A (call (.builtin id) (v::us)) (EP X pins σ Q) X.xe s
theorem Vals.one:∀{x:V} {us:List Value},Vals [x] us→∃u,us=[u]∧RelV x u
 |_,_,.cons r .nil=>⟨_,rfl,r⟩
section
variable {X:Cx} {pins:List (Addr×Obj)} {σ:St} {H:Hp} {s:Shared} {l b:Addr} {xs ys zs:List V}
theorem Inv.lset {its its':List Value}{n:Nat}{f:Array Value→Array Value}{t':Nat}(I:Inv X pins σ H s)(hH:H l=some (.lst xs))
  (e:s.heap.get? l=some {cls:=.type "list",data:=.seq its.toArray n}) (hf:f its.toArray=its'.toArray) (hv:Vals ys its') (hz:ys.length≤sizeLine):
  Inv X pins σ (upd H l (.lst ys)) {s with heap:=s.heap.update l (Obj.mapSeq f),toks:=t'}:=by
 have q:=PySem.IsL.update e f
 rw[hf] at q
 refine I.write (x:=l) (e:=l) (by rw[hH];exact trivial) (.inl rfl) (fun b' u hb hu=>(Heap.get?_update_other s.heap (Obj.mapSeq f) (Ne.symm hb)).trans hu) ⟨_,q⟩ ?_
 exact⟨hz,its',_,hv,q⟩
theorem Inv.lnew {its:List Value}{t':Nat}(I:Inv X pins σ H s)(hv:Vals ys its)(hz:ys.length≤sizeLine):
  Inv X pins σ (upd H s.heap.objs.size (.lst ys)) {s with heap:=s.heap.push {cls:=.type "list",data:=.seq its.toArray},toks:=t'}:=
 I.laid (fun _ _ q=>Heap.get?_push_of_some _ q) (Nat.le_refl _) ⟨hz,its,0,hv,Heap.get?_push_size _ rfl⟩
theorem Inv.fresh (I:Inv X pins σ H s):H s.heap.objs.size=none:=I.hok.fresh (Nat.le_refl _)
theorem Inv.lstM (I:Inv X pins σ H s)(hH:H l=some (.lst xs)):xs.length≤sizeLine∧∃(its:List Value) (n:Nat),Vals xs its∧xs.length=its.length∧s.heap.get? l=some {cls:=.type "list",data:=.seq its.toArray n}:=by
 obtain⟨z,its,n,r,e⟩:=I.hok l _ hH
 exact⟨z,its,n,r,r.length,e⟩
theorem notLongL {n:Nat}(h:n≤sizeLine):Builtin.List.listTooLong n=false:=by
 unfold Builtin.List.listTooLong
 exact decide_eq_false (by omega)
end
section
variable {X:Cx}
def rAppend:V→List V→Hp→VK→Prop:=fun x vs H Q=>∃l xs y,x=.ref l∧vs=[y]∧H l=some (.lst xs)∧xs.length<sizeLine∧Q .non (upd H l (.lst (xs++[y])))
theorem mt_append:MtM X "list.append" rAppend:=by
 intro pins s σ H x vs v us Q I rx rv h
 obtain⟨l,xs,y,rfl,rfl,hH,hz,q⟩:=h
 cases rx
 obtain⟨u,rfl,ru⟩:=rv.one
 obtain⟨z,its,n,r,hl,e⟩:=I.lstM hH
 refine call_meets F.slot_list_append ⟨_,e,rfl⟩ F.entry_list_append (F.args_list_append_2 _ _) (PySem.list_append l its.toArray n u (by rw[List.size_toArray];omega)) ⟨e,?_⟩
 refine⟨.non,_,I.lset (its':=its++[u]) hH e (by simp) (r.append (.cons ru .nil)) ?_,rfl,q⟩
 rw[List.length_append,List.length_singleton]
 omega
def rExtend:V→List V→Hp→VK→Prop:=fun x vs H Q=>∃l b xs zs,x=.ref l∧vs=[.ref b]∧H l=some (.lst xs)∧H b=some (.lst zs)∧xs.length+zs.length≤sizeLine∧Q .non (upd H l (.lst (xs++zs)))
theorem mt_extend:MtM X "list.extend" rExtend:=by
 intro pins s σ H x vs v us Q I rx rv h
 obtain⟨l,b,xs,zs,rfl,rfl,hH,hB,hz,q⟩:=h
 cases rx
 obtain⟨u,rfl,ru⟩:=rv.one
 cases ru
 obtain⟨z,its,n,r,hl,e⟩:=I.lstM hH
 obtain⟨z2,its2,n2,r2,hl2,e2⟩:=I.lstM hB
 have hsz:its.toArray.size+its2.toArray.size≤sizeLine:=by rw[List.size_toArray,List.size_toArray];omega
 have hlong:¬(!its.toArray.isEmpty&&Builtin.List.listTooLong (its.toArray.size+its2.toArray.size))=true:=by
  rw[notLongL hsz,Bool.and_false]
  exact Bool.false_ne_true
 refine call_meets F.slot_list_extend ⟨_,e,rfl⟩ F.entry_list_extend (F.args_list_extend_2 _ _)
  (AutoSeq1.list_extend_list_list_0 l its.toArray n b its2.toArray n2 hlong (by rw[List.size_toArray];omega) (by omega)) ⟨e,e2,?_⟩
 refine⟨.non,_,I.lset (its':=its++its2) hH e (by simp) (r.append r2) ?_,rfl,q⟩
 rw[List.length_append]
 omega
def rCat:R2:=fun x y H Q=>∃l b xs zs,x=.ref l∧y=.ref b∧H l=some (.lst xs)∧H b=some (.lst zs)∧xs.length+zs.length≤sizeLine∧∀p,H p=none→Q (.ref p) (upd H p (.lst (xs++zs)))
theorem op_cat:OpR X (binaryOp .Add) rCat:=by
 intro pins s σ H x y v u Q I rx ry h
 obtain⟨l,b,xs,zs,rfl,rfl,hH,hB,hz,q⟩:=h
 cases rx
 cases ry
 obtain⟨z,its,n,r,hl,e⟩:=I.lstM hH
 obtain⟨z2,its2,n2,r2,hl2,e2⟩:=I.lstM hB
 refine PySem.P.add_list e e2 ?_ (by rw[List.size_toArray,List.size_toArray];omega)
 have ea:its.toArray++its2.toArray=(its++its2).toArray:=by simp
 rw[ea]
 exact⟨.ref _,_,I.lnew (t':=s.toks) (r.append r2) (by rw[List.length_append];omega),rfl,q _ I.fresh⟩
theorem len_rep {α:Type}(xs:List α)(k:Nat):(List.replicate k xs).flatten.length=k*xs.length:=by
 induction k with
 |zero=>simp
 |succ k ih=>rw[List.replicate_succ,List.flatten_cons,List.length_append,ih,Nat.succ_mul,Nat.add_comm]
end
section
variable {prog:Program} {w:World} {A:Around} {E:Value→Shared→Prop} {s:Shared}
end
section
variable {X:Cx}
end
section
variable {κ:Type} [DecidableEq κ]
noncomputable def valV (kvs:List (κ×V)) (k:κ):Option V:=(kvs.find? fun kv=>decide (kv.1=k)).map (·.2)
noncomputable def putK (kvs:List (κ×V)) (k:κ) (v:V):List (κ×V):=
 if (kvs.any fun kv=>decide (kv.1=k))=true then kvs.map (fun kv=>if kv.1=k then (kv.1,v) else kv) else kvs++[(k,v)]
theorem valV_pos {p:κ×V}{r:List (κ×V)}{k:κ}(e:p.1=k):valV (p::r) k=some p.2:=by simp[valV,List.find?_cons,e]
theorem valV_neg {p:κ×V}{r:List (κ×V)}{k:κ}(e:¬p.1=k):valV (p::r) k=valV r k:=by simp[valV,List.find?_cons,e]
theorem valV_any (k:κ):∀kvs:List (κ×V),(kvs.any fun kv=>decide (kv.1=k))=(valV kvs k).isSome
 |[]=>rfl
 |p::r=>by
  rw[List.any_cons]
  by_cases e:p.1=k
  ·simp only[valV_pos e,decide_eq_true e,Bool.true_or,Option.isSome_some]
  ·rw[valV_neg e,decide_eq_false e,Bool.false_or];exact valV_any k r
theorem valV_map (k j:κ)(y:V):∀kvs:List (κ×V),valV (kvs.map fun kv=>if kv.1=k then (kv.1,y) else kv) j=(valV kvs j).map fun x=>if j=k then y else x
 |[]=>rfl
 |p::r=>by
  have ih:=valV_map k j y r
  rw[List.map_cons]
  by_cases h:p.1=k
  ·rw[if_pos h]
   by_cases e:p.1=j
   ·rw[valV_pos (p:=(p.1,y)) e,valV_pos e,Option.map_some,if_pos (e.symm.trans h)]
   ·rw[valV_neg (p:=(p.1,y)) e,valV_neg e,ih]
  ·rw[if_neg h]
   by_cases e:p.1=j
   ·rw[valV_pos (p:=p) e,valV_pos e,Option.map_some,if_neg (fun z=>h (e.trans z))]
   ·rw[valV_neg (p:=p) e,valV_neg e,ih]
theorem valV_snoc (k j:κ)(y:V):∀kvs:List (κ×V),valV kvs k=none→valV (kvs++[(k,y)]) j=if j=k then some y else valV kvs j
 |[],_=>by
  by_cases e:k=j
  ·rw[if_pos e.symm];exact valV_pos (p:=(k,y)) e
  ·rw[if_neg (fun z=>e z.symm)];exact valV_neg (p:=(k,y)) e
 |p::r,hn=>by
  rw[List.cons_append]
  have hk:¬p.1=k:=fun z=>by rw[valV_pos z] at hn;cases hn
  rw[valV_neg hk] at hn
  have ih:=valV_snoc k j y r hn
  by_cases e:p.1=j
  ·rw[valV_pos e,valV_pos e,if_neg (fun z=>hk (e.trans z))]
  ·rw[valV_neg e,valV_neg e,ih]
theorem valV_put (kvs:List (κ×V))(k j:κ)(y:V):valV (putK kvs k y) j=if j=k then some y else valV kvs j:=by
 unfold putK
 by_cases a:(kvs.any fun kv=>decide (kv.1=k))=true
 ·rw[if_pos a,valV_map]
  rw[valV_any] at a
  by_cases e:j=k
  ·obtain⟨x,hx⟩:=Option.isSome_iff_exists.mp a
   rw[if_pos e,e,hx,Option.map_some,if_pos rfl]
  ·rw[if_neg e]
   cases valV kvs j with
   |none=>rfl
   |some x=>rw[Option.map_some,if_neg e]
 ·rw[if_neg a]
  refine valV_snoc k j y kvs ?_
  rw[valV_any] at a
  cases q:valV kvs k with
  |none=>rfl
  |some x=>rw[q] at a;exact(a rfl).elim
theorem length_putK (kvs:List (κ×V))(k:κ)(v:V):(putK kvs k v).length≤kvs.length+1:=by
 unfold putK
 split
 ·rw[List.length_map];omega
 ·rw[List.length_append,List.length_cons,List.length_nil];omega
theorem RelO.isSome_eq {o:Option V}{u:Option Value}(r:RelO o u):o.isSome=u.isSome:=by
 cases o with
 |none=>cases u with
  |none=>rfl
  |some _=>exact(show False from r).elim
 |some _=>cases u with
  |none=>exact(show False from r).elim
  |some _=>rfl
theorem RelO.getD {o:Option V}{u:Option Value}{d:V}{d':Value}(r:RelO o u)(rd:RelV d d'):RelV (o.getD d) (u.getD d'):=by
 cases o with
 |none=>cases u with
  |none=>exact rd
  |some _=>exact(show False from r).elim
 |some _=>cases u with
  |none=>exact(show False from r).elim
  |some _=>exact r
theorem KV.val {kvs:List (κ×V)}{vs:List (κ×Value)}(r:KV kvs vs)(k:κ):RelO (valV kvs k) (valueAt vs k):=by
 unfold KV at r
 induction r with
 |nil=>exact True.intro
 | @cons p q ps qs h t ih=>
  obtain⟨h1,h2⟩:=h
  by_cases e:p.1=k
  ·have e':q.1=k:=h1.symm.trans e
   have b:valueAt (q::qs) k=some q.2:=by simp[valueAt,List.find?_cons,e']
   rw[valV_pos e,b];exact h2
  ·have e':¬q.1=k:=fun z=>e (h1.trans z)
   have b:valueAt (q::qs) k=valueAt qs k:=by simp[valueAt,List.find?_cons,e']
   rw[valV_neg e,b];exact ih
theorem KV.any {kvs:List (κ×V)}{vs:List (κ×Value)}(r:KV kvs vs)(k:κ):(kvs.any fun kv=>decide (kv.1=k))=vs.any fun kv=>decide (kv.1=k):=by
 unfold KV at r
 induction r with
 |nil=>rfl
 |cons h t ih=>rw[List.any_cons,List.any_cons,ih,h.1]
theorem KV.repl {kvs:List (κ×V)}{vs:List (κ×Value)}(r:KV kvs vs)(k:κ){y:V}{u:Value}(ry:RelV y u):
  KV (kvs.map fun kv=>if kv.1=k then (kv.1,y) else kv) (vs.map fun kv=>if kv.1=k then (kv.1,u) else kv):=by
 unfold KV at r⊢
 induction r with
 |nil=>exact .nil
 | @cons p q ps qs h t ih=>
  rw[List.map_cons,List.map_cons]
  refine .cons ?_ ih
  obtain⟨h1,h2⟩:=h
  by_cases e:p.1=k
  ·rw[if_pos e,if_pos (h1.symm.trans e)];exact⟨h1,ry⟩
  ·rw[if_neg e,if_neg (fun z=>e (h1.trans z))];exact⟨h1,h2⟩
theorem KV.put {kvs:List (κ×V)}{vs:List (κ×Value)}(r:KV kvs vs)(k:κ){y:V}{u:Value}(ry:RelV y u):KV (putK kvs k y) (stored vs k u):=by
 unfold putK stored
 rw[r.any k]
 by_cases e:(vs.any fun kv=>decide (kv.1=k))=true
 ·rw[if_pos e,if_pos e];exact r.repl k ry
 ·rw[if_neg e,if_neg e];exact Paired.snoc r ⟨rfl,ry⟩
theorem KV.length {kvs:List (κ×V)}{vs:List (κ×Value)}(r:KV kvs vs):kvs.length=vs.length:=Paired.length r
end
theorem kV_is {P:Program}{w:World}{k:Key}{u:Value}(r:RelV (kV k) u):(mixKind P w).is k u=true:=by
 cases k with
 |inl i=>obtain⟨t,e⟩:=(show∃t,u=Value.int i t from r);subst e;exact mixKind_int P w i t
 |inr x=>obtain⟨t,e⟩:=(show∃t,u=Value.str x t from r);subst e;exact mixKind_str P w x t
theorem items_are {P:Program}{w:World}:∀{ks:List Key} {us:List Value},Vals (ks.map kV) us→ItemsAre (mixKind P w) ks us
 |[],_,r=>by rw[List.map_nil] at r;cases r;exact .nil
 |k::ks,_,r=>by
  rw[List.map_cons] at r
  cases r with
  |cons h t=>exact .cons (kV_is h) (items_are t)
abbrev KT (H:Hp):List (List Key×V)→List (List Key×Addr×Value)→Prop:=Paired fun p q=>p.1=q.1∧H q.2.1=some (.tup (p.1.map kV))∧RelV p.2 q.2.2
theorem KT.val {H:Hp}{kvs:List (List Key×V)}{xs:List (List Key×Addr×Value)}(r:KT H kvs xs)(k:List Key):RelO (valV kvs k) ((atKey xs k).map (·.2)):=by
 induction r with
 |nil=>exact True.intro
 | @cons p q ps qs h t ih=>
  obtain⟨h1,_,h2⟩:=h
  by_cases e:p.1=k
  ·have e':q.1=k:=h1.symm.trans e
   have b:atKey (q::qs) k=some q.2:=by simp[atKey,List.find?_cons,e']
   rw[valV_pos e,b];exact h2
  ·have e':¬q.1=k:=fun z=>e (h1.trans z)
   have b:atKey (q::qs) k=atKey qs k:=by simp[atKey,List.find?_cons,e']
   rw[valV_neg e,b];exact ih
theorem KT.repl {H:Hp}{kvs:List (List Key×V)}{xs:List (List Key×Addr×Value)}(r:KT H kvs xs)(k:List Key){y:V}{u:Value}(ry:RelV y u):
  KT H (kvs.map fun kv=>if kv.1=k then (kv.1,y) else kv) (xs.map (putAt k u)):=by
 induction r with
 |nil=>exact .nil
 | @cons p q ps qs h t ih=>
  rw[List.map_cons,List.map_cons]
  refine .cons ?_ ih
  obtain⟨h1,h2,h3⟩:=h
  unfold putAt
  by_cases e:p.1=k
  ·rw[if_pos e,if_pos (h1.symm.trans e)];exact⟨h1,h2,ry⟩
  ·rw[if_neg e,if_neg (fun z=>e (h1.trans z))];exact⟨h1,h2,h3⟩
theorem KT.put {H:Hp}{kvs:List (List Key×V)}{xs:List (List Key×Addr×Value)}(r:KT H kvs xs)(k:List Key){b:Addr}{y:V}{u:Value}(hb:H b=some (.tup (k.map kV)))(ry:RelV y u):
  KT H (putK kvs k y) (storedH xs k b u):=by
 have e:(kvs.any fun kv=>decide (kv.1=k))=(atKey xs k).isSome:=by
  rw[valV_any,(r.val k).isSome_eq,Option.isSome_map]
 unfold putK storedH
 rw[e]
 by_cases q:(atKey xs k).isSome=true
 ·rw[if_pos q,if_pos q];exact r.repl k ry
 ·rw[if_neg q,if_neg q];exact Paired.snoc r ⟨rfl,hb,ry⟩
theorem KT.keeps {H H':Hp}{kvs:List (List Key×V)}{xs:List (List Key×Addr×Value)}(r:KT H kvs xs)(ht:∀b ys,H b=some (.tup ys)→H' b=some (.tup ys)):KT H' kvs xs:=
 Paired.mapP r fun _ _ z=>⟨z.1,ht _ _ z.2.1,z.2.2⟩
section
variable {P:Program} {w:World} {H:Hp} {h:Heap} {a:Addr}
theorem rd_of {u:HO}(ok:HOk P w H h)(e:Rd H a u):ObjOk P w H h a u:=e.ok ok
theorem dk_rd {kvs:List (Key×V)}(ok:HOk P w H h)(e:Rd H a (.dK kvs)):kvs.length≤sizeLine∧(a==sysModules)=false∧∃vs,KV kvs vs∧h.DictOf (mixKind P w) a vs:=
 show ObjOk P w H h a (.dK kvs) from rd_of ok e
theorem dk_of {kvs:List (Key×V)}(ok:HOk P w H h)(e:H a=some (.dK kvs)):kvs.length≤sizeLine∧(a==sysModules)=false∧∃vs,KV kvs vs∧h.DictOf (mixKind P w) a vs:=dk_rd ok (.inl e)
theorem key_of {ks:List Key}(ok:HOk P w H h)(e:H a=some (.tup (ks.map kV))):(tupleKind (mixKind P w)).is h ks a:=by
 obtain⟨_,its,r,o,h1,h2,n,h3⟩:=(show ObjOk P w H h a (.tup (ks.map kV)) from ok a _ e)
 exact⟨o,its.toArray,n,h1,h2,h3,by simpa using items_are r⟩
theorem dt_rd {kvs:List (List Key×V)}(ok:HOk P w H h)(e:Rd H a (.dT kvs)):kvs.length≤sizeLine∧(a==sysModules)=false∧
  ∃xs,KT H kvs xs∧h.DictOfH (tupleKind (mixKind P w)) a xs:=by
 obtain⟨z,y,xs,r,o,es,ep,h1,h2,h3,h4,h5⟩:=(show ObjOk P w H h a (.dT kvs) from rd_of ok e)
 refine⟨z,y,xs,r,o,es,ep,h1,h2,h3,h4,fun x hx=>?_,h5⟩
 have all:∀{l:List (List Key×V)} {m:List (List Key×Addr×Value)},KT H l m→∀x∈m,(tupleKind (mixKind P w)).is h x.1 x.2.1:=by
  intro l m q
  induction q with
  |nil=>intro x hx;exact nomatch hx
  | @cons p q ps qs hq t ih=>
   intro x hx
   rcases List.mem_cons.mp hx with e|hx
   ·subst e
    exact key_of ok (by rw[←hq.1];exact hq.2.1)
   ·exact ih x hx
 exact all r x hx
theorem dt_of {kvs:List (List Key×V)}(ok:HOk P w H h)(e:H a=some (.dT kvs)):kvs.length≤sizeLine∧(a==sysModules)=false∧
  ∃xs,KT H kvs xs∧h.DictOfH (tupleKind (mixKind P w)) a xs:=dt_rd ok (.inl e)
end
def DGet (H:Hp) (a:Addr) (y:V) (r:Option V):Prop:=
 (∃kvs k,Rd H a (.dK kvs)∧y=kV k∧r=valV kvs k)∨∃kvs k b,Rd H a (.dT kvs)∧y=.ref b∧H b=some (.tup (k.map kV))∧r=valV kvs k
def DPut (H:Hp) (a:Addr) (y v:V) (H':Hp):Prop:=
 (∃kvs k,H a=some (.dK kvs)∧y=kV k∧kvs.length<sizeLine∧H'=upd H a (.dK (putK kvs k v)))∨
 ∃kvs k b,H a=some (.dT kvs)∧y=.ref b∧H b=some (.tup (k.map kV))∧kvs.length<sizeLine∧H'=upd H a (.dT (putK kvs k v))
theorem DGet.k {H:Hp}{a:Addr}{kvs:List (Key×V)}{k:Key}(e:H a=some (.dK kvs)):DGet H a (kV k) (valV kvs k):=.inl ⟨kvs,k,.inl e,rfl,rfl⟩
theorem DPut.k {H:Hp}{a:Addr}{kvs:List (Key×V)}{k:Key}{v:V}(e:H a=some (.dK kvs))(hl:kvs.length<sizeLine):DPut H a (kV k) v (upd H a (.dK (putK kvs k v))):=.inl ⟨kvs,k,e,rfl,hl,rfl⟩
theorem DPut.t {H:Hp}{a b:Addr}{kvs:List (List Key×V)}{k:List Key}{v:V}(e:H a=some (.dT kvs))(eb:H b=some (.tup (k.map kV)))(hl:kvs.length<sizeLine):
  DPut H a (.ref b) v (upd H a (.dT (putK kvs k v))):=.inr ⟨kvs,k,b,e,rfl,eb,hl,rfl⟩
section
variable {X:Cx} {pins:List (Addr×Obj)} {σ:St} {H:Hp} {s:Shared} {a:Addr} {y v:V} {u r:Value} {o:Option V} {A:Around} {E:Value→Shared→Prop}
theorem Inv.big (I:Inv X pins σ H s):sysModules<s.heap.objs.size:=by
 have h:mainGlobals<s.heap.objs.size:=(I.mod.glob.keeps I.bk).lt
 exact Nat.lt_trans (by decide) h
theorem d_write {h':Heap}{t':Nat}{ob:HO}(I:Inv X pins σ H s)(mu:Mut (H a))(hs:Heap.SameBut a s.heap h')(he:∃q,h'.get? a=some q)(new:ObjOk X.prog X.w (upd H a ob) h' a ob):
  Inv X pins σ (upd H a ob) {s with heap:=h',toks:=t'}:=
 I.write (x:=a) (e:=a) mu (.inl rfl) (fun b q hb z=>(hs.2 b hb).trans z) he new
theorem dk_new {P:Program}{w:World}{H':Hp}{h':Heap}{kvs:List (Key×V)}{vs:List (Key×Value)}(z:kvs.length≤sizeLine)(hd:(a==sysModules)=false)(rel:KV kvs vs)(dd:h'.DictOf (mixKind P w) a vs):
  ObjOk P w H' h' a (.dK kvs):=⟨z,hd,vs,rel,dd⟩
theorem d_setItem {H':Hp}{Q:Unit→Shared→Prop}(hu:A.units+1<cLine)(I:Inv X pins σ H s)(g:DPut H a y v H')(ry:RelV y u)(rv:RelV v r)(h:∀s',Inv X pins σ H' s'→Q () s'):
  wpAny (model X.prog X.w) A (setItem (.ref a) u r) Q E s:=by
 rcases g with ⟨kvs,k,e,ey,l,eH⟩|⟨kvs,k,b,e,ey,eb,l,eH⟩
 ·subst ey eH
  obtain⟨z,hd,vs,rel,dd⟩:=dk_of I.hok e
  have hz:vs.length≤sizeLine:=by rw[←rel.length];exact z
  have hl:(putK kvs k v).length≤sizeLine:=by have:=length_putK kvs k v;omega
  refine wpAny_setItem_pairs (hsz:=hz) (kV_is ry) dd fun h' dd' hs=>h _ ?_
  have he:∃q,h'.get? a=some q:=let ⟨q,_,_,hq,_⟩:=dd';⟨q,hq⟩
  exact d_write I (by rw[e];exact True.intro) hs he (dk_new hl hd (rel.put k rv) dd')
 ·subst ey eH
  cases(show u=Value.ref b from ry)
  obtain⟨z,hd,xs,rel,dd⟩:=dt_of I.hok e
  have hz:xs.length≤sizeLine:=by rw[←Paired.length rel];exact z
  have hl:(putK kvs k v).length≤sizeLine:=by have:=length_putK kvs k v;omega
  refine wpAny_setItem_heap (hsz:=hz) (tupleKind_room_in1 hu) (key_of I.hok eb) dd fun h' dd' hs=>h _ ?_
  obtain⟨q,es,ep,hq,h2,h3,h4,_,h5⟩:=dd'
  refine d_write I (by rw[e];exact True.intro) hs ⟨q,hq⟩ ⟨hl,hd,_,(rel.put k eb rv).keeps fun c ys ec=>?_,q,es,ep,hq,h2,h3,h4,h5⟩
  rw[upd_ne (ne_of ec e (fun z=>nomatch z))]
  exact ec
end
section
variable {X:Cx} {pins:List (Addr×Obj)} {σ:St} {H:Hp} {s:Shared} {a:Addr} {kvs:List (Key×V)} {k:Key} {u:Value} {A:Around} {E:Value→Shared→Prop}
end
def NoSl (i:Expr):Prop:=∀ov iv,subscripted i false ov iv=operate [ov,iv] (getItem ov iv)
theorem subD_of {prog:Program}{w:World}{A:Around}{E:Value→Shared→Prop}{s:Shared}{env:Env}{value slice:Expr}{pos:Pos}{T id:String}{Q:Value→Shared→Prop}
  (hl:typeLookup (.type T) "__getitem__" =pure (some (.builtin id))) (hs:NoSl slice)
  (h:wpAny (model prog w) A (eval value env) (fun o s₁=>wpAny (model prog w) A (eval slice env) (fun i s₂=>s₂.TypeIs o T∧wpAny (model prog w) A (getItem o i) Q E s₂) E s₁) E s):
  wpAny (model prog w) A (eval (.Subscript value slice pos) env) Q E s:=by
 refine Subscript_ (wpAny_mono h (fun o s₁ h₁=>wpAny_mono h₁ (fun i s₂ h₂=>?_) fun _ _ x=>x) fun _ _ x=>x)
 obtain⟨hT,h₂⟩:=h₂
 unfold subscriptTail
 refine wpAny_bind ?_
 rw[getitemInPython_of_ne hT.not_modules]
 refine wpAny_bind (wpAny_specialOf hT hl ?_)
 have fin:wpAny (model prog w) A (subscripted slice false o i) (fun r s₃=>wpAny (model prog w) A (letTemporaryGo value o r>>=fun _=>pure r) Q E s₃) E s₂:=by
  rw[hs o i]
  exact wpAny_operating (wpAny_mono h₂ (fun r s₃ h₃=>wpAny_bind (wpAny_letTemporaryGo (wpAny_pure h₃))) fun _ _ x=>x)
 first
  |exact wpAny_pure (wpAny_bind fin)
  |exact wpAny_bind (wpAny_pure (wpAny_bind fin))
  |exact wpAny_bind fin
def sDPut (td ty tv:TE):TS:=fun D σ H=>tv σ H fun v H1=>td σ H1 fun x H2=>ty σ H2 fun y H3=>∃a H4,x=.ref a∧DPut H3 a y v H4∧D.nx σ H4
section
variable {X:Cx} {o i e value:Expr} {pos pos' tpos:Pos} {td ty tv:TE}
theorem ps_dput (hu:X.A.units+1<cLine)(ho:PE X o td)(hi:PE X i ty)(hv:PE X value tv)(hs:swapsWith value (some (.Subscript o i pos')) pos.line X.env=pure false):
  PS X (.Assign [.Subscript o i pos'] value pos) (sDPut td ty tv):=by
 intro pins s σ H D I h
 refine wpAny_Assign_Subscript (thn (hv pins s σ H _ I h) fun r s1 ⟨v,H1,I1,rv,q1⟩=>thn (ho pins s1 σ H1 _ I1 q1) fun u s2 ⟨x,H2,I2,rx,q2⟩=>thn (hi pins s2 σ H2 _ I2 q2) fun iv s3 ⟨y,H3,I3,ry,a,H4,ex,g,q3⟩=>?_) hs
 subst ex
 obtain rfl:u=Value.ref a:=rx
 exact d_setItem hu I3 g ry rv fun s4 I4=>⟨σ,H4,I4,q3⟩
end
theorem dk_empty {P:Program}{w:World}{H:Hp}(h:Heap)(hb:sysModules<h.objs.size):ObjOk P w H (h.push {cls:=.type "dict",data:=.dict #[]}) h.objs.size (.dK []):=
 ⟨Nat.zero_le _,beq_eq_false_iff_ne.mpr (Ne.symm (Nat.ne_of_lt hb)),[],.nil,Heap.DictOf.new h⟩
theorem dt_empty {P:Program}{w:World}{H:Hp}(h:Heap)(hb:sysModules<h.objs.size):ObjOk P w H (h.push {cls:=.type "dict",data:=.dict #[]}) h.objs.size (.dT []):=
 ⟨Nat.zero_le _,beq_eq_false_iff_ne.mpr (Ne.symm (Nat.ne_of_lt hb)),[],.nil,_,#[],0,Heap.get?_push_size _ rfl,⟨rfl,rfl,rfl⟩,rfl,rfl,List.nodup_nil⟩
section
variable {X:Cx} {pos:Pos}
end
structure M1 (X:Cx) (o:Expr) (m:Str) (apos:Pos) (e:Expr) (cpos:Pos):Prop where
 base:attributeBase o m X.env (eval o X.env)=eval o X.env
 few:((backTo cpos (starEach [e] X.env)).all (fun x=>!x.1)&&(backToKw cpos (keywordEach [] X.env)).all (fun x=>x.1.isSome)
  &&decide (([e]:List Expr).length+([]:List Keyword).length+(if ([]:List Keyword).isEmpty then 0 else 1)<30))=true
 line:(apos.endLine==cpos.line)=true
 trees:backTo cpos (starEach [e] X.env)=[(false,eval e X.env)]
def IsD (H:Hp) (a:Addr):Prop:=(∃kvs,Rd H a (.dK kvs))∨∃kvs,Rd H a (.dT kvs)
theorem isD_at {X:Cx}{pins:List (Addr×Obj)}{σ:St}{H:Hp}{s:Shared}{a:Addr}(I:Inv X pins σ H s)(d:IsD H a):
  s.TypeIs (.ref a) "dict" ∧(∀b,Value.ref a=.ref b→∃ob,s.heap.get? b=some ob∧ob.dict=none)∧(a==sysModules)=false:=by
 rcases d with ⟨kvs,e⟩|⟨kvs,e⟩
 ·obtain⟨_,hd,vs,_,dd⟩:=dk_rd I.hok e
  refine⟨dd.typeIs,fun b q=>?_,hd⟩
  cases q
  obtain⟨ob,_,_,h1,h2,_⟩:=dd
  exact⟨ob,h1,h2.2.1⟩
 ·obtain⟨_,hd,xs,_,dd⟩:=dt_rd I.hok e
  refine⟨dd.typeIs,fun b q=>?_,hd⟩
  cases q
  obtain⟨ob,_,_,h1,h2,_⟩:=dd
  exact⟨ob,h1,h2.2.1⟩
section
variable {X:Cx} {pins:List (Addr×Obj)} {σ:St} {H:Hp} {s:Shared} {a:Addr} {y d:V} {u r:Value} {o:Option V} {A:Around} {E:Value→Shared→Prop}
theorem d_get1 {Q:Value→Shared→Prop}(hu:A.units+1<cLine)(I:Inv X pins σ H s)(g:DGet H a y o)(ry:RelV y u)(h:∀w' s',Inv X pins σ H s'→RelV (o.getD .non) w'→Q w' s'):
  wpAny (model X.prog X.w) A (call (.builtin "dict.get") [.ref a,u]) Q E s:=by
 rcases g with ⟨kvs,k,e,ey,l⟩|⟨kvs,k,b,e,ey,eb,l⟩
 ·subst ey
  obtain⟨z,hd,vs,rel,dd⟩:=dk_rd I.hok e
  refine call_meetsIn PySem.F.slot_dict_get dd.typeIs PySem.F.entry_dict_get (PySem.F.args_dict_get_2 _ _) (meets_dict_get (mixKind X.prog X.w) a (kV_is ry) hd) ⟨_,dd.mapOf,h _ _ (I.tok _) ?_⟩
  rw[l]
  exact(rel.val k).getD rfl
 ·subst ey
  cases(show u=Value.ref b from ry)
  obtain⟨z,hd,xs,rel,dd⟩:=dt_rd I.hok e
  refine call_meetsIn PySem.F.slot_dict_get dd.typeIs PySem.F.entry_dict_get (PySem.F.args_dict_get_2 _ _) (meetsH_dict_get (tupleKind (mixKind X.prog X.w)) a b hd) ⟨tupleKind_room_in1 hu,k,xs,key_of I.hok eb,dd,h _ _ (I.tok _) ?_⟩
  rw[l]
  exact(rel.val k).getD rfl
end
def tDGet1 (td ty:TE):TE:=fun σ H Q=>td σ H fun x H1=>∃a,x=.ref a∧IsD H1 a∧ty σ H1 fun y H2=>∃o,DGet H2 a y o∧Q (o.getD .non) H2
section
variable {X:Cx} {o e f:Expr} {apos cpos:Pos} {td ty tx:TE}
theorem pe_dget1 (hu:X.A.units+1<cLine)(ho:PE X o td)(he:PE X e ty)(m:M1 X o "get" apos e cpos):PE X (.Call (.Attribute o "get" apos) [e] [] cpos) (tDGet1 td ty):=by
 intro pins s σ H Q I h
 refine wpAny_Call_method m.base m.few m.line PySem.F.plainAttrs_dict PySem.F.slot_dict_get PySem.F.type_dict_get (thn (ho pins s σ H _ I h) fun u s1 ⟨x,H1,I1,rx,a,ex,d,q1⟩=>?_)
 subst ex
 obtain rfl:u=Value.ref a:=rx
 obtain⟨t1,t2,_⟩:=isD_at I1 d
 refine⟨t1,t2,?_⟩
 rw[m.trees]
 refine Calls.callWith_builtin rfl (Calls.evalArgs_plain (Calls.spliced_cons (thn (he pins s1 σ H1 _ I1 q1) fun iv s2 ⟨y,H2,I2,ry,ov,g,q2⟩=>Calls.spliced_nil ?_)))
 exact d_get1 hu I2 g ry fun w' s3 I3 rw'=>⟨_,H2,I3,rw',q2⟩
end
section
variable {X:Cx} {pins:List (Addr×Obj)} {σ:St} {H:Hp} {s:Shared} {a:Addr} {kvs:List (Key×V)} {A:Around} {E:Value→Shared→Prop}
end
section
variable {X:Cx} {pins:List (Addr×Obj)} {σ:St} {H:Hp} {s:Shared} {a:Addr} {y:V} {u:Value} {A:Around} {E:Value→Shared→Prop}
end
end L2
namespace Att
open PySem PySem.W PySem.Calls PyProof.Rows
theorem ints_of_wellAll {P:Params}{h:Heap}:∀(ns:List Int) (vs:List Value),WellAll P h vs (ns.map WData.int)→IntsAre vs ns:=by
 intro ns
 induction ns with
 |nil=>
  intro vs w
  rw[List.map_nil] at w
  cases w
  exact .nil
 |cons n ns ih=>
  intro vs w
  rw[List.map_cons] at w
  cases w with
  |cons a b=>
   cases a
   exact .cons _ _ (ih _ b)
theorem script_of {l:OpenLaw}{n:Nat}(hn:l.most=some n){P:Params}{h:Heap}{args:List WData}{vals:List Value}
  (hpre:l.row.toRowW.claim.pre args=true) (hwl:WellAll P h vals args):
  ∃a vs ns,vals=[Value.ref a]∧args=[WData.list (ns.map WData.int)]∧h.get? a=some {cls:=.type "list",data:=.seq vs.toArray}∧IntsAre vs ns∧ns.length≤n:=by
 have hsh:WShape.hasAll [] args [.list .int]=true:=(pre_splitW hpre).1
 have hc:l.pre.holds [] {args:=args}=true:=(pre_splitW hpre).2
 obtain⟨d,r,rfl,h1,h2⟩:=hasAllW_cons hsh
 obtain rfl:=hasAllW_nil h2
 obtain⟨xs,rfl,h3⟩:=hasW_list h1
 obtain⟨ns,rfl⟩:=items_int h3
 have hlen:ns.length≤n:=by
  unfold OpenLaw.pre at hc
  have h4:(WTm.not (.lt (.lit (.int (n:Int))) (.len (.arg 0)))).holds [] {args:=[.list (ns.map .int)]}=true:=by
   have h4:=(holds_andW hc).1
   rw[hn] at h4
   exact h4
  have h5:=condW_of h4 (w_not (w_lt w_lit (w_len_list (w_arg rfl))))
  rw[List.length_map] at h5
  refine Nat.le_of_not_lt fun q=>?_
  have q':(n:Int)<((ns.length:Nat):Int):=by omega
  first
   |(rw[decide_eq_true q'] at h5;exact absurd h5 (by decide))
   |(simp at h5;omega)
 cases hwl with
 |cons w1 w2=>
  cases w2
  cases w1 with
  |list ho hall=>exact⟨_,_,ns,rfl,rfl,ho,ints_of_wellAll ns _ hall,hlen⟩
theorem post_true (l:OpenLaw)(args:List WData):l.row.toRowW.claim.post args (.bool true) args=true:=
 postW_of (r:=l.row.toRowW) (X:=(true==true))
  (show WShape.has [] (.bool true) .bool=true by first|rfl|decide|simp[WShape.has,WShape.arms,WShape.armsAll])
  (show(WTm.eq .res (.lit (.bool true))).value [] {args:=args,res:=some (.bool true),after:=args}=some (.bool (true==true)) from w_eq_bool (w_res rfl) w_lit) rfl
theorem attach_call {l:OpenLaw}{n:Nat}{q:Program}{loose:List Str}{XP:(Str→Option Value)→Heap→Prop}{YP:World→Heap→Prop}{d:DefRec}
  (hn:l.most=some n) (hdf:d.params.defaults=[])
  (call:∀(w:World) (s₀ s₁:Shared) (mg mb:Str→Option Value) (fa:Addr) (o:Obj) (pm cd doc:Value) (a:Addr) (vs:List Value) (ns:List Int),
   Ground q loose [] XP w s₀ mg mb s₁.heap→YP w s₁.heap→
   s₁.heap.get? fa=some o→o.data=.func (docDef d.name d.params d.body d.scope pm cd doc)→s₁.heap.CodeRec cd d.name→mg d.name=some (.ref fa)→
   s₁.heap.get? a=some {cls:=.type "list",data:=.seq vs.toArray}→IntsAre vs ns→ns.length≤n→s₁.gens= #[]→
   codeAny (model l.prog w) callerA (.call (.ref fa) ⟨[.ref a],[]⟩) (fun r s'=>r=.ok (.ret (.bool true))∧OldK s₁.heap s'.heap∧s'.os=s₁.os∧AllBare s'.gens) s₁):
  WalkO q loose XP YP l.row.toRowW d [] (fun f vs=>PySem.call f vs):=by
 intro w s₀ s₁ mg mb G Y fa o pm cd doc dV kV ho hd hcd hD hmg hg args vals as hpre hlay hrd hwl hlo
 obtain rfl:dV=.none:=Dflts.none hD hdf
 obtain rfl:kV=.none:=Dflts.noKw hD
 obtain⟨a,vs,ns,rfl,rfl,hobj,hints,hlen⟩:=script_of hn hpre hwl
 refine enter_call (codeAny_mono (call w s₀ s₁ mg mb fa o pm cd doc a vs ns G Y ho (fd_plain hd) hcd hmg hobj hints hlen hg) fun r s' hq=>?_)
 obtain⟨rfl,h2,h3,h4⟩:=hq
 exact⟨.inl ⟨.bool true,.bool true,[],rfl,fun _=>rfl,.bool true,post_true l _,fun _=>⟨List.Pairwise.nil,fun _ hm=>(nomatch hm)⟩⟩,h2,h3,h4⟩
section
variable {prog:Program} {w:World} {A:Around} {E:Value→Shared→Prop} {s:Shared} {K:Frag}
def noObjs (h:Heap):Heap:={h with objs:= #[]}
theorem noObjs_get (h:Heap)(b:Addr):(noObjs h).get? b=none:=by
 cases e:(noObjs h).get? b with
 |none=>rfl
 |some o=>exact absurd (Heap.lt_size e) (Nat.not_lt_zero _)
theorem fr_all {h:Heap}{L:Addr}{m:Str→Option Value}(n:h.Ns L m):Fr (noObjs h) L h m:=
 ⟨n,fun b o e=>(by rw[noObjs_get] at e;cases e),Nat.zero_le _⟩
end
end Att
namespace L2
open PySem PySem.Spec PyProof.Rows
theorem vals_ints:∀{vs:List Value} {ns:List Int},IntsAre vs ns→Vals (ns.map V.int) vs
 |_,_,.nil=> .nil
 |_,_,.cons n t h=> .cons ⟨t,rfl⟩ (vals_ints h)
def Only (H:Hp):Prop:=∀b,H b=none∨∃o xs,H b=some (.frz o (.lst xs))
theorem law_call {P:Program}{w:World}{K:PySem.W.Frag}{mg mb:Str→Option Value}{CX:CXT}{k:Nat}{fa a:Addr}{fd:FuncData}{x:Str}{sp:Sp}{s₁:Shared}{vs:List Value}{ns:List Int}
  (KX:K.In s₁.heap) (hns:s₁.heap.Ns mainGlobals mg) (hb:s₁.heap.Ns builtinsNs mb) (hbb:∀x:Str,x≠ "__name__" →mb x=bootBuiltins x) (hlim:s₁.heap.NoLimit) (hg:s₁.gens= #[])
  (ha:s₁.heap.get? a=some {cls:=.type "list",data:=.seq vs.toArray}) (hi:IntsAre vs ns) (hl:ns.length≤sizeLine) (hr:Room k callerA)
  (F:∀base:Heap,K.In base→base.Ns mainGlobals mg→FnOk P w K mg base CX k fa fd [x] sp) (hbind:∀(s:Shared) (u:Value),BindsTo s fd ⟨[u],[]⟩ [(x,u)])
  (hsp:∀H:Hp,Only H→SqL K H a (ns.map V.int)→sp [.ref a] H (fun v _=>v=.bl true) fun _ _ _=>False)
  (hCX:∀H e s',CX [] H s₁ (fun _ _ _=>False) e s'→False):
  codeAny (model P w) callerA (.call (.ref fa) ⟨[.ref a],[]⟩) (fun r s'=>r=.ok (.ret (.bool true))∧OldK s₁.heap s'.heap∧s'.os=s₁.os∧AllBare s'.gens) s₁:=by
 have rv:=vals_ints hi
 have lenV:=hi.length
 have core:∀H:Hp,Only H→SqL K H a (ns.map V.int)→HOk P w H s₁.heap→(∀b,H b≠none→b=a)→(H a≠none→K.lookup a=none)→
   codeAny (model P w) callerA (.call (.ref fa) ⟨[.ref a],[]⟩) (fun r s'=>r=.ok (.ret (.bool true))∧OldK s₁.heap s'.heap∧s'.os=s₁.os∧AllBare s'.gens) s₁:=by
  intro H hO hS hok hA hK
  have base_of:∀{b:Addr} {o:Obj},s₁.heap.get? b=some o→H b=none→(hidT s₁.heap H).get? b=some o:=fun e n=>hidT_get e n
  have noA:∀{b:Addr} {o:Obj} {es:Array DictEntry} {ep:Nat},s₁.heap.get? b=some o→o.data=.dict es ep→H b=none:=fun{b o es ep} e d=>by
   cases q:H b with
   |none=>rfl
   |some u=>
    have e':b=a:=hA b (by rw[q];simp)
    subst e'
    rw[ha] at e;cases e
    have d':Data.seq vs.toArray _=Data.dict es ep:=d
    cases d'
  have nsK:∀{b:Addr} {m:Str→Option Value},s₁.heap.Ns b m→(hidT s₁.heap H).Ns b m:=fun{b m} ⟨o,es,ep,e,d,r⟩=>⟨o,es,ep,base_of e (noA e d),d,r⟩
  have hKb:K.In (hidT s₁.heap H):=fun b o e=>base_of (KX b o e) (by
   cases q:H b with
   |none=>rfl
   |some u=>
    have e':b=a:=hA b (by rw[q];simp)
    subst e'
    rw[hK (by rw[q];simp)] at e;cases e)
  have hM:Mod K mg (hidT s₁.heap H):=⟨hKb,nsK hns,⟨mb,nsK hb,hbb⟩,let ⟨mc,h1,h2⟩:=hlim;⟨mc,nsK h1,h2⟩⟩
  have e0:Env0 P w K mg (hidT s₁.heap H) callerA [] s₁ H:=⟨rfl,hM,fun b o e=>of_hidT e,Nat.le_of_eq (hidT_size _ _),trivial,fun b hb=>absurd (show b∈([]:List Addr) from hb) (by simp),hok,.of_eq hg⟩
  refine codeAny_mono ((F _ hKb (nsK hns)).run callerA [] s₁ H ⟨[.ref a],[]⟩ [.ref a] [.ref a] _ _ hr e0 (hbind s₁ (.ref a)) (.cons rfl .nil) (hsp H hO hS)) fun r s' h=>?_
  cases r with
  |error e=>exact(hCX H e s' h).elim
  |ok fl=>
   cases fl with
   |next=>exact False.elim h
   |brk=>exact False.elim h
   |cont=>exact False.elim h
   |ret u=>
    obtain⟨v,H',os,bare,un,hok',r',q⟩:=h
    have q':v=.bl true:=q
    subst q'
    obtain rfl:u=Value.bool true:=r'
    refine⟨rfl,OldK.of_keep fun b o e=>?_,os,bare⟩
    cases q:H b with
    |none=>exact un.keep b o e q (by intro z;exact absurd (show b∈([]:List Addr) from z) (by simp)) (by simp)
    |some u=>
     rcases hO b with z|⟨ob,xs,z⟩
     ·rw[q] at z;cases z
     ·have z2:=un.frzs b ob _ z
      obtain⟨e1,_⟩:=hok b _ z
      obtain⟨e2,_⟩:=hok' b _ z2
      rw[e] at e1;cases e1
      exact e2
 cases hk:K.lookup a with
 |some o=>
  have e:=KX a o hk
  rw[ha] at e
  cases e
  refine core (fun _=>none) (fun _=> .inl rfl) (.inr ⟨_,vs.toArray,_,hk,rfl,rfl,rfl,by rw[List.size_toArray,lenV];exact hl,by simpa using rv⟩) (fun b u z=>by have z':(none:Option HO)=some u:=z;cases z') (fun b z=>absurd rfl z) fun z=>absurd rfl z
 |none=>
  refine core (fun b=>if b=a then some (.frz {cls:=.type "list",data:=.seq vs.toArray} (.lst (ns.map V.int))) else none) (fun b=>?_) (.inl (.inr ⟨{cls:=.type "list",data:=.seq vs.toArray},if_pos rfl⟩)) (fun b u z=>?_) (fun b z=>?_) fun _=>hk
  ·by_cases hb:b=a
   ·exact .inr ⟨_,_,if_pos hb⟩
   ·exact .inl (if_neg hb)
  ·by_cases hb:b=a
   ·have z':=(if_pos hb).symm.trans z
    cases z'
    subst hb
    exact⟨ha,by rw[List.length_map];exact hl,vs,_,rv,ha⟩
   ·have z':=(if_neg hb).symm.trans z
    cases z'
  ·by_cases hb:b=a
   ·exact hb
   ·exact absurd (if_neg hb) z
theorem walk_of {l:PySem.W.OpenLaw}{n k:Nat}{q:Program}{loose:List Str}{XP:(Str→Option Value)→Heap→Prop}{YP:World→Heap→Prop}{d:DefRec}{K:Params→PySem.W.Frag}{CX:World→CXT}{sp:World→Sp}{x:Str}
  (hn:l.most=some n) (hn2:n≤sizeLine) (hdf:d.params.defaults=[]) (hr:Room k callerA)
  (hY:∀(w:World) (h:Heap),YP w h→(K w.params).In h)
  (F:∀(w:World) (mg:Str→Option Value) (fa:Addr) (h:Heap),(K w.params).In h→h.Ns mainGlobals mg→mg d.name=some (.ref fa)→
   ∃fd:FuncData,(∀(s:Shared) (u:Value),BindsTo s fd ⟨[u],[]⟩ [(x,u)])∧
    ∀base:Heap,(K w.params).In base→base.Ns mainGlobals mg→FnOk l.prog w (K w.params) mg base (CX w) k fa fd [x] (sp w))
  (hsp:∀(w:World) (H:Hp) (a:Addr) (ns:List Int),ns.length≤n→Only H→SqL (K w.params) H a (ns.map V.int)→sp w [.ref a] H (fun v _=>v=.bl true) fun _ _ _=>False)
  (hCX:∀(w:World) (H:Hp) (s:Shared) (e:Value) (s':Shared),CX w [] H s (fun _ _ _=>False) e s'→False):
  PySem.W.WalkO q loose XP YP l.row.toRowW d [] (fun f vs=>PySem.call f vs):=by
 refine Att.attach_call hn hdf fun w s₀ s₁ mg mb fa o pm cd doc a vs ns G Y ho hd hcd hmg hobj hints hlen hg=>?_
 have KX:=hY w _ Y
 obtain⟨fd,hb,hF⟩:=F w mg fa _ KX G.T.g hmg
 exact law_call KX G.T.g G.T.b G.T.builtins G.T.nolimit hg hobj hints (Nat.le_trans hlen hn2) hr hF hb (fun H hO hS=>hsp w H a ns hlen hO hS) fun H e s'=>hCX w H s₁ e s'
noncomputable def inClass (s:Stmt) (j:Nat):Stmt:=match s with
 | .ClassDef _ _ _ body _ _ _ _ _ _ _=>body.getD j (.Pass ⟨0,0,0,0⟩)
 |_=> .Pass ⟨0,0,0,0⟩
noncomputable def defArgs (s:Stmt):Arguments:=match s with
 | .FunctionDef _ a _ _ _ _ _ _ _ _=>a
 |_=>{posonlyargs:=[],args:=[],vararg:=none,kwonlyargs:=[],kw_defaults:=[],kwarg:=none,defaults:=[]}
noncomputable def defBody (s:Stmt):List Stmt:=match s with
 | .FunctionDef _ _ b _ _ _ _ _ _ _=>b
 |_=>[]
noncomputable def defScope (s:Stmt):Scope:=match s with
 | .FunctionDef _ _ _ _ _ _ sc _ _ _=>sc
 |_=>{kind:=.function,names:=[],isGenerator:=false,isCoroutine:=false}
abbrev CX0:CXT:=fun _ _ _ _ _ _=>False
abbrev E0:XK:=fun _ _ _=>False
theorem pass0 {X:Cx}:Passes CX0 X E0:=fun _ _ _ _ _ _ _ h=>h.elim
structure Fun (K:PySem.W.Frag) (x qual:Str) (st:Stmt) (f:Addr) (fd:FuncData):Prop where
 ex:∃(oc:Value) (od:Option Addr) (kV doc pm:Value) (an:Option Addr) (cdv ct:Value) (osl:Array (Option Value)),
  fd=PySem.W.fnOf x qual (defArgs st) (defBody st) (defScope st) .none kV doc pm an cdv ct∧K.lookup f=some ⟨oc,od,.func fd,osl⟩∧PySem.W.codeIn K cdv qual=true
 kp:PySem.W.keepIn K (.ref f)=true
section
variable {P:Program} {w:World} {K:PySem.W.Frag} {mg:Str→Option Value} {base:Heap}
theorem Fun.ok {x qual:Str}{st:Stmt}{f:Addr}{fd:FuncData}{N ps:List Str}{k:Nat}{sp:Sp}(F:Fun K x qual st f fd)(S:FnScope N ps (defScope st))(len:∀vs H Q E,sp vs H Q E→vs.length=ps.length)
  (hbody:∀(cdv:Value) (A:Around) (outer:List Env) (s:Shared) (H:Hp) (vs:List V) (Q:VK) (E:XK),Room k (A.deeper (envOfC qual (defScope st) s.heap.objs.size f cdv))→sp vs H Q E→
   ∃t,PSs (cxOf CX0 P w K mg base N qual (defScope st) f cdv A outer s H E).nox (defBody st) t∧t {nx:=fun _ H'=>Q .non H',rt:=Q} (start N vs) H):FnOk P w K mg base CX0 (k+1) f fd ps sp:=by
 obtain⟨oc,od,kV,doc,pm,an,cdv,ct,osl,rfl,lk,hcd⟩:=F.ex
 refine fn_of lk hcd S len fun A outer s H vs Q E hr hsp=>?_
 obtain⟨t,h,q⟩:=hbody cdv A outer s H vs Q E hr hsp
 exact⟨t,h.nox,q⟩
theorem Fun.binds {x qual:Str}{st:Stmt}{f:Addr}{fd:FuncData}{ps:List Str}(F:Fun K x qual st f fd)
  (h:∀(kV doc pm:Value) (an:Option Addr) (cdv ct:Value) (us:List Value),us.length=ps.length→bindArgs (PySem.W.fnOf x qual (defArgs st) (defBody st) (defScope st) .none kV doc pm an cdv ct) ⟨us,[]⟩=pure (ps.zip us)):Binds K fd ps []:=by
 obtain⟨oc,od,kV,doc,pm,an,cdv,ct,osl,rfl,lk,hcd⟩:=F.ex
 exact .all (h kV doc pm an cdv ct)
theorem fun_mk {x qual:Str}{st:Stmt}{f:Addr}{oc:Value}{od an:Option Addr}{osl:Array (Option Value)}{kV doc pm cdv ct:Value}(l:K.lookup f=some ⟨oc,od,.func (PySem.W.fnOf x qual (defArgs st) (defBody st) (defScope st) .none kV doc pm an cdv ct),osl⟩)
  (c:PySem.W.codeIn K cdv qual=true) (k:PySem.W.keepIn K (.ref f)=true):Fun K x qual st f (PySem.W.fnOf x qual (defArgs st) (defBody st) (defScope st) .none kV doc pm an cdv ct):=⟨⟨oc,od,kV,doc,pm,an,cdv,ct,osl,rfl,l,c⟩,k⟩
end
theorem small1000 {n:Nat}(h:n≤1000):n<sizeLine:=Nat.lt_of_le_of_lt h (by decide)
section
variable {X:Cx}
theorem pv (i:Nat){x:Str}{pos:Pos}(hN:X.N[i]?=some x:=by rfl)(hv:Vis X.env.scope x:=by first|exact Or.inl rfl|exact Or.inr (Or.inl rfl)|exact Or.inr (Or.inr rfl))(hd:(x==("__debug__" :Str))=false:=by decide)
  (hcd:(x==("__classdict__" :Str))=false:=by decide):PE X (.Name x pos) (tVar i):=pe_var hN hv hd hcd
end
theorem iteF {A B:Prop}(h:B):if false=true then A else B:=by
 rw[if_neg Bool.false_ne_true]
 exact h
theorem iteT {A B:Prop}(h:A):if true=true then A else B:=by
 rw[if_pos rfl]
 exact h
def Same (H H':Hp):Prop:=∀b o,H b=some o→H' b=some o
theorem Same.refl (H:Hp):Same H H:=fun _ _ h=>h
theorem Same.trans {H H1 H2:Hp}(a:Same H H1)(b:Same H1 H2):Same H H2:=fun c o h=>b c o (a c o h)
theorem Same.seq {K:PySem.W.Frag}{H H':Hp}{a:Addr}{xs:List V}(e:Same H H')(h:SqL K H a xs):SqL K H' a xs:=by
 rcases h with (h|⟨o,h⟩)|h
 ·exact .inl (.inl (e _ _ h))
 ·exact .inl (.inr ⟨o,e _ _ h⟩)
 ·exact .inr h
section
variable {κ:Type} [DecidableEq κ]
end
section
variable {X:Cx}
def CDivB (_ j:Int):Prop:=0<j∧j<2^200
theorem noPy {i j:Int}(h:CDivB i j):Builtin.divisionGoesByPylong i j=false:=by
 refine PyProof.noPylong_of_log2 ?_
 obtain⟨h1,h2⟩:=h
 have h0:j.natAbs≠0:=by omega
 have h3:j.natAbs<2^200:=by omega
 have:=(Nat.log2_lt h0).mpr h3
 omega
theorem op_fdivB:OpR X (binaryOp .FloorDiv) (rI CDivB fun i j=> .int (i/j)):=opI fun i j _ _ _ _ _ hc q=>by
 have h1:(0:Int)<j:=hc.1
 exact floordiv_int (by omega) (by rw[Int.fdiv_eq_ediv_of_nonneg i (by omega)];exact q) (.inl (noPy hc))
inductive ClsV:V→Value→Prop where
 |ty (n:String):ClsV (.ty n) (.type n)
 |ref (C:Addr):ClsV (.ref C) (.ref C)
theorem call_isinst:CallR X (.builtin "isinstance") (fun xs H Q=>∃x y c t b,xs=[x,y]∧ClsV y c∧TyOf X.K H x t∧PySem.W.kitOne X.K t c=some b∧Q (.bl b) H):=by
 intro pins s σ H xs us Q I r h
 obtain⟨x,y,c,t,b,rfl,hy,ty,e,q⟩:=h
 obtain⟨u,w',rfl,rx,ry⟩:=vals2 r
 cases hy with
 |ty n=>
  cases(show w'=Value.type n from ry)
  exact isinst_ok I rx ty e fun tk=>⟨.bl b,H,I.tok _,rfl,q⟩
 |ref C=>
  cases(show w'=Value.ref C from ry)
  exact isinst_ok I rx ty e fun tk=>⟨.bl b,H,I.tok _,rfl,q⟩
end
theorem compLoop_go {prog:Program}{w:World}{A:Around}{R:Result→Shared→Prop}{s:Shared}{elt target iter:Expr}{ifs:List Expr}{scope:Scope}{pos:Pos}{it acc:Value}{env:Env}(I:Nat→Shared→Prop)(E:Value→Shared→Prop)
  (hE:∀e s',E e s'→notedBy (model prog w) A env (fun e s'=>R (.error e) s') e s')
  (turn:∀n s,I n s→wpAny (model prog w) A (pyNext it) (fun r s₁=>match r with
   |none=>R (.ok .next) s₁
   |some v=>wpAny (model prog w) A (letOwnedTupleGo target it v) (fun _ s₁'=>wpAny (model prog w) A (assign target env v) (fun _ s₂=>
     wpAny (model prog w) A (forIn ifs true fun c r=>if r=true then do let ok←isTrue c env (eval c env);pure (ForInStep.yield ok) else pure (ForInStep.yield r)) (fun ok s₃=>
      if ok=true then wpAny (model prog w) A (eval elt env) (fun x s₄=>
       wpAny (model prog w) A (call (.builtin "list.append") [acc,x]) (fun _ s₅=>∃m,m<n∧I m s₅) E s₄) E s₃
      else∃m,m<n∧I m s₃) E s₂) E s₁') E s₁) E s)
  (n:Nat) (h:I n s):codeAny (model prog w) A (.compLoop (.ListComp elt [⟨target,iter,ifs,0⟩] scope pos) 0 it acc env) R s:=by
 refine codeAny_loop rfl I (fun n s hI=>?_) n h
 show wpAny _ A ((compTurn (.ListComp elt [⟨target,iter,ifs,0⟩] scope pos) 0 it acc env).onRaise (fun x=>do noteFrame x env;theTreesLotGoes x)) _ _ s
 refine wpAny_noted ?_
 rw[compTurn_list]
 refine wpAny_bind (wpAny_standAt (wpAny_bind (wpAny_mono (turn n s hI) (fun r s₁ h₁=>?_) hE)))
 cases r with
 |none=>exact wpAny_pure h₁
 |some v=>
  refine wpAny_bind (wpAny_mono h₁ (fun _ s₁' h₁'=>?_) hE)
  refine wpAny_bind (wpAny_mono h₁' (fun _ s₂ h₂=>wpAny_bind (wpAny_mono h₂ (fun ok s₃ h₃=>?_) hE)) hE)
  cases ok with
  |false=>exact wpAny_pure ⟨rfl,h₃⟩
  |true=>
   exact wpAny_bind (wpAny_bind (wpAny_mono h₃ (fun x s₄ h₄=>wpAny_bind (wpAny_mono h₄ (fun _ s₅ h₅=>wpAny_pure (wpAny_pure ⟨rfl,h₅⟩)) hE)) hE))
theorem closure_key {env:Env}:∀(names:List (Str×NameKind)) (acc:List (Str×Addr)),(∀y∈names,y.2=.free→∃c,env.cells.lookup y.1=some c)→(∀x c,acc.lookup x=some c→env.cells.lookup x=some c)→
  ∃cl,(forIn names acc (fun(x:Str×NameKind) (r:List (Str×Addr))=>(if (x.2==NameKind.free)=true then (do let a←cellOf env x.1;pure (ForInStep.yield ((x.1,a)::r))) else pure (ForInStep.yield r):Sem (ForInStep (List (Str×Addr))))))=(pure cl:Sem (List (Str×Addr)))∧
   (∀x c,cl.lookup x=some c→env.cells.lookup x=some c)∧(∀x c,acc.lookup x=some c→∃c',cl.lookup x=some c')∧∀y∈names,y.2=.free→∃c,cl.lookup y.1=some c
 |[],acc,_,ha=>⟨acc,rfl,ha,fun x c e=>⟨c,e⟩,fun _ h=>nomatch h⟩
 |(n,k)::r,acc,hf,ha=>by
  have hf':∀y∈r,y.2=.free→∃c,env.cells.lookup y.1=some c:=fun y hy=>hf y (List.mem_cons_of_mem _ hy)
  by_cases hk:k=.free
  ·subst hk
   obtain⟨c,hc⟩:=hf (n,.free) List.mem_cons_self rfl
   have hc':env.cells.lookup n=some c:=hc
   have ha':∀x d,((n,c)::acc).lookup x=some d→env.cells.lookup x=some d:=fun x d e=>by
    rw[List.lookup_cons] at e
    cases hx:x==n with
    |true=>rw[hx] at e;cases e;rw[beq_iff_eq.mp hx];exact hc'
    |false=>rw[hx] at e;exact ha x d e
   obtain⟨cl,e,h1,h2,h3⟩:=closure_key r ((n,c)::acc) hf' ha'
   have hself:((n,c)::acc).lookup n=some c:=by rw[List.lookup_cons,beq_self_eq_true]
   refine⟨cl,?_,h1,fun x d ex=>?_,fun y hy hyf=>?_⟩
   ·rw[List.forIn_cons]
    have ec:cellOf env n=pure c:=by unfold cellOf;rw[hc']
    show((if (NameKind.free==NameKind.free)=true then (do let a←cellOf env n;pure (ForInStep.yield ((n,a)::acc))) else pure (ForInStep.yield acc):Sem _)>>=_)=_
    rw[if_pos (by decide),ec]
    exact e
   ·cases hx:x==n with
    |true=>rw[beq_iff_eq.mp hx];exact h2 n c hself
    |false=>exact h2 x d (by rw[List.lookup_cons,hx];exact ex)
   ·rcases List.mem_cons.mp hy with rfl|hy
    ·exact h2 n c hself
    ·exact h3 y hy hyf
  ·obtain⟨cl,e,h1,h2,h3⟩:=closure_key r acc hf' ha
   refine⟨cl,?_,h1,h2,fun y hy hyf=>?_⟩
   ·rw[List.forIn_cons]
    show((if (k==NameKind.free)=true then (do let a←cellOf env n;pure (ForInStep.yield ((n,a)::acc))) else pure (ForInStep.yield acc):Sem _)>>=_)=_
    rw[if_neg (by simpa using hk)]
    exact e
   ·rcases List.mem_cons.mp hy with rfl|hy
    ·exact absurd hyf hk
    ·exact h3 y hy hyf
theorem closure_ok {scope:Scope}{env:Env}(h:∀y∈scope.names,y.2=.free→∃c,env.cells.lookup y.1=some c):
  ∃cl,closureFor scope env=pure cl∧(∀x c,cl.lookup x=some c→env.cells.lookup x=some c)∧∀y∈scope.names,y.2=.free→∃c,cl.lookup y.1=some c:=by
 obtain⟨cl,e,h1,_,h3⟩:=closure_key (env:=env) scope.names [] h (fun x c e=>nomatch e)
 refine⟨cl,?_,h1,h3⟩
 have e0:closureFor scope env=((forIn scope.names [] (fun(x:Str×NameKind) (r:List (Str×Addr))=>(if (x.2==NameKind.free)=true then (do let a←cellOf env x.1;pure (ForInStep.yield ((x.1,a)::r))) else pure (ForInStep.yield r):Sem (ForInStep (List (Str×Addr))))))>>=fun r=>pure r):=rfl
 rw[e0,e]
 rfl
theorem relabel_free {env:Env}(hf:env.scope.kind=.function):∀{names:List (Str×NameKind)} {x:Str},names.lookup x=some .free→env.kindOf x=some .cell→
  (names.map fun(n,k)=>if (k==NameKind.free&&env.scope.kind==.function&&env.kindOf n==some .cell) then (n,NameKind.cell) else (n,k)).lookup x=some .cell
 |[],_,h,_=>by simp at h
 |(n,k)::r,x,h,hc=>by
  have ih:= @relabel_free env hf r x
  show List.lookup x ((if (k==NameKind.free&&env.scope.kind==.function&&env.kindOf n==some .cell)=true then (n,NameKind.cell) else (n,k))::_)=_
  cases hx:x==n with
  |true=>
   simp only[List.lookup_cons,hx] at h
   cases h
   have e:x=n:=beq_iff_eq.mp hx
   subst e
   rw[if_pos (by rw[hf,hc];decide)]
   simp only[List.lookup_cons,hx]
  |false=>
   simp only[List.lookup_cons,hx] at h
   by_cases hq:(k==NameKind.free&&env.scope.kind==.function&&env.kindOf n==some .cell)=true
   ·rw[if_pos hq];simp only[List.lookup_cons,hx];exact ih h hc
   ·rw[if_neg hq];simp only[List.lookup_cons,hx];exact ih h hc
theorem relabel_back {env:Env}:∀{names:List (Str×NameKind)} {x:Str} {k:NameKind},
  (names.map fun(n,k)=>if (k==NameKind.free&&env.scope.kind==.function&&env.kindOf n==some .cell) then (n,NameKind.cell) else (n,k)).lookup x=some k→∃k0,names.lookup x=some k0∧(k=k0∨k0=.free)
 |[],_,_,h=>by simp at h
 |(n,k1)::r,x,k,h=>by
  have h:List.lookup x ((if (k1==NameKind.free&&env.scope.kind==.function&&env.kindOf n==some .cell)=true then (n,NameKind.cell) else (n,k1))::(r.map fun(n,k)=>if (k==NameKind.free&&env.scope.kind==.function&&env.kindOf n==some .cell) then (n,NameKind.cell) else (n,k)))=some k:=h
  cases hx:x==n with
  |true=>
   by_cases hq:(k1==NameKind.free&&env.scope.kind==.function&&env.kindOf n==some .cell)=true
   ·have:k1=.free:=by
     rw[Bool.and_eq_true,Bool.and_eq_true] at hq
     simpa using hq.1.1
    exact⟨k1,by simp only[List.lookup_cons,hx],.inr this⟩
   ·rw[if_neg hq] at h
    simp only[List.lookup_cons,hx] at h
    exact⟨k1,by simp only[List.lookup_cons,hx],.inl (Option.some.inj h).symm⟩
  |false=>
   have h':(r.map fun(n,k)=>if (k==NameKind.free&&env.scope.kind==.function&&env.kindOf n==some .cell) then (n,NameKind.cell) else (n,k)).lookup x=some k:=by
    by_cases hq:(k1==NameKind.free&&env.scope.kind==.function&&env.kindOf n==some .cell)=true
    ·rw[if_pos hq] at h;simp only[List.lookup_cons,hx] at h;exact h
    ·rw[if_neg hq] at h;simp only[List.lookup_cons,hx] at h;exact h
   obtain⟨k0,e,z⟩:=relabel_back h'
   exact⟨k0,by simp only[List.lookup_cons,hx];exact e,z⟩
noncomputable def cxComp (X:Cx) (N:List Str) (scope:Scope) (cl:List (Str×Addr)) (C:Addr) (s:Shared) (H:Hp) (fp:List Addr):Cx:=
 {X with N:=N,s₀:=s,H₀:=H,env:=compEnvC scope cl C X.env,outer:=X.stack,ex:=fp,fn:=fun _=>false,pn:=[],xe:=fun _ _=>False}
structure CompOk (X:Cx) (scope:Scope) (ls ys:List Str) (ix:List Nat):Prop where
 kind:scope.kind=.function
 nocellB:(scope.names.all fun y=>y.2 !=.cell)=true
 locB:(scope.names.all fun y=>y.2 !=.local||scope.names.lookup y.1==some .local)=true
 freeB:(scope.names.all fun y=>y.2 !=.free||X.env.kindOf y.1==some .cell)=true
 ylkB:(ys.all fun y=>scope.names.lookup y==some .free)=true
 yix:ix.map (fun j=>X.N[j]?)=ys.map some
section
variable {X:Cx} {scope:Scope} {ls ys:List Str} {ix:List Nat}
theorem CompOk.nocell (ok:CompOk X scope ls ys ix):∀y∈scope.names,y.2≠.cell:=fun y hy=>by
 simpa using List.all_eq_true.mp ok.nocellB y hy
theorem CompOk.loc (ok:CompOk X scope ls ys ix):∀y∈scope.names,y.2=.local→scope.names.lookup y.1=some .local:=fun y hy e=>by
 have h:=List.all_eq_true.mp ok.locB y hy
 rw[e] at h
 simpa using h
theorem CompOk.free (ok:CompOk X scope ls ys ix):∀y∈scope.names,y.2=.free→X.env.kindOf y.1=some .cell:=fun y hy e=>by
 have h:=List.all_eq_true.mp ok.freeB y hy
 rw[e] at h
 simpa using h
theorem CompOk.ylk (ok:CompOk X scope ls ys ix):∀y∈ys,scope.names.lookup y=some .free:=fun y hy=>by
 simpa using List.all_eq_true.mp ok.ylkB y hy
end
noncomputable def inSt (n:Nat) (ix:List Nat) (σ:St):St:=List.replicate n none++ix.map fun j=>(σ[j]?).join
section
variable {X:Cx} {pins:List (Addr×Obj)} {σ:St} {H:Hp} {s:Shared} {scope:Scope} {ls ys:List Str} {ix:List Nat} {cl:List (Str×Addr)} {fp:List Addr}
theorem comp_in {h₁:Heap}{tk:Nat}{m:Str→Option Value}(I:Inv X pins σ H s)(ok:CompOk X scope ls ys ix)(hcl1:∀x c,cl.lookup x=some c→X.env.cells.lookup x=some c)
  (hcl2:∀y∈scope.names,y.2=.free→∃c,cl.lookup y.1=some c) (f3:∀b∈fp,FpOk X pins H b) (hob:∀b∈fp,b<s.heap.objs.size)
  (hns:h₁.Ns s.heap.objs.size m) (hk:∀b o,s.heap.get? b=some o→h₁.get? b=some o):
  Inv (cxComp X (ls++ys) scope cl s.heap.objs.size s H fp) [] (inSt ls.length ix σ) H {s with heap:=h₁,toks:=tk}:=by
 have hfree:∀x,scope.names.lookup x=some .free→X.env.kindOf x=some .cell:=fun x e=>ok.free (x,.free) (PySem.mem_of_lookup e) rfl
 refine⟨⟨I.ok.mod,ok.kind,I.ok.glob,I.ok.blt,Nat.le_refl _,fun x y c h1 h2=>I.ok.inj x y c (hcl1 x c h1) (hcl1 y c h2),fun x hx=>?_,fun x c hx _=>absurd hx Bool.false_ne_true,I.ok.hd,I.ok.frames,.inl rfl,
  fun b hb=>⟨Nat.ne_of_lt (hob b hb),fun x c e=>(f3 b hb).2.2.2.2.1 x c (hcl1 x c e)⟩,I.bs,Nat.le_trans I.ok.bsz I.sz,fun b o e hb=>?_,fun b hb z=>?_,I.stack,I.stkFree⟩,
  rfl,I.bare,Un.kept hk,⟨m,hns,fun i x v h1 h2 h3=>?_⟩,fun x c e=>?_,I.fresh,fun x c e=>I.freeC x c (hcl1 x c e),fun p hp=>absurd (show p∈([]:List (Addr×Obj)) from hp) (by simp),I.hok.kept hk,?_⟩
 ·have e:∃k,(relabel scope X.env).names.lookup x=some k∧(k=.cell∨k=.free):=by
   rcases hx with hx|hx
   ·exact⟨_,hx,.inl rfl⟩
   ·exact⟨_,hx,.inr rfl⟩
  obtain⟨k,e,hkk⟩:=e
  obtain⟨k0,e0,z⟩:=relabel_back e
  have hm:=PySem.mem_of_lookup e0
  have hk0:k0=.free:=by
   rcases z with z|z
   ·rcases hkk with q|q
    ·exact absurd (z.symm.trans q) (ok.nocell _ hm)
    ·exact z.symm.trans q
   ·exact z
  exact hcl2 _ hm hk0
 ·obtain⟨q1,q2,q3,q4,_⟩:=f3 b hb
  rcases q4 with q4|q4
  ·exact I.ok.noex b o e q4
  ·exact absurd (Nat.lt_of_lt_of_le (Heap.lt_size e) (Nat.le_trans I.ok.bsz q4)) (Nat.lt_irrefl _)
 ·rcases List.mem_cons.mp (I.stkSub b z) with q|q
  ·exact(f3 b hb).2.1 q
  ·exact(f3 b hb).2.2.1 q
 ·have h1:(ls++ys)[i]?=some x:=h1
  have h2:(List.replicate ls.length none++ix.map fun j=>(σ[j]?).join)[i]?=some (some v):=h2
  by_cases hi:i<ls.length
  ·rw[List.getElem?_append_left (by rw[List.length_replicate];exact hi),List.getElem?_replicate,if_pos hi] at h2
   cases h2
  ·rw[List.getElem?_append_right (by rw[List.length_replicate];omega),List.length_replicate,List.getElem?_map] at h2
   rw[List.getElem?_append_right (by omega)] at h1
   cases e:ix[i - ls.length]? with
   |none=>rw[e] at h2;cases h2
   |some j=>
    rw[e] at h2
    have h2:(σ[j]?).join=some v:=Option.some.inj h2
    have hσ:σ[j]?=some (some v):=by
     cases q:σ[j]? with
     |none=>rw[q] at h2;cases h2
     |some z=>rw[q] at h2;exact congrArg some h2
    have hN:X.N[j]?=some x:=by
     have q:=congrArg (fun l=>l[i - ls.length]?) ok.yix
     simp only[List.getElem?_map,e,h1,Option.map_some] at q
     exact Option.some.inj q
    have hl:=ok.ylk x (List.mem_of_getElem? h1)
    have hc:=hfree x hl
    obtain⟨m',hn',hl'⟩:=I.loc
    obtain⟨u,r,lk⟩:=hl' j x v hN hσ (.inr (.inl hc))
    refine⟨u,r,?_⟩
    rcases lk with ⟨lk,_⟩|⟨_,c,ec,z⟩
    ·rw[hc] at lk;cases lk
    ·obtain⟨c',ec'⟩:=hcl2 _ (PySem.mem_of_lookup hl) rfl
     have ec2:X.env.cells.lookup x=some c':=hcl1 x c' ec'
     rw[ec] at ec2
     cases ec2
     exact .inr ⟨.inl (relabel_free I.ok.kind hl hc),c,ec',z.keeps hk⟩
 ·obtain⟨v,z⟩:=I.cell x c (hcl1 x c e)
  exact⟨v,z.keeps hk⟩
 ·show(List.replicate ls.length none++ix.map fun j=>(σ[j]?).join).length=(ls++ys).length
  have q:=congrArg List.length ok.yix
  rw[List.length_map,List.length_map] at q
  rw[List.length_append,List.length_append,List.length_replicate,List.length_map,q]
end
def PF (X:Cx) (ifs:List Expr) (t:TT):Prop:=
 ∀(pins:List (Addr×Obj)) (s:Shared) (σ:St) (H:Hp) (Q:Bool→Hp→Prop),Inv X pins σ H s→t σ H Q→
  wpAny (model X.prog X.w) X.A (forIn ifs true fun c r=>if r=true then do let ok←isTrue c X.env (eval c X.env);pure (ForInStep.yield ok) else pure (ForInStep.yield r)) (TP X pins σ Q) X.xe s
def tYes:TT:=fun _ H Q=>Q true H
theorem pf_nil {X:Cx}:PF X [] tYes:=fun _ _ _ H _ I h=>wpAny_tests_nil ⟨H,I,h⟩
def lcW (σ0:St) (g:TG) (tt:TT) (te:TE) (J:It) (H1:Hp) (D:Addr) (Q:Hp→Prop):Prop:=
 ∃W:Nat→Nat→St→Hp→Prop,(∃m,W 0 m σ0 (upd H1 D (.lst [])))∧∀i m τ H,W i m τ H→
  (J.stop i H∧Q H)∨(J.go i H∧∃N:St→Hp→Prop,(∀τ' H',N τ' H'→∃m',m'<m∧W (i+1) m' τ' H')∧∀x H',J.yld i H x H'→g x τ H' fun τ2 H2=>tt τ2 H2 fun b H3=>
   if b=true then te τ2 H3 fun v H4=>∃acc,H4 D=some (.lst acc)∧acc.length<sizeLine∧N τ2 (upd H4 D (.lst (acc++[v]))) else N τ2 H3)
def tLc (wi:TI) (n:Nat) (ix:List Nat) (g:TG) (tt:TT) (te:TE):TE:=fun σ H Q=>wi σ H fun J H1=>∀D,H1 D=none→lcW (inSt n ix σ) g tt te J H1 D fun H'=>Q (.ref D) H'
def tLcSet (wi:TI) (n:Nat) (ix:List Nat) (g:TG) (tt:TT) (te:TE) (i:Nat):TS:=fun D σ H=>tLc wi n ix g tt te σ H fun x H1=>D.nx (σ.set i (some x)) H1
section
variable {X:Cx} {scope:Scope} {ls ys:List Str} {ix:List Nat} {tg iter elt:Expr} {ifs:List Expr} {pos:Pos} {wi:TI} {g:TG} {tt:TT} {te:TE}
theorem comp_run {pins:List (Addr×Obj)}{σ:St}{H1:Hp}{s:Shared}{J:It}{it:Addr}{fp:List Addr}{tn:Nat→Heap→Prop}{cl:List (Str×Addr)}{Q:Addr→Hp→Prop}{R:Value→Addr→Result→Shared→Prop}{E:Value→Shared→Prop}(hc:X.calm=true)
  (ok:CompOk X scope ls ys ix) (I:Inv X pins σ H1 s) (T:Turn X.prog X.w X.K tg J fp it tn) (st:tn 0 s.heap) (f2:∀b∈fp,FpOk X pins H1 b)
  (hcl1:∀x c,cl.lookup x=some c→X.env.cells.lookup x=some c) (hcl2:∀y∈scope.names,y.2=.free→∃c,cl.lookup y.1=some c)
  (hg:∀cl C s H fp,PG (cxComp X (ls++ys) scope cl C s H fp) tg g) (ht:∀cl C s H fp,PF (cxComp X (ls++ys) scope cl C s H fp) ifs tt) (he:∀cl C s H fp,PE (cxComp X (ls++ys) scope cl C s H fp) elt te)
  (hJ:∀D,H1 D=none→lcW (inSt ls.length ix σ) g tt te J H1 D (Q D))
  (hR:∀D C H' s',Q D H'→Inv X pins σ H' s'→H' C=none→FpOk X pins H' C→(∃m,s'.heap.Ns C m)→R (.ref D) C (.ok .next) s'):
  wpAny (model X.prog X.w) X.A (newList []) (fun acc s₃=>wpAny (model X.prog X.w) X.A (newFunctionEnv scope X.env.globals cl [] X.env.qual none .none (some X.env)) (fun cenv s₄=>
   codeAny (model X.prog X.w) X.A (.compStart (.ListComp elt [⟨tg,iter,ifs,0⟩] scope pos) 0 (.ref it) acc {cenv with scope:=relabel scope X.env}) (R acc cenv.locals) s₄) E s₃) E s:=by
 have hfp:∀b∈fp,b<s.heap.objs.size:=fun b hb=>by
  obtain⟨o,e,_⟩:=T.obj _ _ st b hb
  exact Heap.lt_size e
 have I3:=I.lnew (ys:=[]) (its:=[]) (t':=s.toks) .nil (Nat.zero_le _)
 have hD:H1 s.heap.objs.size=none:=I.fresh
 obtain⟨W,⟨m0,w0⟩,turn⟩:=hJ s.heap.objs.size hD
 refine wpAny_newObj_type (wpAny_newFunctionEnv ok.nocell (by intro y hy;simp at hy) (fun h₁ hns hsb=>?_) ok.kind)
 generalize hs3:({s with heap:=s.heap.push {cls:=.type "list",data:=.seq ([]:List Value).toArray},toks:=s.toks}:Shared)=s3 at I3
 have e3:s.heap.push {cls:=.type "list",dict:=none,data:=.seq ([]:List Value).toArray}=s3.heap:=by rw[←hs3]
 have e3':({s with heap:=s.heap.push {cls:=.type "list",dict:=none,data:=.seq ([]:List Value).toArray}}:Shared)=s3:=by rw[←hs3]
 generalize hH3:upd H1 s.heap.objs.size (.lst [])=H3 at I3 w0
 have hsz:s3.heap.objs.size=s.heap.objs.size+1:=by rw[←e3,Heap.size_push]
 have up3:∀b o,s.heap.get? b=some o→s3.heap.get? b=some o:=fun b o e=>by rw[←e3];exact Heap.get?_push_of_some _ e
 have f3:∀b∈fp,FpOk X pins H3 b:=fun b hb=>by
  refine⟨?_,(f2 b hb).2⟩
  rw[←hH3,upd_ne (Nat.ne_of_lt (hfp b hb))]
  exact(f2 b hb).1
 have hns:h₁.Ns s3.heap.objs.size (fun x=>([]:List (Str×Value)).reverse.lookup x):=by rw[←e3];exact hns
 have hsb:Heap.SameBut s3.heap.objs.size (s3.heap.push {cls:=.type (if (some X.env).isSome then "dict" else "frame"),data:=.dict #[]}) h₁:=by rw[←e3];exact hsb
 have up4:∀b o,s3.heap.get? b=some o→h₁.get? b=some o:=fun b o e=>hsb.extBut b o (Nat.ne_of_lt (Heap.lt_size e)) (Heap.get?_push_of_some _ e)
 have Ic:=comp_in (tk:=s3.toks) I3 ok hcl1 hcl2 f3 (fun b hb=>by rw[hsz];exact Nat.lt_succ_of_lt (hfp b hb)) hns up4
 have stat:∀{H':Hp} {pl:List (Addr×Obj)},(∀b∈fp,H' b=none)→pl=[]→∀b∈fp,FpOk (cxComp X (ls++ys) scope cl s3.heap.objs.size s3 H3 fp) pl H' b:=fun{H' pl} hn hpl b hb=>by
  subst hpl
  refine⟨hn b hb,Nat.ne_of_lt (by rw[show(cxComp X (ls++ys) scope cl s3.heap.objs.size s3 H3 fp).env.locals=s3.heap.objs.size from rfl,hsz];exact Nat.lt_succ_of_lt (hfp b hb)),Ic.ok.exfs b hb,.inl hb,fun x c e=>(f3 b hb).2.2.2.2.1 x c (hcl1 x c e),fun p hp=>absurd (show p∈([]:List (Addr×Obj)) from hp) (by simp)⟩
 have loop:codeAny (model X.prog X.w) X.A (.compLoop (.ListComp elt [⟨tg,iter,ifs,0⟩] scope pos) 0 (.ref it) (.ref s.heap.objs.size) (compEnvC scope cl s3.heap.objs.size X.env)) (R (.ref s.heap.objs.size) s3.heap.objs.size) {s3 with heap:=h₁,toks:=s3.toks}:=by
  refine compLoop_go (fun n s'=>∃i τ H',Inv (cxComp X (ls++ys) scope cl s3.heap.objs.size s3 H3 fp) [] τ H' s'∧tn i s'.heap∧(∀b∈fp,H' b=none)∧W i n τ H') (fun _ _=>False) (fun _ _ h=>h.elim) ?_ m0
   ⟨0,inSt ls.length ix σ,H3,Ic,T.keep _ _ _ st (fun b _ o e=>up4 b o (up3 b o e)),fun b hb=>(f3 b hb).1,w0⟩
  rintro n s4 ⟨i,τ,H4,I4,st4,fr4,w4⟩
  rcases turn i n τ H4 w4 with ⟨stop,qn⟩|⟨go,N,hN,step⟩
  ·refine thn (T.done (cxComp X (ls++ys) scope cl s3.heap.objs.size s3 H3 fp) rfl rfl rfl hc i [] s4 τ H4 (fun _ _=>False) I4 (stat fr4 rfl) st4 stop) fun r s5 ⟨hr,I5⟩=>?_
   subst hr
   have Io:Inv X pins σ H4 s5:=I3.call' (ch:=fp) I5.os I5.base I5.hok I5.bare fun b hb=>⟨(f3 b hb).2.2.2.1,(f3 b hb).2.1,(f3 b hb).2.2.2.2.1,(f3 b hb).2.2.2.2.2⟩
   obtain⟨m5,n5,_⟩:=I5.loc
   have hC:H4 s3.heap.objs.size=none:=I5.free
   exact hR _ _ H4 s5 qn Io hC (I3.fpOk (Nat.le_refl _) hC) ⟨m5,n5⟩
  ·refine thn (T.item (cxComp X (ls++ys) scope cl s3.heap.objs.size s3 H3 fp) rfl rfl rfl hc i [] s4 τ H4 (fun _ _=>False) I4 (stat fr4 rfl) st4 go) fun r s5 ⟨u,hr,h5⟩=>?_
   subst hr
   refine thn h5 fun _ s6 ⟨x,H6,I6,r6,y6,st6,fr6⟩=>?_
   have I6':=I6.pinned (stat fr6 rfl) (T.obj _ _ st6)
   have fin:∀{τ7:St} {H7:Hp} {s7:Shared},Inv (cxComp X (ls++ys) scope cl s3.heap.objs.size s3 H3 fp) ([]++pinsAt fp s6.heap) τ7 H7 s7→N τ7 H7→∃m,m<n∧∃i τ H',Inv (cxComp X (ls++ys) scope cl s3.heap.objs.size s3 H3 fp) [] τ H' s7∧tn i s7.heap∧(∀b∈fp,H' b=none)∧W i m τ H':=fun{τ7 H7 s7} I7 n7=>by
    obtain⟨m',hm,w7⟩:=hN τ7 H7 n7
    refine⟨m',hm,i+1,τ7,H7,I7.unpinned,T.keep _ _ _ st6 fun b hb o e=>(I7.pin (b,o) (List.mem_append_right _ (List.mem_append_right _ (mem_pinsAt hb e)))).1,fun b hb=>?_,w7⟩
    obtain⟨o,e,d⟩:=T.obj _ _ st6 b hb
    exact(I7.pin (b,o) (List.mem_append_right _ (List.mem_append_right _ (mem_pinsAt hb e)))).2.1
   refine thn (hg _ _ _ _ _ _ s6 τ H6 x u _ I6' r6 (step x H6 y6)) fun _ s7 ⟨τ7,H7,I7,q7⟩=>?_
   refine thn (ht _ _ _ _ _ _ s7 τ7 H7 _ I7 q7) fun b s8 ⟨H8,I8,q8⟩=>?_
   cases b with
   |false=>
    rw[if_neg Bool.false_ne_true] at q8⊢
    exact fin I8 q8
   |true=>
    rw[if_pos rfl] at q8⊢
    refine thn (he _ _ _ _ _ _ s8 τ7 H8 _ I8 q8) fun y s9 ⟨v,H9,I9,r9,acc,hacc,hlen,n9⟩=>?_
    exact thn (mt_append _ s9 τ7 H9 (.ref s.heap.objs.size) [v] (.ref s.heap.objs.size) [y] (fun _ H'=>N τ7 H') I9 rfl (.cons r9 .nil) ⟨_,acc,v,rfl,rfl,hacc,hlen,n9⟩) fun _ s10 ⟨_,H10,I10,_,n10⟩=>fin I10 n10
 exact codeAny_compStart_list loop (T.self _ 0 _ _ _ (T.keep _ _ _ st (fun b _ o e=>up4 b o (up3 b o e))) loop)
theorem pe_lc (hc:X.calm=true)(ok:CompOk X scope ls ys ix)(hi:PI X tg iter wi)
  (hg:∀cl C s H fp,PG (cxComp X (ls++ys) scope cl C s H fp) tg g) (ht:∀cl C s H fp,PF (cxComp X (ls++ys) scope cl C s H fp) ifs tt) (he:∀cl C s H fp,PE (cxComp X (ls++ys) scope cl C s H fp) elt te)
  (hs:∀x,foldedSetIterable iter X.env x=pure x:=by intro _;rfl):PE X (.ListComp elt [⟨tg,iter,ifs,0⟩] scope pos) (tLc wi ls.length ix g tt te):=by
 intro pins s σ H Q I h
 obtain⟨cl,hclos,hcl1,hcl2⟩:=closure_ok (scope:=scope) (env:=X.env) fun y hy hf=>I.ok.has y.1 (.inl (ok.free y hy hf))
 rw[eval_ListComp]
 refine wpAny_comprehension_free (use:=none) rfl hs hclos ok.kind ok.loc (thn (hi pins s σ H _ I h) fun v s1 h1=>thn h1 fun itv s2 h2=>?_)
 obtain⟨it,fp,tn,J,H2,rfl,I2,T,st2,f2,hJ⟩:=h2
 refine comp_run (R:=fun acc C=>compPost (model X.prog X.w) X.A X.xe none (EP X pins σ Q) acc C) hc ok I2 T st2 f2 hcl1 hcl2 hg ht he hJ fun D C H' s' q I' hC fC hm=>?_
 obtain⟨m,hn⟩:=hm
 refine⟨m,hn,fun h' hsb=>⟨.ref D,H',?_,rfl,q⟩⟩
 exact I'.turned (t':=s'.toks) (fun b o hb e=>(hsb.2 b hb).trans e) hC fC.2.1 fC.2.2.2.1 fC.2.2.2.2.1 fC.2.2.2.2.2
theorem ps_lcset {i:Nat}{x:Str}{spos px:Pos}(hc:X.calm=true)(hN:X.N.Nodup)(hxi:X.N[i]?=some x)(hx:Loc X.env.scope x)(ok:CompOk X scope ls ys ix)(hi:PI X tg iter wi)
  (hg:∀cl C s H fp,PG (cxComp X (ls++ys) scope cl C s H fp) tg g) (ht:∀cl C s H fp,PF (cxComp X (ls++ys) scope cl C s H fp) ifs tt) (he:∀cl C s H fp,PE (cxComp X (ls++ys) scope cl C s H fp) elt te)
  (hs:∀x,foldedSetIterable iter X.env x=pure x:=by intro _;rfl) (hsw:swapsWith (.ListComp elt [⟨tg,iter,ifs,0⟩] scope pos) (some (.Name x px)) spos.line X.env=pure true:=by rfl)
  (hf:X.fn x=true∨X.env.scope.names.lookup x=some .local:=by first|exact .inl rfl|exact .inr rfl|assumption):
  PS X (.Assign [.Name x px] (.ListComp elt [⟨tg,iter,ifs,0⟩] scope pos) spos) (tLcSet wi ls.length ix g tt te i):=by
 intro pins s σ H D I h
 obtain⟨cl,hclos,hcl1,hcl2⟩:=closure_ok (scope:=scope) (env:=X.env) fun y hy hf=>I.ok.has y.1 (.inl (ok.free y hy hf))
 rw[exec_Assign_Name_used _ _ _ _ hsw]
 refine wpAny_bind (wpAny_standAt (wpAny_bind ?_))
 show wpAny _ X.A (do let _←comprehension (.ListComp elt [⟨tg,iter,ifs,0⟩] scope pos) scope X.env _ (newList []) false (eval iter X.env) (some (assign (.Name x px) X.env))) _ _ s
 refine wpAny_bind (wpAny_mono (wpAny_comprehension_free (use:=some (assign (.Name x px) X.env)) (Q:=fun _ s'=>∃σ' H',Inv X pins σ' H' s'∧D.nx σ' H') rfl hs hclos ok.kind ok.loc
  (thn (hi pins s σ H _ I h) fun v s1 h1=>thn h1 fun itv s2 h2=>?_)) (fun _ s' hq=>wpAny_pure (wpAny_pure hq)) fun _ _ e=>e)
 obtain⟨it,fp,tn,J,H2,rfl,I2,T,st2,f2,hJ⟩:=h2
 refine comp_run (R:=fun acc C=>compPost (model X.prog X.w) X.A X.xe (some (assign (.Name x px) X.env)) (fun _ s'=>∃σ' H',Inv X pins σ' H' s'∧D.nx σ' H') acc C) hc ok I2 T st2 f2 hcl1 hcl2 hg ht he hJ fun Da C H' s' q I' hC fC hm=>?_
 obtain⟨m,hn⟩:=hm
 show wpAny _ X.A (assign (.Name x px) X.env (.ref Da)) _ _ s'
 refine wpAny_assign_Name (store_ok2 (v:=.ref Da) I' hN hxi hx rfl (fun s2 I3 hz=>?_) hf)
 obtain⟨a,sb,ha⟩:=hz
 have hCa:C≠a:=by
  rcases ha with ha|ha
  ·rw[ha];exact fC.2.1
  ·exact Ne.symm (fC.2.2.2.2.1 x a ha)
 refine⟨m,hn.sameBut sb hCa,fun h' hsb=>⟨_,H',?_,q⟩⟩
 exact I3.turned (t':=s2.toks) (fun b o hb e=>(hsb.2 b hb).trans e) hC fC.2.1 fC.2.2.2.1 fC.2.2.2.2.1 fC.2.2.2.2.2
end
def Ev (t:TE) (σ:St) (H:Hp) (v:V):Prop:=∀Q:VK,Q v H→t σ H Q
def EvT (t:TT) (σ:St) (H:Hp) (b:Bool):Prop:=∀Q:Bool→Hp→Prop,Q b H→t σ H Q
def EvA (t:TA) (σ:St) (H:Hp) (vs:List V):Prop:=∀Q:List V→Hp→Prop,Q vs H→t σ H Q
section
variable {σ:St} {H:Hp} {ta tb tc te:TE} {t u:TT} {i j k:Int} {a b c:Bool} {v x y:V} {K:PySem.W.Frag}
theorem ev_c:Ev (tC v) σ H v:=fun _ q=>q
theorem ev_var {n:Nat}(h:σ[n]?=some (some v)):Ev (tVar n) σ H v:=fun _ q=>⟨v,h,q⟩
theorem ev_I0 {g:Int→Int→V}(ha:Ev ta σ H (.int i))(hb:Ev tb σ H (.int j)):Ev (tOp (rI0 g) ta tb) σ H (g i j):=fun _ q=>ha _ (hb _ ⟨i,j,rfl,rfl,q⟩)
theorem ev_gt (ha:Ev ta σ H (.int i))(hb:Ev tb σ H (.int j)):Ev (tOp (rI0 fun i j=> .bl (decide (j<i))) ta tb) σ H (.bl (decide (j<i))):=ev_I0 (g:=fun i j=> .bl (decide (j<i))) ha hb
theorem ev_ge (ha:Ev ta σ H (.int i))(hb:Ev tb σ H (.int j)):Ev (tOp (rI0 fun i j=> .bl (decide (j≤i))) ta tb) σ H (.bl (decide (j≤i))):=ev_I0 (g:=fun i j=> .bl (decide (j≤i))) ha hb
theorem ev_I {C:Int→Int→Prop}{g:Int→Int→V}(ha:Ev ta σ H (.int i))(hb:Ev tb σ H (.int j))(hc:C i j):Ev (tOp (rI C g) ta tb) σ H (g i j):=fun _ q=>ha _ (hb _ ⟨i,j,rfl,rfl,hc,q⟩)
theorem ev_eqI (ha:Ev ta σ H (.int i))(hb:Ev tb σ H (.int j)):Ev (tOp rEq ta tb) σ H (.bl (decide (i=j))):=fun Q q=>ha _ (hb _ ⟨rfl,by
 have e:decide (V.int i=V.int j)=decide (i=j):=by rw[dec_int];rfl
 rw[e];exact q⟩)
theorem ev_neI (ha:Ev ta σ H (.int i))(hb:Ev tb σ H (.int j)):Ev (tOp rNe ta tb) σ H (.bl (!decide (i=j))):=fun Q q=>ha _ (hb _ ⟨rfl,by
 have e:decide (V.int i=V.int j)=decide (i=j):=by rw[dec_int];rfl
 rw[e];exact q⟩)
theorem ev_chain {p q:Int→Int→Bool}(ha:Ev ta σ H (.int i))(hb:Ev tb σ H (.int j))(hc:Ev tc σ H (.int k)):Ev (tChain (rI0 fun i j=> .bl (p i j)) (rI0 fun i j=> .bl (q i j)) ta tb tc) σ H (.bl (p i j&&q j k)):=fun Q z=>by
 refine ha _ (hb _ ⟨i,j,rfl,rfl,p i j,rfl,?_⟩)
 cases e:p i j with
 |true=>rw[if_pos rfl];rw[e,Bool.true_and] at z;exact hc _ ⟨j,k,rfl,rfl,z⟩
 |false=>rw[if_neg Bool.false_ne_true];rw[e,Bool.false_and] at z;exact z
theorem ev_or (ha:Ev ta σ H (.bl a))(hb:a=false→Ev tb σ H (.bl b)):Ev (tOrV ta tb) σ H (.bl (a||b)):=fun Q z=>by
 refine ha _ ⟨a,rfl,?_⟩
 cases a with
 |true=>rw[if_pos rfl];exact z
 |false=>rw[if_neg Bool.false_ne_true];exact hb rfl _ z
theorem ev_ixT {p:Addr}{xs:List V}(ha:Ev ta σ H (.ref p))(hb:Ev tb σ H (.int i))(hs:SqT K H p xs)(he:atI xs i=some v):Ev (tOp (rIxT K) ta tb) σ H v:=fun _ q=>ha _ (hb _ ⟨p,xs,i,v,rfl,rfl,hs,he,q⟩)
theorem ev_ixL {p:Addr}{xs:List V}(ha:Ev ta σ H (.ref p))(hb:Ev tb σ H (.int i))(hs:SqL K H p xs)(he:atI xs i=some v):Ev (tOp (rIxL K) ta tb) σ H v:=fun _ q=>ha _ (hb _ ⟨p,xs,i,v,rfl,rfl,hs,he,q⟩)
theorem ev_isN (ha:Ev ta σ H x)(hb:Ev tb σ H .non):Ev (tOp (fun x y H Q=>y=.non∧Q (.bl (decide (x=.non))) H) ta tb) σ H (.bl (decide (x=.non))):=fun _ z=>ha _ (hb _ ⟨rfl,z⟩)
theorem ev_cb {r:List V→Hp→VK→Prop}{vs:List V}{t:TA}(ha:EvA t σ H vs)(hs:∀Q:VK,Q v H→r vs H Q):Ev (tCB r t) σ H v:=fun Q q=>ha _ (hs Q q)
theorem ea_nil:EvA tNil σ H []:=fun _ q=>q
theorem ea_cons {t:TA}{vs:List V}(ha:Ev ta σ H v)(hr:EvA t σ H vs):EvA (tCons ta t) σ H (v::vs):=fun _ q=>ha _ (hr _ q)
theorem et_test (h:Ev te σ H (.bl b)):EvT (tTest te) σ H b:=fun _ q=>h _ ⟨b,rfl,q⟩
theorem et_B (h:Ev te σ H (.bl b)):EvT (tB te) σ H b:=fun _ q=>h _ ⟨b,rfl,q⟩
theorem et_not (h:EvT t σ H b):EvT (tNot t) σ H (!b):=fun _ q=>h _ q
theorem et_and (ha:EvT t σ H a)(hb:a=true→EvT u σ H b):EvT (tAnd t u) σ H (a&&b):=fun Q z=>by
 refine ha _ ?_
 cases a with
 |true=>rw[if_pos rfl];exact hb rfl _ z
 |false=>rw[if_neg Bool.false_ne_true];exact z
theorem et_or (ha:EvT t σ H a)(hb:a=false→EvT u σ H b):EvT (tOr t u) σ H (a||b):=fun Q z=>by
 refine ha _ ?_
 cases a with
 |true=>rw[if_pos rfl];exact z
 |false=>rw[if_neg Bool.false_ne_true];exact hb rfl _ z
theorem rd_if {tc:TT}{t u:TS}{D:Ends}(h:EvT tc σ H b)(h1:b=true→t D σ H)(h2:b=false→u D σ H):tIfS tc t u D σ H:=by
 refine h _ ?_
 cases b with
 |true=>rw[if_pos rfl];exact h1 rfl
 |false=>rw[if_neg Bool.false_ne_true];exact h2 rfl
theorem rd_ifF {tc:TT}{t u:TS}{D:Ends}(h:EvT tc σ H b)(hb:b=false)(h2:u D σ H):tIfS tc t u D σ H:=rd_if h (fun e=>absurd (hb.symm.trans e) Bool.false_ne_true) fun _=>h2
theorem rd_ret {D:Ends}(h:Ev te σ H v)(q:D.rt v H):tRet te D σ H:=h _ q
end
theorem cmR {i j:Int}(h1: -(2^64)<j)(h2:j<2^64):CMul i j:=.inr ⟨h1,h2⟩
theorem cmL {i j:Int}(h1: -(2^64)<i)(h2:i<2^64):CMul i j:=.inl ⟨h1,h2⟩
theorem cdB {i j:Int}(h1:0<j)(h2:j<2^200):CDivB i j:=⟨h1,h2⟩
theorem cpw {i j:Int}(h1:0≤j)(h2:j≤1000000)(h3:i.natAbs<2^64):CPow i j:=⟨h1,h2,h3⟩
theorem bt_len:bootBuiltins "len" =some (.builtin "len"):=by decide+kernel
theorem bt_isinstance:bootBuiltins "isinstance" =some (.builtin "isinstance"):=by decide+kernel
theorem bt_int:bootBuiltins "int" =some (.type "int"):=by decide+kernel
theorem bt_bool:bootBuiltins "bool" =some (.type "bool"):=by decide+kernel
theorem bt_str:bootBuiltins "str" =some (.type "str"):=by decide+kernel
theorem bt_tuple:bootBuiltins "tuple" =some (.type "tuple"):=by decide+kernel
theorem bt_any:bootBuiltins "any" =some (.builtin "any"):=by decide+kernel
theorem bt_all:bootBuiltins "all" =some (.builtin "all"):=by decide+kernel
theorem bt_sorted:bootBuiltins "sorted" =some (.builtin "sorted"):=by decide+kernel
theorem st {t:TS}{D:Ends}{σ:St}{H:Hp}{r:VK}{b c:St→Hp→Prop}(h:t D σ H):({nx:=t D,rt:=r,bk:=b,ct:=c}:Ends).nx σ H:=h
section
variable {σ:St} {H:Hp} {te:TE} {tc:TT} {t u:TS} {ta:TA} {D:Ends} {b:Bool} {v:V} {vs:List V} {n:Nat} {K:PySem.W.Frag}
theorem sq_set (h:Ev te σ H v)(q:u D (σ.set n (some v)) H):tSeq (tAsg te (gName n)) u D σ H:=h _ q
theorem sq_ifF (h:EvT tc σ H b)(hb:b=false)(q:u D σ H):tSeq (tIfS tc t tNext) u D σ H:=rd_ifF (D:={D with nx:=u D}) h hb q
theorem sq_if (h:EvT tc σ H b)(h1:b=true→t {D with nx:=u D} σ H)(h2:b=false→u D σ H):tSeq (tIfS tc t tNext) u D σ H:=rd_if (D:={D with nx:=u D}) h h1 h2
theorem sq_lst (h:EvA ta σ H vs)(hz:vs.length≤sizeLine)(q:∀p,H p=none→u D (σ.set n (some (.ref p))) (upd H p (.lst vs))):tSeq (tAsg (tLst ta) (gName n)) u D σ H:=h _ ⟨hz,q⟩
theorem sq_ifof (q:tc σ H fun b H1=>if b=true then t {D with nx:=u D} σ H1 else u D σ H1):tSeq (tIfS tc t tNext) u D σ H:=q
theorem gn {Q:St→Hp→Prop}(q:Q (σ.set n (some v)) H):gName n v σ H Q:=q
end
structure Callee (P:Program) (w:World) (K:PySem.W.Frag) (mg:Str→Option Value) (base:Heap) (x:Str) (k:Nat) (ps:List Str) (sp:Sp):Prop where
 ex:∃f fd,FnOk P w K mg base CX0 k f fd ps sp∧mg x=some (.ref f)∧PySem.W.keepIn K (.ref f)=true∧Binds K fd ps []
theorem pe_cal {X:Cx}{x:Str}{k:Nat}{ps:List Str}{sp:Sp}{p pos:Pos}{e:Expr}{es:List Expr}{t:TA}(C:Callee X.prog X.w X.K X.mg X.base x k ps sp)(hr:Room k X.A)(hg:Gl X x)(ha:PA X (e::es) t)
  (hdb:(x==("__debug__" :Str))=false:=by decide) (he:starEach (e::es) X.env=(false,eval e X.env)::starEach es X.env:=by rfl) (hpl:(backTo pos (starEach es X.env)).any (·.1)=false:=by rfl):
  PE X (.Call (.Name x p) (e::es) [] pos) (tCall sp [] E0 t):=by
 obtain⟨f,fd,G,hm,hk,hb⟩:=C.ex
 exact pe_call G hr hg hm hk hb .nil pass0 ha hdb he hpl
theorem SqT.same {K:PySem.W.Frag}{H H':Hp}{a:Addr}{xs:List V}(e:Same H H')(h:SqT K H a xs):SqT K H' a xs:=by
 rcases h with (h|⟨o,h⟩)|h
 ·exact .inl (.inl (e _ _ h))
 ·exact .inl (.inr ⟨o,e _ _ h⟩)
 ·exact .inr h
theorem Same.upd {H H':Hp}(e:Same H H'){p:Addr}{o:HO}(hp:H' p=none):Same H (upd H' p o):=fun b u h=>by
 rw[upd_ne (ne_of_none (e b u h) hp)]
 exact e b u h
section
variable {X:Cx} {tg:Expr}
end
theorem lc_range {lo:Int}{n:Nat}{σ0:St}{g:TG}{tt:TT}{te:TE}{H1:Hp}{D:Addr}{Q:Hp→Prop}(Pv:Nat→St→Hp→Prop)(h0:Pv 0 σ0 (upd H1 D (.lst [])))
  (hs:∀i τ H,i<n→Pv i τ H→g (.int (lo+i)) τ H fun τ2 H2=>tt τ2 H2 fun b H3=>
   if b=true then te τ2 H3 fun v H4=>∃acc,H4 D=some (.lst acc)∧acc.length<sizeLine∧Pv (i+1) τ2 (upd H4 D (.lst (acc++[v]))) else Pv (i+1) τ2 H3)
  (hd:∀τ H,Pv n τ H→Q H):lcW σ0 g tt te (Itr lo n) H1 D Q:=by
 refine⟨fun i m τ H=>m=n - i∧i≤n∧Pv i τ H,⟨n,by simp,Nat.zero_le _,h0⟩,?_⟩
 rintro i m τ H ⟨rfl,hi,p⟩
 by_cases hlt:i<n
 ·refine .inr ⟨hlt,Pv (i+1),fun τ' H' p'=>⟨n - (i+1),by omega,rfl,hlt,p'⟩,fun x H' y=>?_⟩
  obtain⟨e,y⟩:=y
  subst e y
  exact hs i τ _ hlt p
 ·have e:i=n:=by omega
  subst e
  exact .inl ⟨Nat.le_refl _,hd τ H p⟩
theorem lc_listG {K:PySem.W.Frag}{a:Addr}{xs:List V}{σ0:St}{g:TG}{tt:TT}{te:TE}{H1:Hp}{D:Addr}{Q:Hp→Prop}(Pv:Nat→St→Hp→Prop)(h0:Pv 0 σ0 (upd H1 D (.lst [])))
  (hl:∀i τ H,i≤xs.length→Pv i τ H→SqL K H a xs)
  (hs:∀i x τ H,xs[i]?=some x→Pv i τ H→g x τ H fun τ2 H2=>tt τ2 H2 fun b H3=>
   if b=true then te τ2 H3 fun v H4=>∃acc,H4 D=some (.lst acc)∧acc.length<sizeLine∧Pv (i+1) τ2 (upd H4 D (.lst (acc++[v]))) else Pv (i+1) τ2 H3)
  (hd:∀τ H,Pv xs.length τ H→Q H):lcW σ0 g tt te (Itl K a) H1 D Q:=by
 refine⟨fun i m τ H=>m=xs.length - i∧i≤xs.length∧Pv i τ H,⟨xs.length,by simp,Nat.zero_le _,h0⟩,?_⟩
 rintro i m τ H ⟨rfl,hi,p⟩
 have q:=hl i τ H hi p
 by_cases hlt:i<xs.length
 ·refine .inr ⟨⟨xs,xs[i],q,by simp[hlt]⟩,Pv (i+1),fun τ' H' p'=>⟨xs.length - (i+1),by omega,rfl,hlt,p'⟩,fun x H' y=>?_⟩
  obtain⟨e,y⟩:=y
  subst e
  exact hs i x τ _ (y xs q) p
 ·have e:i=xs.length:=by omega
  subst e
  exact .inl ⟨⟨xs,q,Nat.le_refl _⟩,hd τ H p⟩
theorem ObjOk.there {P:Program}{w:World}{H:Hp}{h:Heap}{a:Addr}{o:HO}(x:ObjOk P w H h a o):∃ob,h.get? a=some ob:=by
 cases o with
 |lst xs=>obtain⟨_,_,_,_,e⟩:=x;exact⟨_,e⟩
 |tup xs=>obtain⟨_,_,_,ob,e,_⟩:=x;exact⟨_,e⟩
 |dK kvs=>obtain⟨_,_,_,_,o,_,_,e,_⟩:=x;exact⟨_,e⟩
 |dT kvs=>obtain⟨_,_,_,_,o,_,_,e,_⟩:=x;exact⟨_,e⟩
 |set S n=>obtain⟨o,_,_,_,e,_⟩:=x;exact⟨_,e⟩
 |ins C dx fs=>obtain⟨_,_,_,e,_⟩:=x;exact⟨_,e⟩
 |own y=>exact x
 |xd fs=>obtain⟨_,⟨_,_,_,e,_⟩,_⟩:=x;exact⟨_,e⟩
 |rng lo hi=>obtain⟨_,_,_,e⟩:=x;exact⟨_,e⟩
 |frz ob u=>obtain⟨e,_⟩:=x;exact⟨_,e⟩
 |tbl ps=>exact⟨_,(show h.get? a=some _ from x)⟩
 |met f y=>exact⟨_,(show h.get? a=some _ from x)⟩
 |ext φ=>exact x.2.1
theorem HOk.none_of {P:Program}{w:World}{H:Hp}{h:Heap}{a:Addr}(x:HOk P w H h)(e:h.get? a=none):H a=none:=by
 cases q:H a with
 |none=>rfl
 |some u=>
  obtain⟨o,z⟩:=(x a u q).there
  rw[e] at z;cases z
theorem HOk.keepT {P:Program}{w:World}{H:Hp}{h h':Heap}(x:HOk P w H h)(k:∀b u,(H b).isSome=true→h.get? b=some u→h'.get? b=some u):HOk P w H h':=fun a o e=>
 (x a o e).stay (fun b u hb q=>k b u (by
  rcases hb with z|z
  ·rw[z,e];rfl
  ·rw[z];rfl) q) (fun _ q=>q) fun _ _ q=>q
theorem un_pass {fs0 fs1 hid:List Addr}{H0 H:Hp}{h0 h h':Heap}(u:Un fs0 [] H0 H h0 h)(B:Heap)(hB:B=PySem.W.hideAll h (hid++fs1))(st:B.StaysIn h')(sl:h.UpToSlots h')
  (hh:∀b∈hid,h0.get? b=none) (hf:∀b∈fs1,h0.get? b=none∨b∈fs0) (hd:∀b o,b∈fs0→h.get? b=some o→∀vs,o.data≠.fields vs) (hHf:∀b∈fs1,H b=none) (hHh:∀b∈hid,H b=none)
  (hd1:∀b o,b∈fs1→h.get? b=some o→∀vs,o.data≠.fields vs):
  Un fs0 [] H0 H h0 h':=by
 have keepH:∀b o,h.get? b=some o→b∉hid→b∉fs1→h'.get? b=some o:=fun b o e n1 n2=>st b o (by
  rw[hB]
  exact PySem.W.hideAll_get _ e fun z=>(List.mem_append.mp z).elim n1 n2)
 have nh:∀b o,h0.get? b=some o→b∉hid:=fun b o e z=>by rw[hh b z] at e;cases e
 have nf:∀b o,h0.get? b=some o→b∉fs0→b∉fs1:=fun b o e n z=>by
  rcases hf b z with q|q
  ·rw[q] at e;cases e
  ·exact n q
 refine⟨fun b o e n hb hx=>keepH b o (u.keep b o e n hb hx) (nh b o e) (nf b o e hb),fun b o e n hb hx=>?_,u.free,fun b o e hx=>?_,u.tups,u.frzs,u.tbls⟩
 ·obtain⟨s1,e1⟩:=u.slot b o e n hb hx
  obtain⟨s2,e2⟩:=sl b _ e1 (hd b _ hb e1)
  exact⟨s2,e2⟩
 ·obtain⟨o',e1⟩:=u.there b o e hx
  by_cases hb:b∈fs1
  ·obtain⟨s2,e2⟩:=sl b _ e1 (hd1 b o' hb e1)
   exact⟨_,e2⟩
  ·exact⟨o',keepH b o' e1 (nh b o e) hb⟩
section
variable {P:Program} {w:World} {K:PySem.W.Frag} {mg:Str→Option Value} {base:Heap} {N:List Str} {qual:Str} {scope:Scope} {f:Addr} {cd:Value} {A:Around} {outer:List Env} {s₀:Shared} {H₀:Hp} {E:XK}
end
section
variable {X:Cx}
end
section
variable {P:Program} {w:World} {K:PySem.W.Frag} {mg:Str→Option Value} {base:Heap} {N:List Str} {qual:Str} {scope:Scope} {f:Addr} {cd:Value} {A:Around} {outer:List Env} {s₀:Shared} {H₀:Hp} {E:XK}
end
section
variable {P:Program} {w:World} {K:PySem.W.Frag} {mg:Str→Option Value} {base:Heap}
end
noncomputable def tryB (X:Cx) (xe:Value→Shared→Prop) (pn:List (Addr×Obj)):Cx:={X with xe:=xe,pn:=pn}
noncomputable def cxH (X:Cx) (a:Addr):Cx:={X with A:=X.A.mark (some (.ref a)),calm:=false,xe:=fun _ _=>False}
section
variable {X:Cx} {pins:List (Addr×Obj)} {σ:St} {H:Hp} {s:Shared}
theorem ok_tryB {xe:Value→Shared→Prop}{pn:List (Addr×Obj)}(ok:X.Ok):(tryB X xe pn).Ok:=
 ⟨ok.mod,ok.kind,ok.glob,ok.blt,ok.above,ok.inj,ok.has,ok.cab,ok.hd,ok.frames,ok.stk,ok.exf,ok.bs,ok.bsz,ok.noex,ok.exfs,ok.funs,ok.frf⟩
theorem ok_ofB {xe:Value→Shared→Prop}{pn:List (Addr×Obj)}(ok:(tryB X xe pn).Ok):X.Ok:=
 ⟨ok.mod,ok.kind,ok.glob,ok.blt,ok.above,ok.inj,ok.has,ok.cab,ok.hd,ok.frames,ok.stk,ok.exf,ok.bs,ok.bsz,ok.noex,ok.exfs,ok.funs,ok.frf⟩
theorem ok_cxH {a:Addr}(ok:X.Ok):(cxH X a).Ok:=
 ⟨ok.mod,ok.kind,ok.glob,ok.blt,ok.above,ok.inj,ok.has,ok.cab,fun z=>absurd z Bool.false_ne_true,ok.frames,ok.stk,ok.exf,ok.bs,ok.bsz,ok.noex,ok.exfs,ok.funs,ok.frf⟩
theorem ok_ofH {a:Addr}(ok:(cxH X a).Ok)(hd:X.calm=true→X.A.handled=none):X.Ok:=
 ⟨ok.mod,ok.kind,ok.glob,ok.blt,ok.above,ok.inj,ok.has,ok.cab,hd,ok.frames,ok.stk,ok.exf,ok.bs,ok.bsz,ok.noex,ok.exfs,ok.funs,ok.frf⟩
theorem inv_tryB {xe:Value→Shared→Prop}(I:Inv X pins σ H s):Inv (tryB X xe (X.pn++pins)) [] σ H s:=
 ⟨ok_tryB I.ok,I.os,I.bare,I.base,I.loc,I.cell,I.free,I.freeC,fun p hp=>I.pin p (by simpa[L2.tryB] using hp),I.hok,I.len⟩
theorem inv_ofB {xe:Value→Shared→Prop}{pins':List (Addr×Obj)}(I:Inv (L2.tryB X xe (X.pn++pins)) pins' σ H s):Inv X pins σ H s:=
 ⟨ok_ofB I.ok,I.os,I.bare,I.base,I.loc,I.cell,I.free,I.freeC,fun p hp=>I.pin p (List.mem_append_left _ hp),I.hok,I.len⟩
theorem inv_cxH {a:Addr}(I:Inv X pins σ H s):Inv (cxH X a) pins σ H s:=
 ⟨ok_cxH I.ok,I.os,I.bare,I.base,I.loc,I.cell,I.free,I.freeC,I.pin,I.hok,I.len⟩
theorem inv_ofH {a:Addr}(I:Inv (L2.cxH X a) pins σ H s)(hd:X.calm=true→X.A.handled=none):Inv X pins σ H s:=
 ⟨ok_ofH I.ok hd,I.os,I.bare,I.base,I.loc,I.cell,I.free,I.freeC,I.pin,I.hok,I.len⟩
theorem Inv.track {a:Addr}{o:HO}(I:Inv X pins σ H s)(ha:H a=none)(na:X.s₀.heap.get? a=none)(hL:X.env.locals≠a)(hC:∀x c,X.env.cells.lookup x=some c→c≠a)(hp:∀p∈X.pn++pins,p.1≠a)
  (new:ObjOk X.prog X.w (upd H a o) s.heap a o):Inv X pins σ (upd H a o) s:=by
 have ne:∀b u,H b=some u→b≠a:=fun b u e z=>by rw[z,ha] at e;cases e
 have up:∀b u,H b=some u→upd H a o b=some u:=fun b u e=>by rw[upd_ne (ne b u e)];exact e
 refine⟨I.ok,I.os,I.bare,⟨I.base.keep,I.base.slot,fun b ob e n hx=>?_,I.base.there,fun b xs e=>up _ _ (I.base.tups b xs e),fun b ob u e=>up _ _ (I.base.frzs b ob u e),fun b ps e=>?_⟩,I.loc,I.cell,?_,fun x c e=>?_,fun p hpp=>?_,fun b u e=>?_,I.len⟩
 ·have z:b≠a:=fun z=>by rw[z,na] at e;cases e
  rw[upd_ne z];exact I.base.free b ob e n hx
 ·obtain⟨m,e'⟩:=I.base.tbls b ps e
  exact⟨m,up _ _ e'⟩
 ·rw[upd_ne hL];exact I.free
 ·rw[upd_ne (hC x c e)];exact I.freeC x c e
 ·obtain⟨p1,p2,p3,p4,p5⟩:=I.pin p hpp
  exact⟨p1,by rw[upd_ne (hp p hpp)];exact p2,p3,p4,p5⟩
 ·by_cases hb:b=a
  ·subst hb;rw[upd_same] at e;cases e;exact new
  ·rw[upd_ne hb] at e
   exact(I.hok b u e).stay (fun _ _ _ q=>q) (fun c q=>up _ _ q) fun c xs q=>up _ _ q
theorem Inv.land {a T:Addr}{B h5:Heap}(I:Inv X pins σ H s)(hex:X.ex=[])(hst:X.stack=X.env::X.outer)(hfr:X.env.frame=some X.env.locals)(ha:H a=none)(hT:H T=none)(na:X.s₀.heap.get? a=none)(nT:X.s₀.heap.get? T=none)
  (np:∀p∈X.pn++pins,p.1≠a∧p.1≠T) (hBB:PySem.W.hideAll s.heap ([a,T]++frs X.stack)=B) (st:B.StaysIn h5) (sl:s.heap.UpToSlots h5):Inv X pins σ H {s with heap:=h5}:=by
 have efs:frs X.stack=X.env.locals::X.fs:=by
  rw[hst]
  show List.filterMap (·.frame) (X.env::X.outer)=_
  rw[List.filterMap_cons,hfr]
  rfl
 have keepH:∀b o,s.heap.get? b=some o→b≠a→b≠T→b∉frs X.stack→h5.get? b=some o:=fun b o e n1 n2 n3=>st b o (by
  rw[←hBB]
  refine PySem.W.hideAll_get _ e fun z=>?_
  rcases List.mem_append.mp z with z|z
  ·rcases List.mem_cons.mp z with z|z
   ·exact n1 z
   ·exact n2 (List.mem_singleton.mp z)
  ·exact n3 z)
 have hd1:∀b o,b∈frs X.stack→s.heap.get? b=some o→∀vs,o.data≠.fields vs:=fun b o hb e vs d=>by
  obtain⟨_,o',e',n⟩:=I.stack.mem hb
  rw[e] at e';cases e'
  exact n vs d
 have n0:X.s₀.heap.get? X.env.locals=none:=Heap.get?_none_of_le I.ok.above
 have uB:=I.base
 rw[hex] at uB
 have un:=un_pass (fs1:=frs X.stack) (hid:=[a,T]) uB B hBB.symm st sl (fun b hb=>by
   rcases List.mem_cons.mp hb with rfl|hb
   ·exact na
   ·rw[List.mem_singleton.mp hb];exact nT) (fun b hb=>by
   rw[efs] at hb
   rcases List.mem_cons.mp hb with rfl|hb
   ·exact .inl n0
   ·exact .inr hb) (fun b o hb e=>hd1 b o (by rw[efs];exact List.mem_cons_of_mem _ hb) e) I.stkFree (fun b hb=>by
   rcases List.mem_cons.mp hb with rfl|hb
   ·exact ha
   ·rw[List.mem_singleton.mp hb];exact hT) hd1
 have cellK:∀c v,s.heap.IsCell c v→h5.IsCell c v:=fun c v ⟨o,e,d⟩=>by
  obtain⟨s2,e2⟩:=sl c o e fun vs z=>by rw[d] at z;cases z
  exact⟨_,e2,d⟩
 refine⟨I.ok,I.os,I.bare,by rw[hex];exact un,?_,fun x c e=>?_,I.free,I.freeC,fun p hp=>?_,?_,I.len⟩
 ·obtain⟨m,hn,hl⟩:=I.loc
  refine⟨m,sl.ns hn,fun i x v e1 e2 e3=>?_⟩
  obtain⟨u,r,lk⟩:=hl i x v e1 e2 e3
  refine⟨u,r,?_⟩
  rcases lk with lk|⟨k,c,e,z⟩
  ·exact .inl lk
  ·exact .inr ⟨k,c,e,cellK c _ z⟩
 ·obtain⟨v,z⟩:=I.cell x c e
  exact⟨v,cellK c v z⟩
 ·obtain⟨p1,p2,p3,p4,p5⟩:=I.pin p hp
  refine⟨keepH p.1 p.2 p1 (np p hp).1 (np p hp).2 ?_,p2,p3,p4,p5⟩
  rw[efs]
  exact fun z=>(List.mem_cons.mp z).elim p3 p4
 ·refine I.hok.keepT fun b u hb e=>keepH b u e (fun z=>?_) (fun z=>?_) fun z=>?_
  ·rw[z,ha] at hb;cases hb
  ·rw[z,hT] at hb;cases hb
  ·rw[I.stkFree b z] at hb;cases hb
end
section
variable {X:Cx}
theorem goes_ok {pins:List (Addr×Obj)}{σ:St}{H:Hp}{s:Shared}{i:Nat}{n:Str}{pos:Pos}{A:Around}{E:Value→Shared→Prop}{Q:Unit→Shared→Prop}(I:Inv X pins σ H s)(hN:X.N.Nodup)(hi:X.N[i]?=some n)(hl:X.env.kindOf n=some .local)
  (h:∀s',Inv X pins (σ.set i none) H s'→Q () s'):wpAny (model X.prog X.w) A (do bindName X.env n .none;unbindBehindTheSuite X.env n pos) Q E s:=by
 obtain⟨m,hn,hlo⟩:=id I.loc
 have hcls:(X.env.scope.kind==.class||(X.env.scope.kind==.module&&X.env.locals !=X.env.globals))=false:=by rw[I.ok.kind];rfl
 refine wpAny_nameGoes_keeps hl hn hcls fun h' v hn' hs=>h _ ?_
 have ab:∀b o,X.s₀.heap.get? b=some o→b≠X.env.locals:=fun b o e=>Nat.ne_of_lt (Nat.lt_of_lt_of_le (Heap.lt_size e) I.ok.above)
 obtain⟨oL,_,_,hoL,_⟩:=id hn
 refine⟨I.ok,I.os,I.bare,⟨fun b o e n hb hx=>?_,fun b o e n hb hx=>?_,I.base.free,fun b o e hx=>?_,I.base.tups,I.base.frzs,I.base.tbls⟩,⟨_,hn',fun j y v' e1 e2 e3=>?_⟩,fun y c e=>?_,I.free,I.freeC,fun p hp=>?_,?_,by simpa using I.len⟩
 ·exact(hs.2 b (ab b o e)).trans (I.base.keep b o e n hb hx)
 ·obtain⟨sl,e1⟩:=I.base.slot b o e n hb hx
  exact⟨sl,(hs.2 b (ab b o e)).trans e1⟩
 ·obtain⟨o',e1⟩:=I.base.there b o e hx
  exact⟨o',(hs.2 b (ab b o e)).trans e1⟩
 ·by_cases hj:j=i
  ·subst hj
   have hiσ:j<σ.length:=by rw[I.len];exact(List.getElem?_eq_some_iff.mp hi).1
   rw[List.getElem?_set_self hiσ] at e2
   cases e2
  ·rw[List.getElem?_set_ne (Ne.symm hj)] at e2
   obtain⟨u',r',q⟩:=hlo j y v' e1 e2 e3
   refine⟨u',r',?_⟩
   rcases q with ⟨k,e⟩|⟨k,c,e,z⟩
   ·refine .inl ⟨k,?_⟩
    have hyn:y≠n:=fun e=>hj (nodup_ix hN e1 (e▸hi))
    simp[hyn,e]
   ·exact .inr ⟨k,c,e,z.sameBut hs (I.cne y c e)⟩
 ·obtain⟨w',z⟩:=I.cell y c e
  exact⟨w',z.sameBut hs (I.cne y c e)⟩
 ·obtain⟨e,nn,ne,nf,d⟩:=I.pin p hp
  exact⟨(hs.2 p.1 ne).trans e,nn,ne,nf,d⟩
 ·refine I.hok.keepT fun b u hb e=>(hs.2 b fun z=>?_).trans e
  rw[z,I.free] at hb;cases hb
end
end L2
namespace L2
open PySem PySem.Spec PyProof.Rows
open PySem.W (Looks)
open Builtin Builtin.ObjectAttr Builtin.Getset_descriptor
structure ExcCls (K:PySem.W.Frag) (C:Addr):Prop where
 ga:PySem.W.findIn K (.ref C) "__getattribute__" =some (some (.builtin "BaseException.__getattribute__"))
 gt:PySem.W.findIn K (.ref C) "__getattr__" =some none
 cl:PySem.W.findIn K (.ref C) "__class__" =some (some (.builtin "object.__class__"))
 gg:PySem.W.specialIn K (.builtin "object.__class__") "__get__" =some (some (.builtin "getset_descriptor.__get__"))
 tk:PySem.W.takesIn K (.builtin "object.__class__")=some true
 ob:PySem.W.mroIn K C (.type "object")=some true
 be:PySem.W.mroIn K C (.type "BaseException")=some true
section
variable {prog:Program} {w:World} {A:Around} {E:Value→Shared→Prop} {K:PySem.W.Frag} {C a:Addr} {h:Heap} {g:Array GenState} {d:Drawn} {t:Nat} {os:OsState} {o:Obj}
theorem exc_ty {M:Model}(hx:h.get? a=some o)(hc:o.cls=.ref C):Looks M h (typeOf (.ref a)) (.ref C):=hc▸(Looks.ld hx).andThen .now
theorem exc_find {M:Model}(X:K.In h)(Z:ExcCls K C):Looks M h (find (.ref a) (.ref C) "__class__") (Found.bind (.builtin "getset_descriptor.__get__") (.builtin "object.__class__")):=by
 have L1:=PySem.W.looks_findIn (M:=M) X Z.cl
 have L2:=PySem.W.looks_specialIn (M:=M) X Z.gg
 have L3:=PySem.W.looks_takesIn (M:=M) X Z.tk
 have L4:Looks M h (dataDescriptor? (some (.builtin "object.__class__")) (some (.builtin "getset_descriptor.__get__"))) (some (.builtin "getset_descriptor.__get__",.builtin "object.__class__")):=L3.andThen (Looks.of_pure rfl)
 exact L1.andThen (L2.andThen (L4.andThen (Looks.tag .now)))
theorem exc_get {R:Result→Shared→Prop}(X:K.In h)(Z:ExcCls K C)(hx:h.get? a=some o)(hc:o.cls=.ref C)(hR:R (.ok (.ret (.ref C))) ⟨h,g,d,t,os⟩):
  codeAny (model prog w) A (.call (.builtin "getset_descriptor.__get__") ⟨[.builtin "object.__class__",.ref a,.ref C],[]⟩) R ⟨h,g,d,t,os⟩:=by
 have T0:=exc_ty (M:=model prog w) hx hc
 have T1:=PySem.W.looks_mroIn (M:=model prog w) X Z.ob
 refine codeAny_call_builtin PySem.W.KF.slot_gs.plain PySem.W.KF.entry_gs ?_
 refine PySem.W.KF.slot_gs.check _ _ _ _ _ _ _ _ PySem.W.KF.type_class (PySem.W.KF.args_gs _ _ _) ?_
 unfold Builtin.«getset_descriptor.__get__» descrGet
 rw[PySem.W.dga_obj]
 refine wpAny_bind (wpAny_pure ?_)
 unfold descrGetter descrCheckInstance descrNameAndClass isInstance
 simp only[PySem.W.KF.owner_class]
 repeat lk
 refine⟨Code.quiet_builtin _ (by decide+kernel),?_⟩
 refine codeAny_builtin PySem.W.KF.entry_class ?_
 unfold Builtin.«object.__class__» shownTypeOf
 repeat lk
 exact hR
theorem exc_check {M:Model}{nameV:Value}{Q:Unit→Shared→Prop}(X:K.In h)(Z:ExcCls K C)(hx:h.get? a=some o)(hc:o.cls=.ref C)(hq:Q () ⟨h,g,d,t,os⟩):
  wpAny M A (checkBuiltinCall "BaseException.__getattribute__" ⟨[.ref a,nameV],[]⟩) Q E ⟨h,g,d,t,os⟩:=by
 have c1:builtinKind "BaseException.__getattribute__" =some .slot:=by decide+kernel
 have c2:splitId "BaseException.__getattribute__" =some ("BaseException", "__getattribute__"):=by decide+kernel
 have T0:=exc_ty (M:=M) hx hc
 have T1:=PySem.W.looks_mroIn (M:=M) X Z.be
 have c3:=F.args_bexc_ga (.ref a) nameV
 simp only[checkBuiltinCall,c1,c2]
 refine wpAny_bind ?_
 unfold isInstance
 repeat lk
 repeat (any_goals (first|assumption|wp_step))
theorem exc_entry {tk:Tok}{Q:Fin→Shared→Prop}(X:K.In h)(Z:ExcCls K C)(hx:h.get? a=some o)(hc:o.cls=.ref C)(hq:Q (.done (.ret (.ref C))) ⟨h,g,d,t,os⟩):
  wpAny (model prog w) A (Builtin.«object.__getattribute__» ⟨[.ref a,.str "__class__" tk],[]⟩) Q E ⟨h,g,d,t,os⟩:=by
 have T0:=exc_ty (M:=model prog w) hx hc
 have T1:=exc_find (a:=a) (M:=model prog w) X Z
 unfold Builtin.«object.__getattribute__»
 refine wpAny_bind (m:=slotArgs "__getattribute__" 1 ⟨[.ref a,.str "__class__" tk],[]⟩) (wpAny_pure ?_)
 refine wpAny_bind (m:=attrName (.str "__class__" tk)) (wpAny_pure ?_)
 refine wpAny_bind (T0.at (wpAny_bind (T1.at ?_)))
 show wpAny _ _ (bindTo _ _ (.ref a) (.ref C)) _ _ _
 unfold bindTo
 refine wpAny_bind (wpAny_holding (wpAny_call (exc_get X Z hx hc ?_)))
 exact wpAny_pure hq
theorem exc_attr {Q:Option Value→Shared→Prop}{s:Shared}(X:K.In s.heap)(Z:ExcCls K C)(hx:s.heap.get? a=some o)(hc:o.cls=.ref C)(hq:Q (some (.ref C)) {s with toks:=s.toks+1}):
  wpAny (model prog w) A (getAttr? (.ref a) "__class__") Q E s:=by
 obtain⟨h,g,d,t,os⟩:=s
 have T0:=exc_ty (M:=model prog w) hx hc
 have T1:=PySem.W.looks_findIn (M:=model prog w) X Z.ga
 have T2:=PySem.W.looks_findIn (M:=model prog w) X Z.gt
 unfold getAttr? getAttrBy? getAttrBy
 refine wpAny_bind (wpAny_mkText (wpAny_bind (wpAny_attempt (wpAny_holding (wpAny_bind (T0.at (wpAny_bind (T1.at ?_))))))))
 show wpAny _ _ (getAttrByItsOwn _ _ _ _ _ _) _ _ _
 unfold getAttrByItsOwn
 refine wpAny_bind (T2.at ?_)
 refine wpAny_bind (wpAny_attempt (wpAny_holding ?_))
 show wpAny _ _ (boundAndCalled _ _ _) _ _ _
 unfold boundAndCalled
 refine wpAny_bind (m:=bindSpecial (.builtin "BaseException.__getattribute__") (.ref a)) (wpAny_of_eq (a:=(Value.builtin "BaseException.__getattribute__",[Value.ref a])) (by kernel_rfl) ?_)
 refine wpAny_call (codeAny_call_builtin F.attr_ValueError.ga.plain F.entry_bexc_ga (exc_check X Z hx hc (exc_entry X Z hx hc ?_)))
 exact PySem.W.handed_on rfl (wpAny_pure hq)
theorem exc_kit (Z:ExcCls K C):PySem.W.KitX K (.ref a) (.ref C) (fun h=>∃o vs,h.get? a=some o∧o.cls=.ref C∧o.data=.fields vs):=by
 have hcls:∃c' d' cd' sl',K.lookup C=some ⟨c',d',.cls cd',sl'⟩:=by
  obtain⟨cd,hcd,_⟩:=Option.bind_eq_some_iff.mp Z.ob
  unfold PySem.W.clsIn at hcd
  split at hcd
  ·rename_i c' d' cd' sl' ho
   exact⟨c',d',cd',sl',ho⟩
  ·cases hcd
 obtain⟨c',d',cd',sl',ho⟩:=hcls
 refine⟨fun M h _ ⟨o,_,hx,hc,_⟩=>exc_ty hx hc,fun M h X _=>?_,fun h tp dd its n sl X htp=>?_,fun X ⟨o,_,hx,hc,_⟩ k=>exc_attr X Z hx hc k⟩
 ·intro A' Q' E' s' k q
  unfold isType loadHead
  exact wpAny_bind (wpAny_loadPart (k _ _ (X _ _ ho)) (wpAny_pure q))
 ·refine Bool.eq_false_iff.mpr fun q=>?_
  have e:C=tp:=Value.ref.inj (beq_iff_eq.mp q)
  subst e
  have z:=(X _ _ ho).symm.trans htp
  cases z
end
section
variable {X:Cx}
end
section
variable {X:Cx}
theorem int_short {i:Int}(h:i.natAbs.log2<1920):(Str.ofString (toString i)).length≤1921:=by
 rw[PySem.ofString_length];exact int_text_length_le (k:=1920) (by decide) h
theorem lg {i:Int}(h1: -(2^200)<i)(h2:i<2^200):i.natAbs.log2<1920:=by
 by_cases h:i.natAbs=0
 ·rw[h];decide
 ·rw[Nat.log2_lt h]
  have h3:i.natAbs<2^200:=by omega
  exact Nat.lt_of_lt_of_le h3 (Nat.pow_le_pow_right (n:=2) (by decide) (by decide))
theorem pe_globC {x:Str}{C:Addr}{pos:Pos}(hg:Gl X x)(hm:X.mg x=some (.ref C))(hd:(x==("__debug__" :Str))=false:=by decide):PE X (.Name x pos) (tC (.ref C)):=pe_glob hg hm rfl hd
theorem ev_U {ta:TE}{σ:St}{H:Hp}{i:Int}{g:Int→V}(ha:Ev ta σ H (.int i)):Ev (tUn (rU g) ta) σ H (g i):=fun _ q=>ha _ ⟨i,rfl,q⟩
theorem sq_asg {te:TE}{u:TS}{D:Ends}{σ:St}{H:Hp}{n:Nat}(q:te σ H fun v H1=>u D (σ.set n (some v)) H1):tSeq (tAsg te (gName n)) u D σ H:=q
theorem bt_ValueError:bootBuiltins "ValueError" =some (.type "ValueError"):=by decide+kernel
end
structure MCallee (P:Program) (w:World) (K:PySem.W.Frag) (mg:Str→Option Value) (base:Heap) (C:Addr) (m:Str) (k:Nat) (ps:List Str) (sp:Sp):Prop where
 ex:∃f fd,FnOk P w K mg base CX0 k f fd ps sp∧Meth K C m f∧Binds K fd ps []
structure KCallee (P:Program) (w:World) (K:PySem.W.Frag) (mg:Str→Option Value) (base:Heap) (C:Addr) (x:Str) (k:Nat) (ps:List Str) (sp:Sp):Prop where
 ex:∃f fd,FnOk P w K mg base CX0 k f fd ps sp∧Mk K C f∧mg x=some (.ref C)∧Binds K fd ps []
section
variable {X:Cx} {C:Addr} {k:Nat} {ps:List Str} {sp:Sp} {x m:Str} {p pos apos:Pos} {e o:Expr} {es:List Expr} {ta:TE} {t:TA}
theorem pe_met {pl:Sem Bool}(he:PE X o ta)(c:Cls X.K C)(G:MCallee X.prog X.w X.K X.mg X.base C m k ps sp)(hr:Room k X.A)(ha:PA X (e::es) t)
  (hst:starEach (e::es) X.env=(false,eval e X.env)::starEach es X.env:=by rfl) (hpl:(backTo pos (starEach es X.env)).any (·.1)=false:=by rfl)
  (ht:eval (.Call (.Attribute o m apos) (e::es) [] pos) X.env=(do
   let ov←eval o X.env
   standAt apos.atName
   let (f,first)←holding [ov] (getMethod ov m pl)
   callWith pos f first (backTo pos (starEach (e::es) X.env)) (backToKw pos (keywordEach [] X.env))):=by rfl):
  PE X (.Call (.Attribute o m apos) (e::es) [] pos) (tMeth C m sp [] E0 ta t):=by
 obtain⟨f,fd,F,hm,hb⟩:=G.ex
 exact pe_meth (pl:=pl) he c hm F hr hb .nil pass0 ha hst hpl ht
theorem pe_mk (G:KCallee X.prog X.w X.K X.mg X.base C x k ps sp)(hr:Room (k+1) X.A)(hg:Gl X x)(ha:PA X (e::es) t)(hdb:(x==("__debug__" :Str))=false:=by decide)
  (he:starEach (e::es) X.env=(false,eval e X.env)::starEach es X.env:=by rfl) (hpl:(backTo pos (starEach es X.env)).any (·.1)=false:=by rfl):PE X (.Call (.Name x p) (e::es) [] pos) (tMake C sp [] E0 t):=by
 obtain⟨f,fd,F,M,hm,hb⟩:=G.ex
 exact pe_make M F hr hg hm hb .nil pass0 ha hdb he hpl
theorem pe_mk0 (G:KCallee X.prog X.w X.K X.mg X.base C x k ps sp)(hr:Room (k+1) X.A)(hg:Gl X x)(hdb:(x==("__debug__" :Str))=false:=by decide):PE X (.Call (.Name x p) [] [] pos) (tMake C sp [] E0 tNil):=by
 obtain⟨f,fd,F,M,hm,hb⟩:=G.ex
 exact pe_make0 M F hr hg hm hb .nil pass0 hdb
end
theorem lc_el {te:TE}{τ:St}{H:Hp}{R:VK}{N:Hp→Prop}(h:te τ H R):tYes τ H fun b H3=>if b=true then te τ H3 R else N H3:=by
 show if true=true then te τ H R else N H
 rw[if_pos rfl]
 exact h
theorem dec_nat {a b:Nat}:decide ((a:Int)=(b:Int))=decide (a=b):=by
 rcases Decidable.em (a=b) with z|z
 ·subst z;rw[decide_eq_true rfl,decide_eq_true rfl]
 ·rw[decide_eq_false z,decide_eq_false (by omega)]
section
variable {σ:St} {H:Hp} {tc:TT} {te:TE} {t u v:TS} {D:Ends} {a b:Bool}
theorem ev_cast (e:a=b)(h:Ev te σ H (.bl a)):Ev te σ H (.bl b):=e▸h
end
theorem bt_enumerate:bootBuiltins "enumerate" =some (.type "enumerate"):=by decide+kernel
section
variable {X:Cx} {Ex:St→Value→Hp→Prop} {C:Addr} {k:Nat} {f:Addr} {fd:FuncData} {ps:List Str} {sp:Sp} {x m:Str} {p pos apos:Pos} {e o:Expr} {es:List Expr} {ta:TE} {t:TA}
end
end L2
namespace L2
open PySem PySem.W PyProof.Rows
section
variable {O:KeyOrd} (key:Nat→O.α)
variable {key}
end
end L2
namespace L2
open PySem PySem.Spec PyProof.Rows
mutual
inductive Dp (K:PySem.W.Frag) (H:Hp):V→PyData→Prop
 |non:Dp K H .non .none
 |bl (b:Bool):Dp K H (.bl b) (.bool b)
 |int (i:Int):Dp K H (.int i) (.int i)
 |str (x:Str) (h:PyData.strOk x=true):Dp K H (.str x) (.str x)
 |tup {a:Addr} {xs:List V} {ds:List PyData} (h:SqT K H a xs) (r:Dps K H xs ds):Dp K H (.ref a) (.tuple ds)
 |lst {a:Addr} {xs:List V} {ds:List PyData} (h:SqL K H a xs) (r:Dps K H xs ds):Dp K H (.ref a) (.list ds)
inductive Dps (K:PySem.W.Frag) (H:Hp):List V→List PyData→Prop
 |nil:Dps K H [] []
 |cons {x:V} {xs:List V} {d:PyData} {ds:List PyData} (h:Dp K H x d) (r:Dps K H xs ds):Dps K H (x::xs) (d::ds)
end
mutual
theorem Dp.lay {K:PySem.W.Frag}{H:Hp}:∀{v:V} {d:PyData},Dp K H v d→d.canLay0=true
 |_,_,.non=>rfl
 |_,_,.bl _=>rfl
 |_,_,.int _=>rfl
 |_,_,.str _ h=>by simpa[PyData.canLay0] using h
 |_,_,.tup _ r=>by simpa[PyData.canLay0] using r.lay
 |_,_,.lst _ r=>by simpa[PyData.canLay0] using r.lay
theorem Dps.lay {K:PySem.W.Frag}{H:Hp}:∀{xs:List V} {ds:List PyData},Dps K H xs ds→PyData.canLayAll0 ds=true
 |_,_,.nil=>by simp[PyData.canLayAll0]
 |_,_,.cons h r=>by simp[PyData.canLayAll0,h.lay,r.lay]
end
mutual
theorem Dp.reads {X:Cx}{pins:List (Addr×Obj)}{σ:St}{H:Hp}{s:Shared}(I:Inv X pins σ H s):∀{v:V} {d:PyData} {u:Value},Dp X.K H v d→RelV v u→∃as,Reads s.heap u d as
 |_,_,_,.non,r=>by cases(show _=Value.none from r);exact⟨_,.none⟩
 |_,_,_,.bl b,r=>by cases(show _=Value.bool b from r);exact⟨_,.bool b⟩
 |_,_,_,.int i,r=>by obtain⟨t,rfl⟩:=r;exact⟨_,.int i t⟩
 |_,_,_,.str x _,r=>by obtain⟨t,rfl⟩:=r;exact⟨_,.str x t⟩
 |_,_,_,.tup (a:=a) h rs,r=>by
  cases(show _=Value.ref a from r)
  obtain⟨its,rv,⟨o,ho,hc,n,hd⟩,_⟩:=I.tuple h
  obtain⟨as,ra⟩:=Dps.reads I rs rv
  exact⟨_,.tuple ho hc hd (by simpa using ra)⟩
 |_,_,_,.lst (a:=a) h rs,r=>by
  cases(show _=Value.ref a from r)
  obtain⟨its,rv,pl,_⟩:=I.list h
  obtain⟨o,ho,hc,n,hd⟩:=pl.isList
  obtain⟨as,ra⟩:=Dps.reads I rs rv
  exact⟨_,.list ho hc hd (by simpa using ra)⟩
theorem Dps.reads {X:Cx}{pins:List (Addr×Obj)}{σ:St}{H:Hp}{s:Shared}(I:Inv X pins σ H s):∀{xs:List V} {ds:List PyData} {us:List Value},Dps X.K H xs ds→Vals xs us→∃as,ReadsAll s.heap us ds as
 |_,_,_,.nil,.nil=>⟨_,.nil⟩
 |_,_,_,.cons h rs,.cons r rr=>by
  obtain⟨as,ra⟩:=Dp.reads I h r
  obtain⟨bs,rb⟩:=Dps.reads I rs rr
  exact⟨_,.cons ra rb⟩
end
section
variable {X:Cx}
def rNeD (K:PySem.W.Frag):R2:=fun x y H Q=>∃d e,Dp K H x d∧Dp K H y e∧d.depth≤60∧Q (.bl (!PyData.eqv d e)) H
theorem op_neD {k:Nat}(hr:Room k X.A):OpR X (compareOp .NotEq) (rNeD X.K):=by
 intro pins s σ H x y v u Q I rx ry h
 obtain⟨d,e,h1,h2,hd,q⟩:=h
 obtain⟨as,r1⟩:=h1.reads I rx
 obtain⟨bs,r2⟩:=h2.reads I ry
 have:=hr.units
 exact SeqAt.compareNe_reads r1 r2 h1.lay h2.lay (by omega) ⟨.bl _,H,I,rfl,q⟩
end
mutual
theorem eqv_refl:∀{d:PyData},d.canLay0=true→PyData.eqv d d=true
 | .none,_=>by simp[PyData.eqv]
 | .bool _,_=>by simp[PyData.eqv]
 | .int _,_=>by simp[PyData.eqv]
 | .str _,_=>by simp[PyData.eqv]
 | .list xs,h=>by simp only[PyData.eqv];exact eqvAll_refl (by simpa[PyData.canLay0] using h)
 | .tuple xs,h=>by simp only[PyData.eqv];exact eqvAll_refl (by simpa[PyData.canLay0] using h)
 | .dict _,h=>by simp[PyData.canLay0] at h
theorem eqvAll_refl:∀{ds:List PyData},PyData.canLayAll0 ds=true→PyData.eqvAll ds ds=true
 |[],_=>by simp[PyData.eqvAll]
 |d::r,h=>by
  have h':d.canLay0=true∧PyData.canLayAll0 r=true:=by simpa[PyData.canLayAll0] using h
  simp only[PyData.eqvAll,eqv_refl h'.1,eqvAll_refl h'.2,Bool.and_self]
end
theorem depthAll_le {n:Nat}:∀{ds:List PyData},(∀d∈ds,d.depth≤n)→PyData.depthAll ds≤n
 |[],_=>by simp[PyData.depthAll]
 |d::r,h=>by
  simp only[PyData.depthAll]
  exact Nat.max_le.mpr ⟨h d List.mem_cons_self,depthAll_le fun e he=>h e (List.mem_cons_of_mem _ he)⟩
theorem SqT.kept {K:PySem.W.Frag}{H H':Hp}{a:Addr}{xs:List V}(e:∀b o,H b=some o→H' b=some o)(h:SqT K H a xs):SqT K H' a xs:=SqT.same e h
mutual
theorem Dp.same {K:PySem.W.Frag}{H H':Hp}(e:Same H H'):∀{v:V} {d:PyData},Dp K H v d→Dp K H' v d
 |_,_,.non=> .non
 |_,_,.bl b=> .bl b
 |_,_,.int i=> .int i
 |_,_,.str x h=> .str x h
 |_,_,.tup h r=> .tup (h.same e) (Dps.same e r)
 |_,_,.lst h r=> .lst (e.seq h) (Dps.same e r)
theorem Dps.same {K:PySem.W.Frag}{H H':Hp}(e:Same H H'):∀{xs:List V} {ds:List PyData},Dps K H xs ds→Dps K H' xs ds
 |_,_,.nil=> .nil
 |_,_,.cons h r=> .cons (Dp.same e h) (Dps.same e r)
end
section
variable {σ:St} {H:Hp} {ta tb:TE} {x y:V} {d e:PyData} {K:PySem.W.Frag}
end
theorem Inv.laidN {X:Cx}{pins:List (Addr×Obj)}{σ:St}{H:Hp}{s:Shared}{h':Heap}{t':Nat}{a:Addr}{o:HO}(I:Inv X pins σ H s)(k:∀b u,b≠X.env.locals→s.heap.get? b=some u→h'.get? b=some u)
  (ns:∀m,s.heap.Ns X.env.locals m→h'.Ns X.env.locals m) (hn:s.heap.get? a=none) (new:ObjOk X.prog X.w (upd H a o) h' a o):Inv X pins σ (upd H a o) {s with heap:=h',toks:=t'}:=by
 have hHa:H a=none:=I.hok.none_of hn
 have trk:∀b u,H b=some u→b≠X.env.locals:=fun b u e z=>by rw[z,I.free] at e;cases e
 have nea:∀b u,s.heap.get? b=some u→b≠a:=fun b u e z=>by rw[z,hn] at e;cases e
 refine I.step (g':=s.gens) (d':=s.drawn) (ch:=[]) (fun _ z=>nomatch z) (fun b u hL _ _ e _=>k b u hL e) (fun b u hL _ _ e _=>⟨u.slots,k b u hL e⟩) (fun b u _ e n=>by rw[upd_ne (nea b u e)];exact n)
  (fun b u _ e=>?_) (fun b xs e=>by rw[upd_ne (ne_of_none e hHa)];exact e) (fun b u xs e=>by rw[upd_ne (ne_of_none e hHa)];exact e) (fun b ps e=>⟨#[],by rw[upd_ne (ne_of_none e hHa),e];simp⟩) ns (fun b u e=>?_) I.bare
 ·by_cases hb:b=X.env.locals
  ·obtain⟨m,hm,_⟩:=I.loc
   obtain⟨o',_,_,e',_⟩:=ns m hm
   exact⟨o',by rw[hb];exact e'⟩
  ·exact⟨u,k b u hb e⟩
 ·by_cases hb:b=a
  ·subst hb;rw[upd_same] at e;cases e;exact new
  ·rw[upd_ne hb] at e
   refine(I.hok b u e).stay (fun c v hc q=>k c v ?_ q) (fun c q=>by rw[upd_ne (ne_of_none q hHa)];exact q) fun c xs q=>by rw[upd_ne (ne_of_none q hHa)];exact q
   rcases hc with rfl|hc
   ·exact trk _ _ e
   ·exact trk _ _ hc
theorem ns_inj {h:Heap}{a:Addr}{m m':Str→Option Value}(x:h.Ns a m)(y:h.Ns a m'):m=m':=by
 obtain⟨o,es,ep,ho,hd,_,f⟩:=x
 obtain⟨o',es',ep',ho',hd',_,f'⟩:=y
 rw[ho] at ho';cases ho'
 rw[hd] at hd';cases hd'
 funext n
 rw[←f,←f']
theorem lex_irrefl:∀a:List Int,HT.lexLt a a=false
 |[]=>rfl
 |x::r=>by rw[HT.lexLt_cons,if_pos rfl];exact lex_irrefl r
theorem lex_trans:∀a b c:List Int,HT.lexLt a b=true→HT.lexLt b c=true→HT.lexLt a c=true
 |[],_,[],_,h=>by
  rename_i b _
  cases b with
  |nil=>rw[HT.lexLt_nil_nil] at h;cases h
  |cons y t=>rw[HT.lexLt_cons_nil] at h;cases h
 |[],_,_::_,_,_=>rfl
 |_::_,[],_,h,_=>by rw[HT.lexLt_cons_nil] at h;cases h
 |_::_,_::_,[],_,h=>by rw[HT.lexLt_cons_nil] at h;cases h
 |x::r,y::t,z::u,h1,h2=>by
  rw[HT.lexLt_cons] at h1 h2⊢
  by_cases e1:x=y<;>by_cases e2:y=z
  ·subst e1;subst e2
   rw[if_pos rfl] at h1 h2⊢
   exact lex_trans r t u h1 h2
  ·subst e1
   rw[if_neg e2] at h2⊢
   exact h2
  ·subst e2
   rw[if_neg e1] at h1⊢
   exact h1
  ·rw[if_neg e1] at h1
   rw[if_neg e2] at h2
   have:=of_decide_eq_true h1
   have:=of_decide_eq_true h2
   rw[if_neg (by omega)]
   exact decide_eq_true (by omega)
open PySem.W in
theorem katlex_ints {prog:Program}{w:World}{A:Around}{b fin:Bool}{Q:Bool→Shared→Prop}{s:Shared}:∀(us ws:List Value) (ns ms:List Int) (i:Nat),Vals (ns.map V.int) us→Vals (ms.map V.int) ws→fin=decide (ns.length<ms.length)→
  Q (HT.lexLt ns ms) s→KatLex prog w A b fin Q (us.zip ws) i s
 |[],ws,ns,ms,i,r1,r2,hf,h=>by
  cases ns with
  |cons n r=>cases r1
  |nil=>
   refine kat_nil ?_
   rw[hf]
   cases ms with
   |nil=>exact h
   |cons m t=>exact h
 |u::us,[],ns,ms,i,r1,r2,hf,h=>by
  cases ms with
  |cons m t=>cases r2
  |nil=>
   refine kat_nil ?_
   rw[hf]
   cases ns with
   |nil=>exact h
   |cons m t=>exact h
 |u::us,v::ws,ns,ms,i,r1,r2,hf,h=>by
  cases ns with
  |nil=>cases r1
  |cons n r=>
   cases ms with
   |nil=>cases r2
   |cons m t=>
    cases r1 with
    |cons q1 r1=>
     cases r2 with
     |cons q2 r2=>
      obtain⟨t1,rfl⟩:=q1
      obtain⟨t2,rfl⟩:=q2
      refine kat_cons (wpAny_eqBool_int ?_)
      rw[HT.lexLt_cons] at h
      refine kat_go (fun e=>?_) (fun e=>?_)
      ·have e':n=m:=by simpa using e
       rw[if_pos e'] at h
       exact kat_yes (katlex_ints us ws r t (i+1) r1 r2 (by rw[hf];simp) h)
      ·have e':¬n=m:=by simpa using e
       rw[if_neg e'] at h
       refine kat_no ?_
       cases(b&&i==0) with
       |true=>exact oneLt_int h
       |false=>exact kat_one _ _ (lt_int h)
section
variable {X:Cx}
end
section
variable {prog:Program} {w:World} {A:Around} {E:Value→Shared→Prop} {s:Shared}
end
section
variable {X:Cx}
end
section
variable {X:Cx}
end
abbrev cp (z:Str):List Nat:=z.cps.toList
theorem str_ext {x y:Str}(h:cp x=cp y):x=y:=by
 cases x with|mk a=>cases y with|mk b=>exact congrArg Str.mk (Array.toList_inj.mp h)
theorem cp_len (z:Str):(cp z).length=z.length:=by simp[Str.length]
theorem cp_app (x y:Str):cp (x++y)=cp x++cp y:=by
 show(x.cps++y.cps).toList=_
 simp
theorem cp_slice (z:Str)(lo hi:Option Int):cp (Txt.slice z lo hi)=((cp z).drop (HT.sIx z.length 0 lo)).take (HT.sIx z.length z.length hi - HT.sIx z.length 0 lo):=by
 have e1:Builtin.Str.strSliceIndices lo hi 1 z.length=sliceRange (sliceBounds lo hi none z.length).1 (sliceBounds lo hi none z.length).2.1 (sliceBounds lo hi none z.length).2.2:=rfl
 obtain⟨h1,h2,h3⟩:=slice_bounds lo hi z.length
 have e2:(Builtin.Str.strSliceIndices lo hi 1 z.length).filterMap (z.cps[·]?)=((cp z).drop (HT.sIx z.length 0 lo)).take (HT.sIx z.length z.length hi - HT.sIx z.length 0 lo):=by
  rw[e1,h1,h2,h3]
  have e3:∀(i:Nat),z.cps[i]?=(cp z).toArray[i]?:=fun i=>by simp
  simp only[e3,sliceRange_one]
  rw[pick_run]
 unfold Txt.slice
 split
 ·next h=>
  have hl:(Builtin.Str.strSliceIndices lo hi 1 z.length).length=z.length:=by simpa using h
  have hle:HT.sIx z.length z.length hi≤z.length:=HT.sIx_le _ _ (Nat.le_refl _) _
  have hn:(Builtin.Str.strSliceIndices lo hi 1 z.length).length=HT.sIx z.length z.length hi - HT.sIx z.length 0 lo:=by
   rw[e1,h1,h2,h3,sliceRange_one,List.length_map,List.length_range]
  rw[hn] at hl
  by_cases hz:z.length=0
  ·have:cp z=[]:=List.eq_nil_of_length_eq_zero (by rw[cp_len];exact hz)
   rw[this];simp
  ·have a0:HT.sIx z.length 0 lo=0:=by omega
   rw[a0,List.drop_zero,List.take_of_length_le (by rw[cp_len];omega)]
 ·show(List.filterMap _ _).toArray.toList=_
  rw[List.toList_toArray,e2]
theorem cp_from (z:Str){k:Nat}(h:k≤z.length):cp (Txt.slice z (some (k:Int)) none)=(cp z).drop k:=by
 rw[cp_slice,HT.sIx_none,HT.sIx_nat,Nat.min_eq_left h,List.take_of_length_le (by rw[List.length_drop,cp_len];exact Nat.le_refl _)]
noncomputable def Its (z:Str):It:=⟨fun i _=>i<z.cps.size,fun i H x H'=>H'=H∧∃c,(cp z)[i]?=some c∧x=.str ⟨#[c]⟩,fun i _=>z.cps.size≤i⟩
theorem go_str {M:Model}{A:Around}{E:Value→Shared→Prop}{s:Shared}{tg:Expr}{it:Addr}{x:Str}{t:Tok}{Q:Unit→Shared→Prop}(hQ:Q () s):wpAny M A (letOwnedTupleGo tg (.ref it) (.str x t)) Q E s:=by
 unfold letOwnedTupleGo
 cases tg<;>exact wpAny_pure hQ
theorem turn_str {P:Program}{w:World}{K:PySem.W.Frag}{tg:Expr}(z:Str)(t:Tok)(it:Addr):Turn P w K tg (Its z) [it] it (fun i h=>h.IsStrIter it "str_ascii_iterator" z t i) where
 mem:=by simp
 obj:=fun i h st b hb=>by
  have e:b=it:=by simpa using hb
  subst e
  obtain⟨o,e,c,d⟩:=st
  exact⟨o,e,fun v z=>by rw[d] at z;cases z⟩
 keep:=fun i h h' st k=>by
  obtain⟨o,e,r⟩:=st
  exact⟨o,k it (by simp) o e,r⟩
 item:=by
  intro X hP hw hK hc i pins s σ H E I hf hst hg
  subst hP hw hK
  obtain⟨f0,f1,f2,f3,f4,f5⟩:=hf it (by simp)
  have W:=Walks.strAscii (prog:=X.prog) (w:=X.w) (I.ok.hd hc) it z t
  refine W.item i s _ _ hg hst fun v h' tk hv st' kk=>?_
  obtain⟨c,u,ec,rfl⟩:=hv
  have I1:Inv X pins σ H {s with heap:=h',toks:=tk}:=I.turned (fun b o hb e=>kk b o (by simpa using hb) e) f0 f1 f3 f4 f5
  exact⟨_,rfl,go_str ⟨.str ⟨#[c]⟩,H,I1,⟨u,rfl⟩,⟨rfl,c,by rw[←ec];simp,rfl⟩,st',fun b hb=>(hf b hb).1⟩⟩
 done:=by
  intro X hP hw hK hc i pins s σ H E I hf hst hg
  subst hP hw hK
  obtain⟨f0,f1,f2,f3,f4,f5⟩:=hf it (by simp)
  exact wpAny_pyNext_ascii_end (I.ok.hd hc) hst (by have:z.cps.size≤i:=hg;simp[this]) fun h' eb=>⟨rfl,I.turned (t':=s.toks) (fun b o hb e=>eb b o hb e) f0 f1 f3 f4 f5⟩
 self:=fun _ _ _ _ _ st h=>wpAny_pyIter_striter_ascii st h
def iStr (tl:TE):TI:=fun σ H R=>tl σ H fun x H1=>∃z,x=.str z∧z.cps.all (· <128)=true∧R (Its z) H1
section
variable {X:Cx} {tg:Expr}
theorem pi_str {l:Expr}{tl:TE}(hl:PE X l tl):PI X tg l (iStr tl):=by
 intro pins s σ H R I h
 refine thn (hl pins s σ H _ I h) fun v s1 ⟨x,H1,I1,r1,q1⟩=>?_
 obtain⟨z,e,ha,q⟩:=q1
 subst e
 obtain⟨t,rfl⟩:=r1
 refine wpAny_pyIter_ascii ha ?_
 refine⟨s1.heap.objs.size,[s1.heap.objs.size],_,_,H1,rfl,I1.kept (t':=s1.toks) fun b o e=>Heap.get?_push_of_some _ e,turn_str z t _,⟨_,Heap.get?_push_size _ rfl,rfl,rfl⟩,fun b hb=>?_,q⟩
 have e:b=s1.heap.objs.size:=by simpa using hb
 subst e
 exact I1.fpOk (Nat.le_refl _) (I1.hok.fresh (Nat.le_refl _))
theorem lc_str {z:Str}{σ0:St}{g:TG}{tt:TT}{te:TE}{H1:Hp}{D:Addr}{Q:Hp→Prop}(Pv:Nat→St→Hp→Prop)(h0:Pv 0 σ0 (upd H1 D (.lst [])))
  (hs:∀i c τ H,(cp z)[i]?=some c→Pv i τ H→g (.str ⟨#[c]⟩) τ H fun τ2 H2=>tt τ2 H2 fun b H3=>
   if b=true then te τ2 H3 fun v H4=>∃acc,H4 D=some (.lst acc)∧acc.length<sizeLine∧Pv (i+1) τ2 (upd H4 D (.lst (acc++[v]))) else Pv (i+1) τ2 H3)
  (hd:∀τ H,Pv z.length τ H→Q H):lcW σ0 g tt te (Its z) H1 D Q:=by
 have hz:z.cps.size=z.length:=rfl
 refine⟨fun i m τ H=>m=z.length - i∧i≤z.length∧Pv i τ H,⟨z.length,by simp,Nat.zero_le _,h0⟩,?_⟩
 rintro i m τ H ⟨rfl,hi,p⟩
 by_cases hlt:i<z.length
 ·refine .inr ⟨hlt,Pv (i+1),fun τ' H' p'=>⟨z.length - (i+1),by omega,rfl,hlt,p'⟩,fun x H' y=>?_⟩
  obtain⟨e,c,hc,rfl⟩:=y
  subst e
  exact hs i c τ _ hc p
 ·have e:i=z.length:=by omega
  subst e
  exact .inl ⟨Nat.le_refl _,hd τ H p⟩
theorem bools_are:∀{bs:List Bool} {us:List Value},Vals (bs.map V.bl) us→us=bs.map Value.bool
 |[],_,.nil=>rfl
 |_::_,_,.cons r t=>by rw[bools_are t];cases(show _=Value.bool _ from r);rfl
theorem range_any (bs:List Bool):(List.range bs.length).any (fun i=>bs.getD i false)=bs.any id:=by
 have e:(List.range bs.length).map (fun i=>bs.getD i false)=bs:=by
  apply List.ext_getElem?
  intro i
  by_cases hi:i<bs.length
  ·simp[hi]
  ·simp[hi]
 conv=>rhs;rw[←e]
 rw[List.any_map]
 rfl
theorem range_all (bs:List Bool):(List.range bs.length).all (fun i=>bs.getD i false)=bs.all id:=by
 have e:(List.range bs.length).map (fun i=>bs.getD i false)=bs:=by
  apply List.ext_getElem?
  intro i
  by_cases hi:i<bs.length
  ·simp[hi]
  ·simp[hi]
 conv=>rhs;rw[←e]
 rw[List.all_map]
 rfl
theorem call_any (hc:X.calm=true):CallR X (.builtin "any") (fun xs H Q=>∃(p:Addr) (bs:List Bool),xs=[.ref p]∧SqL X.K H p (bs.map V.bl)∧Q (.bl (bs.any id)) H):=by
 intro pins s σ H xs us Q I r h
 obtain⟨p,bs,rfl,hp,q⟩:=h
 obtain⟨u,rfl,rx⟩:=vals1 r
 cases rx
 obtain⟨its,rv,pl,hz⟩:=I.list hp
 cases bools_are rv
 have hl:(bs.map Value.bool).toArray.size=bs.length:=by simp
 refine call_any_walk (wpAny_pyIter_list pl.isList ?_)
 have hne:p≠s.heap.objs.size:=by
  obtain⟨o,ho,_⟩:=pl.isList
  exact Nat.ne_of_lt (Heap.lt_size ho)
 refine⟨s.heap.objs.size,_,_,_,_,_,fun i=>bs.getD i false,rfl,Walks.list (A:=X.A.in1) (prog:=X.prog) (w:=X.w) (show X.A.in1.handled=none from I.ok.hd hc) s.heap.objs.size p hne (bs.map Value.bool).toArray,⟨⟨_,Heap.get?_push_size _ rfl,rfl,rfl⟩,?_⟩,fun i v s' Q' E' hv hq=>?_,fun h' tk hk=>?_⟩
 ·exact pl.isList.at fun o e=>Heap.get?_push_of_some _ e
 ·have hi:(bs.map Value.bool).toArray[i]?=some v:=hv
  rw[List.getElem?_toArray,List.getElem?_map] at hi
  cases e:bs[i]? with
  |none=>rw[e] at hi;cases hi
  |some b=>
   rw[e] at hi
   cases hi
   refine wpAny_truthy_bool ?_
   have:bs.getD i false=b:=by simp[List.getD_eq_getElem?_getD,e]
   rw[←this];exact hq
 ·rw[hl,range_any]
  refine⟨.bl _,H,I.kept (t':=tk) fun b o e=>hk b o ?_ (Heap.get?_push_of_some _ e),rfl,q⟩
  intro hb
  have:b=s.heap.objs.size:=by simpa using hb
  exact absurd (Heap.lt_size e) (by rw[this];exact Nat.lt_irrefl _)
theorem call_all (hc:X.calm=true):CallR X (.builtin "all") (fun xs H Q=>∃(p:Addr) (bs:List Bool),xs=[.ref p]∧SqL X.K H p (bs.map V.bl)∧Q (.bl (bs.all id)) H):=by
 intro pins s σ H xs us Q I r h
 obtain⟨p,bs,rfl,hp,q⟩:=h
 obtain⟨u,rfl,rx⟩:=vals1 r
 cases rx
 obtain⟨its,rv,pl,hz⟩:=I.list hp
 cases bools_are rv
 have hl:(bs.map Value.bool).toArray.size=bs.length:=by simp
 refine call_all_walk (wpAny_pyIter_list pl.isList ?_)
 have hne:p≠s.heap.objs.size:=by
  obtain⟨o,ho,_⟩:=pl.isList
  exact Nat.ne_of_lt (Heap.lt_size ho)
 refine⟨s.heap.objs.size,_,_,_,_,_,fun i=>bs.getD i false,rfl,Walks.list (A:=X.A.in1) (prog:=X.prog) (w:=X.w) (show X.A.in1.handled=none from I.ok.hd hc) s.heap.objs.size p hne (bs.map Value.bool).toArray,⟨⟨_,Heap.get?_push_size _ rfl,rfl,rfl⟩,?_⟩,fun i v s' Q' E' hv hq=>?_,fun h' tk hk=>?_⟩
 ·exact pl.isList.at fun o e=>Heap.get?_push_of_some _ e
 ·have hi:(bs.map Value.bool).toArray[i]?=some v:=hv
  rw[List.getElem?_toArray,List.getElem?_map] at hi
  cases e:bs[i]? with
  |none=>rw[e] at hi;cases hi
  |some b=>
   rw[e] at hi
   cases hi
   refine wpAny_truthy_bool ?_
   have:bs.getD i false=b:=by simp[List.getD_eq_getElem?_getD,e]
   rw[←this];exact hq
 ·rw[hl,range_all]
  refine⟨.bl _,H,I.kept (t':=tk) fun b o e=>hk b o ?_ (Heap.get?_push_of_some _ e),rfl,q⟩
  intro hb
  have:b=s.heap.objs.size:=by simpa using hb
  exact absurd (Heap.lt_size e) (by rw[this];exact Nat.lt_irrefl _)
theorem pe_const {x:Str}{v:V}{pos:Pos}(hg:Gl X x)(h:∃u,X.mg x=some u∧RelV v u)(hd:(x==("__debug__" :Str))=false:=by decide):PE X (.Name x pos) (tC v):=by
 obtain⟨u,hm,r⟩:=h
 exact pe_glob hg hm r hd
theorem call_intS:CallR X (.type "int") (fun xs H Q=>∃x n,xs=[.str x]∧PySem.intText? x=some n∧x.length≤640∧Q (.int n) H):=by
 intro pins s σ H xs us Q I r h
 obtain⟨x,n,rfl,hn,hl,q⟩:=h
 obtain⟨u,rfl,t,rfl⟩:=vals1 r
 exact PySem.W.KIN.call_text hn hl ⟨.int n,H,I.tok _,⟨_,rfl⟩,q⟩
theorem mt_startswith:MtR X "str.startswith" (fun x vs H Q=>∃z y,x=.str z∧vs=[.str y]∧Q (.bl (Txt.startswith z y)) H):=by
 intro pins s σ H x xs v us Q I rx rs h
 obtain⟨z,y,rfl,rfl,q⟩:=h
 obtain⟨t,rfl⟩:=rx
 obtain⟨u,rfl,t',rfl⟩:=vals1 rs
 exact SC.startswith ⟨.bl _,H,I,rfl,q⟩
def rSlS:V→Option Int→Option Int→Hp→VK→Prop:=fun x lo hi H Q=>∃z,x=.str z∧z.length≤sizeLine∧Q (.str (Txt.slice z lo hi)) H
theorem sl_str:SlR X rSlS:=by
 intro pins s σ H x v vl vu lo hi sl Q I rx hs pl pu h
 obtain⟨z,rfl,hz,q⟩:=h
 obtain⟨t,rfl⟩:=rx
 refine⟨"str",_,PySem.F.slot_str_getitem.lookup,typeIs_str s z t,?_⟩
 have fin:∀t' k,EP X pins σ Q (.str (Txt.slice z lo hi) t') {s with toks:=k}:=fun t' k=>⟨.str _,H,I.tok _,⟨t',rfl⟩,q⟩
 have hle:=Nat.le_trans (Txt.slice_le z lo hi) hz
 obtain⟨o,ho,hc,hd⟩:=hs
 cases pl with
 |none=>
  cases pu with
  |none=>exact wpAny_getItem_str_slice (l:=none) (u:=none) (st:=none) ⟨o,ho,hc,hd⟩ rfl (post_val_or_str ⟨hle,fin⟩)
  |int j tj=>exact wpAny_getItem_str_slice (l:=none) (u:=some (j,tj)) (st:=none) ⟨o,ho,hc,hd⟩ rfl (post_val_or_str ⟨hle,fin⟩)
 |int i ti=>
  cases pu with
  |none=>exact wpAny_getItem_str_slice (l:=some (i,ti)) (u:=none) (st:=none) ⟨o,ho,hc,hd⟩ rfl (post_val_or_str ⟨hle,fin⟩)
  |int j tj=>exact wpAny_getItem_str_slice (l:=some (i,ti)) (u:=some (j,tj)) (st:=none) ⟨o,ho,hc,hd⟩ rfl (post_val_or_str ⟨hle,fin⟩)
end
section
variable {σ:St} {H:Hp} {ta tb:TE} {x y:Str} {a b:Bool}
theorem ev_addS (ha:Ev ta σ H (.str x))(hb:Ev tb σ H (.str y))(hz:x.length+y.length≤sizeLine):Ev (tOp (fun x y H Q=>∃i j,x=.str i∧y=.str j∧i.length+j.length≤sizeLine∧Q (.str (i++j)) H) ta tb) σ H (.str (x++y)):=fun _ q=>ha _ (hb _ ⟨x,y,rfl,rfl,hz,q⟩)
theorem ev_notinS {c:Nat}(ha:Ev ta σ H (.str ⟨#[c]⟩))(hb:Ev tb σ H (.str y)):Ev (tOp (fun x y H Q=>∃i j,x=.str i∧y=.str j∧Q (.bl (!(!(Builtin.Str.occurrences j i 0 j.length 1).isEmpty))) H) ta tb) σ H (.bl (!decide (c∈cp y))):=fun Q q=>ha _ (hb _ ⟨_,y,rfl,rfl,by rw[PySem.StrLaws.found_one];exact q⟩)
theorem ev_inS {c:Nat}(ha:Ev ta σ H (.str ⟨#[c]⟩))(hb:Ev tb σ H (.str y)):Ev (tOp (fun x y H Q=>∃i j,x=.str i∧y=.str j∧Q (.bl (!(Builtin.Str.occurrences j i 0 j.length 1).isEmpty)) H) ta tb) σ H (.bl (decide (c∈cp y))):=fun Q q=>ha _ (hb _ ⟨_,y,rfl,rfl,by rw[PySem.StrLaws.found_one];exact q⟩)
theorem ev_eqS (ha:Ev ta σ H (.str x))(hb:Ev tb σ H (.str y)):Ev (tOp rEq ta tb) σ H (.bl (decide (x=y))):=fun Q q=>ha _ (hb _ ⟨rfl,by
 have e:decide (V.str x=V.str y)=decide (x=y):=by
  rcases Decidable.em (x=y) with h|h
  ·rw[h,decide_eq_true rfl,decide_eq_true rfl]
  ·rw[decide_eq_false h,decide_eq_false fun z=>h (V.str.inj z)]
 rw[e];exact q⟩)
theorem ev_neS (ha:Ev ta σ H (.str x))(hb:Ev tb σ H (.str y)):Ev (tOp rNe ta tb) σ H (.bl (!decide (x=y))):=fun Q q=>ha _ (hb _ ⟨rfl,by
 have e:decide (V.str x=V.str y)=decide (x=y):=by
  rcases Decidable.em (x=y) with h|h
  ·rw[h,decide_eq_true rfl,decide_eq_true rfl]
  ·rw[decide_eq_false h,decide_eq_false fun z=>h (V.str.inj z)]
 rw[e];exact q⟩)
theorem ev_ixS {c:Nat}{i:Int}(ha:Ev ta σ H (.str x))(hb:Ev tb σ H (.int i))(hz:x.length≤sizeLine)(he:atI (cp x) i=some c):Ev (tOp rIxS ta tb) σ H (.str ⟨#[c]⟩):=fun _ q=>ha _ (hb _ ⟨x,i,c,rfl,rfl,hz,he,q⟩)
theorem ev_lenS (ha:Ev ta σ H (.str x))(hz:x.length≤sizeLine){K:PySem.W.Frag}:Ev (tCB (fun xs H Q=>∃x n,xs=[x]∧LenV K x H n∧Q (.int n) H) (tCons ta tNil)) σ H (.int (x.length:Nat)):=fun _ q=>ha _ ⟨_,_,rfl,⟨hz,rfl⟩,q⟩
end
theorem strs_are:∀{ts:List Str} {us:List Value},Vals (ts.map V.str) us→∃l:List (Str×Tok),us=strValues l∧l.map (·.1)=ts
 |[],_,.nil=>⟨[],rfl,rfl⟩
 |t::r,_,.cons q s=>by
  obtain⟨tk,rfl⟩:=q
  obtain⟨l,rfl,e⟩:=strs_are s
  exact⟨(t,tk)::l,rfl,by rw[List.map_cons,e]⟩
theorem vals_strs:∀l:List (Str×Tok),Vals ((l.map (·.1)).map V.str) (strValues l)
 |[]=> .nil
 |(x,t)::r=> .cons ⟨t,rfl⟩ (vals_strs r)
section
variable {X:Cx}
theorem mt_split:MtR X "str.split" (fun x vs H Q=>∃z y,x=.str z∧vs=[.str y]∧0<y.length∧z.length+2≤sizeLine∧∀l,H l=none→Q (.ref l) (upd H l (.lst ((Txt.split z y).map V.str)))):=by
 intro pins s σ H x xs v us Q I rx rs h
 obtain⟨z,y,rfl,rfl,hy,hz,q⟩:=h
 obtain⟨t,rfl⟩:=rx
 obtain⟨u,rfl,t',rfl⟩:=vals1 rs
 obtain⟨m,hm,_⟩:=id I.loc
 have hn:s.heap.get? s.heap.objs.size=none:=Heap.get?_none_of_le (Nat.le_refl _)
 refine splitN1 (h₀:=Att.noObjs s.heap) (L:=X.env.locals) (m:=m) (news:=allNews (Att.noObjs s.heap) s.heap X.env.locals) (Att.fr_all hm) news_all (beq_eq_false_iff_ne.mpr (by omega)) (fun l h' k e F' N'=>?_) hz
 refine⟨.ref s.heap.objs.size,_,I.laidN (t':=k) (a:=s.heap.objs.size) (o:=.lst ((Txt.split z y).map V.str)) (fun b u' hb e'=>(N' (b,u') (List.mem_cons_of_mem _ (mem_allNews hb (Att.noObjs_get _ _) e'))).1) (fun m' hm'=>?_) hn ?_,rfl,q _ (I.hok.none_of hn)⟩
 ·have:m'=m:=ns_inj hm' hm
  rw[this];exact F'.ns
 ·refine⟨?_,_,0,?_,(N' (s.heap.objs.size,_) List.mem_cons_self).1⟩
  ·rw[List.length_map];exact Nat.le_trans (split_le z y) hz
  ·rw[←e];exact vals_strs l
theorem mt_join:MtR X "str.join" (fun x vs H Q=>∃z p ts,x=.str z∧vs=[.ref p]∧SqL X.K H p (ts.map V.str)∧JoinOk z ts=true∧Q (.str (Txt.join z ts)) H):=by
 intro pins s σ H x xs v us Q I rx rs h
 obtain⟨z,p,ts,rfl,rfl,hp,hok,q⟩:=h
 obtain⟨t,rfl⟩:=rx
 obtain⟨u,rfl,ru⟩:=vals1 rs
 cases ru
 obtain⟨its,rv,pl,hz⟩:=I.list hp
 obtain⟨l,rfl,e⟩:=strs_are rv
 exact SC.join pl.isList e hok fun t' k=>⟨.str _,H,I.tok _,⟨t',rfl⟩,q⟩
def FX (X:Cx) (e:Expr) (c:St→Hp→Str→Prop):Prop:=∀(pins:List (Addr×Obj)) (σ:St) (H:Hp) (s:Shared) (y:Str) (Q:Value→Shared→Prop),Inv X pins σ H s→c σ H y→
 (∀t s',Inv X pins σ H s'→y.length≤6000→Q (.str y t) s')→wpAny (model X.prog X.w) X.A (eval e X.env) Q X.xe s
inductive FXs (X:Cx):List Expr→(St→Hp→List Str→Prop)→Prop where
 |nil:FXs X [] fun _ _ ys=>ys=[]
 |cons {e es c cs}:FX X e c→FXs X es cs→FXs X (e::es) fun σ H ys=>∃y r,ys=y::r∧c σ H y∧cs σ H r
theorem joinsX {pins:List (Addr×Obj)}{σ:St}{H:Hp}{Q:Value→Shared→Prop}:∀{es:List Expr} {cs:St→Hp→List Str→Prop},FXs X es cs→∀{s:Shared} {out:Str} {ys:List Str},Inv X pins σ H s→cs σ H ys→out.length+6000*es.length≤sizeLine→
  (∀t s',Inv X pins σ H s'→Q (.str (ys.foldl (· ++ ·) out) t) s')→wpAny (model X.prog X.w) X.A (joinParts out (evalEach es X.env)) Q X.xe s
 |_,_,.nil,s,out,ys,I,c,hz,q=>by
  subst c
  exact joinParts_nilE (joinParts_nil (q _ _ (I.tok _)) (by simpa using hz))
 |_,_,.cons (es:=es) he hes,s,out,ys,I,c,hz,q=>by
  obtain⟨y,r,rfl,c1,c2⟩:=c
  simp only[List.length_cons] at hz
  refine joinParts_consE (joinParts_cons (he pins σ H s y _ I c1 fun t s' I' hy=>?_))
  have e:(out++y).length=out.length+y.length:=strLen_append _ _
  exact⟨by rw[e];omega,joinsX hes I' c2 (by rw[e];omega) q⟩
def tJoinX (cs:St→Hp→List Str→Prop):TE:=fun σ H Q=>∃ys,cs σ H ys∧Q (.str (ys.foldl (· ++ ·) Str.empty)) H
theorem pe_joinX {e₁ e₂:Expr}{es:List Expr}{cs:St→Hp→List Str→Prop}{pos:Pos}(h:FXs X (e₁::e₂::es) cs)(hl:6000*(es.length+2)≤sizeLine:=by decide):PE X (.JoinedStr (e₁::e₂::es) pos) (tJoinX cs):=by
 intro pins s σ H Q I hq
 obtain⟨ys,c,q⟩:=hq
 refine JoinedStr_many (show wpAny _ _ (joinParts Str.empty (evalEach (e₁::e₂::es) X.env)) _ _ _ from ?_)
 exact joinsX h I c (by show 0+6000*(es.length+2)≤_;omega) fun t s' I'=>⟨.str _,H,I',⟨t,rfl⟩,q⟩
theorem fx_str {e:Expr}{x:Str}(h:PE X e fun _ H Q=>Q (.str x) H)(hx:x.length≤6000:=by decide):FX X e fun _ _ y=>y=x:=by
 intro pins σ H s y Q I c q
 subst c
 refine wpAny_mono (h pins s σ H (fun v H'=>v=.str y∧H'=H) I ⟨rfl,rfl⟩) (fun v s' hv=>?_) fun _ _ z=>z
 obtain⟨v',H',I',r,rfl,rfl⟩:=hv
 obtain⟨t,rfl⟩:=r
 exact q t s' I' hx
theorem fx_int {e:Expr}{t:TE}{pos:Pos}(h:PE X e t):FX X (.FormattedValue e (-1) none pos) fun σ H y=>t σ H fun v H'=>H'=H∧∃i:Int,v=.int i∧i.natAbs.log2<1920∧y=toString i:=by
 intro pins σ H s y Q I c q
 refine FormattedValue_plain (wpAny_mono (h pins s σ H _ I c) (fun v s' hv=>?_) fun _ _ z=>z)
 obtain⟨v',H',I',r,rfl,i,rfl,hi,rfl⟩:=hv
 obtain⟨t,rfl⟩:=r
 exact formatField_int_small hi (q _ _ (I'.tok _) (by have:=int_short hi;omega))
end
noncomputable def jl (c:Nat):List (List Nat)→List Nat
 |[]=>[]
 |[p]=>p
 |p::q::r=>p++c::jl c (q::r)
theorem jl_cons {c:Nat}{p:List Nat}{r:List (List Nat)}(h:r≠[]):jl c (p::r)=p++c::jl c r:=by
 cases r with
 |nil=>exact absurd rfl h
 |cons q t=>rfl
theorem jl_inj {c:Nat}:∀{P R:List (List Nat)},P≠[]→R≠[]→(∀p∈P,c∉p)→(∀p∈R,c∉p)→jl c P=jl c R→P=R:=by
 have key:∀{a b x y:List Nat},c∉a→c∉b→a++c::x=b++c::y→a=b∧x=y:=by
  intro a
  induction a with
  |nil=>
   intro b x y _ hb e
   cases b with
   |nil=>exact⟨rfl,(List.cons.inj e).2⟩
   |cons d t=>
    have:=(List.cons.inj e).1
    exact absurd (by rw[this];exact List.mem_cons_self) hb
  |cons d t ih=>
   intro b x y ha hb e
   cases b with
   |nil=>
    have:=(List.cons.inj e).1
    exact absurd (by rw[←this];exact List.mem_cons_self) ha
   |cons d' t'=>
    obtain⟨e1,e2⟩:=List.cons.inj e
    obtain⟨h1,h2⟩:=ih (fun z=>ha (List.mem_cons_of_mem _ z)) (fun z=>hb (List.mem_cons_of_mem _ z)) e2
    exact⟨by rw[e1,h1],h2⟩
 have nin:∀{a b x:List Nat},c∉a→a≠b++c::x:=fun ha e=>ha (by rw[e];simp)
 intro P
 induction P with
 |nil=>intro R h;exact absurd rfl h
 |cons p r ih=>
  intro R _ hR hP hRf e
  cases R with
  |nil=>exact absurd rfl hR
  |cons q t=>
   by_cases h1:r=[]<;>by_cases h2:t=[]
   ·subst h1;subst h2
    rw[show p=q from e]
   ·subst h1
    rw[jl_cons h2] at e
    exact absurd e (nin (hP p List.mem_cons_self))
   ·subst h2
    rw[jl_cons h1] at e
    exact absurd e.symm (nin (hRf q List.mem_cons_self))
   ·rw[jl_cons h1,jl_cons h2] at e
    obtain⟨e1,e2⟩:=key (hP p List.mem_cons_self) (hRf q List.mem_cons_self) e
    rw[e1,ih h1 h2 (fun x hx=>hP x (List.mem_cons_of_mem _ hx)) (fun x hx=>hRf x (List.mem_cons_of_mem _ hx)) e2]
theorem cp_joinS (c:Nat):∀ts:List Str,cp (Str.join ⟨#[c]⟩ ts)=jl c (ts.map cp)
 |[]=>by unfold Str.join;rfl
 |[x]=>by unfold Str.join;rfl
 |x::y::r=>by
  have ih:=cp_joinS c (y::r)
  rw[List.map_cons,jl_cons (by simp),←ih]
  show cp (x++(⟨#[c]⟩:Str)++Str.join ⟨#[c]⟩ (y::r))=_
  rw[cp_app,cp_app,List.append_assoc]
  rfl
theorem split_cp (x:Str)(c:Nat){P:List (List Nat)}(h:P≠[])(hf:∀p∈P,c∉p)(e:cp x=jl c P):(Txt.split x ⟨#[c]⟩).map cp=P:=by
 have hne:(Txt.split x ⟨#[c]⟩)≠[]:=fun z=>by have:=split_pos x ⟨#[c]⟩;rw[z] at this;simp at this
 refine jl_inj (c:=c) (by simpa using hne) h (fun p hp=>?_) hf ?_
 ·obtain⟨y,hy,rfl⟩:=List.mem_map.mp hp
  exact PySem.StrLaws.split_free x c y hy
 ·rw[←cp_joinS,PySem.StrLaws.join_split,e]
theorem cp_glued (c:Nat)(ts:List Str):cp (Txt.join ⟨#[c]⟩ ts)=jl c (ts.map cp):=by
 have key:∀(r:List Str) (acc:Array Nat),(r.foldl (fun acc p=>acc++(⟨#[c]⟩:Str).cps++p.cps) acc).toList=acc.toList++(r.flatMap fun p=>c::cp p):=by
  intro r
  induction r with
  |nil=>intro acc;simp
  |cons y t ih=>
   intro acc
   rw[List.foldl_cons,ih]
   simp
 have flat:∀(r:List Str) (x:List Nat),x++(r.flatMap fun p=>c::cp p)=jl c (x::r.map cp):=by
  intro r
  induction r with
  |nil=>intro x;simp[jl]
  |cons y t ih=>
   intro x
   rw[List.map_cons,jl_cons (by simp),←ih,List.flatMap_cons]
   simp
 cases ts with
 |nil=>rfl
 |cons x r=>
  show((r.foldl (fun acc p=>acc++(⟨#[c]⟩:Str).cps++p.cps) x.cps)).toList=_
  rw[key]
  exact flat r (cp x)
end L2
namespace L2
open PySem PySem.Spec PyProof.Rows
open AutoSeq1 (wpAny_loadPart')
section
variable {prog:Program} {w:World} {A:Around} {E:Value→Shared→Prop} {s:Shared}
theorem oinit_kw {T newId:String}{self a:Value}{rest:List Value}{kw:List (Str×Value)}(hl:typeLookup (.type T) "__init__" =pure (some (.builtin "object.__init__")))
  (hm:Bind.madeBy (.type T)=pure (some newId)) (hne:(some newId !=some "object.__new__")=true):
  Meets (Builtin.«object.__init__» ⟨self::a::rest,kw⟩) (fun _ R s=>s.TypeIs self T∧R (.ok (.ret .none)) s):=by
 refine Meets.of_wp fun prog w A R s hs=>?_
 obtain⟨hT,hq⟩:=hs
 repeat (any_goals (first|assumption|wp_step))
 exact⟨_,rfl,hq⟩
theorem callTy_kw {T newId:String}{Bn:Builtin}{a:Value}{args:List Value}{kw:List (Str×Value)}{S:PySem.Spec}{Q:Value→Shared→Prop}(ft:TypeCalled T newId "object.__init__")
  (hne:(some newId !=some "object.__new__")=true) (hct:checkTypeCall T ⟨a::args,kw⟩=pure ()) (hcn:checkBuiltinCall newId ⟨.type T::a::args,kw⟩=pure ())
  (hok:∀obj,argsOk "object.__init__" ⟨obj::a::args,kw⟩) (entryN:entryFor table newId=some Bn) (g:Meets (Bn ⟨.type T::a::args,kw⟩) S)
  (h:S A.in1 (wants (fun obj s₁=>s₁.TypeIs obj T∧Q obj s₁) E) s):wpAny (model prog w) A (call (.type T) (a::args) kw) Q E s:=by
 obtain⟨c,tl,hmro⟩:=ft.mro
 have hmade:=ft.made
 have hsub:=ft.sub
 refine wpAny_call (codeAny_of_tree ?_)
 show wpAny _ _ (callAny (.type T) _) _ _ _
 refine wpAny_pure ⟨Code.quiet_builtin _ (by decide+kernel),codeAny_builtin F.entry_type_call ?_⟩
 rw[Around.under_plain (weight_type_call_type T (a::args) kw) (units_type_call_type T (a::args) kw)]
 have h1:=ft.notType
 have h2:=ft.canCreate
 repeat (any_goals (first|assumption|wp_step))
 refine codeAny_mono (codeAny_call_builtin ft.plain entryN (wpAny_of_eq hcn (g prog w A.in1 _ s h))) fun r s₁ hr=>?_
 match r,hr with
 | .error e,hr=>exact hr
 | .ok (.ret obj),hr=>
  obtain⟨hT,hq⟩:=hr
  have hli:=ft.init.lookup
  have hbi:=ft.init.bind obj
  repeat (any_goals (first|assumption|wp_step))
  refine codeAny_mono (codeAny_call_builtin ft.init.plain F.entry_object_init (ft.init.check _ _ _ _ _ _ _ _ hT (hok obj) (oinit_kw ft.init.lookup ft.made hne prog w A.in1 _ s₁ ⟨hT,(show wants (fun r s₂=>r=.none∧Q obj s₂) E (.ok (.ret .none)) s₁ from⟨rfl,hq⟩)⟩))) fun r₂ s₂ hr₂=>?_
  match r₂,hr₂ with
  | .error e,hr₂=>exact hr₂
  | .ok (.ret r),hr₂=>
   obtain⟨rfl,hq⟩:=hr₂
   repeat (any_goals (first|assumption|wp_step))
end
theorem enum_new1 (l:Addr)(items:Array Value)(n:Nat)(dct:Option Addr)(sl:Array (Option Value))(t:Tok):
  Meets (Builtin.«enumerate.__new__» ⟨[.type "enumerate",.ref l],[("start",.int 1 t)]⟩) (fun _ R s=>s.heap.get? l=some {cls:=.type "list",dict:=dct,data:=.seq items n,slots:=sl}∧
   R (.ok (.ret (.ref (s.heap.push {cls:=.type "list_iterator",data:=.fields #[.ref l,.int 0 0]}).objs.size)))
    {s with heap:=(s.heap.push {cls:=.type "list_iterator",data:=.fields #[.ref l,.int 0 0]}).push {cls:=.type "enumerate",data:=.fields #[.none,.bool false,.ref s.heap.objs.size,rawInt 1,.none,.none]}}):=
 .of_wp fun prog w A R s h=>by
  obtain⟨hp,g,d,tk,os⟩:=s;obtain⟨hl,h⟩:=h
  have hsub:=sub_enumerate
  have hL:Heap.IsList (Shared.heap ⟨hp,g,d,tk,os⟩) l items:=⟨_,hl,rfl,n,rfl⟩
  wp_walk using wpAny_loadPart' hl
  refine wpAny_stack_any fun st=>wpAny_pure ?_
  split
  ·rename_i c _ _ _ _ _
   cases(c==Value.type "enumerate")
   ·wp_walk using wpAny_loadPart' hl,wpAny_pyIter_list hL
    exact⟨_,rfl,h⟩
   ·wp_walk using wpAny_loadPart' hl,wpAny_pyIter_list hL
    exact⟨_,rfl,h⟩
  ·wp_walk using wpAny_loadPart' hl,wpAny_pyIter_list hL
   exact⟨_,rfl,h⟩
theorem enum_call1 {prog:Program}{w:World}{A:Around}{E:Value→Shared→Prop}{s:Shared}{l:Addr}{items:Array Value}{t:Tok}{Q:Value→Shared→Prop}(hL:s.heap.IsList l items)
  (h:∀h',IsEnum h' (s.heap.objs.size+1) s.heap.objs.size 1 .none→h'.IsListIter s.heap.objs.size l 0→
   (∀b o,s.heap.get? b=some o→h'.get? b=some o)→Q (.ref (s.heap.objs.size+1)) {s with heap:=h'}):
  wpAny (model prog w) A (call (.type "enumerate") [.ref l] [("start",.int 1 t)]) Q E s:=by
 obtain⟨⟨c,dct,dt,sl⟩,hl,hc,n,hd⟩:=hL
 replace hc:c=.type "list" :=hc
 replace hd:dt=.seq items n:=hd
 subst hc hd
 refine callTy_kw F.called_enumerate (by decide) (by kernel_rfl) (by kernel_rfl) (fun obj=>by kernel_rfl) F.entry_enumerate_new (enum_new1 l items n dct sl t) ⟨hl,?_⟩
 have hz:(s.heap.push {cls:=.type "list_iterator",data:=.fields #[.ref l,.int 0 0]}).objs.size=s.heap.objs.size+1:=Heap.size_push ..
 show _∧_
 rw[hz]
 have he:IsEnum ((s.heap.push {cls:=.type "list_iterator",data:=.fields #[.ref l,.int 0 0]}).push
   {cls:=.type "enumerate",data:=.fields #[.none,.bool false,.ref s.heap.objs.size,rawInt 1,.none,.none]}) (s.heap.objs.size+1) s.heap.objs.size 1 .none:=by
  rw[←hz];exact Heap.get?_push_size _ rfl
 exact⟨⟨_,he,rfl⟩,h _ he ⟨_,Heap.get?_push_of_some _ (Heap.get?_push_size _ rfl),rfl,rfl⟩ fun b o x=>Heap.get?_push_of_some _ (Heap.get?_push_of_some _ x)⟩
theorem draws_up {prog:Program}{w:World}{A:Around}{it:Addr}{fp:List Addr}{n:Nat}{P:Nat→Value→Prop}{St:Nat→Heap→Prop}(D:Draws prog w A it fp n P St):
  Draws prog w A it fp (n+1) (fun j v=>∃i,j=i+1∧P i v) (fun j h=>∃i,j=i+1∧St i h) where
 live:=fun j h ⟨i,_,st⟩=>D.live i h st
 frame:=fun j h h' ⟨i,e,st⟩ k=>⟨i,e,D.frame i h h' st k⟩
 item:=fun j s Q E hj ⟨i,e,st⟩ hQ=>by
  subst e
  exact D.item i s Q E (by omega) st fun x h' tk p st' sb=>hQ x h' tk ⟨i,rfl,p⟩ ⟨i+1,rfl,st'⟩ sb
 done:=fun s Q E ⟨i,e,st⟩ hE=>by
  have e':n=i:=by omega
  subst e'
  exact D.done s Q E st hE
theorem Inv.turnedLaid {X:Cx}{pins:List (Addr×Obj)}{σ:St}{H:Hp}{s:Shared}{h':Heap}{t':Nat}{a:Addr}{o:HO}{fp:List Addr}(I:Inv X pins σ H s)(hf:∀b∈fp,FpOk X pins H b)
  (k:∀b u,b∉fp→s.heap.get? b=some u→h'.get? b=some u) (hn:s.heap.get? a=none) (new:ObjOk X.prog X.w (upd H a o) h' a o):Inv X pins σ (upd H a o) {s with heap:=h',toks:=t'}:=by
 have hHa:H a=none:=I.hok.none_of hn
 have trk:∀b u,H b=some u→b∉fp:=fun b u e z=>by rw[(hf b z).1] at e;cases e
 have nea:∀b u,s.heap.get? b=some u→b≠a:=fun b u e z=>by rw[z,hn] at e;cases e
 refine I.step (g':=s.gens) (d':=s.drawn) (ch:=fp) (fun b hb=>⟨(hf b hb).2.2.2.1,(hf b hb).2.1,(hf b hb).2.2.2.2.1,(hf b hb).2.2.2.2.2⟩) (fun b u _ _ hc e _=>k b u hc e) (fun b u _ _ hc e _=>⟨u.slots,k b u hc e⟩) (fun b u _ e n=>by rw[upd_ne (nea b u e)];exact n)
  (fun b u hc e=>⟨u,k b u hc e⟩) (fun b xs e=>by rw[upd_ne (ne_of_none e hHa)];exact e) (fun b u xs e=>by rw[upd_ne (ne_of_none e hHa)];exact e) (fun b ps e=>⟨#[],by rw[upd_ne (ne_of_none e hHa),e];simp⟩) (fun m hm=>?_) (fun b u e=>?_) I.bare
 ·obtain⟨o',es,ep,ho,r⟩:=hm
  exact⟨o',es,ep,k _ o' (fun z=>(hf _ z).2.1 rfl) ho,r⟩
 ·by_cases hb:b=a
  ·subst hb;rw[upd_same] at e;cases e;exact new
  ·rw[upd_ne hb] at e
   refine(I.hok b u e).stay (fun c v hc q=>k c v ?_ q) (fun c q=>by rw[upd_ne (ne_of_none q hHa)];exact q) fun c xs q=>by rw[upd_ne (ne_of_none q hHa)];exact q
   rcases hc with rfl|hc
   ·exact trk _ _ e
   ·exact trk _ _ hc
noncomputable def Ite (K:PySem.W.Frag) (a:Addr):It:=
 ⟨fun i H=>∃xs x,SqL K H a xs∧xs[i]?=some x,fun i H x H'=>∃p y,H p=none∧x=.ref p∧H'=upd H p (.tup [.int ((i+1:Nat):Int),y])∧∀xs,SqL K H a xs→xs[i]?=some y,fun i H=>∃xs,SqL K H a xs∧xs.length≤i⟩
theorem turn_enum {P:Program}{w:World}{K:PySem.W.Frag}{elts:List Expr}{x1:Nat}{pos:Pos}(a e it:Addr)(hne:e≠it):Turn P w K (.Tuple elts x1 pos) (Ite K a) [e,it] e (fun i h=>(∃old,IsEnum h e it ((i+1:Nat):Int) old)∧h.IsListIter it a i) where
 mem:=by simp
 obj:=fun i h st b hb=>by
  obtain⟨⟨old,he⟩,o,ho,hc,hd⟩:=st
  rcases List.mem_cons.mp hb with rfl|hb
  ·exact⟨_,he,fun v z=>by
    have z':Data.fields _=Data.cell v:=z
    cases z'⟩
  ·rw[List.mem_singleton.mp hb]
   exact⟨o,ho,fun v z=>by rw[hd] at z;cases z⟩
 keep:=fun i h h' ⟨⟨old,he⟩,st⟩ k=>⟨⟨old,k e (by simp) _ he⟩,st.at fun o q=>k it (by simp) o q⟩
 item:=by
  intro X hP hw hK hc i pins s σ H E I hf st hg
  subst hP hw hK
  obtain⟨xs,x,hq,hx⟩:=hg
  obtain⟨⟨old,he⟩,hit⟩:=st
  obtain⟨its,rv,p,hz⟩:=I.list hq
  obtain⟨u,hu,ru⟩:=rv.get hx
  have hl:s.heap.IsList a its.toArray:=p.isList
  obtain⟨ol,hol,hlc,_⟩:=id hl
  obtain⟨oi,hoi,hic,_⟩:=id hit
  have hai:a≠it:=fun z=>by
   rw[z,hoi] at hol;cases hol
   rw[hic] at hlc;exact absurd hlc (by decide)
  have hae:a≠e:=fun z=>by
   rw[z,he] at hol;cases hol
   exact absurd (show Value.type "enumerate" =Value.type "list" from hlc) (by decide)
  have D:=draws_up (Draws.list (prog:=X.prog) (w:=X.w) (A:=X.A.in1) (I.ok.hd hc) it a hai its.toArray)
  have hlt:i<its.length:=(List.getElem?_eq_some_iff.mp hu).1
  have heS:e<s.heap.objs.size:=Heap.lt_size he
  have hiS:it<s.heap.objs.size:=Heap.lt_size hoi
  have nT:s.heap.get? s.heap.objs.size=none:=Heap.get?_none_of_le (Nat.le_refl _)
  refine wpAny_pyNext_enum_itemD D he ⟨i,rfl,hit,hl⟩ (by simp;omega) hne (by simp[hne,Ne.symm hae]) fun x' h' tk hP ho hs' hT hsz hk=>⟨_,rfl,?_⟩
  refine wpAny_letOwnedTupleGo_enum (s:={s with heap:=h',toks:=tk+1}) ho fun h2 he2 sb=>?_
  replace sb:Heap.SameBut e h' h2:=sb
  obtain⟨i',ei,hx'⟩:=hP
  have ei':i'=i:=by omega
  subst ei'
  have eu:x'=u:=by
   have:its.toArray[i']?=some u:=by simpa using hu
   rw[this] at hx';exact(Option.some.inj hx').symm
  subst eu
  obtain⟨j,ej,hsj⟩:=hs'
  have ej':j=i'+1:=by omega
  subst ej'
  have hT2:h2.get? s.heap.objs.size=some {cls:=.type "tuple",data:=.seq #[.int ((i'+1:Nat):Int) tk,x']}:=(sb.2 _ (Nat.ne_of_gt heS)).trans hT
  refine⟨.ref s.heap.objs.size,upd H s.heap.objs.size (.tup [.int ((i'+1:Nat):Int),x]),Inv.turnedLaid (s:=s) (h':=h2) (fp:=[e,it]) (t':=tk+1) I hf (fun b v hb q=>?_) nT ?_,rfl,⟨_,x,I.hok.none_of nT,rfl,rfl,fun ys hy=>by rw[I.list_inj hy hq];exact hx⟩,⟨⟨x',?_⟩,?_⟩,fun b hb=>?_⟩
  ·have hbe:b≠e:=fun z=>hb (by simp[z])
   exact(sb.2 b hbe).trans (hk b v hbe (fun z=>hb (by simp[z])) q)
  ·exact⟨by show 2≤sizeLine;decide,_,.cons ⟨tk,rfl⟩ (.cons ru .nil),_,hT2,rfl,_,rfl⟩
  ·have:((i'+1+1:Nat):Int)=((i'+1:Nat):Int)+1:=by push_cast;rfl
   rw[this];exact he2
  ·exact hsj.1.at fun o q=>(sb.2 it (Ne.symm hne)).trans q
  ·have hb':b<s.heap.objs.size:=by
    rcases List.mem_cons.mp hb with rfl|hb
    ·exact heS
    ·rw[List.mem_singleton.mp hb];exact hiS
   rw[upd_ne (Nat.ne_of_lt hb')];exact(hf b hb).1
 done:=by
  intro X hP hw hK hc i pins s σ H E I hf st hg
  subst hP hw hK
  obtain⟨xs,hq,hx⟩:=hg
  obtain⟨⟨old,he⟩,hit⟩:=st
  obtain⟨its,rv,p,hz⟩:=I.list hq
  have hll:=rv.length
  have hl:s.heap.IsList a its.toArray:=p.isList
  obtain⟨ol,hol,hlc,_⟩:=id hl
  obtain⟨oi,hoi,hic,_⟩:=id hit
  have hT:s.TypeIs (.ref e) "enumerate" :=⟨_,he,rfl⟩
  obtain⟨f0,f1,f2,f3,f4,f5⟩:=hf it (by simp)
  unfold pyNext
  refine wpAny_bind (wpAny_attempt (wpAny_callSpecial?_slot (name:=Str.ofString "__next__") hT F.slot_enumerate_next
   (wpAny_call_entry F.slot_enumerate_next hT F.entry_enumerate_next ?_ (F.args_enumerate_next_1 _))))
  show wpAny _ _ (field (.ref e) 2>>=_) _ _ _
  refine wpAny_bind (wpAny_field he rfl (x:=.ref it) rfl ?_)
  refine wpAny_bind (wpAny_nextOf_list_end (I.ok.hd hc) hit hl (by simp;omega) fun h' y eb hy=>?_)
  obtain⟨o,ho,hoc⟩:=hy
  refine wpAny_bind (wpAny_isInstance (T:= "StopIteration") (b:=true) ⟨o,ho,hoc⟩ isSubtype_stop ?_)
  exact wpAny_pure ⟨rfl,I.turned (t':=s.toks) (fun b o hb e=>eb b o hb e) f0 f1 f3 f4 f5⟩
 self:=fun _ _ _ _ _ ⟨⟨_,he⟩,_⟩ h=>wpAny_pyIter_enum he h
def iEnum (K:PySem.W.Frag) (tl:TA):TI:=fun σ H R=>tl σ H fun vs H1=>∃a,vs=[.ref a]∧(∃xs,SqL K H1 a xs)∧R (Ite K a) H1
theorem callWith_tykw {M:Model}{A:Around}{E:Value→Shared→Prop}{s:Shared}{pos:Pos}{T:String}{args:List (Bool×Sem Value)}{keywords:List (Option Str×Sem Value)}{Q:Value→Shared→Prop}
  (hplain:args.any (·.1)=false) (hkw:keywords.any (·.1.isNone)=false)
  (h:wpAny M A (evalArgs (.type T) true args keywords) (fun a s₁=>wpAny M A (call (.type T) a.pos a.kw) Q E s₁) E s):
  wpAny M A (callWith pos (.type T) [] args keywords) Q E s:=by
 unfold callWith
 refine wpAny_bind (wpAny_holding (wpAny_mono h (fun a s₁ h₁=>wpAny_bind (wpAny_standAt ?_)) fun _ _ x=>x))
 simp only[hplain,hkw,Bool.or_false]
 refine wpAny_bind (wpAny_pure ?_)
 exact wpAny_bind (wpAny_mono h₁ (fun r s₂ hr=>wpAny_bind (wpAny_holding (wpAny_point (wpAny_pure hr)))) fun _ _ x=>x)
section
variable {X:Cx}
theorem pi_enum1 {l:Expr}{ta:TA}{elts:List Expr}{x1 k:Nat}{p pos pt pc kp:Pos}(hg:Gl X "enumerate")(hm:X.mg "enumerate" =none)(hv:bootBuiltins "enumerate" =some (.type "enumerate"))(ha:PA X [l] ta)
  (he:starEach [l] X.env=[(false,eval l X.env)]:=by rfl):
  PI X (.Tuple elts x1 pt) (.Call (.Name "enumerate" p) [l] [⟨some "start",.Constant (.int 1) k pc,kp⟩] pos) (iEnum X.K ta):=by
 intro pins s σ H R I h
 refine wpAny_Call_Name_kw (ld_blt I hg hm hv ?_ (by decide) (by decide))
 have ha':=ha pos pins s σ H _ I h
 rw[he] at ha'⊢
 refine callWith_tykw rfl rfl (evalArgs_kwB (rest:=[]) rfl (thn ha' fun us s1 ⟨vs,H1,I1,r1,q1⟩=>?_))
 obtain⟨a,rfl,⟨xs,hq⟩,q⟩:=q1
 obtain⟨u,rfl,ru⟩:=vals1 r1
 cases ru
 refine kws_cons (thn (pe_int pins s1 σ H1 (fun v H'=>v=.int 1∧H'=H1) I1 ⟨rfl,rfl⟩) fun v s2 ⟨x,H2,I2,r2,e1,e2⟩=>?_)
 subst e1 e2
 obtain⟨t,rfl⟩:=r2
 refine kws_nil ?_
 obtain⟨its,rv,pl,hz⟩:=I2.list hq
 refine enum_call1 pl.isList fun h' he' hit' kk=>?_
 refine wpAny_pyIter_enum (s:={s2 with heap:=h'}) he' ?_
 refine⟨s2.heap.objs.size+1,[s2.heap.objs.size+1,s2.heap.objs.size],_,_,H2,rfl,I2.kept (t':=s2.toks) kk,turn_enum a _ _ (Nat.succ_ne_self _),⟨⟨_,he'⟩,hit'⟩,fun b hb=>?_,q⟩
 have hb':s2.heap.objs.size≤b:=by
  rcases List.mem_cons.mp hb with rfl|hb
  ·exact Nat.le_succ _
  ·rw[List.mem_singleton.mp hb];exact Nat.le_refl _
 exact I2.fpOk hb' (I2.hok.fresh hb')
theorem rep_cat (a:Array Nat):∀(m:Nat) (acc:Array Nat),((List.replicate m a).foldl (· ++ ·) acc).toList=acc.toList++(List.replicate m a.toList).flatten
 |0,acc=>by simp
 |m+1,acc=>by rw[List.replicate_succ,List.foldl_cons,rep_cat a m];simp[List.replicate_succ]
def rRepS:R2:=fun x y H Q=>∃z k,x=.str z∧y=.int k∧0≤k∧k≤100∧z.length≤100∧∀r,cp r=(List.replicate k.toNat (cp z)).flatten→Q (.str r) H
theorem op_repS:OpR X (binaryOp .Mult) rRepS:=by
 intro pins s σ H x y v u Q I rx ry h
 obtain⟨z,k,rfl,rfl,h1,h2,hz,q⟩:=h
 obtain⟨t,rfl⟩:=rx
 obtain⟨t',rfl⟩:=ry
 have hm:z.length*k.toNat≤100*100:=Nat.mul_le_mul hz (by omega)
 have hs:z.length*k.toNat≤sizeLine:=Nat.le_trans hm (by decide)
 refine P.mul_str ?_ (fun _ _=>?_) (fun _ _=>?_) ?_
 ·rw[decide_eq_false (by omega),decide_eq_false (by omega)];rfl
 ·have:(100:Int)≤(2^63 - 1)/k:=by
   by_cases hk:k=0
   ·omega
   ·exact Int.le_ediv_of_mul_le (by omega) (by omega)
  omega
 ·unfold Builtin.Str.tooLong;exact decide_eq_false (by omega)
 ·by_cases h0:k<1
  ·rw[if_pos h0]
   have e:k=0:=by omega
   subst e
   exact⟨by decide,.str _,H,I.tok _,⟨_,rfl⟩,q _ rfl⟩
  ·rw[if_neg h0]
   split
   ·rename_i hh
    refine⟨.str z,H,I,⟨t,rfl⟩,q _ ?_⟩
    rcases Bool.or_eq_true .. |>.mp hh with hh|hh
    ·have e:k=1:=by simpa using hh
     subst e
     simp
    ·have e:z.length=0:=by simpa using hh
     have e':cp z=[]:=List.eq_nil_of_length_eq_zero (by rw[Array.length_toList];exact e)
     rw[e'];simp
   ·have hc:=rep_cat z.cps k.toNat #[]
    refine⟨?_,.str _,H,I.tok _,⟨_,rfl⟩,q _ (by simpa using hc)⟩
    have:(List.replicate k.toNat (cp z)).flatten.length=k.toNat*(cp z).length:=len_rep _ _
    show(List.foldl (· ++ ·) #[] (List.replicate k.toNat z.cps)).size≤sizeLine
    rw[←Array.length_toList,hc]
    simp only[List.nil_append,this,Array.length_toList]
    rw[Nat.mul_comm];exact hs
end
inductive Cs (A:Around) (s:Shared) (op:CmpOp):List Value→List Value→List (Bool×Bool)→Prop
 |nil:Cs A s op [] [] []
 |cons {v w:Value} {e b:Bool} {vs ws:List Value} {cs:List (Bool×Bool)} (he:SeqAt.EqAt A s v w e)
   (hb:e=false→∀(prog:Program) (w':World) (E:Value→Shared→Prop) (Q:Value→Shared→Prop),Q (.bool b) s→wpAny (model prog w') A (richCompare op v w) Q E s) (t:Cs A s op vs ws cs):Cs A s op (v::vs) (w::ws) ((e,b)::cs)
noncomputable def res:List (Bool×Bool)→Bool→Bool
 |[],z=>z
 |(true,_)::r,z=>res r z
 |(false,b)::_,_=>b
theorem Cs.len {A:Around}{s:Shared}{op:CmpOp}:∀{vs ws:List Value} {cs:List (Bool×Bool)},Cs A s op vs ws cs→vs.length=ws.length
 |_,_,_,.nil=>rfl
 |_,_,_,.cons _ _ t=>by rw[List.length_cons,List.length_cons,t.len]
section
open PySem.SeqAt
open PySem.AutoSeq1 (wpAny_loadPart')
open PySem.MeetsSeq PySem.MeetsSeq2 PySem.MeetsSeq3
theorem tuple_le_cs (l b:Addr)(items items2:Array Value)(n n2:Nat)(dd dd2:Option Addr)(sl sl2:Array (Option Value)):
  Meets (Builtin.«tuple.__le__» ⟨[.ref l,.ref b],[]⟩)
   (fun A R s=>s.heap.get? l=some {cls:=.type "tuple",dict:=dd,data:=.seq items n,slots:=sl}∧s.heap.get? b=some {cls:=.type "tuple",dict:=dd2,data:=.seq items2 n2,slots:=sl2}∧
    ∃cs,Cs A.in1 s .LtE items.toList items2.toList cs∧R (.ok (.ret (.bool (res cs true)))) s):=
 .of_wp fun prog w A R s h=>by
  obtain⟨hp,g,d,tk,os⟩:=s;obtain⟨hl,hb,cs,hcs,h⟩:=h
  have f2:=AutoSeq1.sub_tuple_tuple
  have z1:items.size=items2.size:=by have:=hcs.len;simpa using this
  wp_walk using wpAny_loadPart' hl,wpAny_loadPart' hb,wpAny_forIn_list _ (fun rest b s'=>b.1=none∧s'=⟨hp,g,d,tk,os⟩∧∃(vs ws:List Value) (cs:List (Bool×Bool)),rest=vs.zip ws∧
   Cs A.in1 ⟨hp,g,d,tk,os⟩ .LtE vs ws cs∧R (.ok (.ret (.bool (res cs true)))) ⟨hp,g,d,tk,os⟩) _
  case turn=>
   rintro⟨y,x⟩ rest b s' ⟨hb',rfl,vs,ws,cs,hz,hc,hR⟩
   cases hc with
   |nil=>rw[List.zip_nil_left] at hz;cases hz
   | @cons v w' e b' vs ws cs he hri t=>
     rw[List.zip_cons_cons] at hz
     injection hz with hyx hrest
     injection hyx with hy hx
     subst hy hx
     refine wpAny_bind (he prog w _ _ ?_)
     cases e with
     |true=>
      wp_walk
      exact⟨rfl,rfl,_,_,_,hrest,t,hR⟩
     |false=>
      have hri:=hri rfl prog w
      wp_walk using hri
      exact⟨_,rfl,by simpa[res] using hR⟩
  case fin=>
   rintro⟨b1,b2⟩ s' ⟨hb',rfl,vs,ws,cs,hz,hc,hR⟩
   simp only at hb'
   subst hb'
   cases hc with
   |cons he hri t=>rw[List.zip_cons_cons] at hz;cases hz
   |nil=>
    wp_walk
    exact⟨_,rfl,by simpa[Builtin.Tuple.tupleCompareSizes,z1,res] using hR⟩
  case h=>
   exact⟨rfl,rfl,items.toList,items2.toList,cs,rfl,hcs,h⟩
end
section
variable {X:Cx}
theorem eqInt (A:Around)(s:Shared)(p:Int)(t1:Tok)(p':Int)(t2:Tok):SeqAt.EqAt A s (.int p t1) (.int p' t2) (decide (p=p')):=by
 have:=SeqAt.EqAt.int_int (A:=A) (s:=s) p t1 p' t2
 rw[show(p==p')=decide (p=p') from by simp[Bool.beq_eq_decide_eq]] at this
 exact this
theorem rcLe_int (A:Around)(s:Shared)(a:Int)(t:Tok)(c:Int)(u:Tok)(prog:Program)(w:World)(E:Value→Shared→Prop)(Q:Value→Shared→Prop)(h:Q (.bool (decide (a≤c))) s):
  wpAny (model prog w) A (richCompare .LtE (.int a t) (.int c u)) Q E s:=
 (PyProof.Rows.le_int h:wpAny (model prog w) A (compareOp .LtE (.int a t) (.int c u)) Q E s)
end
section
variable {prog:Program} {w:World} {A:Around} {E:Value→Shared→Prop} {s:Shared}
end
section
variable {X:Cx} {pins:List (Addr×Obj)} {σ:St} {H:Hp} {s:Shared} {a:Addr} {A:Around} {E:Value→Shared→Prop}
end
def tDNewE:TE:=fun _ H Q=>∀p,H p=none→Q (.ref p) (upd H p (.dK []))∨Q (.ref p) (upd H p (.dT []))
theorem pe_dnewE {X:Cx}{pos:Pos}:PE X (.Dict [] [] pos) tDNewE:=fun pins s σ H Q I h=>by
 rcases h _ (I.hok.fresh (Nat.le_refl _)) with q|q
 ·exact wpAny_Dict_empty ⟨.ref s.heap.objs.size,_,I.laid (a:=s.heap.objs.size) (o:=.dK []) (t':=s.toks) (fun _ _ q=>Heap.get?_push_of_some _ q) (Nat.le_refl _) (dk_empty s.heap I.big),rfl,q⟩
 ·exact wpAny_Dict_empty ⟨.ref s.heap.objs.size,_,I.laid (a:=s.heap.objs.size) (o:=.dT []) (t':=s.toks) (fun _ _ q=>Heap.get?_push_of_some _ q) (Nat.le_refl _) (dt_empty s.heap I.big),rfl,q⟩
section
variable {prog:Program} {w:World} {K:Type} [DecidableEq K] {knd:HeapKind prog w K} {A:Around} {E:Value→Shared→Prop} {s:Shared}
end
section
variable {X:Cx}
end
section
variable {prog:Program} {w:World} {A:Around} {E:Value→Shared→Prop} {s:Shared} {I:Addr} {fp wr:List Addr} {G:Array GenState→Array GenState→Prop} {n:Nat} {P:Nat→Value→Prop} {St:Nat→Shared→Prop}
end
theorem Room.one {k:Nat}{A:Around}(r:Room k A):A.units+1<cLine:=by have:=r.un;omega
section
variable {X:Cx} {pins:List (Addr×Obj)} {σ:St} {H:Hp} {s:Shared} {d:Addr} {u:HO} {o:Obj}
end
section
variable {prog:Program} {w:World} {A:Around} {E:Value→Shared→Prop} {s:Shared} {d it:Addr} {o:Obj} {es:Array DictEntry} {i ep:Nat}
end
section
variable {prog:Program} {w:World} {A:Around} {E:Value→Shared→Prop} {s:Shared} {d it v:Addr} {o:Obj} {es:Array DictEntry} {i ep:Nat} {ok ov:Value}
end
section
variable {X:Cx}
end
section
variable {prog:Program} {w:World} {A:Around} {E:Value→Shared→Prop} {s:Shared} {d:Addr} {o:Obj} {es:Array DictEntry} {ep:Nat}
theorem len_raw {Q:Value→Shared→Prop}(hd:(d==sysModules)=false)(ho:s.heap.get? d=some o)(hc:o.ExactDict)(hdat:o.data=.dict es ep)(hz:es.size≤sizeLine)
  (h:Q (.int es.size (s.toks+1)) {s with toks:=s.toks+1+1}):wpAny (model prog w) A (call (.builtin "len") [.ref d]) Q E s:=by
 have hT:s.TypeIs (.ref d) "dict" :=⟨o,ho,hc.1⟩
 have hsl:sizeLine=2^24:=rfl
 refine PyProof.Rows.call_len_slot (n:=es.size) hT F.slot_dict_len (fun Q' hq=>wpAny_call_entry F.slot_dict_len hT F.entry_dict_len ?_ (F.args_dict_len_1 _)) (by omega) (by omega) h
 show wpAny _ _ (dictSize d>>=_) _ _ s
 unfold dictSize
 refine wpAny_bind (wpAny_bind (wpAny_dictEntries ho hdat (wpAny_pure ?_)))
 show wpAny _ _ (Builtin.Dict.pendingCount d>>=_) _ _ s
 refine wpAny_bind (wpAny_pendingCount_other hd (wpAny_ret_mkInt ?_))
 simpa using hq
end
section
variable {X:Cx}
theorem call_lenDT:CallR X (.builtin "len") (fun xs H Q=>∃a kvs,xs=[V.ref a]∧Rd H a (.dT kvs)∧Q (.int kvs.length) H):=by
 intro pins s σ H xs us Q I r h
 obtain⟨a,kvs,rfl,ha,q⟩:=h
 obtain⟨u,rfl,ru⟩:=vals1 r
 cases ru
 obtain⟨z,hd,xs,rel,o,es,ep,ho,hc,hdat,he,_⟩:=dt_rd I.hok ha
 have e1:=size_of_entries he
 have e2:=Paired.length rel
 refine len_raw hd ho hc hdat (by omega) ⟨.int kvs.length,H,I.tok _,⟨s.toks+1,?_⟩,q⟩
 rw[e1,e2]
end
section
variable {X:Cx}
theorem all_true (n:Nat):((List.range n).all fun _=>true)=true:=by simp
end
section
variable {prog:Program} {w:World} {A:Around} {E:Value→Shared→Prop} {s:Shared}
end
section
variable {prog:Program} {w:World} {A:Around} {R:Result→Shared→Prop} {I:Addr} {fp wr:List Addr} {G:Array GenState→Array GenState→Prop} {n:Nat} {P:Nat→Value→Prop} {St:Nat→Shared→Prop}
end
noncomputable def stO (a:Addr) (n:Nat):HO:=.ext fun h=>∃o es ep t,h.get? a=some o∧o.ExactSet∧o.data=.set es ep t∧SetTable.fits t es.size=true∧es.size=n
section
variable {X:Cx} {C:Addr} {k:Nat} {ps:List Str} {sp:Sp} {m:Str} {pos apos:Pos} {e o:Expr} {es:List Expr} {t:TA}
end
section
variable {P:Program} {w:World} {K:PySem.W.Frag} {mg:Str→Option Value} {base:Heap}
end
section
variable {prog:Program} {w:World} {A:Around} {h:Heap} {g:Array GenState} {d:Drawn} {t:Nat} {os:OsState} {a:Addr}
end
section
variable {prog:Program} {w:World} {A:Around} {R:Result→Shared→Prop} {I:Addr} {fp wr:List Addr} {G:Array GenState→Array GenState→Prop} {n:Nat} {P:Nat→Value→Prop} {St:Nat→Shared→Prop} {K:Type} [DecidableEq K]
end
section
variable {prog:Program} {w:World} {A:Around} {E:Value→Shared→Prop} {s:Shared} {K:Type} [DecidableEq K]
end
structure Nx (prog:Program) (w:World) (A:Around) (it src:Addr) (vals:Array Value) (St:Nat→Heap→Prop):Prop where
 obj:∀i h,St i h→∃o vs,h.get? it=some o∧o.data=.fields vs∧o.cls≠.type "zip" ∧∃o',h.get? src=some o'
 keep:∀i h h',St i h→(∀o,h.get? it=some o→h'.get? it=some o)→(∀o,h.get? src=some o→h'.get? src=some o)→St i h'
 item:∀(i:Nat) (s:Shared) (Q:Value→Shared→Prop) (E:Value→Shared→Prop) (x:Value),St i s.heap→vals[i]?=some x→(∀h',St (i+1) h'→Heap.SameBut it s.heap h'→Q x {s with heap:=h'})→wpAny (model prog w) A (Builtin.SmallTypes.nextOf (.ref it)) Q E s
 done:∀(i:Nat) (s:Shared) (Q:Value→Shared→Prop) (E:Value→Shared→Prop),A.handled=none→St i s.heap→vals[i]?=none→
  (∀h' e,Heap.ExtBut it s.heap h'→(∃o,h'.get? e=some o∧o.cls=.type "StopIteration")→E (.ref e) {s with heap:=h'})→wpAny (model prog w) A (Builtin.SmallTypes.nextOf (.ref it)) Q E s
section
variable {prog:Program} {w:World} {A:Around} {E:Value→Shared→Prop} {s:Shared}
end
section
variable {prog:Program} {w:World} {A:Around} {E:Value→Shared→Prop} {s:Shared} {d it v:Addr} {o:Obj} {es:Array DictEntry} {i ep:Nat}
end
section
variable {X:Cx}
end
section
variable {prog:Program} {w:World} {d:Addr} {es:Array DictEntry} {ep:Nat}
end
section
variable {X:Cx}
end
section
variable {X:Cx}
theorem kV_ints:∀c:List Int,(c.map Sum.inl:List Key).map kV=c.map V.int
 |[]=>rfl
 |a::c=>by rw[List.map_cons,List.map_cons,List.map_cons,kV_ints c];rfl
end
section
variable {prog:Program} {w:World} {κ:Type} [DecidableEq κ] {knd:HeapKind prog w κ} {A:Around} {E:Value→Shared→Prop} {s:Shared}
end
section
variable {X:Cx}
end
section
open PySem.SeqAt
open PySem.AutoSeq1 (wpAny_loadPart')
open PySem.MeetsSeq PySem.MeetsSeq2 PySem.MeetsSeq3
end
section
variable {prog:Program} {w:World} {A:Around} {E:Value→Shared→Prop} {s:Shared}
end
section
variable {prog:Program} {w:World} {A:Around} {R:Result→Shared→Prop} {it:Addr} {fp wr:List Addr} {P:Nat→Value→Prop} {St:Nat→Heap→Prop}
end
section
variable {prog:Program} {w:World} {A:Around} {E:Value→Shared→Prop} {s:Shared}
end
section
variable {X:Cx}
end
section
variable {prog:Program} {w:World} {A:Around} {R:Result→Shared→Prop} {it:Addr} {fp wr:List Addr} {P:Nat→Value→Prop} {St:Nat→Heap→Prop}
end
section
variable {prog:Program} {w:World} {A:Around} {E:Value→Shared→Prop} {s:Shared}
end
section
variable {X:Cx}
end
section
variable {X:Cx}
end
noncomputable def drp (H:Hp) (c:Addr):Hp:=fun b=>if b=c then none else H b
theorem drp_same {H:Hp}{c:Addr}:drp H c c=none:=if_pos rfl
theorem drp_ne {H:Hp}{b c:Addr}(h:b≠c):drp H c b=H b:=if_neg h
theorem drp_none {H:Hp}{b c:Addr}(h:H b=none):drp H c b=none:=by
 by_cases e:b=c
 ·rw[e];exact drp_same
 ·rw[drp_ne e];exact h
section
variable {X:Cx} {pins:List (Addr×Obj)} {σ:St} {H:Hp} {s:Shared}
end
section
variable {M:Model} {A:Around} {E:Value→Shared→Prop} {s:Shared} {env:Env} {pos:Pos} {f:Addr} {Q:Value→Shared→Prop}
end
section
variable {X:Cx}
end
section
variable {X:Cx}
end
section
variable {P:Program} {w:World} {K:PySem.W.Frag} {mg:Str→Option Value} {base:Heap}
end
namespace TabA
open SetTable
variable (t:SetTable) (hashAt:Nat→Int) (h:Int)
noncomputable def lp (p:Probe):Probe:={p with j:=(leap t.mask p.i p.perturb).1,more:=runEnd t.mask (leap t.mask p.i p.perturb).1 - (leap t.mask p.i p.perturb).1,i:=(leap t.mask p.i p.perturb).1,perturb:=(leap t.mask p.i p.perturb).2}
variable {t hashAt h}
noncomputable def it (M:Nat):Nat→Nat→Nat
 |0,a=>a
 |k+1,a=>(it M k a*5+1)%M
end TabA
section
variable {prog:Program} {w:World} {A:Around} {E:Value→Shared→Prop} {s:Shared}
end
section
variable {prog:Program} {w:World} {A:Around} {R:Result→Shared→Prop} {I:Addr} {fp wr:List Addr} {G:Array GenState→Array GenState→Prop} {n:Nat} {P:Nat→Value→Prop} {St:Nat→Shared→Prop}
end
end L2
namespace L2
open PySem PySem.Spec PyProof.Rows
section
variable {prog:Program} {w:World} {κ:Type} [DecidableEq κ] {knd:HeapKind prog w κ} {A:Around} {E:Value→Shared→Prop} {s:Shared}
end
section
variable {X:Cx}
end
section
variable {prog:Program} {w:World}
variable {A:Around} {E:Value→Shared→Prop} {s:Shared}
end
section
variable {X:Cx}
end
section
variable {X:Cx}
end
section
variable {X:Cx}
end
section
variable {P:Program} {w:World} {K:PySem.W.Frag} {mg:Str→Option Value} {base:Heap}
end
section
variable {X:Cx}
end
structure KCalleeM (P:Program) (w:World) (K:PySem.W.Frag) (mg:Str→Option Value) (base:Heap) (C:Addr) (x:Str) (k:Nat) (ps:List Str) (sp:Sp):Prop where
 ex:∃f fd,FnOk P w K mg base CX0 k f fd ps sp∧Mk K C f∧mg x=some (.ref C)∧Binds K fd ps []∧Binds K fd ps [Value.none]∧Binds K fd ps [Value.none,Value.none]
section
variable {X:Cx} {C:Addr} {k:Nat} {ps:List Str} {sp:Sp} {x:Str} {p pos:Pos} {e:Expr} {es:List Expr} {t:TA} (G:KCalleeM X.prog X.w X.K X.mg X.base C x k ps sp) (hr:Room (k+1) X.A) (hg:Gl X x) (ha:PA X (e::es) t) (hdb:(x==("__debug__" :Str))=false:=by decide)
  (he:starEach (e::es) X.env=(false,eval e X.env)::starEach es X.env:=by rfl) (hpl:(backTo pos (starEach es X.env)).any (·.1)=false:=by rfl)
include G hr hg ha hdb he hpl
end
section
variable {P:Program} {w:World} {K:PySem.W.Frag} {mg:Str→Option Value} {base:Heap}
end
section
variable {X:Cx}
end
section
variable {prog:Program} {w:World} {A:Around} {R:Result→Shared→Prop} {it:Addr} {fp wr:List Addr} {P:Nat→Value→Prop} {St:Nat→Heap→Prop} {n:Nat}
end
section
variable {prog:Program} {w:World} {A:Around} {E:Value→Shared→Prop} {s:Shared}
end
section
variable {X:Cx}
end
section
variable {X:Cx}
end
section
variable {X:Cx} {pins:List (Addr×Obj)} {σ:St} {H:Hp} {s:Shared} {a:Addr} {C:Value} {cx:Str} {CW:Addr} {np hpos pos:Pos} {b₀:Stmt} {suite:List Stmt} {nm:Option Str} {rest:List ExceptHandler} {D:Ends}
end
section
variable {X:Cx}
end
section
variable {X:Cx} {scope:Scope} {ls ys:List Str} {ix:List Nat} {tg iter elt:Expr} {ifs:List Expr} {pos:Pos} {wi:TI} {g:TG} {tt:TT} {te:TE}
end
section
variable {P:Program} {w:World} {K:PySem.W.Frag} {mg:Str→Option Value} {base:Heap} {N:List Str} {qual:Str} {scope:Scope} {f:Addr} {cd:Value} {A:Around} {outer:List Env} {s₀:Shared} {H₀:Hp} {E:XK}
end
section
variable {X:Cx} {scope:Scope} {ls ys:List Str} {ix:List Nat} {tg iter elt:Expr} {ifs:List Expr} {pos:Pos} {wi:TI} {g:TG} {tt:TT} {te:TE}
end
section
variable {X:Cx}
end
section
variable {X:Cx} {C:Addr} {x:Str} {p pos:Pos}
end
theorem lc_tupG {K:PySem.W.Frag}{a:Addr}{xs:List V}{σ0:St}{g:TG}{tt:TT}{te:TE}{H1:Hp}{D:Addr}{Q:Hp→Prop}(Pv:Nat→St→Hp→Prop)(h0:Pv 0 σ0 (upd H1 D (.lst [])))
  (hl:∀i τ H,i≤xs.length→Pv i τ H→SqT K H a xs)
  (hs:∀i x τ H,xs[i]?=some x→Pv i τ H→g x τ H fun τ2 H2=>tt τ2 H2 fun b H3=>
   if b=true then te τ2 H3 fun v H4=>∃acc,H4 D=some (.lst acc)∧acc.length<sizeLine∧Pv (i+1) τ2 (upd H4 D (.lst (acc++[v]))) else Pv (i+1) τ2 H3)
  (hd:∀τ H,Pv xs.length τ H→Q H):lcW σ0 g tt te (Itt K a) H1 D Q:=by
 refine⟨fun i m τ H=>m=xs.length - i∧i≤xs.length∧Pv i τ H,⟨xs.length,by simp,Nat.zero_le _,h0⟩,?_⟩
 rintro i m τ H ⟨rfl,hi,p⟩
 have q:=hl i τ H hi p
 by_cases hlt:i<xs.length
 ·refine .inr ⟨⟨xs,xs[i],q,by simp[hlt]⟩,Pv (i+1),fun τ' H' p'=>⟨xs.length - (i+1),by omega,rfl,hlt,p'⟩,fun x H' y=>?_⟩
  obtain⟨e,y⟩:=y
  subst e
  exact hs i x τ _ (y xs q) p
 ·have e:i=xs.length:=by omega
  subst e
  exact .inl ⟨⟨xs,q,Nat.le_refl _⟩,hd τ H p⟩
section
open PySem.SeqAt
open PySem.AutoSeq1 (wpAny_loadPart')
open PySem.MeetsSeq PySem.MeetsSeq2 PySem.MeetsSeq3
end
section
variable {prog:Program} {w:World} {A:Around} {E:Value→Shared→Prop} {s:Shared}
end
section
variable {X:Cx}
end
end L2
namespace HT
open PySem PyProof.Rows
section
variable {prog:Program} {w:World} {A:Around} {E:Value→Shared→Prop} {s:Shared}
end
end HT
namespace L2
open PySem PySem.Spec PyProof.Rows
section
open PySem.SeqAt
open PySem.AutoSeq1 (wpAny_loadPart')
open PySem.MeetsSeq PySem.MeetsSeq2 PySem.MeetsSeq3
end
section
variable {X:Cx}
end
structure KCalleeZ (P:Program) (w:World) (K:PySem.W.Frag) (mg:Str→Option Value) (base:Heap) (C:Addr) (x:Str) (k:Nat) (ps:List Str) (sp:Sp) (n:Nat):Prop where
 ex:∃f fd,FnOk P w K mg base CX0 k f fd ps sp∧Mk K C f∧mg x=some (.ref C)∧∀j,j≤n→∃ds,Vals (List.replicate j (.int 0)) ds∧Binds K fd ps ds
section
variable {X:Cx} {C:Addr} {k n:Nat} {ps:List Str} {sp:Sp} {x:Str} {p pos:Pos} {e:Expr} {es:List Expr} {t:TA} (G:KCalleeZ X.prog X.w X.K X.mg X.base C x k ps sp n) (hr:Room (k+1) X.A) (hg:Gl X x) (ha:PA X (e::es) t) (hdb:(x==("__debug__" :Str))=false:=by decide)
  (he:starEach (e::es) X.env=(false,eval e X.env)::starEach es X.env:=by rfl) (hpl:(backTo pos (starEach es X.env)).any (·.1)=false:=by rfl)
include G hr hg ha hdb he hpl
end
section
variable {X:Cx}
end
section
variable {X:Cx}
end
section
variable {X:Cx}
end
section
variable {prog:Program} {w:World} {A:Around} {E:Value→Shared→Prop} {s:Shared}
end
section
variable {prog:Program} {w:World} {A:Around} {R:Result→Shared→Prop} {I:Addr} {fp wr:List Addr} {G:Array GenState→Array GenState→Prop} {n:Nat} {P:Nat→Value→Prop} {St:Nat→Shared→Prop}
end
section
variable {X:Cx} {Ex:St→Value→Hp→Prop} {C:Addr} {k:Nat} {f:Addr} {fd:FuncData} {ps:List Str} {sp:Sp} {x m:Str} {p pos apos:Pos} {e o:Expr} {es:List Expr} {ta:TE} {t:TA}
end
section
variable {P:Program} {w:World} {K:PySem.W.Frag} {mg:Str→Option Value} {base:Heap}
end
section
variable {X:Cx} {C C':Addr} {k k':Nat} {ps ps':List Str} {sp sp':Sp} {m:Str} {pos apos:Pos} {o:Expr} {ta:TE}
end
section
variable {prog:Program} {w:World} {A:Around} {R:Result→Shared→Prop} {I:Addr} {fp wr:List Addr} {G:Array GenState→Array GenState→Prop} {n:Nat} {P:Nat→Value→Prop} {St:Nat→Shared→Prop} {K:Type} [DecidableEq K]
end
section
variable {prog:Program} {w:World} {A:Around} {E:Value→Shared→Prop} {s:Shared} {K:Type} [DecidableEq K]
end
section
variable {X:Cx}
end
section
variable {X:Cx}
end
section
variable {prog:Program} {w:World} {A:Around} {E:Value→Shared→Prop} {s:Shared} {d it:Addr} {o:Obj} {es:Array (Int×Value)} {ep i:Nat} {t:SetTable}
end
section
variable {prog:Program} {w:World} {A:Around} {R:Result→Shared→Prop} {I:Addr} {fp wr:List Addr} {G:Array GenState→Array GenState→Prop} {n:Nat} {P:Nat→Value→Prop} {led:Bool} {St:Nat→Shared→Prop}
end
section
variable {X:Cx}
end
def TrD (h base:Heap) (e:Addr) (cls:Value) (dd:Option Addr) (fl:Value):Prop:=
 ∃oe vs T oT ts,h.get? e=some oe∧oe.cls=cls∧oe.dict=dd∧oe.data=.fields vs∧vs[1]?=some (.ref T)∧base.get? T=none∧T≠e∧h.get? T=some oT∧oT.data=.fields ts∧ts[3]?=some fl
structure FlD (base:Heap) (l:List Env) (e:Addr) (cls:Value) (dd:Option Addr) (fl:Value) (h h':Heap):Prop where
 stay:base.StaysIn h'
 frs:h'.FunFrames base l
 tr:TrD h' base e cls dd fl
 sl:h.UpToSlots h'
theorem dict_mapF (f:Array Value→Array Value)(o:Obj):(Obj.mapFields f o).dict=o.dict:=by obtain⟨_,_,d,_⟩:=o;cases d<;>rfl
section
variable {M:Model} {A:Around} {E:Value→Shared→Prop} {s:Shared} {base:Heap} {env:Env} {outer:List Env} {L e:Addr} {oe:Obj} {vs:Array Value} {Q:Unit→Shared→Prop}
theorem entryD {head:Value}{nx:Bool}(hfr:A.frames=some (env::outer))(hl:s.heap.FunFrames base (env::outer))(hf:env.frame=some L)(he:s.heap.get? e=some oe)(hkb:base.StaysIn s.heap)(hen:base.get? e=none)(hd:oe.data=.fields vs)(hsz:1<vs.size)
  (h:∀h',FlD base (env::outer) e oe.cls oe.dict (rawInt L) s.heap h'→Q () {s with heap:=h'}):
  wpAny M A (do let a←frameOf env;let pl←entryPlaceOf L nx;let b←EntryCells.newEntry head a .none (rawInt L) .none pl;setField (.ref e) 1 b) Q E s:=by
 have hene:e∉(env::outer).filterMap (·.frame):=fun hm=>by
  obtain⟨_,o,ho,hnf⟩:=hl.mem hm
  rw[he] at ho;cases ho;exact hnf vs hd
 refine wpAny_bind (wpAny_frameOf_fun hfr hl hf fun h₁ hs₁=>wpAny_bind (wpAny_entryPlaceOf fun pl hpl=>?_))
 unfold EntryCells.newEntry newFields
 refine wpAny_bind (wpAny_newObj_type ?_ (hpl.sizeOk5 _ _ _ _ _))
 generalize hoT:({cls:=.type "traceback",dict:=none,data:=.fields ([head,.ref L,.none,rawInt L,.none]++(if pl.isEmpty then List.replicate 6 Value.none else pl)).toArray}:Obj)=oT
 have hT3:∃ts,oT.data=.fields ts∧ts[3]?=some (rawInt L):=⟨_,by rw[←hoT],by first|(simp;done)|(rcases hpl with rfl|⟨_,_,_,_,_,_,_,rfl⟩<;>simp)⟩
 obtain⟨ts,hT1,hT2⟩:=hT3
 have he₁:h₁.get? e=some oe:=(hs₁.2.1 e hene).trans he
 have kb₁:base.StaysIn h₁:=fun b o hbo=>(hs₁.2.1 b fun hm=>by rw[(hl.mem hm).1] at hbo;cases hbo).trans (hkb b o hbo)
 have he₂:=Heap.get?_push_of_some (h:=h₁) oT he₁
 refine wpAny_setField he₂ hd hsz (h _ ?_)
 have hTe:h₁.objs.size≠e:=Nat.ne_of_gt (Heap.lt_size he₁)
 have hd₃:=Obj.data_mapFields hd (·.setIfInBounds 1 (Value.ref h₁.objs.size))
 have he₃:=Heap.get?_update_self (Obj.mapFields (·.setIfInBounds 1 (Value.ref h₁.objs.size))) he₂ (Obj.isFreed_of_fields hd₃)
 have hT₃:=(Heap.get?_update_other (h₁.push oT) (Obj.mapFields (·.setIfInBounds 1 (Value.ref h₁.objs.size))) (Ne.symm hTe)).trans (Heap.get?_push_size h₁ (Obj.isFreed_of_fields hT1))
 have keep:∀b o,b≠e→h₁.get? b=some o→((h₁.push oT).update e (Obj.mapFields (·.setIfInBounds 1 (Value.ref h₁.objs.size)))).get? b=some o:=fun b o hbe hb=>by
  rw[Heap.get?_update_other _ _ (Ne.symm hbe)]
  exact Heap.get?_push_of_some _ hb
 have noR:∀b o,s.heap.get? b=some o→(∀vs,o.data≠.fields vs)→b≠e:=fun b o hb hnf q=>by
  rw[q,he] at hb;cases hb;exact hnf vs hd
 refine⟨fun b o hbo=>keep b o (fun q=>by rw[q,hen] at hbo;cases hbo) (kb₁ b o hbo),hl.of_keeps fun b o hb hnf=>?_,?_,fun b o hb hnf=>?_⟩
 ·obtain⟨sl,hs⟩:=hs₁.2.2 b o hb
  exact⟨_,keep b _ (noR b o hb hnf) hs,rfl⟩
 ·exact⟨_,_,h₁.objs.size,_,_,he₃,Obj.cls_mapFields _ _,dict_mapF _ _,hd₃,by simp[hsz],kb₁.fresh,hTe,hT₃,hT1,hT2⟩
 ·obtain⟨sl,hs⟩:=hs₁.2.2 b o hb
  exact⟨sl,keep b _ (noR b o hb hnf) hs⟩
theorem noteD {cls:Value}{dd:Option Addr}(hfr:A.frames=some (env::outer))(hl:s.heap.FunFrames base (env::outer))(hf:env.frame=some L)(ht:TrD s.heap base e cls dd .none)(hkb:base.StaysIn s.heap)(hen:base.get? e=none)
  (h:∀h',FlD base (env::outer) e cls dd (rawInt L) s.heap h'→Q () {s with heap:=h'}):wpAny M A (noteFrame (.ref e) env) Q E s:=by
 obtain⟨oe,vs,T,oT,ts,he,rfl,rfl,hd,h1,hnT,hTe,hT,hdT,h3⟩:=ht
 unfold noteFrame
 simp only[hf]
 refine wpAny_bind (wpAny_field he hd h1 ?_)
 rw[if_pos (show(Value.ref T !=Value.none)=true from by simp)]
 refine wpAny_bind (wpAny_field hT hdT h3 ?_)
 rw[if_neg (show¬((Value.none==rawInt L)=true) from by simp[rawInt])]
 refine wpAny_bind (wpAny_setField hT hdT (Array.getElem?_eq_some_iff.mp h3).1 ?_)
 have other:∀b,b≠T→(s.heap.update T (Obj.mapFields (·.setIfInBounds 3 Value.none))).get? b=s.heap.get? b:=fun b hb=>Heap.get?_update_other _ _ (Ne.symm hb)
 have noR:∀b o,s.heap.get? b=some o→(∀vs,o.data≠.fields vs)→b≠T:=fun b o hb hnf q=>by
  rw[q,hT] at hb;cases hb;exact hnf ts hdT
 exact entryD hfr (hl.of_keeps fun b o hb hnf=>⟨o,(other b (noR b o hb hnf)).trans hb,rfl⟩) hf ((other e (Ne.symm hTe)).trans he) (fun b o hbo=>(other b fun q=>by rw[q,hnT] at hbo;cases hbo).trans (hkb b o hbo)) hen hd (Array.getElem?_eq_some_iff.mp h1).1
  fun h' x=>h h' ⟨x.stay,x.frs,x.tr,fun b o hb hnf=>x.sl b o ((other b (noR b o hb hnf)).trans hb) hnf⟩
theorem flightD {l:List Env}{cls fl:Value}{dd:Option Addr}(hkb:base.StaysIn s.heap)(hl:s.heap.FunFrames base l)(ht:TrD s.heap base e cls dd fl)
  (h:∀h',FlD base l e cls dd .none s.heap h'→(∀b o,s.heap.get? b=some o→(∀vs,o.data≠.fields vs)→h'.get? b=some o)→Q () {s with heap:=h'}):wpAny M A (setFlight (.ref e) none) Q E s:=by
 obtain⟨oe,vs,T,oT,ts,he,hc,hdc,hd,h1,hnT,hTe,hT,hdT,h3⟩:=ht
 have hz:3<ts.size:=(Array.getElem?_eq_some_iff.mp h3).1
 have other:∀b,b≠T→(s.heap.update T (Obj.mapFields (·.setIfInBounds 3 ((none:Option Addr).elim Value.none fun f=>rawInt f)))).get? b=s.heap.get? b:=fun b hb=>Heap.get?_update_other _ _ (Ne.symm hb)
 have noR:∀b o,s.heap.get? b=some o→(∀vs,o.data≠.fields vs)→b≠T:=fun b o hb hnf q=>by
  rw[q,hT] at hb;cases hb;exact hnf ts hdT
 unfold setFlight
 refine wpAny_bind (wpAny_field he hd h1 ?_)
 rw[if_pos (show(Value.ref T !=Value.none)=true from by simp)]
 have kp:∀b o,s.heap.get? b=some o→(∀vs,o.data≠.fields vs)→(s.heap.update T (Obj.mapFields (·.setIfInBounds 3 ((none:Option Addr).elim Value.none fun f=>rawInt f)))).get? b=some o:=fun b o hb hnf=>(other b (noR b o hb hnf)).trans hb
 refine wpAny_setField hT hdT hz (h _ ⟨fun b o hbo=>(other b fun q=>by rw[q,hnT] at hbo;cases hbo).trans (hkb b o hbo),hl.of_keeps fun b o hb hnf=>⟨o,kp b o hb hnf,rfl⟩,?_,fun b o hb hnf=>⟨o.slots,kp b o hb hnf⟩⟩ kp)
 exact⟨oe,vs,T,_,_,(other e (Ne.symm hTe)).trans he,hc,hdc,hd,h1,hnT,hTe,Heap.get?_update_self _ hT (Obj.isFreed_of_fields (Obj.data_mapFields hdT _)),Obj.data_mapFields hdT _,by simp[hz]⟩
theorem leaveD (hfr:A.frames=some (env::outer))(hl:s.heap.FunFrames base (env::outer))(hf:env.frame=some L)(he:s.heap.get? e=some oe)(hkb:base.StaysIn s.heap)(hen:base.get? e=none)(hd:oe.data=.fields vs)(h1:vs[1]?=some .none)
  (h:∀h',FlD base outer e oe.cls oe.dict .none s.heap h'→Q () {s with heap:=h'}):wpAny M A (leaving env (.ref e)) Q E s:=by
 unfold leaving noteFrame
 simp only[hf]
 refine wpAny_bind (wpAny_bind (wpAny_field he hd h1 ?_))
 rw[if_neg (by decide)]
 refine entryD hfr hl hf he hkb hen hd (Array.getElem?_eq_some_iff.mp h1).1 fun h' x=>?_
 refine flightD (s:={s with heap:=h'}) x.stay x.frs x.tr fun h2 y kp=>h h2 ⟨y.stay,y.frs.2.2,y.tr,x.sl.trans y.sl⟩
end
structure FlyE (h:Heap) (a T:Addr) (cls:Value) (D:Addr):Prop where
 ex:∃(oe:Obj) (vs:Array Value) (oT:Obj) (ts:Array Value),h.get? a=some oe∧oe.cls=cls∧oe.dict=some D∧oe.data=.fields vs∧vs[1]?=some (.ref T)∧T≠a∧h.get? T=some oT∧oT.data=.fields ts∧ts[3]?=some .none
noncomputable def CX2 (P:Program) (w:World):CXT:=fun outer H s E e s'=>∃(a T D:Addr) (C:Value) (H':Hp),e=.ref a∧s'.os=s.os∧AllBare s'.gens∧Un (frs outer) [] H H' s.heap s'.heap∧HOk P w H' s'.heap∧
 H' a=none∧H' T=none∧s.heap.get? a=none∧s.heap.get? T=none∧FlyE s'.heap a T C D∧E C (some D) H'
abbrev cx2 (P:Program) (w:World) (K:PySem.W.Frag) (mg:Str→Option Value) (base:Heap) (N:List Str) (qual:Str) (scope:Scope) (f:Addr) (cd:Value) (A:Around) (outer:List Env) (s₀:Shared) (H₀:Hp) (E:XK):Cx:=
 cxOf (CX2 P w) P w K mg base N qual scope f cd A outer s₀ H₀ E
noncomputable def exN (a:Addr) (C:Value) (dd:Option Addr):HO:=.ext fun h=>∃t,h.get? a=some {cls:=C,dict:=dd,data:=.fields #[.ref t,.none,.none,.none,.bool false,.none]}
theorem exN_ok {P:Program}{w:World}{H:Hp}{h:Heap}{a t:Addr}{C:Value}{dd:Option Addr}(e:h.get? a=some {cls:=C,dict:=dd,data:=.fields #[.ref t,.none,.none,.none,.bool false,.none]}):ObjOk P w H h a (exN a C dd):=
 ⟨⟨t,e⟩,⟨_,e⟩,fun _ _ ⟨t,e⟩ k=>⟨t,k _ e⟩⟩
section
variable {X:Cx} {pins:List (Addr×Obj)} {σ:St} {H:Hp} {s:Shared}
theorem drp_of {H:Hp}{a b:Addr}{φ:Heap→Prop}{u:HO}(ha:H a=some (.ext φ))(e:H b=some u)(n:∀φ,u≠.ext φ):drp H a b=some u:=by
 have z:b≠a:=fun z=>by rw[z,ha] at e;cases e;exact n _ rfl
 rw[drp_ne z];exact e
theorem Inv.drop {a:Addr}{φ:Heap→Prop}(I:Inv X pins σ H s)(ha:H a=some (.ext φ)):Inv X pins σ (drp H a) s:=by
 refine⟨I.ok,I.os,I.bare,⟨I.base.keep,I.base.slot,fun b o e n hx=>drp_none (I.base.free b o e n hx),I.base.there,fun b xs e=>drp_of ha (I.base.tups b xs e) (fun _ z=>nomatch z),fun b o u e=>drp_of ha (I.base.frzs b o u e) (fun _ z=>nomatch z),fun b ps e=>?_⟩,I.loc,I.cell,drp_none I.free,fun x c e=>drp_none (I.freeC x c e),
  fun p hp=>let ⟨p1,p2,p3⟩:=I.pin p hp;⟨p1,drp_none p2,p3⟩,fun b u e=>?_,I.len⟩
 ·obtain⟨m,z⟩:=I.base.tbls b ps e
  exact⟨m,drp_of ha z fun _ z=>nomatch z⟩
 ·by_cases hb:b=a
  ·subst hb;rw[drp_same] at e;cases e
  ·rw[drp_ne hb] at e
   exact(I.hok b u e).stay (fun _ _ _ z=>z) (fun c z=>drp_of ha z (fun _ z=>nomatch z)) fun c xs z=>drp_of ha z fun _ z=>nomatch z
end
section
variable {P:Program} {w:World} {K:PySem.W.Frag} {mg:Str→Option Value} {base:Heap} {N:List Str} {qual:Str} {scope:Scope} {f:Addr} {cd:Value} {A:Around} {outer:List Env} {s₀:Shared} {H₀:Hp} {E:XK}
theorem made2 {pins:List (Addr×Obj)}{σ:St}{H:Hp}{s:Shared}{a D:Addr}{C:Value}(I₀:Inv (cx2 P w K mg base N qual scope f cd A outer s₀ H₀ E) pins σ H s)(ha:H a=some (exN a C (some D)))(na:s₀.heap.get? a=none)
  (q:E C (some D) (drp H a)):(cx2 P w K mg base N qual scope f cd A outer s₀ H₀ E).xe (.ref a) s:=by
 obtain⟨t,hat⟩:=(I₀.hok a _ ha).1
 have I:=I₀.drop ha
 revert I
 generalize hH1:drp H a=H1
 have hH1a:H1 a=none:=by rw[←hH1];exact drp_same
 intro I
 rw[hH1] at q
 have fr:∀b,b∈s₀.heap.objs.size::frs outer→H1 b=none∧∃o,s.heap.get? b=some o∧∀vs,o.data≠.fields vs:=fun b hb=>⟨I.stkFree b hb,(I.stack.mem hb).2⟩
 show wpAny (model P w) (A.deeper (envOfC qual scope s₀.heap.objs.size f cd)) (leaving (envOfC qual scope s₀.heap.objs.size f cd) (.ref a)) (fun _ s''=>CX2 P w outer H₀ s₀ E (.ref a) s'') (fun e' s''=>CX2 P w outer H₀ s₀ E e' s'') s
 generalize hBB:PySem.W.hideAll s.heap ([a]++(s₀.heap.objs.size::frs outer))=B
 have hBn:∀b,b∈[a]++(s₀.heap.objs.size::frs outer)→B.get? b=none:=fun b hb=>by rw[←hBB];exact PySem.W.hideAll_none _ hb
 have hkb:B.StaysIn s.heap:=fun b o e=>by rw[←hBB] at e;exact PySem.W.of_hideAll _ e
 have hl:s.heap.FunFrames B (envOfC qual scope s₀.heap.objs.size f cd::outer):=by
  have z:=I.stack
  rw[←hBB]
  exact PySem.W.funFrames_hide z fun env henv L hL=>List.mem_append_right _ (show L∈frs (envOfC qual scope s₀.heap.objs.size f cd::outer) from List.mem_filterMap.mpr ⟨env,henv,hL⟩)
 have hfr:(A.deeper (envOfC qual scope s₀.heap.objs.size f cd)).frames=some (envOfC qual scope s₀.heap.objs.size f cd::outer):=I.ok.frames
 refine leaveD hfr hl rfl hat hkb (hBn a (by simp)) rfl rfl fun h2 x=>?_
 obtain⟨oe',vs',T',oT',ts',he',hc',hdc',hd',h1',hBT,hTa',hoT',hdT',h3'⟩:=x.tr
 have uB:Un (frs outer) [] H₀ H1 s₀.heap s.heap:=I.base
 have hs0L:s₀.heap.get? s₀.heap.objs.size=none:=Heap.get?_none_of_le (Nat.le_refl _)
 have s0n:∀b,s.heap.get? b=none→s₀.heap.get? b=none:=fun b e=>by
  cases q:s₀.heap.get? b with
  |none=>rfl
  |some o=>
   obtain⟨o',z⟩:=I.base.there b o q (show b∉([]:List Addr) by simp)
   rw[e] at z;cases z
 have hslots:∀b o,b∈s₀.heap.objs.size::frs outer→s.heap.get? b=some o→∀vs,o.data≠.fields vs:=fun b o hb e vs d=>by
  obtain⟨o',e',n⟩:=(fr b hb).2
  rw[e] at e';cases e'
  exact n vs d
 have un:=un_pass (fs1:=s₀.heap.objs.size::frs outer) (hid:=[a]) uB B hBB.symm x.stay x.sl (fun b hb=>by rw[List.mem_singleton.mp hb];exact na) (fun b hb=>by
   rcases List.mem_cons.mp hb with rfl|hb
   ·exact .inl hs0L
   ·exact .inr hb) (fun b o hb e=>hslots b o (List.mem_cons_of_mem _ hb) e) (fun b hb=>(fr b hb).1) (fun b hb=>by rw[List.mem_singleton.mp hb];exact hH1a) hslots
 have nget:s.heap.get? T'=none:=by
  cases q:s.heap.get? T' with
  |none=>rfl
  |some o=>
   by_cases hf:T'∈s₀.heap.objs.size::frs outer
   ·obtain⟨sl2,e2⟩:=x.sl T' o q (hslots T' o hf q)
    rw[hoT'] at e2
    have e3:=Option.some.inj e2
    rw[e3] at hdT'
    exact absurd hdT' (hslots T' o hf q ts')
   ·have z:B.get? T'=some o:=by
     rw[←hBB]
     exact PySem.W.hideAll_get _ q fun m=>(List.mem_append.mp m).elim (fun m=>hTa' (List.mem_singleton.mp m)) hf
    rw[hBT] at z;cases z
 refine⟨a,T',D,C,H1,rfl,I.os,I.bare,un,?_,hH1a,I.hok.none_of nget,na,s0n _ nget,⟨oe',vs',oT',ts',he',hc',hdc',hd',h1',hTa',hoT',hdT',h3'⟩,q⟩
 refine I.hok.keepT fun b u hb e=>x.stay b u ?_
 rw[←hBB]
 refine PySem.W.hideAll_get _ e fun m=>?_
 rcases List.mem_append.mp m with m|m
 ·rw[List.mem_singleton.mp m,hH1a] at hb;cases hb
 ·rw[(fr b m).1] at hb;cases hb
end
noncomputable def excInI (K:PySem.W.Frag) (C:Addr) (bmB:List Value) (newId:String) (f:Addr):Bool:=match K.lookup C with
 |some ⟨.type "type",_,.cls cd,sl⟩=>(match cd.mro,sl.toList with
  | .ref C'::bm,[_,_,_,_,some (.builtin n),_]=>C'==C&&n==newId&&!cd.hasDel&&PySem.W.tailIn K bmB bm&&PySem.W.nsOkIn K cd.ns&&PySem.W.nsIn K cd.ns "__init__" ==some (some (.ref f))
  |_,_=>false)
 |_=>false
theorem nsMap_in {K:PySem.W.Frag}{h:Heap}{N:Addr}{n:Str}{v:Value}(X:K.In h)(e:PySem.W.nsOkIn K N=true)(q:PySem.W.nsIn K N n=some (some v)):h.nsMap N n=some v:=by
 have G:h.Ns N (h.nsMap N):=.of_isNs (PySem.W.isNs_of_in X e)
 obtain⟨o,es,ep,ho,hd,_,hf⟩:=G
 unfold PySem.W.nsIn at q
 split at q
 ·rename_i c d es' n' sl z
  have:=X _ _ z
  rw[ho] at this
  cases this
  cases hd
  split at q
  ·rename_i he
   cases q
   rw[←hf]
   unfold nsFind findBy
   rw[←Array.find?_toList,he]
   rfl
  ·split at q<;>cases q
 ·cases q
theorem own_ofI {K:PySem.W.Frag}{h:Heap}{C f:Addr}{bmB:List Value}{newId:String}(Y:K.In h)(z:excInI K C bmB newId f=true):∃bm N nm q bs hdct sn sub ab col dd k0 k1 k2 k3 k5 mN,
  h.get? C=some (excClassObj nm q C N bs bm hdct sn sub ab col dd k0 k1 k2 k3 k5 newId)∧h.Ns N mN∧mN "__init__" =some (.ref f)∧OwnTail h bmB bm:=by
 unfold excInI at z
 split at z
 case h_2=>cases z
 case h_1 dct cls slt hob=>
  split at z
  case h_2=>cases z
  case h_1 C2 tl s0 s1 s2 s3 nn s5 hmro hsl=>
   simp only[Bool.and_eq_true,beq_iff_eq,Bool.not_eq_true'] at z
   obtain⟨⟨⟨⟨⟨rfl,rfl⟩,z3⟩,z4⟩,z5⟩,z6⟩:=z
   obtain⟨v1,v2,v3,v4,v5,v6,v7,v8,v9,v10,v11⟩:=cls
   simp only at hmro z3 z5 z6
   cases hmro;cases z3
   have hs2:slt= #[s0,s1,s2,s3,some (.builtin nn),s5]:=by
    cases slt with|mk ll=>simp only at hsl;rw[hsl]
   cases hs2
   exact⟨tl,v4,v1,v5,v2,v6,v7,v8,v9,v10,dct,s0,s1,s2,s3,s5,_,Y _ _ hob,.of_isNs (PySem.W.isNs_of_in Y z5),nsMap_in Y z5 z6,PySem.W.tail_of_in Y z4⟩
section
variable {prog:Program} {w:World} {A:Around} {E:Value→Shared→Prop} {h:Heap} {g:Array GenState} {d:Drawn} {t:Nat} {os:OsState}
variable {nm q:Str} {C N:Addr} {bs bm bmB:List Value} {hdct:Bool} {sn:List Str} {sub:List Value} {ab:Bool} {col:Option Bool} {dd:Option Addr} {k0 k1 k2 k3 k5:Option Value} {B newId initId:String}
theorem tcall_excI (F:ExcBaseFacts B newId initId bmB)(T:OwnTail h bmB bm){mN:Str→Option Value}{rest:List Value}{fI:Addr}{oI:Obj}{Q:Fin→Shared→Prop}
  (hC:h.get? C=some (excClassObj nm q C N bs bm hdct sn sub ab col dd k0 k1 k2 k3 k5 newId)) (hn:h.Ns N mN) (hi:mN "__init__" =some (.ref fI)) (hfI:h.get? fI=some oI) (hfc:oI.cls=.type "function") (hrest:rest.length≤sizeLine)
  (hq:∀h' e,Heap.MadeExcOf h h' e (.ref C) rest→wpAny (model prog w) A (call (.ref fI) (.ref e::rest)) (fun r s'=>r=.none∧Q (.done (.ret (.ref e))) s') E ⟨h',g,d,t,os⟩):
  wpAny (model prog w) A (Builtin.«type.__call__» ⟨.ref C::rest,[]⟩) Q E ⟨h,g,d,t,os⟩:=by
 repeat (first|with_reducible refine wpAny_loadPart_at hC ?_|with_reducible refine wpAny_madeBy_exc hC ?_|wp_step)
 refine codeAny_call_builtin_code (Code.quiet_builtin _ F.quiet) (wpAny_check_new_subT F T hC ?_)
 refine codeAny_exc_new_subT F T hC ?_ hrest
 show wpAny _ _ _ _ _ _
 generalize h1e:((h.push {cls:=.type "tuple",data:=.seq rest.toArray}).push {cls:=.ref C,data:=.fields #[.ref h.objs.size,.none,.none,.none,.bool false,.none]})=h1
 have kp:∀b o,h.get? b=some o→h1.get? b=some o:=fun b o hb=>by rw[←h1e];exact Heap.get?_push_of_some _ (Heap.get?_push_of_some _ hb)
 have hC₁:=kp _ _ hC
 have hfI₁:=kp _ _ hfI
 have hn₁:h1.Ns N mN:=hn.keeps kp
 have hget:h1.get? (h.objs.size+1)=some {cls:=.ref C,data:=.fields #[.ref h.objs.size,.none,.none,.none,.bool false,.none]}:=by rw[←h1e];heap_get
 have hcC:(Value.ref C::bm).contains (.ref C)=true:=by simp
 unfold isInstance
 repeat (first|with_reducible refine wpAny_loadPart_at hget ?_|(with_reducible refine wpAny_isSubtype_exc hC₁ ?_;rw[hcC])|wp_step)
 show wpAny _ _ (typeLookup (.ref C) _) _ _ _
 refine wpAny_typeLookup_tail hC₁ hn₁ (T.keeps kp) F.mroIs F.init.lookup ?_
 rw[hi]
 refine wpAny_holding (wpAny_bind ?_)
 unfold bindSpecial
 refine wpAny_bind (wpAny_typeOf (T:= "function") ⟨_,hfI₁,hfc⟩ ?_)
 rw[if_pos (by decide)]
 refine wpAny_pure (wpAny_bind (wpAny_mono (hq h1 (h.objs.size+1) ⟨kp,Heap.get?_none_of_le (Nat.le_succ _),h.objs.size,hget,Heap.get?_none_of_le (Nat.le_refl _),?_⟩) (fun r s' hr=>?_) fun _ _ x=>x))
 ·rw[←h1e];exact Heap.get?_push_of_some _ (Heap.get?_push_at rfl rfl)
 ·obtain⟨rfl,hQ⟩:=hr
  wp_walk
  exact hQ
theorem call_excI (F:ExcBaseFacts B newId initId bmB)(T:OwnTail h bmB bm){mN:Str→Option Value}{rest:List Value}{fI:Addr}{oI:Obj}{Q:Value→Shared→Prop}
  (hC:h.get? C=some (excClassObj nm q C N bs bm hdct sn sub ab col dd k0 k1 k2 k3 k5 newId)) (hn:h.Ns N mN) (hi:mN "__init__" =some (.ref fI)) (hfI:h.get? fI=some oI) (hfc:oI.cls=.type "function") (hrest:rest.length≤sizeLine)
  (hq:∀h' e,Heap.MadeExcOf h h' e (.ref C) rest→wpAny (model prog w) (A.under (.builtin "type.__call__" ⟨.ref C::rest,[]⟩)) (call (.ref fI) (.ref e::rest)) (fun r s'=>r=.none∧Q (.ref e) s') E ⟨h',g,d,t,os⟩):
  wpAny (model prog w) A (call (.ref C) rest) Q E ⟨h,g,d,t,os⟩:=by
 have f1:=tc_lookup
 have f2:=tc_bind (.ref C)
 have hT:(⟨h,g,d,t,os⟩:Shared).TypeIs (.ref C) "type" :=⟨_,hC,rfl⟩
 refine wpAny_call (codeAny_of_tree ?_)
 show wpAny _ _ (callAny (.ref C) _) _ _ _
 repeat (any_goals (first|assumption|with_reducible refine wpAny_loadPart_at hC ?_|wp_step))
 refine⟨rfl,?_⟩
 refine codeAny_call_builtin_at (Code.quiet_builtin _ (by decide+kernel)) entry_typeCall (wpAny_check_type_call_sub hC (tcall_excI F T hC hn hi hfI hfc hrest fun h' e hm=>?_))
 exact hq h' e hm
theorem raise_made {env:Env}{s:Shared}{x:Expr}{pos:Pos}{Q:Flow→Shared→Prop}(hbase:bm.contains (.type "BaseException")=true)(hh:A.handled=none)
  (h:wpAny (model prog w) A (eval x env) (fun v s₁=>∃e t de,v=.ref e∧s₁.heap.get? C=some (excClassObj nm q C N bs bm hdct sn sub ab col dd k0 k1 k2 k3 k5 newId)∧
   s₁.heap.get? e=some {cls:=.ref C,dict:=de,data:=.fields #[.ref t,.none,.none,.none,.bool false,.none]}∧E (.ref e) s₁) E s):
  wpAny (model prog w) A (exec (.Raise (some x) none pos) env) Q E s:=by
 have hcB:(Value.ref C::bm).contains (.type "BaseException")=true:=by rw[List.contains_cons,hbase,Bool.or_true]
 rw[arm_exec_Raise]
 simp only[evalOpt,Option.map]
 refine wpAny_bind (wpAny_standAt ?_)
 unfold raiseStmt
 refine wpAny_bind (wpAny_bind (wpAny_mono h (fun v s₁ h₁=>wpAny_bind (wpAny_standAt (wpAny_pure ?_))) fun _ _ x=>x))
 obtain⟨e,t,de,rfl,hC,he,hE⟩:=h₁
 obtain⟨hp,g,d,tk,os⟩:=s₁
 repeat (first|with_reducible refine wpAny_loadPart_at he ?_|with_reducible refine wpAny_loadPart_at hC ?_|(with_reducible refine wpAny_isSubtype_exc hC ?_;rw[hcB])|wp_step)
 exact wpAny_raiseNew_none hh hE
end
abbrev bmVE:List Value:=[.type "ValueError",.type "Exception",.type "BaseException",.type "object"]
structure MkX (K:PySem.W.Frag) (C f:Addr):Prop where
 sh:excInI K C bmVE "ValueError.__new__" f=true
 lk:∃o,K.lookup f=some o∧o.cls=.type "function"
 kp:PySem.W.keepIn K (.ref C)=true
structure KCalleeE (P:Program) (w:World) (K:PySem.W.Frag) (mg:Str→Option Value) (base:Heap) (x:Str) (C:Addr) (k:Nat) (ps:List Str) (sp:Sp):Prop where
 ex:∃f fd,FnOk P w K mg base CX0 k f fd ps sp∧mg x=some (.ref C)∧MkX K C f∧Binds K fd ps []
def Raises2 (X:Cx) (Ex:St→Value→Addr→Hp→Prop):Prop:=
 ∀(pins:List (Addr×Obj)) (σ:St) (H:Hp) (s:Shared) (a D:Addr) (C:Value),Inv X pins σ H s→H a=some (exN a C (some D))→X.s₀.heap.get? a=none→Ex σ C D (drp H a)→X.xe (.ref a) s
def Comes2 (P:Program) (w:World) (X:Cx) (Ex:St→Value→Addr→Hp→Prop):Prop:=
 ∀(pins:List (Addr×Obj)) (σ:St) (H:Hp) (s:Shared) (e:Value) (s':Shared),Inv X pins σ H s→CX2 P w X.stack H s (fun C D H'=>∃d,D=some d∧Ex σ C d H') e s'→X.xe e s'
def tRaiseI (Ex:St→Value→Addr→Hp→Prop) (C:Addr) (sp:Sp) (t:TA):TS:=fun _ σ H=>t σ H fun vs H1=>vs.length≤sizeLine∧∀x,H1 x=none→sp (.ref x::vs) (upd H1 x (exN x (.ref C) none)) (fun v H2=>v=.non∧∃D,H2 x=some (exN x (.ref C) (some D))∧Ex σ (.ref C) D (drp H2 x)) E0
def tCalX2 (Ex:St→Value→Addr→Hp→Prop) (sp:Sp) (t:TA):TE:=fun σ H Q=>t σ H fun vs H1=>sp vs H1 Q fun C D H'=>∃d,D=some d∧Ex σ C d H'
structure CalleeX2 (P:Program) (w:World) (K:PySem.W.Frag) (mg:Str→Option Value) (base:Heap) (x:Str) (k:Nat) (ps:List Str) (sp:Sp):Prop where
 ex:∃f fd,FnOk P w K mg base (CX2 P w) k f fd ps sp∧mg x=some (.ref f)∧PySem.W.keepIn K (.ref f)=true∧Binds K fd ps []
section
variable {X:Cx}
theorem ps_raiseI {Ex:St→Value→Addr→Hp→Prop}{x:Str}{C:Addr}{k:Nat}{ps:List Str}{sp:Sp}{e₀:Expr}{rest:List Expr}{t:TA}{np cpos pos:Pos}(G:KCalleeE X.prog X.w X.K X.mg X.base x C k ps sp)(hr:Room (k+1) X.A)(hc:X.calm=true)(hg:Gl X x)
  (hx:Raises2 X Ex) (ha:PA X (e₀::rest) t) (hd:(x==("__debug__" :Str))=false:=by decide) (he:starEach (e₀::rest) X.env=(false,eval e₀ X.env)::starEach rest X.env:=by rfl)
  (hpl:(backTo cpos (starEach rest X.env)).any (·.1)=false:=by rfl) (hex:X.ex=[]:=by rfl):PS X (.Raise (some (.Call (.Name x np) (e₀::rest) [] cpos)) none pos) (tRaiseI Ex C sp t):=by
 intro pins s σ H D I h
 obtain⟨f,fd,F,hm,M,hb⟩:=G.ex
 obtain⟨of,hlf,hfc⟩:=M.lk
 have FB:=PySem.F.excBase_ValueError
 obtain⟨bm,Nm,nm,q,bs,hdct,sn,sub,ab,col,dd,k0,k1,k2,k3,k5,mN,hC,hN,hi,T⟩:=own_ofI I.ok.mod.kin M.sh
 refine raise_made (C:=C) (nm:=nm) (q:=q) (N:=Nm) (bs:=bs) (bm:=bm) (hdct:=hdct) (sn:=sn) (sub:=sub) (ab:=ab) (col:=col) (dd:=dd) (k0:=k0) (k1:=k1) (k2:=k2) (k3:=k3) (k5:=k5) (newId:= "ValueError.__new__") (T.hasType FB.hasBase) (I.ok.hd hc) ?_
 refine wpAny_Call_Name_kw (ld_glob I hg hm ?_ hd)
 refine PySem.W.callWith_K (h₀:=X.base) I.ok.mod.kin M.kp (thn (ha cpos pins s σ H _ I h) fun us s1 ⟨vs,H1,I1,r,hz,q1⟩=>⟨I1.kIn,?_⟩) he hpl
 obtain⟨hh1,g1,d1,t1,os1⟩:=s1
 refine call_excI FB (T.keeps I1.bk) (I1.bk _ _ hC) (hN.keeps I1.bk) hi (I1.kIn _ _ hlf) hfc (show us.length≤sizeLine by rw[←r.length];exact hz) fun h' e hm'=>?_
 obtain⟨t0,ht,_,_⟩:=hm'.there
 have he1:H1 e=none:=I1.hok.none_of hm'.new
 have I2:Inv X pins σ (upd H1 e (exN e (.ref C) none)) ⟨h',g1,d1,t1,os1⟩:=I1.laidN (t':=t1) (fun b u _ z=>hm'.keeps b u z) (fun m z=>z.keeps hm'.keeps) hm'.new (exN_ok ht)
 have hq:=q1 e he1
 have r2:Vals (V.ref e::vs) (Value.ref e::us):=.cons rfl r
 have hl:(Value.ref e::us).length=ps.length:=by rw[←r2.length];exact F.len _ _ _ _ hq
 have hbb:=hb ⟨h',g1,d1,t1,os1⟩ (Value.ref e::us) I2.kIn (by rw[List.append_nil];exact hl)
 rw[List.append_nil] at hbb
 refine wpAny_call (codeAny_mono (F.run _ X.stack _ _ ⟨Value.ref e::us,[]⟩ (Value.ref e::us) _ _ E0 (hr.make C us []) (I2.env0.make C us []) hbb r2 hq) fun r s' hq'=>?_)
 cases r with
 |error e=>exact False.elim hq'
 |ok fl=>
  cases fl with
  |ret u=>
   obtain⟨v,H',I3,rv,ev,D2,hD,q3⟩:=I2.after hq'
   subst ev
   obtain⟨t3,ht3⟩:=(I3.hok e _ hD).1
   have n0:X.s₀.heap.get? e=none:=by
    cases z:X.s₀.heap.get? e with
    |none=>rfl
    |some o=>
     obtain⟨o',z'⟩:=I1.base.there e o z (by rw[hex];simp)
     rw[hm'.new] at z';cases z'
   exact⟨rv,e,t3,some D2,rfl,I3.bk _ _ hC,ht3,hx pins σ H' s' e D2 _ I3 hD n0 q3⟩
  |next=>exact False.elim hq'
  |brk=>exact False.elim hq'
  |cont=>exact False.elim hq'
theorem pe_calX2 {Ex:St→Value→Addr→Hp→Prop}{x:Str}{k:Nat}{ps:List Str}{sp:Sp}{p pos:Pos}{e:Expr}{es:List Expr}{t:TA}(C:CalleeX2 X.prog X.w X.K X.mg X.base x k ps sp)(hr:Room k X.A)(hg:Gl X x)(hx:Comes2 X.prog X.w X Ex)(ha:PA X (e::es) t)
  (hdb:(x==("__debug__" :Str))=false:=by decide) (he:starEach (e::es) X.env=(false,eval e X.env)::starEach es X.env:=by rfl) (hpl:(backTo pos (starEach es X.env)).any (·.1)=false:=by rfl):
  PE X (.Call (.Name x p) (e::es) [] pos) (tCalX2 Ex sp t):=by
 obtain⟨f,fd,F,hm,hk,hb⟩:=C.ex
 intro pins s σ H Q I h
 refine wpAny_Call_Name_kw (ld_glob I hg hm ?_ hdb)
 refine PySem.W.callWith_K (h₀:=X.base) I.ok.mod.kin hk (thn (ha pos pins s σ H _ I h) fun us s1 ⟨vs,H1,I1,r,q⟩=>⟨I1.kIn,?_⟩) he hpl
 have hl:us.length=ps.length:=by rw[←r.length];exact F.len _ _ _ _ q
 have hbb:=hb s1 us I1.kIn (by rw[List.append_nil];exact hl)
 rw[List.append_nil] at hbb
 refine wpAny_call (codeAny_mono (F.run X.A X.stack s1 H1 ⟨us,[]⟩ us vs Q _ hr I1.env0 hbb r q) fun r s' hq=>?_)
 cases r with
 |error e=>exact hx pins σ H1 s1 e s' I1 hq
 |ok fl=>
  cases fl with
  |ret u=>exact I1.after hq
  |next=>exact False.elim hq
  |brk=>exact False.elim hq
  |cont=>exact False.elim hq
end
section
variable {P:Program} {w:World} {K:PySem.W.Frag} {mg:Str→Option Value} {base:Heap}
theorem raises2 {N:List Str}{qual:Str}{scope:Scope}{f:Addr}{cd:Value}{A:Around}{outer:List Env}{s₀:Shared}{H₀:Hp}{E:XK}:Raises2 (cx2 P w K mg base N qual scope f cd A outer s₀ H₀ E) fun _ C D H=>E C (some D) H:=fun pins σ H s a D C I ha n q=>made2 I ha n q
theorem Fun.okX2 {x qual:Str}{st:Stmt}{f:Addr}{fd:FuncData}{N ps:List Str}{k:Nat}{sp:Sp}(F:Fun K x qual st f fd)(S:FnScope N ps (defScope st))(len:∀vs H Q E,sp vs H Q E→vs.length=ps.length)
  (hbody:∀(cdv:Value) (A:Around) (outer:List Env) (s:Shared) (H:Hp) (vs:List V) (Q:VK) (E:XK),Room k (A.deeper (envOfC qual (defScope st) s.heap.objs.size f cdv))→sp vs H Q E→
   ∃t,PSs (cx2 P w K mg base N qual (defScope st) f cdv A outer s H E) (defBody st) t∧t {nx:=fun _ H'=>Q .non H',rt:=Q} (start N vs) H):FnOk P w K mg base (CX2 P w) (k+1) f fd ps sp:=by
 obtain⟨oc,od,kV,doc,pm,an,cdv,ct,osl,rfl,lk,hcd⟩:=F.ex
 exact fn_of lk hcd S len fun A outer s H vs Q E hr hsp=>hbody cdv A outer s H vs Q E hr hsp
end
structure XBase (K:PySem.W.Frag) (W:Addr):Prop where
 ex:∃mc,PySem.W.readsIn K W mc=true∧PySem.W.findCls K (.ref W) mc "__init__" =some (.val (.builtin "ValueError.__init__"))
 hg:PySem.W.specialIn K (.ref W) "__getattribute__" =some (some (.builtin "type.__getattribute__"))
def tExcB (K:PySem.W.Frag) (t:TA):TE:=fun σ H Q=>t σ H fun vs H1=>∃x y C f dd,vs=[.ref x,y]∧H1 x=some (exN x (.ref C) dd)∧MkX K C f∧Q .non H1
theorem upd_self {H:Hp}{a:Addr}{o:HO}(e:H a=some o):upd H a o=H:=by
 funext b
 by_cases hb:b=a
 ·subst hb;rw[upd_same,e]
 ·rw[upd_ne hb]
section
variable {X:Cx}
theorem excB_call {pins:List (Addr×Obj)}{σ:St}{H:Hp}{s:Shared}{x C f:Addr}{u:Value}{dd:Option Addr}{Q:Value→Shared→Prop}(I:Inv X pins σ H s)(hx:H x=some (exN x (.ref C) dd))(M:MkX X.K C f)
  (h:∀s',Inv X pins σ H s'→Q .none s'):wpAny (model X.prog X.w) X.A (call (.builtin "ValueError.__init__") [.ref x,u]) Q X.xe s:=by
 have FB:=PySem.F.excBase_ValueError
 obtain⟨bm,Nm,nm,q,bs,hdct,sn,sub,ab,col,ddc,k0,k1,k2,k3,k5,mN,hC,hN,hi,T⟩:=own_ofI I.kIn M.sh
 obtain⟨t0,hxo⟩:=(I.hok x _ hx).1
 obtain⟨hh,g,d,t,os⟩:=s
 have hlt:x<hh.objs.size:=Heap.lt_size hxo
 refine wpAny_call (codeAny_call_builtin FB.init.plain FB.initEntry (wpAny_check_init_subT FB T hC hxo rfl ?_))
 have hz:([u]:List Value).length≤sizeLine:=by rw[sizeLine_eq];simp
 wp_walk
 refine h _ ?_
 generalize hh':Heap.update (Heap.push hh _) x _=h'
 have hx':∃t,h'.get? x=some {cls:=.ref C,dict:=dd,data:=.fields #[.ref t,.none,.none,.none,.bool false,.none]}:=by
  refine⟨hh.objs.size,?_⟩
  rw[←hh',Heap.get?_update_self _ (Heap.get?_push_of_some _ hxo) rfl]
  rfl
 have I2:=I.write (x:=x) (e:=x) (o:=exN x (.ref C) dd) (t':=t) (h':=h') (by rw[hx];exact True.intro) (.inl rfl) (fun b o hb z=>by rw[←hh',Heap.get?_update_other _ _ (Ne.symm hb)];exact Heap.get?_push_of_some _ z) (let ⟨t,e⟩:=hx';⟨_,e⟩) (let ⟨t,e⟩:=hx';exN_ok e)
 rw[upd_self hx] at I2
 exact I2
theorem pe_excB {pl:Sem Bool}{W:Addr}{pos apos:Pos}{e o:Expr}{es:List Expr}{t:TA}(he:PE X o (tC (.ref W)))(B:XBase X.K W)(ha:PA X (e::es) t)
  (hst:starEach (e::es) X.env=(false,eval e X.env)::starEach es X.env:=by rfl) (hpl:(backTo pos (starEach es X.env)).any (·.1)=false:=by rfl)
  (ht:eval (.Call (.Attribute o "__init__" apos) (e::es) [] pos) X.env=(do
   let ov←eval o X.env
   standAt apos.atName
   let (f,first)←holding [ov] (getMethod ov "__init__" pl)
   callWith pos f first (backTo pos (starEach (e::es) X.env)) (backToKw pos (keywordEach [] X.env))):=by rfl):
  PE X (.Call (.Attribute o "__init__" apos) (e::es) [] pos) (tExcB X.K t):=by
 obtain⟨mc,h1,h2⟩:=B.ex
 intro pins s σ H Q I h
 refine PySem.W.methodCall_KW (pl:=pl) (thn (he pins s σ H (fun v H1=>v=.ref W∧H1=H) I ⟨rfl,rfl⟩) fun u s1 ⟨x,H1,I1,rx,ex,eH⟩=>?_) ht
 subst ex eH
 cases(show u=Value.ref W from rx)
 refine PySem.W.method_cls I1.kIn B.hg (PySem.W.cls_value I1.kIn h1 h2 (by decide+kernel) ?_)
 have I2:=I1.tok (s1.toks+1)
 have hA:=ha pos pins _ σ _ _ I2 h
 rw[hst] at hA⊢
 refine Calls.callWith_builtin (by show(false||(backTo pos (starEach es X.env)).any (·.1))=false;rw[hpl];rfl) (Calls.evalArgs_plain ?_)
 refine thn hA fun us s2 ⟨vs,H2,I3,r2,x,y,C,f,dd,ev,hx,M,q2⟩=>?_
 subst ev
 obtain⟨u1,u2,rfl,rx1,ry⟩:=vals2 r2
 cases(show u1=Value.ref x from rx1)
 exact excB_call I3 hx M fun s' I'=>⟨.non,H2,I',rfl,q2⟩
end
structure XAttr (K:PySem.W.Frag) (C:Addr) (name:Str):Prop where
 sa:PySem.W.findIn K (.ref C) "__setattr__" =some (some (.builtin "object.__setattr__"))
 ob:PySem.W.mroIn K C (.type "object")=some true
 be:PySem.W.mroIn K C (.type "BaseException")=some true
 na:PySem.W.findIn K (.ref C) name=some none
 hd:PySem.W.hasDictIn K C=true
 ga:PySem.W.findIn K (.ref C) "__getattribute__" =some (some (.builtin "BaseException.__getattribute__"))
 gn:PySem.W.findIn K (.ref C) "__getattr__" =some none
theorem refuse_tail {h:Heap}{bmB tl:List Value}(T:OwnTail h bmB tl)(self:Value)(what:Str):refuseLoop self what tl=refuseLoop self what bmB:=by
 induction T with
 |base=>rfl
 |own _ _ _ _ ih=>rw[refuseLoop_ref,ih]
section
variable {X:Cx}
theorem setE_ok {pins:List (Addr×Obj)}{σ:St}{H:Hp}{s:Shared}{A:Around}{E:Value→Shared→Prop}{x C f:Addr}{name:Str}{y:V}{u:Value}{Q:Unit→Shared→Prop}(I:Inv X pins σ H s)(hx:H x=some (exN x (.ref C) none))(M:MkX X.K C f)(R:XAttr X.K C name)(ry:RelV y u)
  (h:∀D s',H D=none→D≠x→Inv X pins σ (upd (upd H x (exN x (.ref C) (some D))) D (.xd [(name,y)])) s'→Q () s'):wpAny (model X.prog X.w) A (setAttr (.ref x) name u) Q E s:=by
 obtain⟨bm,Nm,nm,q,bs,hdct,sn,sub,ab,col,ddc,k0,k1,k2,k3,k5,mN,hC,hN,hi,T⟩:=own_ofI I.kIn M.sh
 obtain⟨t0,hxo⟩:=(I.hok x _ hx).1
 have J:PySem.W.InstAt s.heap x _ C none:=⟨hxo,rfl,rfl,True.intro⟩
 have SF:=PySem.F.store_object
 have SV:=PySem.F.store_ValueError
 obtain⟨cd,hcl,hdd⟩:=PySem.W.any_some R.hd
 refine PySem.W.set_plain I.kIn J R.sa ?_
 refine codeAny_call_builtin SF.slot.plain SF.entry (@PySem.W.check_slot (model X.prog X.w) _ _ {s with toks:=s.toks+1} "object.__setattr__" "object" "__setattr__" (.ref x) [.str name s.toks,u] [] _ SF.kind SF.split (J.type.andThen (PySem.W.looks_mroIn I.kIn R.ob)) (SF.args (.ref x) (.str name s.toks) u) ?_)
 rw[PySem.W.osa_eq,refuse_eq]
 refine wpAny_bind (wpAny_bind (PySem.W.Looks.here (s:={s with toks:=s.toks+1}) J.type (wpAny_bind (wpAny_mroOf_exc hC ?_))))
 rw[refuseLoop_ref,refuse_tail T,SV.passes]
 refine wpAny_pure (wpAny_bind (PySem.W.Looks.here (s:={s with toks:=s.toks+1}) J.type (wpAny_bind (PySem.W.Looks.here (s:={s with toks:=s.toks+1}) (PySem.W.looks_findIn I.kIn R.na) (wpAny_bind (wpAny_pure ?_))))))
 refine wpAny_bind (wpAny_pure (wpAny_bind (wpAny_bind (wpAny_loadPart hxo (wpAny_bind (PySem.W.Looks.here (s:={s with toks:=s.toks+1}) (PySem.W.looks_clsIn I.kIn hcl) ?_))))))
 rw[hdd]
 have hlt:x<s.heap.objs.size:=Heap.lt_size hxo
 have hxs:x≠s.heap.objs.size:=Nat.ne_of_lt hlt
 have hx₁:(s.heap.push {cls:=.type "dict",data:=.dict #[]}).get? x=some _:=Heap.get?_push_of_some _ hxo
 refine wpAny_bind (wpAny_alloc' (wpAny_bind (wpAny_update' hx₁ (wpAny_bind (wpAny_pure ?_)))))
 generalize hh2:(Heap.update (Heap.push s.heap _) x _)=h2
 have hx2:h2.get? x=some {cls:=.ref C,dict:=some s.heap.objs.size,data:=.fields #[.ref t0,.none,.none,.none,.bool false,.none]}:=by
  rw[←hh2];exact Heap.get?_update_self _ hx₁ rfl
 have hgd:h2.get? s.heap.objs.size=some {cls:=.type "dict",data:=.dict #[]}:=by
  rw[←hh2];exact(Heap.get?_update_ne _ _ _ _ hxs.symm).trans (Heap.get?_push_at rfl rfl)
 have hk2:∀b o,b≠x→s.heap.get? b=some o→h2.get? b=some o:=fun b o hb z=>by
  rw[←hh2];exact(Heap.get?_update_ne _ _ _ _ hb).trans (Heap.get?_push_of_some _ z)
 have hnd:h2.Ns s.heap.objs.size (fun _=>none):=⟨_,#[],_,hgd,rfl,fun e he=>absurd he (by simp),fun _=>rfl⟩
 refine wpAny_pure ?_
 show wpAny _ _ (Builtin.ObjectAttr.storeInDict s.heap.objs.size (.str name s.toks) name u) _ _ _
 unfold Builtin.ObjectAttr.storeInDict Builtin.ObjectAttr.newKeyGuard
 refine wpAny_bind (wpAny_pure (wpAny_bind (wpAny_nsSet1 (Heap.Ns1.of_empty hnd) fun h' hn' hs=>?_)))
 obtain⟨oD,esD,epD,hoD,hdD,hcD⟩:=hn'.count (Within.cons name u Within.nil)
 refine wpAny_bind (wpAny_lookBehind hoD (by rw[hdD];exact pastItsLine_dict (Nat.le_trans hcD (by rw[List.length_cons,List.length_nil,sizeLine_eq];omega))) ?_)
 have hDn:H s.heap.objs.size=none:=I.hok.fresh (Nat.le_refl _)
 have hx3:h'.get? x=some {cls:=.ref C,dict:=some s.heap.objs.size,data:=.fields #[.ref t0,.none,.none,.none,.bool false,.none]}:=(hs.2 x hxs).trans hx2
 refine wpAny_pure (h s.heap.objs.size _ hDn hxs.symm ?_)
 have I2:=I.write (x:=x) (e:=x) (o:=exN x (.ref C) (some s.heap.objs.size)) (t':=s.toks+1+1) (h':=h') (by rw[hx];exact True.intro) (.inl rfl) (fun b o hb z=>(hs.2 b (Nat.ne_of_lt (Heap.lt_size z))).trans (hk2 b o hb z)) ⟨_,hx3⟩ (exN_ok hx3)
 refine I2.track (by rw[upd_ne hxs.symm];exact hDn) (Heap.get?_none_of_le I.sz) (Nat.ne_of_lt I.lt) (fun z c e=>?_) (fun p hp=>Nat.ne_of_lt (Heap.lt_size (I.pin p hp).1)) ⟨_,hn',fun g=>?_⟩
 ·obtain⟨v,o,e',_⟩:=I.cell z c e
  exact Nat.ne_of_lt (Heap.lt_size e')
 ·show RelO (List.lookup g [(name,y)]) (if g=name then some u else none)
  by_cases hg:g=name
  ·subst hg;simp only[List.lookup_cons_self,if_true];exact ry
  ·rw[if_neg hg]
   have:List.lookup g [(name,y)]=none:=by simp[List.lookup,beq_eq_false_iff_ne.mpr hg]
   rw[this];exact True.intro
def sFldE (K:PySem.W.Frag) (ta tv:TE) (f:Str):TS:=fun D σ H=>tv σ H fun y H1=>ta σ H1 fun v H2=>∃x C g,v=.ref x∧H2 x=some (exN x (.ref C) none)∧MkX K C g∧XAttr K C f∧∀d,H2 d=none→d≠x→D.nx σ (upd (upd H2 x (exN x (.ref C) (some d))) d (.xd [(f,y)]))
theorem ps_fldE {o value:Expr}{f:Str}{pos pos':Pos}{ta tv:TE}(ha:PE X o ta)(hv:PE X value tv)(hs:swapsWith value (some (.Attribute o f pos')) pos.line X.env=pure false):PS X (.Assign [.Attribute o f pos'] value pos) (sFldE X.K ta tv f):=by
 intro pins s σ H D I h
 refine plainObj_wpAny_Assign_Attribute (thn (hv pins s σ H _ I h) fun u s1 ⟨y,H1,I1,ry,q⟩=>thn (ha pins s1 σ H1 _ I1 q) fun ov s2 ⟨v,H2,I2,rx,x,C,g,ev,hx,M,R,q2⟩=>?_) hs
 subst ev
 obtain rfl:ov=Value.ref x:=rx
 exact setE_ok I2 hx M R ry fun d s3 h1 h2 I3=>⟨σ,_,I3,q2 d h1 h2⟩
end
noncomputable def excD (a:Addr) (C:Value) (D:Addr):HO:=.ext fun h=>∃o vs,h.get? a=some o∧o.cls=C∧o.dict=some D∧o.data=.fields vs
section
variable {X:Cx}
theorem getE_ok {pins:List (Addr×Obj)}{σ:St}{H:Hp}{s:Shared}{A:Around}{E:Value→Shared→Prop}{a C D:Addr}{name:Str}{fs:List (Str×V)}{v:V}{b:Bool}{Q:Value→Shared→Prop}(I:Inv X pins σ H s)(ha:H a=some (excD a (.ref C) D))(hD:H D=some (.xd fs))(R:XAttr X.K C name)
  (l:fs.lookup name=some v) (h:∀u s',Inv X pins σ H s'→RelV v u→Q u s'):wpAny (model X.prog X.w) A (getAttr (.ref a) name b) Q E s:=by
 obtain⟨oa,vs,hao,hcl,hdc,hda⟩:=(I.hok a _ ha).1
 obtain⟨mA,hns,hrel⟩:=(show∃mA,s.heap.Ns1 D mA∧∀f,RelO (fs.lookup f) (mA f) from I.hok D _ hD)
 obtain⟨u,hu,ru⟩:=RelO.some_of (v:=v) (o:=mA name) (by rw[←l];exact hrel name)
 obtain⟨od,ho,hl⟩:=lookIn_ns hns
 have J:PySem.W.InstAt s.heap a oa C (some od):=⟨hao,hcl,by unfold PySem.W.notCls;rw[hda],by rw[hdc];exact ho⟩
 have FB:=PySem.F.excAttr_ValueError
 have L1:=PySem.W.looks_find (M:=model X.prog X.w) I.kIn J (PySem.W.findObj_own R.hd R.na rfl (by rw[hl,hu]))
 have hk:builtinKind "BaseException.__getattribute__" =some .slot:=by decide+kernel
 have hsp:splitId "BaseException.__getattribute__" =some ("BaseException", "__getattribute__"):=by decide+kernel
 refine wpAny_bind (wpAny_mkText (wpAny_holding (wpAny_bind (J.type _ _ _ _ (fun _ _ e=>e) (wpAny_bind (PySem.W.looks_findIn I.kIn R.ga _ _ _ _ (fun _ _ e=>e) ?_))))))
 dsimp only
 rw[show(onTheHeap (Value.ref C)&&Value.builtin "BaseException.__getattribute__" ==Value.builtin "object.__getattribute__")=false from by rw[show(Value.builtin "BaseException.__getattribute__" ==Value.builtin "object.__getattribute__")=false from by decide+kernel,Bool.and_false],if_neg (by decide)]
 refine wpAny_bind (PySem.W.looks_hook (mc:=.ref C) I.kIn (r:=none) (by rw[if_pos (show onTheHeap (Value.ref C)=true from rfl)];exact R.gn) _ _ _ _ (fun _ _ e=>e) (wpAny_bind (wpAny_attempt (wpAny_holding ?_))))
 unfold callGetattribute
 rw[show(b&&onTheHeap (Value.builtin "BaseException.__getattribute__"))=false from Bool.and_false _,if_neg (by decide)]
 unfold boundAndCalled
 rw[FB.ga.bind]
 refine wpAny_bind (wpAny_pure ?_)
 show wpAny _ _ (call (.builtin "BaseException.__getattribute__") [.ref a,.str name s.toks]) _ _ _
 refine wpAny_call (codeAny_call_builtin FB.ga.plain PySem.F.entry_bexc_ga ?_)
 refine @PySem.W.check_slot (model X.prog X.w) _ _ {s with toks:=s.toks+1} "BaseException.__getattribute__" "BaseException" "__getattribute__" (.ref a) [.str name s.toks] [] _ hk hsp (J.type.andThen (PySem.W.looks_mroIn I.kIn R.be)) (PySem.F.args_bexc_ga (.ref a) (.str name s.toks)) ?_
 refine wpAny_bind (wpAny_pure (wpAny_bind (wpAny_pure (wpAny_bind (PySem.W.Looks.here (s:={s with toks:=s.toks+1}) J.type (wpAny_bind (PySem.W.Looks.here (s:={s with toks:=s.toks+1}) L1 ?_)))))))
 refine wpAny_pure ?_
 show wpAny _ _ (handedOut u) _ _ _
 rw[PySem.W.handedOut_of (handed_of ru)]
 exact wpAny_pure (h u _ (I.tok _) ru)
def tFldE (K:PySem.W.Frag) (ta:TE) (f:Str):TE:=fun σ H Q=>ta σ H fun x H1=>∃a C D fs v,x=.ref a∧H1 a=some (excD a (.ref C) D)∧H1 D=some (.xd fs)∧XAttr K C f∧fs.lookup f=some v∧Q v H1
theorem pe_fldE {e:Expr}{f:Str}{pos:Pos}{ta:TE}(he:PE X e ta)(hb:attributeBase e f X.env (eval e X.env)=eval e X.env):PE X (.Attribute e f pos) (tFldE X.K ta f):=by
 intro pins s σ H Q I h
 refine attr_of hb (thn (he pins s σ H _ I h) fun u s1 ⟨x,H1,I1,rx,a,C,D,fs,v,ex,ea,eD,R,l,q⟩=>?_)
 subst ex
 obtain rfl:u=Value.ref a:=rx
 exact getE_ok I1 ea eD R l fun u' s2 I2 ru=>⟨v,H1,I2,ru,q⟩
theorem call_isinstD:CallR X (.builtin "isinstance") (fun xs H Q=>∃a C D y c b,xs=[.ref a,y]∧ClsV y c∧H a=some (excD a (.ref C) D)∧ExcCls X.K C∧PySem.W.kitOne X.K (.ref C) c=some b∧Q (.bl b) H):=by
 intro pins s σ H xs us Q I r h
 obtain⟨a,C,D,y,c,b,rfl,hy,ha,Z,e,q⟩:=h
 obtain⟨u,w',rfl,rx,ry⟩:=vals2 r
 cases(show u=Value.ref a from rx)
 have hE:=(I.hok a _ ha).1
 have hE:∃o vs,s.heap.get? a=some o∧o.cls=.ref C∧o.data=.fields vs:=let ⟨o,vs,e1,e2,_,e3⟩:=hE;⟨o,vs,e1,e2,e3⟩
 cases hy with
 |ty n=>
  cases(show w'=Value.type n from ry)
  exact PySem.W.kia_one (exc_kit Z) I.kIn hE e (fun z=>nomatch z) fun tk=>⟨.bl b,H,I.tok _,rfl,q⟩
 |ref D=>
  cases(show w'=Value.ref D from ry)
  exact PySem.W.kia_one (exc_kit Z) I.kIn hE e (fun z=>nomatch z) fun tk=>⟨.bl b,H,I.tok _,rfl,q⟩
end
section
variable {X:Cx}
theorem flyE_of {B h:Heap}{a T D:Addr}{C:Value}(fl:FlyE h a T C D)(hBT:B.get? T=none):TrD h B a C (some D) .none:=by
 obtain⟨oe,vs,oT,ts,he,hc,hdc,hd,h1,hTa,hoT,hdT,h3⟩:=fl.ex
 exact⟨oe,vs,T,oT,ts,he,hc,hdc,hd,h1,hBT,hTa,hoT,hdT,h3⟩
theorem noted2 {pins:List (Addr×Obj)}{σ:St}{H:Hp}{s:Shared}{a T D:Addr}{C:Value}{E:Value→Shared→Prop}{Q:Unit→Shared→Prop}(I:Inv X pins σ H s)(hex:X.ex=[])(hst:X.stack=X.env::X.outer)(hfr:X.env.frame=some X.env.locals)
  (ha:H a=none) (hT:H T=none) (na:X.s₀.heap.get? a=none) (nT:X.s₀.heap.get? T=none) (np:∀p∈X.pn++pins,p.1≠a∧p.1≠T) (fl:FlyE s.heap a T C D)
  (h:∀s' T',Inv X pins σ H s'→H T'=none→X.s₀.heap.get? T'=none→(∀p∈X.pn++pins,p.1≠a∧p.1≠T')→FlyE s'.heap a T' C D→Q () s'):
  wpAny (model X.prog X.w) X.A (noteFrame (.ref a) X.env) (fun _ s₂=>wpAny (model X.prog X.w) X.A (setFlight (.ref a) none) Q E s₂) E s:=by
 generalize hBB:PySem.W.hideAll s.heap ([a,T]++frs X.stack)=B
 have hBn:∀b,b∈[a,T]++frs X.stack→B.get? b=none:=fun b hb=>by rw[←hBB];exact PySem.W.hideAll_none _ hb
 have st0:B.StaysIn s.heap:=fun b o e=>by rw[←hBB] at e;exact PySem.W.of_hideAll _ e
 have hl:s.heap.FunFrames B (X.env::X.outer):=by
  have z:=I.stack
  rw[←hBB,←hst]
  exact PySem.W.funFrames_hide z fun env henv L hL=>List.mem_append_right _ (List.mem_filterMap.mpr ⟨env,henv,hL⟩)
 have hfrs:X.A.frames=some (X.env::X.outer):=by rw[←hst];exact I.ok.frames
 refine noteD hfrs hl hfr (flyE_of fl (hBn T (by simp))) st0 (hBn a (by simp)) fun h4 x4=>?_
 refine flightD (s:={s with heap:=h4}) x4.stay x4.frs x4.tr fun h5 x5 _=>?_
 have sl:s.heap.UpToSlots h5:=x4.sl.trans x5.sl
 obtain⟨oe',vs',T',oT',ts',he',hc',hdc',hd',h1',hBT,hTa',hoT',hdT',h3'⟩:=x5.tr
 have hd1:∀b o,b∈frs X.stack→s.heap.get? b=some o→∀vs,o.data≠.fields vs:=fun b o hb e vs d=>by
  obtain⟨_,o',e',n⟩:=I.stack.mem hb
  rw[e] at e';cases e'
  exact n vs d
 have hT':T'=T∨s.heap.get? T'=none:=by
  cases q:s.heap.get? T' with
  |none=>exact .inr rfl
  |some o=>
   by_cases hTT:T'=T
   ·exact .inl hTT
   ·by_cases hf:T'∈frs X.stack
    ·obtain⟨sl2,e2⟩:=sl T' o q (hd1 T' o hf q)
     rw[hoT'] at e2
     have e3:=Option.some.inj e2
     rw[e3] at hdT'
     exact absurd hdT' (hd1 T' o hf q ts')
    ·have z:B.get? T'=some o:=by
      rw[←hBB]
      refine PySem.W.hideAll_get _ q fun m=>?_
      rcases List.mem_append.mp m with m|m
      ·rcases List.mem_cons.mp m with m|m
       ·exact hTa' m
       ·exact hTT (List.mem_singleton.mp m)
      ·exact hf m
     rw[hBT] at z;cases z
 have I5:=I.land hex hst hfr ha hT na nT np hBB x5.stay sl
 refine h {s with heap:=h5} T' I5 ?_ ?_ (fun p hp=>⟨(np p hp).1,?_⟩) ⟨oe',vs',oT',ts',he',hc',hdc',hd',h1',hTa',hoT',hdT',h3'⟩
 ·rcases hT' with rfl|z
  ·exact hT
  ·exact I.hok.none_of z
 ·rcases hT' with rfl|z
  ·exact nT
  ·cases q:X.s₀.heap.get? T' with
   |none=>rfl
   |some o=>
    obtain⟨o',z'⟩:=I.base.there T' o q (by rw[hex];simp)
    rw[z] at z';cases z'
 ·rcases hT' with rfl|z
  ·exact(np p hp).2
  ·intro e
   have:=(I.pin p hp).1
   rw[e,z] at this;cases this
theorem lands2 {pins:List (Addr×Obj)}{σ:St}{H:Hp}{s:Shared}{a T D:Addr}{C:Value}{A:Around}{E:Value→Shared→Prop}{Q:Unit→Shared→Prop}(I:Inv X pins σ H s)(hex:X.ex=[])(hst:X.stack=X.env::X.outer)(hfr:X.env.frame=some X.env.locals)
  (ha:H a=none) (hT:H T=none) (na:X.s₀.heap.get? a=none) (nT:X.s₀.heap.get? T=none) (np:∀p∈X.pn++pins,p.1≠a∧p.1≠T) (fl:FlyE s.heap a T C D)
  (h:∀s',Inv X pins σ H s'→(∃T',FlyE s'.heap a T' C D)→Q () s'):wpAny (model X.prog X.w) A (setFlight (.ref a) none) Q E s:=by
 generalize hBB:PySem.W.hideAll s.heap ([a,T]++frs X.stack)=B
 have hBn:∀b,b∈[a,T]++frs X.stack→B.get? b=none:=fun b hb=>by rw[←hBB];exact PySem.W.hideAll_none _ hb
 have st0:B.StaysIn s.heap:=fun b o e=>by rw[←hBB] at e;exact PySem.W.of_hideAll _ e
 have hl:s.heap.FunFrames B (X.env::X.outer):=by
  have z:=I.stack
  rw[←hBB,←hst]
  exact PySem.W.funFrames_hide z fun env henv L hL=>List.mem_append_right _ (List.mem_filterMap.mpr ⟨env,henv,hL⟩)
 refine flightD st0 hl (flyE_of fl (hBn T (by simp))) fun h' x _=>?_
 obtain⟨oe',vs',T',oT',ts',he',hc',hdc',hd',h1',_,hTa',hoT',hdT',h3'⟩:=x.tr
 exact h _ (I.land hex hst hfr ha hT na nT np hBB x.stay x.sl) ⟨T',⟨oe',vs',oT',ts',he',hc',hdc',hd',h1',hTa',hoT',hdT',h3'⟩⟩
def tTry2 (K:PySem.W.Frag) (CW:Value) (tb:(St→Value→Addr→Hp→Prop)→(Value→Shared→Prop)→List (Addr×Obj)→TS) (ts:Addr→TS) (i:Nat):TS:=fun D σ H=>∃Ex:St→Value→Addr→Hp→Prop,(∀xe pn,tb Ex xe pn D σ H)∧∀σ' C d H',Ex σ' C d H'→PySem.W.exmOne K C CW=some true∧
 ∀a,H' a=none→ts a {nx:=fun σ H=>D.nx (σ.set i none) H,rt:=D.rt,bk:=fun σ H=>D.bk (σ.set i none) H,ct:=fun σ H=>D.ct (σ.set i none) H} (σ'.set i (some (.ref a))) (upd H' a (excD a C d))
theorem ps_try2 {body suite:List Stmt}{b₀:Stmt}{tb:(St→Value→Addr→Hp→Prop)→(Value→Shared→Prop)→List (Addr×Obj)→TS}{ts:Addr→TS}{i:Nat}{n cx:Str}{CW:Addr}{np hpos pos:Pos}(hc:X.calm=true)(hN:X.N.Nodup)(hi:X.N[i]?=some n)(hl:X.env.kindOf n=some .local)
  (hex:X.ex=[]) (hst:X.stack=X.env::X.outer) (hfr:X.env.frame=some X.env.locals) (hg:Gl X cx) (hm:X.mg cx=some (.ref CW))
  (hb:∀Ex xe pn,Comes2 X.prog X.w (tryB X xe pn) Ex→PSs (tryB X xe pn) body (tb Ex xe pn)) (hs:∀a,PSs (cxH X a) (b₀::suite) (ts a)) (hd:(cx==("__debug__" :Str))=false:=by decide):
  PS X (.Try body [.ExceptHandler (some (.Name cx np)) (some n) (b₀::suite) hpos] [] [] pos) (tTry2 X.K (.ref CW) tb ts i):=by
 intro pins s σ H D I h
 obtain⟨Ex,htb,hh⟩:=h
 refine wpAny_Try_except ?_
 generalize hxe:(fun(e:Value) (s₁:Shared)=>wpAny (model X.prog X.w) X.A (noteFrame e X.env) (fun _ s₂=>wpAny (model X.prog X.w) X.A (setFlight e none) (fun _ s₃=>
   wpAny (model X.prog X.w) X.A (handleBy e X.env [.ExceptHandler (some (.Name cx np)) (some n) (b₀::suite) hpos]) (SP X pins D) X.xe s₃) X.xe s₂) X.xe s₁)=xe
 have hC:Comes2 X.prog X.w (tryB X xe (X.pn++pins)) Ex:=by
  intro pins' σ' H1 s1 e s2 I1 hx
  obtain⟨a,T,d,C,H2,rfl,os,bare,u,hok,ha,hT,na,nT,fl,d',ed,q⟩:=hx
  cases ed
  show xe (.ref a) s2
  rw[←hxe]
  have I1':Inv X pins σ' H1 s1:=inv_ofB I1
  have I2:Inv X pins σ' H2 s2:=I1'.call' (ch:=[]) os u hok bare fun b z=>nomatch z
  have s0n:∀b,s1.heap.get? b=none→X.s₀.heap.get? b=none:=fun b e=>by
   cases q:X.s₀.heap.get? b with
   |none=>rfl
   |some o=>
    obtain⟨o',z⟩:=I1'.base.there b o q (by rw[hex];simp)
    rw[e] at z;cases z
  have np1:∀p∈X.pn++pins,p.1≠a∧p.1≠T:=fun p hp=>by
   have z:=(I1'.pin p hp).1
   exact⟨fun e=>(by rw[e,na] at z;cases z),fun e=>(by rw[e,nT] at z;cases z)⟩
  refine noted2 I2 hex hst hfr ha hT (s0n _ na) (s0n _ nT) np1 fl fun s3 T3 I3 hT3 nT3 np3 fl3=>?_
  obtain⟨hmat,hsu⟩:=hh σ' C d H2 q
  refine wpAny_handleBy_cons ?_ (by intro z;cases z)
  refine codeAny_handlers_test ?_
  refine ld_glob (X:=cxH X a) (inv_cxH I3) hg hm ?_ hd
  obtain⟨oe,vs,oT,tts,he,hcls,_,hdat,_⟩:=fl3.ex
  have LT:PySem.W.Looks (model X.prog X.w) s3.heap (typeOf (.ref a)) C:=hcls▸(PySem.W.Looks.ld he).andThen .now
  refine(PySem.W.exm_one I3.kIn LT hmat).here ?_
  refine codeAny_handlers_suite_as ?_
  refine lands2 I3 hex hst hfr ha hT3 (s0n _ na) nT3 np3 fl3 fun s4 I4 ⟨T4,fl4⟩=>?_
  have hLa:X.env.locals≠a:=fun e=>by
   obtain⟨_,⟨o,_,_,ho,_⟩,_⟩:=I1'.loc
   rw[e,na] at ho;cases ho
  have hCa:∀x c,X.env.cells.lookup x=some c→c≠a:=fun x c e z=>by
   obtain⟨_,o,ho,_⟩:=I1'.cell x c e
   rw[z,na] at ho;cases ho
  obtain⟨oe4,vs4,_,_,he4,hc4,hdc4,hd4,_⟩:=fl4.ex
  have I5:Inv X pins σ' (upd H2 a (excD a C d)) s4:=I4.track ha (s0n _ na) hLa hCa (fun p hp=>(np1 p hp).1)
   ⟨⟨oe4,vs4,he4,hc4,hdc4,hd4⟩,⟨oe4,he4⟩,fun h1 h2 ⟨o,v,e1,e2⟩ k=>⟨o,v,k o e1,e2⟩⟩
  refine store_ok (v:=.ref a) I5 hN hi (.inl hl) rfl (fun s5 I6=>?_) (.inr hl)
  refine wpAny_mono (hs a pins s5 _ _ _ (inv_cxH I6) (hsu a ha)) (fun f s6 hf=>?_) fun _ _ z=>z.elim
  cases f with
  |next=>
   obtain⟨σ6,H6,I7,q6⟩:=hf
   exact goes_ok (inv_ofH I7 I.ok.hd) hN hi hl fun s7 I8=>⟨_,_,I8,q6⟩
  |brk=>
   obtain⟨σ6,H6,I7,q6⟩:=hf
   exact goes_ok (inv_ofH I7 I.ok.hd) hN hi hl fun s7 I8=>⟨_,_,I8,q6⟩
  |cont=>
   obtain⟨σ6,H6,I7,q6⟩:=hf
   exact goes_ok (inv_ofH I7 I.ok.hd) hN hi hl fun s7 I8=>⟨_,_,I8,q6⟩
  |ret u=>
   obtain⟨v,σ6,H6,I7,r6,q6⟩:=hf
   exact goes_ok (inv_ofH I7 I.ok.hd) hN hi hl fun s7 I8=>⟨v,_,_,I8,r6,q6⟩
 refine thn (hb Ex xe (X.pn++pins) hC [] s σ H D (inv_tryB I) (htb _ _)) fun f s1 hf=>?_
 cases f with
 |next=>
  obtain⟨σ1,H1,I1,q1⟩:=hf
  exact wpAny_execs_nil ⟨σ1,H1,inv_ofB I1,q1⟩
 |brk=>
  obtain⟨σ1,H1,I1,q1⟩:=hf
  exact⟨σ1,H1,inv_ofB I1,q1⟩
 |cont=>
  obtain⟨σ1,H1,I1,q1⟩:=hf
  exact⟨σ1,H1,inv_ofB I1,q1⟩
 |ret u=>
  obtain⟨v,σ1,H1,I1,r1,q1⟩:=hf
  exact⟨v,σ1,H1,inv_ofB I1,r1,q1⟩
end
section
variable {X:Cx}
theorem op_le_str:OpR X (compareOp .LtE) (fun x y H Q=>∃i j,x=.str i∧y=.str j∧Q (.bl (!decide (j.cps.toList<i.cps.toList))) H):=by
 intro pins s σ H x y v u Q I rx ry h
 obtain⟨i,j,rfl,rfl,q⟩:=h
 obtain⟨t,rfl⟩:=rx
 obtain⟨t',rfl⟩:=ry
 exact PySem.P.le_str (fin_bl I q rfl)
theorem strs_of:∀{ts:List Str} {us:List Value},Vals (ts.map V.str) us→StrsAre us ts
 |[],_,.nil=> .nil
 |_::_,_,.cons r t=>by obtain⟨k,rfl⟩:=r;exact .cons _ k (strs_of t)
theorem valsS:∀{us:List Value} {ts:List Str},StrsAre us ts→Vals (ts.map V.str) us
 |_,_,.nil=> .nil
 |_,_,.cons _ t h=> .cons ⟨t,rfl⟩ (valsS h)
theorem call_sortedS:CallR X (.builtin "sorted") (fun xs H Q=>∃(p:Addr) (ts:List Str),xs=[.ref p]∧SqL X.K H p (ts.map V.str)∧ts.length<64∧
  ∀(l:Addr) (ms:List Str),H l=none→ms.Perm ts→sortedS ms=true→Q (.ref l) (upd H l (.lst (ms.map V.str)))):=by
 intro pins s σ H xs us Q I r h
 obtain⟨p,ns,rfl,hp,h64,q⟩:=h
 obtain⟨u,rfl,rx⟩:=vals1 r
 cases rx
 obtain⟨its,rv,pl,hz⟩:=I.list hp
 have hil:its.length=ns.length:=by rw[←rv.length,List.length_map]
 refine sorted_strs pl.isList (strs_of rv) (by rw[hil];exact h64) fun out ms a1 a2 a3=>?_
 obtain⟨e,he⟩:=sortedAll_at s.heap its out
 have hn:H (s.heap.objs.size+1)=none:=I.hok.fresh (Nat.le_succ _)
 refine⟨.ref (s.heap.objs.size+1),_,I.laid (o:=.lst (ms.map V.str)) (h':=sortedAll s.heap its out) (t':=s.toks) (fun _ _=>sortedAll_old) (Nat.le_succ _) ⟨?_,out.toList,e,valsS a1,he⟩,rfl,q _ ms hn a2 a3⟩
 rw[List.length_map,a2.length_eq];exact Nat.le_trans (Nat.le_of_lt h64) (by decide)
def rEq0 (K:PySem.W.Frag) (neg:Bool):R2:=fun x y H Q=>∃a b xs,x=.ref a∧y=.ref b∧SqL K H a xs∧SqL K H b []∧Q (.bl (if neg then !xs.isEmpty else xs.isEmpty)) H
theorem op_eq0 {k:Nat}(hr:Room k X.A):OpR X (compareOp .Eq) (rEq0 X.K false):=by
 intro pins s σ H x y v u Q I rx ry h
 obtain⟨a,b,xs,rfl,rfl,hx,hy,q⟩:=h
 cases(show v=Value.ref a from rx)
 cases(show u=Value.ref b from ry)
 have hu:=hr.units
 obtain⟨i1,r1,p1,_⟩:=I.list hx
 obtain⟨i2,r2,p2,_⟩:=I.list hy
 cases r2
 cases r1 with
 |nil=>exact SeqAt.eq_listAt (e:=fun _=>true) p1.isList p2.isList rfl (by omega) (fun j h1 h2=>absurd h1 (by simp)) ⟨.bl true,H,I,by rw[all_true];rfl,q⟩
 |cons r t=>exact SeqAt.eq_list_lengthsAt p1.isList p2.isList (by simp) (by omega) ⟨.bl false,H,I,rfl,q⟩
theorem op_ne0 {k:Nat}(hr:Room k X.A):OpR X (compareOp .NotEq) (rEq0 X.K true):=by
 intro pins s σ H x y v u Q I rx ry h
 obtain⟨a,b,xs,rfl,rfl,hx,hy,q⟩:=h
 cases(show v=Value.ref a from rx)
 cases(show u=Value.ref b from ry)
 have hu:=hr.units
 obtain⟨i1,r1,p1,_⟩:=I.list hx
 obtain⟨i2,r2,p2,_⟩:=I.list hy
 cases r2
 cases r1 with
 |nil=>exact SeqAt.RcNeAt.lists (e:=fun _=>true) p1.isList p2.isList rfl (by omega) (fun j h1 h2=>absurd h1 (by simp)) X.prog X.w X.xe _ ⟨.bl false,H,I,by rw[all_true];rfl,q⟩
 |cons r t=>exact SeqAt.RcNeAt.lists_lengths p1.isList p2.isList (by simp) (by omega) X.prog X.w X.xe _ ⟨.bl true,H,I,rfl,q⟩
theorem vals_mem7:∀{xs:List V} {us:List Value} {u:Value},Vals xs us→u∈us→∃x∈xs,RelV x u
 |_,_,_,.nil,h=>by cases h
 |_::_,_::_,u,.cons r t,h=>by
  rcases List.mem_cons.mp h with rfl|h
  ·exact⟨_,List.mem_cons_self,r⟩
  ·obtain⟨x,h1,h2⟩:=vals_mem7 t h
   exact⟨x,List.mem_cons_of_mem _ h1,h2⟩
noncomputable def NT (K:PySem.W.Frag) (H:Hp):V→Prop
 | .non=>True
 | .ref a=>∃ys,SqT K H a ys
 |_=>False
def isNU:Value→Bool| .none=>true|_=>false
theorem any_nu {K:PySem.W.Frag}{H:Hp}:∀{xs:List V} {us:List Value},Vals xs us→(∀x∈xs,NT K H x)→us.any isNU=xs.any (fun x=>decide (x=.non))
 |_,_,.nil,_=>rfl
 |x::xs,u::us,.cons r t,h=>by
  rw[List.any_cons,List.any_cons,any_nu t fun y hy=>h y (List.mem_cons_of_mem _ hy)]
  congr 1
  have z:=h x List.mem_cons_self
  cases x with
  |non=>cases r;rfl
  |ref a=>cases r;rfl
  |_=>exact z.elim
theorem op_inN {k:Nat}(hr:Room k X.A):OpR X (compareOp .In) (fun x y H Q=>∃p xs,x=.non∧y=.ref p∧SqL X.K H p xs∧(∀z∈xs,NT X.K H z)∧Q (.bl (xs.any fun x=>decide (x=.non))) H):=by
 intro pins s σ H x y v u Q I rx ry h
 obtain⟨p,xs,rfl,rfl,hp,hn,q⟩:=h
 cases rx;cases ry
 have hu:=hr.units
 obtain⟨its,r,pl,hz⟩:=I.list hp
 refine SeqAt.in_listAt isNU pl.isList (fun w hw=>?_) ⟨.bl _,H,I,rfl,?_⟩
 ·obtain⟨z,hz,rz⟩:=vals_mem7 r (by simpa using hw)
  have:=hn z hz
  cases z with
  |non=>cases rz;exact SeqAt.EqAt.same _
  |ref a=>
   cases rz
   obtain⟨ys,hy⟩:=this
   obtain⟨i2,_,p2,_⟩:=I.tuple hy
   exact SeqAt.EqAt.tuple_none p2 (show X.A.units+1<cLine by omega)
  |_=>exact this.elim
 ·rw[show its.toArray.any isNU=its.any isNU by simp,any_nu r hn]
  exact q
end
structure KDic (w:World) (K:PySem.W.Frag) (a:Addr) (kvs:List (Key×V)):Prop where
 sm:(a==sysModules)=false
 ex:∃(es:Array DictEntry) (ep:Nat),K.lookup a=some {cls:=.type "dict",data:=.dict es ep}∧Paired (fun(p:Key×V) (e:DictEntry)=>keyIs p.1 e.key=true∧e.hash=keyH w p.1∧RelV p.2 e.val) kvs es.toList
 nd:(kvs.map (·.1)).Nodup
theorem kdic_of {P:Program}{w:World}{K:PySem.W.Frag}{h:Heap}{a:Addr}{kvs:List (Key×V)}(D:KDic w K a kvs)(X:K.In h):∃vs,KV kvs vs∧h.DictOf (mixKind P w) a vs:=by
 obtain⟨es,ep,hl,hp⟩:=D.ex
 have key:∀{kvs:List (Key×V)} {l:List DictEntry},Paired (fun(p:Key×V) (e:DictEntry)=>keyIs p.1 e.key=true∧e.hash=keyH w p.1∧RelV p.2 e.val) kvs l→
   ∃vs:List (Key×Value),KV kvs vs∧Pairs (mixKind P w) l vs∧vs.map (·.1)=kvs.map (·.1)∧∀e∈l,∃k,(mixKind P w).is k e.key=true∧e.hash=(mixKind P w).hash k:=by
  intro kvs l h
  induction h with
  |nil=>exact⟨[],.nil,.nil,rfl,fun e h=>by cases h⟩
  | @cons p e _ _ r _ ih=>
   obtain⟨vs,h1,h2,h3,h4⟩:=ih
   refine⟨(p.1,e.val)::vs,.cons ⟨rfl,r.2.2⟩ h1,.cons r.1 rfl h2,by simp[h3],fun e' he=>?_⟩
   rcases List.mem_cons.mp he with rfl|he
   ·exact⟨p.1,r.1,r.2.1⟩
   ·exact h4 e' he
 obtain⟨vs,h1,h2,h3,h4⟩:=key hp
 exact⟨vs,h1,_,es,ep,X _ _ hl,⟨rfl,rfl,rfl⟩,rfl,fun e he=>h4 e (by simpa using he),h2,by rw[h3];exact D.nd⟩
def tDGetK (kvs:List (Key×V)) (ty:TE):TE:=fun σ H Q=>ty σ H fun y H1=>∃k v,y=kV k∧valV kvs k=some v∧Q v H1
def tDNotInK (kvs:List (Key×V)) (ty:TE):TE:=fun σ H Q=>ty σ H fun y H1=>∃k,y=kV k∧Q (.bl (!(valV kvs k).isSome)) H1
section
variable {X:Cx} {o i:Expr} {pos:Pos} {ty:TE} {a:Addr} {kvs:List (Key×V)}
theorem pe_dgetK (D:KDic X.w X.K a kvs)(ho:PE X o (tC (.ref a)))(hi:PE X i ty)(hs:NoSl i):PE X (.Subscript o i pos) (tDGetK kvs ty):=by
 intro pins s σ H Q I h
 refine subD_of PySem.F.slot_dict_getitem.lookup hs (thn (ho pins s σ H (fun v H1=>v=.ref a∧H1=H) I ⟨rfl,rfl⟩) fun u s1 ⟨x,H1,I1,rx,ex,eH⟩=>?_)
 subst ex eH
 cases(show u=Value.ref a from rx)
 refine thn (hi pins s1 σ _ _ I1 h) fun iv s2 ⟨y,H2,I2,ry,k,v,ey,l,q2⟩=>?_
 subst ey
 obtain⟨vs,rel,dd⟩:=kdic_of (P:=X.prog) D I2.kIn
 obtain⟨w',hw,rw'⟩:=RelO.some_of (v:=v) (o:=valueAt vs k) (by rw[←l];exact rel.val k)
 exact⟨dd.typeIs,wpAny_getItem_of (kV_is ry) dd.mapOf hw ⟨v,H2,I2.tok _,rw',q2⟩⟩
theorem pc_dnotinK (D:KDic X.w X.K a kvs)(hi:PE X i ty)(ho:PE X o (tC (.ref a))):PC X .NotIn i o (tDNotInK kvs ty):=by
 intro pins s σ H Q I h
 refine thn (hi pins s σ H _ I h) fun iv s1 ⟨y,H1,I1,ry,k,ey,q1⟩=>thn (ho pins s1 σ H1 (fun v H2=>v=.ref a∧H2=H1) I1 ⟨rfl,rfl⟩) fun u s2 ⟨x,H2,I2,rx,ex,eH⟩=>?_
 subst ex ey eH
 cases(show u=Value.ref a from rx)
 obtain⟨vs,rel,dd⟩:=kdic_of (P:=X.prog) D I2.kIn
 refine wpAny_notIn_of (kV_is ry) D.sm dd.mapOf ?_
 rw[←(rel.val k).isSome_eq]
 exact⟨.bl _,H2,I2.tok _,rfl,q1⟩
theorem mt_index3:MtR X "tuple.index" (fun x vs H Q=>∃(p:Addr) (a b c y:Str),x=.ref p∧vs=[.str y]∧SqT X.K H p [.str a,.str b,.str c]∧(y=a∨y=b∨y=c)∧Q (.int (if y=a then 0 else if y=b then 1 else 2)) H):=by
 intro pins s σ H x vs v us Q I rx rv h
 obtain⟨p,a,b,c,y,rfl,rfl,hp,hy,q⟩:=h
 cases rx
 obtain⟨u,rfl,t,rfl⟩:=vals1 rv
 obtain⟨its,r,pl,hz⟩:=I.tuple hp
 rcases r with _|⟨r1,_|⟨r2,_|⟨r3,⟨⟩⟩⟩⟩
 obtain⟨t1,rfl⟩:=r1
 obtain⟨t2,rfl⟩:=r2
 obtain⟨t3,rfl⟩:=r3
 have e1:= @SeqAt.EqAt.str_str X.A.in1 s a t1 y t X.prog X.w
 have e2:= @SeqAt.EqAt.str_str X.A.in1 s b t2 y t X.prog X.w
 have e3:= @SeqAt.EqAt.str_str X.A.in1 s c t3 y t X.prog X.w
 obtain⟨⟨oc,od,dat,sl⟩,ho,hc,n,hd⟩:=id pl
 cases(show oc=Value.type "tuple" from hc)
 cases(show dat=.seq _ n from hd)
 refine wpAny_call (codeAny_call_builtin PySem.F.slot_tuple_index.plain PySem.F.entry_tuple_index (PySem.F.slot_tuple_index.check _ _ _ _ _ _ _ _ ⟨_,ho,rfl⟩ (PySem.F.args_tuple_index_2 _ _) ?_))
 unfold Builtin.«tuple.index»
 obtain⟨hp',g,d,tk,os⟩:=s
 have hT:∀(E:Value→Shared→Prop) (Q2:Array Value→Shared→Prop),Q2 #[Value.str a t1,Value.str b t2,Value.str c t3] ⟨hp',g,d,tk,os⟩→wpAny (model X.prog X.w) X.A.in1 (Builtin.Tuple.tupleItemsOf (.ref p)) Q2 E ⟨hp',g,d,tk,os⟩:=by
  intro E Q2 h2
  wp_walk using wpAny_loadPart' ho
  exact h2
 refine wpAny_bind (wpAny_pure ?_)
 refine wpAny_bind (hT _ _ ?_)
 refine wpAny_bind (wpAny_pure ?_)
 refine wpAny_bind (wpAny_pure ?_)
 dsimp only
 rw[Std.Legacy.Range.forIn_eq_forIn_range']
 refine wpAny_bind ?_
 rw[show∀v1 v2 v3:Value,List.range' [:min #[v1,v2,v3].size #[v1,v2,v3].size].start [:min #[v1,v2,v3].size #[v1,v2,v3].size].size [:min #[v1,v2,v3].size #[v1,v2,v3].size].step=[0,1,2] from fun _ _ _=>by simp[Std.Legacy.Range.size,List.range']]
 rw[List.forIn_cons]
 refine wpAny_bind (wpAny_bind (e1 _ _ ?_))
 by_cases q1:y=a
 ·rw[if_pos q1] at q
  rw[show(a==y)=true from beq_iff_eq.mpr q1.symm]
  wp_walk
  exact⟨.int _,H,I.tok _,⟨_,rfl⟩,q⟩
 rw[if_neg q1] at q
 rw[show(a==y)=false from beq_eq_false_iff_ne.mpr fun z=>q1 z.symm]
 refine wpAny_pure ?_
 dsimp only
 rw[List.forIn_cons]
 refine wpAny_bind (wpAny_bind (e2 _ _ ?_))
 by_cases q2:y=b
 ·rw[if_pos q2] at q
  rw[show(b==y)=true from beq_iff_eq.mpr q2.symm]
  wp_walk
  exact⟨.int _,H,I.tok _,⟨_,rfl⟩,q⟩
 rw[if_neg q2] at q
 rw[show(b==y)=false from beq_eq_false_iff_ne.mpr fun z=>q2 z.symm]
 refine wpAny_pure ?_
 dsimp only
 rw[List.forIn_cons]
 refine wpAny_bind (wpAny_bind (e3 _ _ ?_))
 have q3:y=c:=(hy.resolve_left q1).resolve_left q2
 rw[show(c==y)=true from beq_iff_eq.mpr q3.symm]
 wp_walk
 exact⟨.int _,H,I.tok _,⟨_,rfl⟩,q⟩
end
structure ExcI (K:PySem.W.Frag) (mg:Str→Option Value) (x:Str) (C:Addr) (f:Str):Prop where
 bd:mg x=some (.ref C)
 cl:ExcCls K C
 at_:XAttr K C f
structure ExcW (K:PySem.W.Frag) (mg:Str→Option Value) (x:Str) (C:Addr):Prop where
 bd:mg x=some (.ref C)
 ba:XBase K C
theorem csLe {A:Around}{s:Shared}:∀{ns ms:List Int} {us ws:List Value},ns.length=ms.length→Vals (ns.map V.int) us→Vals (ms.map V.int) ws→∃cs,Cs A s .LtE us ws cs∧res cs true=!HT.lexLt ms ns
 |[],[],_,_,_,r1,r2=>by
  cases r1;cases r2
  exact⟨[],.nil,by rw[HT.lexLt_nil_nil];rfl⟩
 |[],_::_,_,_,h,_,_=>by simp at h
 |_::_,[],_,_,h,_,_=>by simp at h
 |n::ns,m::ms,us,ws,h,r1,r2=>by
  rw[List.map_cons] at r1 r2
  cases r1 with
  |cons q1 r1=>
   cases r2 with
   |cons q2 r2=>
    obtain⟨t1,rfl⟩:=q1
    obtain⟨t2,rfl⟩:=q2
    obtain⟨cs,h1,h2⟩:=csLe (ns:=ns) (ms:=ms) (by simpa using h) r1 r2
    refine⟨(decide (n=m),decide (n≤m))::cs,.cons (eqInt A s n t1 m t2) (fun _ prog w' E Q q=>rcLe_int A s n t1 m t2 prog w' E Q q) h1,?_⟩
    rw[HT.lexLt_cons]
    by_cases e:n=m
    ·rw[decide_eq_true e,if_pos e.symm];exact h2
    ·rw[decide_eq_false e,if_neg fun z=>e z.symm]
     show decide (n≤m)=!decide (m<n)
     by_cases h:n≤m
     ·rw[decide_eq_true h,decide_eq_false (by omega)];rfl
     ·rw[decide_eq_false h,decide_eq_true (by omega)];rfl
section
variable {prog:Program} {w:World} {A:Around} {E:Value→Shared→Prop} {s:Shared}
theorem le_tupInts {l b:Addr}{ns ms:List Int}{us ws:List Value}{Q:Value→Shared→Prop}(hl:IsTup s.heap l us.toArray)(hb:IsTup s.heap b ws.toArray)(hlen:ns.length=ms.length)(hi:Vals (ns.map V.int) us)(hj:Vals (ms.map V.int) ws)
  (hu:A.units<cLine) (h:Q (.bool (!HT.lexLt ms ns)) s):wpAny (model prog w) A (richCompare .LtE (.ref l) (.ref b)) Q E s:=by
 obtain⟨⟨cls,dd,data,sl⟩,ho,hc,n,hd⟩:=id hl
 obtain⟨⟨cls2,dd2,data2,sl2⟩,ho2,hc2,n2,hd2⟩:=id hb
 simp only at hc hd hc2 hd2
 subst hc hd hc2 hd2
 obtain⟨cs,h1,h2⟩:=csLe (A:=A.in1) (s:=s) hlen hi hj
 rw[←h2] at h
 exact richCompare_meets_room (op:=.LtE) ⟨_,ho,rfl⟩ ⟨_,ho2,rfl⟩ PySem.F.slot_tuple_le PySem.F.entry_tuple_le (PySem.F.args_tuple_le_2 _ _) (tuple_le_cs l b us.toArray ws.toArray n n2 dd dd2 sl sl2) ⟨ho,ho2,cs,h1,⟨(fun x=>nomatch x),h⟩⟩ hu
end
section
variable {X:Cx}
def rLeT (K:PySem.W.Frag):R2:=fun x y H Q=>∃a b ns ms,x=.ref a∧y=.ref b∧SqT K H a (ns.map V.int)∧SqT K H b (ms.map V.int)∧ns.length=ms.length∧Q (.bl (!HT.lexLt ms ns)) H
theorem op_leT (hu:X.A.units<cLine):OpR X (compareOp .LtE) (rLeT X.K):=by
 intro pins s σ H x y v u Q I rx ry h
 obtain⟨a,b,ns,ms,rfl,rfl,ha,hb,hl,q⟩:=h
 cases rx
 cases ry
 obtain⟨its,r1,p1,_⟩:=I.tuple ha
 obtain⟨its2,r2,p2,_⟩:=I.tuple hb
 exact le_tupInts p1 p2 hl r1 r2 hu ⟨.bl (!HT.lexLt ms ns),H,I,rfl,q⟩
end
end L2
namespace L2
open PySem
theorem fn_cls {K:PySem.W.Frag}{f:Addr}{o:Obj}(h:K.lookup f=some o)(e:PySem.W.isFn K (.ref f)=true):o.cls=.type "function" :=by
 have e:((K.lookup f).map (·.cls)==some (.type "function"))=true:=e
 rw[h] at e
 exact Option.some.inj (beq_iff_eq.mp e)
theorem op_leTR {X:Cx}{k:Nat}(hr:Room k X.A):OpR X (compareOp .LtE) (rLeT X.K):=op_leT (by have:=hr.units;omega)
end L2
namespace K47
open PySem L2
abbrev T3:=List Int
def iK (x:T3):List Key:=x.map Sum.inl
theorem iK_at {H:Hp}{b:Addr}{x:T3}(h:H b=some (.tup (x.map V.int))):H b=some (.tup ((iK x).map kV)):=by unfold iK;rw[kV_ints];exact h
theorem lex_asymm:∀a b:List Int,HT.lexLt a b=true→HT.lexLt b a=false
 |[],[],h=>by rw[lex_irrefl] at h;cases h
 |[],_::_,_=>rfl
 |_::_,[],h=>by cases h
 |x::r,y::t,h=>by
  rw[HT.lexLt_cons] at h⊢
  by_cases e:x=y
  ·rw[if_pos e] at h;rw[if_pos e.symm];exact lex_asymm r t h
  ·rw[if_neg e] at h;rw[if_neg (Ne.symm e)]
   have:=of_decide_eq_true h
   exact decide_eq_false (by omega)
theorem same_at {H0 H':Hp}{D:Addr}{y:HO}(s:Same H0 H')(nD:H0 D=none):Same H0 (upd H' D y):=fun b u e=>by
 rw[upd_ne (ne_of_none e nD)];exact s _ _ e
section
variable {tc:TT} {t u:TS} {te ta tb td ty:TE} {D:Ends} {σ:St} {H:Hp} {a d:Addr} {y v:V} {o:Option V} {K:PySem.W.Frag}
theorem et_of {b c:Bool}(h:EvT tc σ H b)(e:b=c):EvT tc σ H c:=e▸h
theorem ev_of {c:V}(h:Ev te σ H v)(e:v=c):Ev te σ H c:=e▸h
theorem sq_dput {tv:TE}{H4:Hp}(hv:Ev tv σ H v)(hd:Ev td σ H (.ref a))(hy:Ev ty σ H y)(p:DPut H a y v H4)(q:u D σ H4):tSeq (sDPut td ty tv) u D σ H:=hv _ (hd _ (hy _ ⟨a,H4,rfl,p,q⟩))
theorem te_tup {tl:TA}{vs:List V}{Q:VK}(h:EvA tl σ H vs)(hz:vs.length≤sizeLine)(q:∀p,H p=none→Q (.ref p) (upd H p (.tup vs))):tTup tl σ H Q:=h _ ⟨hz,q⟩
theorem te_lst {tl:TA}{vs:List V}{Q:VK}(h:EvA tl σ H vs)(hz:vs.length≤sizeLine)(q:∀p,H p=none→Q (.ref p) (upd H p (.lst vs))):tLst tl σ H Q:=h _ ⟨hz,q⟩
theorem rd_tup {tl:TA}{vs:List V}(h:EvA tl σ H vs)(hz:vs.length≤sizeLine)(q:∀p,H p=none→D.rt (.ref p) (upd H p (.tup vs))):tRet (tTup tl) D σ H:=h _ ⟨hz,q⟩
theorem te_cal {sp:Sp}{tl:TA}{vs:List V}{Q:VK}(h:EvA tl σ H vs)(q:sp vs H Q E0):tCall sp [] E0 tl σ H Q:=h _ (by rw[List.append_nil];exact q)
end
theorem ev_notN {ta tb:TE}{σ:St}{H:Hp}{x:V}(ha:Ev ta σ H x)(hb:Ev tb σ H .non):Ev (tOp (fun x y H Q=>y=.non∧Q (.bl (!decide (x=.non))) H) ta tb) σ H (.bl (!decide (x=.non))):=fun _ z=>ha _ (hb _ ⟨rfl,z⟩)
theorem sq_rng1 {ta:TA}{j:Int}{g:TG}{tb u:TS}{D:Ends}{σ:St}{H:Hp}(h:EvA ta σ H [.int j])(h1: -(2^62)≤j)(h2:j<2^62)(q:tFor (fun _ H R=>R (Itr 0 j.toNat) H) g tb {D with nx:=u D} σ H):tSeq (tFor (iRng1 ta) g tb) u D σ H:=h _ ⟨j,rfl,h1,h2,q⟩
theorem te_op {r:R2}{ta tb:TE}{σ:St}{H:Hp}{Q:VK}(h:ta σ H fun x H1=>tb σ H1 fun y H2=>r x y H2 Q):tOp r ta tb σ H Q:=h
theorem take_one {α:Type}{xs:List α}{i:Nat}{x:α}(h:xs[i]?=some x):xs.take (i+1)=xs.take i++[x]:=by rw[List.take_succ,h];rfl
theorem rd_ifof {tc:TT}{t u:TS}{D:Ends}{σ:St}{H:Hp}(q:tc σ H fun b H1=>if b=true then t D σ H1 else u D σ H1):tIfS tc t u D σ H:=q
theorem te_or {t u:TT}{σ:St}{H:Hp}{a:Bool}{Q:Bool→Hp→Prop}(h:EvT t σ H a)(e:a=false)(q:u σ H Q):tOr t u σ H Q:=by
 subst e
 exact h _ q
theorem et_orF {t1 t2:TT}{b:Bool}{σ:St}{H:Hp}(h:EvT t1 σ H false)(h2:EvT t2 σ H b):EvT (tOr t1 t2) σ H b:=fun Q q=>h _ (iteF (h2 _ q))
theorem et_notF {tc:TT}{σ:St}{H:Hp}(h:EvT tc σ H true):EvT (tNot tc) σ H false:=fun _ q=>h _ q
theorem same_make {H:Hp}{p dx C:Addr}(np:H p=none)(ndx:H dx=none):Same H (upd (upd H dx (.own p)) p (.ins C dx [])):=fun b o e=>by
 rw[upd_ne (ne_of_none e np),upd_ne (ne_of_none e ndx)];exact e
theorem rd_te {te:TE}{D:Ends}{σ:St}{H:Hp}(h:te σ H D.rt):tRet te D σ H:=h
section
variable {K:PySem.W.Frag} {σ σ0:St} {H H1:Hp} {D a:Addr} {g:TG} {tt:TT} {te t0:TE} {ta:TA} {n:Nat} {ix:List Nat} {as:List Addr} {cs:List T3}
theorem te_lcL {Q:VK}{xs:List V}(h:Ev t0 σ H (.ref a))(ha:SqL K H a xs)(q:∀D,H D=none→lcW (inSt n ix σ) g tt te (Itl K a) H D fun H'=>Q (.ref D) H'):tLc (iList K t0) n ix g tt te σ H Q:=h _ ⟨a,rfl,⟨_,ha⟩,q⟩
end
theorem te_make {C:Addr}{sp:Sp}{dvs:List V}{t:TA}{vs:List V}{σ:St}{H:Hp}{Q:VK}(h:EvA t σ H vs)(q:∀x dx,H x=none→H dx=none→dx≠x→sp (.ref x::(vs++dvs)) (upd (upd H dx (.own x)) x (.ins C dx [])) (fun v H2=>v=.non∧Q (.ref x) H2) E0):tMake C sp dvs E0 t σ H Q:=h _ q
theorem eqv_same {K:PySem.W.Frag}{H:Hp}{v:V}{d:PyData}(h:Dp K H v d):(!PyData.eqv d d)=false:=by rw[eqv_refl h.lay];rfl
theorem rd_lstA {ta:TA}{D:Ends}{σ:St}{H:Hp}(h:ta σ H fun xs H1=>xs.length≤sizeLine∧∀p,H1 p=none→D.rt (.ref p) (upd H1 p (.lst xs))):tRet (tLst ta) D σ H:=h
noncomputable def top (i:Nat):Stmt:=PySem.Challenge.pw_wirefloor_k47_first_bad_row.main.body.getD i (.Pass ⟨0,0,0,0⟩)
abbrev sName:Stmt:=top 9
abbrev sNumIn:Stmt:=top 20
abbrev sSpotIn:Stmt:=top 21
abbrev sWholeIn:Stmt:=top 23
abbrev sWholes:Stmt:=top 29
abbrev sSpotsT:Stmt:=top 30
abbrev sDInit:Stmt:=inClass (top 31) 0
abbrev sTStep:Stmt:=inClass (top 31) 2
abbrev sTHill:Stmt:=inClass (top 31) 3
abbrev sTHH:Stmt:=inClass (top 31) 5
abbrev sTPair:Stmt:=inClass (top 31) 6
abbrev sTHeight:Stmt:=inClass (top 31) 4
abbrev sTCut:Stmt:=inClass (top 31) 7
abbrev sTSpot:Stmt:=inClass (top 31) 8
abbrev sTRow:Stmt:=inClass (top 31) 1
abbrev sDTold:Stmt:=top 32
abbrev sRInit:Stmt:=inClass (top 33) 0
abbrev sTFirst:Stmt:=inClass (top 33) 2
abbrev sTHead:Stmt:=inClass (top 33) 3
abbrev sTWords:Stmt:=inClass (top 33) 1
abbrev sXInit:Stmt:=inClass (top 4) 0
abbrev sRead:Stmt:=top 34
abbrev sCell:Stmt:=top 36
abbrev sMixed:Stmt:=top 37
abbrev sNumber:Stmt:=top 38
abbrev sSpot:Stmt:=top 39
abbrev sBehind:Stmt:=top 40
abbrev sWord:Stmt:=top 41
abbrev sNames:Stmt:=top 42
abbrev sHead:Stmt:=top 43
abbrev sBegun:Stmt:=top 44
abbrev sStepped:Stmt:=top 45
abbrev sLifted:Stmt:=top 46
abbrev sGoneOn:Stmt:=top 47
abbrev sBlocks:Stmt:=top 48
abbrev sAsked:Stmt:=top 49
abbrev sNowhere:Stmt:=top 50
abbrev sNotB:Stmt:=top 52
abbrev sShutR:Stmt:=top 51
abbrev sShutH:Stmt:=top 53
abbrev sTurn:Stmt:=top 54
abbrev slaw:Stmt:=top 55
structure Txt (w:World) (K:PySem.W.Frag) (mg:Str→Option Value) (cDraft cReading cWireError cBadRow cBadAnswer cPt cNk:Addr):Prop where
 len_:mg "len" =none
 range_:mg "range" =none
 isinstance_:mg "isinstance" =none
 int_:mg "int" =none
 bool_:mg "bool" =none
 str_:mg "str" =none
 any_:mg "any" =none
 all_:mg "all" =none
 tuple_:mg "tuple" =none
 enumerate_:mg "enumerate" =none
 sorted_:mg "sorted" =none
 ValueError_:mg "ValueError" =none
 cl_Draft:Cls K cDraft
 mg_Draft:mg "Draft" =some (.ref cDraft)
 na_Draft_kind:NoAttr K cDraft "kind"
 na_Draft_numbers:NoAttr K cDraft "numbers"
 na_Draft_wires:NoAttr K cDraft "wires"
 na_Draft_hills:NoAttr K cDraft "hills"
 na_Draft_heights:NoAttr K cDraft "heights"
 na_Draft_cut:NoAttr K cDraft "cut"
 na_Draft_spots:NoAttr K cDraft "spots"
 na_Draft_last:NoAttr K cDraft "last"
 cl_Reading:Cls K cReading
 mg_Reading:mg "Reading" =some (.ref cReading)
 na_Reading_rested:NoAttr K cReading "rested"
 na_Reading_part:NoAttr K cReading "part"
 na_Reading_name:NoAttr K cReading "name"
 na_Reading_drafts:NoAttr K cReading "drafts"
 eWireError:ExcW K mg "WireError" cWireError
 eBadRow:mg "BadRow" =some (.ref cBadRow)
 eBadAnswer:ExcI K mg "BadAnswer" cBadAnswer "row"
 g_LETTERS:∃u,mg "LETTERS" =some u∧RelV (.str (Str.ofString "abcdefghijklmnopqrstuvwxyz")) u
 g_FIGURES:∃u,mg "FIGURES" =some u∧RelV (.str (Str.ofString "0123456789")) u
 g_MOST_SIGNS:∃u,mg "MOST_SIGNS" =some u∧RelV (.int 12) u
 g_MOST_FIGURES:∃u,mg "MOST_FIGURES" =some u∧RelV (.int 18) u
 g_PARTS:∃u,mg "PARTS" =some u∧RelV (.ref cPt) u
 y_PARTS:∃o,K.lookup cPt=some o∧o.cls=.type "tuple" ∧o.dict=none
 t_PARTS:∀H:Hp,SqT K H cPt [.str (Str.ofString "laid"),.str (Str.ofString "paper"),.str (Str.ofString "never")]
 g_NUMBERS_OF_KINDS:∃u,mg "NUMBERS_OF_KINDS" =some u∧RelV (.ref cNk) u
 d_NUMBERS_OF_KINDS:KDic w K cNk [(.inr (Str.ofString "tree"),.int 1),(.inr (Str.ofString "bundle"),.int 2),(.inr (Str.ofString "shore"),.int 0),(.inr (Str.ofString "cut"),.int 0)]
 ii:PySem.W.kitOne K (.type "int") (.type "int")=some true
 ib:PySem.W.kitOne K (.type "int") (.type "bool")=some false
 bw:PySem.W.kitOne K (.ref cBadAnswer) (.ref cWireError)=some true
 bv:PySem.W.kitOne K (.ref cBadAnswer) (.type "ValueError")=some true
 br:PySem.W.kitOne K (.ref cBadAnswer) (.ref cBadRow)=some false
 xb:PySem.W.exmOne K (.ref cBadAnswer) (.ref cBadAnswer)=some true
theorem len_c {α:Type}{n:Nat}:∀{us:List α},us.length=n+1→∃a r,us=a::r∧r.length=n
 |[],h=>nomatch h
 |a::r,h=>⟨a,r,rfl,Nat.succ.inj h⟩
theorem len_z {α:Type}{us:List α}(h:us.length=0):us=[]:=List.eq_nil_of_length_eq_zero h
theorem bl1 {α:Type}{us:List α}(h:us.length=1):∃a0,us=[a0]:=by
 obtain⟨a0,r0,rfl,h0⟩:=len_c h
 cases len_z h0
 exact⟨a0,rfl⟩
theorem bd1 {K:PySem.W.Frag}{x qual:Str}{st:Stmt}{f:Addr}{fd:FuncData}{p0:Str}(F:Fun K x qual st f fd)(h:∀(kV doc pm:Value) (an:Option Addr) (cdv ct a0:Value),bindArgs (PySem.W.fnOf x qual (defArgs st) (defBody st) (defScope st) .none kV doc pm an cdv ct) ⟨[a0],[]⟩=pure ([p0].zip [a0])):Binds K fd [p0] []:=F.binds fun kV doc pm an cdv ct us hl=>by
 obtain⟨a0,rfl⟩:=bl1 (us:=us) hl
 exact h kV doc pm an cdv ct a0
theorem bl2 {α:Type}{us:List α}(h:us.length=2):∃a0 a1,us=[a0,a1]:=by
 obtain⟨a0,r0,rfl,h0⟩:=len_c h
 obtain⟨a1,r1,rfl,h1⟩:=len_c h0
 cases len_z h1
 exact⟨a0,a1,rfl⟩
theorem bd2 {K:PySem.W.Frag}{x qual:Str}{st:Stmt}{f:Addr}{fd:FuncData}{p0 p1:Str}(F:Fun K x qual st f fd)(h:∀(kV doc pm:Value) (an:Option Addr) (cdv ct a0 a1:Value),bindArgs (PySem.W.fnOf x qual (defArgs st) (defBody st) (defScope st) .none kV doc pm an cdv ct) ⟨[a0,a1],[]⟩=pure ([p0,p1].zip [a0,a1])):Binds K fd [p0,p1] []:=F.binds fun kV doc pm an cdv ct us hl=>by
 obtain⟨a0,a1,rfl⟩:=bl2 (us:=us) hl
 exact h kV doc pm an cdv ct a0 a1
theorem bl3 {α:Type}{us:List α}(h:us.length=3):∃a0 a1 a2,us=[a0,a1,a2]:=by
 obtain⟨a0,r0,rfl,h0⟩:=len_c h
 obtain⟨a1,r1,rfl,h1⟩:=len_c h0
 obtain⟨a2,r2,rfl,h2⟩:=len_c h1
 cases len_z h2
 exact⟨a0,a1,a2,rfl⟩
theorem bd3 {K:PySem.W.Frag}{x qual:Str}{st:Stmt}{f:Addr}{fd:FuncData}{p0 p1 p2:Str}(F:Fun K x qual st f fd)(h:∀(kV doc pm:Value) (an:Option Addr) (cdv ct a0 a1 a2:Value),bindArgs (PySem.W.fnOf x qual (defArgs st) (defBody st) (defScope st) .none kV doc pm an cdv ct) ⟨[a0,a1,a2],[]⟩=pure ([p0,p1,p2].zip [a0,a1,a2])):Binds K fd [p0,p1,p2] []:=F.binds fun kV doc pm an cdv ct us hl=>by
 obtain⟨a0,a1,a2,rfl⟩:=bl3 (us:=us) hl
 exact h kV doc pm an cdv ct a0 a1 a2
theorem bl4 {α:Type}{us:List α}(h:us.length=4):∃a0 a1 a2 a3,us=[a0,a1,a2,a3]:=by
 obtain⟨a0,r0,rfl,h0⟩:=len_c h
 obtain⟨a1,r1,rfl,h1⟩:=len_c h0
 obtain⟨a2,r2,rfl,h2⟩:=len_c h1
 obtain⟨a3,r3,rfl,h3⟩:=len_c h2
 cases len_z h3
 exact⟨a0,a1,a2,a3,rfl⟩
theorem bd4 {K:PySem.W.Frag}{x qual:Str}{st:Stmt}{f:Addr}{fd:FuncData}{p0 p1 p2 p3:Str}(F:Fun K x qual st f fd)(h:∀(kV doc pm:Value) (an:Option Addr) (cdv ct a0 a1 a2 a3:Value),bindArgs (PySem.W.fnOf x qual (defArgs st) (defBody st) (defScope st) .none kV doc pm an cdv ct) ⟨[a0,a1,a2,a3],[]⟩=pure ([p0,p1,p2,p3].zip [a0,a1,a2,a3])):Binds K fd [p0,p1,p2,p3] []:=F.binds fun kV doc pm an cdv ct us hl=>by
 obtain⟨a0,a1,a2,a3,rfl⟩:=bl4 (us:=us) hl
 exact h kV doc pm an cdv ct a0 a1 a2 a3
theorem bl6 {α:Type}{us:List α}(h:us.length=6):∃a0 a1 a2 a3 a4 a5,us=[a0,a1,a2,a3,a4,a5]:=by
 obtain⟨a0,r0,rfl,h0⟩:=len_c h
 obtain⟨a1,r1,rfl,h1⟩:=len_c h0
 obtain⟨a2,r2,rfl,h2⟩:=len_c h1
 obtain⟨a3,r3,rfl,h3⟩:=len_c h2
 obtain⟨a4,r4,rfl,h4⟩:=len_c h3
 obtain⟨a5,r5,rfl,h5⟩:=len_c h4
 cases len_z h5
 exact⟨a0,a1,a2,a3,a4,a5,rfl⟩
theorem cut_to (xs:List V)(k:Nat)(h:k≤xs.length):cutV xs none (some (k:Int))=xs.take k:=by
 unfold cutV
 rw[HT.sIx_none,HT.sIx_nat,Nat.min_eq_left h,List.drop_zero,Nat.sub_zero]
theorem cut_of (xs:List V)(k:Nat)(h:k≤xs.length):cutV xs (some (k:Int)) none=xs.drop k:=by
 unfold cutV
 rw[HT.sIx_none,HT.sIx_nat,Nat.min_eq_left h,List.take_of_length_le (by rw[List.length_drop];omega)]
theorem te_lstA {ta:TA}{σ:St}{H:Hp}{Q:VK}(h:ta σ H fun xs H1=>xs.length≤sizeLine∧∀p,H1 p=none→Q (.ref p) (upd H1 p (.lst xs))):tLst ta σ H Q:=h
theorem ta_ev {te:TE}{tr:TA}{σ:St}{H:Hp}{v:V}{Q:List V→Hp→Prop}(h:Ev te σ H v)(q:tr σ H fun xs H2=>Q (v::xs) H2):tCons te tr σ H Q:=h _ q
theorem sq_asgH {te:TE}{n:Nat}{u:TS}{D:Ends}{σ:St}{H:Hp}(h:∀R:VK,(∀v H1,u D (σ.set n (some v)) H1→R v H1)→te σ H R):tSeq (tAsg te (gName n)) u D σ H:=h _ fun _ _ z=>z
theorem sq_hide {t u:TS}{D:Ends}{σ:St}{H:Hp}(h:∀R:St→Hp→Prop,(∀σ H,u D σ H→R σ H)→t {D with nx:=R} σ H):tSeq t u D σ H:=h _ fun _ _ z=>z
theorem nrm {X:St→Hp→Prop}{σ σ':St}{H:Hp}(e:σ=σ')(h:X σ' H):X σ H:=e▸h
theorem te_use {te:TE}{σ:St}{H:Hp}{v:V}{Q:VK}(h:Ev te σ H v)(q:Q v H):te σ H Q:=h _ q
theorem ta_one {te:TE}{tr:TA}{σ:St}{H:Hp}{Q:List V→Hp→Prop}(h:te σ H fun x H1=>tr σ H1 fun xs H2=>Q (x::xs) H2):tCons te tr σ H Q:=h
theorem et_use {tc:TT}{σ:St}{H:Hp}{b:Bool}{Q:Bool→Hp→Prop}(h:EvT tc σ H b)(q:Q b H):tc σ H Q:=h _ q
theorem sql_keep {K:PySem.W.Frag}{H H':Hp}{a:Addr}{xs:List V}(h:SqL K H a xs)(k:∀o,H a=some o→H' a=some o):SqL K H' a xs:=by
 rcases h with (z|⟨o,z⟩)|z
 ·exact .inl (.inl (k _ z))
 ·exact .inl (.inr ⟨o,k _ z⟩)
 ·exact .inr z
theorem te_bm {K:PySem.W.Frag}{T:String}{r:V→List V→Hp→VK→Prop}{to:TE}{ta:TA}{σ:St}{H:Hp}{x:V}{Q:VK}(h:Ev to σ H x)(ht:tyV K T x H)(q:ta σ H fun xs H2=>r x xs H2 Q):tBM K T r to ta σ H Q:=h _ ⟨ht,q⟩
theorem sq_J {t u:TS}{D:Ends}{σ:St}{H:Hp}(J:St→Hp→Prop)(h:∀R:St→Hp→Prop,(∀σ H,J σ H→R σ H)→t {D with nx:=R} σ H)(k:∀σ H,J σ H→u D σ H):tSeq t u D σ H:=h _ k
theorem te_cbA {r:List V→Hp→VK→Prop}{ta:TA}{vs:List V}{σ:St}{H:Hp}{Q:VK}(h:EvA ta σ H vs)(q:r vs H Q):tCB r ta σ H Q:=h _ q
theorem nb {b:Bool}(h:(!b)=true):b=false:=by cases b<;>simp_all
theorem te_callA {sp:Sp}{ta:TA}{σ:St}{H:Hp}{Q:VK}(h:ta σ H fun vs H1=>sp (vs++[]) H1 Q E0):tCall sp [] E0 ta σ H Q:=h
theorem ev_lenT {ta:TE}{σ:St}{H:Hp}{x:Str}(ha:Ev ta σ H (.str x))(hz:x.length≤sizeLine):Ev (tCB (fun xs H Q=>∃z:Str,xs=[.str z]∧z.length≤sizeLine∧Q (.int (z.length:Nat)) H) (tCons ta tNil)) σ H (.int (x.length:Nat)):=fun _ q=>ha _ ⟨x,rfl,hz,q⟩
theorem rd_forT {K:PySem.W.Frag}{te:TE}{g:TG}{tb:TS}{D:Ends}{σ:St}{H:Hp}(h:te σ H fun x H1=>∃a,x=.ref a∧(∃xs,SqL K H1 a xs)∧tFor (fun _ H R=>R (Itl K a) H) g tb D σ H1):tFor (iList K te) g tb D σ H:=h
theorem te_slF {K:PySem.W.Frag}{ta tb:TE}{σ:St}{H:Hp}{l:Addr}{xs:List V}{i:Int}{Q:VK}(ha:Ev ta σ H (.ref l))(hb:Ev tb σ H (.int i))(hs:SqL K H l xs)(q:∀p,H p=none→Q (.ref p) (upd H p (.lst (cutV xs (some i) none)))):tSl (rSlL K) ta (tPart tb) tNoPart σ H Q:=ha _ (hb _ ⟨i,rfl,l,_,rfl,hs,q⟩)
theorem te_slT {K:PySem.W.Frag}{ta tb:TE}{σ:St}{H:Hp}{l:Addr}{xs:List V}{i:Int}{Q:VK}(ha:Ev ta σ H (.ref l))(hb:Ev tb σ H (.int i))(hs:SqL K H l xs)(q:∀p,H p=none→Q (.ref p) (upd H p (.lst (cutV xs none (some i))))):tSl (rSlL K) ta tNoPart (tPart tb) σ H Q:=ha _ (hb _ ⟨i,rfl,l,_,rfl,hs,q⟩)
theorem lt_of_get {α:Type}{l:List α}{i:Nat}{x:α}(h:l[i]?=some x):i<l.length:=(List.getElem?_eq_some_iff.mp h).1
theorem rd_drop {te:TE}{D:Ends}{σ:St}{H:Hp}(h:te σ H fun _ H1=>D.nx σ H1):tDrop te D σ H:=h
theorem et_raw {te:TE}{σ:St}{H:Hp}{Q:Bool→Hp→Prop}(h:te σ H fun v H1=>∃b,v=.bl b∧Q b H1):tTest te σ H Q:=h
theorem or_F {t u:TT}{σ:St}{H:Hp}{a:Bool}{Q:Bool→Hp→Prop}(h:EvT t σ H a)(e:a=false)(q:u σ H Q):tOr t u σ H Q:=te_or h e q
theorem sq_lcT {te te':TE}{g:TG}{tt:TT}{n i:Nat}{ix:List Nat}{u:TS}{E:Ends}{σ:St}{H:Hp}(h:te σ H fun x H1=>∃j:Int,[x]=[.int j]∧ -(2^62)≤j∧j<2^62∧∀D,H1 D=none→lcW (inSt n ix σ) g tt te' (Itr 0 j.toNat) H1 D fun H'=>u E (σ.set i (some (.ref D))) H'):tSeq (tLcSet (iRng1 (tCons te tNil)) n ix g tt te' i) u E σ H:=h
theorem sq_drop {te:TE}{u:TS}{D:Ends}{σ:St}{H:Hp}(h:te σ H fun _ H1=>u D σ H1):tSeq (tDrop te) u D σ H:=h
theorem paired_snoc {α β:Type}{R:α→β→Prop}{a:α}{b:β}(r:R a b):∀{as:List α} {bs:List β} (_:Paired R as bs),Paired R (as++[a]) (bs++[b])
 |_,_,.nil=> .cons r .nil
 |_,_,.cons x t=> .cons x (paired_snoc r t)
theorem paired_at {α β:Type}{R:α→β→Prop}:∀{as:List α} {bs:List β} (_:Paired R as bs) {i:Nat} {a:α},as[i]?=some a→∃b,bs[i]?=some b∧R a b
 |_,_,.nil,i,a,h=>by simp at h
 |_,_,.cons r t,0,a,h=>by
  simp only[List.getElem?_cons_zero,Option.some.injEq] at h
  subst h
  exact⟨_,rfl,r⟩
 |_,_,.cons r t,i+1,a,h=>by
  simp only[List.getElem?_cons_succ] at h⊢
  exact paired_at t h
def dg (n:Nat):List Nat:=(Nat.toDigits 10 n).map Char.toNat
theorem dg_small {n:Nat}(h:n<10):dg n=[48+n]:=by
 unfold dg
 rw[Nat.toDigits_of_lt_base h]
 match n,h with
 |0,_|1,_|2,_|3,_|4,_|5,_|6,_|7,_|8,_|9,_=>rfl
theorem dg_step {n:Nat}(h:10≤n):dg n=dg (n/10)++[48+n%10]:=by
 have hm:n%10<10:=Nat.mod_lt n (by decide)
 have t:Nat.toDigits 10 (n/10)++Nat.toDigits 10 (n%10)=Nat.toDigits 10 (10*(n/10)+n%10):=Nat.toDigits_append_toDigits (by decide) (by omega) hm
 rw[Nat.div_add_mod] at t
 have e:=dg_small hm
 unfold dg at e⊢
 rw[←t,List.map_append,e]
theorem dg_all (n:Nat):∀c∈dg n,48≤c∧c≤57:=by
 induction n using Nat.strongRecOn with
 |_ n ih=>
  by_cases h:n<10
  ·rw[dg_small h];intro c hc;rw[List.mem_singleton.mp hc];omega
  ·rw[dg_step (by omega)]
   intro c hc
   rcases List.mem_append.mp hc with hc|hc
   ·exact ih (n/10) (by omega) c hc
   ·rw[List.mem_singleton.mp hc];omega
theorem dg_ne (n:Nat):dg n≠[]:=by
 by_cases h:n<10
 ·rw[dg_small h];simp
 ·rw[dg_step (by omega)];simp
theorem dg_head {n:Nat}(h:0<n):(dg n)[0]?≠some 48:=by
 induction n using Nat.strongRecOn with
 |_ n ih=>
  by_cases hn:n<10
  ·rw[dg_small hn];simp;omega
  ·rw[dg_step (by omega)]
   have hne:=dg_ne (n/10)
   cases e:dg (n/10) with
   |nil=>exact absurd e hne
   |cons a r=>
    have z:=ih (n/10) (by omega) (by omega)
    rw[e] at z
    simpa using z
theorem dg_len_le:∀{k n:Nat},1≤k→n<10^k→(dg n).length≤k
 |0,_,h,_=>absurd h (by decide)
 |k+1,n,_,h=>by
  by_cases hn:n<10
  ·rw[dg_small hn];simp
  ·rw[dg_step (by omega),List.length_append]
   have hk:1≤k:=by
    rcases Nat.eq_zero_or_pos k with z|z
    ·subst z;omega
    ·exact z
   have:=dg_len_le (k:=k) (n:=n/10) hk (by rw[Nat.pow_succ] at h;omega)
   simp only[List.length_cons,List.length_nil];omega
theorem dg_len_ge:∀{k n:Nat},10^k≤n→k<(dg n).length
 |0,n,_=>by
  have:=dg_ne n
  rcases Nat.eq_zero_or_pos (dg n).length with z|z
  ·exact absurd (List.eq_nil_of_length_eq_zero z) this
  ·exact z
 |k+1,n,h=>by
  have h10:10≤n:=by
   have:10^1≤10^(k+1):=Nat.pow_le_pow_right (by decide) (by omega)
   omega
  rw[dg_step h10,List.length_append]
  have:=dg_len_ge (k:=k) (n:=n/10) (by rw[Nat.pow_succ] at h;omega)
  simp only[List.length_cons,List.length_nil];omega
theorem dg_val (n:Nat):NumText.digitsVal (dg n)=n:=PySem.W.KIN.val_back n
theorem cp_num (n:Nat):cp (toString ((n:Nat):Int))=dg n:=PySem.W.KIN.signs_num n
theorem cp_lit (x:String):cp (Str.ofString x)=x.toList.map Char.toNat:=PyProof.Rows.signs_ofString x
theorem cp_neg {n:Nat}(h:0<n):cp (toString (-((n:Nat):Int)))=45::dg n:=by
 obtain⟨k,rfl⟩:∃k,n=k+1:=⟨n - 1,by omega⟩
 show cp (Str.ofString (toString (Int.negSucc k)))=_
 rw[cp_lit]
 show(("-" ++Nat.repr (k+1)):String).toList.map Char.toNat=_
 rw[String.toList_append,List.map_append,Nat.toList_repr]
 rfl
def BadW (l:List Nat):Prop:=l.length=0∨18<l.length∨(∃c∈l,¬(48≤c∧c≤57))∨(l[0]?=some 48∧1<l.length)
def GoodW (l:List Nat):Prop:=1≤l.length∧l.length≤18∧(∀c∈l,48≤c∧c≤57)∧(l[0]?=some 48→l.length=1)
theorem dg_good {n:Nat}(h:n<10^18):GoodW (dg n):=by
 refine⟨?_,dg_len_le (by decide) h,dg_all n,fun e=>?_⟩
 ·have:=dg_len_ge (k:=0) (n:=n)
  rcases Nat.eq_zero_or_pos n with z|z
  ·subst z;rw[dg_small (by decide)];simp
  ·have:=this (by omega);omega
 ·rcases Nat.eq_zero_or_pos n with z|z
  ·subst z;rw[dg_small (by decide)];rfl
  ·exact absurd e (dg_head z)
structure Pl (z:Str):Prop where
 as:z.cps.all (· <128)=true
 ln:z.length≤1000
theorem Pl.of {z:Str}(h:∀c∈cp z,c<128)(hl:(cp z).length≤1000):Pl z:=⟨by rw[Array.all_eq_true];intro i hi;exact decide_eq_true (h _ (by simp[cp])),by rw[←cp_len];exact hl⟩
theorem Pl.mem {z:Str}(h:Pl z):∀c∈cp z,c<128:=fun c hc=>by
 have:=Array.all_eq_true'.mp h.as c (by simpa using hc)
 exact of_decide_eq_true this
theorem Pl.sz {z:Str}(h:Pl z):z.length≤sizeLine:=Nat.le_trans h.ln (by decide)
def fig10:List Nat:=[48,49,50,51,52,53,54,55,56,57]
theorem fig10_cp:cp (Str.ofString "0123456789")=fig10:=by decide+kernel
theorem mem_fig10 {c:Nat}:c∈fig10↔(48≤c∧c≤57):=by
 unfold fig10
 simp only[List.mem_cons,List.mem_nil_iff,or_false]
 omega
theorem starts_minus (z:Str):Txt.startswith z (Str.ofString "-")=decide ((cp z)[0]?=some 45):=by
 have e:Str.ofString "-" =⟨#[45]⟩:=by decide+kernel
 rw[e]
 have:=PySem.StrLaws.subAt_one z 45 0
 unfold Txt.startswith
 rw[Bool.eq_iff_iff,Bool.and_eq_true,decide_eq_true_iff,decide_eq_true_iff]
 exact this
def spNumIn:Sp:=fun vs H Q _=>∃w:Str,vs=[.str w]∧Pl w∧((GoodW (cp w)∧∀H',Same H H'→Q (.int (NumText.digitsVal (cp w):Nat)) H')∨(BadW (cp w)∧∀H',Same H H'→Q .non H'))
theorem lgn {n:Nat}(h:n<10^20):((n:Int)).natAbs.log2<1920:=lg (by omega) (by omega)
theorem good_or (l:List Nat):GoodW l∨BadW l:=by
 rcases Classical.em (BadW l) with h|h
 ·exact .inr h
 ·refine .inl ?_
  unfold BadW at h
  refine⟨Nat.pos_of_ne_zero fun z=>h (.inl z),Nat.le_of_not_lt fun z=>h (.inr (.inl z)),fun c hc=>?_,fun e=>?_⟩
  ·rcases Classical.em (48≤c∧c≤57) with g|g
   ·exact g
   ·exact absurd (.inr (.inr (.inl ⟨c,hc,g⟩))) h
  ·have h1:¬1<l.length:=fun z=>h (.inr (.inr (.inr ⟨e,z⟩)))
   have h2:0<l.length:=by
    cases l with
    |nil=>cases e
    |cons a r=>simp
   omega
theorem not_both {l:List Nat}(g:GoodW l)(b:BadW l):False:=by
 obtain⟨g1,g2,g3,g4⟩:=g
 rcases b with b|b|⟨c,hc,hn⟩|⟨b1,b2⟩
 ·omega
 ·omega
 ·exact hn (g3 c hc)
 ·have:=g4 b1;omega
noncomputable def nv (l:List Nat):V:= @ite _ (GoodW l) (Classical.propDecidable _) (.int (NumText.digitsVal l:Nat)) .non
theorem nv_good {l:List Nat}(h:GoodW l):nv l=.int (NumText.digitsVal l:Nat):=by unfold nv;exact if_pos h
theorem nv_bad {l:List Nat}(h:BadW l):nv l=.non:=by unfold nv;exact if_neg fun g=>not_both g h
theorem dot:Str.ofString "." =⟨#[46]⟩:=by decide+kernel
theorem jl_len (c:Nat):∀P:List (List Nat),(jl c P).length≤(P.map fun p=>p.length+1).sum
 |[]=>Nat.le_refl _
 |[p]=>by show p.length≤_;simp
 |p::q::r=>by
  have:=jl_len c (q::r)
  rw[jl_cons (by simp),List.length_append,List.length_cons,List.map_cons,List.sum_cons]
  omega
theorem jl_mem {c d:Nat}:∀{P:List (List Nat)},d∈jl c P→d=c∨∃p∈P,d∈p
 |[],h=>nomatch h
 |[p],h=> .inr ⟨p,List.mem_cons_self,h⟩
 |p::q::r,h=>by
  rw[jl_cons (by simp)] at h
  rcases List.mem_append.mp h with h|h
  ·exact .inr ⟨p,List.mem_cons_self,h⟩
  ·rcases List.mem_cons.mp h with h|h
   ·exact .inl h
   ·rcases jl_mem h with h|⟨x,hx,hd⟩
    ·exact .inl h
    ·exact .inr ⟨x,List.mem_cons_of_mem _ hx,hd⟩
def spWholeIn:Sp:=fun vs H Q _=>∃w:Str,vs=[.str w]∧Pl w∧
 (((cp w)[0]?≠some 45∧((GoodW (cp w)∧∀H',Same H H'→Q (.int (NumText.digitsVal (cp w):Nat)) H')∨(BadW (cp w)∧∀H',Same H H'→Q .non H')))∨
  (∃l,cp w=45::l∧((GoodW l∧∀H',Same H H'→Q (if NumText.digitsVal l=0 then .non else .int (0 - (NumText.digitsVal l:Nat))) H')∨(BadW l∧∀H',Same H H'→Q .non H'))))
theorem dg_head45 (n:Nat):(dg n)[0]?≠some 45:=fun e=>by
 have:=dg_all n 45 (List.mem_of_getElem? e)
 omega
noncomputable def cut (c:Nat):List Nat→List (List Nat)
 |[]=>[[]]
 |a::r=>if a=c then []::cut c r else (a::(cut c r).headD [])::(cut c r).tail
theorem cut_ne (c:Nat)(l:List Nat):cut c l≠[]:=by
 cases l with
 |nil=>simp[cut]
 |cons a r=>unfold cut;split<;>simp
theorem jl_cut (c:Nat):∀l,jl c (cut c l)=l
 |[]=>rfl
 |a::r=>by
  have ih:=jl_cut c r
  have hne:=cut_ne c r
  unfold cut
  split
  ·rename_i h
   rw[jl_cons hne,ih,h];rfl
  ·cases e:cut c r with
   |nil=>exact absurd e hne
   |cons p q=>
    rw[e] at ih
    show jl c ((a::p)::q)=a::r
    rw[←ih]
    cases q with
    |nil=>rfl
    |cons b t=>rfl
theorem cut_free (c:Nat):∀l,∀p∈cut c l,c∉p
 |[],p,h=>by rw[List.mem_singleton.mp h];exact List.not_mem_nil
 |a::r,p,h=>by
  have ih:=cut_free c r
  have hne:=cut_ne c r
  unfold cut at h
  split at h
  ·rcases List.mem_cons.mp h with rfl|h
   ·exact List.not_mem_nil
   ·exact ih p h
  ·rename_i hac
   cases e:cut c r with
   |nil=>exact absurd e hne
   |cons q t=>
    rw[e] at h ih
    rcases List.mem_cons.mp h with rfl|h
    ·intro z
     rcases List.mem_cons.mp z with z|z
     ·exact hac z.symm
     ·exact ih q List.mem_cons_self z
    ·exact ih p (List.mem_cons_of_mem _ h)
theorem cut_app (c:Nat)(y:List Nat):∀x,cut c (x++c::y)=cut c x++cut c y
 |[]=>by show cut c (c::y)=_;simp[cut]
 |a::r=>by
  have ih:=cut_app c y r
  have hne:=cut_ne c r
  rw[List.cons_append]
  simp only[cut]
  by_cases h:a=c
  ·rw[if_pos h,if_pos h,ih];rfl
  ·rw[if_neg h,if_neg h,ih]
   cases e:cut c r with
   |nil=>exact absurd e hne
   |cons p q=>rfl
theorem cut_none {c:Nat}:∀{x:List Nat},c∉x→cut c x=[x]
 |[],_=>rfl
 |a::r,h=>by
  have ih:=cut_none (x:=r) fun z=>h (List.mem_cons_of_mem _ z)
  unfold cut
  rw[if_neg fun z=>h (by rw[z];exact List.mem_cons_self),ih];rfl
theorem split_is (x:Str)(c:Nat):(Txt.split x ⟨#[c]⟩).map cp=cut c (cp x):=split_cp x c (cut_ne c _) (cut_free c _) (jl_cut c _).symm
theorem nl:Str.ofString "\n" =⟨#[10]⟩:=by decide+kernel
theorem blank:Str.ofString " " =⟨#[32]⟩:=by decide+kernel
theorem str_of:∀{a b:List Str},a.map cp=b.map cp→a=b
 |[],[],_=>rfl
 |[],_::_,h=>by cases h
 |_::_,[],h=>by cases h
 |x::r,y::t,h=>by
  obtain⟨h1,h2⟩:=List.cons.inj h
  rw[str_ext h1,str_of h2]
theorem dps_strs {K:PySem.W.Frag}{H:Hp}:∀{ws:List Str},(∀s∈ws,PyData.strOk s=true)→Dps K H (ws.map V.str) (ws.map PyData.str)
 |[],_=> .nil
 |s::r,h=> .cons (.str s (h s List.mem_cons_self)) (dps_strs fun t ht=>h t (List.mem_cons_of_mem _ ht))
theorem depth_strs (ws:List Str):(PyData.list (ws.map PyData.str)).depth≤60:=by
 have:PyData.depthAll (ws.map PyData.str)≤0:=depthAll_le fun d hd=>by
  obtain⟨i,_,rfl⟩:=List.mem_map.mp hd
  simp[PyData.depth]
 simp only[PyData.depth];omega
def lets:List Nat:=cp (Str.ofString "abcdefghijklmnopqrstuvwxyz")
def figs:List Nat:=cp (Str.ofString "0123456789")
noncomputable def goodL:List Nat→Bool
 |[]=>false
 |c::r=>decide (r.length≤11)&&decide (c∈lets)&&r.all fun d=>decide (d∈lets)||decide (d∈figs)
theorem good_cons (c:Nat)(r:List Nat):goodL (c::r)=(decide (r.length≤11)&&decide (c∈lets)&&r.all fun d=>decide (d∈lets)||decide (d∈figs)):=rfl
def Asc (x:Str):Prop:=x.cps.all (· <128)=true∧x.length≤1000
def good (x:Str):Bool:=goodL (cp x)
def spName:Sp:=fun vs H Q _=>∃x:Str,vs=[.str x]∧Asc x∧∀H',Same H H'→Q (.bl (good x)) H'
def fS (d:Nat):Bool:=decide (d∈lets)||decide (d∈figs)
theorem good_none {x:Str}(h:¬(1≤x.length∧x.length≤12)):good x=false:=by
 unfold good
 have hl:=cp_len x
 cases e:cp x with
 |nil=>rfl
 |cons c r=>
  rw[e,List.length_cons] at hl
  rw[good_cons,decide_eq_false (by omega)]
  rfl
theorem good_cut {x:Str}{c:Nat}{r:List Nat}(e:cp x=c::r)(h:x.length≤12):good x=(decide (c∈lets)&&(cp x).all fS):=by
 have hl:=cp_len x
 rw[e,List.length_cons] at hl
 unfold good
 rw[e,good_cons,decide_eq_true (by omega),List.all_cons]
 show(true&&decide (c∈lets)&&r.all fS)=(decide (c∈lets)&&((decide (c∈lets)||decide (c∈figs))&&r.all fS))
 cases decide (c∈lets)<;>simp
noncomputable def goodW (l:List Nat):Bool:=decide (1≤l.length)&&decide (l.length≤18)&&l.all (fun c=>decide (48≤c)&&decide (c≤57))&&(!decide (l[0]?=some 48)||decide (l.length=1))
theorem goodW_iff {l:List Nat}:goodW l=true↔GoodW l:=by
 unfold goodW GoodW
 simp only[Bool.and_eq_true,Bool.or_eq_true,Bool.not_eq_true',decide_eq_true_iff,decide_eq_false_iff_not,List.all_eq_true]
 constructor
 ·rintro⟨⟨⟨h1,h2⟩,h3⟩,h4⟩
  exact⟨h1,h2,h3,fun e=>h4.resolve_left fun z=>z e⟩
 ·rintro⟨h1,h2,h3,h4⟩
  refine⟨⟨⟨h1,h2⟩,h3⟩,?_⟩
  by_cases e:l[0]?=some 48
  ·exact .inr (h4 e)
  ·exact .inl e
theorem badW_iff {l:List Nat}:goodW l=false↔BadW l:=by
 constructor
 ·intro h
  rcases good_or l with g|b
  ·rw[goodW_iff.mpr g] at h;cases h
  ·exact b
 ·intro b
  cases h:goodW l with
  |false=>rfl
  |true=>exact(not_both (goodW_iff.mp h) b).elim
noncomputable def numP (l:List Nat):Option Nat:=if goodW l then some (NumText.digitsVal l) else none
noncomputable def spotP (l:List Nat):Option (List Int):=match cut 46 l with
 |[a,b,c]=>match numP a,numP b,numP c with
  |some x,some y,some z=>some [(x:Int),(y:Int),(z:Int)]
  |_,_,_=>none
 |_=>none
noncomputable def wholeP (l:List Nat):Option Int:=if l[0]?=some 45 then (match numP l.tail with|none=>none|some n=>if n=0 then none else some (0 - (n:Int))) else (numP l).map Int.ofNat
noncomputable def okS (ws:List (List Nat)) (n:Nat):Bool:=decide (ws.length=n)&&ws.all fun w=>(spotP w).isSome
noncomputable def okN (ws:List (List Nat)) (n:Nat):Bool:=decide (ws.length=n)&&ws.all fun w=>(wholeP w).isSome
def L (s:String):List Nat:=s.toList.map Char.toNat
structure Dr where
 kind:Nat
 hl:Bool
 ht:Bool
 sp:Bool
 last:Option (List Int)
def fresh (k:Nat):Dr:=⟨k,false,false,false,none⟩
noncomputable def notB (o:Option (List Int)) (s:List Int):Bool:=match o with|some t=>!HT.lexLt t s|none=>false
noncomputable def takeA (d:Dr):List (List Nat)→Option Dr
 |[]=>none
 |w::ws=>match spotP w with
  |none=>none
  |some s=>if notB d.last s then none
   else if d.kind=1 then (if d.hl&&okN ws 1 then some {d with last:=some s} else none)
   else (if decide (d.kind=2)&&okN ws 2 then some {d with last:=some s,ht:=true} else none)
noncomputable def takeD (d:Dr):List (List Nat)→Option Dr
 |[]=>none
 |w::ws=>
  if w=L "step" then (if decide (d.kind=3)||decide (d.kind=4)||!okS ws 2||d.hl||d.ht then none else some d)
  else if w=L "hill" then (if !decide (d.kind=1)||!okN ws 1 then none else some {d with hl:=true,last:=none})
  else if w=L "at" then takeA d ws
  else if w=L "cut" then (if !decide (d.kind=4)||!okS ws 1||d.sp then none else some d)
  else if w=L "spot" then (if !(decide (d.kind=3)||decide (d.kind=4))||!okS ws 1 then none else some {d with sp:=true})
  else none
structure Rs where
 fst:Bool
 part:Nat
 name:List Nat
 dr:Option Dr
noncomputable def kindP (w:List Nat):Option (Nat×Nat):=if w=L "tree" then some (1,1) else if w=L "bundle" then some (2,2) else if w=L "shore" then some (3,0) else if w=L "cut" then some (4,0) else none
noncomputable def draftP (p:Nat) (ws:List (List Nat)):Option Dr:=if p=0 then (if ws.isEmpty then some (fresh 0) else none) else match ws with
 |[]=>none
 |k::r=>match kindP k with
  |none=>none
  |some (kd,n)=>if okN r n then some (fresh kd) else none
noncomputable def takeH (st:Rs) (p:Nat):List (List Nat)→Option Rs
 |[]=>none
 |n::r=>if p<st.part∨goodL n=false∨(p=st.part∧¬st.name<n) then none else (draftP p r).map fun d=>⟨st.fst,p,n,some d⟩
noncomputable def partP (w:List Nat):Option Nat:=if w=L "laid" then some 0 else if w=L "paper" then some 1 else if w=L "never" then some 2 else none
noncomputable def takeR (st:Rs) (ws:List (List Nat)):Option Rs:=if st.fst=false then (if ws=[L "answer",L "rested"]∨ws=[L "answer",L "open"] then some {st with fst:=true} else none) else match ws with
 |[]=>none
 |w::r=>match partP w with
  |some p=>takeH st p r
  |none=>match st.dr with
   |none=>none
   |some d=>(takeD d ws).map fun d'=>{st with dr:=some d'}
noncomputable def runR (st:Rs):List (List Nat)→Option Rs
 |[]=>some st
 |r::rs=>(takeR st (cut 32 r)).bind fun st'=>runR st' rs
def rs0:Rs:=⟨false,0,[],none⟩
def FK (F:List Addr) (H H':Hp):Prop:=∀b o,b∉F→H b=some o→H' b=some o
theorem FK.refl (F:List Addr)(H:Hp):FK F H H:=fun _ _ _ h=>h
theorem FK.of {F:List Addr}{H H':Hp}(s:Same H H'):FK F H H':=fun b o _ h=>s b o h
theorem FK.trans {F:List Addr}{H H1 H2:Hp}(a:FK F H H1)(b:FK F H1 H2):FK F H H2:=fun c o n h=>b c o n (a c o n h)
theorem FK.set {F:List Addr}{H H1:Hp}{a:Addr}{o:HO}(s:FK F H H1)(m:a∈F):FK F H (upd H1 a o):=fun b u n h=>by
 rw[upd_ne fun z=>n (by rw[z];exact m)];exact s b u n h
theorem FK.mono {F G:List Addr}{H H':Hp}(s:FK F H H')(h:∀x∈F,x∈G):FK G H H':=fun b o n e=>s b o (fun z=>n (h b z)) e
theorem FK.same {F:List Addr}{H0 H H':Hp}(s:FK F H H')(k:Same H0 H)(n:∀x∈F,H0 x=none):Same H0 H':=fun b o e=>s b o (fun z=>by rw[n b z] at e;cases e) (k b o e)
theorem some_upd {H:Hp}{F:List Addr}{b:Addr}{p:HO}(h:∀y∈F,∃o,H y=some o):∀y∈F,∃o,upd H b p y=some o:=fun y hy=>by
 by_cases e:y=b
 ·exact⟨p,by rw[e,upd_same]⟩
 ·rw[upd_ne e];exact h y hy
noncomputable def kS (k:Nat):Str:=if k=0 then Str.ofString "laid" else if k=1 then Str.ofString "tree" else if k=2 then Str.ofString "bundle" else if k=3 then Str.ofString "shore" else Str.ofString "cut"
noncomputable def mtD:List Str:=["take_step", "take_hill", "take_height", "take_hill_height", "take_pair", "take_cut", "take_spot", "take_row"]
def mtR:List Str:=["take_words", "take_first", "take_head"]
structure DrP (cD:Addr) (n:Nat) (F:List Addr) (H:Hp) (a:Addr) (d:Dr) (dx:Addr) (fs:List (Str×V)) (lw lh hd lc ls:Addr) (ws ys cs zs:List V) (kvs:List (List Key×V)) (lv:V):Prop where
 ha:H a=some (.ins cD dx fs)
 ln:fs.length≤20
 no:∀m∈mtD,fs.lookup m=none
 k4:d.kind≤4
 fk:fs.lookup ("kind" :Str)=some (.str (kS d.kind))
 fw:fs.lookup ("wires" :Str)=some (.ref lw)
 fh:fs.lookup ("hills" :Str)=some (.ref lh)
 fd:fs.lookup ("heights" :Str)=some (.ref hd)
 fc:fs.lookup ("cut" :Str)=some (.ref lc)
 fp:fs.lookup ("spots" :Str)=some (.ref ls)
 fl:fs.lookup ("last" :Str)=some lv
 jw:H lw=some (.lst ws)
 jh:H lh=some (.lst ys)
 jd:H hd=some (.dT kvs)
 jc:H lc=some (.lst cs)
 js:H ls=some (.lst zs)
 n1:ws.length≤n
 n2:ys.length≤n
 n3:kvs.length≤n
 n4:cs.length≤n
 n5:zs.length≤n
 b1:d.hl=!ys.isEmpty
 b2:d.ht=!kvs.isEmpty
 b3:d.sp=!zs.isEmpty
 e1:lw≠lh
 e2:lw≠lc
 e3:lw≠ls
 e4:lh≠lc
 e5:lh≠ls
 e6:lc≠ls
 ma:a∈F
 mw:lw∈F
 mh:lh∈F
 md:hd∈F
 mc:lc∈F
 ms:ls∈F
 fm:∀y∈F,∃o,H y=some o
 hi:d.hl=true→∃ys0 t top dd kv2,ys=ys0++[.ref t]∧H t=some (.tup [top,.ref dd])∧H dd=some (.dT kv2)∧kv2.length≤n∧dd∈F∧dd≠hd
 la:match d.last with|none=>lv=.non|some s=>∃t,lv=.ref t∧H t=some (.tup (s.map V.int))∧s.length=3
def DrAt (cD:Addr) (n:Nat) (F:List Addr) (H:Hp) (a:Addr) (d:Dr):Prop:=∃dx fs lw lh hd lc ls ws ys cs zs kvs lv,DrP cD n F H a d dx fs lw lh hd lc ls ws ys cs zs kvs lv
theorem DrP.kept {cD:Addr}{n:Nat}{F:List Addr}{H H':Hp}{a:Addr}{d:Dr}{dx:Addr}{fs:List (Str×V)}{lw lh hd lc ls:Addr}{ws ys cs zs:List V}{kvs:List (List Key×V)}{lv:V}(x:DrP cD n F H a d dx fs lw lh hd lc ls ws ys cs zs kvs lv)
  (s:∀b o,b∈F→H b=some o→H' b=some o) (t:∀b xs,H b=some (.tup xs)→H' b=some (.tup xs)):DrP cD n F H' a d dx fs lw lh hd lc ls ws ys cs zs kvs lv:=by
 refine{x with ha:=s _ _ x.ma x.ha,jw:=s _ _ x.mw x.jw,jh:=s _ _ x.mh x.jh,jd:=s _ _ x.md x.jd,jc:=s _ _ x.mc x.jc,js:=s _ _ x.ms x.js,fm:=fun y hy=>let ⟨o,e⟩:=x.fm y hy;⟨o,s y o hy e⟩,hi:=fun h=>?_,la:=?_}
 ·obtain⟨ys0,u,top,dd,kv2,e1,e2,e3,e4,e5,e6⟩:=x.hi h
  exact⟨ys0,u,top,dd,kv2,e1,t _ _ e2,s _ _ e5 e3,e4,e5,e6⟩
 ·have l:=x.la
  cases e:d.last with
  |none=>rw[e] at l;exact l
  |some y=>
   rw[e] at l
   obtain⟨u,e1,e2,e3⟩:=l
   exact⟨u,e1,t _ _ e2,e3⟩
theorem DrAt.same {cD:Addr}{n:Nat}{F:List Addr}{H H':Hp}{a:Addr}{d:Dr}(x:DrAt cD n F H a d)(s:Same H H'):DrAt cD n F H' a d:=by
 obtain⟨dx,fs,lw,lh,hd,lc,ls,ws,ys,cs,zs,kvs,lv,x⟩:=x
 exact⟨dx,fs,lw,lh,hd,lc,ls,ws,ys,cs,zs,kvs,lv,x.kept (fun b o _ h=>s b o h) fun b xs h=>s b _ h⟩
def WAt (H:Hp) (l:Addr) (ws:List Str):Prop:=H l=some (.lst (ws.map V.str))∧(∀w∈ws,Pl w)∧ws.length≤1000
theorem WAt.same {H H':Hp}{l:Addr}{ws:List Str}(x:WAt H l ws)(s:Same H H'):WAt H' l ws:=⟨s _ _ x.1,x.2⟩
structure RdP (cR cD:Addr) (n:Nat) (F:List Addr) (H:Hp) (r:Addr) (st:Rs) (rx:Addr) (fs:List (Str×V)) (l:Addr) (ds:Nat→Addr) (ks:Nat→List (Key×V)) (x:Str):Prop where
 hr:H r=some (.ins cR rx fs)
 ln:fs.length≤20
 no:∀m∈mtR,fs.lookup m=none
 fr:if st.fst then∃b,fs.lookup ("rested" :Str)=some (.bl b) else fs.lookup ("rested" :Str)=some .non
 fp:fs.lookup ("part" :Str)=some (.int (st.part:Nat))
 fn:fs.lookup ("name" :Str)=some (.str x)
 fd:fs.lookup ("drafts" :Str)=some (.ref l)
 hx:cp x=st.name
 p3:st.part<3
 hl:H l=some (.lst [.ref (ds 0),.ref (ds 1),.ref (ds 2)])
 hd:∀i,i<3→H (ds i)=some (.dK (ks i))∧(ks i).length≤n∧ds i∈F
 di:∀i j,i<3→j<3→i≠j→ds i≠ds j
 mr:r∈F
 ml:l∈F
 fm:∀y∈F,∃o,H y=some o
 dr:match st.dr with
  |none=>valV (ks st.part) (.inr x)=none
  |some d=>∃a G,valV (ks st.part) (.inr x)=some (.ref a)∧DrAt cD n G H a d∧(∀y∈G,y∈F)∧r∉G∧l∉G∧∀i,i<3→ds i∉G
def RdAt (cR cD:Addr) (n:Nat) (F:List Addr) (H:Hp) (r:Addr) (st:Rs):Prop:=∃rx fs l ds ks x,RdP cR cD n F H r st rx fs l ds ks x
def spSpotIn:Sp:=fun vs H Q _=>∃w:Str,vs=[.str w]∧Pl w∧(match spotP (cp w) with|none=>∀H',Same H H'→Q .non H'|some s=>s.length=3→∀t H',Same H H'→H' t=some (.tup (s.map V.int))→Q (.ref t) H')
def Tl (H H':Hp) (v:V) (n:Nat) (b:Bool):Prop:=if b=true then∃p xs,v=.ref p∧H p=none∧H' p=some (.lst xs)∧xs.length=n else v=.non
def spWholes (K:PySem.W.Frag):Sp:=fun vs H Q _=>∃(l:Addr) (ws:List Str) (n:Nat),vs=[.ref l,.int (n:Nat)]∧WAt H l ws∧∀v H',Same H H'→Tl H H' v n (okN (ws.map cp) n)→Q v H'
def spSpotsT (K:PySem.W.Frag):Sp:=fun vs H Q _=>∃(l:Addr) (ws:List Str) (n:Nat),vs=[.ref l,.int (n:Nat)]∧WAt H l ws∧∀v H',Same H H'→Tl H H' v n (okS (ws.map cp) n)→Q v H'
def spDInit (cD:Addr):Sp:=fun vs H Q _=>∃(a dx:Addr) (k:Nat) (v:V),vs=[.ref a,.str (kS k),v]∧k≤4∧H a=some (.ins cD dx [])∧∀F H',DrAt cD 0 F H' a (fresh k)→FK [a] H H'→(∀x∈F,x=a∨H x=none)→Q .non H'
def tkD (cD:Addr) (n:Nat) (F:List Addr) (H:Hp) (a:Addr) (r:Option Dr) (Q:VK):Prop:=match r with
 |none=>∀H',FK F H H'→Q (.bl false) H'
 |some d=>∀F' H',DrAt cD (n+1) F' H' a d→FK F H H'→(∀x∈F',x∈F∨H x=none)→Q (.bl true) H'
def spTk (cD:Addr) (w:String):Sp:=fun vs H Q _=>∃(a l:Addr) (n:Nat) (F:List Addr) (d:Dr) (ws:List Str),vs=[.ref a,.ref l]∧n<900∧DrAt cD n F H a d∧WAt H l ws∧l∉F∧tkD cD n F H a (takeD d (L w::ws.map cp)) Q
def spTStep (cD:Addr):Sp:=spTk cD "step"
def spTHill (cD:Addr):Sp:=spTk cD "hill"
def spTHeight (cD:Addr):Sp:=spTk cD "at"
def spTCut (cD:Addr):Sp:=spTk cD "cut"
def spTSpot (cD:Addr):Sp:=spTk cD "spot"
def spTRow (cD:Addr):Sp:=fun vs H Q _=>∃(a l:Addr) (n:Nat) (F:List Addr) (d:Dr) (ws:List Str),vs=[.ref a,.ref l]∧n<900∧DrAt cD n F H a d∧WAt H l ws∧l∉F∧ws≠[]∧tkD cD n F H a (takeD d (ws.map cp)) Q
def NmA (H:Hp) (v:V) (m:Nat) (b:Bool):Prop:=if b then∃p xs,v=.ref p∧H p=some (.lst xs)∧xs.length=m else v=.non
def spTHH (cD:Addr):Sp:=fun vs H Q _=>∃(a t:Addr) (v:V) (b:Bool) (s:List Int) (n:Nat) (F:List Addr) (d:Dr),vs=[.ref a,.ref t,v]∧n<900∧DrAt cD n F H a d∧H t=some (.tup (s.map V.int))∧NmA H v 1 b∧tkD cD n F H a (if d.hl&&b then some d else none) Q
def spTPair (cD:Addr):Sp:=fun vs H Q _=>∃(a t:Addr) (v:V) (b:Bool) (s:List Int) (n:Nat) (F:List Addr) (d:Dr),vs=[.ref a,.ref t,v]∧n<900∧DrAt cD n F H a d∧H t=some (.tup (s.map V.int))∧NmA H v 2 b∧tkD cD n F H a (if decide (d.kind=2)&&b then some {d with ht:=true} else none) Q
noncomputable def pS (p:Nat):Str:=if p=0 then Str.ofString "laid" else if p=1 then Str.ofString "paper" else Str.ofString "never"
def spDTold (cD:Addr):Sp:=fun vs H Q _=>∃(l:Addr) (p:Nat) (ws:List Str),vs=[.str (pS p),.ref l]∧p<3∧WAt H l ws∧(match draftP p (ws.map cp) with
 |none=>∀H',Same H H'→Q .non H'
 |some d=>∀a F H',DrAt cD 0 F H' a d→Same H H'→(∀x∈F,H x=none)→Q (.ref a) H')
def spRInit (cR:Addr):Sp:=fun vs H Q _=>∃(r rx:Addr),vs=[.ref r]∧H r=some (.ins cR rx [])∧∀cD F H',RdAt cR cD 0 F H' r rs0→FK [r] H H'→(∀x∈F,x=r∨H x=none)→Q .non H'
def tkR (cR cD:Addr) (n:Nat) (F:List Addr) (H:Hp) (r:Addr) (o:Option Rs) (Q:VK):Prop:=match o with
 |none=>∀H',FK F H H'→Q (.bl false) H'
 |some st=>∀F' H',RdAt cR cD (n+1) F' H' r st→FK F H H'→(∀x∈F',x∈F∨H x=none)→Q (.bl true) H'
def spTFirst (cR cD:Addr):Sp:=fun vs H Q _=>∃(r l:Addr) (n:Nat) (F:List Addr) (st:Rs) (ws:List Str),vs=[.ref r,.ref l]∧n<900∧RdAt cR cD n F H r st∧WAt H l ws∧l∉F∧st.fst=false∧ws≠[]∧tkR cR cD n F H r (takeR st (ws.map cp)) Q
def spTHead (cR cD:Addr):Sp:=fun vs H Q _=>∃(r l:Addr) (n p:Nat) (F:List Addr) (st:Rs) (ws:List Str),vs=[.ref r,.int (p:Nat),.ref l]∧n<900∧p<3∧RdAt cR cD n F H r st∧st.fst=true∧WAt H l ws∧l∉F∧tkR cR cD n F H r (takeH st p (ws.map cp)) Q
def spTWords (cR cD:Addr):Sp:=fun vs H Q _=>∃(r l:Addr) (n:Nat) (F:List Addr) (st:Rs) (ws:List Str),vs=[.ref r,.ref l]∧n<900∧RdAt cR cD n F H r st∧WAt H l ws∧l∉F∧ws≠[]∧tkR cR cD n F H r (takeR st (ws.map cp)) Q
def spXInit (K:PySem.W.Frag):Sp:=fun vs H Q _=>∃(x C f:Addr) (i:Nat),vs=[.ref x,.int (i:Nat)]∧i<1000∧H x=some (exN x (.ref C) none)∧MkX K C f∧XAttr K C "row" ∧∀d,H d=none→d≠x→Q .non (upd (upd H x (exN x (.ref C) (some d))) d (.xd [("row",.int (i:Nat))]))
def RowOk (r:List Nat):Prop:=(∀c∈r,c<128∧c≠10)∧r.length≤500
def FirstBad (x:Str) (k:Nat):Prop:=∃(a:List (List Nat)) (b:List Nat) (c:List (List Nat)) (st:Rs),cp x=jl 10 (a++b::c)∧(∀r∈a++b::c,RowOk r)∧(a++b::c).length≤400∧runR rs0 a=some st∧takeR st (cut 32 b)=none∧k=a.length+1
def spRead (cB:Addr):Sp:=fun vs H _ E=>∃(x:Str) (k:Nat),vs=[.str x]∧FirstBad x k∧∀d H',Same H H'→H' d=some (.xd [("row",.int (k:Nat))])→E (.ref cB) (some d) H'
def spAsked:Sp:=fun vs H Q _=>∃(x:Str) (k:Nat),vs=[.str x]∧FirstBad x k∧∀t l H',Same H H'→H' t=some (.tup [.int (k:Nat),.ref l])→H' l=some (.lst [.bl true,.bl true,.bl false])→Q (.ref t) H'
def spLaw (K:PySem.W.Frag):Sp:=fun vs H Q _=>∃(a:Addr) (ns:List Int),vs=[.ref a]∧SqL K H a (ns.map V.int)∧ns.length≤63∧∀H',Q (.bl true) H'
def spCell (K:PySem.W.Frag):Sp:=fun vs H Q _=>∃(a:Addr) (ns:List Int) (i:Int),vs=[.ref a,.int i]∧SqL K H a (ns.map V.int)∧0≤i∧∀v:Int,Q (.int v) H
theorem cut_jl {c:Nat}:∀{P:List (List Nat)},P≠[]→(∀p∈P,c∉p)→cut c (jl c P)=P
 |[],h,_=>absurd rfl h
 |[p],_,hf=>cut_none (hf p List.mem_cons_self)
 |p::q::r,_,hf=>by
  rw[jl_cons (by simp),cut_app,cut_none (hf p List.mem_cons_self),cut_jl (by simp) fun z hz=>hf z (List.mem_cons_of_mem _ hz)]
  rfl
noncomputable def spotL (s:List Int):List Nat:=jl 46 (s.map fun i=>dg i.toNat)
def numL (i:Int):List Nat:=cp (toString i)
def S3 (m:Nat) (s:List Int):Prop:=∃x y z:Nat,s=[(x:Int),(y:Int),(z:Int)]∧x<m∧y<m∧z<m
theorem S3.mono {m k:Nat}{s:List Int}(h:S3 m s)(hk:m≤k):S3 k s:=by
 obtain⟨x,y,z,e,h1,h2,h3⟩:=h
 exact⟨x,y,z,e,by omega,by omega,by omega⟩
theorem numP_dg {n:Nat}(h:n<10^18):numP (dg n)=some n:=by unfold numP;rw[goodW_iff.mpr (dg_good h),dg_val];rfl
theorem dg_free (n c:Nat)(h:c<48):c∉dg n:=fun z=>by have:=dg_all n c z;omega
theorem spotP_L {s:List Int}(h:S3 (10^18) s):spotP (spotL s)=some s:=by
 obtain⟨x,y,z,rfl,h1,h2,h3⟩:=h
 unfold spotP spotL
 simp only[List.map_cons,List.map_nil,Int.toNat_natCast]
 rw[cut_jl (by simp) (fun p hp=>by
  simp only[List.mem_cons,List.not_mem_nil,or_false] at hp
  rcases hp with rfl|rfl|rfl<;>exact dg_free _ 46 (by decide))]
 dsimp only
 rw[numP_dg h1,numP_dg h2,numP_dg h3]
theorem spotL_free {s:List Int}{c:Nat}(hc:c<46):c∉spotL s:=fun h=>by
 rcases jl_mem h with e|⟨p,hp,hd⟩
 ·omega
 ·obtain⟨i,_,rfl⟩:=List.mem_map.mp hp
  exact dg_free _ c (by omega) hd
theorem spotL_all {s:List Int}(h:S3 (10^18) s):(∀c∈spotL s,c<128∧c≠10)∧(spotL s).length≤60:=by
 obtain⟨x,y,z,rfl,h1,h2,h3⟩:=h
 refine⟨fun c hc=>?_,?_⟩
 ·rcases jl_mem hc with e|⟨p,hp,hd⟩
  ·omega
  ·obtain⟨i,_,rfl⟩:=List.mem_map.mp hp
   have:=dg_all _ _ hd;omega
 ·refine Nat.le_trans (jl_len 46 _) ?_
  have l1:=dg_len_le (k:=18) (by decide) h1
  have l2:=dg_len_le (k:=18) (by decide) h2
  have l3:=dg_len_le (k:=18) (by decide) h3
  simp only[List.map_cons,List.map_nil,Int.toNat_natCast,List.sum_cons,List.sum_nil]
  omega
theorem numL_cases (i:Int):(∃n:Nat,i=n∧numL i=dg n)∨∃n:Nat,0<n∧i= -(n:Int)∧numL i=45::dg n:=by
 rcases Int.lt_or_le i 0 with h|h
 ·obtain⟨n,hn⟩:=Int.eq_ofNat_of_zero_le (show 0≤ -i by omega)
  refine .inr ⟨n,by omega,by omega,?_⟩
  have:i= -(n:Int):=by omega
  rw[this]
  exact cp_neg (by omega)
 ·obtain⟨n,rfl⟩:=Int.eq_ofNat_of_zero_le h
  exact .inl ⟨n,rfl,cp_num n⟩
theorem wholeP_L {i:Int}(h:i.natAbs<10^18):wholeP (numL i)=some i:=by
 rcases numL_cases i with ⟨n,rfl,e⟩|⟨n,h0,rfl,e⟩
 ·rw[e]
  unfold wholeP
  rw[if_neg (dg_head45 n),numP_dg (by simpa using h)]
  rfl
 ·rw[e]
  unfold wholeP
  rw[if_pos (show(45::dg n)[0]?=some 45 from rfl)]
  show(match numP (dg n) with|none=>none|some n=>if n=0 then none else some (0 - (n:Int)))=_
  rw[numP_dg (by simpa using h)]
  dsimp only
  rw[if_neg (by omega),Int.zero_sub]
theorem numL_free {i:Int}{c:Nat}(hc:c<45):c∉numL i:=fun h=>by
 rcases numL_cases i with ⟨n,_,e⟩|⟨n,_,_,e⟩
 ·rw[e] at h;exact dg_free n c (by omega) h
 ·rw[e] at h
  rcases List.mem_cons.mp h with z|z
  ·omega
  ·exact dg_free n c (by omega) z
theorem numL_all {i:Int}(h:i.natAbs<10^18):(∀c∈numL i,c<128∧c≠10)∧(numL i).length≤20:=by
 rcases numL_cases i with ⟨n,rfl,e⟩|⟨n,h0,rfl,e⟩
 ·rw[e]
  exact⟨fun c hc=>by have:=dg_all n c hc;omega,Nat.le_trans (dg_len_le (k:=18) (by decide) (by simpa using h)) (by decide)⟩
 ·rw[e]
  refine⟨fun c hc=>?_,?_⟩
  ·rcases List.mem_cons.mp hc with z|z
   ·omega
   ·have:=dg_all n c z;omega
  ·rw[List.length_cons]
   have:=dg_len_le (k:=18) (n:=n) (by decide) (by simpa using h)
   omega
theorem RowOk.jl {ws:List (List Nat)}(h:∀w∈ws,(∀c∈w,c<128∧c≠10)∧w.length≤60)(hl:ws.length≤6):RowOk (jl 32 ws):=by
 refine⟨fun c hc=>?_,?_⟩
 ·rcases jl_mem hc with e|⟨p,hp,hd⟩
  ·omega
  ·exact(h p hp).1 c hd
 ·refine Nat.le_trans (jl_len 32 _) ?_
  have:∀{ws:List (List Nat)},(∀w∈ws,w.length≤60)→(ws.map fun p=>p.length+1).sum≤ws.length*61:=by
   intro ws
   induction ws with
   |nil=>intro _;simp
   |cons a r ih=>
    intro h
    have h1:=h a List.mem_cons_self
    have h2:=ih fun w hw=>h w (List.mem_cons_of_mem _ hw)
    simp only[List.map_cons,List.sum_cons,List.length_cons]
    omega
  have:=this fun w hw=>(h w hw).2
  omega
structure Bk where
 part:Nat
 name:Str
 kind:Nat
 nums:List Int
 place:Nat
 hl:Bool
 hp:List (List Int)
 bp:List (List Int)
 sp:Bool
 rows:List Str
noncomputable def dOf (b:Bk):Dr:=⟨b.kind,b.hl,!b.bp.isEmpty,b.sp,if b.kind=1 then b.hp.getLast? else b.bp.getLast?⟩
def kN (k:Nat):Nat:=if k=1 then 1 else if k=2 then 2 else 0
def kL (k:Nat):List Nat:=cp (kS k)
def pL (p:Nat):List Nat:=cp (pS p)
noncomputable def headW (b:Bk):List (List Nat):=if b.part=0 then [L "laid",cp b.name] else [pL b.part,cp b.name,kL b.kind]++b.nums.map numL
def headL (b:Bk):List Nat:=jl 32 (headW b)
structure Sps (ss:List (List Int)):Prop where
 bd:∀(i:Nat) s,ss[i]?=some s→S3 (10^17+(i+1)*10^15) s
 up:ss.Pairwise fun a b=>HT.lexLt a b=true
 ln:ss.length≤100
structure HdOk (b:Bk):Prop where
 p3:b.part<3
 k4:b.kind≤4
 pk:b.part=0↔b.kind=0
 nn:b.nums.length=kN b.kind
 nb:∀i∈b.nums,i.natAbs<10^18
 nm:goodL (cp b.name)=true
structure OkB (ns:List Str) (b:Bk):Prop extends HdOk b where
 pl:ns[b.place]?=some b.name
 h1:b.kind≠1→b.hl=false∧b.hp=[]
 h0:b.hl=false→b.hp=[]
 b2:b.kind≠2→b.bp=[]
 s3:b.kind≠3→b.kind≠4→b.sp=false
 sh:Sps b.hp
 sb:Sps b.bp
def PrA (H:Hp) (v:V) (s:List Int):Prop:=∃p u t,v=.ref p∧H p=some (.tup [.ref t,u])∧H t=some (.tup (s.map V.int))
structure BkP (n:Nat) (F:List Addr) (H:Hp) (a:Addr) (b:Bk) (ln l4 l5 l6 l7 l8 lr:Addr) (x4 x5 x6 x7 x8:List V):Prop where
 ha:H a=some (.lst [.int (b.part:Nat),.str b.name,.str (kS b.kind),.ref ln,.ref l4,.ref l5,.ref l6,.ref l7,.ref l8,.int (b.place:Nat),.ref lr])
 hn:H ln=some (.lst (b.nums.map V.int))
 j4:H l4=some (.lst x4)
 j5:H l5=some (.lst x5)
 j6:H l6=some (.lst x6)
 j7:H l7=some (.lst x7)
 j8:H l8=some (.lst x8)
 jr:H lr=some (.lst (b.rows.map V.str))
 n4:x4.length≤n
 n5:x5.length≤n
 n6:x6.length≤n
 n7:x7.length≤n
 n8:x8.length≤n
 nr:b.rows.length≤n
 b5:b.hl=!x5.isEmpty
 b8:b.sp=!x8.isEmpty
 p6:Paired (PrA H) x6 b.bp
 nd:[a,ln,l4,l5,l6,l7,l8,lr].Nodup
 mf:∀z∈[a,ln,l4,l5,l6,l7,l8,lr],z∈F
 fm:∀y∈F,∃xs,H y=some (.lst xs)
 hi:b.hl=true→∃y0 hx top lp ps,x5=y0++[.ref hx]∧H hx=some (.lst [.int top,.ref lp])∧H lp=some (.lst ps)∧ps.length≤n∧Paired (PrA H) ps b.hp∧hx∈F∧lp∈F∧hx∉[a,ln,l4,l5,l6,l7,l8,lr]∧lp∉[a,ln,l4,l5,l6,l7,l8,lr]∧hx≠lp
def BkAt (n:Nat) (F:List Addr) (H:Hp) (a:Addr) (b:Bk):Prop:=∃ln l4 l5 l6 l7 l8 lr x4 x5 x6 x7 x8,BkP n F H a b ln l4 l5 l6 l7 l8 lr x4 x5 x6 x7 x8
theorem PrA.up {H H':Hp}{v:V}{s:List Int}(h:PrA H v s)(t:∀b xs,H b=some (.tup xs)→H' b=some (.tup xs)):PrA H' v s:=by
 obtain⟨p,u,q,e,h1,h2⟩:=h
 exact⟨p,u,q,e,t _ _ h1,t _ _ h2⟩
theorem prs_up {H H':Hp}{xs:List V}{ss:List (List Int)}(h:Paired (PrA H) xs ss)(t:∀b xs,H b=some (.tup xs)→H' b=some (.tup xs)):Paired (PrA H') xs ss:=Paired.mapP h fun _ _ z=>z.up t
theorem BkP.kept {n:Nat}{F:List Addr}{H H':Hp}{a:Addr}{b:Bk}{ln l4 l5 l6 l7 l8 lr:Addr}{x4 x5 x6 x7 x8:List V}(x:BkP n F H a b ln l4 l5 l6 l7 l8 lr x4 x5 x6 x7 x8)(s:∀y o,y∈F→H y=some o→H' y=some o)(t:∀b xs,H b=some (.tup xs)→H' b=some (.tup xs)):BkP n F H' a b ln l4 l5 l6 l7 l8 lr x4 x5 x6 x7 x8:=by
 have m:=x.mf
 simp only[List.mem_cons,List.not_mem_nil,or_false,forall_eq_or_imp,forall_eq] at m
 obtain⟨m1,m2,m3,m4,m5,m6,m7,m8⟩:=m
 refine{x with ha:=s _ _ m1 x.ha,hn:=s _ _ m2 x.hn,j4:=s _ _ m3 x.j4,j5:=s _ _ m4 x.j5,j6:=s _ _ m5 x.j6,j7:=s _ _ m6 x.j7,j8:=s _ _ m7 x.j8,jr:=s _ _ m8 x.jr,p6:=prs_up x.p6 t,fm:=fun y hy=>let ⟨o,e⟩:=x.fm y hy;⟨o,s y _ hy e⟩,hi:=fun h=>?_}
 obtain⟨y0,hx,top,lp,ps,e1,e2,e3,e4,e5,e6,e7,e8⟩:=x.hi h
 exact⟨y0,hx,top,lp,ps,e1,s _ _ e6 e2,s _ _ e7 e3,e4,prs_up e5 t,e6,e7,e8⟩
theorem BkP.same {n:Nat}{F:List Addr}{H H':Hp}{a:Addr}{b:Bk}{ln l4 l5 l6 l7 l8 lr:Addr}{x4 x5 x6 x7 x8:List V}(x:BkP n F H a b ln l4 l5 l6 l7 l8 lr x4 x5 x6 x7 x8)(s:Same H H'):BkP n F H' a b ln l4 l5 l6 l7 l8 lr x4 x5 x6 x7 x8:=x.kept (fun y o _ h=>s y o h) fun b xs h=>s b _ h
theorem BkAt.same {n:Nat}{F:List Addr}{H H':Hp}{a:Addr}{b:Bk}(x:BkAt n F H a b)(s:Same H H'):BkAt n F H' a b:=by
 obtain⟨ln,l4,l5,l6,l7,l8,lr,x4,x5,x6,x7,x8,x⟩:=x
 exact⟨ln,l4,l5,l6,l7,l8,lr,x4,x5,x6,x7,x8,x.same s⟩
theorem BkAt.fm {n:Nat}{F:List Addr}{H:Hp}{a:Addr}{b:Bk}(x:BkAt n F H a b):∀y∈F,∃xs,H y=some (.lst xs):=by
 obtain⟨ln,l4,l5,l6,l7,l8,lr,x4,x5,x6,x7,x8,x⟩:=x
 exact x.fm
theorem BkAt.fk {n:Nat}{F G:List Addr}{H H':Hp}{a:Addr}{b:Bk}(x:BkAt n F H a b)(s:FK G H H')(d:∀y∈F,y∉G)(g:∀y∈G,∃xs,H y=some (.lst xs)):BkAt n F H' a b:=by
 obtain⟨ln,l4,l5,l6,l7,l8,lr,x4,x5,x6,x7,x8,x⟩:=x
 exact⟨ln,l4,l5,l6,l7,l8,lr,x4,x5,x6,x7,x8,x.kept (fun y o m h=>s y o (d y m) h) fun y xs h=>s y _ (fun m=>by obtain⟨zs,e⟩:=g y m;rw[h] at e;cases e) h⟩
inductive BksAt (n:Nat) (H:Hp):List Addr→List Addr→List Bk→Prop
 |nil:BksAt n H [] [] []
 |snoc {F G as bs a b}:BksAt n H F as bs→BkAt n G H a b→(∀y∈G,y∉F)→BksAt n H (F++G) (as++[a]) (bs++[b])
theorem BksAt.fm {n:Nat}{H:Hp}{F as:List Addr}{bs:List Bk}(x:BksAt n H F as bs):∀y∈F,∃xs,H y=some (.lst xs):=by
 induction x with
 |nil=>intro y h;cases h
 |snoc _ h2 _ ih=>intro y h;exact(List.mem_append.mp h).elim (ih y) (h2.fm y)
theorem BksAt.fk {n:Nat}{F G as:List Addr}{H H':Hp}{bs:List Bk}(x:BksAt n H F as bs)(s:FK G H H')(d:∀y∈F,y∉G)(g:∀y∈G,∃xs,H y=some (.lst xs)):BksAt n H' F as bs:=by
 induction x with
 |nil=>exact .nil
 |snoc h1 h2 h3 ih=>exact .snoc (ih fun y hy=>d y (List.mem_append_left _ hy)) (h2.fk s (fun y hy=>d y (List.mem_append_right _ hy)) g) h3
theorem BksAt.same {n:Nat}{F as:List Addr}{H H':Hp}{bs:List Bk}(x:BksAt n H F as bs)(s:Same H H'):BksAt n H' F as bs:=x.fk (G:=[]) (FK.of s) (fun _ _ h=>nomatch h) fun _ h=>nomatch h
theorem BkAt.mono {n m:Nat}{F:List Addr}{H:Hp}{a:Addr}{b:Bk}(x:BkAt n F H a b)(h:n≤m):BkAt m F H a b:=by
 obtain⟨ln,l4,l5,l6,l7,l8,lr,x4,x5,x6,x7,x8,x⟩:=x
 refine⟨ln,l4,l5,l6,l7,l8,lr,x4,x5,x6,x7,x8,{x with n4:=Nat.le_trans x.n4 h,n5:=Nat.le_trans x.n5 h,n6:=Nat.le_trans x.n6 h,n7:=Nat.le_trans x.n7 h,n8:=Nat.le_trans x.n8 h,nr:=Nat.le_trans x.nr h,hi:=fun z=>?_}⟩
 obtain⟨y0,hx,top,lp,ps,e1,e2,e3,e4,e5⟩:=x.hi z
 exact⟨y0,hx,top,lp,ps,e1,e2,e3,Nat.le_trans e4 h,e5⟩
theorem BksAt.mono {n m:Nat}{F as:List Addr}{H:Hp}{bs:List Bk}(x:BksAt n H F as bs)(h:n≤m):BksAt m H F as bs:=by
 induction x with
 |nil=>exact .nil
 |snoc h1 h2 h3 ih=>exact .snoc ih (h2.mono h) h3
theorem BksAt.len {n:Nat}{F as:List Addr}{H:Hp}{bs:List Bk}(x:BksAt n H F as bs):as.length=bs.length:=by
 induction x with
 |nil=>rfl
 |snoc _ _ _ ih=>rw[List.length_append,List.length_append,ih];rfl
theorem BksAt.at_ {n:Nat}{F as:List Addr}{H:Hp}{bs:List Bk}(x:BksAt n H F as bs):∀{i:Nat} {a:Addr},as[i]?=some a→∃b G,bs[i]?=some b∧BkAt n G H a b∧∀y∈G,y∈F:=by
 induction x with
 |nil=>intro i a h;simp at h
 | @snoc F G as bs a' b' h1 h2 h3 ih=>
  intro i a h
  rcases Nat.lt_or_ge i as.length with z|z
  ·rw[List.getElem?_append_left z] at h
   obtain⟨b,G',e1,e2,e3⟩:=ih h
   exact⟨b,G',by rw[List.getElem?_append_left (by rw[←h1.len];exact z)];exact e1,e2,fun y hy=>List.mem_append_left _ (e3 y hy)⟩
  ·have e:i=as.length:=by
    have:=(List.getElem?_eq_some_iff.mp h).1
    rw[List.length_append] at this
    simp at this;omega
   subst e
   rw[List.getElem?_append_right (Nat.le_refl _),Nat.sub_self] at h
   cases h
   exact⟨b',G,by rw[h1.len,List.getElem?_append_right (Nat.le_refl _),Nat.sub_self];rfl,h2,fun y hy=>List.mem_append_right _ hy⟩
def rs1:Rs:=⟨true,0,[],none⟩
noncomputable def stO:Option Bk→Rs
 |none=>rs1
 |some b=>⟨true,b.part,cp b.name,some (dOf b)⟩
def rowsB (b:Bk):List (List Nat):=headL b::b.rows.map cp
def rowsA (bs:List Bk):List (List Nat):=(bs.map rowsB).flatten
structure Bs (ns:List Str) (n:Nat) (bs:List Bk):Prop where
 run:runR rs1 (rowsA bs)=some (stO bs.getLast?)
 ok:∀r∈rowsA bs,RowOk r
 la:∀b,bs.getLast?=some b→OkB ns b
 hd:∀b∈bs,HdOk b
 ln:(rowsA bs).length=n
structure Nms (ns:List Str):Prop where
 ln:ns.length=10
 ok:∀x∈ns,goodL (cp x)=true
 up:ns.Pairwise fun x y=>cp x<cp y
structure Nx (b b':Bk):Prop where
 sm:b'.part=b.part∧b'.name=b.name∧b'.kind=b.kind∧b'.nums=b.nums∧b'.place=b.place
 rw:∃r,b'.rows=b.rows++[r]∧RowOk (cp r)∧∀st:Rs,st.fst=true→st.dr=some (dOf b)→takeR st (cut 32 (cp r))=some {st with dr:=some (dOf b')}
def spMixed:Sp:=fun vs H Q _=>∃c k:Int,vs=[.int c,.int k]∧0≤k∧k<1000∧∀m:Int,0≤m→m<2147483647→Q (.int m) H
def spNumber:Sp:=fun vs H Q _=>∃c:Int,vs=[.int c]∧∀i:Int,i.natAbs<10^18→Q (.int i) H
def spSpot:Sp:=fun vs H Q _=>∃c:Int,vs=[.int c]∧∀t s H',Same H H'→S3 (10^17) s→H' t=some (.tup (s.map V.int))→Q (.ref t) H'
def spBehind:Sp:=fun vs H Q _=>∃(t:Addr) (s:List Int) (c:Int) (m:Nat),vs=[.ref t,.int c]∧S3 m s∧10^17≤m∧H t=some (.tup (s.map V.int))∧∀t' s' H',Same H H'→S3 (m+10^15) s'→HT.lexLt s s'=true→H' t'=some (.tup (s'.map V.int))→Q (.ref t') H'
def spWord:Sp:=fun vs H Q _=>∃(t:Addr) (s:List Int),vs=[.ref t]∧S3 (10^18) s∧H t=some (.tup (s.map V.int))∧∀x H',Same H H'→cp x=spotL s→Q (.str x) H'
def spNames:Sp:=fun vs H Q _=>∃c:Int,vs=[.int c]∧∀(l:Addr) (ns:List Str) H',Same H H'→H l=none→Nms ns→H' l=some (.lst (ns.map V.str))→Q (.ref l) H'
def spHead:Sp:=fun vs H Q _=>∃(a:Addr) (n:Nat) (F:List Addr) (b:Bk),vs=[.ref a]∧BkAt n F H a b∧HdOk b∧∀x H',Same H H'→cp x=headL b→Q (.str x) H'
def Bh (o:Option Bk) (b:Bk):Prop:=match o with|none=>True|some b0=>b0.part<b.part∨(b0.part=b.part∧cp b0.name<cp b.name)
def spBegun:Sp:=fun vs H Q _=>∃(bl nl:Addr) (c m:Int) (n k:Nat) (F as:List Addr) (bs:List Bk) (ns:List Str),vs=[.ref bl,.ref nl,.int m,.int c]∧0≤m∧n<200∧H bl=some (.lst (as.map V.ref))∧BksAt n H F as bs∧Bs ns k bs∧Nms ns∧H nl=some (.lst (ns.map V.str))∧
 (bs≠[]→∀H',Same H H'→Q .non H')∧∀a b G H',Same H H'→BkAt 0 G H' a b→(∀y∈G,H y=none)→OkB ns b→Bh bs.getLast? b→b.rows=[]→dOf b=fresh b.kind→Q (.ref a) H'
def spStepped:Sp:=fun vs H Q _=>∃(a l4 lr:Addr) (c m:Int) (xs x4:List V) (rs:List Str),vs=[.ref a,.int c,.int m]∧H a=some (.lst xs)∧xs[4]?=some (.ref l4)∧xs[10]?=some (.ref lr)∧xs.length=11∧H l4=some (.lst x4)∧H lr=some (.lst (rs.map V.str))∧a≠l4∧a≠lr∧l4≠lr∧x4.length<1000∧rs.length<1000∧
 ∀v x s1 s2 H',FK [l4,lr] H H'→H' l4=some (.lst (x4++[v]))→H' lr=some (.lst ((rs++[x]).map V.str))→S3 (10^18) s1→S3 (10^18) s2→cp x=jl 32 [L "step",spotL s1,spotL s2]→Q .non H'
def spLifted:Sp:=fun vs H Q _=>∃(a lp lr:Addr) (c m:Int) (k:Nat) (xs ps:List V) (ss:List (List Int)) (rs:List Str),vs=[.ref a,.ref lp,.int c,.int m]∧0≤m∧H a=some (.lst xs)∧xs[2]?=some (.str (kS k))∧(k=1∨k=2)∧xs[10]?=some (.ref lr)∧xs.length=11∧H lp=some (.lst ps)∧Paired (PrA H) ps ss∧Sps ss∧ss.length<90∧H lr=some (.lst (rs.map V.str))∧a≠lp∧a≠lr∧lp≠lr∧rs.length<1000∧
 ∀v x s n1 n2 H',FK [lp,lr] H H'→H' lp=some (.lst (ps++[v]))→Paired (PrA H') (ps++[v]) (ss++[s])→Sps (ss++[s])→H' lr=some (.lst ((rs++[x]).map V.str))→n1.natAbs<10^18→n2.natAbs<10^18→cp x=jl 32 ([L "at",spotL s,numL n1]++(if k=1 then [] else [numL n2]))→Q .non H'
def spGoneOn:Sp:=fun vs H Q _=>∃(a:Addr) (c m:Int) (n:Nat) (F:List Addr) (b:Bk) (ns:List Str),vs=[.ref a,.int c,.int m]∧0≤m∧n<90∧BkAt n F H a b∧OkB ns b∧∀F' b' H',BkAt (n+1) F' H' a b'→OkB ns b'→Nx b b'→FK F H H'→(∀x∈F',x∈F∨H x=none)→Q .non H'
def spBlocks (K:PySem.W.Frag):Sp:=fun vs H Q _=>∃(cl nl:Addr) (cs:List Int) (ns:List Str),vs=[.ref cl,.ref nl]∧SqL K H cl (cs.map V.int)∧cs.length≤64∧Nms ns∧H nl=some (.lst (ns.map V.str))∧
 ∀bl F as bs H',Same H H'→H bl=none→H' bl=some (.lst (as.map V.ref))→BksAt 100 H' F as bs→Bs ns cs.length bs→(∀y∈F,H y=none)→bl∉F→Q (.ref bl) H'
noncomputable def badAny:List (List Nat)→Bool
 |[]=>true
 |w::r=>match partP w with
  |some p=>match r with
   |[]=>true
   |n::t=>!goodL n||(draftP p t).isNone
  |none=>if w=L "step" then !okS r 2 else if w=L "hill" then !okN r 1 else if w=L "at" then (match r with|[]=>true|s::t=>(spotP s).isNone||(!okN t 1&&!okN t 2)) else if w=L "cut" then !okS r 1 else if w=L "spot" then !okS r 1 else true
def spNowhere:Sp:=fun vs H Q _=>∃c:Int,vs=[.int c]∧∀x H',Same H H'→RowOk (cp x)→badAny (cut 32 (cp x))=true→Q (.str x) H'
def spNotB:Sp:=fun vs H Q _=>∃(lp:Addr) (ps:List V) (ss:List (List Int)),vs=[.ref lp]∧H lp=some (.lst ps)∧Paired (PrA H) ps ss∧Sps ss∧∀(l:Addr) (rs:List Str) H',Same H H'→H l=none→H' l=some (.lst (rs.map V.str))→rs.length≤3→(∀x∈rs,RowOk (cp x)∧∃s t,cut 32 (cp x)=L "at" ::spotL s::t∧S3 (10^18) s∧∃u,ss.getLast?=some u∧HT.lexLt u s=false)→Q (.ref l) H'
noncomputable def LastA (n:Nat) (F:List Addr) (H:Hp) (a:Addr) (ns:List Str):Option Bk→Prop
 |none=>H a=some (.lst [])
 |some b=>BkAt n F H a b∧OkB ns b
def Shut (o:Option Bk) (x:Str):Prop:=RowOk (cp x)∧takeR (stO o) (cut 32 (cp x))=none
def spShutR:Sp:=fun vs H Q _=>∃(a:Addr) (n:Nat) (F:List Addr) (ns:List Str) (o:Option Bk),vs=[.ref a]∧LastA n F H a ns o∧∀(l:Addr) (rs:List Str) H',Same H H'→H l=none→H' l=some (.lst (rs.map V.str))→rs≠[]→rs.length≤20→(∀x∈rs,Shut o x)→Q (.ref l) H'
def spShutH:Sp:=fun vs H Q _=>∃(a:Addr) (n:Nat) (F:List Addr) (ns:List Str) (o:Option Bk),vs=[.ref a]∧LastA n F H a ns o∧∀(l:Addr) (rs:List Str) H',Same H H'→H l=none→H' l=some (.lst (rs.map V.str))→rs.length≤20→(∀x∈rs,Shut o x)→Q (.ref l) H'
def spTurn (K:PySem.W.Frag):Sp:=fun vs H Q _=>∃(hl cl ml:Addr) (t:Int) (hs cs:List Int) (ms:List Str),vs=[.ref hl,.ref cl,.ref ml,.int t]∧H hl=some (.lst (hs.map V.int))∧hs.length=6∧SqL K H cl (cs.map V.int)∧cs.length≤64∧H ml=some (.lst (ms.map V.str))∧(∀x∈ms,RowOk (cp x))∧ms.length≤100∧0≤t∧t<3∧
 ∀p x k H',Same H H'→FirstBad x k→H' p=some (.tup [.str x,.int (k:Nat)])→Q (.ref p) H'
section
variable {P:Program} {w:World} {K:PySem.W.Frag} {mg:Str→Option Value} {base:Heap}
set_option maxHeartbeats 1000000
theorem cp_cons {x:Str}(h:1≤x.length):∃c r,cp x=c::r:=by
 have hl:=cp_len x
 cases e:cp x with
 |nil=>rw[e] at hl;simp at hl;omega
 |cons c r=>exact⟨c,r,rfl⟩
def spSpotIn0:Sp:=fun vs H Q _=>∃(w:Str) (P:List (List Nat)),vs=[.str w]∧Pl w∧P≠[]∧(∀p∈P,46∉p)∧cp w=jl 46 P∧
 ((∃a b c,P=[a,b,c]∧GoodW a∧GoodW b∧GoodW c∧∀t H',Same H H'→H' t=some (.tup [.int (NumText.digitsVal a:Nat),.int (NumText.digitsVal b:Nat),.int (NumText.digitsVal c:Nat)])→Q (.ref t) H')∨
  ((P.length≠3∨∃p∈P,BadW p)∧∀H',Same H H'→Q .non H'))
theorem spot_old {vs:List V}{H:Hp}{Q:VK}{E:XK}(h:spSpotIn vs H Q E):spSpotIn0 vs H Q E:=by
 obtain⟨w,rfl,pw,q⟩:=h
 refine⟨w,cut 46 (cp w),rfl,pw,cut_ne _ _,cut_free _ _,(jl_cut _ _).symm,?_⟩
 unfold spotP at q
 split at q
 ·rename_i x e
  refine .inr ⟨?_,q⟩
  split at e
  ·rename_i a b c ec
   rw[ec]
   split at e
   ·cases e
   ·rename_i h
    refine .inr ?_
    have nb:∀l,numP l=none→BadW l:=fun l hl=>by
     unfold numP at hl
     split at hl
     ·cases hl
     ·rename_i z;exact badW_iff.mp (by simpa using z)
    cases e1:numP a with
    |none=>exact⟨a,by simp,nb a e1⟩
    |some x=>
     cases e2:numP b with
     |none=>exact⟨b,by simp,nb b e2⟩
     |some y=>
      cases e3:numP c with
      |none=>exact⟨c,by simp,nb c e3⟩
      |some z=>exact absurd e3 (h x y z e1 e2)
  ·rename_i h
   refine .inl fun hl=>?_
   match ec:cut 46 (cp w),hl with
   |[a,b,c],_=>exact h a b c ec
 ·rename_i x s e
  split at e
  ·rename_i a b c ec
   split at e
   ·rename_i x y z e1 e2 e3
    cases e
    have gd:∀l n,numP l=some n→GoodW l∧n=NumText.digitsVal l:=fun l n hl=>by
     unfold numP at hl
     split at hl
     ·rename_i z;exact⟨goodW_iff.mp z,(Option.some.inj hl).symm⟩
     ·cases hl
    obtain⟨g1,rfl⟩:=gd _ _ e1
    obtain⟨g2,rfl⟩:=gd _ _ e2
    obtain⟨g3,rfl⟩:=gd _ _ e3
    exact .inl ⟨a,b,c,ec,g1,g2,g3,q rfl⟩
   ·cases e
  ·cases e
theorem ok_Name {cDraft cReading cWireError cBadRow cBadAnswer cPt cNk:Addr}{f:Addr}{fd:FuncData}(F:Fun K "is_name" "is_name" sName f fd)(T:Txt w K mg cDraft cReading cWireError cBadRow cBadAnswer cPt cNk):FnOk P w K mg base CX0 1 f fd ["name"] spName:=by
 have sc:FnScope ["name"] ["name"] (defScope sName):=⟨rfl,rfl,rfl,by decide+kernel,rfl,by decide+kernel,by decide+kernel⟩
 refine F.ok sc (fun vs H Q E h=>by repeat (first|(obtain⟨rfl,_⟩:=h;rfl)|(obtain⟨_,h⟩:=h))) (fun cdv A outer s H vs Q E hr h=>?_)
 obtain⟨x,rfl,hA,q⟩:=h
 refine⟨_,(pss_cons (ps_if (pw_or (pt_not (pt_chain op_le op_le pe_int (pe_callB call_len_str (by rfl) T.len_ bt_len (pa_cons (pv 0) pa_nil)) (pe_const (by rfl) (by exact T.g_MOST_SIGNS)))) (pw_or1 (pt_cmpR op_notin_str (pe_ix ix_str (pv 0) pe_int (fun _ _=>rfl)) (pe_const (by rfl) (by exact T.g_LETTERS)) (by with_unfolding_all rfl)))).pt
 (pss_one (ps_ret pe_bl))
 pss_nil)
 (pss_one (ps_ret (pe_callB (call_all rfl) (by rfl) T.all_ bt_all (pa_cons (pe_lc (ls:=["sign"]) (ys:=[]) (ix:=[]) rfl ⟨rfl,by rfl,by rfl,by rfl,by rfl,rfl⟩ (pi_str (pv 0)) (fun _ _ _ _ _=>(pg_name (i:=0) (show(["sign"]:List Str).Nodup by decide+kernel) rfl (Or.inl rfl))) (fun _ _ _ _ _=>pf_nil) (fun _ _ _ _ _=>(pe_or (pe_cmpR op_in_str (pv 0) (pe_const (by rfl) (by exact T.g_LETTERS)) (by with_unfolding_all rfl)) (pe_one (pe_cmpR op_in_str (pv 0) (pe_const (by rfl) (by exact T.g_FIGURES)) (by with_unfolding_all rfl)))))) pa_nil))))),?_⟩
 have hsz:sizeLine=2^24:=rfl
 have h13:=hA.2
 by_cases hn:1≤x.length∧x.length≤12
 ·obtain⟨c,r,hcr⟩:=cp_cons hn.1
  refine sq_if (b:=!decide (c∈lets)) (et_orF (et_notF (et_of (et_test (ev_chain ev_c (ev_lenT (ev_var rfl) (by omega)) ev_c)) ?_)) (et_test (ev_notinS (ev_ixS (c:=c) (ev_var rfl) ev_c (by omega) (by rw[hcr];exact atI_nat (j:=0) rfl)) ev_c))) (fun e=>?_) (fun e=>?_)
  ·rw[decide_eq_true (by omega),decide_eq_true (by omega)];rfl
  ·have q':=q H (Same.refl H)
   rw[good_cut hcr hn.2,show decide (c∈lets)=false by simpa using e] at q'
   exact rd_ret ev_c q'
  have e1:decide (c∈lets)=true:=by simpa using e
  refine⟨_,rfl,x,rfl,hA.1,fun D nD=>?_⟩
  refine lc_str (fun i τ H'=>∃x0:Option V,τ=[x0]∧H'=upd H D (.lst ((((cp x).take i).map fS).map V.bl))) ⟨none,rfl,rfl⟩ ?_ ?_
  ·rintro i d τ H2 hd ⟨x0,rfl,rfl⟩
   refine gn (lc_el ?_)
   refine(ev_or (ev_inS (c:=d) (ev_var rfl) ev_c) fun _=>ev_inS (c:=d) (ev_var rfl) ev_c) _ ⟨_,upd_same,by rw[List.length_map,List.length_map,List.length_take,cp_len];omega,_,rfl,?_⟩
   rw[upd_upd,take_one hd,List.map_append,List.map_append];rfl
  ·rintro τ H2 ⟨x0,rfl,rfl⟩
   refine⟨D,((cp x).take x.length).map fS,rfl,SqL.of upd_same,?_⟩
   have q':=q (upd H D (.lst ((((cp x).take x.length).map fS).map V.bl))) ((Same.refl H).upd nD)
   rw[good_cut hcr hn.2,e1] at q'
   have e2:(((cp x).take x.length).map fS).all id=(cp x).all fS:=by rw[←cp_len,List.take_length,List.all_map];rfl
   rw[e2]
   exact q'
 ·have q':=q H (Same.refl H)
  rw[good_none hn] at q'
  refine sq_if (b:=true) (et_of (et_or (a:=true) (b:=true) (et_of (et_not (et_test (ev_chain ev_c (ev_lenT (ev_var rfl) (by omega)) ev_c))) ?_) fun z=>nomatch z) rfl) (fun _=>rd_ret ev_c q') (fun z=>nomatch z)
  by_cases h1:1≤x.length
  ·rw[decide_eq_true (by omega),decide_eq_false (by omega)];rfl
  ·rw[decide_eq_false (by omega)];rfl
theorem ok_NumIn {cDraft cReading cWireError cBadRow cBadAnswer cPt cNk:Addr}{f:Addr}{fd:FuncData}(F:Fun K "number_in" "number_in" sNumIn f fd)(T:Txt w K mg cDraft cReading cWireError cBadRow cBadAnswer cPt cNk):FnOk P w K mg base CX0 1 f fd ["word"] spNumIn:=by
 have sc:FnScope ["word"] ["word"] (defScope sNumIn):=⟨rfl,rfl,rfl,by decide+kernel,rfl,by decide+kernel,by decide+kernel⟩
 refine F.ok sc (fun vs H Q E h=>by repeat (first|(obtain⟨rfl,_⟩:=h;rfl)|(obtain⟨_,h⟩:=h))) (fun cdv A outer s H vs Q E hr h=>?_)
 obtain⟨w,rfl,pw,q⟩:=h
 refine⟨_,(pss_cons (ps_if (pw_or (pt_not (pt_chain op_le op_le pe_int (pe_callB call_len (by rfl) T.len_ bt_len (pa_cons (pv 0) pa_nil)) (pe_const (by rfl) (by exact T.g_MOST_FIGURES)))) (pw_or1 (pt_val (pe_callB (call_any rfl) (by rfl) T.any_ bt_any (pa_cons (pe_lc (ls:=["sign"]) (ys:=[]) (ix:=[]) rfl ⟨rfl,by rfl,by rfl,by rfl,by rfl,rfl⟩ (pi_str (pv 0)) (fun _ _ _ _ _=>(pg_name (i:=0) (show(["sign"]:List Str).Nodup by decide+kernel) rfl (Or.inl rfl))) (fun _ _ _ _ _=>pf_nil) (fun _ _ _ _ _=>(pe_cmpR op_notin_str (pv 0) (pe_const (by rfl) (by exact T.g_FIGURES)) (by with_unfolding_all rfl)))) pa_nil))))).pt
 (pss_one (ps_ret pe_non))
 pss_nil)
 (pss_cons (ps_if (pw_and (pt_cmpR op_eq (pe_ix ix_str (pv 0) pe_int (fun _ _=>rfl)) pe_str (nomark _)) (pw_and1 (pt_cmpR op_gt (pe_callB call_len (by rfl) T.len_ bt_len (pa_cons (pv 0) pa_nil)) pe_int (nomark _)))).pt
 (pss_one (ps_ret pe_non))
 pss_nil)
 (pss_one (ps_ret (pe_callTy call_intS (by rfl) T.int_ bt_int (pa_cons (pv 0) pa_nil)))))),?_⟩
 have hz:=pw.sz
 refine sq_ifof ?_
 by_cases hl:1≤w.length∧w.length≤18
 ·refine or_F (et_not (et_test (ev_chain ev_c (ev_lenS (ev_var rfl) hz) ev_c))) (by simp;omega) ?_
  refine⟨_,rfl,w,rfl,pw.as,fun D hD=>?_⟩
  refine lc_str (fun i τ H'=>∃x0,τ=[x0]∧H'=upd H D (.lst ((((cp w).map fun c=>!decide (c∈fig10)).take i).map V.bl))) ⟨none,rfl,rfl⟩ ?_ ?_
  ·rintro i c τ H' hc ⟨x0,rfl,rfl⟩
   refine gn (lc_el ?_)
   refine ev_cast (b:=!decide (c∈fig10)) (by rw[fig10_cp]) (ev_notinS (ev_var rfl) ev_c) _ ?_
   refine⟨_,upd_same,?_,_,rfl,?_⟩
   ·rw[List.length_map,List.length_take]
    exact Nat.lt_of_le_of_lt (Nat.min_le_right _ _) (by rw[List.length_map,cp_len];exact small1000 pw.ln)
   ·rw[upd_upd,List.take_succ,List.getElem?_map,hc,List.map_append];rfl
  ·rintro τ H' ⟨x0,rfl,rfl⟩
   have e1:((cp w).map fun c=>!decide (c∈fig10)).take w.length=(cp w).map fun c=>!decide (c∈fig10):=List.take_of_length_le (by rw[List.length_map,cp_len];exact Nat.le_refl _)
   rw[e1]
   have s1:Same H (upd H D (.lst (((cp w).map fun c=>!decide (c∈fig10)).map V.bl))):=(Same.refl H).upd hD
   refine⟨D,_,rfl,SqL.of upd_same,_,rfl,?_⟩
   have ea:(((cp w).map fun c=>!decide (c∈fig10)).any id)=decide (∃c∈cp w,¬(48≤c∧c≤57)):=by
    rw[Bool.eq_iff_iff,List.any_eq_true,decide_eq_true_iff]
    constructor
    ·rintro⟨b,hb,hb2⟩
     obtain⟨c,hc,rfl⟩:=List.mem_map.mp hb
     exact⟨c,hc,fun z=>by rw[id,decide_eq_true (mem_fig10.mpr z)] at hb2;cases hb2⟩
    ·rintro⟨c,hc,hn⟩
     exact⟨_,List.mem_map.mpr ⟨c,hc,rfl⟩,by rw[id,decide_eq_false fun z=>hn (mem_fig10.mp z)];rfl⟩
   rw[ea]
   have hcl:(cp w).length=w.length:=cp_len w
   rcases q with ⟨g,q⟩|⟨b,q⟩
   ·obtain⟨g1,g2,g3,g4⟩:=g
    rw[decide_eq_false fun⟨c,hc,hn⟩=>hn (g3 c hc)]
    refine iteF ?_
    refine sq_ifF (et_and (et_test (ev_eqS (ev_ixS (c:=(cp w)[0]'(by omega)) (ev_var rfl) ev_c hz (atI_nat (j:=0) (by simp))) ev_c)) fun _=>et_test (ev_I0 (ev_lenS (ev_var rfl) hz) ev_c)) ?_ ?_
    ·by_cases h0:(cp w)[0]?=some 48
     ·have:=g4 h0
      simp;intro _;omega
     ·have:¬(⟨#[(cp w)[0]'(by omega)]⟩:Str)=Str.ofString "0" :=fun z=>by
       have e48:Str.ofString "0" =⟨#[48]⟩:=by decide+kernel
       rw[e48] at z
       injection z with z
       have z:=congrArg Array.toList z
       simp only[List.cons.injEq,and_true] at z
       exact h0 (by rw[List.getElem?_eq_getElem (by omega),z])
      rw[decide_eq_false this,Bool.false_and]
    ·refine⟨_,rfl,w,_,rfl,intText_digits g3 (fun z=>by have z':(cp w).length=0:=congrArg List.length z;omega) (by omega),by omega,q _ s1⟩
   ·by_cases hb:∃c∈cp w,¬(48≤c∧c≤57)
    ·rw[decide_eq_true hb]
     exact iteT (q _ s1)
    ·rw[decide_eq_false hb]
     refine iteF ?_
     have b':(cp w)[0]?=some 48∧1<(cp w).length:=by
      rcases b with b|b|b|b
      ·omega
      ·omega
      ·exact absurd b hb
      ·exact b
     have e48:Str.ofString "0" =⟨#[48]⟩:=by decide+kernel
     refine sq_if (et_and (et_test (ev_eqS (ev_ixS (c:=48) (ev_var rfl) ev_c hz (atI_nat (j:=0) b'.1)) ev_c)) fun _=>et_test (ev_I0 (ev_lenS (ev_var rfl) hz) ev_c)) (fun _=>q _ s1) (fun z=>?_)
     rw[e48] at z
     simp at z
     omega
 ·have hb:BadW (cp w):=by
   unfold BadW
   rw[cp_len]
   omega
  have hcl:(cp w).length=w.length:=cp_len w
  refine et_not (et_test (ev_chain ev_c (ev_lenS (ev_var rfl) hz) ev_c)) _ ?_
  rw[show(!(decide ((1:Int)≤(w.length:Nat))&&decide (((w.length:Nat):Int)≤18)))=true by
   rw[Bool.not_eq_true',Bool.and_eq_false_iff,decide_eq_false_iff_not,decide_eq_false_iff_not]
   omega,if_pos rfl]
  refine iteT ?_
  rcases q with ⟨g,q⟩|⟨b,q⟩
  ·obtain⟨g1,g2,_⟩:=g
   omega
  ·exact q _ (Same.refl H)
theorem ok_WholeIn {cDraft cReading cWireError cBadRow cBadAnswer cPt cNk:Addr}{f:Addr}{fd:FuncData}(F:Fun K "whole_in" "whole_in" sWholeIn f fd)(T:Txt w K mg cDraft cReading cWireError cBadRow cBadAnswer cPt cNk)(gNumIn:Callee P w K mg base "number_in" 1 ["word"] spNumIn):FnOk P w K mg base CX0 2 f fd ["word"] spWholeIn:=by
 have sc:FnScope ["word", "number"] ["word"] (defScope sWholeIn):=⟨rfl,rfl,rfl,by decide+kernel,rfl,by decide+kernel,by decide+kernel⟩
 refine F.ok sc (fun vs H Q E h=>by repeat (first|(obtain⟨rfl,_⟩:=h;rfl)|(obtain⟨_,h⟩:=h))) (fun cdv A outer s H vs Q E hr h=>?_)
 obtain⟨w,rfl,pw,q⟩:=h
 refine⟨_,(pss_cons (ps_if (pt_not (pt_val (pe_bm PySem.F.plainAttrs_str PySem.F.slot_str_startswith PySem.F.type_str_startswith mt_startswith (pv 0) (pa_cons pe_str pa_nil))))
 (pss_one (ps_ret (pe_cal gNumIn (hr.mono (by decide)) (by rfl) (pa_cons (pv 0) pa_nil))))
 pss_nil)
 (pss_cons (ps_set (i:=1) sc.nd rfl (Or.inl rfl) (pe_cal gNumIn (hr.mono (by decide)) (by rfl) (pa_cons (pe_slice sl_str (pv 0) (po_some pe_int) po_none) pa_nil)))
 (pss_one (ps_ret (pe_ifExp (pw_or (pt_cmpR op_isN (pv 1) pe_non (nomark _)) (pw_or1 (pt_cmpR op_eq (pv 1) pe_int (nomark _)))).pt pe_non (pe_op op_sub pe_int (pv 1))))))),?_⟩
 have hz:=pw.sz
 have es:=starts_minus w
 rcases q with ⟨h0,q⟩|⟨l,hl,q⟩
 ·refine sq_ifof ⟨_,rfl,rfl,_,_,rfl,rfl,?_⟩
  rw[es,decide_eq_false h0]
  refine⟨_,rfl,?_⟩
  refine iteT ?_
  exact⟨_,rfl,w,rfl,pw,q⟩
 ·have h0:(cp w)[0]?=some 45:=by rw[hl];rfl
  refine sq_ifof ⟨_,rfl,rfl,_,_,rfl,rfl,?_⟩
  rw[es,decide_eq_true h0]
  refine⟨_,rfl,?_⟩
  refine iteF ?_
  have hle:1≤w.length:=by rw[←cp_len,hl];simp
  have ec:cp (Txt.slice w (some 1) none)=l:=by
   have:=cp_from w (k:=1) hle
   rw[show((1:Nat):Int)=1 from rfl] at this
   rw[this,hl];rfl
  have pl:Pl (Txt.slice w (some 1) none):=Pl.of (fun c hc=>pw.mem c (by rw[ec] at hc;rw[hl];exact List.mem_cons_of_mem _ hc)) (by rw[ec];have:=pw.ln;rw[←cp_len,hl] at this;simp at this;omega)
  refine sq_asg ⟨_,rfl,_,rfl,w,rfl,hz,_,rfl,pl,?_⟩
  rcases q with ⟨g,q⟩|⟨b,q⟩
  ·refine .inl ⟨by rw[ec];exact g,fun H1 s1=>?_⟩
   rw[ec]
   have e0:decide (((NumText.digitsVal l:Nat):Int)=0)=decide (NumText.digitsVal l=0):=dec_nat (b:=0)
   have z:=q H1 s1
   by_cases hv:NumText.digitsVal l=0
   ·rw[if_pos hv] at z
    refine et_or (et_test (ev_isN (ev_var rfl) ev_c)) (fun _=>et_test (ev_eqI (ev_var rfl) ev_c)) _ ?_
    rw[e0,decide_eq_true hv,Bool.or_true]
    exact iteT z
   ·rw[if_neg hv] at z
    refine et_or (et_test (ev_isN (ev_var rfl) ev_c)) (fun _=>et_test (ev_eqI (ev_var rfl) ev_c)) _ ?_
    rw[e0,decide_eq_false hv,Bool.or_false]
    refine iteF ?_
    exact ev_I0 ev_c (ev_var rfl) _ z
  ·refine .inr ⟨by rw[ec];exact b,fun H1 s1=>?_⟩
   refine et_or (b:=false) (et_test (ev_isN (ev_var rfl) ev_c)) (fun e=>?_) _ ?_
   ·cases e
   ·exact iteT (q H1 s1)
theorem ok_SpotIn {cDraft cReading cWireError cBadRow cBadAnswer cPt cNk:Addr}{f:Addr}{fd:FuncData}(F:Fun K "spot_in" "spot_in" sSpotIn f fd)(T:Txt w K mg cDraft cReading cWireError cBadRow cBadAnswer cPt cNk)(gNumIn:Callee P w K mg base "number_in" 1 ["word"] spNumIn):FnOk P w K mg base CX0 2 f fd ["word"] spSpotIn:=by
 have sc:FnScope ["word", "numbers"] ["word"] (defScope sSpotIn):=⟨rfl,rfl,rfl,by decide+kernel,rfl,by decide+kernel,by decide+kernel⟩
 refine F.ok sc (fun vs H Q E h=>by repeat (first|(obtain⟨rfl,_⟩:=h;rfl)|(obtain⟨_,h⟩:=h))) (fun cdv A outer s H vs Q E hr h=>?_)
 obtain⟨w,P,rfl,pw,hP,hf,e,q⟩:=spot_old h
 refine⟨_,(pss_cons (ps_lcset (i:=1) (ls:=["part"]) (ys:=[]) (ix:=[]) rfl sc.nd rfl (Or.inl rfl) ⟨rfl,by rfl,by rfl,by rfl,by rfl,rfl⟩ (pi_list (pe_bm PySem.F.plainAttrs_str PySem.F.slot_str_split PySem.F.type_str_split mt_split (pv 0) (pa_cons pe_str pa_nil))) (fun _ _ _ _ _=>(pg_name (i:=0) (show(["part"]:List Str).Nodup by decide+kernel) rfl (Or.inl rfl))) (fun _ _ _ _ _=>pf_nil) (fun _ _ _ _ _=>(pe_cal (by exact gNumIn) (by exact(hr.mono (by decide))) (by rfl) (pa_cons (pv 0) pa_nil))))
 (pss_cons (ps_if (pw_or (pt_cmpR op_ne (pe_callB call_len (by rfl) T.len_ bt_len (pa_cons (pv 1) pa_nil)) pe_int (nomark _)) (pw_or1 (pt_cmpR op_in_seq pe_non (pv 1) (by with_unfolding_all rfl)))).pt
 (pss_one (ps_ret pe_non))
 pss_nil)
 (pss_one (ps_ret (pe_callTy call_tuple_of (by rfl) T.tuple_ bt_tuple (pa_cons (pv 1) pa_nil)))))),?_⟩
 have hsz:∀m:Nat,m≤2000→m≤sizeLine:=fun m h=>Nat.le_trans h (by decide)
 refine⟨_,rfl,rfl,w,_,rfl,rfl,(by decide+kernel),hsz _ (by have:=pw.ln;omega),fun l hl=>⟨l,rfl,⟨_,SqL.of upd_same⟩,fun D hD=>?_⟩⟩
 rw[dot] at hD⊢
 have ep:=split_cp w 46 hP hf e
 generalize hT:Txt.split w ⟨#[46]⟩=ts at hD ep⊢
 have hlen:ts.length=P.length:=by rw[←ep,List.length_map]
 have hsl:ts.length≤1002:=by rw[←hT];exact Nat.le_trans (PyProof.Rows.split_le _ _) (by have:=pw.ln;omega)
 have hpl:∀s∈ts,Pl s:=fun s hs=>by
  refine Pl.of (fun d hd=>pw.mem d ?_) (by rw[cp_len];rw[←hT] at hs;exact Nat.le_trans (PyProof.Rows.part_short hs) pw.ln)
  have hm:cp s∈P:=by rw[←ep];exact List.mem_map.mpr ⟨s,hs,rfl⟩
  rw[e]
  have mj:∀{R:List (List Nat)} {p:List Nat},p∈R→d∈p→d∈jl 46 R:=by
   intro R
   induction R with
   |nil=>intro p h;exact nomatch h
   |cons x r ih=>
    intro p h hd
    by_cases hr:r=[]
    ·subst hr;rw[List.mem_singleton.mp h] at hd;exact hd
    ·rw[jl_cons hr]
     rcases List.mem_cons.mp h with rfl|h
     ·exact List.mem_append_left _ hd
     ·exact List.mem_append_right _ (List.mem_cons_of_mem _ (ih h hd))
  exact mj hm hd
 have s0:Same H (upd H l (.lst (ts.map V.str))):=(Same.refl H).upd hl
 have e0:upd H l (.lst (ts.map V.str)) l=some (.lst (ts.map V.str)):=upd_same
 revert s0 e0 hD
 generalize upd H l (.lst (ts.map V.str))=H0
 intro hD s0 e0
 have lD:l≠D:=ne_of_none e0 hD
 refine lc_listG (K:=K) (xs:=ts.map V.str) (fun i τ H'=>∃x0,τ=[x0]∧Same H0 H'∧H' D=some (.lst ((ts.take i).map fun s=>nv (cp s)))) ⟨none,rfl,(Same.refl H0).upd hD,upd_same⟩ (fun i τ H' _ ⟨_,_,s,_⟩=>SqL.of (s _ _ e0)) ?_ ?_
 ·rintro i x τ H' hx ⟨x0,rfl,s1,eD⟩
  obtain⟨sx,hsx,rfl⟩:∃sx,ts[i]?=some sx∧x=.str sx:=by
   rw[List.getElem?_map] at hx
   cases e:ts[i]? with
   |none=>rw[e] at hx;cases hx
   |some z=>rw[e] at hx;exact⟨z,rfl,(Option.some.inj hx).symm⟩
  have px:=hpl sx (List.mem_of_getElem? hsx)
  refine gn (lc_el ?_)
  have fin:∀(v:V) (H2:Hp),Same H' H2→v=nv (cp sx)→∃acc,H2 D=some (.lst acc)∧acc.length<sizeLine∧∃x0,[some (V.str sx)]=[x0]∧Same H0 (upd H2 D (.lst (acc++[v])))∧upd H2 D (.lst (acc++[v])) D=some (.lst ((ts.take (i+1)).map fun s=>nv (cp s))):=fun v H2 s2 ev=>by
   refine⟨_,s2 _ _ eD,?_,_,rfl,fun b u eb=>?_,?_⟩
   ·rw[List.length_map,List.length_take]
    exact Nat.lt_of_le_of_lt (Nat.min_le_right _ _) (Nat.lt_of_le_of_lt hsl (by decide))
   ·rw[upd_ne (ne_of_none eb hD)];exact s2 _ _ (s1 _ _ eb)
   ·rw[upd_same,List.take_succ,hsx,List.map_append,ev];rfl
  refine⟨_,rfl,sx,rfl,px,?_⟩
  rcases good_or (cp sx) with g|b
  ·exact .inl ⟨g,fun H2 s2=>fin _ H2 s2 (nv_good g).symm⟩
  ·exact .inr ⟨b,fun H2 s2=>fin _ H2 s2 (nv_bad b).symm⟩
 ·rintro τ H' ⟨x0,rfl,s1,eD⟩
  rw[List.length_map,List.take_length] at eD
  have en:(ts.map fun s=>nv (cp s))=P.map nv:=by rw[←ep,List.map_map];rfl
  rw[en] at eD
  have sH:Same H H':=s0.trans s1
  have hflat:∀l:List (List Nat),(l.map nv).all flatV=true:=fun l=>by
   rw[List.all_map,List.all_eq_true]
   intro p _
   show flatV (nv p)=true
   rcases good_or p with g|b
   ·rw[nv_good g];rfl
   ·rw[nv_bad b];rfl
  refine st ?_
  have hin:inV .non (P.map nv)=true↔∃p∈P,BadW p:=by
   unfold inV
   rw[List.any_map,List.any_eq_true]
   constructor
   ·rintro⟨p,hp,hv⟩
    refine⟨p,hp,?_⟩
    rcases good_or p with g|b
    ·have hv:eqV (nv p) .non=true:=hv
     rw[nv_good g] at hv;cases hv
    ·exact b
   ·rintro⟨p,hp,b⟩
    refine⟨p,hp,?_⟩
    show eqV (nv p) .non=true
    rw[nv_bad b];rfl
  have tst:∀{σ:St},σ[1]?=some (some (.ref D))→EvT (tOr (tTest (tOp rNe (tCB (fun xs H Q=>∃x n,xs=[x]∧LenV K x H n∧Q (.int n) H) (tCons (tVar 1) tNil)) (tC (.int 3)))) (tTest (tOp (rIn K false) (tC .non) (tVar 1)))) σ H' (!decide (((P.map nv).length:Int)=3)||inV .non (P.map nv)):=fun{σ} hv=>
   et_or (et_test (ev_neI (ev_cb (ea_cons (ev_var hv) ea_nil) fun Q' q'=>⟨_,_,rfl,.inl ⟨_,SqL.of eD,rfl⟩,q'⟩) ev_c)) fun _=>et_test fun Q' q'=>⟨_,hv,D,_,rfl,.inl (SqL.of eD),rfl,hflat P,q'⟩
  rcases q with ⟨a,b,c,rfl,ga,gb,gc,q⟩|⟨hb,q⟩
  ·refine sq_ifF (tst rfl) ?_ ?_
   ·have h1:inV .non ([a,b,c].map nv)=false:=by
     cases hh:inV .non ([a,b,c].map nv) with
     |false=>rfl
     |true=>
      obtain⟨p,hp,hb⟩:=hin.mp hh
      rcases List.mem_cons.mp hp with rfl|hp
      ·exact(not_both ga hb).elim
      ·rcases List.mem_cons.mp hp with rfl|hp
       ·exact(not_both gb hb).elim
       ·rw[List.mem_singleton.mp hp] at hb;exact(not_both gc hb).elim
    rw[h1];rfl
   ·refine⟨_,rfl,D,_,rfl,.inl ⟨SqL.of eD,fun t nt=>?_⟩⟩
    refine q t _ (sH.upd nt) ?_
    rw[upd_same]
    show some (HO.tup [nv a,nv b,nv c])=_
    rw[nv_good ga,nv_good gb,nv_good gc]
  ·refine sq_ifof (tst rfl _ ?_)
   have hT:(!decide (((P.map nv).length:Int)=3)||inV .non (P.map nv))=true:=by
    rcases hb with hb|hb
    ·rw[decide_eq_false (by rw[List.length_map];omega)];rfl
    ·rw[hin.mpr hb,Bool.or_true]
   rw[hT]
   exact iteT (q _ sH)
theorem ok_Cell {cDraft cReading cWireError cBadRow cBadAnswer cPt cNk:Addr}{f:Addr}{fd:FuncData}(F:Fun K "_law_cell_at" "_law_cell_at" sCell f fd)(T:Txt w K mg cDraft cReading cWireError cBadRow cBadAnswer cPt cNk):FnOk P w K mg base CX0 1 f fd ["script", "k"] (spCell K):=by
 have sc:FnScope ["script", "k"] ["script", "k"] (defScope sCell):=⟨rfl,rfl,rfl,by decide+kernel,rfl,by decide+kernel,by decide+kernel⟩
 refine F.ok sc (fun vs H Q E h=>by repeat (first|(obtain⟨rfl,_⟩:=h;rfl)|(obtain⟨_,h⟩:=h))) (fun cdv A outer s H vs Q E hr h=>?_)
 obtain⟨a,ns,i,rfl,ha,h0,q⟩:=h
 refine⟨_,(pss_cons (ps_if (pt_cmpR op_lt (pv 1) (pe_callB call_len (by rfl) T.len_ bt_len (pa_cons (pv 0) pa_nil)) (nomark _))
 (pss_one (ps_ret (pe_ix ix_list (pv 0) (pv 1) (fun _ _=>rfl))))
 pss_nil)
 (pss_one (ps_ret pe_int))),?_⟩
 refine rd_if (et_test (ev_I0 (ev_var rfl) (ev_cb (ea_cons (ev_var rfl) ea_nil) fun Q' q'=>⟨_,_,rfl,by first|exact .inl ⟨_,by assumption,rfl⟩|exact .inl ⟨_,SqL.of (by assumption),rfl⟩|exact .inr ⟨_,by assumption,rfl⟩|exact .inr ⟨_,SqT.of (by assumption),rfl⟩,q'⟩))) (fun e=>?_) (fun _=>?_)
 ·have hlt:i<((ns.map V.int).length:Int):=of_decide_eq_true e
  rw[List.length_map] at hlt
  obtain⟨j,rfl⟩:=Int.eq_ofNat_of_zero_le h0
  have hj:j<ns.length:=by omega
  exact rd_ret (ev_ixL (v:=.int ns[j]) (ev_var rfl) (ev_var rfl) ha (atI_nat (by simp[hj]))) (q _)
 ·exact q 0
theorem map_at {α β:Type}{f:α→β}{l:List α}{i:Nat}{y:β}(h:(l.map f)[i]?=some y):∃x,l[i]?=some x∧y=f x:=by
 rw[List.getElem?_map] at h
 cases e:l[i]? with
 |none=>rw[e] at h;cases h
 |some z=>rw[e] at h;exact⟨z,rfl,(Option.some.inj h).symm⟩
noncomputable def wv (l:List Nat):V:=match wholeP l with|none=> .non|some i=> .int i
theorem wv_flat (l:List Nat):flatV (wv l)=true:=by unfold wv;split<;>rfl
theorem wv_non (l:List Nat):eqV (wv l) .non=!(wholeP l).isSome:=by unfold wv;cases wholeP l<;>rfl
theorem whole_new {w:Str}{H:Hp}{Q:VK}{E:XK}(pw:Pl w)(q:∀H',Same H H'→Q (wv (cp w)) H'):spWholeIn [.str w] H Q E:=by
 refine⟨w,rfl,pw,?_⟩
 have nn:∀l,(GoodW l→numP l=some (NumText.digitsVal l))∧(BadW l→numP l=none):=fun l=>⟨fun g=>by unfold numP;rw[goodW_iff.mpr g];rfl,fun b=>by unfold numP;rw[badW_iff.mpr b];rfl⟩
 unfold wv wholeP at q
 by_cases h:(cp w)[0]?=some 45
 ·rw[if_pos h] at q
  obtain⟨r,hr⟩:∃r,cp w=45::r:=by
   cases e:cp w with
   |nil=>rw[e] at h;cases h
   |cons c r=>rw[e] at h;cases h;exact⟨r,rfl⟩
  rw[hr] at q
  refine .inr ⟨r,hr,?_⟩
  rcases good_or r with g|b
  ·refine .inl ⟨g,fun H' s=>?_⟩
   have z:=q H' s
   rw[show(45::r).tail=r from rfl,(nn r).1 g] at z
   dsimp only at z
   by_cases e:NumText.digitsVal r=0
   ·rw[if_pos e] at z⊢;exact z
   ·rw[if_neg e] at z⊢;exact z
  ·refine .inr ⟨b,fun H' s=>?_⟩
   have z:=q H' s
   rw[show(45::r).tail=r from rfl,(nn r).2 b] at z
   exact z
 ·rw[if_neg h] at q
  refine .inl ⟨h,?_⟩
  rcases good_or (cp w) with g|b
  ·refine .inl ⟨g,fun H' s=>?_⟩
   have z:=q H' s
   rw[(nn _).1 g] at z
   exact z
  ·refine .inr ⟨b,fun H' s=>?_⟩
   have z:=q H' s
   rw[(nn _).2 b] at z
   exact z
theorem in_wv (ws:List Str):inV .non (ws.map fun s=>wv (cp s))=!(ws.map cp).all fun w=>(wholeP w).isSome:=by
 unfold inV
 rw[List.any_map,List.all_map,List.any_eq_not_all_not]
 congr 2
 funext s
 show(!eqV (wv (cp s)) .non)=_
 rw[wv_non,Bool.not_not];rfl
theorem okN_of {ws:List Str}{n:Nat}:(!decide (((ws.map fun s=>wv (cp s)).length:Int)=((n:Nat):Int))||inV .non (ws.map fun s=>wv (cp s)))=!okN (ws.map cp) n:=by
 unfold okN
 rw[in_wv,List.length_map,List.length_map,Bool.not_and]
 congr 2
 exact decide_eq_decide.mpr Int.ofNat_inj
theorem ok_Wholes {cDraft cReading cWireError cBadRow cBadAnswer cPt cNk:Addr}{f:Addr}{fd:FuncData}(F:Fun K "wholes_told" "wholes_told" sWholes f fd)(T:Txt w K mg cDraft cReading cWireError cBadRow cBadAnswer cPt cNk)(gWholeIn:Callee P w K mg base "whole_in" 2 ["word"] spWholeIn):FnOk P w K mg base CX0 3 f fd ["words", "many"] (spWholes K):=by
 have sc:FnScope ["words", "many", "wholes"] ["words", "many"] (defScope sWholes):=⟨rfl,rfl,rfl,by decide+kernel,rfl,by decide+kernel,by decide+kernel⟩
 refine F.ok sc (fun vs H Q E h=>by repeat (first|(obtain⟨rfl,_⟩:=h;rfl)|(obtain⟨_,h⟩:=h))) (fun cdv A outer s H vs Q E hr h=>?_)
 obtain⟨l,ws,n,rfl,hw,q⟩:=h
 refine⟨_,(pss_cons (ps_lcset (i:=2) (ls:=["word"]) (ys:=[]) (ix:=[]) rfl sc.nd rfl (Or.inl rfl) ⟨rfl,by rfl,by rfl,by rfl,by rfl,rfl⟩ (pi_list (pv 0)) (fun _ _ _ _ _=>(pg_name (i:=0) (show(["word"]:List Str).Nodup by decide+kernel) rfl (Or.inl rfl))) (fun _ _ _ _ _=>pf_nil) (fun _ _ _ _ _=>(pe_cal (by exact gWholeIn) (by exact(hr.mono (by decide))) (by rfl) (pa_cons (pv 0) pa_nil))))
 (pss_one (ps_ret (pe_ifExp (pw_or (pt_cmpR op_ne (pe_callB call_len (by rfl) T.len_ bt_len (pa_cons (pv 2) pa_nil)) (pv 1) (nomark _)) (pw_or1 (pt_cmpR op_in_seq pe_non (pv 2) (by with_unfolding_all rfl)))).pt pe_non (pv 2))))),?_⟩
 have hsz:sizeLine=2^24:=rfl
 have h9:=hw.2.2
 refine⟨_,rfl,l,rfl,⟨_,SqL.of hw.1⟩,fun D hD=>?_⟩
 refine lc_listG (K:=K) (xs:=ws.map V.str) (fun i τ H'=>∃x0:Option V,τ=[x0]∧Same H H'∧H' D=some (.lst ((ws.take i).map fun s=>wv (cp s)))) ⟨none,rfl,(Same.refl H).upd hD,upd_same⟩ (fun i τ H' _ ⟨_,_,s,_⟩=>SqL.of (s _ _ hw.1)) ?_ ?_
 ·rintro i x τ H' hx ⟨x0,rfl,s1,eD⟩
  obtain⟨sx,hsx,rfl⟩:=map_at hx
  refine gn (lc_el ?_)
  refine te_cal (ea_cons (ev_var rfl) ea_nil) (whole_new (hw.2.1 sx (List.mem_of_getElem? hsx)) fun H2 s2=>⟨_,s2 _ _ eD,by rw[List.length_map,List.length_take];omega,_,rfl,fun b u eb=>?_,?_⟩)
  ·rw[upd_ne (ne_of_none eb hD)];exact s2 _ _ (s1 _ _ eb)
  ·rw[upd_same,take_one hsx,List.map_append];rfl
 ·rintro τ H' ⟨x0,rfl,s1,eD⟩
  rw[List.length_map,List.take_length] at eD
  refine st ?_
  have fl:(ws.map fun s=>wv (cp s)).all flatV=true:=by rw[List.all_map,List.all_eq_true];exact fun s _=>wv_flat _
  refine rd_te (et_use (et_of (et_or (et_test (ev_neI (ev_cb (ea_cons (ev_var rfl) ea_nil) fun Q' q'=>⟨_,_,rfl,.inl ⟨_,SqL.of eD,rfl⟩,q'⟩) (ev_var rfl))) (fun _=>et_test fun Q' q'=>⟨_,rfl,D,_,rfl,.inl (SqL.of eD),rfl,fl,q'⟩)) okN_of) ?_)
  cases e:okN (ws.map cp) n with
  |true=>
   refine iteF ?_
   have:ws.length=n:=by unfold okN at e;simpa using (Bool.and_eq_true_iff.mp e).1
   exact(ev_var rfl:Ev (tVar 2) _ _ _) _ (q _ H' s1 (by rw[e];exact⟨D,_,rfl,hD,eD,by first|omega|(rw[List.length_map];exact this)⟩))
  |false=>exact iteT (q _ H' s1 (by rw[e];rfl))
theorem ok_SpotsT {cDraft cReading cWireError cBadRow cBadAnswer cPt cNk:Addr}{f:Addr}{fd:FuncData}(F:Fun K "spots_told" "spots_told" sSpotsT f fd)(T:Txt w K mg cDraft cReading cWireError cBadRow cBadAnswer cPt cNk)(gSpotIn:Callee P w K mg base "spot_in" 2 ["word"] spSpotIn):FnOk P w K mg base CX0 3 f fd ["words", "many"] (spSpotsT K):=by
 have sc:FnScope ["words", "many", "spots"] ["words", "many"] (defScope sSpotsT):=⟨rfl,rfl,rfl,by decide+kernel,rfl,by decide+kernel,by decide+kernel⟩
 refine F.ok sc (fun vs H Q E h=>by repeat (first|(obtain⟨rfl,_⟩:=h;rfl)|(obtain⟨_,h⟩:=h))) (fun cdv A outer s H vs Q E hr h=>?_)
 obtain⟨l,ws,n,rfl,hw,q⟩:=h
 refine⟨_,(pss_cons (ps_lcset (i:=2) (ls:=["word"]) (ys:=[]) (ix:=[]) rfl sc.nd rfl (Or.inl rfl) ⟨rfl,by rfl,by rfl,by rfl,by rfl,rfl⟩ (pi_list (pv 0)) (fun _ _ _ _ _=>(pg_name (i:=0) (show(["word"]:List Str).Nodup by decide+kernel) rfl (Or.inl rfl))) (fun _ _ _ _ _=>pf_nil) (fun _ _ _ _ _=>(pe_cal (by exact gSpotIn) (by exact(hr.mono (by decide))) (by rfl) (pa_cons (pv 0) pa_nil))))
 (pss_one (ps_ret (pe_ifExp (pw_or (pt_cmpR op_ne (pe_callB call_len (by rfl) T.len_ bt_len (pa_cons (pv 2) pa_nil)) (pv 1) (nomark _)) (pw_or1 (pt_cmpR (op_inN hr) pe_non (pv 2) (by with_unfolding_all rfl)))).pt pe_non (pv 2))))),?_⟩
 have hsz:sizeLine=2^24:=rfl
 have h9:=hw.2.2
 refine⟨_,rfl,l,rfl,⟨_,SqL.of hw.1⟩,fun D hD=>?_⟩
 refine lc_listG (K:=K) (xs:=ws.map V.str) (fun i τ H'=>∃(x0:Option V) (xs:List V),τ=[x0]∧Same H H'∧H' D=some (.lst xs)∧xs.length=i∧(∀z∈xs,NT K H' z)∧(xs.any fun x=>decide (x=.non))=(ws.take i).any fun s=>!(spotP (cp s)).isSome) ⟨none,[],rfl,(Same.refl H).upd hD,upd_same,rfl,(fun _ h=>nomatch h),rfl⟩ (fun i τ H' _ ⟨_,_,_,s,_⟩=>SqL.of (s _ _ hw.1)) ?_ ?_
 ·rintro i x τ H' hx ⟨x0,xs,rfl,s1,eD,hl,hn,ha⟩
  obtain⟨sx,hsx,rfl⟩:=map_at hx
  have hi:i<ws.length:=(List.getElem?_eq_some_iff.mp hsx).1
  refine gn (lc_el ?_)
  have fin:∀(v:V) (H2:Hp),Same H' H2→NT K H2 v→decide (v=.non)=!(spotP (cp sx)).isSome→∃acc,H2 D=some (.lst acc)∧acc.length<sizeLine∧∃(x0:Option V) (xs:List V),[some (V.str sx)]=[x0]∧Same H (upd H2 D (.lst (acc++[v])))∧upd H2 D (.lst (acc++[v])) D=some (.lst xs)∧xs.length=i+1∧(∀z∈xs,NT K (upd H2 D (.lst (acc++[v]))) z)∧(xs.any fun x=>decide (x=.non))=(ws.take (i+1)).any fun s=>!(spotP (cp s)).isSome:=by
   intro v H2 s2 hv ev
   have nt:∀z,NT K H2 z→NT K (upd H2 D (.lst (xs++[v]))) z:=fun z hz=>by
    cases z with
    |non=>trivial
    |ref a=>
     obtain⟨ys,hy⟩:=hz
     refine⟨ys,?_⟩
     rcases hy with hy|hy
     ·refine .inl ?_
      rcases hy with hy|⟨o,hy⟩
      ·exact .inl (by rw[upd_ne fun z=>by rw[z,s2 _ _ eD] at hy;cases hy];exact hy)
      ·exact .inr ⟨o,by rw[upd_ne fun z=>by rw[z,s2 _ _ eD] at hy;cases hy];exact hy⟩
     ·exact .inr hy
    |_=>exact hz.elim
   have mn:∀z,NT K H' z→NT K H2 z:=fun z hz=>by
    cases z with
    |non=>trivial
    |ref a=>obtain⟨ys,hy⟩:=hz;exact⟨ys,hy.same s2⟩
    |_=>exact hz.elim
   refine⟨_,s2 _ _ eD,by omega,_,xs++[v],rfl,fun b u eb=>?_,upd_same,by rw[List.length_append,hl];rfl,fun z hz=>?_,?_⟩
   ·rw[upd_ne (ne_of_none eb hD)];exact s2 _ _ (s1 _ _ eb)
   ·rcases List.mem_append.mp hz with hz|hz
    ·exact nt z (mn z (hn z hz))
    ·rw[List.mem_singleton.mp hz];exact nt v hv
   ·rw[List.any_append,ha,take_one hsx,List.any_append]
    congr 1
    simp only[List.any_cons,List.any_nil,Bool.or_false]
    exact ev
  refine⟨_,rfl,sx,rfl,hw.2.1 sx (List.mem_of_getElem? hsx),?_⟩
  cases e:spotP (cp sx) with
  |none=>exact fun H2 s2=>fin _ H2 s2 trivial (by rw[e];rfl)
  |some s=>exact fun _ t H2 s2 ht=>fin _ H2 s2 ⟨_,SqT.of ht⟩ (by rw[e];rfl)
 ·rintro τ H' ⟨x0,xs,rfl,s1,eD,hl,hn,ha⟩
  rw[List.length_map] at hl ha
  rw[List.take_length] at ha
  refine st ?_
  have ok:(!decide ((xs.length:Int)=((n:Nat):Int))||(xs.any fun x=>decide (x=.non)))=!okS (ws.map cp) n:=by
   unfold okS
   rw[ha,hl,List.length_map,Bool.not_and,List.all_map,List.any_eq_not_all_not]
   congr 2
   ·exact decide_eq_decide.mpr Int.ofNat_inj
   ·congr 1
    funext s
    show(!!(spotP (cp s)).isSome)=_
    rw[Bool.not_not];rfl
  refine rd_te (et_use (et_of (et_or (et_test (ev_neI (ev_cb (ea_cons (ev_var rfl) ea_nil) fun Q' q'=>⟨_,_,rfl,.inl ⟨_,SqL.of eD,rfl⟩,q'⟩) (ev_var rfl))) (fun _=>et_test fun Q' q'=>⟨_,rfl,D,xs,rfl,rfl,SqL.of eD,hn,q'⟩)) ok) ?_)
  cases e:okS (ws.map cp) n with
  |true=>
   refine iteF ?_
   have:ws.length=n:=by unfold okS at e;simpa using (Bool.and_eq_true_iff.mp e).1
   exact(ev_var rfl:Ev (tVar 2) _ _ _) _ (q _ H' s1 (by rw[e];exact⟨D,_,rfl,hD,eD,by first|omega|(rw[List.length_map];exact this)⟩))
  |false=>exact iteT (q _ H' s1 (by rw[e];rfl))
theorem fld_new {H:Hp}{a dx C l:Addr}{fs gs:List (Str×V)}{o:HO}(ha:H a=some (.ins C dx fs))(nl:H l=none):upd (upd H l o) a (.ins C dx gs) a=some (.ins C dx gs)∧upd (upd H l o) a (.ins C dx gs) l=some o∧FK [a] H (upd (upd H l o) a (.ins C dx gs)):=by
 have e:l≠a:=fun z=>by rw[z,ha] at nl;cases nl
 refine⟨upd_same,by rw[upd_ne e,upd_same],fun b u n h=>?_⟩
 rw[upd_ne fun z=>n (by rw[z];exact List.mem_singleton.mpr rfl),upd_ne (ne_of_none h nl)];exact h
theorem fld_set {H:Hp}{a dx C:Addr}{gs:List (Str×V)}:upd H a (.ins C dx gs) a=some (.ins C dx gs)∧FK [a] H (upd H a (.ins C dx gs)):=
 ⟨upd_same,fun b u n h=>by rw[upd_ne fun z=>n (by rw[z];exact List.mem_singleton.mpr rfl)];exact h⟩
theorem lp1 {f:Str}{v:V}{fs:List (Str×V)}{n:Nat}(h:fs.length≤n):(putF f v fs).length≤n+1:=Nat.le_trans (length_putF f v fs) (Nat.succ_le_succ h)
theorem look_no {fs:List (Str×V)}{ms ks:List Str}(e:fs.map (·.1)=ks)(h:∀m∈ms,m∉ks):∀m∈ms,fs.lookup m=none:=fun m hm=>by
 have:=h m hm
 rw[←e] at this
 clear e h hm
 induction fs with
 |nil=>rfl
 |cons p r ih=>
  rw[List.map_cons] at this
  have h1:m≠p.1:=fun z=>this (by rw[z];exact List.mem_cons_self)
  rw[List.lookup_cons,beq_eq_false_iff_ne.mpr h1]
  exact ih fun z=>this (List.mem_cons_of_mem _ z)
theorem look_put {fs:List (Str×V)}{ms:List Str}{f:Str}{v:V}(h:∀m∈ms,fs.lookup m=none)(n:∀m∈ms,m≠f):∀m∈ms,(putF f v fs).lookup m=none:=fun m hm=>by
 rw[lookup_putF,if_neg (n m hm)];exact h m hm
theorem fk_ne {H:Hp}{x y:Addr}{o:HO}(hx:H x=some o)(hy:H y=none):x≠y:=fun z=>by rw[z,hy] at hx;cases hx
theorem ok_DInit {cDraft cReading cWireError cBadRow cBadAnswer cPt cNk:Addr}{f:Addr}{fd:FuncData}(F:Fun K "__init__" "Draft.__init__" sDInit f fd)(T:Txt w K mg cDraft cReading cWireError cBadRow cBadAnswer cPt cNk):FnOk P w K mg base CX0 1 f fd ["self", "kind", "numbers"] (spDInit cDraft):=by
 have sc:FnScope ["self", "kind", "numbers"] ["self", "kind", "numbers"] (defScope sDInit):=⟨rfl,rfl,rfl,by decide+kernel,rfl,by decide+kernel,by decide+kernel⟩
 refine F.ok sc (fun vs H Q E h=>by repeat (first|(obtain⟨rfl,_⟩:=h;rfl)|(obtain⟨_,h⟩:=h))) (fun cdv A outer s H vs Q E hr h=>?_)
 obtain⟨a,dx,k,v,rfl,h4,ha,q⟩:=h
 refine⟨_,(pss_cons (ps_fld (pv 0) (pv 1) rfl)
 (pss_cons (ps_fld (pv 0) (pv 2) rfl)
 (pss_cons (ps_fld (pv 0) (pe_lst pa_nil) rfl)
 (pss_cons (ps_fld (pv 0) (pe_lst pa_nil) rfl)
 (pss_cons (ps_fld (pv 0) pe_dnewE rfl)
 (pss_cons (ps_fld (pv 0) (pe_lst pa_nil) rfl)
 (pss_cons (ps_fld (pv 0) (pe_lst pa_nil) rfl)
 (pss_one (ps_fld (pv 0) pe_non rfl))))))))),?_⟩
 refine⟨_,rfl,_,rfl,a,cDraft,dx,[],rfl,ha,T.cl_Draft,T.na_Draft_kind,(by decide),?_⟩
 have g:=fld_set (H:=H) (a:=a) (dx:=dx) (C:=cDraft) (gs:=putF "kind" (.str (kS k)) [])
 revert g
 generalize upd H a _=H1
 rintro⟨ha1,k1⟩
 refine⟨_,rfl,_,rfl,a,cDraft,dx,_,rfl,ha1,T.cl_Draft,T.na_Draft_numbers,Nat.lt_of_le_of_lt (lp1 (Nat.le_refl 0)) (by decide),?_⟩
 have g:=fld_set (H:=H1) (a:=a) (dx:=dx) (C:=cDraft) (gs:=putF "numbers" v (putF "kind" (.str (kS k)) []))
 revert g
 generalize upd H1 a _=H2
 rintro⟨ha2,k2⟩
 refine⟨(by show 0≤sizeLine;decide),fun lw nw=>⟨_,rfl,a,cDraft,dx,_,rfl,(by rw[upd_ne (fk_ne ha2 nw)];exact ha2),T.cl_Draft,T.na_Draft_wires,Nat.lt_of_le_of_lt (lp1 (lp1 (Nat.le_refl 0))) (by decide),?_⟩⟩
 have g:=fld_new (o:=.lst []) (gs:=putF "wires" (.ref lw) (putF "numbers" v (putF "kind" (.str (kS k)) []))) ha2 nw
 revert g
 generalize upd (upd H2 lw _) a _=H3
 rintro⟨ha3,hw3,k3⟩
 refine⟨(by show 0≤sizeLine;decide),fun lh nh=>⟨_,rfl,a,cDraft,dx,_,rfl,(by rw[upd_ne (fk_ne ha3 nh)];exact ha3),T.cl_Draft,T.na_Draft_hills,Nat.lt_of_le_of_lt (lp1 (lp1 (lp1 (Nat.le_refl 0)))) (by decide),?_⟩⟩
 have g:=fld_new (o:=.lst []) (gs:=putF "hills" (.ref lh) (putF "wires" (.ref lw) (putF "numbers" v (putF "kind" (.str (kS k)) [])))) ha3 nh
 revert g
 generalize upd (upd H3 lh _) a _=H4
 rintro⟨ha4,hh4,k4⟩
 refine fun hd nd=> .inr ⟨_,rfl,a,cDraft,dx,_,rfl,(by rw[upd_ne (fk_ne ha4 nd)];exact ha4),T.cl_Draft,T.na_Draft_heights,Nat.lt_of_le_of_lt (lp1 (lp1 (lp1 (lp1 (Nat.le_refl 0))))) (by decide),?_⟩
 have g:=fld_new (o:=.dT []) (gs:=putF "heights" (.ref hd) (putF "hills" (.ref lh) (putF "wires" (.ref lw) (putF "numbers" v (putF "kind" (.str (kS k)) []))))) ha4 nd
 revert g
 generalize upd (upd H4 hd _) a _=H5
 rintro⟨ha5,hd5,k5⟩
 refine⟨(by show 0≤sizeLine;decide),fun lc nc=>⟨_,rfl,a,cDraft,dx,_,rfl,(by rw[upd_ne (fk_ne ha5 nc)];exact ha5),T.cl_Draft,T.na_Draft_cut,Nat.lt_of_le_of_lt (lp1 (lp1 (lp1 (lp1 (lp1 (Nat.le_refl 0)))))) (by decide),?_⟩⟩
 have g:=fld_new (o:=.lst []) (gs:=putF "cut" (.ref lc) (putF "heights" (.ref hd) (putF "hills" (.ref lh) (putF "wires" (.ref lw) (putF "numbers" v (putF "kind" (.str (kS k)) [])))))) ha5 nc
 revert g
 generalize upd (upd H5 lc _) a _=H6
 rintro⟨ha6,hc6,k6⟩
 refine⟨(by show 0≤sizeLine;decide),fun ls ns=>⟨_,rfl,a,cDraft,dx,_,rfl,(by rw[upd_ne (fk_ne ha6 ns)];exact ha6),T.cl_Draft,T.na_Draft_spots,Nat.lt_of_le_of_lt (lp1 (lp1 (lp1 (lp1 (lp1 (lp1 (Nat.le_refl 0))))))) (by decide),?_⟩⟩
 have g:=fld_new (o:=.lst []) (gs:=putF "spots" (.ref ls) (putF "cut" (.ref lc) (putF "heights" (.ref hd) (putF "hills" (.ref lh) (putF "wires" (.ref lw) (putF "numbers" v (putF "kind" (.str (kS k)) []))))))) ha6 ns
 revert g
 generalize upd (upd H6 ls _) a _=H7
 rintro⟨ha7,hs7,k7⟩
 refine⟨_,rfl,a,cDraft,dx,_,rfl,ha7,T.cl_Draft,T.na_Draft_last,Nat.lt_of_le_of_lt (lp1 (lp1 (lp1 (lp1 (lp1 (lp1 (lp1 (Nat.le_refl 0)))))))) (by decide),?_⟩
 have g:=fld_set (H:=H7) (a:=a) (dx:=dx) (C:=cDraft) (gs:=putF "last" .non (putF "spots" (.ref ls) (putF "cut" (.ref lc) (putF "heights" (.ref hd) (putF "hills" (.ref lh) (putF "wires" (.ref lw) (putF "numbers" v (putF "kind" (.str (kS k)) []))))))))
 revert g
 generalize upd H7 a _=H8
 rintro⟨ha8,k8⟩
 have f2:FK [a] H H2:=k1.trans k2
 have f3:=f2.trans k3
 have f4:=f3.trans k4
 have f5:=f4.trans k5
 have f6:=f5.trans k6
 have f8:FK [a] H H8:=(f6.trans k7).trans k8
 have old:∀{x:Addr} {X:Hp},X x=none→FK [a] H X→x=a∨H x=none:=fun{x X} hx f=>by
  by_cases z:x=a
  ·exact .inl z
  ·refine .inr ?_
   cases e:H x with
   |none=>rfl
   |some o=>have:=f x o (fun m=>z (List.mem_singleton.mp m)) e;rw[hx] at this;cases this
 have wa:lw∉[a]:=fun m=>fk_ne ha2 nw (List.mem_singleton.mp m).symm
 have ha':lh∉[a]:=fun m=>fk_ne ha3 nh (List.mem_singleton.mp m).symm
 have da:hd∉[a]:=fun m=>fk_ne ha4 nd (List.mem_singleton.mp m).symm
 have ca:lc∉[a]:=fun m=>fk_ne ha5 nc (List.mem_singleton.mp m).symm
 have sa:ls∉[a]:=fun m=>fk_ne ha6 ns (List.mem_singleton.mp m).symm
 have w4:=k4 _ _ wa hw3
 have w5:=k5 _ _ wa w4
 have w6:=k6 _ _ wa w5
 have w7:=k7 _ _ wa w6
 have h5:=k5 _ _ ha' hh4
 have h6:=k6 _ _ ha' h5
 have h7:=k7 _ _ ha' h6
 have d6:=k6 _ _ da hd5
 have d7:=k7 _ _ da d6
 have c7:=k7 _ _ ca hc6
 have w8:=k8 _ _ wa w7
 have h8:=k8 _ _ ha' h7
 have d8:=k8 _ _ da d7
 have c8:=k8 _ _ ca c7
 have s8:=k8 _ _ sa hs7
 refine q [a,lw,lh,hd,lc,ls] H8 ⟨dx,(putF "last" .non (putF "spots" (.ref ls) (putF "cut" (.ref lc) (putF "heights" (.ref hd) (putF "hills" (.ref lh) (putF "wires" (.ref lw) (putF "numbers" v (putF "kind" (.str (kS k)) [])))))))),lw,lh,hd,lc,ls,[],[],[],[],[],.non,?_⟩ f8 ?_
 ·exact{
   ha:=ha8
   ln:=Nat.le_trans (lp1 (lp1 (lp1 (lp1 (lp1 (lp1 (lp1 (lp1 (Nat.le_refl 0))))))))) (by decide)
   no:=look_no (ks:=["kind", "numbers", "wires", "hills", "heights", "cut", "spots", "last"]) (by kernel_rfl) (by decide+kernel)
   k4:=h4
   fk:=by kernel_rfl
   fw:=by kernel_rfl
   fh:=by kernel_rfl
   fd:=by kernel_rfl
   fc:=by kernel_rfl
   fp:=by kernel_rfl
   fl:=by kernel_rfl
   jw:=w8
   jh:=h8
   jd:=d8
   jc:=c8
   js:=s8
   n1:=Nat.le_refl _
   n2:=Nat.le_refl _
   n3:=Nat.le_refl _
   n4:=Nat.le_refl _
   n5:=Nat.le_refl _
   b1:=rfl
   b2:=rfl
   b3:=rfl
   e1:=fk_ne hw3 nh
   e2:=fk_ne w5 nc
   e3:=fk_ne w6 ns
   e4:=fk_ne h5 nc
   e5:=fk_ne h6 ns
   e6:=fk_ne hc6 ns
   ma:=by simp
   mw:=by simp
   mh:=by simp
   md:=by simp
   mc:=by simp
   ms:=by simp
   fm:=fun y hy=>by
    simp only[List.mem_cons,List.not_mem_nil,or_false] at hy
    rcases hy with rfl|rfl|rfl|rfl|rfl|rfl<;>exact⟨_,by assumption⟩
   hi:=fun h=>nomatch h
   la:=rfl}
 ·intro x hx
  simp only[List.mem_cons,List.not_mem_nil,or_false] at hx
  rcases hx with rfl|rfl|rfl|rfl|rfl|rfl
  ·exact .inl rfl
  ·exact old nw f2
  ·exact old nh f3
  ·exact old nd f4
  ·exact old nc f5
  ·exact old ns f6
theorem ne0 {n:Nat}:decide ((0:Int)<(n:Nat))=!decide (n=0):=by
 cases n with
 |zero=>rfl
 |succ k=>rw[decide_eq_true (by omega),decide_eq_false (by omega)];rfl
theorem len0 {α:Type}(l:List α):decide (l.length=0)=l.isEmpty:=by cases l<;>rfl
theorem ite_c {A B:Prop}{b:Bool}(h1:b=true→A)(h2:b=false→B):if b=true then A else B:=by cases b with|true=>exact iteT (h1 rfl)|false=>exact iteF (h2 rfl)
theorem or_c {t u:TT}{σ:St}{H:Hp}{Q:Bool→Hp→Prop}(h:t σ H fun c H1=>if c=true then Q true H1 else u σ H1 Q):tOr t u σ H Q:=h
theorem ne_o {H:Hp}{x y:Addr}{o p:HO}(hx:H x=some o)(hy:H y=some p)(h:o≠p):x≠y:=fun z=>by rw[z,hy] at hx;exact h (Option.some.inj hx).symm
theorem putF_len {f:Str}{v u:V}:∀{fs:List (Str×V)},fs.lookup f=some u→(putF f v fs).length=fs.length
 |[],h=>by cases h
 |(g,x)::r,h=>by
  unfold putF
  by_cases e:g=f
  ·rw[if_pos e];rfl
  ·rw[if_neg e,List.length_cons,List.length_cons]
   rw[List.lookup_cons,beq_eq_false_iff_ne.mpr (fun z=>e z.symm)] at h
   rw[putF_len h]
section
variable {cD:Addr} {n:Nat} {F:List Addr} {H:Hp} {a:Addr} {d:Dr} {dx:Addr} {fs:List (Str×V)} {lw lh hd lc ls:Addr} {ws ys cs zs:List V} {kvs:List (List Key×V)} {lv:V}
theorem DrP.same {H':Hp}(x:DrP cD n F H a d dx fs lw lh hd lc ls ws ys cs zs kvs lv)(s:Same H H'):DrP cD n F H' a d dx fs lw lh hd lc ls ws ys cs zs kvs lv:=x.kept (fun b o _ h=>s b o h) fun b xs h=>s b _ h
theorem la_up {H':Hp}{d:Dr}{lv:V}(l:match d.last with|none=>lv=.non|some s=>∃t,lv=.ref t∧H t=some (.tup (s.map V.int))∧s.length=3)(t:∀b xs,H b=some (.tup xs)→H' b=some (.tup xs)):match d.last with|none=>lv=.non|some s=>∃t,lv=.ref t∧H' t=some (.tup (s.map V.int))∧s.length=3:=by
 cases e:d.last with
 |none=>rw[e] at l;exact l
 |some y=>
  rw[e] at l
  obtain⟨u,e1,e2,e3⟩:=l
  exact⟨u,e1,t _ _ e2,e3⟩
theorem DrP.wr (x:DrP cD n F H a d dx fs lw lh hd lc ls ws ys cs zs kvs lv)(v:V):DrP cD (n+1) F (upd H lw (.lst (ws++[v]))) a d dx fs lw lh hd lc ls (ws++[v]) ys cs zs kvs lv:=by
 have up:∀{y o},y≠lw→H y=some o→upd H lw (.lst (ws++[v])) y=some o:=fun h e=>by rw[upd_ne h];exact e
 refine{x with ha:=up (ne_o x.ha x.jw (fun z=>nomatch z)) x.ha,jw:=upd_same,jh:=up x.e1.symm x.jh,jd:=up (ne_o x.jd x.jw (fun z=>nomatch z)) x.jd,jc:=up x.e2.symm x.jc,js:=up x.e3.symm x.js,n1:=by rw[List.length_append];exact Nat.add_le_add_right x.n1 1,n2:=Nat.le_succ_of_le x.n2,n3:=Nat.le_succ_of_le x.n3,n4:=Nat.le_succ_of_le x.n4,n5:=Nat.le_succ_of_le x.n5,fm:=some_upd x.fm,hi:=fun h=>?_,la:=la_up x.la fun b xs h=>up (ne_o h x.jw (fun z=>nomatch z)) h}
 obtain⟨y0,u,top,dd,kv2,e1,e2,e3,e4,e5,e6⟩:=x.hi h
 exact⟨y0,u,top,dd,kv2,e1,up (ne_o e2 x.jw (fun z=>nomatch z)) e2,up (ne_o e3 x.jw (fun z=>nomatch z)) e3,Nat.le_succ_of_le e4,e5,e6⟩
theorem DrP.c (x:DrP cD n F H a d dx fs lw lh hd lc ls ws ys cs zs kvs lv)(vs:List V)(h1:vs.length=1):DrP cD (n+1) F (upd H lc (.lst (cs++vs))) a d dx fs lw lh hd lc ls ws ys (cs++vs) zs kvs lv:=by
 have up:∀{y o},y≠lc→H y=some o→upd H lc (.lst (cs++vs)) y=some o:=fun h e=>by rw[upd_ne h];exact e
 refine{x with ha:=up (ne_o x.ha x.jc (fun z=>nomatch z)) x.ha,jw:=up x.e2 x.jw,jh:=up x.e4 x.jh,jd:=up (ne_o x.jd x.jc (fun z=>nomatch z)) x.jd,jc:=upd_same,js:=up x.e6.symm x.js,n1:=Nat.le_succ_of_le x.n1,n2:=Nat.le_succ_of_le x.n2,n3:=Nat.le_succ_of_le x.n3,n4:=by rw[List.length_append,h1];exact Nat.add_le_add_right x.n4 1,n5:=Nat.le_succ_of_le x.n5,fm:=some_upd x.fm,hi:=fun h=>?_,la:=la_up x.la fun b xs h=>up (ne_o h x.jc (fun z=>nomatch z)) h}
 obtain⟨y0,u,top,dd,kv2,e1,e2,e3,e4,e5,e6⟩:=x.hi h
 exact⟨y0,u,top,dd,kv2,e1,up (ne_o e2 x.jc (fun z=>nomatch z)) e2,up (ne_o e3 x.jc (fun z=>nomatch z)) e3,Nat.le_succ_of_le e4,e5,e6⟩
theorem DrP.s (x:DrP cD n F H a d dx fs lw lh hd lc ls ws ys cs zs kvs lv)(vs:List V)(h1:vs.length=1):DrP cD (n+1) F (upd H ls (.lst (zs++vs))) a {d with sp:=true} dx fs lw lh hd lc ls ws ys cs (zs++vs) kvs lv:=by
 have up:∀{y o},y≠ls→H y=some o→upd H ls (.lst (zs++vs)) y=some o:=fun h e=>by rw[upd_ne h];exact e
 refine{x with ha:=up (ne_o x.ha x.js (fun z=>nomatch z)) x.ha,jw:=up x.e3 x.jw,jh:=up x.e5 x.jh,jd:=up (ne_o x.jd x.js (fun z=>nomatch z)) x.jd,jc:=up x.e6 x.jc,js:=upd_same,n1:=Nat.le_succ_of_le x.n1,n2:=Nat.le_succ_of_le x.n2,n3:=Nat.le_succ_of_le x.n3,n4:=Nat.le_succ_of_le x.n4,n5:=by rw[List.length_append,h1];exact Nat.add_le_add_right x.n5 1,b3:=?_,fm:=some_upd x.fm,hi:=fun h=>?_,la:=la_up x.la fun b xs h=>up (ne_o h x.js (fun z=>nomatch z)) h}
 ·cases vs with
  |nil=>cases h1
  |cons v r=>simp
 ·obtain⟨y0,u,top,dd,kv2,e1,e2,e3,e4,e5,e6⟩:=x.hi h
  exact⟨y0,u,top,dd,kv2,e1,up (ne_o e2 x.js (fun z=>nomatch z)) e2,up (ne_o e3 x.js (fun z=>nomatch z)) e3,Nat.le_succ_of_le e4,e5,e6⟩
theorem DrP.l (x:DrP cD n F H a d dx fs lw lh hd lc ls ws ys cs zs kvs lv)(o:Option (List Int))(v:V)(hl:match o with|none=>v=.non|some s=>∃t,v=.ref t∧H t=some (.tup (s.map V.int))∧s.length=3):DrP cD n F (upd H a (.ins cD dx (putF "last" v fs))) a {d with last:=o} dx (putF "last" v fs) lw lh hd lc ls ws ys cs zs kvs v:=by
 have up:∀{y p},y≠a→H y=some p→upd H a (.ins cD dx (putF "last" v fs)) y=some p:=fun h e=>by rw[upd_ne h];exact e
 refine{x with ha:=upd_same,ln:=by rw[putF_len x.fl];exact x.ln,no:=look_put x.no (by decide+kernel),fk:=?_,fw:=?_,fh:=?_,fd:=?_,fc:=?_,fp:=?_,fl:=?_,jw:=up (ne_o x.jw x.ha (fun z=>nomatch z)) x.jw,jh:=up (ne_o x.jh x.ha (fun z=>nomatch z)) x.jh,jd:=up (ne_o x.jd x.ha (fun z=>nomatch z)) x.jd,jc:=up (ne_o x.jc x.ha (fun z=>nomatch z)) x.jc,js:=up (ne_o x.js x.ha (fun z=>nomatch z)) x.js,fm:=some_upd x.fm,hi:=fun h=>?_,la:=?_}
 ·rw[lookup_putF,if_neg (by decide+kernel)];exact x.fk
 ·rw[lookup_putF,if_neg (by decide+kernel)];exact x.fw
 ·rw[lookup_putF,if_neg (by decide+kernel)];exact x.fh
 ·rw[lookup_putF,if_neg (by decide+kernel)];exact x.fd
 ·rw[lookup_putF,if_neg (by decide+kernel)];exact x.fc
 ·rw[lookup_putF,if_neg (by decide+kernel)];exact x.fp
 ·rw[lookup_putF,if_pos rfl]
 ·obtain⟨y0,u,top,dd,kv2,e1,e2,e3,e4,e5,e6⟩:=x.hi h
  exact⟨y0,u,top,dd,kv2,e1,up (ne_o e2 x.ha (fun z=>nomatch z)) e2,up (ne_o e3 x.ha (fun z=>nomatch z)) e3,e4,e5,e6⟩
 ·exact la_up (d:={d with last:=o}) hl fun b xs h=>up (ne_o h x.ha (fun z=>nomatch z)) h
theorem DrP.mono {m:Nat}(x:DrP cD n F H a d dx fs lw lh hd lc ls ws ys cs zs kvs lv)(h:n≤m):DrP cD m F H a d dx fs lw lh hd lc ls ws ys cs zs kvs lv:=by
 refine{x with n1:=Nat.le_trans x.n1 h,n2:=Nat.le_trans x.n2 h,n3:=Nat.le_trans x.n3 h,n4:=Nat.le_trans x.n4 h,n5:=Nat.le_trans x.n5 h,hi:=fun z=>?_}
 obtain⟨y0,u,top,dd,kv2,e1,e2,e3,e4,e5,e6⟩:=x.hi z
 exact⟨y0,u,top,dd,kv2,e1,e2,e3,Nat.le_trans e4 h,e5,e6⟩
end
theorem kS_in {k:Nat}(h:k≤4):inV (.str (kS k)) [.str (Str.ofString "shore"),.str (Str.ofString "cut")]=(decide (k=3)||decide (k=4)):=by
 match k,h with
 |0,_|1,_|2,_|3,_|4,_=>decide+kernel
theorem kS_eq {k j:Nat}(h:k≤4)(hj:j≤4):decide (kS k=kS j)=decide (k=j):=by
 match k,h with
 |0,_|1,_|2,_|3,_|4,_=>(match j,hj with|0,_|1,_|2,_|3,_|4,_=>decide+kernel)
theorem kind_in {K:PySem.W.Frag}{σ:St}{H:Hp}{a C dx:Addr}{fs:List (Str×V)}{k:Nat}{Q:Bool→Hp→Prop}(h0:σ[0]?=some (some (.ref a)))(ha:H a=some (.ins C dx fs))(c:Cls K C)(na:NoAttr K C "kind")(l:fs.lookup ("kind" :Str)=some (.str (kS k)))(h4:k≤4)
  (q:∀p,H p=none→Q (decide (k=3)||decide (k=4)) (upd H p (.tup [.str (Str.ofString "shore"),.str (Str.ofString "cut")]))):tTest (tOp (rIn K false) (tFld K (tVar 0) "kind") (tTup (tCons (tC (.str (Str.ofString "shore"))) (tCons (tC (.str (Str.ofString "cut"))) tNil)))) σ H Q:=by
 refine⟨_,h0,a,C,dx,fs,_,rfl,ha,c,na,l,(by show 2≤sizeLine;decide),fun p np=>⟨p,_,rfl,.inr (SqT.of upd_same),rfl,rfl,_,rfl,?_⟩⟩
 have:=q p np
 rw[←kS_in h4] at this
 exact this
theorem kind_nin {K:PySem.W.Frag}{σ:St}{H:Hp}{a C dx:Addr}{fs:List (Str×V)}{k:Nat}{Q:Bool→Hp→Prop}(h0:σ[0]?=some (some (.ref a)))(ha:H a=some (.ins C dx fs))(c:Cls K C)(na:NoAttr K C "kind")(l:fs.lookup ("kind" :Str)=some (.str (kS k)))(h4:k≤4)
  (q:∀p,H p=none→Q (!(decide (k=3)||decide (k=4))) (upd H p (.tup [.str (Str.ofString "shore"),.str (Str.ofString "cut")]))):tTest (tOp (rIn K true) (tFld K (tVar 0) "kind") (tTup (tCons (tC (.str (Str.ofString "shore"))) (tCons (tC (.str (Str.ofString "cut"))) tNil)))) σ H Q:=by
 refine⟨_,h0,a,C,dx,fs,_,rfl,ha,c,na,l,(by show 2≤sizeLine;decide),fun p np=>⟨p,_,rfl,.inr (SqT.of upd_same),rfl,rfl,_,rfl,?_⟩⟩
 have:=q p np
 rw[←kS_in h4] at this
 exact this
section
variable {K:PySem.W.Frag} {ta tb:TE} {σ:St} {H:Hp} {a p C dx:Addr} {fs:List (Str×V)} {f:Str} {v:V} {xs:List V}
theorem ev_fl (h:Ev ta σ H (.ref a))(e:H a=some (.ins C dx fs))(c:Cls K C)(n:NoAttr K C f)(l:fs.lookup f=some v):Ev (tFld K ta f) σ H v:=fun _ q=>h _ ⟨a,C,dx,fs,v,rfl,e,c,n,l,q⟩
theorem et_isT (h:Ev ta σ H .non):EvT (tTest (tOp (fun x y H Q=>y=.non∧Q (.bl (decide (x=.non))) H) ta (tC .non))) σ H true:=et_of (et_test (ev_isN h ev_c)) rfl
theorem et_isF (h:Ev ta σ H (.ref p)):EvT (tTest (tOp (fun x y H Q=>y=.non∧Q (.bl (decide (x=.non))) H) ta (tC .non))) σ H false:=et_of (et_test (ev_isN h ev_c)) rfl
theorem ev_len (h:Ev ta σ H (.ref p))(e:H p=some (.lst xs)):Ev (tCB (fun xs H Q=>∃x n,xs=[x]∧LenV K x H n∧Q (.int n) H) (tCons ta tNil)) σ H (.int (xs.length:Nat)):=ev_cb (ea_cons h ea_nil) fun _ q'=>⟨_,_,rfl,.inl ⟨_,SqL.of e,rfl⟩,q'⟩
theorem et_len0 (h:Ev ta σ H (.ref p))(e:H p=some (.lst xs)):EvT (tTest (tOp (rI0 fun i j=> .bl (decide (j<i))) (tCB (fun xs H Q=>∃x n,xs=[x]∧LenV K x H n∧Q (.int n) H) (tCons ta tNil)) (tC (.int 0)))) σ H (!xs.isEmpty):=et_of (et_test (ev_gt (ev_len h e) ev_c)) (by rw[ne0,len0])
theorem et_lenD {kvs:List (List Key×V)}(h:Ev ta σ H (.ref p))(e:H p=some (.dT kvs)):EvT (tTest (tOp (rI0 fun i j=> .bl (decide (j<i))) (tCB (fun xs H Q=>∃a kvs,xs=[V.ref a]∧Rd H a (.dT kvs)∧Q (.int kvs.length) H) (tCons ta tNil)) (tC (.int 0)))) σ H (!kvs.isEmpty):=et_of (et_test (ev_gt (ev_cb (ea_cons h ea_nil) fun _ q'=>⟨_,_,rfl,.inl e,q'⟩) ev_c)) (by rw[ne0,len0])
theorem or_t {t u:TT}{Q:Bool→Hp→Prop}(h:EvT t σ H true)(q:Q true H):tOr t u σ H Q:=h _ (iteT q)
theorem or_f {t u:TT}{Q:Bool→Hp→Prop}(h:EvT t σ H false)(q:u σ H Q):tOr t u σ H Q:=h _ (iteF q)
end
theorem step_eq (d:Dr)(ws:List (List Nat)):takeD d (L "step" ::ws)=if decide (d.kind=3)||decide (d.kind=4)||!okS ws 2||d.hl||d.ht then none else some d:=by unfold takeD;dsimp only;rw[if_pos rfl]
theorem hill_eq (d:Dr)(ws:List (List Nat)):takeD d (L "hill" ::ws)=if !decide (d.kind=1)||!okN ws 1 then none else some {d with hl:=true,last:=none}:=by unfold takeD;dsimp only;rw[if_neg (show L "hill" ≠L "step" by decide+kernel),if_pos rfl]
theorem at_eq (d:Dr)(ws:List (List Nat)):takeD d (L "at" ::ws)=takeA d ws:=by unfold takeD;dsimp only;rw[if_neg (show L "at" ≠L "step" by decide+kernel),if_neg (show L "at" ≠L "hill" by decide+kernel),if_pos rfl]
theorem cut_eq (d:Dr)(ws:List (List Nat)):takeD d (L "cut" ::ws)=if !decide (d.kind=4)||!okS ws 1||d.sp then none else some d:=by unfold takeD;dsimp only;rw[if_neg (show L "cut" ≠L "step" by decide+kernel),if_neg (show L "cut" ≠L "hill" by decide+kernel),if_neg (show L "cut" ≠L "at" by decide+kernel),if_pos rfl]
theorem spot_eq (d:Dr)(ws:List (List Nat)):takeD d (L "spot" ::ws)=if !(decide (d.kind=3)||decide (d.kind=4))||!okS ws 1 then none else some {d with sp:=true}:=by unfold takeD;dsimp only;rw[if_neg (show L "spot" ≠L "step" by decide+kernel),if_neg (show L "spot" ≠L "hill" by decide+kernel),if_neg (show L "spot" ≠L "at" by decide+kernel),if_neg (show L "spot" ≠L "cut" by decide+kernel),if_pos rfl]
theorem ok_TStep {cDraft cReading cWireError cBadRow cBadAnswer cPt cNk:Addr}{f:Addr}{fd:FuncData}(F:Fun K "take_step" "Draft.take_step" sTStep f fd)(T:Txt w K mg cDraft cReading cWireError cBadRow cBadAnswer cPt cNk)(gSpotsT:Callee P w K mg base "spots_told" 3 ["words", "many"] (spSpotsT K)):FnOk P w K mg base CX0 4 f fd ["self", "words"] (spTStep cDraft):=by
 have sc:FnScope ["self", "words", "spots"] ["self", "words"] (defScope sTStep):=⟨rfl,rfl,rfl,by decide+kernel,rfl,by decide+kernel,by decide+kernel⟩
 refine F.ok sc (fun vs H Q E h=>by repeat (first|(obtain⟨rfl,_⟩:=h;rfl)|(obtain⟨_,h⟩:=h))) (fun cdv A outer s H vs Q E hr h=>?_)
 obtain⟨a,l,n,F,d,ws,rfl,h9,⟨dx,fs,lw,lh,hd,lc,ls,wx,ys,cs,zs,kvs,lv,x⟩,hw,hl,q⟩:=h
 refine⟨_,(pss_cons (ps_set (i:=2) sc.nd rfl (Or.inl rfl) (pe_cal gSpotsT (hr.mono (by decide)) (by rfl) (pa_cons (pv 1) (pa_cons pe_int pa_nil))))
 (pss_cons (ps_if (pw_or (pt_cmpR op_in_seq (pe_fld (pv 0) rfl) (pe_tup (pa_cons pe_str (pa_cons pe_str pa_nil))) (by with_unfolding_all rfl)) (pw_or (pt_cmpR op_isN (pv 2) pe_non (nomark _)) (pw_or (pt_cmpR op_gt (pe_callB call_len (by rfl) T.len_ bt_len (pa_cons (pe_fld (pv 0) rfl) pa_nil)) pe_int (nomark _)) (pw_or1 (pt_cmpR op_gt (pe_callB call_lenDT (by rfl) T.len_ bt_len (pa_cons (pe_fld (pv 0) rfl) pa_nil)) pe_int (nomark _)))))).pt
 (pss_one (ps_ret pe_bl))
 pss_nil)
 (pss_cons (ps_expr (pe_bm PySem.F.plainAttrs_list PySem.F.slot_list_append PySem.F.type_list_append mt_append (pe_fld (pv 0) rfl) (pa_cons (pe_tup (pa_cons (pe_ix ix_list (pv 2) pe_int (fun _ _=>rfl)) (pa_cons (pe_ix ix_list (pv 2) pe_int (fun _ _=>rfl)) pa_nil))) pa_nil)))
 (pss_one (ps_ret pe_bl))))),?_⟩
 have hsz:sizeLine=2^24:=rfl
 rw[step_eq] at q
 refine sq_asg (te_cal (ea_cons (ev_var rfl) (ea_cons ev_c ea_nil)) ⟨l,ws,2,rfl,hw,fun v H1 s1 hv=>?_⟩)
 have x1:=x.same s1
 refine sq_ifof (or_c (kind_in rfl x1.ha T.cl_Draft T.na_Draft_kind x1.fk x1.k4 fun p np=>?_))
 have s2:Same H1 (upd H1 p (.tup [.str (Str.ofString "shore"),.str (Str.ofString "cut")])):=(Same.refl H1).upd np
 revert s2
 generalize upd H1 p _=H2
 intro s2
 have x2:=x1.same s2
 have s12:=s1.trans s2
 cases ek:(decide (d.kind=3)||decide (d.kind=4)) with
 |true=>rw[ek] at q;exact iteT (iteT (q H2 (FK.of s12)))
 |false=>
  rw[ek] at q
  refine iteF ?_
  cases eo:okS (ws.map cp) 2 with
  |false=>
   rw[eo] at q hv
   cases(show v=.non from hv)
   exact or_t (et_isT (ev_var rfl)) (iteT (q H2 (FK.of s12)))
  |true=>
   rw[eo] at q hv
   obtain⟨p2,ps,rfl,np2,hp2,h2⟩:=hv
   refine or_f (et_isF (ev_var rfl)) (et_use (et_of (et_or (et_len0 (ev_fl (ev_var rfl) x2.ha T.cl_Draft T.na_Draft_hills x2.fh) x2.jh) fun _=>et_lenD (ev_fl (ev_var rfl) x2.ha T.cl_Draft T.na_Draft_heights x2.fd) x2.jd) (by rw[←x.b1,←x.b2])) ?_)
   cases e2:(d.hl||d.ht) with
   |true=>
    rw[Bool.or_assoc,e2] at q
    exact iteT (q H2 (FK.of s12))
   |false=>
    rw[Bool.or_assoc,e2] at q
    refine iteF ?_
    obtain⟨y,z,rfl⟩:∃y z,ps=[y,z]:=by
     match ps,h2 with
     |[y,z],_=>exact⟨y,z,rfl⟩
    have hp3:=s2 _ _ hp2
    refine te_bm (ev_fl (ev_var rfl) x2.ha T.cl_Draft T.na_Draft_wires x2.fw) (.inl ⟨rfl,_,SqL.of x2.jw⟩) (ta_one (te_tup (vs:=[y,z]) (ea_cons (ev_ixL (v:=y) (ev_var rfl) ev_c (SqL.of hp3) rfl) (ea_cons (ev_ixL (v:=z) (ev_var rfl) ev_c (SqL.of hp3) rfl) ea_nil)) (by show 2≤sizeLine;decide) fun t nt=>?_))
    have s3:Same H2 (upd H2 t (.tup [y,z])):=(Same.refl H2).upd nt
    revert s3
    generalize upd H2 t _=H3
    intro s3
    have x3:=x2.same s3
    have n1:=x.n1
    refine⟨lw,wx,_,rfl,rfl,x3.jw,by omega,?_⟩
    exact q F _ ⟨dx,fs,lw,lh,hd,lc,ls,_,ys,cs,zs,kvs,lv,x3.wr (.ref t)⟩ (FK.set (FK.of (s12.trans s3)) x.mw) fun y hy=> .inl hy
theorem fk_none {F:List Addr}{H H1:Hp}{x:Addr}(k:FK F H H1)(e:H1 x=none):x∈F∨H x=none:=by
 by_cases m:x∈F
 ·exact .inl m
 ·refine .inr ?_
  cases h:H x with
  |none=>rfl
  |some o=>rw[k x o m h] at e;cases e
theorem tkD_fk {cD:Addr}{n:Nat}{F:List Addr}{H H1:Hp}{a:Addr}{r:Option Dr}{Q:VK}(q:tkD cD n F H a r Q)(k:FK F H H1):tkD cD n F H1 a r Q:=by
 cases r with
 |none=>exact fun H' k'=>q H' (k.trans k')
 |some d=>exact fun F' H' x k' m=>q F' H' x (k.trans k') fun y hy=>(m y hy).elim .inl (fk_none k)
theorem atI_last {α:Type}{xs:List α}{v:α}:atI (xs++[v]) (-1)=some v:=by
 unfold atI ixN
 rw[if_neg (by decide),if_pos (by rw[List.length_append];simp;omega)]
 have e:(-1+((xs.length:Int)+1)).toNat=xs.length:=by omega
 simp[e]
theorem putK_ne {κ:Type} [DecidableEq κ](kvs:List (κ×V))(k:κ)(v:V):(putK kvs k v).isEmpty=false:=by
 unfold putK
 split
 ·rename_i h
  cases kvs with
  |nil=>simp at h
  |cons p r=>simp
 ·simp
section
variable {cD:Addr} {n:Nat} {F:List Addr} {H:Hp} {a:Addr} {d:Dr} {dx:Addr} {fs:List (Str×V)} {lw lh hd lc ls:Addr} {ws ys cs zs:List V} {kvs:List (List Key×V)} {lv:V}
theorem DrP.h (x:DrP cD n F H a d dx fs lw lh hd lc ls ws ys cs zs kvs lv){t dd:Addr}{top:V}(ht:H t=some (.tup [top,.ref dd]))(hdd:H dd=some (.dT []))(nd:dd≠hd):DrP cD (n+1) (dd::F) (upd H lh (.lst (ys++[.ref t]))) a {d with hl:=true} dx fs lw lh hd lc ls ws (ys++[.ref t]) cs zs kvs lv:=by
 have up:∀{y o},y≠lh→H y=some o→upd H lh (.lst (ys++[.ref t])) y=some o:=fun h e=>by rw[upd_ne h];exact e
 exact{x with ha:=up (ne_o x.ha x.jh (fun z=>nomatch z)) x.ha,jw:=up x.e1 x.jw,jh:=upd_same,jd:=up (ne_o x.jd x.jh (fun z=>nomatch z)) x.jd,jc:=up x.e4.symm x.jc,js:=up x.e5.symm x.js,n1:=Nat.le_succ_of_le x.n1,n2:=by rw[List.length_append];exact Nat.add_le_add_right x.n2 1,n3:=Nat.le_succ_of_le x.n3,n4:=Nat.le_succ_of_le x.n4,n5:=Nat.le_succ_of_le x.n5,b1:=by simp,ma:=List.mem_cons_of_mem _ x.ma,mw:=List.mem_cons_of_mem _ x.mw,mh:=List.mem_cons_of_mem _ x.mh,md:=List.mem_cons_of_mem _ x.md,mc:=List.mem_cons_of_mem _ x.mc,ms:=List.mem_cons_of_mem _ x.ms,fm:=some_upd fun y hy=>(List.mem_cons.mp hy).elim (fun e=>⟨HO.dT [],by rw[e];exact hdd⟩) (x.fm y),hi:=fun _=>⟨ys,t,top,dd,[],rfl,up (ne_o ht x.jh (fun z=>nomatch z)) ht,up (ne_o hdd x.jh (fun z=>nomatch z)) hdd,Nat.zero_le _,List.mem_cons_self,nd⟩,la:=la_up x.la fun b xs h=>up (ne_o h x.jh (fun z=>nomatch z)) h}
theorem DrP.pd (x:DrP cD n F H a d dx fs lw lh hd lc ls ws ys cs zs kvs lv)(k:List Key)(v:V):DrP cD (n+1) F (upd H hd (.dT (putK kvs k v))) a {d with ht:=true} dx fs lw lh hd lc ls ws ys cs zs (putK kvs k v) lv:=by
 have up:∀{y o},y≠hd→H y=some o→upd H hd (.dT (putK kvs k v)) y=some o:=fun h e=>by rw[upd_ne h];exact e
 refine{x with ha:=up (ne_o x.ha x.jd (fun z=>nomatch z)) x.ha,jw:=up (ne_o x.jw x.jd (fun z=>nomatch z)) x.jw,jh:=up (ne_o x.jh x.jd (fun z=>nomatch z)) x.jh,jd:=upd_same,jc:=up (ne_o x.jc x.jd (fun z=>nomatch z)) x.jc,js:=up (ne_o x.js x.jd (fun z=>nomatch z)) x.js,n1:=Nat.le_succ_of_le x.n1,n2:=Nat.le_succ_of_le x.n2,n3:=Nat.le_trans (length_putK _ _ _) (Nat.add_le_add_right x.n3 1),n4:=Nat.le_succ_of_le x.n4,n5:=Nat.le_succ_of_le x.n5,b2:=by rw[putK_ne];rfl,fm:=some_upd x.fm,hi:=fun h=>?_,la:=la_up x.la fun b xs h=>up (ne_o h x.jd (fun z=>nomatch z)) h}
 obtain⟨y0,u,top,dd,kv2,e1,e2,e3,e4,e5,e6⟩:=x.hi h
 exact⟨y0,u,top,dd,kv2,e1,up (ne_o e2 x.jd (fun z=>nomatch z)) e2,up e6 e3,Nat.le_succ_of_le e4,e5,e6⟩
theorem DrP.pe (x:DrP cD n F H a d dx fs lw lh hd lc ls ws ys cs zs kvs lv){y0:List V}{t dd:Addr}{top:V}{kv2:List (List Key×V)}(e1:ys=y0++[.ref t])(e2:H t=some (.tup [top,.ref dd]))(e3:H dd=some (.dT kv2))(e4:kv2.length≤n)(e5:dd∈F)(e6:dd≠hd)(k:List Key)(v:V):DrP cD (n+1) F (upd H dd (.dT (putK kv2 k v))) a d dx fs lw lh hd lc ls ws ys cs zs kvs lv:=by
 have up:∀{y o},y≠dd→H y=some o→upd H dd (.dT (putK kv2 k v)) y=some o:=fun h e=>by rw[upd_ne h];exact e
 exact{x with ha:=up (ne_o x.ha e3 (fun z=>nomatch z)) x.ha,jw:=up (ne_o x.jw e3 (fun z=>nomatch z)) x.jw,jh:=up (ne_o x.jh e3 (fun z=>nomatch z)) x.jh,jd:=up e6.symm x.jd,jc:=up (ne_o x.jc e3 (fun z=>nomatch z)) x.jc,js:=up (ne_o x.js e3 (fun z=>nomatch z)) x.js,n1:=Nat.le_succ_of_le x.n1,n2:=Nat.le_succ_of_le x.n2,n3:=Nat.le_succ_of_le x.n3,n4:=Nat.le_succ_of_le x.n4,n5:=Nat.le_succ_of_le x.n5,fm:=some_upd x.fm,hi:=fun _=>⟨y0,t,top,dd,_,e1,up (ne_o e2 e3 (fun z=>nomatch z)) e2,upd_same,Nat.le_trans (length_putK _ _ _) (Nat.add_le_add_right e4 1),e5,e6⟩,la:=la_up x.la fun b xs h=>up (ne_o h e3 (fun z=>nomatch z)) h}
end
theorem et_kne {K:PySem.W.Frag}{ta:TE}{σ:St}{H:Hp}{k j:Nat}(h:Ev ta σ H (.str (kS k)))(hk:k≤4)(hj:j≤4):EvT (tTest (tOp rNe ta (tC (.str (kS j))))) σ H (!decide (k=j)):=et_of (et_test (L2.ev_neS h ev_c)) (by rw[kS_eq hk hj])
theorem et_keq {K:PySem.W.Frag}{ta:TE}{σ:St}{H:Hp}{k j:Nat}(h:Ev ta σ H (.str (kS k)))(hk:k≤4)(hj:j≤4):EvT (tTest (tOp rEq ta (tC (.str (kS j))))) σ H (decide (k=j)):=et_of (et_test (ev_eqS h ev_c)) (by rw[kS_eq hk hj])
theorem ok_THill {cDraft cReading cWireError cBadRow cBadAnswer cPt cNk:Addr}{f:Addr}{fd:FuncData}(F:Fun K "take_hill" "Draft.take_hill" sTHill f fd)(T:Txt w K mg cDraft cReading cWireError cBadRow cBadAnswer cPt cNk)(gWholes:Callee P w K mg base "wholes_told" 3 ["words", "many"] (spWholes K)):FnOk P w K mg base CX0 4 f fd ["self", "words"] (spTHill cDraft):=by
 have sc:FnScope ["self", "words", "tops"] ["self", "words"] (defScope sTHill):=⟨rfl,rfl,rfl,by decide+kernel,rfl,by decide+kernel,by decide+kernel⟩
 refine F.ok sc (fun vs H Q E h=>by repeat (first|(obtain⟨rfl,_⟩:=h;rfl)|(obtain⟨_,h⟩:=h))) (fun cdv A outer s H vs Q E hr h=>?_)
 obtain⟨a,l,n,F,d,ws,rfl,h9,⟨dx,fs,lw,lh,hd,lc,ls,wx,ys,cs,zs,kvs,lv,x⟩,hw,hl,q⟩:=h
 refine⟨_,(pss_cons (ps_set (i:=2) sc.nd rfl (Or.inl rfl) (pe_cal gWholes (hr.mono (by decide)) (by rfl) (pa_cons (pv 1) (pa_cons pe_int pa_nil))))
 (pss_cons (ps_if (pw_or (pt_cmpR op_ne (pe_fld (pv 0) rfl) pe_str (nomark _)) (pw_or1 (pt_cmpR op_isN (pv 2) pe_non (nomark _)))).pt
 (pss_one (ps_ret pe_bl))
 pss_nil)
 (pss_cons (ps_expr (pe_bm PySem.F.plainAttrs_list PySem.F.slot_list_append PySem.F.type_list_append mt_append (pe_fld (pv 0) rfl) (pa_cons (pe_tup (pa_cons (pe_ix ix_list (pv 2) pe_int (fun _ _=>rfl)) (pa_cons pe_dnewE pa_nil))) pa_nil)))
 (pss_cons (ps_fld (pv 0) pe_non rfl)
 (pss_one (ps_ret pe_bl)))))),?_⟩
 have hsz:sizeLine=2^24:=rfl
 rw[hill_eq] at q
 refine sq_asg (te_cal (ea_cons (ev_var rfl) (ea_cons ev_c ea_nil)) ⟨l,ws,1,rfl,hw,fun v H1 s1 hv=>?_⟩)
 have x1:=x.same s1
 have tk:=et_kne (K:=K) (j:=1) (ev_fl (ta:=tVar 0) (σ:=[some (.ref a),some (.ref l),some v]) (ev_var rfl) x1.ha T.cl_Draft T.na_Draft_kind x1.fk) x.k4 (by decide)
 cases ek:decide (d.kind=1) with
 |false=>
  rw[ek] at q tk
  exact sq_ifof (or_t tk (iteT (q H1 (FK.of s1))))
 |true=>
  rw[ek] at q tk
  refine sq_ifof (or_f tk ?_)
  cases eo:okN (ws.map cp) 1 with
  |false=>
   rw[eo] at q hv
   cases(show v=.non from hv)
   exact et_use (et_isT (ev_var rfl)) (iteT (q H1 (FK.of s1)))
  |true=>
   rw[eo] at q hv
   obtain⟨p2,ps,rfl,np2,hp2,h2⟩:=hv
   refine et_use (et_isF (ev_var rfl)) (iteF ?_)
   obtain⟨y,rfl⟩:∃y,ps=[y]:=by
    match ps,h2 with
    |[y],_=>exact⟨y,rfl⟩
   refine te_bm (ev_fl (ev_var rfl) x1.ha T.cl_Draft T.na_Draft_hills x1.fh) (.inl ⟨rfl,_,SqL.of x1.jh⟩) (ta_one (ta_ev (ev_ixL (v:=y) (ev_var rfl) ev_c (SqL.of hp2) rfl) (ta_one fun dd nd=> .inr ⟨(by show 2≤sizeLine;decide),fun t nt=>?_⟩)))
   have s2:Same H1 (upd (upd H1 dd (.dT [])) t (.tup [y,.ref dd])):=((Same.refl H1).upd nd).upd nt
   have ht:upd (upd H1 dd (.dT [])) t (.tup [y,.ref dd]) t=some (.tup [y,.ref dd]):=upd_same
   have hdd:upd (upd H1 dd (.dT [])) t (.tup [y,.ref dd]) dd=some (.dT []):=by rw[upd_ne (fk_ne upd_same nt),upd_same]
   revert s2 ht hdd
   generalize upd (upd H1 dd _) t _=H2
   intro s2 ht hdd
   have x2:=x1.same s2
   have ndF:H dd=none:=by
    cases e:H dd with
    |none=>rfl
    |some o=>rw[s1 _ _ e] at nd;cases nd
   have n2:=x.n2
   refine⟨lh,ys,_,rfl,rfl,x2.jh,by omega,?_⟩
   have x3:=x2.h ht hdd fun z=>by rw[z,x1.jd] at nd;cases nd
   refine⟨_,rfl,a,cDraft,dx,fs,rfl,x3.ha,T.cl_Draft,T.na_Draft_last,Nat.lt_of_le_of_lt x3.ln (by decide),?_⟩
   have x4:=x3.l none .non rfl
   exact q (dd::F) _ ⟨dx,_,lw,lh,hd,lc,ls,_,_,cs,zs,kvs,.non,x4⟩ (FK.set (FK.set (FK.of (s1.trans s2)) x.mh) x.ma) fun y hy=>(List.mem_cons.mp hy).elim (fun e=> .inr (by rw[e];exact ndF)) .inl
theorem cut1 (ws:List Str)(h:ws≠[]):cutV (ws.map V.str) (some 1) none=ws.tail.map V.str:=by
 have:=cut_of (ws.map V.str) 1 (by rw[List.length_map];cases ws with|nil=>exact absurd rfl h|cons a r=>simp)
 rw[show((1:Nat):Int)=1 from rfl] at this
 rw[this]
 cases ws with
 |nil=>rfl
 |cons a r=>rfl
theorem WAt.tail {H H':Hp}{l p:Addr}{ws:List Str}(x:WAt H l ws)(e:H' p=some (.lst (ws.tail.map V.str))):WAt H' p ws.tail:=⟨e,fun w h=>x.2.1 w (List.mem_of_mem_tail h),Nat.le_trans (by rw[List.length_tail];omega) x.2.2⟩
theorem sq_dputT {td ty tv:TE}{u:TS}{D:Ends}{σ:St}{H:Hp}(h:tv σ H fun v H1=>td σ H1 fun x H2=>ty σ H2 fun y H3=>∃a H4,x=.ref a∧DPut H3 a y v H4∧u D σ H4):tSeq (sDPut td ty tv) u D σ H:=h
theorem at0 {α:Type}{x:α}{r:List α}:atI (x::r) 0=some x:=atI_nat (j:=0) rfl
theorem cp_L (s:String):cp (Str.ofString s)=L s:=cp_lit s
theorem str_cp {x y:Str}(h:cp x=cp y):x=y:=by
 have:=str_of (a:=[x]) (b:=[y]) (by simp[h])
 exact(List.cons.inj this).1
theorem dec_L {w:Str}{s:String}:decide (w=Str.ofString s)=decide (cp w=L s):=by
 refine decide_eq_decide.mpr ⟨fun h=>by rw[h,cp_L],fun h=>str_cp (by rw[h,cp_L])⟩
theorem ok_THH {cDraft cReading cWireError cBadRow cBadAnswer cPt cNk:Addr}{f:Addr}{fd:FuncData}(F:Fun K "take_hill_height" "Draft.take_hill_height" sTHH f fd)(T:Txt w K mg cDraft cReading cWireError cBadRow cBadAnswer cPt cNk):FnOk P w K mg base CX0 1 f fd ["self", "spot", "numbers"] (spTHH cDraft):=by
 have sc:FnScope ["self", "spot", "numbers"] ["self", "spot", "numbers"] (defScope sTHH):=⟨rfl,rfl,rfl,by decide+kernel,rfl,by decide+kernel,by decide+kernel⟩
 refine F.ok sc (fun vs H Q E h=>by repeat (first|(obtain⟨rfl,_⟩:=h;rfl)|(obtain⟨_,h⟩:=h))) (fun cdv A outer s H vs Q E hr h=>?_)
 obtain⟨a,t,v,b,s,n,F,d,rfl,h9,⟨dx,fs,lw,lh,hd,lc,ls,wx,ys,cs,zs,kvs,lv,x⟩,ht,hv,q⟩:=h
 refine⟨_,(pss_cons (ps_if (pw_or (pt_cmpR op_eq (pe_callB call_len (by rfl) T.len_ bt_len (pa_cons (pe_fld (pv 0) rfl) pa_nil)) pe_int (nomark _)) (pw_or1 (pt_cmpR op_isN (pv 2) pe_non (nomark _)))).pt
 (pss_one (ps_ret pe_bl))
 pss_nil)
 (pss_cons (ps_dput (Room.one hr) (pe_ix ix_tup (pe_ix ix_list (pe_fld (pv 0) rfl) (pe_un un_neg pe_int) (fun _ _=>rfl)) pe_int (fun _ _=>rfl)) (pv 1) (pe_ix ix_list (pv 2) pe_int (fun _ _=>rfl)) (by rfl))
 (pss_one (ps_ret pe_bl)))),?_⟩
 have hsz:sizeLine=2^24:=rfl
 have t0:EvT (tTest (tOp rEq (tCB (fun xs H Q=>∃x n,xs=[x]∧LenV K x H n∧Q (.int n) H) (tCons (tFld K (tVar 0) "hills") tNil)) (tC (.int 0)))) [some (.ref a),some (.ref t),some v] H (!d.hl):=et_of (et_test (ev_eqI (ev_len (ev_fl (ev_var rfl) x.ha T.cl_Draft T.na_Draft_hills x.fh) x.jh) ev_c)) (by rw[x.b1,Bool.not_not,←len0];exact decide_eq_decide.mpr (by omega))
 cases eh:d.hl with
 |false=>
  rw[eh] at q t0
  exact sq_ifof (or_t t0 (iteT (q H (FK.refl F H))))
 |true=>
  rw[eh] at q t0
  refine sq_ifof (or_f t0 ?_)
  cases b with
  |false=>
   cases(show v=.non from hv)
   exact et_use (et_isT (ev_var rfl)) (iteT (q H (FK.refl F H)))
  |true=>
   obtain⟨p,xs,rfl,hp,h1⟩:=hv
   refine et_use (et_isF (ev_var rfl)) (iteF ?_)
   obtain⟨y,rfl⟩:∃y,xs=[y]:=by
    match xs,h1 with
    |[y],_=>exact⟨y,rfl⟩
   obtain⟨y0,u,top,dd,kv2,e1,e2,e3,e4,e5,e6⟩:=x.hi eh
   refine sq_dput (ev_ixL (v:=y) (ev_var rfl) ev_c (SqL.of hp) rfl) (ev_ixT (v:=.ref dd) (ev_ixL (v:=.ref u) (ev_fl (ev_var rfl) x.ha T.cl_Draft T.na_Draft_hills x.fh) (ev_U ev_c) (SqL.of x.jh) (by rw[e1];exact atI_last)) ev_c (SqT.of e2) rfl) (ev_var rfl) (DPut.t e3 (iK_at ht) (by omega)) ?_
   exact q F _ ⟨dx,fs,lw,lh,hd,lc,ls,_,ys,cs,zs,kvs,lv,x.pe e1 e2 e3 e4 e5 e6 (iK s) y⟩ (FK.set (FK.refl F H) e5) fun y hy=> .inl hy
theorem ok_TPair {cDraft cReading cWireError cBadRow cBadAnswer cPt cNk:Addr}{f:Addr}{fd:FuncData}(F:Fun K "take_pair" "Draft.take_pair" sTPair f fd)(T:Txt w K mg cDraft cReading cWireError cBadRow cBadAnswer cPt cNk):FnOk P w K mg base CX0 1 f fd ["self", "spot", "numbers"] (spTPair cDraft):=by
 have sc:FnScope ["self", "spot", "numbers"] ["self", "spot", "numbers"] (defScope sTPair):=⟨rfl,rfl,rfl,by decide+kernel,rfl,by decide+kernel,by decide+kernel⟩
 refine F.ok sc (fun vs H Q E h=>by repeat (first|(obtain⟨rfl,_⟩:=h;rfl)|(obtain⟨_,h⟩:=h))) (fun cdv A outer s H vs Q E hr h=>?_)
 obtain⟨a,t,v,b,s,n,F,d,rfl,h9,⟨dx,fs,lw,lh,hd,lc,ls,wx,ys,cs,zs,kvs,lv,x⟩,ht,hv,q⟩:=h
 refine⟨_,(pss_cons (ps_if (pw_or (pt_cmpR op_ne (pe_fld (pv 0) rfl) pe_str (nomark _)) (pw_or1 (pt_cmpR op_isN (pv 2) pe_non (nomark _)))).pt
 (pss_one (ps_ret pe_bl))
 pss_nil)
 (pss_cons (ps_dput (Room.one hr) (pe_fld (pv 0) rfl) (pv 1) (pe_tup (pa_cons (pe_ix ix_list (pv 2) pe_int (fun _ _=>rfl)) (pa_cons (pe_ix ix_list (pv 2) pe_int (fun _ _=>rfl)) pa_nil))) (by rfl))
 (pss_one (ps_ret pe_bl)))),?_⟩
 have hsz:sizeLine=2^24:=rfl
 have tk:=et_kne (K:=K) (j:=2) (ev_fl (ta:=tVar 0) (σ:=[some (.ref a),some (.ref t),some v]) (ev_var rfl) x.ha T.cl_Draft T.na_Draft_kind x.fk) x.k4 (by decide)
 cases ek:decide (d.kind=2) with
 |false=>
  rw[ek] at q tk
  exact sq_ifof (or_t tk (iteT (q H (FK.refl F H))))
 |true=>
  rw[ek] at q tk
  refine sq_ifof (or_f tk ?_)
  cases b with
  |false=>
   cases(show v=.non from hv)
   exact et_use (et_isT (ev_var rfl)) (iteT (q H (FK.refl F H)))
  |true=>
   obtain⟨p,xs,rfl,hp,h1⟩:=hv
   refine et_use (et_isF (ev_var rfl)) (iteF ?_)
   obtain⟨y,z,rfl⟩:∃y z,xs=[y,z]:=by
    match xs,h1 with
    |[y,z],_=>exact⟨y,z,rfl⟩
   refine sq_dputT (te_tup (vs:=[y,z]) (ea_cons (ev_ixL (v:=y) (ev_var rfl) ev_c (SqL.of hp) rfl) (ea_cons (ev_ixL (v:=z) (ev_var rfl) ev_c (SqL.of hp) rfl) ea_nil)) (by show 2≤sizeLine;decide) fun u nu=>?_)
   have s1:Same H (upd H u (.tup [y,z])):=(Same.refl H).upd nu
   revert s1
   generalize upd H u _=H1
   intro s1
   have x1:=x.same s1
   have n3:=x.n3
   refine ev_fl (ev_var rfl) x1.ha T.cl_Draft T.na_Draft_heights x1.fd _ ⟨_,rfl,hd,_,rfl,DPut.t x1.jd (iK_at (s1 _ _ ht)) (by omega),?_⟩
   exact q F _ ⟨dx,fs,lw,lh,hd,lc,ls,_,ys,cs,zs,_,lv,x1.pd (iK s) (.ref u)⟩ (FK.set (FK.of s1) x.md) fun y hy=> .inl hy
theorem ok_TCut {cDraft cReading cWireError cBadRow cBadAnswer cPt cNk:Addr}{f:Addr}{fd:FuncData}(F:Fun K "take_cut" "Draft.take_cut" sTCut f fd)(T:Txt w K mg cDraft cReading cWireError cBadRow cBadAnswer cPt cNk)(gSpotsT:Callee P w K mg base "spots_told" 3 ["words", "many"] (spSpotsT K)):FnOk P w K mg base CX0 4 f fd ["self", "words"] (spTCut cDraft):=by
 have sc:FnScope ["self", "words", "spots"] ["self", "words"] (defScope sTCut):=⟨rfl,rfl,rfl,by decide+kernel,rfl,by decide+kernel,by decide+kernel⟩
 refine F.ok sc (fun vs H Q E h=>by repeat (first|(obtain⟨rfl,_⟩:=h;rfl)|(obtain⟨_,h⟩:=h))) (fun cdv A outer s H vs Q E hr h=>?_)
 obtain⟨a,l,n,F,d,ws,rfl,h9,⟨dx,fs,lw,lh,hd,lc,ls,wx,ys,cs,zs,kvs,lv,x⟩,hw,hl,q⟩:=h
 refine⟨_,(pss_cons (ps_set (i:=2) sc.nd rfl (Or.inl rfl) (pe_cal gSpotsT (hr.mono (by decide)) (by rfl) (pa_cons (pv 1) (pa_cons pe_int pa_nil))))
 (pss_cons (ps_if (pw_or (pt_cmpR op_ne (pe_fld (pv 0) rfl) pe_str (nomark _)) (pw_or (pt_cmpR op_isN (pv 2) pe_non (nomark _)) (pw_or1 (pt_cmpR op_gt (pe_callB call_len (by rfl) T.len_ bt_len (pa_cons (pe_fld (pv 0) rfl) pa_nil)) pe_int (nomark _))))).pt
 (pss_one (ps_ret pe_bl))
 pss_nil)
 (pss_cons (ps_expr (pe_bm PySem.F.plainAttrs_list PySem.F.slot_list_extend PySem.F.type_list_extend mt_extend (pe_fld (pv 0) rfl) (pa_cons (pv 2) pa_nil)))
 (pss_one (ps_ret pe_bl))))),?_⟩
 have hsz:sizeLine=2^24:=rfl
 rw[cut_eq] at q
 refine sq_asg (te_cal (ea_cons (ev_var rfl) (ea_cons ev_c ea_nil)) ⟨l,ws,1,rfl,hw,fun v H1 s1 hv=>?_⟩)
 have x1:=x.same s1
 have tk:=et_kne (K:=K) (j:=4) (ev_fl (ta:=tVar 0) (σ:=[some (.ref a),some (.ref l),some v]) (ev_var rfl) x1.ha T.cl_Draft T.na_Draft_kind x1.fk) x.k4 (by decide)
 cases ek:decide (d.kind=4) with
 |false=>
  rw[ek] at q tk
  exact sq_ifof (or_t tk (iteT (q H1 (FK.of s1))))
 |true=>
  rw[ek] at q tk
  refine sq_ifof (or_f tk ?_)
  cases eo:okS (ws.map cp) 1 with
  |false=>
   rw[eo] at q hv
   cases(show v=.non from hv)
   exact or_t (et_isT (ev_var rfl)) (iteT (q H1 (FK.of s1)))
  |true=>
   rw[eo] at q hv
   obtain⟨p2,ps,rfl,np2,hp2,h2⟩:=hv
   refine or_f (et_isF (ev_var rfl)) (et_use (et_of (et_len0 (ev_fl (ev_var rfl) x1.ha T.cl_Draft T.na_Draft_spots x1.fp) x1.js) x.b3.symm) ?_)
   cases es:d.sp with
   |true=>rw[es] at q;exact iteT (q H1 (FK.of s1))
   |false=>
    rw[es] at q
    have n4:=x.n4
    refine iteF (te_bm (ev_fl (ev_var rfl) x1.ha T.cl_Draft T.na_Draft_cut x1.fc) (.inl ⟨rfl,_,SqL.of x1.jc⟩) ⟨_,rfl,lc,p2,cs,ps,rfl,rfl,x1.jc,hp2,by omega,?_⟩)
    exact q F _ ⟨dx,fs,lw,lh,hd,lc,ls,_,ys,_,zs,kvs,lv,x1.c ps h2⟩ (FK.set (FK.of s1) x.mc) fun y hy=> .inl hy
theorem ok_TSpot {cDraft cReading cWireError cBadRow cBadAnswer cPt cNk:Addr}{f:Addr}{fd:FuncData}(F:Fun K "take_spot" "Draft.take_spot" sTSpot f fd)(T:Txt w K mg cDraft cReading cWireError cBadRow cBadAnswer cPt cNk)(gSpotsT:Callee P w K mg base "spots_told" 3 ["words", "many"] (spSpotsT K)):FnOk P w K mg base CX0 4 f fd ["self", "words"] (spTSpot cDraft):=by
 have sc:FnScope ["self", "words", "spots"] ["self", "words"] (defScope sTSpot):=⟨rfl,rfl,rfl,by decide+kernel,rfl,by decide+kernel,by decide+kernel⟩
 refine F.ok sc (fun vs H Q E h=>by repeat (first|(obtain⟨rfl,_⟩:=h;rfl)|(obtain⟨_,h⟩:=h))) (fun cdv A outer s H vs Q E hr h=>?_)
 obtain⟨a,l,n,F,d,ws,rfl,h9,⟨dx,fs,lw,lh,hd,lc,ls,wx,ys,cs,zs,kvs,lv,x⟩,hw,hl,q⟩:=h
 refine⟨_,(pss_cons (ps_set (i:=2) sc.nd rfl (Or.inl rfl) (pe_cal gSpotsT (hr.mono (by decide)) (by rfl) (pa_cons (pv 1) (pa_cons pe_int pa_nil))))
 (pss_cons (ps_if (pw_or (pt_cmpR op_notIn_seq (pe_fld (pv 0) rfl) (pe_tup (pa_cons pe_str (pa_cons pe_str pa_nil))) (by with_unfolding_all rfl)) (pw_or1 (pt_cmpR op_isN (pv 2) pe_non (nomark _)))).pt
 (pss_one (ps_ret pe_bl))
 pss_nil)
 (pss_cons (ps_expr (pe_bm PySem.F.plainAttrs_list PySem.F.slot_list_extend PySem.F.type_list_extend mt_extend (pe_fld (pv 0) rfl) (pa_cons (pv 2) pa_nil)))
 (pss_one (ps_ret pe_bl))))),?_⟩
 have hsz:sizeLine=2^24:=rfl
 rw[spot_eq] at q
 refine sq_asg (te_cal (ea_cons (ev_var rfl) (ea_cons ev_c ea_nil)) ⟨l,ws,1,rfl,hw,fun v H1 s1 hv=>?_⟩)
 have x1:=x.same s1
 refine sq_ifof (or_c (kind_nin rfl x1.ha T.cl_Draft T.na_Draft_kind x1.fk x1.k4 fun p np=>?_))
 have s2:Same H1 (upd H1 p (.tup [.str (Str.ofString "shore"),.str (Str.ofString "cut")])):=(Same.refl H1).upd np
 revert s2
 generalize upd H1 p _=H2
 intro s2
 have x2:=x1.same s2
 have s12:=s1.trans s2
 cases ek:(decide (d.kind=3)||decide (d.kind=4)) with
 |false=>rw[ek] at q;exact iteT (iteT (q H2 (FK.of s12)))
 |true=>
  rw[ek] at q
  refine iteF ?_
  cases eo:okS (ws.map cp) 1 with
  |false=>
   rw[eo] at q hv
   cases(show v=.non from hv)
   exact et_use (et_isT (ev_var rfl)) (iteT (q H2 (FK.of s12)))
  |true=>
   rw[eo] at q hv
   obtain⟨p2,ps,rfl,np2,hp2,h2⟩:=hv
   have n5:=x.n5
   refine et_use (et_isF (ev_var rfl)) (iteF (te_bm (ev_fl (ev_var rfl) x2.ha T.cl_Draft T.na_Draft_spots x2.fp) (.inl ⟨rfl,_,SqL.of x2.js⟩) ⟨_,rfl,ls,p2,zs,ps,rfl,rfl,x2.js,s2 _ _ hp2,by omega,?_⟩))
   exact q F _ ⟨dx,fs,lw,lh,hd,lc,ls,_,ys,cs,_,kvs,lv,x2.s ps h2⟩ (FK.set (FK.of s12) x.ms) fun y hy=> .inl hy
theorem ok_TRow {cDraft cReading cWireError cBadRow cBadAnswer cPt cNk:Addr}{f:Addr}{fd:FuncData}(F:Fun K "take_row" "Draft.take_row" sTRow f fd)(T:Txt w K mg cDraft cReading cWireError cBadRow cBadAnswer cPt cNk)(gTStep:MCallee P w K mg base cDraft "take_step" 4 ["self", "words"] (spTStep cDraft))(gTHill:MCallee P w K mg base cDraft "take_hill" 4 ["self", "words"] (spTHill cDraft))(gTHeight:MCallee P w K mg base cDraft "take_height" 4 ["self", "words"] (spTHeight cDraft))(gTCut:MCallee P w K mg base cDraft "take_cut" 4 ["self", "words"] (spTCut cDraft))(gTSpot:MCallee P w K mg base cDraft "take_spot" 4 ["self", "words"] (spTSpot cDraft)):FnOk P w K mg base CX0 5 f fd ["self", "words"] (spTRow cDraft):=by
 have sc:FnScope ["self", "words"] ["self", "words"] (defScope sTRow):=⟨rfl,rfl,rfl,by decide+kernel,rfl,by decide+kernel,by decide+kernel⟩
 refine F.ok sc (fun vs H Q E h=>by repeat (first|(obtain⟨rfl,_⟩:=h;rfl)|(obtain⟨_,h⟩:=h))) (fun cdv A outer s H vs Q E hr h=>?_)
 obtain⟨a,l,n,F,d,ws,rfl,h9,⟨dx,fs,lw,lh,hd,lc,ls,wx,ys,cs,zs,kvs,lv,x⟩,hw,hl,hne,q⟩:=h
 refine⟨_,(pss_cons (ps_if (pt_cmpR op_eq (pe_ix ix_list (pv 1) pe_int (fun _ _=>rfl)) pe_str (nomark _))
 (pss_one (ps_ret (pe_met (pv 0) T.cl_Draft gTStep (hr.mono (by decide)) (pa_cons (pe_slice sl_list (pv 1) (po_some pe_int) po_none) pa_nil))))
 pss_nil)
 (pss_cons (ps_if (pt_cmpR op_eq (pe_ix ix_list (pv 1) pe_int (fun _ _=>rfl)) pe_str (nomark _))
 (pss_one (ps_ret (pe_met (pv 0) T.cl_Draft gTHill (hr.mono (by decide)) (pa_cons (pe_slice sl_list (pv 1) (po_some pe_int) po_none) pa_nil))))
 pss_nil)
 (pss_cons (ps_if (pt_cmpR op_eq (pe_ix ix_list (pv 1) pe_int (fun _ _=>rfl)) pe_str (nomark _))
 (pss_one (ps_ret (pe_met (pv 0) T.cl_Draft gTHeight (hr.mono (by decide)) (pa_cons (pe_slice sl_list (pv 1) (po_some pe_int) po_none) pa_nil))))
 pss_nil)
 (pss_cons (ps_if (pt_cmpR op_eq (pe_ix ix_list (pv 1) pe_int (fun _ _=>rfl)) pe_str (nomark _))
 (pss_one (ps_ret (pe_met (pv 0) T.cl_Draft gTCut (hr.mono (by decide)) (pa_cons (pe_slice sl_list (pv 1) (po_some pe_int) po_none) pa_nil))))
 pss_nil)
 (pss_cons (ps_if (pt_cmpR op_eq (pe_ix ix_list (pv 1) pe_int (fun _ _=>rfl)) pe_str (nomark _))
 (pss_one (ps_ret (pe_met (pv 0) T.cl_Draft gTSpot (hr.mono (by decide)) (pa_cons (pe_slice sl_list (pv 1) (po_some pe_int) po_none) pa_nil))))
 pss_nil)
 (pss_one (ps_ret pe_bl))))))),?_⟩
 obtain⟨w0,wr,rfl⟩:∃w0 wr,ws=w0::wr:=by cases ws with|nil=>exact absurd rfl hne|cons a r=>exact⟨a,r,rfl⟩
 have t0:∀s:String,EvT (tTest (tOp rEq (tOp (rIxL K) (tVar 1) (tC (.int 0))) (tC (.str (Str.ofString s))))) [some (.ref a),some (.ref l)] H (decide (cp w0=L s)):=fun s=>et_of (et_test (ev_eqS (ev_ixL (v:=.str w0) (ev_var rfl) ev_c (SqL.of hw.1) at0) ev_c)) dec_L
 have go:∀(s:String) (m:Str) (hm:m∈mtD),cp w0=L s→∀{E:XK},tMeth cDraft m (spTk cDraft s) [] E (tVar 0) (tCons (tSl (rSlL K) (tVar 1) (tPart (tC (.int 1))) tNoPart) tNil) [some (.ref a),some (.ref l)] H Q:=by
  intro s m hm e E
  refine⟨_,rfl,a,dx,fs,rfl,x.ha,x.no m hm,ta_one (te_slF (ev_var rfl) ev_c (SqL.of hw.1) fun p np=>?_)⟩
  rw[cut1 _ hne]
  have s1:Same H (upd H p (.lst ((w0::wr).tail.map V.str))):=(Same.refl H).upd np
  have hp:upd H p (.lst ((w0::wr).tail.map V.str)) p=some (.lst ((w0::wr).tail.map V.str)):=upd_same
  revert s1 hp
  generalize upd H p _=H1
  intro s1 hp
  refine⟨a,p,n,F,d,wr,rfl,h9,⟨dx,fs,lw,lh,hd,lc,ls,wx,ys,cs,zs,kvs,lv,x.same s1⟩,hw.tail hp,fun m=>?_,?_⟩
  ·obtain⟨o,eo⟩:=x.fm p m;rw[np] at eo;cases eo
  ·rw[List.map_cons,e] at q;exact tkD_fk q (FK.of s1)
 refine sq_if (t0 "step") (fun e=>go "step" _ (by decide+kernel) (of_decide_eq_true e)) fun e1=>?_
 refine sq_if (t0 "hill") (fun e=>go "hill" _ (by decide+kernel) (of_decide_eq_true e)) fun e2=>?_
 refine sq_if (t0 "at") (fun e=>go "at" _ (by decide+kernel) (of_decide_eq_true e)) fun e3=>?_
 refine sq_if (t0 "cut") (fun e=>go "cut" _ (by decide+kernel) (of_decide_eq_true e)) fun e4=>?_
 refine sq_if (t0 "spot") (fun e=>go "spot" _ (by decide+kernel) (of_decide_eq_true e)) fun e5=>?_
 have z:takeD d ((w0::wr).map cp)=none:=by
  rw[List.map_cons]
  unfold takeD
  dsimp only
  rw[if_neg (of_decide_eq_false e1),if_neg (of_decide_eq_false e2),if_neg (of_decide_eq_false e3),if_neg (of_decide_eq_false e4),if_neg (of_decide_eq_false e5)]
 rw[z] at q
 exact rd_ret ev_c (q H (FK.refl F H))
theorem ok_THeight {cDraft cReading cWireError cBadRow cBadAnswer cPt cNk:Addr}{f:Addr}{fd:FuncData}(F:Fun K "take_height" "Draft.take_height" sTHeight f fd)(T:Txt w K mg cDraft cReading cWireError cBadRow cBadAnswer cPt cNk)(gSpotIn:Callee P w K mg base "spot_in" 2 ["word"] spSpotIn)(gWholes:Callee P w K mg base "wholes_told" 3 ["words", "many"] (spWholes K))(gTHH:MCallee P w K mg base cDraft "take_hill_height" 1 ["self", "spot", "numbers"] (spTHH cDraft))(gTPair:MCallee P w K mg base cDraft "take_pair" 1 ["self", "spot", "numbers"] (spTPair cDraft)):FnOk P w K mg base CX0 4 f fd ["self", "words"] (spTHeight cDraft):=by
 have sc:FnScope ["self", "words", "spot"] ["self", "words"] (defScope sTHeight):=⟨rfl,rfl,rfl,by decide+kernel,rfl,by decide+kernel,by decide+kernel⟩
 refine F.ok sc (fun vs H Q E h=>by repeat (first|(obtain⟨rfl,_⟩:=h;rfl)|(obtain⟨_,h⟩:=h))) (fun cdv A outer s H vs Q E hr h=>?_)
 obtain⟨a,l,n,F,d,ws,rfl,h9,⟨dx,fs,lw,lh,hd,lc,ls,wx,ys,cs,zs,kvs,lv,x⟩,hw,hl,q⟩:=h
 refine⟨_,(pss_cons (ps_set (i:=2) sc.nd rfl (Or.inl rfl) (pe_ifExp (pt_cmpR op_gt (pe_callB call_len (by rfl) T.len_ bt_len (pa_cons (pv 1) pa_nil)) pe_int (nomark _)) (pe_cal gSpotIn (hr.mono (by decide)) (by rfl) (pa_cons (pe_ix ix_list (pv 1) pe_int (fun _ _=>rfl)) pa_nil)) pe_non))
 (pss_cons (ps_if (pw_or (pt_cmpR op_isN (pv 2) pe_non (nomark _)) (pw_or1 (pw_and (pt_cmpR op_notN (pe_fld (pv 0) rfl) pe_non (nomark _)) (pw_and1 (pt_cmpR (op_leTR hr) (pv 2) (pe_fld (pv 0) rfl) (nomark _)))).pt)).pt
 (pss_one (ps_ret pe_bl))
 pss_nil)
 (pss_cons (ps_fld (pv 0) (pv 2) rfl)
 (pss_cons (ps_if (pt_cmpR op_eq (pe_fld (pv 0) rfl) pe_str (nomark _))
 (pss_one (ps_ret (pe_met (pv 0) T.cl_Draft gTHH (hr.mono (by decide)) (pa_cons (pv 2) (pa_cons (pe_cal gWholes (hr.mono (by decide)) (by rfl) (pa_cons (pe_slice sl_list (pv 1) (po_some pe_int) po_none) (pa_cons pe_int pa_nil))) pa_nil)))))
 pss_nil)
 (pss_one (ps_ret (pe_met (pv 0) T.cl_Draft gTPair (hr.mono (by decide)) (pa_cons (pv 2) (pa_cons (pe_cal gWholes (hr.mono (by decide)) (by rfl) (pa_cons (pe_slice sl_list (pv 1) (po_some pe_int) po_none) (pa_cons pe_int pa_nil))) pa_nil))))))))),?_⟩
 have hsz:sizeLine=2^24:=rfl
 rw[at_eq] at q
 have tl:EvT (tTest (tOp (rI0 fun i j=> .bl (decide (j<i))) (tCB (fun xs H Q=>∃x n,xs=[x]∧LenV K x H n∧Q (.int n) H) (tCons (tVar 1) tNil)) (tC (.int 0)))) [some (.ref a),some (.ref l),none] H (!(ws.map V.str).isEmpty):=et_len0 (ev_var rfl) hw.1
 cases ws with
 |nil=>
  refine sq_asg (et_use tl (iteF ?_))
  exact sq_ifof (or_t (et_isT (ev_var rfl)) (iteT (q H (FK.refl F H))))
 |cons w0 wr=>
  refine sq_asg (et_use tl (iteT (te_cal (ea_cons (ev_ixL (v:=.str w0) (ev_var rfl) ev_c (SqL.of hw.1) at0) ea_nil) ⟨w0,rfl,hw.2.1 w0 List.mem_cons_self,?_⟩)))
  rw[List.map_cons] at q
  unfold takeA at q
  dsimp only at q
  cases es:spotP (cp w0) with
  |none=>
   rw[es] at q
   exact fun H1 s1=>sq_ifof (or_t (et_isT (ev_var rfl)) (iteT (q H1 (FK.of s1))))
  |some s=>
   rw[es] at q
   dsimp only at q⊢
   intro h3 t H1 s1 ht
   have x1:=x.same s1
   refine sq_ifof (or_f (et_isF (ev_var rfl)) ?_)
   have tt:EvT (tAnd (tTest (tOp (fun x y H Q=>y=.non∧Q (.bl (!decide (x=.non))) H) (tFld K (tVar 0) "last") (tC .non))) (tTest (tOp (rLeT K) (tVar 2) (tFld K (tVar 0) "last")))) [some (.ref a),some (.ref l),some (.ref t)] H1 (notB d.last s):=by
    have la:=x1.la
    cases el:d.last with
    |none=>
     rw[el] at la
     cases(show lv=.non from la)
     exact et_of (et_and (a:=false) (b:=false) (et_of (et_test (ev_notN (ev_fl (ev_var rfl) x1.ha T.cl_Draft T.na_Draft_last x1.fl) ev_c)) rfl) fun z=>nomatch z) rfl
    |some s0=>
     rw[el] at la
     obtain⟨u,rfl,hu,hu3⟩:=la
     exact et_of (et_and (a:=true) (et_of (et_test (ev_notN (ev_fl (ev_var rfl) x1.ha T.cl_Draft T.na_Draft_last x1.fl) ev_c)) rfl) fun _=>et_test fun Q' q'=>⟨_,rfl,ev_fl (ev_var rfl) x1.ha T.cl_Draft T.na_Draft_last x1.fl _ ⟨t,u,s,s0,rfl,rfl,SqT.of ht,SqT.of hu,by rw[h3,hu3],q'⟩⟩) rfl
   refine et_use tt ?_
   cases eb:(notB d.last s) with
   |true=>rw[eb] at q;exact iteT (q H1 (FK.of s1))
   |false=>
    rw[eb] at q
    refine iteF ⟨_,rfl,_,rfl,a,cDraft,dx,fs,rfl,x1.ha,T.cl_Draft,T.na_Draft_last,Nat.lt_of_le_of_lt x1.ln (by decide),?_⟩
    have x2:=x1.l (some s) (.ref t) ⟨t,rfl,ht,h3⟩
    have k2:FK F H (upd H1 a (.ins cDraft dx (putF "last" (.ref t) fs))):=FK.set (FK.of s1) x.ma
    have ht2:upd H1 a (.ins cDraft dx (putF "last" (.ref t) fs)) t=some (.tup (s.map V.int)):=by rw[upd_ne (ne_o ht x1.ha (fun z=>nomatch z))];exact ht
    have hw2:WAt (upd H1 a (.ins cDraft dx (putF "last" (.ref t) fs))) l (w0::wr):=⟨k2 _ _ hl hw.1,hw.2⟩
    revert x2 k2 ht2 hw2
    generalize upd H1 a _=H2
    generalize putF "last" (.ref t) fs=gs
    intro x2 k2 ht2 hw2
    have q2:=tkD_fk (r:=if d.kind=1 then (if (d.hl&&okN (wr.map cp) 1)=true then some {d with last:=some s} else none) else if (decide (d.kind=2)&&okN (wr.map cp) 2)=true then some {d with last:=some s,ht:=true} else none) q k2
    have tk:=et_keq (K:=K) (j:=1) (ev_fl (ta:=tVar 0) (σ:=[some (.ref a),some (.ref l),some (.ref t)]) (ev_var rfl) x2.ha T.cl_Draft T.na_Draft_kind x2.fk) x.k4 (by decide)
    have go:∀(m:Nat) {R:V→Hp→Prop},(∀v H4,Same H2 H4→Tl H2 H4 v m (okN (wr.map cp) m)→R v H4)→tCall (spWholes K) [] E0 (tCons (tSl (rSlL K) (tVar 1) (tPart (tC (.int 1))) tNoPart) (tCons (tC (.int (m:Nat))) tNil)) [some (.ref a),some (.ref l),some (.ref t)] H2 R:=by
     intro m R hR
     refine te_callA (ta_one (te_slF (ev_var rfl) ev_c (SqL.of hw2.1) fun p np=>?_))
     rw[cut1 _ (by simp)]
     have s3:Same H2 (upd H2 p (.lst ((w0::wr).tail.map V.str))):=(Same.refl H2).upd np
     have hp:upd H2 p (.lst ((w0::wr).tail.map V.str)) p=some (.lst ((w0::wr).tail.map V.str)):=upd_same
     revert s3 hp
     generalize upd H2 p _=H3
     intro s3 hp
     refine⟨p,wr,m,rfl,hw2.tail hp,fun v H4 s4 hv=>hR v H4 (s3.trans s4) ?_⟩
     cases eo:okN (wr.map cp) m with
     |false=>rw[eo] at hv;exact hv
     |true=>
      rw[eo] at hv
      obtain⟨p2,xs,e1,e2,e3⟩:=hv
      refine⟨p2,xs,e1,?_,e3⟩
      cases e:H2 p2 with
      |none=>rfl
      |some o=>rw[s3 _ _ e] at e2;cases e2
    have nm:∀{v:V} {H4:Hp} {m:Nat} {b:Bool},Tl H2 H4 v m b→NmA H4 v m b:=fun{v H4 m b} h=>by
     cases b with
     |false=>exact h
     |true=>obtain⟨p,xs,e1,_,e3,e4⟩:=h;exact⟨p,xs,e1,e3,e4⟩
    by_cases hk:d.kind=1
    ·rw[decide_eq_true hk] at tk
     rw[if_pos hk] at q2
     refine sq_if tk (fun _=>?_) fun z=>nomatch z
     refine⟨_,rfl,a,dx,gs,rfl,x2.ha,x2.no _ (by decide+kernel),⟨_,rfl,go 1 fun v H4 s4 hv=>?_⟩⟩
     exact⟨a,t,v,_,s,n,F,{d with last:=some s},rfl,h9,⟨dx,gs,lw,lh,hd,lc,ls,wx,ys,cs,zs,kvs,_,x2.same s4⟩,s4 _ _ ht2,nm hv,tkD_fk q2 (FK.of s4)⟩
    ·rw[decide_eq_false hk] at tk
     rw[if_neg hk] at q2
     refine sq_if tk (fun z=>nomatch z) fun _=>?_
     refine⟨_,rfl,a,dx,gs,rfl,x2.ha,x2.no _ (by decide+kernel),⟨_,rfl,go 2 fun v H4 s4 hv=>?_⟩⟩
     exact⟨a,t,v,_,s,n,F,{d with last:=some s},rfl,h9,⟨dx,gs,lw,lh,hd,lc,ls,wx,ys,cs,zs,kvs,_,x2.same s4⟩,s4 _ _ ht2,nm hv,tkD_fk q2 (FK.of s4)⟩
theorem tkR_fk {cR cD:Addr}{n:Nat}{F:List Addr}{H H1:Hp}{r:Addr}{o:Option Rs}{Q:VK}(q:tkR cR cD n F H r o Q)(k:FK F H H1):tkR cR cD n F H1 r o Q:=by
 cases o with
 |none=>exact fun H' k'=>q H' (k.trans k')
 |some d=>exact fun F' H' x k' m=>q F' H' x (k.trans k') fun y hy=>(m y hy).elim .inl (fk_none k)
theorem DrAt.mono {cD:Addr}{n m:Nat}{F:List Addr}{H:Hp}{a:Addr}{d:Dr}(x:DrAt cD n F H a d)(h:n≤m):DrAt cD m F H a d:=by
 obtain⟨dx,fs,lw,lh,hd,lc,ls,ws,ys,cs,zs,kvs,lv,x⟩:=x
 exact⟨dx,fs,lw,lh,hd,lc,ls,ws,ys,cs,zs,kvs,lv,x.mono h⟩
theorem DrAt.kept {cD:Addr}{n:Nat}{F:List Addr}{H H':Hp}{a:Addr}{d:Dr}(x:DrAt cD n F H a d)(s:∀b o,b∈F→H b=some o→H' b=some o)(t:∀b xs,H b=some (.tup xs)→H' b=some (.tup xs)):DrAt cD n F H' a d:=by
 obtain⟨dx,fs,lw,lh,hd,lc,ls,ws,ys,cs,zs,kvs,lv,x⟩:=x
 exact⟨dx,fs,lw,lh,hd,lc,ls,ws,ys,cs,zs,kvs,lv,x.kept s t⟩
theorem DrAt.fm {cD:Addr}{n:Nat}{F:List Addr}{H:Hp}{a:Addr}{d:Dr}(x:DrAt cD n F H a d):∀y∈F,∃o,H y=some o:=by
 obtain⟨dx,fs,lw,lh,hd,lc,ls,ws,ys,cs,zs,kvs,lv,x⟩:=x
 exact x.fm
section
variable {cR cD:Addr} {n:Nat} {F:List Addr} {H:Hp} {r:Addr} {st:Rs} {rx:Addr} {fs:List (Str×V)} {l:Addr} {ds:Nat→Addr} {ks:Nat→List (Key×V)} {x:Str}
theorem RdP.same {H':Hp}(y:RdP cR cD n F H r st rx fs l ds ks x)(s:Same H H'):RdP cR cD n F H' r st rx fs l ds ks x:=by
 refine{y with hr:=s _ _ y.hr,hl:=s _ _ y.hl,hd:=fun i hi=>⟨s _ _ (y.hd i hi).1,(y.hd i hi).2⟩,fm:=fun z hz=>let ⟨o,e⟩:=y.fm z hz;⟨o,s _ _ e⟩,dr:=?_}
 have d:=y.dr
 cases e:st.dr with
 |none=>rw[e] at d;exact d
 |some d'=>
  rw[e] at d
  obtain⟨a,G,h1,h2,h3⟩:=d
  exact⟨a,G,h1,h2.same s,h3⟩
theorem RdP.mono {m:Nat}(y:RdP cR cD n F H r st rx fs l ds ks x)(h:n≤m):RdP cR cD m F H r st rx fs l ds ks x:=by
 refine{y with hd:=fun i hi=>⟨(y.hd i hi).1,Nat.le_trans (y.hd i hi).2.1 h,(y.hd i hi).2.2⟩,dr:=?_}
 have d:=y.dr
 cases e:st.dr with
 |none=>rw[e] at d;exact d
 |some d'=>
  rw[e] at d
  obtain⟨a,G,h1,h2,h3⟩:=d
  exact⟨a,G,h1,h2.mono h,h3⟩
theorem RdP.dr_set (y:RdP cR cD n F H r st rx fs l ds ks x)(gs:List (Str×V)):match st.dr with
  |none=>valV (ks st.part) (.inr x)=none
  |some d=>∃a G,valV (ks st.part) (.inr x)=some (.ref a)∧DrAt cD n G (upd H r (.ins cR rx gs)) a d∧(∀y∈G,y∈F)∧r∉G∧l∉G∧∀i,i<3→ds i∉G:=by
 have d:=y.dr
 cases e:st.dr with
 |none=>rw[e] at d;exact d
 |some d'=>
  rw[e] at d
  obtain⟨a,G,h1,h2,h3,h4,h5⟩:=d
  exact⟨a,G,h1,h2.kept (fun b o m h=>by rw[upd_ne fun z=>h4 (by rw[←z];exact m)];exact h) (fun b xs h=>by rw[upd_ne (ne_o h y.hr (fun z=>nomatch z))];exact h),h3,h4,h5⟩
end
abbrev nkL:List (Key×V):=[(.inr (Str.ofString "tree"),.int 1),(.inr (Str.ofString "bundle"),.int 2),(.inr (Str.ofString "shore"),.int 0),(.inr (Str.ofString "cut"),.int 0)]
theorem nk_val (w:Str):valV nkL (.inr w)=(kindP (cp w)).map fun p=> .int (p.2:Nat):=by
 have e:∀s:String,decide ((Sum.inr (Str.ofString s):Key)=.inr w)=decide (cp w=L s):=fun s=>by
  rw[←dec_L]
  exact decide_eq_decide.mpr ⟨fun h=>(Sum.inr.inj h).symm,fun h=>by rw[h]⟩
 unfold valV kindP
 simp only[List.find?_cons,e]
 by_cases h1:cp w=L "tree"
 ·simp[h1]
 by_cases h2:cp w=L "bundle"
 ·rw[if_neg h1,if_pos h2,decide_eq_false h1,decide_eq_true h2];rfl
 by_cases h3:cp w=L "shore"
 ·rw[if_neg h1,if_neg h2,if_pos h3,decide_eq_false h1,decide_eq_false h2,decide_eq_true h3];rfl
 by_cases h4:cp w=L "cut"
 ·rw[if_neg h1,if_neg h2,if_neg h3,if_pos h4,decide_eq_false h1,decide_eq_false h2,decide_eq_false h3,decide_eq_true h4];rfl
 rw[if_neg h1,if_neg h2,if_neg h3,if_neg h4,decide_eq_false h1,decide_eq_false h2,decide_eq_false h3,decide_eq_false h4];rfl
theorem kind_str {w:Str}{k m:Nat}(h:kindP (cp w)=some (k,m)):w=kS k∧k≤4∧m≤2:=by
 unfold kindP at h
 have z:∀{s:String} {j:Nat},cp w=L s→kS j=Str.ofString s→w=kS j:=fun e1 e2=>str_cp (by rw[e1,e2,cp_L])
 split at h
 ·rename_i e;cases h;exact⟨z e rfl,by decide,by decide⟩
 split at h
 ·rename_i e;cases h;exact⟨z e rfl,by decide,by decide⟩
 split at h
 ·rename_i e;cases h;exact⟨z e rfl,by decide,by decide⟩
 split at h
 ·rename_i e;cases h;exact⟨z e rfl,by decide,by decide⟩
 cases h
theorem pS_laid {p:Nat}(h:p<3):decide (pS p=Str.ofString "laid")=decide (p=0):=by
 match p,h with
 |0,_|1,_|2,_=>decide+kernel
theorem mk_draft {cD:Addr}{H:Hp}{k:Nat}{v:V}{Q:VK}(h4:k≤4)(q:∀a F H',DrAt cD 0 F H' a (fresh k)→Same H H'→(∀x∈F,H x=none)→Q (.ref a) H'):∀x dx,H x=none→H dx=none→dx≠x→spDInit cD [.ref x,.str (kS k),v] (upd (upd H dx (.own x)) x (.ins cD dx [])) (fun v H2=>v=.non∧Q (.ref x) H2) E0:=by
 intro x dx nx nd ne
 have sm:Same H (upd (upd H dx (.own x)) x (.ins cD dx [])):=same_make nx nd
 refine⟨x,dx,k,v,rfl,h4,upd_same,fun F H' d f m=>⟨rfl,q x F H' d (FK.same f sm fun y hy=>by rw[List.mem_singleton.mp hy];exact nx) fun y hy=>?_⟩⟩
 rcases m y hy with e|e
 ·rw[e];exact nx
 ·cases h:H y with
  |none=>rfl
  |some o=>rw[sm _ _ h] at e;cases e
theorem ok_DTold {cDraft cReading cWireError cBadRow cBadAnswer cPt cNk:Addr}{f:Addr}{fd:FuncData}(F:Fun K "draft_told" "draft_told" sDTold f fd)(T:Txt w K mg cDraft cReading cWireError cBadRow cBadAnswer cPt cNk)(gWholes:Callee P w K mg base "wholes_told" 3 ["words", "many"] (spWholes K))(gDInit:KCallee P w K mg base cDraft "Draft" 1 ["self", "kind", "numbers"] (spDInit cDraft)):FnOk P w K mg base CX0 4 f fd ["part", "words"] (spDTold cDraft):=by
 have sc:FnScope ["part", "words", "numbers"] ["part", "words"] (defScope sDTold):=⟨rfl,rfl,rfl,by decide+kernel,rfl,by decide+kernel,by decide+kernel⟩
 refine F.ok sc (fun vs H Q E h=>by repeat (first|(obtain⟨rfl,_⟩:=h;rfl)|(obtain⟨_,h⟩:=h))) (fun cdv A outer s H vs Q E hr h=>?_)
 obtain⟨l,p,ws,rfl,hp,hw,q⟩:=h
 refine⟨_,(pss_cons (ps_if (pt_cmpR op_eq (pv 0) pe_str (nomark _))
 (pss_one (ps_ret (pe_ifExp (pt_cmpR op_eq (pe_callB call_len (by rfl) T.len_ bt_len (pa_cons (pv 1) pa_nil)) pe_int (nomark _)) (pe_mk gDInit (hr.mono (by decide)) (by rfl) (pa_cons pe_str (pa_cons (pe_lst pa_nil) pa_nil))) pe_non)))
 pss_nil)
 (pss_cons (ps_if (pw_or (pt_cmpR op_eq (pe_callB call_len (by rfl) T.len_ bt_len (pa_cons (pv 1) pa_nil)) pe_int (nomark _)) (pw_or1 (pt_cmp (pc_dnotinK T.d_NUMBERS_OF_KINDS (pe_ix ix_list (pv 1) pe_int (fun _ _=>rfl)) (pe_const (by rfl) (by exact T.g_NUMBERS_OF_KINDS)))))).pt
 (pss_one (ps_ret pe_non))
 pss_nil)
 (pss_cons (ps_set (i:=2) sc.nd rfl (Or.inl rfl) (pe_cal gWholes (hr.mono (by decide)) (by rfl) (pa_cons (pe_slice sl_list (pv 1) (po_some pe_int) po_none) (pa_cons (pe_dgetK T.d_NUMBERS_OF_KINDS (pe_const (by rfl) (by exact T.g_NUMBERS_OF_KINDS)) (pe_ix ix_list (pv 1) pe_int (fun _ _=>rfl)) (fun _ _=>rfl)) pa_nil))))
 (pss_one (ps_ret (pe_ifExp (pt_cmpR op_isN (pv 2) pe_non (nomark _)) pe_non (pe_mk gDInit (hr.mono (by decide)) (by rfl) (pa_cons (pe_ix ix_list (pv 1) pe_int (fun _ _=>rfl)) (pa_cons (pv 2) pa_nil))))))))),?_⟩
 have hsz:sizeLine=2^24:=rfl
 have tl:∀{σ:St},σ[1]?=some (some (.ref l))→EvT (tTest (tOp rEq (tCB (fun xs H Q=>∃x n,xs=[x]∧LenV K x H n∧Q (.int n) H) (tCons (tVar 1) tNil)) (tC (.int 0)))) σ H (ws.map cp).isEmpty:=fun h=>et_of (et_test (ev_eqI (ev_len (ev_var h) hw.1) ev_c)) (by rw[←len0,List.length_map,List.length_map];exact decide_eq_decide.mpr (by omega))
 refine sq_if (et_of (et_test (ev_eqS (ev_var rfl) ev_c)) (pS_laid hp)) (fun e=>?_) fun e=>?_
 ·have e:=of_decide_eq_true e
  subst e
  unfold draftP at q
  rw[if_pos rfl] at q
  refine et_use (tl rfl) ?_
  cases ee:(ws.map cp).isEmpty with
  |false=>rw[ee] at q;exact iteF (q H (Same.refl H))
  |true=>
   rw[ee] at q
   refine iteT (ta_ev ev_c (ta_one (te_lst (vs:=[]) ea_nil (by show 0≤sizeLine;decide) fun p np=>?_)))
   have s1:Same H (upd H p (.lst [])):=(Same.refl H).upd np
   revert s1
   generalize upd H p _=H1
   intro s1
   exact mk_draft (k:=0) (by decide) fun a F H' d s m=>q a F H' d (s1.trans s) fun x hx=>by
    cases h:H x with
    |none=>rfl
    |some o=>have:=m x hx;rw[s1 _ _ h] at this;cases this
 ·have e:=of_decide_eq_false e
  unfold draftP at q
  rw[if_neg e] at q
  cases ws with
  |nil=>exact sq_ifof (or_t (et_of (tl rfl) rfl) (iteT (q H (Same.refl H))))
  |cons w0 wr=>
   rw[List.map_cons] at q
   dsimp only at q
   refine sq_ifof (or_f (et_of (tl rfl) rfl) ?_)
   have i0:Ev (tOp (rIxL K) (tVar 1) (tC (.int 0))) [some (.str (pS p)),some (.ref l),none] H (.str w0):=ev_ixL (ev_var rfl) ev_c (SqL.of hw.1) at0
   refine et_use (b:=!(kindP (cp w0)).isSome) (et_test fun Q' q'=>i0 _ ⟨.inr w0,rfl,?_⟩) ?_
   ·rw[nk_val,Option.isSome_map];exact q'
   cases ek:kindP (cp w0) with
   |none=>rw[ek] at q;exact iteT (q H (Same.refl H))
   |some km=>
    obtain⟨k,m⟩:=km
    rw[ek] at q
    dsimp only at q
    obtain⟨ew,hk,hm⟩:=kind_str ek
    refine iteF (sq_asg (te_callA (ta_one (te_slF (ev_var rfl) ev_c (SqL.of hw.1) fun p2 np=>?_))))
    rw[cut1 _ (by simp)]
    have s1:Same H (upd H p2 (.lst ((w0::wr).tail.map V.str))):=(Same.refl H).upd np
    have hp2:upd H p2 (.lst ((w0::wr).tail.map V.str)) p2=some (.lst ((w0::wr).tail.map V.str)):=upd_same
    revert s1 hp2
    generalize upd H p2 _=H1
    intro s1 hp2
    refine ta_one (ev_ixL (v:=.str w0) (ev_var rfl) ev_c (SqL.of (s1 _ _ hw.1)) at0 _ ⟨.inr w0,.int (m:Nat),rfl,by rw[nk_val,ek];rfl,?_⟩)
    refine⟨p2,wr,m,rfl,hw.tail hp2,fun v H2 s2 hv=>?_⟩
    have s12:=s1.trans s2
    cases eo:okN (wr.map cp) m with
    |false=>
     rw[eo] at q hv
     cases(show v=.non from hv)
     exact rd_te (et_use (et_isT (ev_var rfl)) (iteT (q H2 s12)))
    |true=>
     rw[eo] at q hv
     obtain⟨p3,xs,rfl,_,hp3,_⟩:=hv
     refine rd_te (et_use (et_isF (ev_var rfl)) (iteF ?_))
     refine te_make (ea_cons (ev_ixL (v:=.str w0) (ev_var rfl) ev_c (SqL.of (s12 _ _ hw.1)) at0) (ea_cons (ev_var rfl) ea_nil)) ?_
     rw[ew]
     exact mk_draft hk fun a F H' d s m=>q a F H' d (s12.trans s) fun x hx=>by
      cases h:H x with
      |none=>rfl
      |some o=>have:=m x hx;rw[s12 _ _ h] at this;cases this
theorem eqvA_strs:∀(a b:List Str),PyData.eqvAll (a.map PyData.str) (b.map PyData.str)=decide (a=b)
 |[],[]=>rfl
 |[],_::_=>rfl
 |_::_,[]=>rfl
 |x::a,y::b=>by
  show(x==y&&PyData.eqvAll (a.map PyData.str) (b.map PyData.str))=_
  rw[eqvA_strs a b]
  by_cases h1:x=y
  ·by_cases h2:a=b
   ·rw[decide_eq_true h2,beq_iff_eq.mpr h1,decide_eq_true (by rw[h1,h2])];rfl
   ·rw[decide_eq_false h2,decide_eq_false (fun z=>h2 (List.cons.inj z).2)];simp
  ·rw[beq_eq_false_iff_ne.mpr h1,decide_eq_false (fun z=>h1 (List.cons.inj z).1)];rfl
theorem eqv_strs (a b:List Str):PyData.eqv (.list (a.map PyData.str)) (.list (b.map PyData.str))=decide (a=b):=eqvA_strs a b
theorem strOk_of {w:Str}(h:Pl w):PyData.strOk w=true:=by
 unfold PyData.strOk
 rw[Array.all_eq_true]
 intro i hi
 have:=h.mem _ (show w.cps[i]∈cp w by simp[cp])
 exact decide_eq_true (by omega)
theorem ok_RInit {cDraft cReading cWireError cBadRow cBadAnswer cPt cNk:Addr}{f:Addr}{fd:FuncData}(F:Fun K "__init__" "Reading.__init__" sRInit f fd)(T:Txt w K mg cDraft cReading cWireError cBadRow cBadAnswer cPt cNk):FnOk P w K mg base CX0 1 f fd ["self"] (spRInit cReading):=by
 have sc:FnScope ["self"] ["self"] (defScope sRInit):=⟨rfl,rfl,rfl,by decide+kernel,rfl,by decide+kernel,by decide+kernel⟩
 refine F.ok sc (fun vs H Q E h=>by repeat (first|(obtain⟨rfl,_⟩:=h;rfl)|(obtain⟨_,h⟩:=h))) (fun cdv A outer s H vs Q E hr h=>?_)
 obtain⟨r,rx,rfl,hr0,q⟩:=h
 refine⟨_,(pss_cons (ps_fld (pv 0) pe_non rfl)
 (pss_cons (ps_fld (pv 0) pe_int rfl)
 (pss_cons (ps_fld (pv 0) pe_str rfl)
 (pss_one (ps_fld (pv 0) (pe_lst (pa_cons pe_dnewE (pa_cons pe_dnewE (pa_cons pe_dnewE pa_nil)))) rfl))))),?_⟩
 refine⟨_,rfl,r,cReading,rx,[],rfl,hr0,T.cl_Reading,T.na_Reading_rested,(by decide),?_⟩
 have g:=fld_set (H:=H) (a:=r) (dx:=rx) (C:=cReading) (gs:=putF "rested" .non [])
 revert g
 generalize upd H r _=H1
 rintro⟨ha1,k1⟩
 refine⟨_,rfl,r,cReading,rx,_,rfl,ha1,T.cl_Reading,T.na_Reading_part,Nat.lt_of_le_of_lt (lp1 (Nat.le_refl 0)) (by decide),?_⟩
 have g:=fld_set (H:=H1) (a:=r) (dx:=rx) (C:=cReading) (gs:=putF "part" (.int 0) (putF "rested" .non []))
 revert g
 generalize upd H1 r _=H2
 rintro⟨ha2,k2⟩
 refine⟨_,rfl,r,cReading,rx,_,rfl,ha2,T.cl_Reading,T.na_Reading_name,Nat.lt_of_le_of_lt (lp1 (lp1 (Nat.le_refl 0))) (by decide),?_⟩
 have g:=fld_set (H:=H2) (a:=r) (dx:=rx) (C:=cReading) (gs:=putF "name" (.str (Str.ofString "")) (putF "part" (.int 0) (putF "rested" .non [])))
 revert g
 generalize upd H2 r _=H3
 rintro⟨ha3,k3⟩
 refine fun d0 n0=> .inl fun d1 n1=> .inl fun d2 n2=> .inl ⟨(by show 3≤sizeLine;decide),fun l nl=>⟨_,rfl,r,cReading,rx,putF "name" (.str (Str.ofString "")) (putF "part" (.int 0) (putF "rested" .non [])),rfl,?_,T.cl_Reading,T.na_Reading_drafts,?_,?_⟩⟩
 ·have s:Same H3 (upd (upd (upd (upd H3 d0 (.dK [])) d1 (.dK [])) d2 (.dK [])) l (.lst [.ref d0,.ref d1,.ref d2])):=((((Same.refl H3).upd n0).upd n1).upd n2).upd nl
  exact s _ _ ha3
 ·exact Nat.lt_of_le_of_lt (lp1 (lp1 (lp1 (Nat.le_refl 0)))) (by decide)
 have s:Same H3 (upd (upd (upd (upd H3 d0 (.dK [])) d1 (.dK [])) d2 (.dK [])) l (.lst [.ref d0,.ref d1,.ref d2])):=((((Same.refl H3).upd n0).upd n1).upd n2).upd nl
 have e0:upd H3 d0 (.dK []) d0=some (.dK []):=upd_same
 have e01:d0≠d1:=fk_ne e0 n1
 have e0':upd (upd H3 d0 (.dK [])) d1 (.dK []) d0=some (.dK []):=by rw[upd_ne e01];exact e0
 have e1:upd (upd H3 d0 (.dK [])) d1 (.dK []) d1=some (.dK []):=upd_same
 have e02:d0≠d2:=fk_ne e0' n2
 have e12:d1≠d2:=fk_ne e1 n2
 have f0:upd (upd (upd (upd H3 d0 (.dK [])) d1 (.dK [])) d2 (.dK [])) l (.lst [.ref d0,.ref d1,.ref d2]) d0=some (.dK []):=by
  have z:upd (upd (upd H3 d0 (.dK [])) d1 (.dK [])) d2 (.dK []) d0=some (.dK []):=by rw[upd_ne e02];exact e0'
  rw[upd_ne (fk_ne z nl)];exact z
 have f1:upd (upd (upd (upd H3 d0 (.dK [])) d1 (.dK [])) d2 (.dK [])) l (.lst [.ref d0,.ref d1,.ref d2]) d1=some (.dK []):=by
  have z:upd (upd (upd H3 d0 (.dK [])) d1 (.dK [])) d2 (.dK []) d1=some (.dK []):=by rw[upd_ne e12];exact e1
  rw[upd_ne (fk_ne z nl)];exact z
 have f2:upd (upd (upd (upd H3 d0 (.dK [])) d1 (.dK [])) d2 (.dK [])) l (.lst [.ref d0,.ref d1,.ref d2]) d2=some (.dK []):=by
  have z:upd (upd (upd H3 d0 (.dK [])) d1 (.dK [])) d2 (.dK []) d2=some (.dK []):=upd_same
  rw[upd_ne (fk_ne z nl)];exact z
 have fl:upd (upd (upd (upd H3 d0 (.dK [])) d1 (.dK [])) d2 (.dK [])) l (.lst [.ref d0,.ref d1,.ref d2]) l=some (.lst [.ref d0,.ref d1,.ref d2]):=upd_same
 have old:∀{x:Addr},H3 x=none→x=r∨H x=none:=fun{x} hx=>by
  by_cases z:x=r
  ·exact .inl z
  ·refine .inr ?_
   cases e:H x with
   |none=>rfl
   |some o=>have:=((k1.trans k2).trans k3) x o (fun m=>z (List.mem_singleton.mp m)) e;rw[hx] at this;cases this
 have o0:=old n0
 have o1:d1=r∨H d1=none:=old (by rw[upd_ne e01.symm] at n1;exact n1)
 have o2:d2=r∨H d2=none:=old (by rw[upd_ne e12.symm,upd_ne e02.symm] at n2;exact n2)
 have ol:l=r∨H l=none:=old (by
  cases e:H3 l with
  |none=>rfl
  |some o=>
   have z:Same H3 (upd (upd (upd H3 d0 (.dK [])) d1 (.dK [])) d2 (.dK [])):=(((Same.refl H3).upd n0).upd n1).upd n2
   have:=z l o e
   rw[nl] at this;cases this)
 revert s f0 f1 f2 fl
 generalize upd (upd (upd (upd H3 d0 _) d1 _) d2 _) l _=H4
 intro s f0 f1 f2 fl
 have g:=fld_set (H:=H4) (a:=r) (dx:=rx) (C:=cReading) (gs:=putF "drafts" (.ref l) (putF "name" (.str (Str.ofString "")) (putF "part" (.int 0) (putF "rested" .non []))))
 revert g
 generalize upd H4 r _=H5
 rintro⟨ha5,k5⟩
 have ha4:=s _ _ ha3
 have nr:∀{x:Addr} {o:HO},H4 x=some o→(∀C D f,o≠.ins C D f)→x∉[r]:=fun h n m=>by rw[List.mem_singleton.mp m,ha4] at h;exact n _ _ _ (Option.some.inj h).symm
 have g0:=k5 _ _ (nr f0 fun _ _ _ z=>nomatch z) f0
 have g1:=k5 _ _ (nr f1 fun _ _ _ z=>nomatch z) f1
 have g2:=k5 _ _ (nr f2 fun _ _ _ z=>nomatch z) f2
 have gl:=k5 _ _ (nr fl fun _ _ _ z=>nomatch z) fl
 refine q cDraft [r,l,d0,d1,d2] H5 ⟨rx,putF "drafts" (.ref l) (putF "name" (.str (Str.ofString "")) (putF "part" (.int 0) (putF "rested" .non []))),l,fun i=>if i=0 then d0 else if i=1 then d1 else d2,fun _=>[],Str.ofString "",?_⟩ (((k1.trans k2).trans k3).trans ((FK.of s).trans k5)) ?_
 ·exact{
   hr:=ha5
   ln:=Nat.le_trans (lp1 (lp1 (lp1 (lp1 (Nat.le_refl 0))))) (by decide)
   no:=look_no (ks:=["rested", "part", "name", "drafts"]) (by kernel_rfl) (by decide+kernel)
   fr:=by show List.lookup _ _=_;kernel_rfl
   fp:=by kernel_rfl
   fn:=by kernel_rfl
   fd:=by kernel_rfl
   hx:=by decide+kernel
   p3:=by decide
   hl:=gl
   hd:=fun i hi=>by
    match i,hi with
    |0,_=>exact⟨g0,Nat.le_refl _,by simp⟩
    |1,_=>exact⟨g1,Nat.le_refl _,by simp⟩
    |2,_=>exact⟨g2,Nat.le_refl _,by simp⟩
   di:=fun i j hi hj h=>by
    match i,hi,j,hj with
    |0,_,0,_=>exact absurd rfl h
    |0,_,1,_=>exact e01
    |0,_,2,_=>exact e02
    |1,_,0,_=>exact e01.symm
    |1,_,1,_=>exact absurd rfl h
    |1,_,2,_=>exact e12
    |2,_,0,_=>exact e02.symm
    |2,_,1,_=>exact e12.symm
    |2,_,2,_=>exact absurd rfl h
   mr:=by simp
   ml:=by simp
   fm:=fun y hy=>by
    simp only[List.mem_cons,List.not_mem_nil,or_false] at hy
    rcases hy with rfl|rfl|rfl|rfl|rfl<;>exact⟨_,by assumption⟩
   dr:=rfl}
 ·intro y hy
  simp only[List.mem_cons,List.not_mem_nil,or_false] at hy
  rcases hy with rfl|rfl|rfl|rfl|rfl
  ·exact .inl rfl
  ·exact ol
  ·exact o0
  ·exact o1
  ·exact o2
theorem ok_TFirst {cDraft cReading cWireError cBadRow cBadAnswer cPt cNk:Addr}{f:Addr}{fd:FuncData}(F:Fun K "take_first" "Reading.take_first" sTFirst f fd)(T:Txt w K mg cDraft cReading cWireError cBadRow cBadAnswer cPt cNk):FnOk P w K mg base CX0 1 f fd ["self", "words"] (spTFirst cReading cDraft):=by
 have sc:FnScope ["self", "words"] ["self", "words"] (defScope sTFirst):=⟨rfl,rfl,rfl,by decide+kernel,rfl,by decide+kernel,by decide+kernel⟩
 refine F.ok sc (fun vs H Q E h=>by repeat (first|(obtain⟨rfl,_⟩:=h;rfl)|(obtain⟨_,h⟩:=h))) (fun cdv A outer s H vs Q E hr h=>?_)
 obtain⟨r,l,n,F,st,ws,rfl,h9,⟨rx,fs,dl,ds,ks,x,y⟩,hw,hl,hf,hne,q⟩:=h
 refine⟨_,(pss_cons (ps_if (pw_and (pt_cmpR (op_neD hr) (pv 1) (pe_lst (pa_cons pe_str (pa_cons pe_str pa_nil))) (nomark _)) (pw_and1 (pt_cmpR (op_neD hr) (pv 1) (pe_lst (pa_cons pe_str (pa_cons pe_str pa_nil))) (nomark _)))).pt
 (pss_one (ps_ret pe_bl))
 pss_nil)
 (pss_cons (ps_fld (pv 0) (pe_cmpR op_eq (pe_ix ix_list (pv 1) pe_int (fun _ _=>rfl)) pe_str (nomark _)) rfl)
 (pss_one (ps_ret pe_bl)))),?_⟩
 have hsz:sizeLine=2^24:=rfl
 have ok:∀w∈ws,PyData.strOk w=true:=fun w h=>strOk_of (hw.2.1 w h)
 unfold takeR at q
 rw[if_pos hf] at q
 have tst:∀(s:String) {σ:St} {H1:Hp} {Q:Bool→Hp→Prop},PyData.strOk (Str.ofString s)=true→σ[1]?=some (some (.ref l))→H1 l=some (.lst (ws.map V.str))→(∀p,H1 p=none→Q (!decide (ws.map cp=[L "answer",L s])) (upd H1 p (.lst [.str (Str.ofString "answer"),.str (Str.ofString s)])))→tTest (tOp (rNeD K) (tVar 1) (tLst (tCons (tC (.str (Str.ofString "answer"))) (tCons (tC (.str (Str.ofString s))) tNil)))) σ H1 Q:=by
  intro s σ H1 Q so h1 hl1 hq
  refine⟨_,h1,(by show 2≤sizeLine;decide),fun p np=>?_⟩
  have hlp:upd H1 p (.lst [.str (Str.ofString "answer"),.str (Str.ofString s)]) l=some (.lst (ws.map V.str)):=by rw[upd_ne (fk_ne hl1 np)];exact hl1
  refine⟨.list (ws.map PyData.str),.list (([Str.ofString "answer",Str.ofString s]).map PyData.str),.lst (SqL.of hlp) (dps_strs ok),.lst (SqL.of upd_same) (dps_strs (ws:=[Str.ofString "answer",Str.ofString s]) fun w h=>?_),depth_strs _,_,rfl,?_⟩
  ·rcases List.mem_cons.mp h with rfl|h
   ·decide+kernel
   ·rw[List.mem_singleton.mp h];exact so
  ·rw[eqv_strs]
   have:=hq p np
   rw[show decide (ws=[Str.ofString "answer",Str.ofString s])=decide (ws.map cp=[L "answer",L s]) from decide_eq_decide.mpr ⟨fun h=>by rw[h];simp[cp_L],fun h=>str_of (by rw[h];simp[cp_L])⟩]
   exact this
 refine sq_ifof ?_
 refine tst "rested" (by decide+kernel) rfl hw.1 fun p np=>?_
 have s1:Same H (upd H p (.lst [.str (Str.ofString "answer"),.str (Str.ofString "rested")])):=(Same.refl H).upd np
 revert s1
 generalize upd H p _=H1
 intro s1
 have fin:∀(H3:Hp),Same H H3→(ws.map cp=[L "answer",L "rested"]∨ws.map cp=[L "answer",L "open"])→tSeq (sFld K (tVar 0) (tOp rEq (tOp (rIxL K) (tVar 1) (tC (.int 1))) (tC (.str (Str.ofString "rested")))) "rested") (tRet (tC (.bl true))) {nx:=fun _ H'=>Q .non H',rt:=Q} [some (.ref r),some (.ref l)] H3:=by
  intro H3 s3 e
  rw[if_pos e] at q
  obtain⟨w0,w1,rfl⟩:∃w0 w1,ws=[w0,w1]:=by
   have hl:ws.length=2:=by
    have:(ws.map cp).length=2:=by rcases e with e|e<;>rw[e]<;>rfl
    rw[List.length_map] at this;exact this
   match ws,hl with
   |[a,b],_=>exact⟨a,b,rfl⟩
  have y3:=y.same s3
  refine ev_eqS (ev_ixL (v:=.str w1) (ev_var rfl) ev_c (SqL.of (s3 _ _ hw.1)) rfl) ev_c _ ⟨_,rfl,r,cReading,rx,fs,rfl,y3.hr,T.cl_Reading,T.na_Reading_rested,Nat.lt_of_le_of_lt y3.ln (by decide),?_⟩
  obtain⟨u,hu⟩:∃u,fs.lookup ("rested" :Str)=some u:=by
   have:=y.fr
   rw[hf] at this
   exact⟨_,this⟩
  refine q F _ ⟨rx,putF "rested" (.bl (decide (w1=Str.ofString "rested"))) fs,dl,ds,ks,x,?_⟩ (FK.set (FK.of s3) y.mr) fun z hz=> .inl hz
  have up:∀{z o},z≠r→H3 z=some o→upd H3 r (.ins cReading rx (putF "rested" (.bl (decide (w1=Str.ofString "rested"))) fs)) z=some o:=fun h e=>by rw[upd_ne h];exact e
  have y4:=y3.mono (Nat.le_succ n)
  exact{y4 with
   hr:=upd_same
   ln:=by rw[putF_len hu];exact y.ln
   no:=look_put y.no (by decide+kernel)
   fr:=by
    show∃b,_
    exact⟨_,by rw[lookup_putF,if_pos rfl]⟩
   fp:=by rw[lookup_putF,if_neg (by decide+kernel)];exact y.fp
   fn:=by rw[lookup_putF,if_neg (by decide+kernel)];exact y.fn
   fd:=by rw[lookup_putF,if_neg (by decide+kernel)];exact y.fd
   hl:=up (ne_o y3.hl y3.hr (fun z=>nomatch z)) y3.hl
   hd:=fun i hi=>⟨up (ne_o (y4.hd i hi).1 y3.hr (fun z=>nomatch z)) (y4.hd i hi).1,(y4.hd i hi).2⟩
   fm:=some_upd y4.fm
   dr:=y4.dr_set _}
 cases e1:decide (ws.map cp=[L "answer",L "rested"]) with
 |true=>exact iteF (iteF (fin H1 s1 (.inl (of_decide_eq_true e1))))
 |false=>
  refine iteT ?_
  refine tst "open" (by decide+kernel) rfl (s1 _ _ hw.1) fun p2 np2=>?_
  have s2:Same H1 (upd H1 p2 (.lst [.str (Str.ofString "answer"),.str (Str.ofString "open")])):=(Same.refl H1).upd np2
  revert s2
  generalize upd H1 p2 _=H2
  intro s2
  cases e2:decide (ws.map cp=[L "answer",L "open"]) with
  |true=>exact iteF (fin H2 (s1.trans s2) (.inr (of_decide_eq_true e2)))
  |false=>
   rw[if_neg fun z=>z.elim (of_decide_eq_false e1) (of_decide_eq_false e2)] at q
   exact iteT (q H2 (FK.of (s1.trans s2)))
theorem asc_of {w:Str}(h:Pl w):Asc w:=⟨h.as,h.ln⟩
theorem lt_cp (x y:Str):decide (x.cps.toList<y.cps.toList)=decide (cp x<cp y):=rfl
section
variable {cR cD:Addr} {n:Nat} {F:List Addr} {H:Hp} {r:Addr} {st:Rs} {rx:Addr} {fs:List (Str×V)} {l:Addr} {ds:Nat→Addr} {ks:Nat→List (Key×V)} {x:Str}
theorem RdP.head (y:RdP cR cD n F H r st rx fs l ds ks x){G:List Addr}{a:Addr}{d:Dr}{p:Nat}{w:Str}(hp:p<3)(hG:DrAt cD 0 G H a d)(nr:r∉G)(nl:l∉G)(nd:∀i,i<3→ds i∉G):
  RdP cR cD (n+1) (G++F) (upd (upd (upd H r (.ins cR rx (putF "part" (.int (p:Nat)) fs))) r (.ins cR rx (putF "name" (.str w) (putF "part" (.int (p:Nat)) fs)))) (ds p) (.dK (putK (ks p) (.inr w) (.ref a)))) r ⟨st.fst,p,cp w,some d⟩ rx (putF "name" (.str w) (putF "part" (.int (p:Nat)) fs)) l ds (fun i=>if i=p then putK (ks p) (.inr w) (.ref a) else ks i) w:=by
 have up:∀{z o},z≠r→z≠ds p→H z=some o→upd (upd (upd H r (.ins cR rx (putF "part" (.int (p:Nat)) fs))) r (.ins cR rx (putF "name" (.str w) (putF "part" (.int (p:Nat)) fs)))) (ds p) (.dK (putK (ks p) (.inr w) (.ref a))) z=some o:=fun h1 h2 e=>by rw[upd_ne h2,upd_ne h1,upd_ne h1];exact e
 have hdp:=(y.hd p hp).1
 have rd:∀i,i<3→r≠ds i:=fun i hi=>ne_o y.hr (y.hd i hi).1 (fun z=>nomatch z)
 have mem:∀z,z∈F→z∈G++F:=fun z h=>List.mem_append_right _ h
 exact{
  hr:=by rw[upd_ne (rd p hp),upd_same]
  ln:=by
   have e1:(putF "part" (.int (p:Nat)) fs).length=fs.length:=putF_len y.fp
   have e2:(putF "part" (.int (p:Nat)) fs).lookup ("name" :Str)=some (.str x):=by rw[lookup_putF,if_neg (by decide+kernel)];exact y.fn
   rw[putF_len e2,e1];exact y.ln
  no:=look_put (look_put y.no (by decide+kernel)) (by decide+kernel)
  fr:=by
   have e:(putF "name" (.str w) (putF "part" (.int (p:Nat)) fs)).lookup ("rested" :Str)=fs.lookup ("rested" :Str):=by rw[lookup_putF,if_neg (by decide+kernel),lookup_putF,if_neg (by decide+kernel)]
   rw[e]
   exact y.fr
  fp:=by rw[lookup_putF,if_neg (by decide+kernel),lookup_putF,if_pos rfl]
  fn:=by rw[lookup_putF,if_pos rfl]
  fd:=by rw[lookup_putF,if_neg (by decide+kernel),lookup_putF,if_neg (by decide+kernel)];exact y.fd
  hx:=rfl
  p3:=hp
  hl:=up (ne_o y.hl y.hr (fun z=>nomatch z)) (ne_o y.hl hdp (fun z=>nomatch z)) y.hl
  hd:=fun i hi=>by
   by_cases e:i=p
   ·subst e
    rw[if_pos rfl]
    exact⟨upd_same,Nat.le_trans (length_putK _ _ _) (Nat.add_le_add_right (y.hd i hi).2.1 1),mem _ (y.hd i hi).2.2⟩
   ·rw[if_neg e]
    exact⟨up (rd i hi).symm (y.di i p hi hp e) (y.hd i hi).1,Nat.le_succ_of_le (y.hd i hi).2.1,mem _ (y.hd i hi).2.2⟩
  di:=y.di
  mr:=mem _ y.mr
  ml:=mem _ y.ml
  fm:=some_upd (some_upd (some_upd fun z hz=>(List.mem_append.mp hz).elim (hG.fm z) (y.fm z)))
  dr:=by
   refine⟨a,G,?_,(hG.mono (Nat.zero_le _)).kept (fun b o m h=>up (fun z=>nr (by rw[←z];exact m)) (fun z=>nd p hp (by rw[←z];exact m)) h) (fun b xs h=>up (ne_o h y.hr (fun z=>nomatch z)) (ne_o h hdp (fun z=>nomatch z)) h),fun z hz=>List.mem_append_left _ hz,nr,nl,nd⟩
   show valV (if p=p then _ else _) _=_
   rw[if_pos rfl,valV_put,if_pos rfl]}
end
theorem ok_THead {cDraft cReading cWireError cBadRow cBadAnswer cPt cNk:Addr}{f:Addr}{fd:FuncData}(F:Fun K "take_head" "Reading.take_head" sTHead f fd)(T:Txt w K mg cDraft cReading cWireError cBadRow cBadAnswer cPt cNk)(gName:Callee P w K mg base "is_name" 1 ["name"] spName)(gDTold:Callee P w K mg base "draft_told" 4 ["part", "words"] (spDTold cDraft)):FnOk P w K mg base CX0 5 f fd ["self", "part", "words"] (spTHead cReading cDraft):=by
 have sc:FnScope ["self", "part", "words", "draft"] ["self", "part", "words"] (defScope sTHead):=⟨rfl,rfl,rfl,by decide+kernel,rfl,by decide+kernel,by decide+kernel⟩
 refine F.ok sc (fun vs H Q E h=>by repeat (first|(obtain⟨rfl,_⟩:=h;rfl)|(obtain⟨_,h⟩:=h))) (fun cdv A outer s H vs Q E hr h=>?_)
 obtain⟨r,l,n,p,F,st,ws,rfl,h9,hp,⟨rx,fs,dl,ds,ks,x,y⟩,hf,hw,hl,q⟩:=h
 refine⟨_,(pss_cons (ps_if (pw_or (pt_cmpR op_lt (pv 1) (pe_fld (pv 0) rfl) (nomark _)) (pw_or (pt_cmpR op_eq (pe_callB call_len (by rfl) T.len_ bt_len (pa_cons (pv 2) pa_nil)) pe_int (nomark _)) (pw_or1 (pt_not (pt_val (pe_cal gName (hr.mono (by decide)) (by rfl) (pa_cons (pe_ix ix_list (pv 2) pe_int (fun _ _=>rfl)) pa_nil))))))).pt
 (pss_one (ps_ret pe_bl))
 pss_nil)
 (pss_cons (ps_if (pw_and (pt_cmpR op_eq (pv 1) (pe_fld (pv 0) rfl) (nomark _)) (pw_and1 (pt_cmpR op_le_str (pe_ix ix_list (pv 2) pe_int (fun _ _=>rfl)) (pe_fld (pv 0) rfl) (nomark _)))).pt
 (pss_one (ps_ret pe_bl))
 pss_nil)
 (pss_cons (ps_set (i:=3) sc.nd rfl (Or.inl rfl) (pe_cal gDTold (hr.mono (by decide)) (by rfl) (pa_cons (pe_ix ix_tup (pe_const (by rfl) (by exact T.g_PARTS)) (pv 1) (fun _ _=>rfl)) (pa_cons (pe_slice sl_list (pv 2) (po_some pe_int) po_none) pa_nil))))
 (pss_cons (ps_if (pt_cmpR op_isN (pv 3) pe_non (nomark _))
 (pss_one (ps_ret pe_bl))
 pss_nil)
 (pss_cons (ps_fld (pv 0) (pv 1) rfl)
 (pss_cons (ps_fld (pv 0) (pe_ix ix_list (pv 2) pe_int (fun _ _=>rfl)) rfl)
 (pss_cons (ps_dput (Room.one hr) (pe_ix ix_list (pe_fld (pv 0) rfl) (pv 1) (fun _ _=>rfl)) (pe_fld (pv 0) rfl) (pv 3) (by rfl))
 (pss_one (ps_ret pe_bl))))))))),?_⟩
 have hsz:sizeLine=2^24:=rfl
 have e0:EvT (tTest (tOp (rI0 fun i j=> .bl (decide (i<j))) (tVar 1) (tFld K (tVar 0) "part"))) [some (.ref r),some (.int (p:Nat)),some (.ref l),none] H (decide (p<st.part)):=et_of (et_test (ev_I0 (g:=fun i j=> .bl (decide (i<j))) (ev_var rfl) (ev_fl (ev_var rfl) y.hr T.cl_Reading T.na_Reading_part y.fp))) (decide_eq_decide.mpr (by omega))
 have e1:EvT (tTest (tOp rEq (tCB (fun xs H Q=>∃x n,xs=[x]∧LenV K x H n∧Q (.int n) H) (tCons (tVar 2) tNil)) (tC (.int 0)))) [some (.ref r),some (.int (p:Nat)),some (.ref l),none] H (ws.map cp).isEmpty:=et_of (et_test (ev_eqI (ev_len (ev_var rfl) hw.1) ev_c)) (by rw[←len0,List.length_map,List.length_map];exact decide_eq_decide.mpr (by omega))
 cases ws with
 |nil=>
  cases ep:decide (p<st.part) with
  |true=>rw[ep] at e0;exact sq_ifof (or_t e0 (iteT (q H (FK.refl F H))))
  |false=>rw[ep] at e0;exact sq_ifof (or_f e0 (or_t (et_of e1 rfl) (iteT (q H (FK.refl F H)))))
 |cons w0 wr=>
  rw[List.map_cons] at q
  unfold takeH at q
  dsimp only at q
  cases ep:decide (p<st.part) with
  |true=>
   rw[ep] at e0
   rw[if_pos (.inl (of_decide_eq_true ep))] at q
   exact sq_ifof (or_t e0 (iteT (q H (FK.refl F H))))
  |false=>
   rw[ep] at e0
   have ep':=of_decide_eq_false ep
   refine sq_ifof (or_f e0 (or_f (et_of e1 rfl) ?_))
   refine te_cal (ea_cons (ev_ixL (v:=.str w0) (ev_var rfl) ev_c (SqL.of hw.1) at0) ea_nil) ⟨w0,rfl,asc_of (hw.2.1 w0 List.mem_cons_self),fun H1 s1=>⟨_,rfl,?_⟩⟩
   have y1:=y.same s1
   cases eg:good w0 with
   |false=>
    have eg':goodL (cp w0)=false:=eg
    rw[if_pos (.inr (.inl eg'))] at q
    exact iteT (q H1 (FK.of s1))
   |true=>
    have eg':¬goodL (cp w0)=false:=fun z=>by have:goodL (cp w0)=true:=eg;rw[z] at this;cases this
    refine iteF ?_
    have hw1:=hw.same s1
    have t2:EvT (tAnd (tTest (tOp rEq (tVar 1) (tFld K (tVar 0) "part"))) (tTest (tOp (fun x y H Q=>∃i j,x=.str i∧y=.str j∧Q (.bl (!decide (j.cps.toList<i.cps.toList))) H) (tOp (rIxL K) (tVar 2) (tC (.int 0))) (tFld K (tVar 0) "name")))) [some (.ref r),some (.int (p:Nat)),some (.ref l),none] H1 (decide (p=st.part)&&!decide (st.name<cp w0)):=by
     refine et_of (et_and (et_test (ev_eqI (ev_var rfl) (ev_fl (ev_var rfl) y1.hr T.cl_Reading T.na_Reading_part y1.fp))) fun _=>et_test fun Q' q'=>ev_ixL (v:=.str w0) (ev_var rfl) ev_c (SqL.of hw1.1) at0 _ (ev_fl (ev_var rfl) y1.hr T.cl_Reading T.na_Reading_name y1.fn _ ⟨w0,x,rfl,rfl,q'⟩)) ?_
     rw[lt_cp,y.hx]
     congr 1
     exact decide_eq_decide.mpr Int.ofNat_inj
    refine sq_if t2 (fun e=>?_) fun e=>?_
    ·have e':=Bool.and_eq_true_iff.mp e
     rw[if_pos (.inr (.inr ⟨of_decide_eq_true e'.1,by simpa using e'.2⟩))] at q
     exact rd_ret ev_c (q H1 (FK.of s1))
    ·rw[if_neg (by
      rintro(z|z|⟨z1,z2⟩)
      ·exact ep' z
      ·exact eg' z
      ·rw[decide_eq_true z1,decide_eq_false z2] at e;cases e)] at q
     have tP:Ev (tOp (rIxT K) (tC (.ref cPt)) (tVar 1)) [some (.ref r),some (.int (p:Nat)),some (.ref l),none] H1 (.str (pS p)):=by
      refine ev_ixT ev_c (ev_var rfl) (T.t_PARTS H1) ?_
      match p,hp with
      |0,_=>rfl
      |1,_=>rfl
      |2,_=>rfl
     refine sq_asg (te_callA (ta_ev tP (ta_one (te_slF (ev_var rfl) ev_c (SqL.of hw1.1) fun p2 np=>?_))))
     rw[cut1 _ (by simp)]
     have s2:Same H1 (upd H1 p2 (.lst ((w0::wr).tail.map V.str))):=(Same.refl H1).upd np
     have hp2:upd H1 p2 (.lst ((w0::wr).tail.map V.str)) p2=some (.lst ((w0::wr).tail.map V.str)):=upd_same
     revert s2 hp2
     generalize upd H1 p2 _=H2
     intro s2 hp2
     refine⟨p2,p,wr,rfl,hp,hw1.tail hp2,?_⟩
     have s12:=s1.trans s2
     cases ed:draftP p (wr.map cp) with
     |none=>
      rw[ed] at q
      exact fun H3 s3=>sq_ifof (et_use (et_isT (ev_var rfl)) (iteT (q H3 (FK.of (s12.trans s3)))))
     |some d=>
      rw[ed] at q
      intro a G H3 hG s3 mG
      have s13:=s12.trans s3
      have y3:=y.same s13
      have y2:=y.same s12
      have out:∀{z:Addr} {o:HO},H2 z=some o→z∉G:=fun h m=>by rw[mG _ m] at h;cases h
      refine sq_ifof (et_use (et_isF (ev_var rfl)) (iteF ?_))
      refine⟨_,rfl,_,rfl,r,cReading,rx,fs,rfl,y3.hr,T.cl_Reading,T.na_Reading_part,Nat.lt_of_le_of_lt y3.ln (by decide),?_⟩
      have hl3:upd H3 r (.ins cReading rx (putF "part" (.int (p:Nat)) fs)) l=some (.lst ((w0::wr).map V.str)):=by rw[upd_ne fun z=>hl (by rw[z];exact y.mr)];exact s13 _ _ hw.1
      refine ev_ixL (v:=.str w0) (ev_var rfl) ev_c (SqL.of hl3) at0 _ ⟨_,rfl,r,cReading,rx,_,rfl,upd_same,T.cl_Reading,T.na_Reading_name,by rw[putF_len y.fp];exact Nat.lt_of_le_of_lt y.ln (by decide),?_⟩
      have hh:=y3.head (w:=w0) hp hG (out y2.hr) (out y2.hl) fun i hi=>out (y2.hd i hi).1
      have hr4:upd (upd H3 r (.ins cReading rx (putF "part" (.int (p:Nat)) fs))) r (.ins cReading rx (putF "name" (.str w0) (putF "part" (.int (p:Nat)) fs))) r=some (.ins cReading rx (putF "name" (.str w0) (putF "part" (.int (p:Nat)) fs))):=upd_same
      have up:∀{z o},z≠r→H3 z=some o→upd (upd H3 r (.ins cReading rx (putF "part" (.int (p:Nat)) fs))) r (.ins cReading rx (putF "name" (.str w0) (putF "part" (.int (p:Nat)) fs))) z=some o:=fun h e=>by rw[upd_ne h,upd_ne h];exact e
      have hdl:=up (ne_o y3.hl y3.hr (fun z=>nomatch z)) y3.hl
      have hdp:=up (ne_o (y3.hd p hp).1 y3.hr (fun z=>nomatch z)) (y3.hd p hp).1
      have n0:=(y.hd p hp).2.1
      have fdr:(putF "name" (.str w0) (putF "part" (.int (p:Nat)) fs)).lookup ("drafts" :Str)=some (.ref dl):=by rw[lookup_putF,if_neg (by decide+kernel),lookup_putF,if_neg (by decide+kernel)];exact y.fd
      have fnm:(putF "name" (.str w0) (putF "part" (.int (p:Nat)) fs)).lookup ("name" :Str)=some (.str w0):=by rw[lookup_putF,if_pos rfl]
      have k4:FK F H (upd (upd (upd H3 r (.ins cReading rx (putF "part" (.int (p:Nat)) fs))) r (.ins cReading rx (putF "name" (.str w0) (putF "part" (.int (p:Nat)) fs)))) (ds p) (.dK (putK (ks p) (.inr w0) (.ref a)))):=FK.set (FK.set (FK.set (FK.of s13) y.mr) y.mr) (y.hd p hp).2.2
      have mF:∀z∈G++F,z∈F∨H z=none:=fun z hz=>by
       rcases List.mem_append.mp hz with hz|hz
       ·refine .inr ?_
        cases e:H z with
        |none=>rfl
        |some o=>have:=mG z hz;rw[s12 _ _ e] at this;cases this
       ·exact .inl hz
      refine sq_dput (ev_var rfl) (ev_ixL (v:=.ref (ds p)) (ev_fl (ev_var rfl) hr4 T.cl_Reading T.na_Reading_drafts fdr) (ev_var rfl) (SqL.of hdl) ?_) (ev_fl (ev_var rfl) hr4 T.cl_Reading T.na_Reading_name fnm) (DPut.k (k:=.inr w0) hdp (by omega)) ?_
      ·match p,hp with
       |0,_=>rfl
       |1,_=>rfl
       |2,_=>rfl
      ·exact rd_ret ev_c (q (G++F) _ ⟨rx,_,dl,ds,_,w0,hh⟩ k4 mF)
theorem for_enum1 {K:PySem.W.Frag}{a:Addr}{xs:List V}{g:TG}{tb:TS}{D:Ends}{σ:St}{H:Hp}(Pv:Nat→St→Hp→Prop)(h0:Pv 0 σ H)(hl:∀i σ H,i≤xs.length→Pv i σ H→SqL K H a xs)
  (hs:∀i y p σ H,xs[i]?=some y→H p=none→Pv i σ H→g (.ref p) σ (upd H p (.tup [.int ((i+1:Nat):Int),y])) fun σ2 H2=>tb {D with nx:=Pv (i+1),ct:=Pv (i+1),bk:=D.nx} σ2 H2) (hd:∀σ H,Pv xs.length σ H→D.nx σ H):
  ∃W:Nat→Nat→St→Hp→Prop,(∃m,W 0 m σ H)∧∀i m σ H,W i m σ H→
   ((Ite K a).stop i H∧D.nx σ H)∨((Ite K a).go i H∧∃N:St→Hp→Prop,(∀σ' H',N σ' H'→∃m',m'<m∧W (i+1) m' σ' H')∧∀x H',(Ite K a).yld i H x H'→g x σ H' fun σ2 H2=>tb {D with nx:=N,ct:=N,bk:=D.nx} σ2 H2):=by
 refine⟨fun i m σ H=>m=xs.length - i∧i≤xs.length∧Pv i σ H,⟨xs.length,by simp,Nat.zero_le _,h0⟩,?_⟩
 rintro i m σ H ⟨rfl,hi,p⟩
 have q:=hl i σ H hi p
 by_cases hlt:i<xs.length
 ·refine .inr ⟨⟨xs,xs[i],q,by simp[hlt]⟩,Pv (i+1),fun σ' H' p'=>⟨xs.length - (i+1),by omega,rfl,hlt,p'⟩,fun x H' y=>?_⟩
  obtain⟨P,z,hn,rfl,rfl,hz⟩:=y
  exact hs i z P σ _ (hz xs q) hn p
 ·have e:i=xs.length:=by omega
  subst e
  exact .inl ⟨⟨xs,q,Nat.le_refl _⟩,hd σ H p⟩
theorem part_in (w:Str):inV (.str w) [.str (Str.ofString "laid"),.str (Str.ofString "paper"),.str (Str.ofString "never")]=(partP (cp w)).isSome:=by
 have e:∀s:String,eqV (.str (Str.ofString s)) (.str w)=decide (cp w=L s):=fun s=>by
  rw[←dec_L]
  show(Str.ofString s==w)=_
  by_cases h:w=Str.ofString s
  ·rw[decide_eq_true h,beq_iff_eq.mpr h.symm]
  ·rw[decide_eq_false h,beq_eq_false_iff_ne.mpr fun z=>h z.symm]
 unfold inV partP
 simp only[List.any_cons,List.any_nil,e,Bool.or_false]
 by_cases h1:cp w=L "laid"
 ·rw[if_pos h1,decide_eq_true h1];rfl
 by_cases h2:cp w=L "paper"
 ·rw[if_neg h1,if_pos h2,decide_eq_false h1,decide_eq_true h2];rfl
 by_cases h3:cp w=L "never"
 ·rw[if_neg h1,if_neg h2,if_pos h3,decide_eq_false h1,decide_eq_false h2,decide_eq_true h3];rfl
 rw[if_neg h1,if_neg h2,if_neg h3,decide_eq_false h1,decide_eq_false h2,decide_eq_false h3];rfl
theorem part_ix {w:Str}{p:Nat}(h:partP (cp w)=some p):p<3∧(w=Str.ofString "laid" ∨w=Str.ofString "paper" ∨w=Str.ofString "never")∧(if w=Str.ofString "laid" then (0:Int) else if w=Str.ofString "paper" then 1 else 2)=((p:Nat):Int):=by
 have z:∀{s:String},cp w=L s→w=Str.ofString s:=fun e=>str_cp (by rw[e,cp_L])
 unfold partP at h
 split at h
 ·rename_i e;cases h;have:=z e;subst this;exact⟨by decide,.inl rfl,by decide+kernel⟩
 split at h
 ·rename_i e;cases h;have:=z e;subst this;exact⟨by decide,.inr (.inl rfl),by decide+kernel⟩
 split at h
 ·rename_i e;cases h;have:=z e;subst this;exact⟨by decide,.inr (.inr rfl),by decide+kernel⟩
 cases h
theorem ok_TWords {cDraft cReading cWireError cBadRow cBadAnswer cPt cNk:Addr}{f:Addr}{fd:FuncData}(F:Fun K "take_words" "Reading.take_words" sTWords f fd)(T:Txt w K mg cDraft cReading cWireError cBadRow cBadAnswer cPt cNk)(gTRow:MCallee P w K mg base cDraft "take_row" 5 ["self", "words"] (spTRow cDraft))(gTFirst:MCallee P w K mg base cReading "take_first" 1 ["self", "words"] (spTFirst cReading cDraft))(gTHead:MCallee P w K mg base cReading "take_head" 5 ["self", "part", "words"] (spTHead cReading cDraft)):FnOk P w K mg base CX0 6 f fd ["self", "words"] (spTWords cReading cDraft):=by
 have sc:FnScope ["self", "words", "draft"] ["self", "words"] (defScope sTWords):=⟨rfl,rfl,rfl,by decide+kernel,rfl,by decide+kernel,by decide+kernel⟩
 refine F.ok sc (fun vs H Q E h=>by repeat (first|(obtain⟨rfl,_⟩:=h;rfl)|(obtain⟨_,h⟩:=h))) (fun cdv A outer s H vs Q E hr h=>?_)
 obtain⟨r,l,n,F,st,ws,rfl,h9,⟨rx,fs,dl,ds,ks,x,y⟩,hw,hl,hne,q⟩:=h
 refine⟨_,(pss_cons (ps_if (pt_cmpR op_isN (pe_fld (pv 0) rfl) pe_non (nomark _))
 (pss_one (ps_ret (pe_met (pv 0) T.cl_Reading gTFirst (hr.mono (by decide)) (pa_cons (pv 1) pa_nil))))
 pss_nil)
 (pss_cons (ps_if (pt_cmpR op_in_seq (pe_ix ix_list (pv 1) pe_int (fun _ _=>rfl)) (pe_const (by rfl) (by exact T.g_PARTS)) (by with_unfolding_all rfl))
 (pss_one (ps_ret (pe_met (pv 0) T.cl_Reading gTHead (hr.mono (by decide)) (pa_cons (pe_bm PySem.F.plainAttrs_tuple PySem.F.slot_tuple_index PySem.F.type_tuple_index mt_index3 (pe_const (by rfl) (by exact T.g_PARTS)) (pa_cons (pe_ix ix_list (pv 1) pe_int (fun _ _=>rfl)) pa_nil)) (pa_cons (pe_slice sl_list (pv 1) (po_some pe_int) po_none) pa_nil)))))
 pss_nil)
 (pss_cons (ps_set (i:=2) sc.nd rfl (Or.inl rfl) (pe_dget1 (Room.one hr) (pe_ix ix_list (pe_fld (pv 0) rfl) (pe_fld (pv 0) rfl) (fun _ _=>rfl)) (pe_fld (pv 0) rfl) ⟨rfl,rfl,rfl,rfl⟩))
 (pss_one (ps_ret (pe_and (pe_cmpR op_notN (pv 2) pe_non (nomark _)) (pe_one (pe_met (pv 2) T.cl_Draft gTRow (hr.mono (by decide)) (pa_cons (pv 1) pa_nil))))))))),?_⟩
 have hsz:sizeLine=2^24:=rfl
 obtain⟨w0,wr,rfl⟩:∃w0 wr,ws=w0::wr:=by cases ws with|nil=>exact absurd rfl hne|cons a r=>exact⟨a,r,rfl⟩
 cases ef:st.fst with
 |false=>
  have fr:=y.fr
  rw[ef] at fr
  refine sq_ifof (et_use (et_isT (ev_fl (ev_var rfl) y.hr T.cl_Reading T.na_Reading_rested fr)) (iteT ?_))
  exact⟨_,rfl,r,rx,fs,rfl,y.hr,y.no _ (by decide+kernel),⟨_,rfl,r,l,n,F,st,_,rfl,h9,⟨rx,fs,dl,ds,ks,x,y⟩,hw,hl,ef,hne,q⟩⟩
 |true=>
  have fr:=y.fr
  rw[ef] at fr
  obtain⟨b,fr⟩:=fr
  refine sq_ifof (et_use (et_of (b:=decide (V.bl b=.non)) (et_test (ev_isN (ev_fl (ev_var rfl) y.hr T.cl_Reading T.na_Reading_rested fr) ev_c)) rfl) (iteF ?_))
  unfold takeR at q
  rw[if_neg (by rw[ef];decide),List.map_cons] at q
  dsimp only at q
  have i0:∀{σ:St},σ[1]?=some (some (.ref l))→Ev (tOp (rIxL K) (tVar 1) (tC (.int 0))) σ H (.str w0):=fun h=>ev_ixL (ev_var h) ev_c (SqL.of hw.1) at0
  refine sq_ifof (et_use (b:=(partP (cp w0)).isSome) (et_test fun Q' q'=>i0 rfl _ ⟨cPt,_,rfl,.inr (T.t_PARTS H),rfl,rfl,by rw[part_in];exact q'⟩) ?_)
  cases ep:partP (cp w0) with
  |some p=>
   rw[ep] at q
   dsimp only at q
   obtain⟨hp,hor,hix⟩:=part_ix ep
   refine iteT ⟨_,rfl,r,rx,fs,rfl,y.hr,y.no _ (by decide+kernel),ta_one (te_bm ev_c (.inr (.inl ⟨rfl,T.y_PARTS⟩)) (ta_ev (i0 rfl) ⟨cPt,_,_,_,w0,rfl,rfl,T.t_PARTS H,hor,?_⟩))⟩
   rw[hix]
   refine ta_one (te_slF (ev_var rfl) ev_c (SqL.of hw.1) fun p2 np=>?_)
   rw[cut1 _ (by simp)]
   have s2:Same H (upd H p2 (.lst ((w0::wr).tail.map V.str))):=(Same.refl H).upd np
   have hp2:upd H p2 (.lst ((w0::wr).tail.map V.str)) p2=some (.lst ((w0::wr).tail.map V.str)):=upd_same
   revert s2 hp2
   generalize upd H p2 _=H2
   intro s2 hp2
   exact⟨r,p2,n,p,F,st,wr,rfl,h9,hp,⟨rx,fs,dl,ds,ks,x,y.same s2⟩,ef,hw.tail hp2,fun m=>(by obtain⟨o,eo⟩:=y.fm p2 m;rw[np] at eo;cases eo),tkR_fk q (FK.of s2)⟩
  |none=>
   rw[ep] at q
   dsimp only at q
   refine iteF ?_
   have hix:atI [V.ref (ds 0),.ref (ds 1),.ref (ds 2)] ((st.part:Nat):Int)=some (.ref (ds st.part)):=by
    have:=y.p3
    match st.part,this with
    |0,_=>rfl
    |1,_=>rfl
    |2,_=>rfl
   have hdp:=(y.hd st.part y.p3).1
   refine sq_asg (ev_ixL (v:=.ref (ds st.part)) (ev_fl (ev_var rfl) y.hr T.cl_Reading T.na_Reading_drafts y.fd) (ev_fl (ev_var rfl) y.hr T.cl_Reading T.na_Reading_part y.fp) (SqL.of y.hl) hix _ ⟨_,rfl,.inl ⟨_,.inl hdp⟩,ev_fl (ev_var rfl) y.hr T.cl_Reading T.na_Reading_name y.fn _ ⟨_,DGet.k (k:=.inr x) hdp,?_⟩⟩)
   have dr:=y.dr
   cases ed:st.dr with
   |none=>
    rw[ed] at dr q
    rw[dr]
    exact rd_te (ev_notN (ev_var rfl) ev_c _ ⟨false,rfl,iteF (q H (FK.refl F H))⟩)
   |some d=>
    rw[ed] at dr q
    dsimp only at q
    obtain⟨a,G,hv,hG,mG,nr,nl,nd⟩:=dr
    rw[hv]
    refine rd_te (ev_notN (ev_var rfl) ev_c _ ⟨true,rfl,iteT ?_⟩)
    obtain⟨dx,gs,lw,lh,hd,lc,ls,wx,ys,cs,zs,kvs,lv,x3⟩:=id hG
    refine⟨_,rfl,a,dx,gs,rfl,x3.ha,x3.no _ (by decide+kernel),⟨_,rfl,a,l,n,G,d,_,rfl,h9,hG,hw,fun m=>hl (mG l m),hne,?_⟩⟩
    rw[List.map_cons]
    cases et:takeD d (cp w0::wr.map cp) with
    |none=>rw[et] at q;exact fun H' k=>q H' (k.mono mG)
    |some d'=>
     rw[et] at q
     intro G' H' hG' k m
     have out:∀{z:Addr} {o:HO},z∉G→H z=some o→z∉G':=fun h1 h2 h3=>(m _ h3).elim h1 fun e=>by rw[h2] at e;cases e
     refine q (G'++F.filter fun z=>!decide (z∈G)) H' ⟨rx,fs,dl,ds,ks,x,?_⟩ (k.mono mG) fun z hz=>?_
     ·have mem:∀z,z∈F→z∉G→z∈G'++F.filter fun z=>!decide (z∈G):=fun z h1 h2=>List.mem_append_right _ (List.mem_filter.mpr ⟨h1,by rw[decide_eq_false h2];rfl⟩)
      exact{
       hr:=k _ _ nr y.hr
       ln:=y.ln
       no:=y.no
       fr:=y.fr
       fp:=y.fp
       fn:=y.fn
       fd:=y.fd
       hx:=y.hx
       p3:=y.p3
       hl:=k _ _ nl y.hl
       hd:=fun i hi=>⟨k _ _ (nd i hi) (y.hd i hi).1,Nat.le_succ_of_le (y.hd i hi).2.1,mem _ (y.hd i hi).2.2 (nd i hi)⟩
       di:=y.di
       mr:=mem _ y.mr nr
       ml:=mem _ y.ml nl
       fm:=fun z hz=>by
        rcases List.mem_append.mp hz with h|h
        ·exact hG'.fm z h
        ·obtain⟨h1,h2⟩:=List.mem_filter.mp h
         obtain⟨o,eo⟩:=y.fm z h1
         exact⟨o,k _ _ (by simpa using h2) eo⟩
       dr:=⟨a,G',hv,hG',fun z hz=>List.mem_append_left _ hz,out nr y.hr,out nl y.hl,fun i hi=>out (nd i hi) (y.hd i hi).1⟩}
     ·rcases List.mem_append.mp hz with h|h
      ·exact(m z h).elim (fun e=> .inl (mG z e)) .inr
      ·exact .inl (List.mem_filter.mp h).1
theorem ok_XInit {cDraft cReading cWireError cBadRow cBadAnswer cPt cNk:Addr}{f:Addr}{fd:FuncData}(F:Fun K "__init__" "BadAnswer.__init__" sXInit f fd)(T:Txt w K mg cDraft cReading cWireError cBadRow cBadAnswer cPt cNk):FnOk P w K mg base CX0 1 f fd ["self", "row"] (spXInit K):=by
 have sc:FnScope ["self", "row"] ["self", "row"] (defScope sXInit):=⟨rfl,rfl,rfl,by decide+kernel,rfl,by decide+kernel,by decide+kernel⟩
 refine F.ok sc (fun vs H Q E h=>by repeat (first|(obtain⟨rfl,_⟩:=h;rfl)|(obtain⟨_,h⟩:=h))) (fun cdv A outer s H vs Q E hr h=>?_)
 obtain⟨x,C,f,i,rfl,hi,hx,M,R,q⟩:=h
 refine⟨_,(pss_cons (ps_expr (pe_excB (pe_globC (by rfl) T.eWireError.bd) T.eWireError.ba (pa_cons (pv 0) (pa_cons (pe_joinX (FXs.cons (fx_str pe_str) (FXs.cons (fx_int (pv 1)) FXs.nil))) pa_nil))))
 (pss_one (ps_fldE (pv 0) (pv 1) rfl))),?_⟩
 have lg:((i:Nat):Int).natAbs.log2<1920:=lgn (Nat.lt_of_lt_of_le hi (by decide))
 refine⟨_,rfl,⟨_,⟨_,_,rfl,rfl,_,_,rfl,⟨_,rfl,rfl,_,rfl,lg,rfl⟩,rfl⟩,⟨x,_,C,f,none,rfl,hx,M,?_⟩⟩⟩
 exact⟨_,rfl,_,rfl,x,C,f,rfl,hx,M,R,q⟩
theorem run_take {st:Rs}:∀{a:List (List Nat)} {s:Rs} {i:Nat} {r:List Nat},runR st a=some s→a[i]?=some r→∃s1 s2,runR st (a.take i)=some s1∧takeR s1 (cut 32 r)=some s2∧runR st (a.take (i+1))=some s2:=by
 intro a
 induction a generalizing st with
 |nil=>intro s i r _ h;simp at h
 |cons b t ih=>
  intro s i r h hi
  unfold runR at h
  cases e:takeR st (cut 32 b) with
  |none=>rw[e] at h;cases h
  |some s'=>
   rw[e] at h
   cases i with
   |zero=>
    cases hi
    exact⟨st,s',rfl,e,by simp[runR,e]⟩
   |succ j=>
    obtain⟨s1,s2,h1,h2,h3⟩:=ih (st:=s') (i:=j) (r:=r) h (by simpa using hi)
    exact⟨s1,s2,by simp[runR,e,h1],h2,by simp[runR,e,h3]⟩
theorem cutl_mem {c d:Nat}{l p:List Nat}(hp:p∈cut c l)(hd:d∈p):d∈l:=by
 rw[←jl_cut c l]
 have mj:∀{R:List (List Nat)} {p:List Nat},p∈R→d∈p→d∈jl c R:=by
  intro R
  induction R with
  |nil=>intro p h;exact nomatch h
  |cons x r ih=>
   intro p h hd
   by_cases hr:r=[]
   ·subst hr;rw[List.mem_singleton.mp h] at hd;exact hd
   ·rw[jl_cons hr]
    rcases List.mem_cons.mp h with rfl|h
    ·exact List.mem_append_left _ hd
    ·exact List.mem_append_right _ (List.mem_cons_of_mem _ (ih h hd))
 exact mj hp hd
theorem words_at {H:Hp}{l:Addr}{t:Str}(h:RowOk (cp t))(e:H l=some (.lst ((Txt.split t (Str.ofString " ")).map V.str))):WAt H l (Txt.split t (Str.ofString " "))∧(Txt.split t (Str.ofString " ")).map cp=cut 32 (cp t)∧Txt.split t (Str.ofString " ")≠[]:=by
 have es:(Txt.split t (Str.ofString " ")).map cp=cut 32 (cp t):=by rw[blank];exact split_is t 32
 refine⟨⟨e,fun w hw=>Pl.of (fun c hc=>?_) ?_,?_⟩,es,fun z=>?_⟩
 ·have hm:cp w∈cut 32 (cp t):=by rw[←es];exact List.mem_map.mpr ⟨w,hw,rfl⟩
  exact(h.1 c (cutl_mem hm hc)).1
 ·rw[cp_len];exact Nat.le_trans (PyProof.Rows.part_short hw) (by have:=h.2;rw[cp_len] at this;omega)
 ·exact Nat.le_trans (PyProof.Rows.split_le _ _) (by have:=h.2;rw[cp_len] at this;omega)
 ·rw[z] at es;exact cut_ne 32 _ es.symm
theorem RdAt.same {cR cD:Addr}{n:Nat}{F:List Addr}{H H':Hp}{r:Addr}{st:Rs}(x:RdAt cR cD n F H r st)(s:Same H H'):RdAt cR cD n F H' r st:=by
 obtain⟨rx,fs,l,ds,ks,z,y⟩:=x
 exact⟨rx,fs,l,ds,ks,z,y.same s⟩
theorem RdAt.fm {cR cD:Addr}{n:Nat}{F:List Addr}{H:Hp}{r:Addr}{st:Rs}(x:RdAt cR cD n F H r st):∀y∈F,∃o,H y=some o:=by
 obtain⟨rx,fs,l,ds,ks,z,y⟩:=x
 exact y.fm
theorem at_mem {α:Type}{a c:List α}{b:α}{i:Nat}{r:α}(h:(a++b::c)[i]?=some r)(hi:i≤a.length):(i<a.length∧a[i]?=some r)∨(i=a.length∧r=b):=by
 rcases Nat.lt_or_ge i a.length with z|z
 ·rw[List.getElem?_append_left z] at h;exact .inl ⟨z,h⟩
 ·have e:i=a.length:=by omega
  subst e
  rw[List.getElem?_append_right (Nat.le_refl _),Nat.sub_self] at h
  exact .inr ⟨rfl,(Option.some.inj h).symm⟩
theorem RdAt.any {cR cD cE:Addr}{F:List Addr}{H:Hp}{r:Addr}(x:RdAt cR cD 0 F H r rs0):RdAt cR cE 0 F H r rs0:=by
 obtain⟨rx,fs,l,ds,ks,z,y⟩:=x
 exact⟨rx,fs,l,ds,ks,z,{y with dr:=y.dr}⟩
theorem ok_Read {cDraft cReading cWireError cBadRow cBadAnswer cPt cNk:Addr}{f:Addr}{fd:FuncData}(F:Fun K "read_answer" "read_answer" sRead f fd)(T:Txt w K mg cDraft cReading cWireError cBadRow cBadAnswer cPt cNk)(gRInit:KCallee P w K mg base cReading "Reading" 1 ["self"] (spRInit cReading))(gTWords:MCallee P w K mg base cReading "take_words" 6 ["self", "words"] (spTWords cReading cDraft))(gXInit:KCalleeE P w K mg base "BadAnswer" cBadAnswer 1 ["self", "row"] (spXInit K)):FnOk P w K mg base (CX2 P w) 7 f fd ["page"] (spRead cBadAnswer):=by
 have sc:FnScope ["page", "reading", "number", "row"] ["page"] (defScope sRead):=⟨rfl,rfl,rfl,by decide+kernel,rfl,by decide+kernel,by decide+kernel⟩
 refine F.okX2 sc (fun vs H Q E h=>by repeat (first|(obtain⟨rfl,_⟩:=h;rfl)|(obtain⟨_,h⟩:=h))) (fun cdv A outer s H vs Q E hr h=>?_)
 obtain⟨x,k,rfl,⟨ra,rb,rc,st,hx,hok,h400,hrun,hbad,hk⟩,q⟩:=h
 refine⟨_,(pss_cons (ps_set (i:=1) sc.nd rfl (Or.inl rfl) (pe_mk0 gRInit (hr.mono (by decide)) (by rfl)))
 (pss_cons (ps_for PassesOwn.leaving rfl (pi_enum1 (by rfl) T.enumerate_ bt_enumerate (pa_cons (pe_bm PySem.F.plainAttrs_str PySem.F.slot_str_split PySem.F.type_str_split mt_split (pv 0) (pa_cons pe_str pa_nil)) pa_nil)) (pg_tup rfl (pgs_cons (pg_name (i:=2) sc.nd rfl (Or.inl rfl)) (pgs_cons (pg_name (i:=3) sc.nd rfl (Or.inl rfl)) pgs_nil)))
 (pss_one (ps_if (pt_not (pt_val (pe_met (pv 1) T.cl_Reading gTWords (hr.mono (by decide)) (pa_cons (pe_bm PySem.F.plainAttrs_str PySem.F.slot_str_split PySem.F.type_str_split mt_split (pv 3) (pa_cons pe_str pa_nil)) pa_nil))))
 (pss_one (ps_raiseI gXInit (hr.mono (by decide)) rfl (by rfl) raises2 (pa_cons (pv 2) pa_nil)))
 pss_nil)))
 (pss_one ps_never))),?_⟩
 have hsz:sizeLine=2^24:=rfl
 have hfree:∀p∈ra++rb::rc,10∉p:=fun p hp z=>(hok p hp).1 10 z|>.2 rfl
 have esp:(Txt.split x (Str.ofString "\n")).map cp=ra++rb::rc:=by rw[nl];exact split_cp x 10 (by simp) hfree hx
 have hxl:x.length≤400*501:=by
  rw[←cp_len,hx]
  have:∀{P:List (List Nat)},(∀p∈P,p.length≤500)→(jl 10 P).length≤P.length*501:=by
   intro P
   induction P with
   |nil=>intro _;exact Nat.zero_le _
   |cons p r ih=>
    intro h
    have h1:=h p List.mem_cons_self
    by_cases hr:r=[]
    ·subst hr;show p.length≤_;simp;omega
    ·have h2:=ih fun z hz=>h z (List.mem_cons_of_mem _ hz)
     rw[jl_cons hr,List.length_append,List.length_cons,List.length_cons]
     omega
  exact Nat.le_trans (this fun p hp=>(hok p hp).2) (Nat.mul_le_mul_right _ h400)
 refine sq_asg fun r rx nr nx ne=>?_
 have sm:Same H (upd (upd H rx (.own r)) r (.ins cReading rx [])):=same_make nr nx
 refine⟨r,rx,rfl,upd_same,fun cD F1 H1 hR1 k1 m1=>⟨rfl,?_⟩⟩
 have s1:Same H H1:=FK.same k1 sm fun y hy=>by rw[List.mem_singleton.mp hy];exact nr
 have hF1:∀z∈F1,H z=none:=fun z hz=>by
  rcases m1 z hz with e|e
  ·rw[e];exact nr
  ·cases h:H z with
   |none=>rfl
   |some o=>rw[sm _ _ h] at e;cases e
 have hR1:RdAt cReading cDraft 0 F1 H1 r rs0:=hR1.any
 generalize hT:Txt.split x (Str.ofString "\n")=ts at esp
 refine⟨_,rfl,rfl,_,_,rfl,rfl,(by decide+kernel),(by omega),fun S nS=>?_⟩
 rw[hT]
 refine⟨S,rfl,⟨_,SqL.of upd_same⟩,?_⟩
 have s2:Same H1 (upd H1 S (.lst (ts.map V.str))):=(Same.refl H1).upd nS
 have hS:upd H1 S (.lst (ts.map V.str)) S=some (.lst (ts.map V.str)):=upd_same
 revert s2 hS
 generalize upd H1 S _=H2
 intro s2 hS
 have htl:ts.length=(ra++rb::rc).length:=by rw[←esp,List.length_map]
 refine for_enum1 (K:=K) (xs:=ts.map V.str) (fun i σ H'=>∃(x2 x3:Option V) (F:List Addr) (s':Rs),σ=[some (.str x),some (.ref r),x2,x3]∧Same H H'∧H' S=some (.lst (ts.map V.str))∧S∉F∧RdAt cReading cDraft i F H' r s'∧(∀z∈F,H z=none)∧runR rs0 (ra.take i)=some s'∧i≤ra.length)
  ⟨none,none,F1,rs0,rfl,s1.trans s2,hS,(fun m=>by obtain⟨o,eo⟩:=hR1.fm S m;rw[nS] at eo;cases eo),hR1.same s2,hF1,rfl,Nat.zero_le _⟩ (fun i σ H' _ ⟨_,_,_,_,_,_,h,_⟩=>SqL.of h) ?_ ?_
 ·rintro i y p σ H' hy np ⟨x2,x3,F,s',rfl,s3,hS3,nSF,hR3,hF3,hr3,hi⟩
  obtain⟨t,ht,rfl⟩:=map_at hy
  have hrow:(ra++rb::rc)[i]?=some (cp t):=by rw[←esp,List.getElem?_map,ht];rfl
  have hto:RowOk (cp t):=hok _ (List.mem_of_getElem? hrow)
  have htn:=hto.2
  rw[cp_len] at htn
  have s4:Same H' (upd H' p (.tup [.int ((i+1:Nat):Int),.str t])):=(Same.refl H').upd np
  have hp4:upd H' p (.tup [.int ((i+1:Nat):Int),.str t]) p=some (.tup [.int ((i+1:Nat):Int),.str t]):=upd_same
  revert s4 hp4
  generalize upd H' p _=H4
  intro s4 hp4
  refine⟨p,_,rfl,SqT.of hp4,rfl,⟨_,_,rfl,gn ⟨_,_,rfl,gn ⟨rfl,?_⟩⟩⟩⟩
  have hR4:=hR3.same s4
  obtain⟨rx',fs',dl,ds,ks,nx',y4⟩:=id hR4
  refine rd_ifof ⟨_,rfl,r,rx',fs',rfl,y4.hr,y4.no _ (by decide+kernel),ta_one ⟨_,rfl,rfl,_,_,rfl,rfl,(by decide+kernel),(by omega),fun wl nwl=>?_⟩⟩
  have s5:Same H4 (upd H4 wl (.lst ((Txt.split t (Str.ofString " ")).map V.str))):=(Same.refl H4).upd nwl
  have hw5:upd H4 wl (.lst ((Txt.split t (Str.ofString " ")).map V.str)) wl=some (.lst ((Txt.split t (Str.ofString " ")).map V.str)):=upd_same
  revert s5 hw5
  generalize upd H4 wl _=H5
  intro s5 hw5
  obtain⟨hw,hcut,hne⟩:=words_at hto hw5
  have s35:=s3.trans (s4.trans s5)
  have hS5:=s5 _ _ (s4 _ _ hS3)
  refine⟨r,wl,i,F,s',_,rfl,(by rw[List.length_append] at h400;omega),hR4.same s5,hw,(fun m=>by obtain⟨o,eo⟩:=hR4.fm wl m;rw[nwl] at eo;cases eo),hne,?_⟩
  rw[hcut]
  rcases at_mem hrow hi with ⟨hlt,hra⟩|⟨he,hrb⟩
  ·obtain⟨t1,t2,e1,e2,e3⟩:=run_take hrun hra
   rw[hr3] at e1
   cases e1
   rw[e2]
   intro F' H6 hR6 k6 m6
   refine⟨true,rfl,iteF ?_⟩
   refine⟨_,_,F',t2,rfl,FK.same k6 s35 hF3,k6 _ _ nSF hS5,fun m=>?_,hR6,fun z hz=>?_,e3,hlt⟩
   ·rcases m6 S m with e|e
    ·exact nSF e
    ·rw[hS5] at e;cases e
   ·rcases m6 z hz with e|e
    ·exact hF3 z e
    ·cases h:H z with
     |none=>rfl
     |some o=>rw[s35 _ _ h] at e;cases e
  ·subst he
   rw[List.take_length,hrun] at hr3
   cases hr3
   rw[hrb,hbad]
   intro H6 k6
   refine⟨false,rfl,iteT ?_⟩
   obtain⟨fI,fdI,_,_,M,_⟩:=gXInit.ex
   refine⟨_,rfl,(by show 1≤sizeLine;decide),fun e ne=>⟨e,cBadAnswer,fI,ra.length+1,rfl,(by rw[List.length_append] at h400;simp at h400;omega),upd_same,M,T.eBadAnswer.at_,fun d nd hne=>⟨rfl,d,?_,?_⟩⟩⟩
   ·rw[upd_ne (Ne.symm hne),upd_same]
   ·have s6:Same H H6:=FK.same k6 s35 hF3
    rw[hk] at q
    refine q d _ (fun b o hb=>?_) ?_
    ·have h6:=s6 _ _ hb
     have b1:b≠e:=ne_of_none h6 ne
     have b2:b≠d:=fun z=>by rw[upd_ne hne] at nd;rw[z,nd] at h6;cases h6
     rw[drp_ne b1,upd_ne b2,upd_ne b1,upd_ne b1];exact h6
    ·rw[drp_ne hne,upd_same]
 ·rintro σ H' ⟨x2,x3,F,s',rfl,_,_,_,_,_,_,hi⟩
  rw[List.length_map,htl,List.length_append,List.length_cons] at hi
  omega
theorem ok_Asked {cDraft cReading cWireError cBadRow cBadAnswer cPt cNk:Addr}{f:Addr}{fd:FuncData}(F:Fun K "_law_asked" "_law_asked" sAsked f fd)(T:Txt w K mg cDraft cReading cWireError cBadRow cBadAnswer cPt cNk)(gRead:CalleeX2 P w K mg base "read_answer" 7 ["page"] (spRead cBadAnswer)):FnOk P w K mg base CX0 8 f fd ["page"] spAsked:=by
 have sc:FnScope ["page", "heard", "kinds", "e"] ["page"] (defScope sAsked):=⟨rfl,rfl,rfl,by decide+kernel,rfl,by decide+kernel,by decide+kernel⟩
 refine F.ok sc (fun vs H Q E h=>by repeat (first|(obtain⟨rfl,_⟩:=h;rfl)|(obtain⟨_,h⟩:=h))) (fun cdv A outer s H vs Q E hr h=>?_)
 obtain⟨x,k,rfl,hb,q⟩:=h
 refine⟨_,(pss_cons (ps_set (i:=1) sc.nd rfl (Or.inl rfl) pe_str)
 (pss_cons (ps_set (i:=2) sc.nd rfl (Or.inl rfl) (pe_lst pa_nil))
 (pss_cons (ps_try2 (i:=3) rfl sc.nd rfl rfl rfl rfl rfl (by rfl) T.eBadAnswer.bd (fun Ex xe pn hx=>(pss_one (ps_expr (pe_calX2 gRead (hr.mono (by decide)) (by rfl) hx (pa_cons (pv 0) pa_nil)))))
 (fun a=>(pss_cons (ps_set (i:=1) sc.nd rfl (Or.inl rfl) (pe_fldE (pv 3) rfl))
 (pss_one (ps_set (i:=2) sc.nd rfl (Or.inl rfl) (pe_lst (pa_cons (pe_callB call_isinstD (by rfl) T.isinstance_ bt_isinstance (pa_cons (pv 3) (pa_cons (pe_globC (by rfl) T.eWireError.bd) pa_nil))) (pa_cons (pe_callB call_isinstD (by rfl) T.isinstance_ bt_isinstance (pa_cons (pv 3) (pa_cons (pe_bltn (v:=.ty "ValueError") (by rfl) T.ValueError_ bt_ValueError (by rfl)) pa_nil))) (pa_cons (pe_callB call_isinstD (by rfl) T.isinstance_ bt_isinstance (pa_cons (pv 3) (pa_cons (pe_globC (by rfl) T.eBadRow) pa_nil))) pa_nil)))))))))
 (pss_one (ps_ret (pe_tup (pa_cons (pv 1) (pa_cons (pv 2) pa_nil)))))))),?_⟩
 refine sq_set ev_c ?_
 refine sq_lst (vs:=[]) ea_nil (by show 0≤sizeLine;decide) fun l0 n0=>?_
 have s0:Same H (upd H l0 (.lst [])):=(Same.refl H).upd n0
 revert s0
 generalize upd H l0 _=H0
 intro s0
 refine nrm (σ':=[some (.str x),some (.str (Str.ofString "read")),some (.ref l0),none]) (by kernel_rfl) ?_
 refine⟨fun σ' C d H'=>σ'=[some (.str x),some (.str (Str.ofString "read")),some (.ref l0),none]∧C=.ref cBadAnswer∧Same H0 H'∧H' d=some (.xd [("row",.int (k:Nat))]),fun xe pn=>⟨_,rfl,x,k,rfl,hb,fun d H' s hd=>⟨d,rfl,rfl,rfl,s,hd⟩⟩,?_⟩
 rintro σ' C d H' ⟨rfl,rfl,s1,hd⟩
 refine⟨T.xb,fun a na=>?_⟩
 have s2:Same H' (upd H' a (excD a (.ref cBadAnswer) d)):=(Same.refl H').upd na
 have ha:upd H' a (excD a (.ref cBadAnswer) d) a=some (excD a (.ref cBadAnswer) d):=upd_same
 have hd2:=s2 _ _ hd
 revert s2 ha hd2
 generalize upd H' a _=H2
 intro s2 ha hd2
 refine sq_asg ⟨_,rfl,a,cBadAnswer,d,_,_,rfl,ha,hd2,T.eBadAnswer.at_,rfl,?_⟩
 have i1:∀{σ:St} {te:TE} {v:V} {c:Value} {b:Bool},σ[3]?=some (some (.ref a))→Ev te σ H2 v→ClsV v c→PySem.W.kitOne K (.ref cBadAnswer) c=some b→Ev (tCB (fun xs H Q=>∃a C D y c b,xs=[.ref a,y]∧ClsV y c∧H a=some (excD a (.ref C) D)∧ExcCls K C∧PySem.W.kitOne K (.ref C) c=some b∧Q (.bl b) H) (tCons (tVar 3) (tCons te tNil))) σ H2 (.bl b):=fun h1 h2 h3 h4=>ev_cb (ea_cons (ev_var h1) (ea_cons h2 ea_nil)) fun _ q'=>⟨a,cBadAnswer,d,_,_,_,rfl,h3,ha,T.eBadAnswer.cl,h4,q'⟩
 refine te_lst (vs:=[.bl true,.bl true,.bl false]) (ea_cons (i1 rfl ev_c (.ref _) T.bw) (ea_cons (i1 rfl ev_c (.ty _) T.bv) (ea_cons (i1 rfl ev_c (.ref _) T.br) ea_nil))) (by show 3≤sizeLine;decide) fun l1 n1=>?_
 have s3:Same H2 (upd H2 l1 (.lst [.bl true,.bl true,.bl false])):=(Same.refl H2).upd n1
 have hl1:upd H2 l1 (.lst [.bl true,.bl true,.bl false]) l1=some (.lst [.bl true,.bl true,.bl false]):=upd_same
 revert s3 hl1
 generalize upd H2 l1 _=H3
 intro s3 hl1
 refine rd_tup (vs:=[.int (k:Nat),.ref l1]) (ea_cons (ev_var rfl) (ea_cons (ev_var rfl) ea_nil)) (by show 2≤sizeLine;decide) fun t nt=>?_
 have s4:Same H3 (upd H3 t (.tup [.int (k:Nat),.ref l1])):=(Same.refl H3).upd nt
 exact q t l1 _ (((s0.trans s1).trans s2).trans (s3.trans s4)) upd_same (s4 _ _ hl1)
theorem join_okL {z:Str}{ts:List Str}(h:∀t∈ts,t.length≤1000)(hz:z.length≤10)(hl:ts.length≤1000):JoinOk z ts=true:=by
 have key:∀(l:List Str) (n:Nat),(∀t∈l,t.length≤1000)→l.foldl (· + ·.length+z.length) n≤n+1010*l.length:=by
  intro l
  induction l with
  |nil=>intro n _;simp
  |cons x r ih=>
   intro n hh
   have h1:=hh x List.mem_cons_self
   have h2:=ih (n+x.length+z.length) fun t ht=>hh t (List.mem_cons_of_mem _ ht)
   rw[List.foldl_cons,List.length_cons]
   omega
 unfold JoinOk
 have h1:=key ts 0 h
 rw[List.foldl_toArray]
 generalize ts.foldl (· + ·.length+z.length) 0=n at h1
 have h2:n≤1010000:=by omega
 unfold Builtin.Str.tooLong
 rw[Bool.not_eq_true',decide_eq_false_iff_not,sizeLine_eq]
 omega
theorem te_pick {K:PySem.W.Frag}{ta:TA}{ti:TE}{vs:List V}{i:Int}{v:V}{σ:St}{H:Hp}{Q:VK}(h:EvA ta σ H vs)(hz:vs.length≤sizeLine)(hi:∀H',Same H H'→Ev ti σ H' (.int i))(hv:atI vs i=some v)(q:∀H',Same H H'→Q v H'):tOp (rIxL K) (tLst ta) ti σ H Q:=h _ ⟨hz,fun p np=>hi _ ((Same.refl H).upd np) _ ⟨p,vs,i,v,rfl,rfl,SqL.of upd_same,hv,q _ ((Same.refl H).upd np)⟩⟩
theorem ok_Mixed {cDraft cReading cWireError cBadRow cBadAnswer cPt cNk:Addr}{f:Addr}{fd:FuncData}(F:Fun K "_law_mixed" "_law_mixed" sMixed f fd)(T:Txt w K mg cDraft cReading cWireError cBadRow cBadAnswer cPt cNk):FnOk P w K mg base CX0 1 f fd ["cell", "k"] spMixed:=by
 have sc:FnScope ["cell", "k"] ["cell", "k"] (defScope sMixed):=⟨rfl,rfl,rfl,by decide+kernel,rfl,by decide+kernel,by decide+kernel⟩
 refine F.ok sc (fun vs H Q E h=>by repeat (first|(obtain⟨rfl,_⟩:=h;rfl)|(obtain⟨_,h⟩:=h))) (fun cdv A outer s H vs Q E hr h=>?_)
 obtain⟨c,k,rfl,h0,h1,q⟩:=h
 refine⟨_,(pss_one (ps_ret (pe_op op_mod (pe_op op_mul (pe_op op_add (pe_op op_add (pv 0) (pe_op op_mul (pe_op op_mul (pv 1) (pv 1)) pe_int)) pe_int) pe_int) pe_int))),?_⟩
 exact rd_ret (ev_I (ev_I (ev_I0 (ev_I0 (ev_var rfl) (ev_I (ev_I (ev_var rfl) (ev_var rfl) (cmR (by omega) (by omega))) ev_c (cmR (by decide) (by decide)))) ev_c) ev_c (cmR (by decide) (by decide))) ev_c (by show(0:Int)<2147483647;decide)) (q _ (Int.emod_nonneg _ (by decide)) (Int.emod_lt_of_pos _ (by decide)))
theorem ok_Number {cDraft cReading cWireError cBadRow cBadAnswer cPt cNk:Addr}{f:Addr}{fd:FuncData}(F:Fun K "_law_number" "_law_number" sNumber f fd)(T:Txt w K mg cDraft cReading cWireError cBadRow cBadAnswer cPt cNk):FnOk P w K mg base CX0 1 f fd ["cell"] spNumber:=by
 have sc:FnScope ["cell"] ["cell"] (defScope sNumber):=⟨rfl,rfl,rfl,by decide+kernel,rfl,by decide+kernel,by decide+kernel⟩
 refine F.ok sc (fun vs H Q E h=>by repeat (first|(obtain⟨rfl,_⟩:=h;rfl)|(obtain⟨_,h⟩:=h))) (fun cdv A outer s H vs Q E hr h=>?_)
 obtain⟨c,rfl,q⟩:=h
 refine⟨_,(pss_cons (ps_if (pt_cmpR op_eq (pe_op op_mod (pv 0) pe_int) pe_int (nomark _))
 (pss_one (ps_ret (pe_op op_sub (pe_op op_mod (pe_op op_fdivB (pv 0) pe_int) pe_int) pe_int)))
 pss_nil)
 (pss_one (ps_ret (pe_op op_sub (pe_op op_mod (pv 0) (pe_op op_sub (pe_op op_mul pe_int (pe_op op_pow pe_int pe_int)) pe_int)) (pe_op op_sub (pe_op op_pow pe_int pe_int) pe_int))))),?_⟩
 refine sq_if (et_test (ev_eqI (ev_I (ev_var rfl) ev_c (by first|(show(0:Int)<_;omega)|(show(0:Int)<_;decide))) ev_c)) (fun _=>rd_ret (ev_I0 (ev_I (ev_I (ev_var rfl) ev_c (cdB (by omega) (by omega))) ev_c (by first|(show(0:Int)<_;omega)|(show(0:Int)<_;decide))) ev_c) (q _ (by omega))) fun _=>?_
 refine rd_ret (ev_I0 (ev_I (ev_var rfl) (ev_I0 (ev_I ev_c (ev_I ev_c ev_c (cpw (by decide) (by decide) (by decide))) (by first|exact cmR (by omega) (by omega)|exact cmL (by omega) (by omega))) ev_c) (by first|(show(0:Int)<_;omega)|(show(0:Int)<_;decide))) (ev_I0 (ev_I ev_c ev_c (cpw (by decide) (by decide) (by decide))) ev_c)) (q _ ?_)
 have e:(10:Int)^(18:Int).toNat=1000000000000000000:=by decide
 rw[e]
 omega
theorem ok_Spot {cDraft cReading cWireError cBadRow cBadAnswer cPt cNk:Addr}{f:Addr}{fd:FuncData}(F:Fun K "_law_spot" "_law_spot" sSpot f fd)(T:Txt w K mg cDraft cReading cWireError cBadRow cBadAnswer cPt cNk):FnOk P w K mg base CX0 1 f fd ["cell"] spSpot:=by
 have sc:FnScope ["cell"] ["cell"] (defScope sSpot):=⟨rfl,rfl,rfl,by decide+kernel,rfl,by decide+kernel,by decide+kernel⟩
 refine F.ok sc (fun vs H Q E h=>by repeat (first|(obtain⟨rfl,_⟩:=h;rfl)|(obtain⟨_,h⟩:=h))) (fun cdv A outer s H vs Q E hr h=>?_)
 obtain⟨c,rfl,q⟩:=h
 refine⟨_,(pss_cons (ps_if (pt_cmpR op_eq (pe_op op_mod (pv 0) pe_int) pe_int (nomark _))
 (pss_one (ps_ret (pe_tup (pa_cons (pe_op op_mod (pe_op op_fdivB (pv 0) pe_int) pe_int) (pa_cons (pe_op op_mod (pe_op op_fdivB (pv 0) pe_int) pe_int) (pa_cons (pe_op op_mod (pe_op op_fdivB (pv 0) pe_int) pe_int) pa_nil))))))
 pss_nil)
 (pss_one (ps_ret (pe_tup (pa_cons (pe_op op_mod (pv 0) (pe_op op_pow pe_int pe_int)) (pa_cons (pe_op op_mod (pe_op op_mul (pv 0) pe_int) (pe_op op_pow pe_int pe_int)) (pa_cons (pe_op op_mod (pe_op op_mul (pv 0) pe_int) (pe_op op_pow pe_int pe_int)) pa_nil))))))),?_⟩
 have e:(10:Int)^(17:Int).toNat=100000000000000000:=by decide
 have mk:∀{x y z:Int},0≤x→x<100000000000000000→0≤y→y<100000000000000000→0≤z→z<100000000000000000→S3 (10^17) [x,y,z]:=fun{x y z} h1 h2 h3 h4 h5 h6=>⟨x.toNat,y.toNat,z.toNat,by rw[Int.toNat_of_nonneg h1,Int.toNat_of_nonneg h3,Int.toNat_of_nonneg h5],by omega,by omega,by omega⟩
 refine sq_if (et_test (ev_eqI (ev_I (ev_var rfl) ev_c (by first|(show(0:Int)<_;omega)|(show(0:Int)<_;decide))) ev_c)) (fun _=>?_) fun _=>?_
 ·exact rd_tup (vs:=([c/3%4,c/12%16,c/192%16]:List Int).map V.int) (ea_cons (ev_I (ev_I (ev_var rfl) ev_c (cdB (by omega) (by omega))) ev_c (by first|(show(0:Int)<_;omega)|(show(0:Int)<_;decide))) (ea_cons (ev_I (ev_I (ev_var rfl) ev_c (cdB (by omega) (by omega))) ev_c (by first|(show(0:Int)<_;omega)|(show(0:Int)<_;decide))) (ea_cons (ev_I (ev_I (ev_var rfl) ev_c (cdB (by omega) (by omega))) ev_c (by first|(show(0:Int)<_;omega)|(show(0:Int)<_;decide))) ea_nil))) (by show 3≤sizeLine;decide) fun t nt=>q t _ _ ((Same.refl H).upd nt) (mk (by omega) (by omega) (by omega) (by omega) (by omega) (by omega)) upd_same
 ·refine rd_tup (vs:=([c%10^(17:Int).toNat,c*7919%10^(17:Int).toNat,c*104729%10^(17:Int).toNat]:List Int).map V.int) (ea_cons (ev_I (ev_var rfl) (ev_I ev_c ev_c (cpw (by decide) (by decide) (by decide))) (by first|(show(0:Int)<_;omega)|(show(0:Int)<_;decide))) (ea_cons (ev_I (ev_I (ev_var rfl) ev_c (by first|exact cmR (by omega) (by omega)|exact cmL (by omega) (by omega))) (ev_I ev_c ev_c (cpw (by decide) (by decide) (by decide))) (by first|(show(0:Int)<_;omega)|(show(0:Int)<_;decide))) (ea_cons (ev_I (ev_I (ev_var rfl) ev_c (by first|exact cmR (by omega) (by omega)|exact cmL (by omega) (by omega))) (ev_I ev_c ev_c (cpw (by decide) (by decide) (by decide))) (by first|(show(0:Int)<_;omega)|(show(0:Int)<_;decide))) ea_nil))) (by show 3≤sizeLine;decide) fun t nt=>q t _ _ ((Same.refl H).upd nt) ?_ upd_same
  rw[e]
  exact mk (by omega) (by omega) (by omega) (by omega) (by omega) (by omega)
theorem ok_Behind {cDraft cReading cWireError cBadRow cBadAnswer cPt cNk:Addr}{f:Addr}{fd:FuncData}(F:Fun K "_law_behind" "_law_behind" sBehind f fd)(T:Txt w K mg cDraft cReading cWireError cBadRow cBadAnswer cPt cNk):FnOk P w K mg base CX0 1 f fd ["spot", "cell"] spBehind:=by
 have sc:FnScope ["spot", "cell", "step"] ["spot", "cell"] (defScope sBehind):=⟨rfl,rfl,rfl,by decide+kernel,rfl,by decide+kernel,by decide+kernel⟩
 refine F.ok sc (fun vs H Q E h=>by repeat (first|(obtain⟨rfl,_⟩:=h;rfl)|(obtain⟨_,h⟩:=h))) (fun cdv A outer s H vs Q E hr h=>?_)
 obtain⟨t,s,c,m,rfl,⟨x,y,z,rfl,hx,hy,hz⟩,hm,ht,q⟩:=h
 refine⟨_,(pss_cons (ps_set (i:=2) sc.nd rfl (Or.inl rfl) (pe_op op_add pe_int (pe_ix ix_list (pe_lst (pa_cons (pe_op op_mod (pv 1) pe_int) (pa_cons (pe_op op_mod (pv 1) (pe_op op_pow pe_int pe_int)) pa_nil))) (pe_op op_mod (pv 1) pe_int) (fun _ _=>rfl))))
 (pss_cons (ps_if (pt_cmpR op_eq (pe_op op_mod (pe_op op_fdivB (pv 1) pe_int) pe_int) pe_int (nomark _))
 (pss_one (ps_ret (pe_tup (pa_cons (pe_ix ix_tup (pv 0) pe_int (fun _ _=>rfl)) (pa_cons (pe_ix ix_tup (pv 0) pe_int (fun _ _=>rfl)) (pa_cons (pe_op op_add (pe_ix ix_tup (pv 0) pe_int (fun _ _=>rfl)) (pv 2)) pa_nil))))))
 pss_nil)
 (pss_cons (ps_if (pt_cmpR op_eq (pe_op op_mod (pe_op op_fdivB (pv 1) pe_int) pe_int) pe_int (nomark _))
 (pss_one (ps_ret (pe_tup (pa_cons (pe_ix ix_tup (pv 0) pe_int (fun _ _=>rfl)) (pa_cons (pe_op op_add (pe_ix ix_tup (pv 0) pe_int (fun _ _=>rfl)) (pv 2)) (pa_cons (pe_op op_mod (pv 1) pe_int) pa_nil))))))
 pss_nil)
 (pss_one (ps_ret (pe_tup (pa_cons (pe_op op_add (pe_ix ix_tup (pv 0) pe_int (fun _ _=>rfl)) (pv 2)) (pa_cons (pe_op op_mod (pv 1) pe_int) (pa_cons (pe_op op_mod (pv 1) pe_int) pa_nil))))))))),?_⟩
 have e:(10:Int)^(15:Int).toNat=1000000000000000:=by decide
 have hstep:∃d:Nat,d<10^15∧atI [V.int (c%5),.int (c%10^(15:Int).toNat)] (c%2)=some (.int (d:Nat)):=by
  rw[e]
  rcases(show c%2=0∨c%2=1 by omega) with h|h
  ·exact⟨(c%5).toNat,by omega,by rw[h,Int.toNat_of_nonneg (by omega)];rfl⟩
  ·exact⟨(c%1000000000000000).toNat,by omega,by rw[h,Int.toNat_of_nonneg (by omega)];rfl⟩
 obtain⟨d,hd,hat⟩:=hstep
 refine sq_asg (te_op (te_pick (ea_cons (ev_I (ev_var rfl) ev_c (by first|(show(0:Int)<_;omega)|(show(0:Int)<_;decide))) (ea_cons (ev_I (ev_var rfl) (ev_I ev_c ev_c (cpw (by decide) (by decide) (by decide))) (by first|(show(0:Int)<_;omega)|(show(0:Int)<_;decide))) ea_nil)) (by show 2≤sizeLine;decide) (fun H' _=>(ev_I (ev_var rfl) ev_c (by first|(show(0:Int)<_;omega)|(show(0:Int)<_;decide)))) hat fun H1 s1=>⟨1,(d:Nat),rfl,rfl,?_⟩))
 have ht1:=s1 _ _ ht
 dsimp only
 refine nrm (σ':=[some (.ref t),some (.int c),some (.int (1+((d:Nat):Int)))]) (by kernel_rfl) ?_
 have i0:∀{σ:St},σ[0]?=some (some (.ref t))→Ev (tOp (rIxT K) (tVar 0) (tC (.int 0))) σ H1 (.int (x:Nat)):=fun h=>ev_ixT (ev_var h) ev_c (SqT.of ht1) rfl
 have i1:∀{σ:St},σ[0]?=some (some (.ref t))→Ev (tOp (rIxT K) (tVar 0) (tC (.int 1))) σ H1 (.int (y:Nat)):=fun h=>ev_ixT (ev_var h) ev_c (SqT.of ht1) rfl
 have i2:∀{σ:St},σ[0]?=some (some (.ref t))→Ev (tOp (rIxT K) (tVar 0) (tC (.int 2))) σ H1 (.int (z:Nat)):=fun h=>ev_ixT (ev_var h) ev_c (SqT.of ht1) rfl
 have fin:∀(u v w:Nat) (p:Addr),H1 p=none→u<m+10^15→v<m+10^15→w<m+10^15→HT.lexLt [(x:Int),(y:Int),(z:Int)] [(u:Int),(v:Int),(w:Int)]=true→Q (.ref p) (upd H1 p (.tup (([(u:Int),(v:Int),(w:Int)]:List Int).map V.int))):=fun u v w p np h1 h2 h3 h4=>q p _ _ (s1.trans ((Same.refl H1).upd np)) ⟨u,v,w,rfl,h1,h2,h3⟩ h4 upd_same
 have c5:c%5=((c%5).toNat:Int):=by omega
 have c7:c%7=((c%7).toNat:Int):=by omega
 have c11:c%11=((c%11).toNat:Int):=by omega
 refine sq_if (et_test (ev_eqI (ev_I (ev_I (ev_var rfl) ev_c (cdB (by omega) (by omega))) ev_c (by first|(show(0:Int)<_;omega)|(show(0:Int)<_;decide))) ev_c)) (fun _=>?_) fun _=>?_
 ·refine rd_tup (vs:=([(x:Int),(y:Int),((z+(1+d):Nat):Int)]:List Int).map V.int) (ea_cons (i0 rfl) (ea_cons (i1 rfl) (ea_cons (ev_of (ev_I0 (g:=fun i j=>V.int (i+j)) (i2 rfl) (ev_var rfl)) (by push_cast;rfl)) ea_nil))) (by show 3≤sizeLine;decide) fun p np=>fin x y (z+(1+d)) p np (by omega) (by omega) (by omega) ?_
  rw[HT.lexLt_cons,if_pos rfl,HT.lexLt_cons,if_pos rfl,HT.lexLt_cons,if_neg (by omega)]
  exact decide_eq_true (by omega)
 refine sq_if (et_test (ev_eqI (ev_I (ev_I (ev_var rfl) ev_c (cdB (by omega) (by omega))) ev_c (by first|(show(0:Int)<_;omega)|(show(0:Int)<_;decide))) ev_c)) (fun _=>?_) fun _=>?_
 ·refine rd_tup (vs:=([(x:Int),((y+(1+d):Nat):Int),(((c%7).toNat:Nat):Int)]:List Int).map V.int) (ea_cons (i0 rfl) (ea_cons (ev_of (ev_I0 (g:=fun i j=>V.int (i+j)) (i1 rfl) (ev_var rfl)) (by push_cast;rfl)) (ea_cons (ev_of (ev_I (ev_var rfl) ev_c (by first|(show(0:Int)<_;omega)|(show(0:Int)<_;decide))) (by rw[←c7])) ea_nil))) (by show 3≤sizeLine;decide) fun p np=>fin x (y+(1+d)) (c%7).toNat p np (by omega) (by omega) (by omega) ?_
  rw[HT.lexLt_cons,if_pos rfl,HT.lexLt_cons,if_neg (by omega)]
  exact decide_eq_true (by omega)
 ·refine rd_tup (vs:=([((x+(1+d):Nat):Int),(((c%5).toNat:Nat):Int),(((c%11).toNat:Nat):Int)]:List Int).map V.int) (ea_cons (ev_of (ev_I0 (g:=fun i j=>V.int (i+j)) (i0 rfl) (ev_var rfl)) (by push_cast;rfl)) (ea_cons (ev_of (ev_I (ev_var rfl) ev_c (by first|(show(0:Int)<_;omega)|(show(0:Int)<_;decide))) (by rw[←c5])) (ea_cons (ev_of (ev_I (ev_var rfl) ev_c (by first|(show(0:Int)<_;omega)|(show(0:Int)<_;decide))) (by rw[←c11])) ea_nil))) (by show 3≤sizeLine;decide) fun p np=>fin (x+(1+d)) (c%5).toNat (c%11).toNat p np (by omega) (by omega) (by omega) ?_
  rw[HT.lexLt_cons,if_neg (by omega)]
  exact decide_eq_true (by omega)
theorem ok_Word {cDraft cReading cWireError cBadRow cBadAnswer cPt cNk:Addr}{f:Addr}{fd:FuncData}(F:Fun K "_law_word" "_law_word" sWord f fd)(T:Txt w K mg cDraft cReading cWireError cBadRow cBadAnswer cPt cNk):FnOk P w K mg base CX0 1 f fd ["spot"] spWord:=by
 have sc:FnScope ["spot"] ["spot"] (defScope sWord):=⟨rfl,rfl,rfl,by decide+kernel,rfl,by decide+kernel,by decide+kernel⟩
 refine F.ok sc (fun vs H Q E h=>by repeat (first|(obtain⟨rfl,_⟩:=h;rfl)|(obtain⟨_,h⟩:=h))) (fun cdv A outer s H vs Q E hr h=>?_)
 obtain⟨t,s,rfl,hs,ht,q⟩:=h
 refine⟨_,(pss_one (ps_ret (pe_bm PySem.F.plainAttrs_str PySem.F.slot_str_join PySem.F.type_str_join mt_join pe_str (pa_cons (pe_lc (ls:=["number"]) (ys:=[]) (ix:=[]) rfl ⟨rfl,by rfl,by rfl,by rfl,by rfl,rfl⟩ (pi_tup (pv 0)) (fun _ _ _ _ _=>(pg_name (i:=0) (show(["number"]:List Str).Nodup by decide+kernel) rfl (Or.inl rfl))) (fun _ _ _ _ _=>pf_nil) (fun _ _ _ _ _=>(pe_callTy call_str_int (by rfl) (by exact T.str_) bt_str (pa_cons (pv 0) pa_nil)))) pa_nil)))),?_⟩
 have hsz:sizeLine=2^24:=rfl
 obtain⟨x,y,z,rfl,hx,hy,hz⟩:=id hs
 refine te_bm ev_c rfl (ta_one ⟨_,rfl,t,rfl,⟨_,SqT.of ht⟩,fun D nD=>?_⟩)
 refine lc_tupG (K:=K) (xs:=([(x:Int),(y:Int),(z:Int)]:List Int).map V.int) (fun i τ H'=>∃x0:Option V,τ=[x0]∧Same H H'∧H' D=some (.lst (((([(x:Int),(y:Int),(z:Int)]:List Int).take i).map fun i=>Str.ofString (toString i)).map V.str))) ⟨none,rfl,(Same.refl H).upd nD,upd_same⟩ (fun i τ H' _ ⟨_,_,s,_⟩=>SqT.of (s _ _ ht)) ?_ ?_
 ·rintro i v τ H' hv ⟨x0,rfl,s1,eD⟩
  obtain⟨n,hn,rfl⟩:=map_at hv
  have hb:n.natAbs<10^20:=by
   have:=List.mem_of_getElem? hn
   simp only[List.mem_cons,List.not_mem_nil,or_false] at this
   rcases this with rfl|rfl|rfl<;>omega
  have hi:i<3:=by have:=(List.getElem?_eq_some_iff.mp hn).1;simpa using this
  refine gn (lc_el ?_)
  refine⟨_,rfl,n,rfl,lg (by omega) (by omega),?_⟩
  refine⟨_,eD,by rw[List.length_map,List.length_map,List.length_take];omega,_,rfl,same_at s1 nD,?_⟩
  rw[upd_same,take_one hn,List.map_append,List.map_append];rfl
 ·rintro τ H' ⟨x0,rfl,s1,eD⟩
  have e3:(([(x:Int),(y:Int),(z:Int)]:List Int).take (([(x:Int),(y:Int),(z:Int)]:List Int).map V.int).length)=[(x:Int),(y:Int),(z:Int)]:=rfl
  rw[e3] at eD
  refine⟨_,D,_,rfl,rfl,SqL.of eD,join_okL (fun w hw=>?_) (by decide) (by show 3≤1000;decide),?_⟩
  ·have sm:∀n:Nat,n<10^18→(toString ((n:Nat):Int):Str).length≤1000:=fun n h=>by
    rw[←cp_len,cp_num];exact Nat.le_trans (dg_len_le (k:=18) (by decide) h) (by decide)
   simp only[List.map_cons,List.map_nil,List.mem_cons,List.not_mem_nil,or_false] at hw
   rcases hw with rfl|rfl|rfl
   ·exact sm x hx
   ·exact sm y hy
   ·exact sm z hz
  ·refine q _ H' s1 ?_
   rw[dot,cp_glued]
   unfold spotL
   simp only[List.map_cons,List.map_nil,Int.toNat_natCast]
   rw[cp_num,cp_num,cp_num]
theorem lt_of {x y:Str}(h:PySem.Spec.ltCps y.cps.toList x.cps.toList=false)(n:x≠y):cp x<cp y:=by
 rw[PyProof.Rows.ltCps_eq] at h
 have h1:¬cp y<cp x:=of_decide_eq_false h
 by_cases h2:cp x<cp y
 ·exact h2
 ·exact absurd (str_cp (List.le_antisymm (show cp x≤cp y from h1) (show cp y≤cp x from h2))) n
theorem up_of:∀{ms:List Str},PyProof.Rows.sortedS ms=true→ms.Nodup→ms.Pairwise fun x y=>cp x<cp y
 |[],_,_=> .nil
 |[x],_,_=>List.pairwise_singleton _ _
 |x::y::r,h,nd=>by
  have h':(!PySem.Spec.ltCps y.cps.toList x.cps.toList&&PyProof.Rows.risingS y r)=true:=h
  obtain⟨h1,h2⟩:=Bool.and_eq_true_iff.mp h'
  have nd':=List.nodup_cons.mp nd
  have xy:cp x<cp y:=lt_of (by simpa using h1) fun z=>nd'.1 (by rw[z];exact List.mem_cons_self)
  have ih:=up_of (ms:=y::r) h2 nd'.2
  refine List.pairwise_cons.mpr ⟨fun z hz=>?_,ih⟩
  rcases List.mem_cons.mp hz with rfl|hz
  ·exact xy
  ·exact List.lt_trans xy ((List.pairwise_cons.mp ih).1 z hz)
def NmK (m:Nat) (q:Int) (j:Nat) (t:Str):Prop:=∃s,cp t=List.replicate m 107++(97+((q+7*(j:Int))%26).toNat)::s∧(s=[]∨s=[48]∨s=[122,57])
theorem nm_good {m:Nat}{c:Nat}{s:List Nat}(hm:m≤8)(hc:c<26)(hs:∀d∈s,fS d=true)(hl:s.length≤3):goodL (List.replicate m 107++(97+c)::s)=true:=by
 have cl:(97+c)∈lets:=by
  have:∀k,k<26→(97+k)∈lets:=by decide+kernel
  exact this c hc
 have k107:107∈lets:=by decide+kernel
 have key:∀{c:Nat} {r:List Nat},c∈lets→r.length≤11→(∀d∈r,fS d=true)→goodL (c::r)=true:=fun h1 h2 h3=>by
  rw[good_cons,decide_eq_true h2,decide_eq_true h1]
  exact List.all_eq_true.mpr h3
 have f1:fS (97+c)=true:=by unfold fS;rw[decide_eq_true cl];rfl
 cases m with
 |zero=>exact key cl (by omega) hs
 |succ k=>
  rw[List.replicate_succ,List.cons_append]
  refine key k107 (by rw[List.length_append,List.length_replicate,List.length_cons];omega) fun d hd=>?_
  rcases List.mem_append.mp hd with h|h
  ·rw[(List.mem_replicate.mp h).2];decide+kernel
  ·rcases List.mem_cons.mp h with h|h
   ·rw[h];exact f1
   ·exact hs d h
theorem nm_at {m c:Nat}{s:List Nat}:(List.replicate m 107++c::s)[m]?=some c:=by
 rw[List.getElem?_append_right (by rw[List.length_replicate];exact Nat.le_refl _),List.length_replicate,Nat.sub_self];rfl
theorem nms_of {m:Nat}{q:Int}{ts:List Str}{t:Str}(hm:m≤8)(h9:ts.length=9)(h:∀j x,ts[j]?=some x→NmK m q j x)(ht:∀x,ts[0]?=some x→cp t=cp x++[97]){ms:List Str}(hp:ms.Perm (ts++[t]))(hs:PyProof.Rows.sortedS ms=true):Nms ms:=by
 have sg:∀{s:List Nat},s=[]∨s=[48]∨s=[122,57]→(∀d∈s,fS d=true)∧s.length≤2:=fun h=>by rcases h with rfl|rfl|rfl<;>exact⟨by decide+kernel,by decide⟩
 obtain⟨x0,hx0⟩:∃x,ts[0]?=some x:=⟨ts[0],List.getElem?_eq_getElem (by omega)⟩
 have et:=ht x0 hx0
 obtain⟨s0,e0,hs0⟩:=h 0 x0 hx0
 have tail:∀(j:Nat) (x:Str),ts[j]?=some x→(cp x)[m]?=some (97+((q+7*(j:Int))%26).toNat):=fun j x hx=>by
  obtain⟨s,e,_⟩:=h j x hx
  rw[e];exact nm_at
 have t0:(cp t)[m]?=some (97+((q+7*((0:Nat):Int))%26).toNat):=by rw[et,e0,List.append_assoc,List.cons_append];exact nm_at
 have nd:(ts++[t]).Nodup:=by
  rw[List.nodup_append]
  refine⟨?_,by simp,fun a ha b hb e=>?_⟩
  ·rw[List.Nodup,List.pairwise_iff_getElem]
   intro i j hi hj hij e
   have z1:=tail i ts[i] (List.getElem?_eq_getElem hi)
   have z2:=tail j ts[j] (List.getElem?_eq_getElem hj)
   rw[e,z2] at z1
   have:=Option.some.inj z1
   omega
  ·rw[List.mem_singleton.mp hb] at e
   obtain⟨j,hj⟩:=List.getElem?_of_mem ha
   have z1:=tail j a hj
   rw[e,t0] at z1
   have hj9:j<9:=by have:=(List.getElem?_eq_some_iff.mp hj).1;omega
   have z:=Option.some.inj z1
   have j0:j=0:=by omega
   subst j0
   rw[hx0] at hj
   cases hj
   rw[e] at et
   have:=congrArg List.length et
   simp at this
 refine⟨by rw[hp.length_eq,List.length_append,h9];rfl,fun x hx=>?_,up_of hs (hp.nodup_iff.mpr nd)⟩
 rcases List.mem_append.mp (hp.mem_iff.mp hx) with hx|hx
 ·obtain⟨j,hj⟩:=List.getElem?_of_mem hx
  obtain⟨s,e,hs⟩:=h j x hj
  rw[e]
  exact nm_good hm (by omega) (sg hs).1 (Nat.le_trans (sg hs).2 (by decide))
 ·rw[List.mem_singleton.mp hx,et,e0,List.append_assoc,List.cons_append]
  refine nm_good hm (by omega) (fun d hd=>?_) (by rw[List.length_append];have:=(sg hs0).2;simp;omega)
  rcases List.mem_append.mp hd with z|z
  ·exact(sg hs0).1 d z
  ·rw[List.mem_singleton.mp z];decide+kernel
theorem alph:∀i,i<26→(Str.ofString "abcdefghijklmnopqrstuvwxyz").cps.toList[i]?=some (97+i):=by decide+kernel
theorem ok_Names {cDraft cReading cWireError cBadRow cBadAnswer cPt cNk:Addr}{f:Addr}{fd:FuncData}(F:Fun K "_law_names" "_law_names" sNames f fd)(T:Txt w K mg cDraft cReading cWireError cBadRow cBadAnswer cPt cNk):FnOk P w K mg base CX0 1 f fd ["cell"] spNames:=by
 have sc:FnScope ["cell", "names", "k", "sign"] ["cell"] (defScope sNames):=⟨rfl,rfl,rfl,by decide+kernel,rfl,by decide+kernel,by decide+kernel⟩
 refine F.ok sc (fun vs H Q E h=>by repeat (first|(obtain⟨rfl,_⟩:=h;rfl)|(obtain⟨_,h⟩:=h))) (fun cdv A outer s H vs Q E hr h=>?_)
 obtain⟨c,rfl,q⟩:=h
 refine⟨_,(pss_cons (ps_set (i:=1) sc.nd rfl (Or.inl rfl) (pe_lst pa_nil))
 (pss_cons (ps_for PassesOwn.never rfl (pi_range1 (by rfl) T.range_ (pa_cons pe_int pa_nil)) (pg_name (i:=2) sc.nd rfl (Or.inl rfl))
 (pss_cons (ps_set (i:=3) sc.nd rfl (Or.inl rfl) (pe_ix ix_str pe_str (pe_op op_mod (pe_op op_add (pe_op op_fdivB (pv 0) pe_int) (pe_op op_mul pe_int (pv 2))) pe_int) (fun _ _=>rfl)))
 (pss_one (ps_expr (pe_bm PySem.F.plainAttrs_list PySem.F.slot_list_append PySem.F.type_list_append mt_append (pv 1) (pa_cons (pe_op op_add_str (pe_op op_add_str (pe_op op_repS pe_str (pe_op op_mod (pv 0) pe_int)) (pv 3)) (pe_ix ix_list (pe_lst (pa_cons pe_str (pa_cons pe_str (pa_cons pe_str pa_nil)))) (pe_op op_mod (pe_op op_add (pe_op op_fdivB (pv 0) pe_int) (pv 2)) pe_int) (fun _ _=>rfl))) pa_nil))))))
 (pss_cons (ps_expr (pe_bm PySem.F.plainAttrs_list PySem.F.slot_list_append PySem.F.type_list_append mt_append (pv 1) (pa_cons (pe_op op_add_str (pe_ix ix_list (pv 1) pe_int (fun _ _=>rfl)) pe_str) pa_nil)))
 (pss_one (ps_ret (pe_callB call_sortedS (by rfl) T.sorted_ bt_sorted (pa_cons (pv 1) pa_nil))))))),?_⟩
 have hsz:sizeLine=2^24:=rfl
 refine sq_lst (vs:=[]) ea_nil (by show 0≤sizeLine;decide) fun D nD=>?_
 have s0:Same H (upd H D (.lst [])):=(Same.refl H).upd nD
 have hD0:upd H D (.lst []) D=some (.lst (([]:List Str).map V.str)):=upd_same
 revert s0 hD0
 generalize upd H D _=H0
 intro s0 hD0
 obtain⟨m,hm⟩:=Int.eq_ofNat_of_zero_le (show 0≤c%9 by omega)
 have hm8:m≤8:=by omega
 refine sq_rng1 (j:=9) (ea_cons ev_c ea_nil) (by decide) (by decide) ?_
 refine for_range (n:=9) (fun i σ H'=>∃(x2 x3:Option V) (ts:List Str),σ=[some (.int c),some (.ref D),x2,x3]∧Same H H'∧H' D=some (.lst (ts.map V.str))∧ts.length=i∧∀j x,ts[j]?=some x→NmK m (c/9) j x) ⟨none,none,[],rfl,s0,hD0,rfl,fun j x h=>by simp at h⟩ ?_ ?_
 ·rintro i σ H' hi ⟨x2,x3,ts,rfl,s1,hD,hl,hN⟩
  have hi:i<9:=hi
  refine gn ?_
  have hk:((c/9+7*(0+(i:Int)))%26)=((((c/9+7*(i:Int))%26).toNat:Nat):Int):=by omega
  refine sq_set (v:=.str ⟨#[97+((c/9+7*(i:Int))%26).toNat]⟩) (ev_ixS ev_c (ev_I (ev_I0 (ev_I (ev_var rfl) ev_c (cdB (by decide) (by decide))) (ev_I ev_c (ev_var rfl) (cmL (by decide) (by decide)))) ev_c (by show(0:Int)<26;decide)) (by decide) ?_) ?_
  ·rw[hk];exact atI_nat (alph _ (by omega))
  refine te_bm (ev_var rfl) (.inl ⟨rfl,_,SqL.of hD⟩) (ta_one (te_op (te_op (te_op ?_))))
  refine te_use ev_c (te_use (v:=.int (c%9)) (ev_I (ev_var rfl) ev_c (by show(0:Int)<9;decide)) ⟨_,c%9,rfl,rfl,by omega,by omega,by decide,fun r hr=>?_⟩)
  have er:cp r=List.replicate m 107:=by
   rw[hr,hm,show cp (Str.ofString "k")=[107] by decide+kernel]
   have:∀k:Nat,(List.replicate k [107]).flatten=List.replicate k 107:=fun k=>by
    induction k with
    |zero=>rfl
    |succ k ih=>rw[List.replicate_succ,List.flatten_cons,ih,List.replicate_succ];rfl
   exact this m
  have rl:r.length=m:=by rw[←cp_len,er,List.length_replicate]
  refine te_use (ev_var rfl) ⟨r,_,rfl,rfl,by rw[rl,hsz];show m+1≤_;omega,?_⟩
  have hp3:∃s:Str,atI [V.str (Str.ofString ""),.str (Str.ofString "0"),.str (Str.ofString "z9")] ((c/234+(0+(i:Int)))%3)=some (.str s)∧(cp s=[]∨cp s=[48]∨cp s=[122,57]):=by
   rcases(show(c/234+(0+(i:Int)))%3=0∨(c/234+(0+(i:Int)))%3=1∨(c/234+(0+(i:Int)))%3=2 by omega) with h|h|h<;>rw[h]
   ·exact⟨_,rfl,.inl (by decide+kernel)⟩
   ·exact⟨_,rfl,.inr (.inl (by decide+kernel))⟩
   ·exact⟨_,rfl,.inr (.inr (by decide+kernel))⟩
  obtain⟨s,hs1,hs2⟩:=hp3
  have sl:s.length≤2:=by rw[←cp_len];rcases hs2 with h|h|h<;>rw[h]<;>decide
  refine te_pick (ea_cons ev_c (ea_cons ev_c (ea_cons ev_c ea_nil))) (by show 3≤sizeLine;decide) (fun H2 _=>ev_I (ev_I0 (ev_I (ev_var rfl) ev_c (cdB (by decide) (by decide))) (ev_var rfl)) ev_c (by show(0:Int)<3;decide)) hs1 fun H2 s2=>?_
  have e2:cp (r++(⟨#[97+((c/9+7*(i:Int))%26).toNat]⟩:Str))=List.replicate m 107++[97+((c/9+7*(i:Int))%26).toNat]:=by rw[cp_app,er]
  have l2:(r++(⟨#[97+((c/9+7*(i:Int))%26).toNat]⟩:Str)).length=m+1:=by rw[←cp_len,e2];simp
  refine⟨_,s,rfl,rfl,by rw[l2,hsz];omega,?_⟩
  refine⟨D,_,_,rfl,rfl,s2 _ _ hD,by rw[List.length_map];omega,?_⟩
  refine⟨_,_,ts++[r++(⟨#[97+((c/9+7*(i:Int))%26).toNat]⟩:Str)++s],rfl,same_at (s1.trans s2) nD,by rw[upd_same,List.map_append]<;>rfl,by rw[List.length_append,hl]<;>rfl,fun j x hx=>?_⟩
  rcases Nat.lt_or_ge j ts.length with z|z
  ·rw[List.getElem?_append_left z] at hx;exact hN j x hx
  ·have e:j=ts.length:=by
    have:=(List.getElem?_eq_some_iff.mp hx).1
    rw[List.length_append] at this
    simp at this;omega
   subst e
   rw[List.getElem?_append_right (Nat.le_refl _),Nat.sub_self] at hx
   cases hx
   refine⟨cp s,?_,hs2⟩
   rw[cp_app,e2,hl,List.append_assoc];rfl
 ·rintro σ H' ⟨x2,x3,ts,rfl,s1,hD,hl,hN⟩
  have hl9:ts.length=9:=hl
  obtain⟨t0,tr,rfl⟩:∃t0 tr,ts=t0::tr:=by cases ts with|nil=>simp at hl9|cons a r=>exact⟨a,r,rfl⟩
  refine st ?_
  obtain⟨s0',e0,hs0⟩:=hN 0 t0 rfl
  have l0:t0.length≤12:=by
   rw[←cp_len,e0,List.length_append,List.length_replicate,List.length_cons]
   rcases hs0 with rfl|rfl|rfl<;>simp<;>omega
  refine te_bm (ev_var rfl) (.inl ⟨rfl,_,SqL.of hD⟩) (ta_ev (ev_addS (x:=t0) (y:=Str.ofString "a") (ev_ixL (v:=.str t0) (ev_var rfl) ev_c (SqL.of hD) at0) ev_c (by rw[hsz,show(Str.ofString "a").length=1 by decide+kernel];omega)) ⟨D,_,_,rfl,rfl,hD,by rw[List.length_map,hl9];decide,?_⟩)
  have s2:Same H (upd H' D (.lst ((t0::tr).map V.str++[.str (t0++Str.ofString "a")]))):=same_at s1 nD
  have hD2:upd H' D (.lst ((t0::tr).map V.str++[.str (t0++Str.ofString "a")])) D=some (.lst (((t0::tr)++[t0++Str.ofString "a"]).map V.str)):=by rw[upd_same,List.map_append];rfl
  revert s2 hD2
  generalize upd H' D _=H2
  intro s2 hD2
  dsimp only
  refine rd_te (te_cbA (ea_cons (ev_var rfl) ea_nil) ⟨D,_,rfl,SqL.of hD2,by rw[List.length_append,hl9];show 9+1<64;decide,fun l ms nl hp hs=>?_⟩)
  refine q l ms _ (s2.trans ((Same.refl H2).upd nl)) ?_ (nms_of hm8 hl9 hN (fun x hx=>by cases hx;rw[cp_app];congr 1) hp hs) upd_same
  cases e:H l with
  |none=>rfl
  |some o=>rw[s2 _ _ e] at nl;cases nl
theorem jl2 (c:Nat)(a b:List Nat):jl c [a,b]=a++c::b:=rfl
theorem jl3 (c:Nat)(a b d:List Nat):jl c [a,b,d]=a++c::(b++c::d):=rfl
theorem jl4 (c:Nat)(a b d e:List Nat):jl c [a,b,d,e]=a++c::(b++c::(d++c::e)):=rfl
theorem len_spot {x:Str}{s:List Int}(h:S3 (10^18) s)(e:cp x=spotL s):x.length≤60:=by rw[←cp_len,e];exact(spotL_all h).2
theorem len_num {i:Int}(h:i.natAbs<10^18):(Str.ofString (toString i)).length≤20:=by rw[←cp_len];exact(numL_all h).2
theorem lg_num {i:Int}(h:i.natAbs<10^18):i.natAbs.log2<1920:=lg (by omega) (by omega)
theorem ok_Head {cDraft cReading cWireError cBadRow cBadAnswer cPt cNk:Addr}{f:Addr}{fd:FuncData}(F:Fun K "_law_head" "_law_head" sHead f fd)(T:Txt w K mg cDraft cReading cWireError cBadRow cBadAnswer cPt cNk):FnOk P w K mg base CX0 1 f fd ["block"] spHead:=by
 have sc:FnScope ["block", "words"] ["block"] (defScope sHead):=⟨rfl,rfl,rfl,by decide+kernel,rfl,by decide+kernel,by decide+kernel⟩
 refine F.ok sc (fun vs H Q E h=>by repeat (first|(obtain⟨rfl,_⟩:=h;rfl)|(obtain⟨_,h⟩:=h))) (fun cdv A outer s H vs Q E hr h=>?_)
 obtain⟨a,n,F,b,rfl,⟨ln,l4,l5,l6,l7,l8,lr,x4,x5,x6,x7,x8,x⟩,hd,q⟩:=h
 refine⟨_,(pss_cons (ps_if (pt_cmpR op_eq (pe_ix ix_list (pv 0) pe_int (fun _ _=>rfl)) pe_int (nomark _))
 (pss_one (ps_ret (pe_op op_add_str pe_str (pe_ix ix_list (pv 0) pe_int (fun _ _=>rfl)))))
 pss_nil)
 (pss_cons (ps_set (i:=1) sc.nd rfl (Or.inl rfl) (pe_lst (pa_cons (pe_ix ix_list (pe_lst (pa_cons pe_str (pa_cons pe_str (pa_cons pe_str pa_nil)))) (pe_ix ix_list (pv 0) pe_int (fun _ _=>rfl)) (fun _ _=>rfl)) (pa_cons (pe_ix ix_list (pv 0) pe_int (fun _ _=>rfl)) (pa_cons (pe_ix ix_list (pv 0) pe_int (fun _ _=>rfl)) pa_nil)))))
 (pss_one (ps_ret (pe_bm PySem.F.plainAttrs_str PySem.F.slot_str_join PySem.F.type_str_join mt_join pe_str (pa_cons (pe_op op_cat (pv 1) (pe_lc (ls:=["number"]) (ys:=[]) (ix:=[]) rfl ⟨rfl,by rfl,by rfl,by rfl,by rfl,rfl⟩ (pi_list (pe_ix ix_list (pv 0) pe_int (fun _ _=>rfl))) (fun _ _ _ _ _=>(pg_name (i:=0) (show(["number"]:List Str).Nodup by decide+kernel) rfl (Or.inl rfl))) (fun _ _ _ _ _=>pf_nil) (fun _ _ _ _ _=>(pe_callTy call_str_int (by rfl) (by exact T.str_) bt_str (pa_cons (pv 0) pa_nil))))) pa_nil)))))),?_⟩
 have hsz:sizeLine=2^24:=rfl
 have nl:b.name.length≤12:=by
  have:=hd.nm
  rw[←cp_len]
  cases e:cp b.name with
  |nil=>simp
  |cons c r=>
   rw[e,good_cons] at this
   simp only[Bool.and_eq_true,decide_eq_true_iff] at this
   simp;omega
 refine sq_if (et_test (ev_eqI (ev_ixL (v:=.int (b.part:Nat)) (ev_var rfl) ev_c (SqL.of x.ha) rfl) ev_c)) (fun e=>?_) fun e=>?_
 ·have e0:b.part=0:=by have:=of_decide_eq_true e;omega
  refine rd_ret (ev_addS ev_c (ev_ixL (v:=.str b.name) (ev_var rfl) ev_c (SqL.of x.ha) rfl) (by rw[hsz,show(Str.ofString "laid ").length=5 by decide+kernel];omega)) (q _ H (Same.refl H) ?_)
  unfold headL headW
  rw[if_pos e0,cp_app,show cp (Str.ofString "laid ")=L "laid" ++[32] by decide+kernel,jl2]
  simp
 ·have e0:b.part≠0:=fun z=>of_decide_eq_false e (by rw[z];rfl)
  have hp:atI [V.str (Str.ofString "laid"),.str (Str.ofString "paper"),.str (Str.ofString "never")] ((b.part:Nat):Int)=some (.str (pS b.part)):=by
   have:=hd.p3
   match b.part,this with
   |0,_=>rfl
   |1,_=>rfl
   |2,_=>rfl
  refine sq_asg (te_lstA (ta_one (te_pick (ea_cons ev_c (ea_cons ev_c (ea_cons ev_c ea_nil))) (by show 3≤sizeLine;decide) (fun H1 s1=>ev_ixL (v:=.int (b.part:Nat)) (ev_var rfl) ev_c (SqL.of (s1 _ _ x.ha)) rfl) hp fun H1 s1=>ta_ev (ev_ixL (v:=.str b.name) (ev_var rfl) ev_c (SqL.of (s1 _ _ x.ha)) rfl) (ta_ev (ev_ixL (v:=.str (kS b.kind)) (ev_var rfl) ev_c (SqL.of (s1 _ _ x.ha)) rfl) ⟨(by show 3≤sizeLine;decide),fun p np=>?_⟩))))
  have s2:Same H1 (upd H1 p (.lst [.str (pS b.part),.str b.name,.str (kS b.kind)])):=(Same.refl H1).upd np
  have hp2:upd H1 p (.lst [.str (pS b.part),.str b.name,.str (kS b.kind)]) p=some (.lst (([pS b.part,b.name,kS b.kind]).map V.str)):=upd_same
  revert s2 hp2
  generalize upd H1 p _=H2
  intro s2 hp2
  have x2:=(x.same s1).same s2
  refine te_bm ev_c rfl (ta_one (te_op (te_use (ev_var rfl) (te_lcL (xs:=b.nums.map V.int) (ev_ixL (v:=.ref ln) (ev_var rfl) ev_c (SqL.of x2.ha) rfl) (SqL.of x2.hn) fun D nD=>?_))))
  have nn:b.nums.length≤2:=by rw[hd.nn];unfold kN;split<;>(try split)<;>decide
  refine lc_listG (K:=K) (xs:=b.nums.map V.int) (fun i τ H'=>∃x0:Option V,τ=[x0]∧Same H2 H'∧H' D=some (.lst (((b.nums.take i).map fun i=>Str.ofString (toString i)).map V.str))) ⟨none,rfl,(Same.refl H2).upd nD,upd_same⟩ (fun i τ H' _ ⟨_,_,s,_⟩=>SqL.of (s _ _ x2.hn)) ?_ ?_
  ·rintro i v τ H' hv ⟨x0,rfl,s3,eD⟩
   obtain⟨k,hk,rfl⟩:=map_at hv
   refine gn (lc_el ?_)
   refine⟨_,rfl,k,rfl,lg_num (hd.nb k (List.mem_of_getElem? hk)),?_⟩
   refine⟨_,eD,by rw[List.length_map,List.length_map,List.length_take];omega,_,rfl,same_at s3 nD,?_⟩
   rw[upd_same,take_one hk,List.map_append,List.map_append];rfl
  ·rintro τ H' ⟨x0,rfl,s3,eD⟩
   rw[List.length_map,List.take_length] at eD
   refine⟨p,D,_,_,rfl,rfl,s3 _ _ hp2,eD,by rw[List.length_map,List.length_map,List.length_map];show 3+_≤_;omega,fun p3 n3=>?_⟩
   have s4:Same H' (upd H' p3 (.lst (([pS b.part,b.name,kS b.kind]).map V.str++(b.nums.map fun i=>Str.ofString (toString i)).map V.str))):=(Same.refl H').upd n3
   have h4:upd H' p3 (.lst (([pS b.part,b.name,kS b.kind]).map V.str++(b.nums.map fun i=>Str.ofString (toString i)).map V.str)) p3=some (.lst (([pS b.part,b.name,kS b.kind]++b.nums.map fun i=>Str.ofString (toString i)).map V.str)):=by rw[upd_same,←List.map_append]
   revert s4 h4
   generalize upd H' p3 _=H4
   intro s4 h4
   have pl5:(pS b.part).length≤5:=by
    have:=hd.p3
    match b.part,this with
    |0,_|1,_|2,_=>decide+kernel
   have kl6:(kS b.kind).length≤6:=by
    have:=hd.k4
    match b.kind,this with
    |0,_|1,_|2,_|3,_|4,_=>decide+kernel
   refine⟨_,p3,_,rfl,rfl,SqL.of h4,join_okL (fun w hw=>?_) (by decide) (by rw[List.length_append,List.length_map];show 3+_≤_;omega),?_⟩
   ·rcases List.mem_append.mp hw with hw|hw
    ·simp only[List.mem_cons,List.not_mem_nil,or_false] at hw
     rcases hw with rfl|rfl|rfl<;>omega
    ·obtain⟨k,hk,rfl⟩:=List.mem_map.mp hw
     exact Nat.le_trans (len_num (hd.nb k hk)) (by decide)
   ·refine q _ H4 ((s1.trans s2).trans (s3.trans s4)) ?_
    rw[blank,cp_glued]
    unfold headL headW pL kL
    rw[if_neg e0,List.map_append,List.map_map]
    rfl
theorem ok_Stepped {cDraft cReading cWireError cBadRow cBadAnswer cPt cNk:Addr}{f:Addr}{fd:FuncData}(F:Fun K "_law_stepped" "_law_stepped" sStepped f fd)(T:Txt w K mg cDraft cReading cWireError cBadRow cBadAnswer cPt cNk)(gSpot:Callee P w K mg base "_law_spot" 1 ["cell"] spSpot)(gWord:Callee P w K mg base "_law_word" 1 ["spot"] spWord):FnOk P w K mg base CX0 2 f fd ["block", "cell", "mixed"] spStepped:=by
 have sc:FnScope ["block", "cell", "mixed", "one", "two"] ["block", "cell", "mixed"] (defScope sStepped):=⟨rfl,rfl,rfl,by decide+kernel,rfl,by decide+kernel,by decide+kernel⟩
 refine F.ok sc (fun vs H Q E h=>by repeat (first|(obtain⟨rfl,_⟩:=h;rfl)|(obtain⟨_,h⟩:=h))) (fun cdv A outer s H vs Q E hr h=>?_)
 obtain⟨a,l4,lr,c,m,xs,x4,rs,rfl,ha,i4,i10,h11,h4,hr4,a4,ar,e4,n4,nr,q⟩:=h
 refine⟨_,(pss_cons (ps_set (i:=3) sc.nd rfl (Or.inl rfl) (pe_cal gSpot (hr.mono (by decide)) (by rfl) (pa_cons (pv 1) pa_nil)))
 (pss_cons (ps_set (i:=4) sc.nd rfl (Or.inl rfl) (pe_cal gSpot (hr.mono (by decide)) (by rfl) (pa_cons (pe_op op_add (pe_op op_fdivB (pv 1) pe_int) (pv 2)) pa_nil)))
 (pss_cons (ps_expr (pe_bm PySem.F.plainAttrs_list PySem.F.slot_list_append PySem.F.type_list_append mt_append (pe_ix ix_list (pv 0) pe_int (fun _ _=>rfl)) (pa_cons (pe_tup (pa_cons (pv 3) (pa_cons (pv 4) pa_nil))) pa_nil)))
 (pss_one (ps_expr (pe_bm PySem.F.plainAttrs_list PySem.F.slot_list_append PySem.F.type_list_append mt_append (pe_ix ix_list (pv 0) pe_int (fun _ _=>rfl)) (pa_cons (pe_op op_add_str (pe_op op_add_str (pe_op op_add_str pe_str (pe_cal gWord (hr.mono (by decide)) (by rfl) (pa_cons (pv 3) pa_nil))) pe_str) (pe_cal gWord (hr.mono (by decide)) (by rfl) (pa_cons (pv 4) pa_nil))) pa_nil))))))),?_⟩
 have hsz:sizeLine=2^24:=rfl
 refine sq_asg (te_cal (ea_cons (ev_var rfl) ea_nil) ⟨c,rfl,fun t1 s1 H1 k1 b1 ht1=>?_⟩)
 refine sq_asg (te_cal (ea_cons (ev_I0 (ev_I (ev_var rfl) ev_c (cdB (by omega) (by omega))) (ev_var rfl)) ea_nil) ⟨_,rfl,fun t2 s2 H2 k2 b2 ht2=>?_⟩)
 dsimp only
 refine nrm (σ':=[some (.ref a),some (.int c),some (.int m),some (.ref t1),some (.ref t2)]) (by kernel_rfl) ?_
 have k12:=k1.trans k2
 have ht1:=k2 _ _ ht1
 refine te_bm (ev_ixL (v:=.ref l4) (ev_var rfl) ev_c (SqL.of (k12 _ _ ha)) (atI_nat (j:=4) i4)) (.inl ⟨rfl,_,SqL.of (k12 _ _ h4)⟩) (ta_one (te_tup (vs:=[.ref t1,.ref t2]) (ea_cons (ev_var rfl) (ea_cons (ev_var rfl) ea_nil)) (by show 2≤sizeLine;decide) fun p np=>?_))
 have k3:Same H2 (upd H2 p (.tup [.ref t1,.ref t2])):=(Same.refl H2).upd np
 revert k3
 generalize upd H2 p _=H3
 intro k3
 have k13:=k12.trans k3
 refine⟨l4,x4,_,rfl,rfl,k13 _ _ h4,by omega,?_⟩
 have up:∀{z o},z≠l4→H3 z=some o→upd H3 l4 (.lst (x4++[.ref p])) z=some o:=fun h e=>by rw[upd_ne h];exact e
 have f4:FK [l4,lr] H (upd H3 l4 (.lst (x4++[.ref p]))):=FK.set (FK.of k13) (by simp)
 have g4:upd H3 l4 (.lst (x4++[.ref p])) l4=some (.lst (x4++[.ref p])):=upd_same
 have ga:=up a4 (k13 _ _ ha)
 have gr:=up e4.symm (k13 _ _ hr4)
 have g1:=up (ne_o (k3 _ _ ht1) (k13 _ _ h4) (fun z=>nomatch z)) (k3 _ _ ht1)
 have g2:=up (ne_o (k3 _ _ ht2) (k13 _ _ h4) (fun z=>nomatch z)) (k3 _ _ ht2)
 revert f4 g4 ga gr g1 g2
 generalize upd H3 l4 _=H4
 intro f4 g4 ga gr g1 g2
 have S1:=b1.mono (k:=10^18) (by decide)
 have S2:=b2.mono (k:=10^18) (by decide)
 dsimp only
 refine te_bm (ev_ixL (v:=.ref lr) (ev_var rfl) ev_c (SqL.of ga) (atI_nat (j:=10) i10)) (.inl ⟨rfl,_,SqL.of gr⟩) (ta_one (te_op (te_op (te_op (te_use ev_c (te_cal (ea_cons (ev_var rfl) ea_nil) ⟨t1,s1,rfl,S1,g1,fun x1 H5 k5 ex1=>⟨_,x1,rfl,rfl,?_,te_use ev_c ⟨_,_,rfl,rfl,?_,te_cal (ea_cons (ev_var rfl) ea_nil) ⟨t2,s2,rfl,S2,k5 _ _ g2,fun x2 H6 k6 ex2=>⟨_,x2,rfl,rfl,?_,?_⟩⟩⟩⟩⟩))))))
 ·have:=len_spot S1 ex1;rw[hsz,show(Str.ofString "step ").length=5 by decide+kernel];omega
 ·have:=len_spot S1 ex1;rw[hsz,strLen_append,show(Str.ofString "step ").length=5 by decide+kernel,show(Str.ofString " ").length=1 by decide+kernel];omega
 ·have:=len_spot S1 ex1;have:=len_spot S2 ex2;rw[hsz,strLen_append,strLen_append,show(Str.ofString "step ").length=5 by decide+kernel,show(Str.ofString " ").length=1 by decide+kernel];omega
 ·have k56:=k5.trans k6
  refine⟨lr,_,_,rfl,rfl,k56 _ _ gr,by rw[List.length_map];omega,?_⟩
  refine q (.ref p) (Str.ofString "step " ++x1++Str.ofString " " ++x2) s1 s2 _ (FK.set (f4.trans (FK.of k56)) (by simp)) (by rw[upd_ne e4];exact k56 _ _ g4) (by rw[upd_same,List.map_append];rfl) S1 S2 ?_
  rw[cp_app,cp_app,cp_app,ex1,ex2,show cp (Str.ofString "step ")=L "step" ++[32] by decide+kernel,show cp (Str.ofString " ")=[32] by decide+kernel,jl3]
  simp
theorem sps_snoc {ss:List (List Int)}{s:List Int}(h:Sps ss)(hl:ss.length<90)(hb:S3 (10^17+(ss.length+1)*10^15) s)(hu:∀u,ss.getLast?=some u→HT.lexLt u s=true):Sps (ss++[s]):=by
 refine⟨fun i x hx=>?_,?_,by rw[List.length_append];simp;omega⟩
 ·rcases Nat.lt_or_ge i ss.length with z|z
  ·rw[List.getElem?_append_left z] at hx;exact h.bd i x hx
  ·have e:i=ss.length:=by
    have:=(List.getElem?_eq_some_iff.mp hx).1
    rw[List.length_append] at this
    simp at this;omega
   subst e
   rw[List.getElem?_append_right (Nat.le_refl _),Nat.sub_self] at hx
   cases hx
   exact hb
 ·rw[List.pairwise_append]
  refine⟨h.up,List.pairwise_singleton _ _,fun x hx y hy=>?_⟩
  rw[List.mem_singleton.mp hy]
  rcases List.eq_nil_or_concat ss with e|⟨r,l,e⟩
  ·rw[e] at hx;cases hx
  ·rw[e,List.concat_eq_append] at hx hu
   have hl:=hu l (by simp)
   have up:=h.up
   rw[e,List.concat_eq_append,List.pairwise_append] at up
   rcases List.mem_append.mp hx with z|z
   ·exact lex_trans _ _ _ (up.2.2 x z l (by simp)) hl
   ·rw[List.mem_singleton.mp z];exact hl
theorem prs_last {H:Hp}{ps:List V}{ss:List (List Int)}(h:Paired (PrA H) ps ss)(ne:ps≠[]):∃p0 r s0 v s,ps=p0++[v]∧ss=s0++[s]∧PrA H v s∧r=s0.length∧ss.getLast?=some s:=by
 have hl:=Paired.length h
 rcases List.eq_nil_or_concat ps with e|⟨p0,v,e⟩
 ·exact absurd e ne
 ·rcases List.eq_nil_or_concat ss with e2|⟨s0,s,e2⟩
  ·rw[e,e2] at hl;simp at hl
  ·rw[List.concat_eq_append] at e e2
   refine⟨p0,_,s0,v,s,e,e2,?_,rfl,by rw[e2];simp⟩
   have l0:p0.length=s0.length:=by rw[e,e2] at hl;simpa using hl
   obtain⟨b,hb,r⟩:=paired_at h (i:=p0.length) (a:=v) (by rw[e];simp)
   rw[e2,l0] at hb
   simp at hb
   rw[hb];exact r
theorem ok_Lifted {cDraft cReading cWireError cBadRow cBadAnswer cPt cNk:Addr}{f:Addr}{fd:FuncData}(F:Fun K "_law_lifted" "_law_lifted" sLifted f fd)(T:Txt w K mg cDraft cReading cWireError cBadRow cBadAnswer cPt cNk)(gNumber:Callee P w K mg base "_law_number" 1 ["cell"] spNumber)(gSpot:Callee P w K mg base "_law_spot" 1 ["cell"] spSpot)(gBehind:Callee P w K mg base "_law_behind" 1 ["spot", "cell"] spBehind)(gWord:Callee P w K mg base "_law_word" 1 ["spot"] spWord):FnOk P w K mg base CX0 2 f fd ["block", "pairs", "cell", "mixed"] spLifted:=by
 have sc:FnScope ["block", "pairs", "cell", "mixed", "spot", "numbers", "row"] ["block", "pairs", "cell", "mixed"] (defScope sLifted):=⟨rfl,rfl,rfl,by decide+kernel,rfl,by decide+kernel,by decide+kernel⟩
 refine F.ok sc (fun vs H Q E h=>by repeat (first|(obtain⟨rfl,_⟩:=h;rfl)|(obtain⟨_,h⟩:=h))) (fun cdv A outer s H vs Q E hr h=>?_)
 obtain⟨a,lp,lr,c,m,k,xs,ps,ss,rs,rfl,m0,ha,i2,hk,i10,h11,hlp,hpr,hsp,hsl,hlr,alp,alr,elr,nr,q⟩:=h
 refine⟨_,(pss_cons (ps_set (i:=4) sc.nd rfl (Or.inl rfl) (pe_cal gSpot (hr.mono (by decide)) (by rfl) (pa_cons (pv 3) pa_nil)))
 (pss_cons (ps_if (pt_cmpR (op_ne0 hr) (pv 1) (pe_lst pa_nil) (nomark _))
 (pss_one (ps_set (i:=4) sc.nd rfl (Or.inl rfl) (pe_cal gBehind (hr.mono (by decide)) (by rfl) (pa_cons (pe_ix ix_tup (pe_ix ix_list (pv 1) (pe_un un_neg pe_int) (fun _ _=>rfl)) pe_int (fun _ _=>rfl)) (pa_cons (pv 3) pa_nil)))))
 pss_nil)
 (pss_cons (ps_set (i:=5) sc.nd rfl (Or.inl rfl) (pe_lst (pa_cons (pe_cal gNumber (hr.mono (by decide)) (by rfl) (pa_cons (pv 2) pa_nil)) (pa_cons (pe_cal gNumber (hr.mono (by decide)) (by rfl) (pa_cons (pe_op op_add (pe_op op_mul (pv 2) pe_int) (pv 3)) pa_nil)) pa_nil))))
 (pss_cons (ps_set (i:=6) sc.nd rfl (Or.inl rfl) (pe_op op_add_str (pe_op op_add_str (pe_op op_add_str pe_str (pe_cal gWord (hr.mono (by decide)) (by rfl) (pa_cons (pv 4) pa_nil))) pe_str) (pe_callTy call_str_int (by rfl) T.str_ bt_str (pa_cons (pe_ix ix_list (pv 5) pe_int (fun _ _=>rfl)) pa_nil))))
 (pss_cons (ps_if (pt_cmpR op_eq (pe_ix ix_list (pv 0) pe_int (fun _ _=>rfl)) pe_str (nomark _))
 (pss_one (ps_expr (pe_bm PySem.F.plainAttrs_list PySem.F.slot_list_append PySem.F.type_list_append mt_append (pv 1) (pa_cons (pe_tup (pa_cons (pv 4) (pa_cons (pe_ix ix_list (pv 5) pe_int (fun _ _=>rfl)) pa_nil))) pa_nil))))
 (pss_cons (ps_expr (pe_bm PySem.F.plainAttrs_list PySem.F.slot_list_append PySem.F.type_list_append mt_append (pv 1) (pa_cons (pe_tup (pa_cons (pv 4) (pa_cons (pe_tup (pa_cons (pe_ix ix_list (pv 5) pe_int (fun _ _=>rfl)) (pa_cons (pe_ix ix_list (pv 5) pe_int (fun _ _=>rfl)) pa_nil))) pa_nil))) pa_nil)))
 (pss_one (ps_set (i:=6) sc.nd rfl (Or.inl rfl) (pe_op op_add_str (pe_op op_add_str (pv 6) pe_str) (pe_callTy call_str_int (by rfl) T.str_ bt_str (pa_cons (pe_ix ix_list (pv 5) pe_int (fun _ _=>rfl)) pa_nil)))))))
 (pss_one (ps_expr (pe_bm PySem.F.plainAttrs_list PySem.F.slot_list_append PySem.F.type_list_append mt_append (pe_ix ix_list (pv 0) pe_int (fun _ _=>rfl)) (pa_cons (pv 6) pa_nil))))))))),?_⟩
 have hsz:sizeLine=2^24:=rfl
 have pl:=Paired.length hpr
 have p17:(10:Nat)^17=100000000000000000:=by decide
 have p15:(10:Nat)^15=1000000000000000:=by decide
 have p18:(10:Nat)^18=1000000000000000000:=by decide
 refine sq_asg (te_cal (ea_cons (ev_var rfl) ea_nil) ⟨m,rfl,fun t1 s1 H1 k1 b1 ht1=>?_⟩)
 try dsimp only
 refine nrm (σ':=[some (.ref a),some (.ref lp),some (.int c),some (.int m),some (.ref t1),none,none]) (by kernel_rfl) ?_
 refine sq_J (fun σ H'=>∃(t:Addr) (s:List Int),σ=[some (.ref a),some (.ref lp),some (.int c),some (.int m),some (.ref t),none,none]∧Same H H'∧H' t=some (.tup (s.map V.int))∧S3 (10^17+(ss.length+1)*10^15) s∧∀u,ss.getLast?=some u→HT.lexLt u s=true) (fun R hR=>?_) ?_
 ·refine rd_ifof ⟨_,rfl,(by show 0≤sizeLine;decide),fun e0 ne0=>⟨lp,e0,ps,rfl,rfl,SqL.of ?_,SqL.of upd_same,_,rfl,?_⟩⟩
  ·rw[upd_ne (fk_ne (k1 _ _ hlp) ne0)];exact k1 _ _ hlp
  have k2:Same H1 (upd H1 e0 (.lst [])):=(Same.refl H1).upd ne0
  revert k2
  generalize upd H1 e0 _=H2
  intro k2
  have k12:=k1.trans k2
  by_cases he:ps=[]
  ·subst he
   have:ss=[]:=List.eq_nil_of_length_eq_zero (by rw[←pl];rfl)
   subst this
   exact iteF (hR _ _ ⟨t1,s1,rfl,k12,k2 _ _ ht1,b1.mono (by omega),fun u hu=>by cases hu⟩)
  ·obtain⟨p0,r,s0,v,u,e1,e2,⟨pa,w',pt,rfl,hpa,hpt⟩,_,hlast⟩:=prs_last hpr he
   have ie:(!ps.isEmpty)=true:=by cases ps with|nil=>exact absurd rfl he|cons _ _=>rfl
   rw[show(if true=true then !ps.isEmpty else ps.isEmpty)=true from ie]
   refine iteT ?_
   have bu:=hsp.bd s0.length u (by rw[e2];simp)
   have sl:ss.length=s0.length+1:=by rw[e2];simp
   refine te_cal (ea_cons (ev_ixT (v:=.ref pt) (ev_ixL (v:=.ref pa) (ev_var rfl) (ev_U ev_c) (SqL.of (k12 _ _ hlp)) (by rw[e1];exact atI_last)) ev_c (SqT.of (k12 _ _ hpa)) rfl) (ea_cons (ev_var rfl) ea_nil)) ⟨pt,u,m,_,rfl,bu,by omega,k12 _ _ hpt,fun t' s' H3 k3 b3 l3 ht3=>?_⟩
   exact hR _ _ ⟨t',s',rfl,k12.trans k3,ht3,b3.mono (by rw[sl];omega),fun z hz=>by rw[hlast] at hz;cases hz;exact l3⟩
 rintro σ H2 ⟨t,s,rfl,k2,ht,bs,ls⟩
 have hS:S3 (10^18) s:=bs.mono (by omega)
 have hSn:=sps_snoc hsp hsl bs ls
 refine sq_asg (te_lstA (ta_one (te_cal (ea_cons (ev_var rfl) ea_nil) ⟨c,rfl,fun n1 hn1=>ta_one (te_cal (ea_cons (ev_I0 (ev_I (ev_var rfl) ev_c (cmR (by decide) (by decide))) (ev_var rfl)) ea_nil) ⟨_,rfl,fun n2 hn2=>⟨(by show 2≤sizeLine;decide),fun nl nn=>?_⟩⟩)⟩)))
 have k3:Same H2 (upd H2 nl (.lst [.int n1,.int n2])):=(Same.refl H2).upd nn
 have hnl:upd H2 nl (.lst [.int n1,.int n2]) nl=some (.lst [.int n1,.int n2]):=upd_same
 revert k3 hnl
 generalize upd H2 nl _=H3
 intro k3 hnl
 have k23:=k2.trans k3
 try dsimp only
 refine nrm (σ':=[some (.ref a),some (.ref lp),some (.int c),some (.int m),some (.ref t),some (.ref nl),none]) (by kernel_rfl) ?_
 refine sq_asg (te_op (te_op (te_op (te_use ev_c (te_cal (ea_cons (ev_var rfl) ea_nil) ⟨t,s,rfl,hS,k3 _ _ ht,fun x1 H4 k4 ex1=>⟨_,x1,rfl,rfl,?_,te_use ev_c ⟨_,_,rfl,rfl,?_,te_cbA (ea_cons (ev_ixL (v:=.int n1) (ev_var rfl) ev_c (SqL.of (k4 _ _ hnl)) rfl) ea_nil) ⟨n1,rfl,lg_num hn1,⟨_,_,rfl,rfl,?_,?_⟩⟩⟩⟩⟩)))))
 ·have:=len_spot hS ex1;rw[hsz,show(Str.ofString "at ").length=3 by decide+kernel];omega
 ·have:=len_spot hS ex1;rw[hsz,strLen_append,show(Str.ofString "at ").length=3 by decide+kernel,show(Str.ofString " ").length=1 by decide+kernel];omega
 ·have:=len_spot hS ex1;have:=len_num hn1;rw[hsz,strLen_append,strLen_append,show(Str.ofString "at ").length=3 by decide+kernel,show(Str.ofString " ").length=1 by decide+kernel];omega
 have er:cp (Str.ofString "at " ++x1++Str.ofString " " ++Str.ofString (toString n1))=jl 32 [L "at",spotL s,numL n1]:=by
  rw[cp_app,cp_app,cp_app,ex1,show cp (Str.ofString "at ")=L "at" ++[32] by decide+kernel,show cp (Str.ofString " ")=[32] by decide+kernel,jl3]
  unfold numL
  simp
 have rl:(Str.ofString "at " ++x1++Str.ofString " " ++Str.ofString (toString n1)).length≤90:=by
  have:=len_spot hS ex1;have:=len_num hn1
  rw[strLen_append,strLen_append,strLen_append,show(Str.ofString "at ").length=3 by decide+kernel,show(Str.ofString " ").length=1 by decide+kernel];omega
 revert er rl
 generalize Str.ofString "at " ++x1++Str.ofString " " ++Str.ofString (toString n1)=row
 intro er rl
 try dsimp only
 refine nrm (σ':=[some (.ref a),some (.ref lp),some (.int c),some (.int m),some (.ref t),some (.ref nl),some (.str row)]) (by kernel_rfl) ?_
 have k24:=k23.trans k4
 have ht4:=k4 _ _ (k3 _ _ ht)
 have hnl4:=k4 _ _ hnl
 have hk4:k≤4:=by omega
 refine sq_J (fun σ H'=>∃(x:Str) (v:V) (n2':Int),σ=[some (.ref a),some (.ref lp),some (.int c),some (.int m),some (.ref t),some (.ref nl),some (.str x)]∧FK [lp] H H'∧H' lp=some (.lst (ps++[v]))∧Paired (PrA H') (ps++[v]) (ss++[s])∧n2'.natAbs<10^18∧cp x=jl 32 ([L "at",spotL s,numL n1]++(if k=1 then [] else [numL n2']))) (fun R hR=>?_) ?_
 ·have fin:∀(u:V) (p:Addr) (H5:Hp) (x:Str) (n2':Int),Same H4 H5→H5 p=none→n2'.natAbs<10^18→cp x=jl 32 ([L "at",spotL s,numL n1]++(if k=1 then [] else [numL n2']))→∃(x':Str) (v:V) (n2'':Int),([some (.ref a),some (.ref lp),some (.int c),some (.int m),some (.ref t),some (.ref nl),some (.str x)]:St)=[some (.ref a),some (.ref lp),some (.int c),some (.int m),some (.ref t),some (.ref nl),some (.str x')]∧FK [lp] H (upd (upd H5 p (.tup [.ref t,u])) lp (.lst (ps++[.ref p])))∧upd (upd H5 p (.tup [.ref t,u])) lp (.lst (ps++[.ref p])) lp=some (.lst (ps++[v]))∧Paired (PrA (upd (upd H5 p (.tup [.ref t,u])) lp (.lst (ps++[.ref p])))) (ps++[v]) (ss++[s])∧n2''.natAbs<10^18∧cp x'=jl 32 ([L "at",spotL s,numL n1]++(if k=1 then [] else [numL n2''])):=by
   intro u p H5 x n2' k5 np hn ex
   have k25:=k24.trans k5
   have hlp5:=k25 _ _ hlp
   have up:∀{z ys},H5 z=some (.tup ys)→upd (upd H5 p (.tup [.ref t,u])) lp (.lst (ps++[.ref p])) z=some (.tup ys):=fun e=>by rw[upd_ne (ne_o e hlp5 (fun z=>nomatch z)),upd_ne (fk_ne e np)];exact e
   have hpp:upd (upd H5 p (.tup [.ref t,u])) lp (.lst (ps++[.ref p])) p=some (.tup [.ref t,u]):=by rw[upd_ne (fk_ne hlp5 np).symm,upd_same]
   exact⟨x,.ref p,n2',rfl,FK.set (FK.of (k25.trans ((Same.refl H5).upd np))) (by simp),upd_same,paired_snoc ⟨p,u,t,rfl,hpp,up (k5 _ _ ht4)⟩ (prs_up hpr fun b ys h=>up (k25 _ _ h)),hn,ex⟩
  refine rd_if (et_keq (K:=K) (j:=1) (ev_ixL (v:=.str (kS k)) (ev_var rfl) ev_c (SqL.of (k24 _ _ ha)) (atI_nat (j:=2) i2)) hk4 (by decide)) (fun e=>?_) fun e=>?_
  ·have e:=of_decide_eq_true e
   refine te_bm (ev_var rfl) (.inl ⟨rfl,_,SqL.of (k24 _ _ hlp)⟩) (ta_one (te_tup (vs:=[.ref t,.int n1]) (ea_cons (ev_var rfl) (ea_cons (ev_ixL (v:=.int n1) (ev_var rfl) ev_c (SqL.of hnl4) rfl) ea_nil)) (by show 2≤sizeLine;decide) fun p np=>⟨lp,ps,_,rfl,rfl,by rw[upd_ne (fk_ne (k24 _ _ hlp) np)];exact k24 _ _ hlp,by omega,?_⟩))
   exact hR _ _ (fin (.int n1) p H4 row 0 (Same.refl H4) np (by decide) (by rw[if_pos e];exact er))
  ·have e:=of_decide_eq_false e
   refine te_bm (ev_var rfl) (.inl ⟨rfl,_,SqL.of (k24 _ _ hlp)⟩) (ta_one (ta_ev (ev_var rfl) (ta_one (te_tup (vs:=[.int n1,.int n2]) (ea_cons (ev_ixL (v:=.int n1) (ev_var rfl) ev_c (SqL.of hnl4) rfl) (ea_cons (ev_ixL (v:=.int n2) (ev_var rfl) ev_c (SqL.of hnl4) rfl) ea_nil)) (by show 2≤sizeLine;decide) fun p2 np2=>?_))))
   have k5:Same H4 (upd H4 p2 (.tup [.int n1,.int n2])):=(Same.refl H4).upd np2
   revert k5
   generalize upd H4 p2 _=H5
   intro k5
   refine⟨(by show 2≤sizeLine;decide),fun p np=>⟨lp,ps,_,rfl,rfl,by rw[upd_ne (fk_ne (k5 _ _ (k24 _ _ hlp)) np)];exact k5 _ _ (k24 _ _ hlp),by omega,?_⟩⟩
   have hnl6:upd (upd H5 p (.tup [.ref t,.ref p2])) lp (.lst (ps++[.ref p])) nl=some (.lst [.int n1,.int n2]):=by
    have h5:=k5 _ _ hnl4
    rw[upd_ne fun z=>?_,upd_ne (fk_ne h5 np)]
    ·exact h5
    ·rw[z] at hnl
     rw[z,k2 _ _ hlp] at nn;cases nn
   try dsimp only
   refine ev_addS (ev_addS (x:=row) (y:=Str.ofString " ") (ev_var rfl) ev_c ?_) (ev_cb (v:=.str (Str.ofString (toString n2))) (ea_cons (ev_ixL (v:=.int n2) (ev_var rfl) ev_c (SqL.of hnl6) rfl) ea_nil) fun Q' q'=>⟨n2,rfl,lg_num hn2,q'⟩) ?_ _ ?_
   ·rw[hsz,show(Str.ofString " ").length=1 by decide+kernel];omega
   ·have:=len_num hn2;rw[hsz,strLen_append,show(Str.ofString " ").length=1 by decide+kernel];omega
   ·refine hR _ _ (fin (.ref p2) p H5 _ n2 k5 np hn2 ?_)
    rw[if_neg e,cp_app,cp_app,er,show cp (Str.ofString " ")=[32] by decide+kernel]
    show _=jl 32 [L "at",spotL s,numL n1,numL n2]
    rw[jl3,jl4]
    unfold numL
    simp
 rintro σ H5 ⟨x,v,n2',rfl,f5,hlp5,hp5,hn2',ex⟩
 have ha5:=f5 _ _ (by simpa using alp) ha
 have hlr5:=f5 _ _ (by simpa using elr.symm) hlr
 refine te_bm (ev_ixL (v:=.ref lr) (ev_var rfl) ev_c (SqL.of ha5) (atI_nat (j:=10) i10)) (.inl ⟨rfl,_,SqL.of hlr5⟩) (ta_ev (ev_var rfl) ⟨lr,_,_,rfl,rfl,hlr5,by rw[List.length_map];omega,?_⟩)
 have up:∀{z o},z≠lr→H5 z=some o→upd H5 lr (.lst (rs.map V.str++[.str x])) z=some o:=fun h e=>by rw[upd_ne h];exact e
 exact q v x s n1 n2' _ (FK.set (f5.mono fun z hz=>by rw[List.mem_singleton.mp hz];simp) (by simp)) (up elr hlp5) (prs_up hp5 fun b ys h=>up (ne_o h hlr5 (fun z=>nomatch z)) h) hSn (by rw[upd_same,List.map_append];rfl) hn1 hn2' ex
def EvS (tc:TT) (σ:St) (H:Hp) (b:Bool):Prop:=∀H1,Same H H1→∀Q:Bool→Hp→Prop,(∀H2,Same H1 H2→Q b H2)→tc σ H1 Q
theorem es_of {tc:TT}{σ:St}{H:Hp}{b:Bool}(h:∀H1,Same H H1→EvT tc σ H1 b):EvS tc σ H b:=fun H1 s Q q=>h H1 s Q (q H1 (Same.refl H1))
theorem es_or {t u:TT}{σ:St}{H:Hp}{a b:Bool}(h1:EvS t σ H a)(h2:EvS u σ H b):EvS (tOr t u) σ H (a||b):=fun H1 s Q q=>h1 H1 s _ fun H2 s2=>by
 cases a with
 |true=>exact iteT (q H2 s2)
 |false=>exact iteF (h2 H2 (s.trans s2) _ fun H3 s3=>q H3 (s2.trans s3))
theorem es_and {t u:TT}{σ:St}{H:Hp}{a b:Bool}(h1:EvS t σ H a)(h2:EvS u σ H b):EvS (tAnd t u) σ H (a&&b):=fun H1 s Q q=>h1 H1 s _ fun H2 s2=>by
 cases a with
 |true=>exact iteT (h2 H2 (s.trans s2) _ fun H3 s3=>q H3 (s2.trans s3))
 |false=>exact iteF (q H2 s2)
theorem es_eq0 {K:PySem.W.Frag}{ta:TE}{σ:St}{H:Hp}{l:Addr}{xs:List V}(h:∀H1,Same H H1→Ev ta σ H1 (.ref l))(e:H l=some (.lst xs)):EvS (tTest (tOp (rEq0 K false) ta (tLst tNil))) σ H xs.isEmpty:=fun H1 s Q q=>
 h H1 s _ ⟨(by show 0≤sizeLine;decide),fun p np=>⟨l,p,xs,rfl,rfl,SqL.of (by rw[upd_ne (fk_ne (s _ _ e) np)];exact s _ _ e),SqL.of upd_same,_,rfl,q _ ((Same.refl H1).upd np)⟩⟩
theorem rd_ifS {tc:TT}{t u:TS}{D:Ends}{σ:St}{H:Hp}{b:Bool}(h:EvS tc σ H b)(h1:b=true→∀H1,Same H H1→t D σ H1)(h2:b=false→∀H1,Same H H1→u D σ H1):tIfS tc t u D σ H:=h H (Same.refl H) _ fun H2 s2=>ite_c (fun e=>h1 e H2 s2) fun e=>h2 e H2 s2
theorem tkR_row {st:Rs}{d d':Dr}{w:List Nat}{r:List (List Nat)}(h1:st.fst=true)(h2:st.dr=some d)(hp:partP w=none)(ht:takeD d (w::r)=some d'):takeR st (w::r)=some {st with dr:=some d'}:=by
 unfold takeR
 rw[if_neg (by rw[h1];decide)]
 dsimp only
 rw[hp]
 dsimp only
 rw[h2]
 dsimp only
 rw[ht]
 rfl
theorem L_free (s:String)(h:(L s).all (fun c=>decide (c≠32))=true):32∉L s:=fun z=>by
 have:=List.all_eq_true.mp h 32 z
 simp at this
theorem L_all (s:String)(h:((L s).all fun c=>decide (c<128)&&decide (c≠10))=true)(hl:(L s).length≤60):(∀c∈L s,c<128∧c≠10)∧(L s).length≤60:=⟨fun c hc=>by have:=List.all_eq_true.mp h c hc;simpa using this,hl⟩
theorem okS_L {ss:List (List Int)}{n:Nat}(hn:ss.length=n)(h:∀s∈ss,S3 (10^18) s):okS (ss.map spotL) n=true:=by
 unfold okS
 rw[List.length_map,decide_eq_true hn,Bool.true_and,List.all_map,List.all_eq_true]
 intro s hs
 show(spotP (spotL s)).isSome=true
 rw[spotP_L (h s hs)];rfl
theorem okN_L {is:List Int}{n:Nat}(hn:is.length=n)(h:∀i∈is,i.natAbs<10^18):okN (is.map numL) n=true:=by
 unfold okN
 rw[List.length_map,decide_eq_true hn,Bool.true_and,List.all_map,List.all_eq_true]
 intro i hi
 show(wholeP (numL i)).isSome=true
 rw[wholeP_L (h i hi)];rfl
theorem row_of {x:Str}{ws:List (List Nat)}(e:cp x=jl 32 ws)(hne:ws≠[])(hf:∀w∈ws,32∉w)(ha:∀w∈ws,(∀c∈w,c<128∧c≠10)∧w.length≤60)(hl:ws.length≤6):RowOk (cp x)∧cut 32 (cp x)=ws:=by
 rw[e];exact⟨RowOk.jl ha hl,cut_jl hne hf⟩
section
variable {n:Nat} {F:List Addr} {H H':Hp} {a:Addr} {b:Bk} {ln l4 l5 l6 l7 l8 lr:Addr} {x4 x5 x6 x7 x8:List V}
theorem BkP.ne (x:BkP n F H a b ln l4 l5 l6 l7 l8 lr x4 x5 x6 x7 x8):(a≠ln∧a≠l4∧a≠l5∧a≠l6∧a≠l7∧a≠l8∧a≠lr)∧(ln≠l4∧ln≠l5∧ln≠l6∧ln≠l7∧ln≠l8∧ln≠lr)∧(l4≠l5∧l4≠l6∧l4≠l7∧l4≠l8∧l4≠lr)∧(l5≠l6∧l5≠l7∧l5≠l8∧l5≠lr)∧(l6≠l7∧l6≠l8∧l6≠lr)∧(l7≠l8∧l7≠lr)∧l8≠lr:=by
 have nd:=x.nd
 simp only[List.nodup_cons,List.mem_cons,List.not_mem_nil,or_false,not_or,List.nodup_nil,and_true,not_false_iff] at nd
 exact nd
theorem BkP.put (x:BkP n F H a b ln l4 l5 l6 l7 l8 lr x4 x5 x6 x7 x8){p:Addr}{r:Str}{y4 y5 y6 y7 y8:List V}{b':Bk}(f:FK [p,lr] H H')(sm:b'.part=b.part∧b'.name=b.name∧b'.kind=b.kind∧b'.nums=b.nums∧b'.place=b.place)(er:b'.rows=b.rows++[r])
  (hr:H' lr=some (.lst ((b.rows++[r]).map V.str))) (k4:H' l4=some (.lst y4)) (k5:H' l5=some (.lst y5)) (k6:H' l6=some (.lst y6)) (k7:H' l7=some (.lst y7)) (k8:H' l8=some (.lst y8)) (pa:a≠p) (pn:ln≠p)
  (m4:y4.length≤n+1) (m5:y5.length≤n+1) (m6:y6.length≤n+1) (m7:y7.length≤n+1) (m8:y8.length≤n+1) (c5:b'.hl=!y5.isEmpty) (c8:b'.sp=!y8.isEmpty) (q6:Paired (PrA H') y6 b'.bp) {F':List Addr} (hF:∀z∈F,z∈F') (fm:∀y∈F',∃xs,H' y=some (.lst xs))
  (hi:b'.hl=true→∃y0 hx top lp ps,y5=y0++[.ref hx]∧H' hx=some (.lst [.int top,.ref lp])∧H' lp=some (.lst ps)∧ps.length≤n+1∧Paired (PrA H') ps b'.hp∧hx∈F'∧lp∈F'∧hx∉[a,ln,l4,l5,l6,l7,l8,lr]∧lp∉[a,ln,l4,l5,l6,l7,l8,lr]∧hx≠lp):BkAt (n+1) F' H' a b':=by
 obtain⟨e1,e2,e3,e4,e5⟩:=sm
 have ne:=x.ne
 refine⟨ln,l4,l5,l6,l7,l8,lr,y4,y5,y6,y7,y8,?_⟩
 exact{
  ha:=by rw[e1,e2,e3,e5];exact f _ _ (by simp[pa,ne.1.2.2.2.2.2.2]) x.ha
  hn:=by rw[e4];exact f _ _ (by simp[pn,ne.2.1.2.2.2.2.2]) x.hn
  j4:=k4
  j5:=k5
  j6:=k6
  j7:=k7
  j8:=k8
  jr:=by rw[er];exact hr
  n4:=m4
  n5:=m5
  n6:=m6
  n7:=m7
  n8:=m8
  nr:=by rw[er,List.length_append];exact Nat.add_le_add_right x.nr 1
  b5:=c5
  b8:=c8
  p6:=q6
  nd:=x.nd
  mf:=fun z hz=>hF z (x.mf z hz)
  fm:=fm
  hi:=hi}
end
theorem fm_put {F:List Addr}{H H':Hp}{p q:Addr}{xs ys:List V}(fm:∀y∈F,∃xs,H y=some (.lst xs))(f:FK [p,q] H H')(hp:H' p=some (.lst xs))(hq:H' q=some (.lst ys)):∀y∈F,∃xs,H' y=some (.lst xs):=fun y hy=>by
 by_cases e1:y=p
 ·rw[e1];exact⟨_,hp⟩
 by_cases e2:y=q
 ·rw[e2];exact⟨_,hq⟩
 obtain⟨zs,e⟩:=fm y hy
 exact⟨zs,f _ _ (by simp[e1,e2]) e⟩
theorem part_no:partP (L "step")=none∧partP (L "hill")=none∧partP (L "at")=none∧partP (L "cut")=none∧partP (L "spot")=none:=by decide+kernel
theorem nx_of {b b':Bk}{r:Str}{w:List Nat}{ws:List (List Nat)}(sm:b'.part=b.part∧b'.name=b.name∧b'.kind=b.kind∧b'.nums=b.nums∧b'.place=b.place)(er:b'.rows=b.rows++[r])(h:RowOk (cp r)∧cut 32 (cp r)=w::ws)(hp:partP w=none)(ht:takeD (dOf b) (w::ws)=some (dOf b')):Nx b b':=
 ⟨sm,r,er,h.1,fun st h1 h2=>by rw[h.2];exact tkR_row h1 h2 hp ht⟩
theorem up_fk {H H':Hp}{p q:Addr}{xs ys:List V}(f:FK [p,q] H H')(hp:H p=some (.lst xs))(hq:H q=some (.lst ys)):∀b zs,H b=some (.tup zs)→H' b=some (.tup zs):=fun b zs h=>f _ _ (fun m=>by
 simp only[List.mem_cons,List.not_mem_nil,or_false] at m
 rcases m with rfl|rfl
 ·rw[h] at hp;cases hp
 ·rw[h] at hq;cases hq) h
theorem sp_row {w:String}{ss:List (List Int)}{x:Str}(e:cp x=jl 32 (L w::ss.map spotL))(h:∀s∈ss,S3 (10^18) s)(hl:ss.length≤2)(hw:(L w).all (fun c=>decide (c≠32))=true)(hw2:((L w).all fun c=>decide (c<128)&&decide (c≠10))=true)(hw3:(L w).length≤60):RowOk (cp x)∧cut 32 (cp x)=L w::ss.map spotL:=by
 refine row_of e (by simp) (fun z hz=>?_) (fun z hz=>?_) (by rw[List.length_cons,List.length_map];omega)
 ·rcases List.mem_cons.mp hz with rfl|hz
  ·exact L_free w hw
  ·obtain⟨s,hs,rfl⟩:=List.mem_map.mp hz;exact spotL_free (by decide)
 ·rcases List.mem_cons.mp hz with rfl|hz
  ·exact L_all w hw2 hw3
  ·obtain⟨s,hs,rfl⟩:=List.mem_map.mp hz;exact spotL_all (h s hs)
theorem nx_step {b:Bk}{x:Str}{s1 s2:List Int}(ex:cp x=jl 32 [L "step",spotL s1,spotL s2])(h1:S3 (10^18) s1)(h2:S3 (10^18) s2)(hk:b.kind≠3∧b.kind≠4)(hh:b.hl=false)(hb:b.bp=[]):Nx b {b with rows:=b.rows++[x]}:=by
 have hs:∀s∈[s1,s2],S3 (10^18) s:=fun s hs=>by
  simp only[List.mem_cons,List.not_mem_nil,or_false] at hs
  rcases hs with rfl|rfl
  ·exact h1
  ·exact h2
 refine nx_of ⟨rfl,rfl,rfl,rfl,rfl⟩ rfl (sp_row (ss:=[s1,s2]) ex hs (Nat.le_refl 2) (by decide+kernel) (by decide+kernel) (by decide+kernel)) part_no.1 ?_
 have c:(decide ((dOf b).kind=3)||decide ((dOf b).kind=4)||!okS ([s1,s2].map spotL) 2||(dOf b).hl||(dOf b).ht)=false:=by
  rw[okS_L (n:=2) rfl hs,decide_eq_false (show¬(dOf b).kind=3 from hk.1),decide_eq_false (show¬(dOf b).kind=4 from hk.2)]
  show(false||false||!true||b.hl||!b.bp.isEmpty)=false
  rw[hh,hb];rfl
 show takeD (dOf b) (L "step" ::[s1,s2].map spotL)=_
 rw[step_eq,c]
 rfl
theorem OkB.cp {ns:List Str}{b b':Bk}(ok:OkB ns b)(sm:b'.part=b.part∧b'.name=b.name∧b'.kind=b.kind∧b'.nums=b.nums∧b'.place=b.place)(h1:b.kind≠1→b'.hl=false∧b'.hp=[])(h0:b'.hl=false→b'.hp=[])(b2:b.kind≠2→b'.bp=[])(s3:b.kind≠3→b.kind≠4→b'.sp=false)(sh:Sps b'.hp)(sb:Sps b'.bp):OkB ns b':=by
 obtain⟨e1,e2,e3,e4,e5⟩:=sm
 exact⟨⟨by rw[e1];exact ok.p3,by rw[e3];exact ok.k4,by rw[e1,e3];exact ok.pk,by rw[e4,e3];exact ok.nn,by rw[e4];exact ok.nb,by rw[e2];exact ok.nm⟩,by rw[e5,e2];exact ok.pl,by rw[e3];exact h1,h0,by rw[e3];exact b2,by rw[e3];exact s3,sh,sb⟩
theorem num_row {w:String}{i:Int}{x:Str}(e:cp x=jl 32 [L w,numL i])(h:i.natAbs<10^18)(hw:(L w).all (fun c=>decide (c≠32))=true)(hw2:((L w).all fun c=>decide (c<128)&&decide (c≠10))=true)(hw3:(L w).length≤60):RowOk (cp x)∧cut 32 (cp x)=[L w,numL i]:=by
 refine row_of e (by simp) (fun z hz=>?_) (fun z hz=>?_) (show 2≤6 by decide)
 all_goals simp only[List.mem_cons,List.not_mem_nil,or_false] at hz
 ·rcases hz with rfl|rfl
  ·exact L_free w hw
  ·exact numL_free (by decide)
 ·rcases hz with rfl|rfl
  ·exact L_all w hw2 hw3
  ·exact⟨(numL_all h).1,Nat.le_trans (numL_all h).2 (by decide)⟩
theorem at_row {s:List Int}{is:List Int}{x:Str}(e:cp x=jl 32 ([L "at",spotL s]++is.map numL))(h:S3 (10^18) s)(hi:∀i∈is,i.natAbs<10^18)(hl:is.length≤3):RowOk (cp x)∧cut 32 (cp x)=L "at" ::spotL s::is.map numL:=by
 refine row_of e (by simp) (fun z hz=>?_) (fun z hz=>?_) (by rw[List.length_cons,List.length_cons,List.length_map];omega)
 all_goals simp only[List.mem_cons] at hz
 ·rcases hz with rfl|rfl|hz
  ·exact L_free "at" (by decide+kernel)
  ·exact spotL_free (by decide)
  ·obtain⟨i,hi',rfl⟩:=List.mem_map.mp hz;exact numL_free (by decide)
 ·rcases hz with rfl|rfl|hz
  ·exact L_all "at" (by decide+kernel) (by decide+kernel)
  ·exact spotL_all h
  ·obtain⟨i,hi',rfl⟩:=List.mem_map.mp hz;exact⟨(numL_all (hi i hi')).1,Nat.le_trans (numL_all (hi i hi')).2 (by decide)⟩
theorem sps_last {ss:List (List Int)}{s:List Int}(h:Sps (ss++[s])):notB ss.getLast? s=false∧S3 (10^18) s:=by
 constructor
 ·unfold notB
  cases e:ss.getLast? with
  |none=>rfl
  |some u=>
   have:=(List.pairwise_append.mp h.up).2.2 u (List.mem_of_getLast? e) s (by simp)
   dsimp only
   rw[this];rfl
 ·have hl:=h.ln
  rw[List.length_append] at hl
  refine(h.bd ss.length s (by simp)).mono ?_
  have:(ss.length+1)*10^15≤100*10^15:=Nat.mul_le_mul_right _ (by simpa using hl)
  omega
theorem nx_hill {b:Bk}{x:Str}{i:Int}(ex:cp x=jl 32 [L "hill",numL i])(hi:i.natAbs<10^18)(hk:b.kind=1):Nx b {b with hl:=true,hp:=[],rows:=b.rows++[x]}:=by
 refine nx_of ⟨rfl,rfl,rfl,rfl,rfl⟩ rfl (num_row ex hi (by decide+kernel) (by decide+kernel) (by decide+kernel)) part_no.2.1 ?_
 rw[hill_eq,show okN [numL i] 1=true from okN_L (is:=[i]) rfl (by simpa using hi),decide_eq_true (show(dOf b).kind=1 from hk)]
 unfold dOf
 simp[hk]
theorem nx_at1 {b:Bk}{x:Str}{s:List Int}{i:Int}(ex:cp x=jl 32 [L "at",spotL s,numL i])(hi:i.natAbs<10^18)(hk:b.kind=1)(hh:b.hl=true)(hs:Sps (b.hp++[s])):Nx b {b with hp:=b.hp++[s],rows:=b.rows++[x]}:=by
 refine nx_of ⟨rfl,rfl,rfl,rfl,rfl⟩ rfl (at_row (is:=[i]) ex (sps_last hs).2 (by simpa using hi) (show 1≤3 by decide)) part_no.2.2.1 ?_
 rw[at_eq]
 unfold takeA
 dsimp only
 rw[spotP_L (sps_last hs).2]
 dsimp only
 rw[show(dOf b).last=b.hp.getLast? from if_pos hk,(sps_last hs).1,if_neg (by decide),if_pos (show(dOf b).kind=1 from hk),okN_L (is:=[i]) (n:=1) rfl (by simpa using hi),show(dOf b).hl=true from hh]
 unfold dOf
 simp[hk,hh]
theorem nx_at2 {b:Bk}{x:Str}{s:List Int}{i j:Int}(ex:cp x=jl 32 [L "at",spotL s,numL i,numL j])(hi:i.natAbs<10^18)(hj:j.natAbs<10^18)(hk:b.kind=2)(hs:Sps (b.bp++[s])):Nx b {b with bp:=b.bp++[s],rows:=b.rows++[x]}:=by
 have hij:∀z∈[i,j],z.natAbs<10^18:=by
  intro z hz
  simp only[List.mem_cons,List.not_mem_nil,or_false] at hz
  rcases hz with rfl|rfl
  ·exact hi
  ·exact hj
 refine nx_of ⟨rfl,rfl,rfl,rfl,rfl⟩ rfl (at_row (is:=[i,j]) ex (sps_last hs).2 hij (show 2≤3 by decide)) part_no.2.2.1 ?_
 rw[at_eq]
 unfold takeA
 dsimp only
 rw[spotP_L (sps_last hs).2]
 dsimp only
 rw[show(dOf b).last=b.bp.getLast? from if_neg (by rw[hk];decide),(sps_last hs).1,if_neg (by decide),if_neg (show¬(dOf b).kind=1 by show¬b.kind=1;rw[hk];decide),okN_L (is:=[i,j]) (n:=2) rfl hij,decide_eq_true (show(dOf b).kind=2 from hk)]
 unfold dOf
 simp[hk]
theorem nx_cut {b:Bk}{x:Str}{s:List Int}(ex:cp x=jl 32 [L "cut",spotL s])(h:S3 (10^18) s)(hk:b.kind=4)(hp:b.sp=false):Nx b {b with rows:=b.rows++[x]}:=by
 refine nx_of ⟨rfl,rfl,rfl,rfl,rfl⟩ rfl (sp_row (ss:=[s]) ex (by simpa using h) (show 1≤2 by decide) (by decide+kernel) (by decide+kernel) (by decide+kernel)) part_no.2.2.2.1 ?_
 rw[cut_eq,okS_L (ss:=[s]) (n:=1) rfl (by simpa using h),decide_eq_true (show(dOf b).kind=4 from hk),show(dOf b).sp=false from hp]
 rfl
theorem nx_spot {b:Bk}{x:Str}{s:List Int}(ex:cp x=jl 32 [L "spot",spotL s])(h:S3 (10^18) s)(hk:b.kind=3∨b.kind=4):Nx b {b with sp:=true,rows:=b.rows++[x]}:=by
 refine nx_of ⟨rfl,rfl,rfl,rfl,rfl⟩ rfl (sp_row (ss:=[s]) ex (by simpa using h) (show 1≤2 by decide) (by decide+kernel) (by decide+kernel) (by decide+kernel)) part_no.2.2.2.2 ?_
 have:(decide ((dOf b).kind=3)||decide ((dOf b).kind=4))=true:=by
  rw[Bool.or_eq_true,decide_eq_true_iff,decide_eq_true_iff];exact hk
 rw[spot_eq,okS_L (ss:=[s]) (n:=1) rfl (by simpa using h),this]
 rfl
theorem sps_nil:Sps []:=⟨fun i s h=>by simp at h,List.Pairwise.nil,by decide⟩
theorem isE {α:Type}{l:List α}(h:l.isEmpty=true):l=[]:=by cases l with|nil=>rfl|cons _ _=>cases h
def Go (ns:List Str) (n:Nat) (F:List Addr) (H:Hp) (a:Addr) (b:Bk) (R:Hp→Prop):Prop:=∀F' b' H',BkAt (n+1) F' H' a b'→OkB ns b'→Nx b b'→FK F H H'→(∀x∈F',x∈F∨H x=none)→R H'
theorem Go.sm {ns:List Str}{n:Nat}{F:List Addr}{H H1:Hp}{a:Addr}{b:Bk}{R:Hp→Prop}(g:Go ns n F H a b R)(s:Same H H1):Go ns n F H1 a b R:=fun F' b' H' h1 h2 h3 h4 h5=>g F' b' H' h1 h2 h3 ((FK.of s).trans h4) fun x hx=>by
 rcases h5 x hx with e|e
 ·exact .inl e
 ·refine .inr ?_
  cases h:H x with
  |none=>rfl
  |some o=>rw[s _ _ h] at e;cases e
section
variable {ns:List Str} {n:Nat} {F:List Addr} {H:Hp} {a:Addr} {b:Bk} {ln l4 l5 l6 l7 l8 lr:Addr} {x4 x5 x6 x7 x8:List V} {R:Hp→Prop} {c m:Int}
theorem go_step (x:BkP n F H a b ln l4 l5 l6 l7 l8 lr x4 x5 x6 x7 x8)(ok:OkB ns b)(hn:n<90)(hk:b.kind≠3∧b.kind≠4)(hh:b.hl=false)(hb:b.bp=[])(g:Go ns n F H a b R):spStepped [.ref a,.int c,.int m] H (fun _ H'=>R H') E0:=by
 have ne:=x.ne
 have t4:=x.n4
 have tr:=x.nr
 refine⟨a,l4,lr,c,m,_,x4,b.rows,rfl,x.ha,rfl,rfl,rfl,x.j4,x.jr,ne.1.2.1,ne.1.2.2.2.2.2.2,ne.2.2.1.2.2.2.2,by omega,by omega,fun v r s1 s2 H' f h4 hr S1 S2 ex=>?_⟩
 refine g F _ H' (x.put (b':={b with rows:=b.rows++[r]}) f ⟨rfl,rfl,rfl,rfl,rfl⟩ rfl hr h4 (f _ _ (by simp[ne.2.2.1.1.symm,ne.2.2.2.1.2.2.2]) x.j5) (f _ _ (by simp[ne.2.2.1.2.1.symm,ne.2.2.2.2.1.2.2]) x.j6) (f _ _ (by simp[ne.2.2.1.2.2.1.symm,ne.2.2.2.2.2.1.2]) x.j7) (f _ _ (by simp[ne.2.2.1.2.2.2.1.symm,ne.2.2.2.2.2.2]) x.j8) ne.1.2.1 ne.2.1.1
  (by rw[List.length_append];exact Nat.add_le_add_right t4 1) (Nat.le_succ_of_le x.n5) (Nat.le_succ_of_le x.n6) (Nat.le_succ_of_le x.n7) (Nat.le_succ_of_le x.n8) x.b5 x.b8 (prs_up x.p6 (up_fk f x.j4 x.jr)) (fun _ h=>h) (fm_put x.fm f h4 hr) fun h=>?_) (ok.cp ⟨rfl,rfl,rfl,rfl,rfl⟩ ok.h1 ok.h0 ok.b2 ok.s3 ok.sh ok.sb) (nx_step ex S1 S2 hk hh hb) (f.mono fun z hz=>?_) fun z hz=> .inl hz
 ·rw[show({b with rows:=b.rows++[r]}:Bk).hl=false from hh] at h;cases h
 ·simp only[List.mem_cons,List.not_mem_nil,or_false] at hz
  rcases hz with rfl|rfl<;>exact x.mf _ (by simp)
theorem go_at1 (x:BkP n F H a b ln l4 l5 l6 l7 l8 lr x4 x5 x6 x7 x8)(ok:OkB ns b)(hn:n<90)(hm:0≤m)(hk:b.kind=1)(hh:b.hl=true){y0:List V}{hx lp:Addr}{top:Int}{ps:List V}(e1:x5=y0++[.ref hx])(e2:H hx=some (.lst [.int top,.ref lp]))(e3:H lp=some (.lst ps))(e4:ps.length≤n)(e5:Paired (PrA H) ps b.hp)(e6:hx∈F)(e7:lp∈F)(e8:hx∉[a,ln,l4,l5,l6,l7,l8,lr])(e9:lp∉[a,ln,l4,l5,l6,l7,l8,lr])(e10:hx≠lp)(g:Go ns n F H a b R):spLifted [.ref a,.ref lp,.int c,.int m] H (fun _ H'=>R H') E0:=by
 have ne:=x.ne
 have tr:=x.nr
 have pl:=Paired.length e5
 have n9:=e9
 simp only[List.mem_cons,List.not_mem_nil,or_false,not_or] at n9
 obtain⟨pa,pn,p4,p5,p6,p7,p8,pr⟩:=n9
 have n8:=e8
 simp only[List.mem_cons,List.not_mem_nil,or_false,not_or] at n8
 refine⟨a,lp,lr,c,m,b.kind,_,ps,b.hp,b.rows,rfl,hm,x.ha,rfl,.inl hk,rfl,rfl,e3,e5,ok.sh,by omega,x.jr,Ne.symm pa,ne.1.2.2.2.2.2.2,pr,by omega,fun v r s n1 n2 H' f hp hps hsp hr h1 h2 ex=>?_⟩
 rw[if_pos hk] at ex
 refine g F _ H' (x.put (b':={b with hp:=b.hp++[s],rows:=b.rows++[r]}) f ⟨rfl,rfl,rfl,rfl,rfl⟩ rfl hr (f _ _ (by simp[Ne.symm p4,ne.2.2.1.2.2.2.2]) x.j4) (f _ _ (by simp[Ne.symm p5,ne.2.2.2.1.2.2.2]) x.j5) (f _ _ (by simp[Ne.symm p6,ne.2.2.2.2.1.2.2]) x.j6) (f _ _ (by simp[Ne.symm p7,ne.2.2.2.2.2.1.2]) x.j7) (f _ _ (by simp[Ne.symm p8,ne.2.2.2.2.2.2]) x.j8) (Ne.symm pa) (Ne.symm pn)
  (Nat.le_succ_of_le x.n4) (Nat.le_succ_of_le x.n5) (Nat.le_succ_of_le x.n6) (Nat.le_succ_of_le x.n7) (Nat.le_succ_of_le x.n8) x.b5 x.b8 (prs_up x.p6 (up_fk f e3 x.jr)) (fun _ h=>h) (fm_put x.fm f hp hr) fun _=>⟨y0,hx,top,lp,ps++[v],e1,f _ _ (by simp[e10,n8.2.2.2.2.2.2.2]) e2,hp,by rw[List.length_append];exact Nat.add_le_add_right e4 1,hps,e6,e7,e8,e9,e10⟩) (ok.cp ⟨rfl,rfl,rfl,rfl,rfl⟩ (fun z=>absurd hk z) (fun z=>?_) ok.b2 ok.s3 hsp ok.sb) (nx_at1 ex h1 hk hh hsp) (f.mono fun z hz=>?_) fun z hz=> .inl hz
 ·rw[show({b with hp:=b.hp++[s],rows:=b.rows++[r]}:Bk).hl=true from hh] at z;cases z
 ·simp only[List.mem_cons,List.not_mem_nil,or_false] at hz
  rcases hz with rfl|rfl
  ·exact e7
  ·exact x.mf _ (by simp)
theorem go_at2 (x:BkP n F H a b ln l4 l5 l6 l7 l8 lr x4 x5 x6 x7 x8)(ok:OkB ns b)(hn:n<90)(hm:0≤m)(hk:b.kind=2)(g:Go ns n F H a b R):spLifted [.ref a,.ref l6,.int c,.int m] H (fun _ H'=>R H') E0:=by
 have ne:=x.ne
 have t6:=x.n6
 have tr:=x.nr
 have pl:=Paired.length x.p6
 refine⟨a,l6,lr,c,m,b.kind,_,x6,b.bp,b.rows,rfl,hm,x.ha,rfl,.inr hk,rfl,rfl,x.j6,x.p6,ok.sb,by omega,x.jr,ne.1.2.2.2.1,ne.1.2.2.2.2.2.2,ne.2.2.2.2.1.2.2,by omega,fun v r s n1 n2 H' f hp hps hsp hr h1 h2 ex=>?_⟩
 rw[if_neg (by rw[hk];decide)] at ex
 have hh:b.hl=false:=(ok.h1 (by rw[hk];decide)).1
 refine g F _ H' (x.put (b':={b with bp:=b.bp++[s],rows:=b.rows++[r]}) f ⟨rfl,rfl,rfl,rfl,rfl⟩ rfl hr (f _ _ (by simp[ne.2.2.1.2.1,ne.2.2.1.2.2.2.2]) x.j4) (f _ _ (by simp[ne.2.2.2.1.1,ne.2.2.2.1.2.2.2]) x.j5) hp (f _ _ (by simp[ne.2.2.2.2.1.1.symm,ne.2.2.2.2.2.1.2]) x.j7) (f _ _ (by simp[ne.2.2.2.2.1.2.1.symm,ne.2.2.2.2.2.2]) x.j8) ne.1.2.2.2.1 ne.2.1.2.2.1
  (Nat.le_succ_of_le x.n4) (Nat.le_succ_of_le x.n5) (by rw[List.length_append];exact Nat.add_le_add_right t6 1) (Nat.le_succ_of_le x.n7) (Nat.le_succ_of_le x.n8) x.b5 x.b8 hps (fun _ h=>h) (fm_put x.fm f hp hr) fun h=>?_) (ok.cp ⟨rfl,rfl,rfl,rfl,rfl⟩ ok.h1 ok.h0 (fun z=>absurd hk z) ok.s3 ok.sh hsp) (nx_at2 ex h1 h2 hk hsp) (f.mono fun z hz=>?_) fun z hz=> .inl hz
 ·rw[show({b with bp:=b.bp++[s],rows:=b.rows++[r]}:Bk).hl=false from hh] at h;cases h
 ·simp only[List.mem_cons,List.not_mem_nil,or_false] at hz
  rcases hz with rfl|rfl<;>exact x.mf _ (by simp)
end
theorem ok_GoneOn {cDraft cReading cWireError cBadRow cBadAnswer cPt cNk:Addr}{f:Addr}{fd:FuncData}(F:Fun K "_law_gone_on" "_law_gone_on" sGoneOn f fd)(T:Txt w K mg cDraft cReading cWireError cBadRow cBadAnswer cPt cNk)(gNumber:Callee P w K mg base "_law_number" 1 ["cell"] spNumber)(gSpot:Callee P w K mg base "_law_spot" 1 ["cell"] spSpot)(gWord:Callee P w K mg base "_law_word" 1 ["spot"] spWord)(gStepped:Callee P w K mg base "_law_stepped" 2 ["block", "cell", "mixed"] spStepped)(gLifted:Callee P w K mg base "_law_lifted" 2 ["block", "pairs", "cell", "mixed"] spLifted):FnOk P w K mg base CX0 3 f fd ["block", "cell", "mixed"] spGoneOn:=by
 have sc:FnScope ["block", "cell", "mixed"] ["block", "cell", "mixed"] (defScope sGoneOn):=⟨rfl,rfl,rfl,by decide+kernel,rfl,by decide+kernel,by decide+kernel⟩
 refine F.ok sc (fun vs H Q E h=>by repeat (first|(obtain⟨rfl,_⟩:=h;rfl)|(obtain⟨_,h⟩:=h))) (fun cdv A outer s H vs Q E hr h=>?_)
 obtain⟨a,c,m,n,F,b,ns,rfl,hm,hn,⟨ln,l4,l5,l6,l7,l8,lr,x4,x5,x6,x7,x8,x⟩,ok,q⟩:=h
 refine⟨_,(pss_one (ps_if (pw_or (pt_cmpR op_eq (pe_ix ix_list (pv 0) pe_int (fun _ _=>rfl)) pe_str (nomark _)) (pw_or1 (pw_and (pt_cmpR op_eq (pe_ix ix_list (pv 0) pe_int (fun _ _=>rfl)) pe_str (nomark _)) (pw_and (pt_cmpR (op_eq0 hr) (pe_ix ix_list (pv 0) pe_int (fun _ _=>rfl)) (pe_lst pa_nil) (nomark _)) (pw_and1 (pt_cmpR op_gt (pe_op op_mod (pe_op op_fdivB (pv 2) pe_int) pe_int) pe_int (nomark _))))).pt)).pt
 (pss_one (ps_expr (pe_cal gStepped (hr.mono (by decide)) (by rfl) (pa_cons (pv 0) (pa_cons (pv 1) (pa_cons (pv 2) pa_nil))))))
 (pss_one (ps_if (pw_and (pt_cmpR op_eq (pe_ix ix_list (pv 0) pe_int (fun _ _=>rfl)) pe_str (nomark _)) (pw_and (pt_cmpR (op_eq0 hr) (pe_ix ix_list (pv 0) pe_int (fun _ _=>rfl)) (pe_lst pa_nil) (nomark _)) (pw_and1 (pt_cmpR op_gt (pe_op op_mod (pe_op op_fdivB (pv 2) pe_int) pe_int) pe_int (nomark _))))).pt
 (pss_one (ps_expr (pe_cal gStepped (hr.mono (by decide)) (by rfl) (pa_cons (pv 0) (pa_cons (pv 1) (pa_cons (pv 2) pa_nil))))))
 (pss_one (ps_if (pw_and (pt_cmpR op_eq (pe_ix ix_list (pv 0) pe_int (fun _ _=>rfl)) pe_str (nomark _)) (pw_and1 (pw_or (pt_cmpR (op_eq0 hr) (pe_ix ix_list (pv 0) pe_int (fun _ _=>rfl)) (pe_lst pa_nil) (nomark _)) (pw_or1 (pt_cmpR op_eq (pe_op op_mod (pe_op op_fdivB (pv 2) pe_int) pe_int) pe_int (nomark _)))).pt)).pt
 (pss_cons (ps_expr (pe_bm PySem.F.plainAttrs_list PySem.F.slot_list_append PySem.F.type_list_append mt_append (pe_ix ix_list (pv 0) pe_int (fun _ _=>rfl)) (pa_cons (pe_lst (pa_cons (pe_cal gNumber (hr.mono (by decide)) (by rfl) (pa_cons (pv 1) pa_nil)) (pa_cons (pe_lst pa_nil) pa_nil))) pa_nil)))
 (pss_one (ps_expr (pe_bm PySem.F.plainAttrs_list PySem.F.slot_list_append PySem.F.type_list_append mt_append (pe_ix ix_list (pv 0) pe_int (fun _ _=>rfl)) (pa_cons (pe_op op_add_str pe_str (pe_callTy call_str_int (by rfl) T.str_ bt_str (pa_cons (pe_ix ix_list (pe_ix ix_list (pe_ix ix_list (pv 0) pe_int (fun _ _=>rfl)) (pe_un un_neg pe_int) (fun _ _=>rfl)) pe_int (fun _ _=>rfl)) pa_nil))) pa_nil)))))
 (pss_one (ps_if (pt_cmpR op_eq (pe_ix ix_list (pv 0) pe_int (fun _ _=>rfl)) pe_str (nomark _))
 (pss_one (ps_expr (pe_cal gLifted (hr.mono (by decide)) (by rfl) (pa_cons (pv 0) (pa_cons (pe_ix ix_list (pe_ix ix_list (pe_ix ix_list (pv 0) pe_int (fun _ _=>rfl)) (pe_un un_neg pe_int) (fun _ _=>rfl)) pe_int (fun _ _=>rfl)) (pa_cons (pv 1) (pa_cons (pv 2) pa_nil)))))))
 (pss_one (ps_if (pt_cmpR op_eq (pe_ix ix_list (pv 0) pe_int (fun _ _=>rfl)) pe_str (nomark _))
 (pss_one (ps_expr (pe_cal gLifted (hr.mono (by decide)) (by rfl) (pa_cons (pv 0) (pa_cons (pe_ix ix_list (pv 0) pe_int (fun _ _=>rfl)) (pa_cons (pv 1) (pa_cons (pv 2) pa_nil)))))))
 (pss_one (ps_if (pw_and (pt_cmpR op_eq (pe_ix ix_list (pv 0) pe_int (fun _ _=>rfl)) pe_str (nomark _)) (pw_and (pt_cmpR (op_eq0 hr) (pe_ix ix_list (pv 0) pe_int (fun _ _=>rfl)) (pe_lst pa_nil) (nomark _)) (pw_and1 (pt_cmpR op_eq (pe_op op_mod (pe_op op_fdivB (pv 2) pe_int) pe_int) pe_int (nomark _))))).pt
 (pss_cons (ps_expr (pe_bm PySem.F.plainAttrs_list PySem.F.slot_list_append PySem.F.type_list_append mt_append (pe_ix ix_list (pv 0) pe_int (fun _ _=>rfl)) (pa_cons (pe_cal gSpot (hr.mono (by decide)) (by rfl) (pa_cons (pv 1) pa_nil)) pa_nil)))
 (pss_one (ps_expr (pe_bm PySem.F.plainAttrs_list PySem.F.slot_list_append PySem.F.type_list_append mt_append (pe_ix ix_list (pv 0) pe_int (fun _ _=>rfl)) (pa_cons (pe_op op_add_str pe_str (pe_cal gWord (hr.mono (by decide)) (by rfl) (pa_cons (pe_ix ix_list (pe_ix ix_list (pv 0) pe_int (fun _ _=>rfl)) (pe_un un_neg pe_int) (fun _ _=>rfl)) pa_nil))) pa_nil)))))
 (pss_cons (ps_expr (pe_bm PySem.F.plainAttrs_list PySem.F.slot_list_append PySem.F.type_list_append mt_append (pe_ix ix_list (pv 0) pe_int (fun _ _=>rfl)) (pa_cons (pe_cal gSpot (hr.mono (by decide)) (by rfl) (pa_cons (pv 1) pa_nil)) pa_nil)))
 (pss_one (ps_expr (pe_bm PySem.F.plainAttrs_list PySem.F.slot_list_append PySem.F.type_list_append mt_append (pe_ix ix_list (pv 0) pe_int (fun _ _=>rfl)) (pa_cons (pe_op op_add_str pe_str (pe_cal gWord (hr.mono (by decide)) (by rfl) (pa_cons (pe_ix ix_list (pe_ix ix_list (pv 0) pe_int (fun _ _=>rfl)) (pe_un un_neg pe_int) (fun _ _=>rfl)) pa_nil))) pa_nil))))))))))))))))),?_⟩
 have hsz:sizeLine=2^24:=rfl
 have g:Go ns n F H a b (fun H'=>Q .non H'):=q
 have ne:=x.ne
 have kq:∀{H1:Hp} {j:Nat},Same H H1→j≤4→EvT (tTest (tOp rEq (tOp (rIxL K) (tVar 0) (tC (.int 2))) (tC (.str (kS j))))) [some (.ref a),some (.int c),some (.int m)] H1 (decide (b.kind=j)):=fun s hj=>et_keq (K:=K) (ev_ixL (v:=.str (kS b.kind)) (ev_var rfl) ev_c (SqL.of (s _ _ x.ha)) rfl) ok.k4 hj
 refine rd_ifS (es_or (es_of fun H1 s=>kq (j:=0) s (by decide)) (es_and (es_of fun H1 s=>kq (j:=1) s (by decide)) (es_and (es_eq0 (fun H1 s=>ev_ixL (v:=.ref l5) (ev_var rfl) ev_c (SqL.of (s _ _ x.ha)) rfl) x.j5) (es_of fun H1 s=>(et_test (ev_I0 (ev_I (ev_I (ev_var rfl) ev_c (cdB (by omega) (by omega))) ev_c (by first|(show(0:Int)<_;omega)|(show(0:Int)<_;decide))) ev_c)))))) (fun e H1 s1=>?_) fun e1 H1 s1=>?_
 ·simp only[Bool.or_eq_true,Bool.and_eq_true,decide_eq_true_iff] at e
  refine rd_drop (te_cal (ea_cons (ev_var rfl) (ea_cons (ev_var rfl) (ea_cons (ev_var rfl) ea_nil))) (go_step (R:=fun H'=>Q .non H') (x.same s1) ok hn (by omega) ?_ (ok.b2 (by omega)) (g.sm s1)))
  rcases e with e|e
  ·exact(ok.h1 (by omega)).1
  ·rw[x.b5,e.2.1];rfl
 have x1:=x.same s1
 have g1:=g.sm s1
 clear q g x
 generalize hH:H1=H2 at*
 clear hH
 refine rd_ifS (es_and (es_of fun H1 s=>et_keq (K:=K) (j:=2) (ev_ixL (v:=.str (kS b.kind)) (ev_var rfl) ev_c (SqL.of (s _ _ x1.ha)) rfl) ok.k4 (by decide)) (es_and (es_eq0 (fun H1 s=>ev_ixL (v:=.ref l6) (ev_var rfl) ev_c (SqL.of (s _ _ x1.ha)) rfl) x1.j6) (es_of fun H1 s=>(et_test (ev_I0 (ev_I (ev_I (ev_var rfl) ev_c (cdB (by omega) (by omega))) ev_c (by first|(show(0:Int)<_;omega)|(show(0:Int)<_;decide))) ev_c))))) (fun e H3 s3=>?_) fun e2 H3 s3=>?_
 ·simp only[Bool.and_eq_true,decide_eq_true_iff] at e
  refine rd_drop (te_cal (ea_cons (ev_var rfl) (ea_cons (ev_var rfl) (ea_cons (ev_var rfl) ea_nil))) (go_step (R:=fun H'=>Q .non H') (x1.same s3) ok hn (by omega) (ok.h1 (by omega)).1 ?_ (g1.sm s3)))
  have:=Paired.length x1.p6
  rw[isE e.2.1] at this
  exact List.eq_nil_of_length_eq_zero this.symm
 have x2:=x1.same s3
 have g2:=g1.sm s3
 refine rd_ifS (es_and (es_of fun H1 s=>et_keq (K:=K) (j:=1) (ev_ixL (v:=.str (kS b.kind)) (ev_var rfl) ev_c (SqL.of (s _ _ x2.ha)) rfl) ok.k4 (by decide)) (es_or (es_eq0 (fun H1 s=>ev_ixL (v:=.ref l5) (ev_var rfl) ev_c (SqL.of (s _ _ x2.ha)) rfl) x2.j5) (es_of fun H1 s=>(et_test (ev_eqI (ev_I (ev_I (ev_var rfl) ev_c (cdB (by omega) (by omega))) ev_c (by first|(show(0:Int)<_;omega)|(show(0:Int)<_;decide))) ev_c))))) (fun e H4 s4=>?_) fun e3 H4 s4=>?_
 ·simp only[Bool.and_eq_true,decide_eq_true_iff] at e
  have x3:=x2.same s4
  have g3:=g2.sm s4
  have t5:=x3.n5
  have tr:=x3.nr
  refine sq_drop (te_bm (ev_ixL (v:=.ref l5) (ev_var rfl) ev_c (SqL.of x3.ha) rfl) (.inl ⟨rfl,_,SqL.of x3.j5⟩) (ta_one (te_lstA (ta_one (te_cal (ea_cons (ev_var rfl) ea_nil) ⟨c,rfl,fun i hi=>ta_one (te_lst (vs:=[]) ea_nil (by show 0≤sizeLine;decide) fun lp nlp=>⟨(by show 2≤sizeLine;decide),fun hx nhx=>?_⟩)⟩)))))
  have nhx':H4 hx=none:=by
   cases h:H4 hx with
   |none=>rfl
   |some o=>rw[upd_ne (fk_ne h nlp),h] at nhx;cases nhx
  have hne:hx≠lp:=fun z=>by rw[z,upd_same] at nhx;cases nhx
  have s5:Same H4 (upd (upd H4 lp (.lst [])) hx (.lst [.int i,.ref lp])):=((Same.refl H4).upd nlp).upd nhx
  have f1:upd (upd H4 lp (.lst [])) hx (.lst [.int i,.ref lp]) lp=some (.lst []):=by rw[upd_ne hne.symm,upd_same]
  have f2:upd (upd H4 lp (.lst [])) hx (.lst [.int i,.ref lp]) hx=some (.lst [.int i,.ref lp]):=upd_same
  revert s5 f1 f2
  generalize upd (upd H4 lp _) hx _=H5
  intro s5 f1 f2
  have x5':=x3.same s5
  have nm:∀{z:Addr},H4 z=none→z∉[a,ln,l4,l5,l6,l7,l8,lr]:=fun e m=>by obtain⟨zs,e'⟩:=x3.fm _ (x3.mf _ m);rw[e] at e';cases e'
  have hl1:=nm nlp
  have hl2:=nm nhx'
  have m1:=hl1
  have m2:=hl2
  simp only[List.mem_cons,List.not_mem_nil,or_false,not_or] at m1 m2
  refine⟨l5,x5,_,rfl,rfl,x5'.j5,by omega,?_⟩
  have up:∀{z o},z≠l5→H5 z=some o→upd H5 l5 (.lst (x5++[.ref hx])) z=some o:=fun h e=>by rw[upd_ne h];exact e
  have f6:FK [l5,lr] H5 (upd H5 l5 (.lst (x5++[.ref hx]))):=FK.set (FK.refl _ H5) (by simp)
  have g5:upd H5 l5 (.lst (x5++[.ref hx])) l5=some (.lst (x5++[.ref hx])):=upd_same
  have ga:=up ne.1.2.2.1 x5'.ha
  have gr:=up ne.2.2.2.1.2.2.2.symm x5'.jr
  have gx:=up m2.2.2.2.1 f2
  revert f6 g5 ga gr gx
  generalize upd H5 l5 _=H6
  intro f6 g5 ga gr gx
  try dsimp only
  refine rd_drop (te_bm (ev_ixL (v:=.ref lr) (ev_var rfl) ev_c (SqL.of ga) rfl) (.inl ⟨rfl,_,SqL.of gr⟩) (ta_one (te_op (te_use ev_c (te_cbA (ea_cons (ev_ixL (v:=.int i) (ev_ixL (v:=.ref hx) (ev_ixL (v:=.ref l5) (ev_var rfl) ev_c (SqL.of ga) rfl) (ev_U ev_c) (SqL.of g5) atI_last) ev_c (SqL.of gx) rfl) ea_nil) ⟨i,rfl,lg_num hi,⟨_,_,rfl,rfl,?_,⟨lr,_,_,rfl,rfl,gr,by rw[List.length_map];omega,?_⟩⟩⟩)))))
  ·have:=len_num hi;rw[hsz,show(Str.ofString "hill ").length=5 by decide+kernel];omega
  have ex:cp (Str.ofString "hill " ++Str.ofString (toString i))=jl 32 [L "hill",numL i]:=by
   rw[cp_app,show cp (Str.ofString "hill ")=L "hill" ++[32] by decide+kernel,jl2]
   unfold numL
   simp
  revert ex
  generalize Str.ofString "hill " ++Str.ofString (toString i)=r
  intro ex
  have f7:FK [l5,lr] H5 (upd H6 lr (.lst (b.rows.map V.str++[.str r]))):=FK.set f6 (by simp)
  have h5:upd H6 lr (.lst (b.rows.map V.str++[.str r])) l5=some (.lst (x5++[.ref hx])):=by rw[upd_ne ne.2.2.2.1.2.2.2];exact g5
  have hr':upd H6 lr (.lst (b.rows.map V.str++[.str r])) lr=some (.lst ((b.rows++[r]).map V.str)):=by rw[upd_same,List.map_append];rfl
  revert f7 h5 hr'
  generalize upd H6 lr _=H7
  intro f7 h5 hr'
  have k1:=f7 _ _ (by simp[m1.2.2.2.1,m1.2.2.2.2.2.2.2]) f1
  have k2:=f7 _ _ (by simp[m2.2.2.2.1,m2.2.2.2.2.2.2.2]) f2
  have hk:b.kind=1:=e.1
  refine g3 (hx::lp::F) _ H7 (x5'.put (b':={b with hl:=true,hp:=[],rows:=b.rows++[r]}) f7 ⟨rfl,rfl,rfl,rfl,rfl⟩ rfl hr' (f7 _ _ (by simp[ne.2.2.1.1,ne.2.2.1.2.2.2.2]) x5'.j4) h5 (f7 _ _ (by simp[ne.2.2.2.1.1.symm,ne.2.2.2.2.1.2.2]) x5'.j6) (f7 _ _ (by simp[ne.2.2.2.1.2.1.symm,ne.2.2.2.2.2.1.2]) x5'.j7) (f7 _ _ (by simp[ne.2.2.2.1.2.2.1.symm,ne.2.2.2.2.2.2]) x5'.j8) ne.1.2.2.1 ne.2.1.2.1
   (Nat.le_succ_of_le x5'.n4) (by rw[List.length_append];exact Nat.add_le_add_right t5 1) (Nat.le_succ_of_le x5'.n6) (Nat.le_succ_of_le x5'.n7) (Nat.le_succ_of_le x5'.n8) (by cases x5<;>rfl) x5'.b8 (prs_up x5'.p6 (up_fk f7 x5'.j5 x5'.jr)) (fun _ h=>List.mem_cons_of_mem _ (List.mem_cons_of_mem _ h)) (fun y hy=>?_) fun _=>⟨x5,hx,i,lp,[],rfl,k2,k1,Nat.zero_le _,.nil,by simp,by simp,hl2,hl1,hne⟩) (ok.cp ⟨rfl,rfl,rfl,rfl,rfl⟩ (fun z=>absurd hk z) (fun z=>by cases z) ok.b2 ok.s3 sps_nil ok.sb) (nx_hill ex hi hk) ((FK.of s5).trans (f7.mono fun z hz=>?_)) fun z hz=>?_
  ·rcases List.mem_cons.mp hy with rfl|hy
   ·exact⟨_,k2⟩
   ·rcases List.mem_cons.mp hy with rfl|hy
    ·exact⟨_,k1⟩
    ·exact fm_put x5'.fm f7 h5 hr' y hy
  ·simp only[List.mem_cons,List.not_mem_nil,or_false] at hz
   rcases hz with rfl|rfl<;>exact x3.mf _ (by simp)
  ·rcases List.mem_cons.mp hz with rfl|hz
   ·exact .inr nhx'
   ·rcases List.mem_cons.mp hz with rfl|hz
    ·exact .inr nlp
    ·exact .inl hz
 have x3:=x2.same s4
 have g3:=g2.sm s4
 refine rd_if (et_keq (K:=K) (j:=1) (ev_ixL (v:=.str (kS b.kind)) (ev_var rfl) ev_c (SqL.of x3.ha) rfl) ok.k4 (by decide)) (fun e=>?_) fun e4=>?_
 ·have hk:=of_decide_eq_true e
  have hl:b.hl=true:=by
   rw[decide_eq_true hk,Bool.true_and,Bool.or_eq_false_iff] at e3
   rw[x3.b5,e3.1];rfl
  obtain⟨y0,hx,top,lp,ps,d1,d2,d3,d4,d5,d6,d7,d8,d9,d10⟩:=x3.hi hl
  exact rd_drop (te_cal (ea_cons (ev_var rfl) (ea_cons (ev_ixL (v:=.ref lp) (ev_ixL (v:=.ref hx) (ev_ixL (v:=.ref l5) (ev_var rfl) ev_c (SqL.of x3.ha) rfl) (ev_U ev_c) (SqL.of x3.j5) (by rw[d1];exact atI_last)) ev_c (SqL.of d2) rfl) (ea_cons (ev_var rfl) (ea_cons (ev_var rfl) ea_nil)))) (go_at1 (R:=fun H'=>Q .non H') x3 ok hn hm hk hl d1 d2 d3 d4 d5 d6 d7 d8 d9 d10 g3))
 refine rd_if (et_keq (K:=K) (j:=2) (ev_ixL (v:=.str (kS b.kind)) (ev_var rfl) ev_c (SqL.of x3.ha) rfl) ok.k4 (by decide)) (fun e=>?_) fun e5=>?_
 ·have hk:=of_decide_eq_true e
  exact rd_drop (te_cal (ea_cons (ev_var rfl) (ea_cons (ev_ixL (v:=.ref l6) (ev_var rfl) ev_c (SqL.of x3.ha) rfl) (ea_cons (ev_var rfl) (ea_cons (ev_var rfl) ea_nil)))) (go_at2 (R:=fun H'=>Q .non H') x3 ok hn hm hk g3))
 refine rd_ifS (es_and (es_of fun H1 s=>et_keq (K:=K) (j:=4) (ev_ixL (v:=.str (kS b.kind)) (ev_var rfl) ev_c (SqL.of (s _ _ x3.ha)) rfl) ok.k4 (by decide)) (es_and (es_eq0 (fun H1 s=>ev_ixL (v:=.ref l8) (ev_var rfl) ev_c (SqL.of (s _ _ x3.ha)) rfl) x3.j8) (es_of fun H1 s=>(et_test (ev_eqI (ev_I (ev_I (ev_var rfl) ev_c (cdB (by omega) (by omega))) ev_c (by first|(show(0:Int)<_;omega)|(show(0:Int)<_;decide))) ev_c))))) (fun e H5 s5=>?_) fun e6 H5 s5=>?_
 all_goals
  have x4':=x3.same s5
  have g4:=g3.sm s5
  have tr:=x4'.nr
  have t7:=x4'.n7
  have t8:=x4'.n8
  clear x3 g3 x2 g2 x1 g1
 ·simp only[Bool.and_eq_true,decide_eq_true_iff] at e
  refine sq_drop (te_bm (ev_ixL (v:=.ref l7) (ev_var rfl) ev_c (SqL.of x4'.ha) rfl) (.inl ⟨rfl,_,SqL.of x4'.j7⟩) (ta_one (te_cal (ea_cons (ev_var rfl) ea_nil) ⟨c,rfl,fun t s H6 s6 S ht=>⟨l7,x7,_,rfl,rfl,s6 _ _ x4'.j7,by omega,?_⟩⟩)))
  have x6':=x4'.same s6
  have g6:=g4.sm s6
  have S18:=S.mono (k:=10^18) (by decide)
  have f6:FK [l7,lr] H6 (upd H6 l7 (.lst (x7++[.ref t]))):=FK.set (FK.refl _ H6) (by simp)
  have g7:upd H6 l7 (.lst (x7++[.ref t])) l7=some (.lst (x7++[.ref t])):=upd_same
  have up:∀{z o},z≠l7→H6 z=some o→upd H6 l7 (.lst (x7++[.ref t])) z=some o:=fun h e=>by rw[upd_ne h];exact e
  have ga:=up ne.1.2.2.2.2.1 x6'.ha
  have gr:=up ne.2.2.2.2.2.1.2.symm x6'.jr
  have gt:=up (ne_o ht x6'.j7 fun z=>nomatch z) ht
  clear up
  revert f6 g7 ga gr gt
  generalize upd H6 l7 _=H7
  intro f6 g7 ga gr gt
  try dsimp only
  refine rd_drop (te_bm (ev_ixL (v:=.ref lr) (ev_var rfl) ev_c (SqL.of ga) rfl) (.inl ⟨rfl,_,SqL.of gr⟩) (ta_one (te_op (te_use ev_c (te_cal (ea_cons (ev_ixL (v:=.ref t) (ev_ixL (v:=.ref l7) (ev_var rfl) ev_c (SqL.of ga) rfl) (ev_U ev_c) (SqL.of g7) atI_last) ea_nil) ⟨t,s,rfl,S18,gt,fun w H8 s8 ew=>⟨_,_,rfl,rfl,?_,⟨lr,_,_,rfl,rfl,s8 _ _ gr,by rw[List.length_map];omega,?_⟩⟩⟩)))))
  ·have:=len_spot S18 ew;rw[hsz,show(Str.ofString "cut ").length=4 by decide+kernel];omega
  have ex:cp (Str.ofString "cut " ++w)=jl 32 [L "cut",spotL s]:=by
   rw[cp_app,ew,show cp (Str.ofString "cut ")=L "cut" ++[32] by decide+kernel,jl2]
   simp
  have f9:FK [l7,lr] H6 (upd H8 lr (.lst (b.rows.map V.str++[.str (Str.ofString "cut " ++w)]))):=FK.set (f6.trans (FK.of s8)) (by simp)
  have h7:upd H8 lr (.lst (b.rows.map V.str++[.str (Str.ofString "cut " ++w)])) l7=some (.lst (x7++[.ref t])):=by rw[upd_ne ne.2.2.2.2.2.1.2];exact s8 _ _ g7
  have hr':upd H8 lr (.lst (b.rows.map V.str++[.str (Str.ofString "cut " ++w)])) lr=some (.lst ((b.rows++[Str.ofString "cut " ++w]).map V.str)):=by rw[upd_same,List.map_append];rfl
  revert f9 h7 hr' ex
  generalize upd H8 lr _=H9
  generalize Str.ofString "cut " ++w=r
  intro ex f9 h7 hr'
  refine g6 F _ H9 (x6'.put (b':={b with rows:=b.rows++[r]}) f9 ⟨rfl,rfl,rfl,rfl,rfl⟩ rfl hr' (f9 _ _ (by simp[ne.2.2.1.2.2.1,ne.2.2.1.2.2.2.2]) x6'.j4) (f9 _ _ (by simp[ne.2.2.2.1.2.1,ne.2.2.2.1.2.2.2]) x6'.j5) (f9 _ _ (by simp[ne.2.2.2.2.1.1,ne.2.2.2.2.1.2.2]) x6'.j6) h7 (f9 _ _ (by simp[ne.2.2.2.2.2.1.1.symm,ne.2.2.2.2.2.2]) x6'.j8) ne.1.2.2.2.2.1 ne.2.1.2.2.2.1
   (Nat.le_succ_of_le x6'.n4) (Nat.le_succ_of_le x6'.n5) (Nat.le_succ_of_le x6'.n6) (by rw[List.length_append];exact Nat.add_le_add_right t7 1) (Nat.le_succ_of_le x6'.n8) x6'.b5 x6'.b8 (prs_up x6'.p6 (up_fk f9 x6'.j7 x6'.jr)) (fun _ h=>h) (fm_put x6'.fm f9 h7 hr') fun h=>?_) (ok.cp ⟨rfl,rfl,rfl,rfl,rfl⟩ ok.h1 ok.h0 ok.b2 ok.s3 ok.sh ok.sb) (nx_cut ex S18 e.1 (by rw[x6'.b8,e.2.1];rfl)) (f9.mono fun z hz=>?_) fun z hz=> .inl hz
  ·rw[show({b with rows:=b.rows++[r]}:Bk).hl=false from(ok.h1 (by omega)).1] at h;cases h
  ·simp only[List.mem_cons,List.not_mem_nil,or_false] at hz
   rcases hz with rfl|rfl<;>exact x6'.mf _ (by simp)
 ·have hk:b.kind=3∨b.kind=4:=by
   have k4:=ok.k4
   have e4:=of_decide_eq_false e4
   have e5:=of_decide_eq_false e5
   rw[Bool.or_eq_false_iff] at e1
   have e1:=of_decide_eq_false e1.1
   omega
  refine sq_drop (te_bm (ev_ixL (v:=.ref l8) (ev_var rfl) ev_c (SqL.of x4'.ha) rfl) (.inl ⟨rfl,_,SqL.of x4'.j8⟩) (ta_one (te_cal (ea_cons (ev_var rfl) ea_nil) ⟨c,rfl,fun t s H6 s6 S ht=>⟨l8,x8,_,rfl,rfl,s6 _ _ x4'.j8,by omega,?_⟩⟩)))
  have x6':=x4'.same s6
  have g6:=g4.sm s6
  have S18:=S.mono (k:=10^18) (by decide)
  have f6:FK [l8,lr] H6 (upd H6 l8 (.lst (x8++[.ref t]))):=FK.set (FK.refl _ H6) (by simp)
  have g7:upd H6 l8 (.lst (x8++[.ref t])) l8=some (.lst (x8++[.ref t])):=upd_same
  have up:∀{z o},z≠l8→H6 z=some o→upd H6 l8 (.lst (x8++[.ref t])) z=some o:=fun h e=>by rw[upd_ne h];exact e
  have ga:=up ne.1.2.2.2.2.2.1 x6'.ha
  have gr:=up ne.2.2.2.2.2.2.symm x6'.jr
  have gt:=up (ne_o ht x6'.j8 fun z=>nomatch z) ht
  clear up
  revert f6 g7 ga gr gt
  generalize upd H6 l8 _=H7
  intro f6 g7 ga gr gt
  try dsimp only
  refine rd_drop (te_bm (ev_ixL (v:=.ref lr) (ev_var rfl) ev_c (SqL.of ga) rfl) (.inl ⟨rfl,_,SqL.of gr⟩) (ta_one (te_op (te_use ev_c (te_cal (ea_cons (ev_ixL (v:=.ref t) (ev_ixL (v:=.ref l8) (ev_var rfl) ev_c (SqL.of ga) rfl) (ev_U ev_c) (SqL.of g7) atI_last) ea_nil) ⟨t,s,rfl,S18,gt,fun w H8 s8 ew=>⟨_,_,rfl,rfl,?_,⟨lr,_,_,rfl,rfl,s8 _ _ gr,by rw[List.length_map];omega,?_⟩⟩⟩)))))
  ·have:=len_spot S18 ew;rw[hsz,show(Str.ofString "spot ").length=5 by decide+kernel];omega
  have ex:cp (Str.ofString "spot " ++w)=jl 32 [L "spot",spotL s]:=by
   rw[cp_app,ew,show cp (Str.ofString "spot ")=L "spot" ++[32] by decide+kernel,jl2]
   simp
  have f9:FK [l8,lr] H6 (upd H8 lr (.lst (b.rows.map V.str++[.str (Str.ofString "spot " ++w)]))):=FK.set (f6.trans (FK.of s8)) (by simp)
  have h7:upd H8 lr (.lst (b.rows.map V.str++[.str (Str.ofString "spot " ++w)])) l8=some (.lst (x8++[.ref t])):=by rw[upd_ne ne.2.2.2.2.2.2];exact s8 _ _ g7
  have hr':upd H8 lr (.lst (b.rows.map V.str++[.str (Str.ofString "spot " ++w)])) lr=some (.lst ((b.rows++[Str.ofString "spot " ++w]).map V.str)):=by rw[upd_same,List.map_append];rfl
  revert f9 h7 hr' ex
  generalize upd H8 lr _=H9
  generalize Str.ofString "spot " ++w=r
  intro ex f9 h7 hr'
  refine g6 F _ H9 (x6'.put (b':={b with sp:=true,rows:=b.rows++[r]}) f9 ⟨rfl,rfl,rfl,rfl,rfl⟩ rfl hr' (f9 _ _ (by simp[ne.2.2.1.2.2.2.1,ne.2.2.1.2.2.2.2]) x6'.j4) (f9 _ _ (by simp[ne.2.2.2.1.2.2.1,ne.2.2.2.1.2.2.2]) x6'.j5) (f9 _ _ (by simp[ne.2.2.2.2.1.2.1,ne.2.2.2.2.1.2.2]) x6'.j6) (f9 _ _ (by simp[ne.2.2.2.2.2.1.1,ne.2.2.2.2.2.1.2]) x6'.j7) h7 ne.1.2.2.2.2.2.1 ne.2.1.2.2.2.2.1
   (Nat.le_succ_of_le x6'.n4) (Nat.le_succ_of_le x6'.n5) (Nat.le_succ_of_le x6'.n6) (Nat.le_succ_of_le x6'.n7) (by rw[List.length_append];exact Nat.add_le_add_right t8 1) x6'.b5 (by cases x8<;>rfl) (prs_up x6'.p6 (up_fk f9 x6'.j8 x6'.jr)) (fun _ h=>h) (fm_put x6'.fm f9 h7 hr') fun h=>?_) (ok.cp ⟨rfl,rfl,rfl,rfl,rfl⟩ ok.h1 ok.h0 ok.b2 (fun h3 h4=>by omega) ok.sh ok.sb) (nx_spot ex S18 hk) (f9.mono fun z hz=>?_) fun z hz=> .inl hz
  ·rw[show({b with sp:=true,rows:=b.rows++[r]}:Bk).hl=false from(ok.h1 (by omega)).1] at h;cases h
  ·simp only[List.mem_cons,List.not_mem_nil,or_false] at hz
   rcases hz with rfl|rfl<;>exact x6'.mf _ (by simp)
theorem es_ne0 {K:PySem.W.Frag}{ta:TE}{σ:St}{H:Hp}{l:Addr}{xs:List V}(h:∀H1,Same H H1→Ev ta σ H1 (.ref l))(e:H l=some (.lst xs)):EvS (tTest (tOp (rEq0 K true) ta (tLst tNil))) σ H (!xs.isEmpty):=fun H1 s Q q=>
 h H1 s _ ⟨(by show 0≤sizeLine;decide),fun p np=>⟨l,p,xs,rfl,rfl,SqL.of (by rw[upd_ne (fk_ne (s _ _ e) np)];exact s _ _ e),SqL.of upd_same,_,rfl,q _ ((Same.refl H1).upd np)⟩⟩
theorem sq_ifS {tc:TT}{t u:TS}{D:Ends}{σ:St}{H:Hp}{b:Bool}(h:EvS tc σ H b)(h1:b=true→∀H1,Same H H1→t {D with nx:=u D} σ H1)(h2:b=false→∀H1,Same H H1→u D σ H1):tSeq (tIfS tc t tNext) u D σ H:=rd_ifS (D:={D with nx:=u D}) (u:=tNext) h h1 h2
theorem te_slR {K:PySem.W.Frag}{ta tb:TE}{σ:St}{H:Hp}{Q:VK}(h:ta σ H fun x H1=>tb σ H1 fun y H2=>∃i,y=.int i∧∃a xs,x=.ref a∧SqL K H2 a xs∧∀p,H2 p=none→Q (.ref p) (upd H2 p (.lst (cutV xs none (some i))))):tSl (rSlL K) ta tNoPart (tPart tb) σ H Q:=h
theorem nw {H:Hp}{l z:Addr}{o:HO}(h:upd H l o z=none):z≠l∧H z=none:=by
 by_cases e:z=l
 ·rw[e,upd_same] at h;cases h
 ·rw[upd_ne e] at h;exact⟨e,h⟩
theorem BksAt.last {n:Nat}{F as:List Addr}{H:Hp}{bs:List Bk}(x:BksAt n H F as bs)(h:as≠[]):∃F0 G as0 bs0 a b,as=as0++[a]∧bs=bs0++[b]∧F=F0++G∧BksAt n H F0 as0 bs0∧BkAt n G H a b∧∀y∈G,y∉F0:=by
 cases x with
 |nil=>exact absurd rfl h
 |snoc h1 h2 h3=>exact⟨_,_,_,_,_,_,rfl,rfl,rfl,h1,h2,h3⟩
theorem bk_new {H:Hp}{part place kd:Nat}{name:Str}{nums:List Int}{a ln l4 l5 l6 l7 l8 lr:Addr}(hn:H ln=some (.lst (nums.map V.int)))(n4:H l4=none)(n5:upd H l4 (.lst []) l5=none)(n6:upd (upd H l4 (.lst [])) l5 (.lst []) l6=none)(n7:upd (upd (upd H l4 (.lst [])) l5 (.lst [])) l6 (.lst []) l7=none)(n8:upd (upd (upd (upd H l4 (.lst [])) l5 (.lst [])) l6 (.lst [])) l7 (.lst []) l8=none)(nr:upd (upd (upd (upd (upd H l4 (.lst [])) l5 (.lst [])) l6 (.lst [])) l7 (.lst [])) l8 (.lst []) lr=none)
  (na:upd (upd (upd (upd (upd (upd H l4 (.lst [])) l5 (.lst [])) l6 (.lst [])) l7 (.lst [])) l8 (.lst [])) lr (.lst []) a=none):∃H',upd (upd (upd (upd (upd (upd (upd H l4 (.lst [])) l5 (.lst [])) l6 (.lst [])) l7 (.lst [])) l8 (.lst [])) lr (.lst [])) a (.lst [.int (part:Nat),.str name,.str (kS kd),.ref ln,.ref l4,.ref l5,.ref l6,.ref l7,.ref l8,.int (place:Nat),.ref lr])=H'∧
  BkAt 0 [a,ln,l4,l5,l6,l7,l8,lr] H' a ⟨part,name,kd,nums,place,false,[],[],false,[]⟩∧(∀z∈[a,l4,l5,l6,l7,l8,lr],H z=none)∧Same H H':=by
 have sm:Same H _:=(((((((Same.refl H).upd n4).upd n5).upd n6).upd n7).upd n8).upd nr).upd (o:=.lst [.int (part:Nat),.str name,.str (kS kd),.ref ln,.ref l4,.ref l5,.ref l6,.ref l7,.ref l8,.int (place:Nat),.ref lr]) na
 refine⟨_,rfl,?_,?_,sm⟩
 all_goals
  obtain⟨c1,na⟩:=nw na
  obtain⟨c2,na⟩:=nw na
  obtain⟨c3,na⟩:=nw na
  obtain⟨c4,na⟩:=nw na
  obtain⟨c5,na⟩:=nw na
  obtain⟨c6,na⟩:=nw na
  obtain⟨r1,nr⟩:=nw nr
  obtain⟨r2,nr⟩:=nw nr
  obtain⟨r3,nr⟩:=nw nr
  obtain⟨r4,nr⟩:=nw nr
  obtain⟨r5,nr⟩:=nw nr
  obtain⟨d1,n8⟩:=nw n8
  obtain⟨d2,n8⟩:=nw n8
  obtain⟨d3,n8⟩:=nw n8
  obtain⟨d4,n8⟩:=nw n8
  obtain⟨e1,n7⟩:=nw n7
  obtain⟨e2,n7⟩:=nw n7
  obtain⟨e3,n7⟩:=nw n7
  obtain⟨g1,n6⟩:=nw n6
  obtain⟨g2,n6⟩:=nw n6
  obtain⟨i1,n5⟩:=nw n5
 ·have m0:=(fk_ne hn na).symm
  have m4:=fk_ne hn n4
  have m5:=fk_ne hn n5
  have m6:=fk_ne hn n6
  have m7:=fk_ne hn n7
  have m8:=fk_ne hn n8
  have mr:=fk_ne hn nr
  have hc:=sm _ _ hn
  have c1':=c1.symm
  have c2':=c2.symm
  have c3':=c3.symm
  have c4':=c4.symm
  have c5':=c5.symm
  have c6':=c6.symm
  have r1':=r1.symm
  have r2':=r2.symm
  have r3':=r3.symm
  have r4':=r4.symm
  have r5':=r5.symm
  have d1':=d1.symm
  have d2':=d2.symm
  have d3':=d3.symm
  have d4':=d4.symm
  have e1':=e1.symm
  have e2':=e2.symm
  have e3':=e3.symm
  have g1':=g1.symm
  have g2':=g2.symm
  have i1':=i1.symm
  have k4:upd (upd (upd (upd (upd (upd (upd H l4 (.lst [])) l5 (.lst [])) l6 (.lst [])) l7 (.lst [])) l8 (.lst [])) lr (.lst [])) a (.lst [.int (part:Nat),.str name,.str (kS kd),.ref ln,.ref l4,.ref l5,.ref l6,.ref l7,.ref l8,.int (place:Nat),.ref lr]) l4=some (.lst []):=by rw[upd_ne c6',upd_ne r5',upd_ne d4',upd_ne e3',upd_ne g2',upd_ne i1',upd_same]
  have k5:upd (upd (upd (upd (upd (upd (upd H l4 (.lst [])) l5 (.lst [])) l6 (.lst [])) l7 (.lst [])) l8 (.lst [])) lr (.lst [])) a (.lst [.int (part:Nat),.str name,.str (kS kd),.ref ln,.ref l4,.ref l5,.ref l6,.ref l7,.ref l8,.int (place:Nat),.ref lr]) l5=some (.lst []):=by rw[upd_ne c5',upd_ne r4',upd_ne d3',upd_ne e2',upd_ne g1',upd_same]
  have k6:upd (upd (upd (upd (upd (upd (upd H l4 (.lst [])) l5 (.lst [])) l6 (.lst [])) l7 (.lst [])) l8 (.lst [])) lr (.lst [])) a (.lst [.int (part:Nat),.str name,.str (kS kd),.ref ln,.ref l4,.ref l5,.ref l6,.ref l7,.ref l8,.int (place:Nat),.ref lr]) l6=some (.lst []):=by rw[upd_ne c4',upd_ne r3',upd_ne d2',upd_ne e1',upd_same]
  have k7:upd (upd (upd (upd (upd (upd (upd H l4 (.lst [])) l5 (.lst [])) l6 (.lst [])) l7 (.lst [])) l8 (.lst [])) lr (.lst [])) a (.lst [.int (part:Nat),.str name,.str (kS kd),.ref ln,.ref l4,.ref l5,.ref l6,.ref l7,.ref l8,.int (place:Nat),.ref lr]) l7=some (.lst []):=by rw[upd_ne c3',upd_ne r2',upd_ne d1',upd_same]
  have k8:upd (upd (upd (upd (upd (upd (upd H l4 (.lst [])) l5 (.lst [])) l6 (.lst [])) l7 (.lst [])) l8 (.lst [])) lr (.lst [])) a (.lst [.int (part:Nat),.str name,.str (kS kd),.ref ln,.ref l4,.ref l5,.ref l6,.ref l7,.ref l8,.int (place:Nat),.ref lr]) l8=some (.lst []):=by rw[upd_ne c2',upd_ne r1',upd_same]
  have kr:upd (upd (upd (upd (upd (upd (upd H l4 (.lst [])) l5 (.lst [])) l6 (.lst [])) l7 (.lst [])) l8 (.lst [])) lr (.lst [])) a (.lst [.int (part:Nat),.str name,.str (kS kd),.ref ln,.ref l4,.ref l5,.ref l6,.ref l7,.ref l8,.int (place:Nat),.ref lr]) lr=some (.lst []):=by rw[upd_ne c1',upd_same]
  have ka:upd (upd (upd (upd (upd (upd (upd H l4 (.lst [])) l5 (.lst [])) l6 (.lst [])) l7 (.lst [])) l8 (.lst [])) lr (.lst [])) a (.lst [.int (part:Nat),.str name,.str (kS kd),.ref ln,.ref l4,.ref l5,.ref l6,.ref l7,.ref l8,.int (place:Nat),.ref lr]) a=some (.lst [.int (part:Nat),.str name,.str (kS kd),.ref ln,.ref l4,.ref l5,.ref l6,.ref l7,.ref l8,.int (place:Nat),.ref lr]):=upd_same
  clear sm
  revert k4 k5 k6 k7 k8 kr ka hc
  generalize upd _ a _=H'
  intro hc k4 k5 k6 k7 k8 kr ka
  refine⟨ln,l4,l5,l6,l7,l8,lr,[],[],[],[],[],?_⟩
  exact{
   ha:=ka
   hn:=hc
   j4:=k4
   j5:=k5
   j6:=k6
   j7:=k7
   j8:=k8
   jr:=kr
   n4:=Nat.le_refl 0
   n5:=Nat.le_refl 0
   n6:=Nat.le_refl 0
   n7:=Nat.le_refl 0
   n8:=Nat.le_refl 0
   nr:=Nat.le_refl 0
   b5:=rfl
   b8:=rfl
   p6:=.nil
   nd:=by simp[*]
   mf:=fun _ h=>h
   fm:=fun y hy=>by
    simp only[List.mem_cons,List.not_mem_nil,or_false] at hy
    rcases hy with rfl|rfl|rfl|rfl|rfl|rfl|rfl|rfl
    ·exact⟨_,ka⟩
    ·exact⟨_,hc⟩
    ·exact⟨_,k4⟩
    ·exact⟨_,k5⟩
    ·exact⟨_,k6⟩
    ·exact⟨_,k7⟩
    ·exact⟨_,k8⟩
    ·exact⟨_,kr⟩
   hi:=fun h=>by cases h}
 ·intro z hz
  simp only[List.mem_cons,List.not_mem_nil,or_false] at hz
  rcases hz with rfl|rfl|rfl|rfl|rfl|rfl|rfl<;>assumption
theorem kd_pick {m:Int}:∃k:Nat,k<4∧m/96%4=(k:Int):=⟨(m/96%4).toNat,by omega,by omega⟩
theorem Nms.lt {ns:List Str}(h:Nms ns){i j:Nat}{x y:Str}(hi:ns[i]?=some x)(hj:ns[j]?=some y)(l:i<j):cp x<cp y:=by
 obtain⟨i1,e1⟩:=List.getElem?_eq_some_iff.mp hi
 obtain⟨j1,e2⟩:=List.getElem?_eq_some_iff.mp hj
 have:=List.pairwise_iff_getElem.mp h.up i j i1 j1 l
 rw[e1,e2] at this
 exact this
theorem ok_Begun {cDraft cReading cWireError cBadRow cBadAnswer cPt cNk:Addr}{f:Addr}{fd:FuncData}(F:Fun K "_law_begun" "_law_begun" sBegun f fd)(T:Txt w K mg cDraft cReading cWireError cBadRow cBadAnswer cPt cNk)(gNumber:Callee P w K mg base "_law_number" 1 ["cell"] spNumber):FnOk P w K mg base CX0 2 f fd ["blocks", "names", "mixed", "cell"] spBegun:=by
 have sc:FnScope ["blocks", "names", "mixed", "cell", "part", "place", "kind", "numbers"] ["blocks", "names", "mixed", "cell"] (defScope sBegun):=⟨rfl,rfl,rfl,by decide+kernel,rfl,by decide+kernel,by decide+kernel⟩
 refine F.ok sc (fun vs H Q E h=>by repeat (first|(obtain⟨rfl,_⟩:=h;rfl)|(obtain⟨_,h⟩:=h))) (fun cdv A outer s H vs Q E hr h=>?_)
 obtain⟨bl,nl,c,m,n,k,F,as,bs,ns,rfl,hm,hn,hbl,hB,hBs,hN,hnl,q1,q2⟩:=h
 refine⟨_,(pss_cons (ps_set (i:=4) sc.nd rfl (Or.inl rfl) (pe_op op_mod (pe_op op_fdivB (pv 2) pe_int) pe_int))
 (pss_cons (ps_set (i:=5) sc.nd rfl (Or.inl rfl) (pe_op op_mod (pe_op op_fdivB (pv 2) pe_int) pe_int))
 (pss_cons (ps_if (pt_cmpR (op_ne0 hr) (pv 0) (pe_lst pa_nil) (nomark _))
 (pss_cons (ps_set (i:=4) sc.nd rfl (Or.inl rfl) (pe_ix ix_list (pe_ix ix_list (pv 0) (pe_un un_neg pe_int) (fun _ _=>rfl)) pe_int (fun _ _=>rfl)))
 (pss_cons (ps_set (i:=5) sc.nd rfl (Or.inl rfl) (pe_op op_add (pe_op op_add (pe_ix ix_list (pe_ix ix_list (pv 0) (pe_un un_neg pe_int) (fun _ _=>rfl)) pe_int (fun _ _=>rfl)) pe_int) (pe_op op_mod (pe_op op_fdivB (pv 2) pe_int) pe_int)))
 (pss_cons (ps_if (pw_and (pt_cmpR op_lt (pv 4) pe_int (nomark _)) (pw_and1 (pw_or (pt_cmpR op_eq (pe_op op_mod (pv 2) pe_int) pe_int (nomark _)) (pw_or1 (pt_cmpR op_ge (pv 5) (pe_callB call_len (by rfl) T.len_ bt_len (pa_cons (pv 1) pa_nil)) (nomark _)))).pt)).pt
 (pss_cons (ps_set (i:=4) sc.nd rfl (Or.inl rfl) (pe_op op_add (pv 4) pe_int))
 (pss_one (ps_set (i:=5) sc.nd rfl (Or.inl rfl) (pe_op op_mod (pe_op op_fdivB (pv 2) pe_int) pe_int))))
 pss_nil)
 (pss_one (ps_if (pt_cmpR op_ge (pv 5) (pe_callB call_len (by rfl) T.len_ bt_len (pa_cons (pv 1) pa_nil)) (nomark _))
 (pss_one (ps_ret pe_non))
 pss_nil)))))
 pss_nil)
 (pss_cons (ps_set (i:=6) sc.nd rfl (Or.inl rfl) (pe_ix ix_list (pe_lst (pa_cons pe_str (pa_cons pe_str (pa_cons pe_str (pa_cons pe_str pa_nil))))) (pe_op op_mod (pe_op op_fdivB (pv 2) pe_int) pe_int) (fun _ _=>rfl)))
 (pss_cons (ps_set (i:=7) sc.nd rfl (Or.inl rfl) (pe_slice sl_list (pe_lst (pa_cons (pe_cal gNumber (hr.mono (by decide)) (by rfl) (pa_cons (pv 3) pa_nil)) (pa_cons (pe_cal gNumber (hr.mono (by decide)) (by rfl) (pa_cons (pe_op op_add (pe_op op_mul (pv 3) pe_int) (pv 2)) pa_nil)) pa_nil))) po_none (po_some (pe_ix ix_list (pe_lst (pa_cons pe_int (pa_cons pe_int (pa_cons pe_int (pa_cons pe_int pa_nil))))) (pe_op op_mod (pe_op op_fdivB (pv 2) pe_int) pe_int) (fun _ _=>rfl)))))
 (pss_cons (ps_if (pt_cmpR op_eq (pv 4) pe_int (nomark _))
 (pss_cons (ps_set (i:=6) sc.nd rfl (Or.inl rfl) pe_str)
 (pss_one (ps_set (i:=7) sc.nd rfl (Or.inl rfl) (pe_lst pa_nil))))
 pss_nil)
 (pss_one (ps_ret (pe_lst (pa_cons (pv 4) (pa_cons (pe_ix ix_list (pv 1) (pv 5) (fun _ _=>rfl)) (pa_cons (pv 6) (pa_cons (pv 7) (pa_cons (pe_lst pa_nil) (pa_cons (pe_lst pa_nil) (pa_cons (pe_lst pa_nil) (pa_cons (pe_lst pa_nil) (pa_cons (pe_lst pa_nil) (pa_cons (pv 5) (pa_cons (pe_lst pa_nil) pa_nil)))))))))))))))))))),?_⟩
 have hsz:sizeLine=2^24:=rfl
 refine sq_set (ev_I (ev_I (ev_var rfl) ev_c (cdB (by omega) (by omega))) ev_c (by first|(show(0:Int)<_;omega)|(show(0:Int)<_;decide))) ?_
 refine sq_set (ev_I (ev_I (ev_var rfl) ev_c (cdB (by omega) (by omega))) ev_c (by first|(show(0:Int)<_;omega)|(show(0:Int)<_;decide))) ?_
 refine nrm (σ':=[some (.ref bl),some (.ref nl),some (.int m),some (.int c),some (.int (m/8%3)),some (.int (m/24%3)),none,none]) (by kernel_rfl) ?_
 refine sq_J (fun σ H'=>∃p l:Nat,σ=[some (.ref bl),some (.ref nl),some (.int m),some (.int c),some (.int (p:Nat)),some (.int (l:Nat)),none,none]∧Same H H'∧p<3∧l<10∧∀b0,bs.getLast?=some b0→b0.part<p∨(b0.part=p∧b0.place<l)) (fun R hR=>?_) ?_
 ·refine rd_ifS (es_ne0 (fun H1 s=>ev_var rfl) hbl) (fun e H1 s1=>?_) fun e H1 s1=>?_
  ·have hne:as≠[]:=fun z=>by rw[z] at e;cases e
   obtain⟨F0,G,as0,bs0,a0,b0,ea,eb,-,-,⟨ln,l4,l5,l6,l7,l8,lr,x4,x5,x6,x7,x8,x⟩,-⟩:=hB.last hne
   have hbs:bs≠[]:=by rw[eb];simp
   have hlast:bs.getLast?=some b0:=by rw[eb];simp
   have ok:=hBs.la b0 hlast
   have h10:b0.place<10:=by rw[←hN.ln];exact lt_of_get ok.pl
   have h3:=ok.p3
   have hla:atI (as.map V.ref) (-1)=some (.ref a0):=by rw[ea,List.map_append];exact atI_last
   have b1:=s1 _ _ hbl
   have a1:=s1 _ _ x.ha
   have n1:=s1 _ _ hnl
   refine sq_set (v:=.int (b0.part:Nat)) (ev_ixL (ev_ixL (v:=.ref a0) (ev_var rfl) (ev_U ev_c) (SqL.of b1) hla) ev_c (SqL.of a1) rfl) ?_
   obtain⟨l,hl⟩:=Int.eq_ofNat_of_zero_le (show 0≤(b0.place:Int)+1+m/24%2 by omega)
   refine sq_set (v:=.int (l:Nat)) (ev_of (ev_I0 (ev_I0 (ev_ixL (v:=.int (b0.place:Nat)) (ev_ixL (v:=.ref a0) (ev_var rfl) (ev_U ev_c) (SqL.of b1) hla) ev_c (SqL.of a1) rfl) ev_c) (ev_I (ev_I (ev_var rfl) ev_c (cdB (by omega) (by omega))) ev_c (by first|(show(0:Int)<_;omega)|(show(0:Int)<_;decide)))) (by rw[←hl])) ?_
   refine nrm (σ':=[some (.ref bl),some (.ref nl),some (.int m),some (.int c),some (.int (b0.part:Nat)),some (.int (l:Nat)),none,none]) (by kernel_rfl) ?_
   refine sq_J (fun σ H'=>∃p l:Nat,σ=[some (.ref bl),some (.ref nl),some (.int m),some (.int c),some (.int (p:Nat)),some (.int (l:Nat)),none,none]∧Same H H'∧p<3∧(b0.part<p∨(b0.part=p∧b0.place<l))) (fun R2 hR2=>?_) ?_
   ·refine rd_ifS (es_and (es_of fun H2 s2=>(et_test (ev_I0 (ev_var rfl) ev_c))) (es_or (es_of fun H2 s2=>(et_test (ev_eqI (ev_I (ev_var rfl) ev_c (by first|(show(0:Int)<_;omega)|(show(0:Int)<_;decide))) ev_c))) (es_of fun H2 s2=>et_test (ev_ge (ev_var rfl) (ev_len (K:=K) (ev_var rfl) (s2 _ _ n1)))))) (fun e2 H2 s2=>?_) fun e2 H2 s2=>?_
    ·rw[Bool.and_eq_true] at e2
     have e3:=of_decide_eq_true e2.1
     refine sq_set (v:=.int ((b0.part+1:Nat):Int)) (ev_of (ev_I0 (g:=fun i j=> .int (i+j)) (ev_var rfl) ev_c) (by push_cast;rfl)) ?_
     obtain⟨l',hl'⟩:=Int.eq_ofNat_of_zero_le (show 0≤m/24%4 by omega)
     refine(ev_of (ev_I (ev_I (ev_var rfl) ev_c (cdB (by omega) (by omega))) ev_c (by first|(show(0:Int)<_;omega)|(show(0:Int)<_;decide))) (show _=V.int (l':Nat) by rw[←hl'])) _ ?_
     exact hR2 _ _ ⟨b0.part+1,l',by kernel_rfl,s1.trans s2,by omega,.inl (by omega)⟩
    ·exact hR2 _ _ ⟨b0.part,l,rfl,s1.trans s2,h3,.inr ⟨rfl,by omega⟩⟩
   rintro σ H2 ⟨p,l2,rfl,s2,hp,hc⟩
   refine rd_if (et_test (ev_ge (ev_var rfl) (ev_len (K:=K) (ev_var rfl) (s2 _ _ hnl)))) (fun e3=>?_) fun e3=>?_
   ·exact rd_ret ev_c (q1 hbs H2 s2)
   ·have e3:=of_decide_eq_false e3
    rw[List.length_map,hN.ln] at e3
    exact hR _ _ ⟨p,l2,rfl,s2,hp,by omega,fun b' hb'=>by rw[hlast] at hb';cases hb';exact hc⟩
  ·have hne:as=[]:=by cases as with|nil=>rfl|cons _ _=>cases e
   have hb0:bs=[]:=List.eq_nil_of_length_eq_zero (by rw[←hB.len,hne];rfl)
   refine hR _ _ ⟨(m/8%3).toNat,(m/24%3).toNat,?_,s1,by omega,by omega,fun b' hb'=>by rw[hb0] at hb';cases hb'⟩
   rw[Int.toNat_of_nonneg (by omega),Int.toNat_of_nonneg (by omega)]
 rintro σ H1 ⟨p,l,rfl,s1,hp,hl,hcond⟩
 obtain⟨kk,hk4,hkk⟩:=kd_pick (m:=m)
 have hp1:atI [V.str (Str.ofString "tree"),.str (Str.ofString "bundle"),.str (Str.ofString "shore"),.str (Str.ofString "cut")] (m/96%4)=some (.str (kS (kk+1))):=by
  rw[hkk]
  match kk,hk4 with
  |0,_|1,_|2,_|3,_=>rfl
 have hp2:atI [V.int 1,.int 2,.int 0,.int 0] (m/96%4)=some (.int (kN (kk+1):Nat)):=by
  rw[hkk]
  match kk,hk4 with
  |0,_|1,_|2,_|3,_=>rfl
 have hkn:kN (kk+1)≤2:=by unfold kN;split<;>(try split)<;>decide
 refine sq_asg (te_pick (ea_cons ev_c (ea_cons ev_c (ea_cons ev_c (ea_cons ev_c ea_nil)))) (by show 4≤sizeLine;decide) (fun H2 _=>(ev_I (ev_I (ev_var rfl) ev_c (cdB (by omega) (by omega))) ev_c (by first|(show(0:Int)<_;omega)|(show(0:Int)<_;decide)))) hp1 fun H2 s2=>?_)
 refine nrm (σ':=[some (.ref bl),some (.ref nl),some (.int m),some (.int c),some (.int (p:Nat)),some (.int (l:Nat)),some (.str (kS (kk+1))),none]) (by kernel_rfl) ?_
 refine sq_asg (te_slR (te_lstA (ta_one (te_cal (ea_cons (ev_var rfl) ea_nil) ⟨c,rfl,fun i1 h1=>ta_one (te_cal (ea_cons (ev_I0 (ev_I (ev_var rfl) ev_c (cmR (by decide) (by decide))) (ev_var rfl)) ea_nil) ⟨_,rfl,fun i2 h2=>⟨(by show 2≤sizeLine;decide),fun t nt=>te_pick (ea_cons ev_c (ea_cons ev_c (ea_cons ev_c (ea_cons ev_c ea_nil)))) (by show 4≤sizeLine;decide) (fun H3 _=>(ev_I (ev_I (ev_var rfl) ev_c (cdB (by omega) (by omega))) ev_c (by first|(show(0:Int)<_;omega)|(show(0:Int)<_;decide)))) hp2 fun H3 s3=>⟨_,rfl,t,_,rfl,SqL.of (s3 _ _ upd_same),fun u nu=>?_⟩⟩⟩)⟩))))
 rw[cut_to [.int i1,.int i2] (kN (kk+1)) hkn]
 have s4:Same H (upd H3 u (.lst (([.int i1,.int i2]:List V).take (kN (kk+1))))):=(s1.trans s2).trans ((((Same.refl H2).upd nt).trans s3).trans ((Same.refl H3).upd nu))
 have hu:upd H3 u (.lst (([.int i1,.int i2]:List V).take (kN (kk+1)))) u=some (.lst ((([i1,i2]:List Int).take (kN (kk+1))).map V.int)):=by rw[upd_same,List.map_take];rfl
 have nu':H u=none:=by
  cases h:H u with
  |none=>rfl
  |some o=>rw[s3 _ _ (((Same.refl H2).upd nt) _ _ (s2 _ _ (s1 _ _ h)))] at nu;cases nu
 revert s4 hu
 generalize upd H3 u _=H4
 intro s4 hu
 try dsimp only
 refine nrm (σ':=[some (.ref bl),some (.ref nl),some (.int m),some (.int c),some (.int (p:Nat)),some (.int (l:Nat)),some (.str (kS (kk+1))),some (.ref u)]) (by kernel_rfl) ?_
 refine sq_J (fun σ H'=>∃(kd:Nat) (ln:Addr) (nums:List Int),σ=[some (.ref bl),some (.ref nl),some (.int m),some (.int c),some (.int (p:Nat)),some (.int (l:Nat)),some (.str (kS kd)),some (.ref ln)]∧Same H H'∧H ln=none∧H' ln=some (.lst (nums.map V.int))∧kd≤4∧(p=0↔kd=0)∧nums.length=kN kd∧∀i∈nums,i.natAbs<10^18) (fun R hR=>?_) ?_
 ·refine rd_if (et_test (ev_eqI (ev_var rfl) ev_c)) (fun e=>?_) fun e=>?_
  ·have e0:p=0:=by have:=of_decide_eq_true e;omega
   refine sq_set (v:=.str (kS 0)) ev_c ?_
   refine te_lst (vs:=[]) ea_nil (by show 0≤sizeLine;decide) fun w nw'=>?_
   refine hR _ _ ⟨0,w,[],by kernel_rfl,s4.trans ((Same.refl H4).upd nw'),?_,upd_same,by decide,by simp[e0],rfl,fun i hi=>by cases hi⟩
   cases h:H w with
   |none=>rfl
   |some o=>rw[s4 _ _ h] at nw';cases nw'
  ·have e0:p≠0:=fun z=>of_decide_eq_false e (by rw[z];rfl)
   refine hR _ _ ⟨kk+1,u,_,rfl,s4,nu',hu,by omega,by simp[e0],by rw[List.length_take];exact Nat.min_eq_left hkn,fun i hi=>?_⟩
   have:=List.mem_of_mem_take hi
   simp only[List.mem_cons,List.not_mem_nil,or_false] at this
   rcases this with rfl|rfl
   ·exact h1
   ·exact h2
 rintro σ H5 ⟨kd,ln,nums,rfl,s5,nln,hln,hkd,hpk,hnn,hnb⟩
 obtain⟨nm,hnm⟩:∃nm,ns[l]?=some nm:=⟨ns[l]'(by rw[hN.ln];exact hl),List.getElem?_eq_getElem _⟩
 refine rd_lstA (ta_ev (ev_var rfl) (ta_ev (ev_ixL (v:=.str nm) (ev_var rfl) (ev_var rfl) (SqL.of (s5 _ _ hnl)) (atI_nat (by rw[List.getElem?_map,hnm];rfl))) (ta_ev (ev_var rfl) (ta_ev (ev_var rfl) (ta_one (te_lst (vs:=[]) ea_nil (by show 0≤sizeLine;decide) fun l4 n4=>ta_one (te_lst (vs:=[]) ea_nil (by show 0≤sizeLine;decide) fun l5 n5=>ta_one (te_lst (vs:=[]) ea_nil (by show 0≤sizeLine;decide) fun l6 n6=>ta_one (te_lst (vs:=[]) ea_nil (by show 0≤sizeLine;decide) fun l7 n7=>ta_one (te_lst (vs:=[]) ea_nil (by show 0≤sizeLine;decide) fun l8 n8=>ta_ev (ev_var rfl) (ta_one (te_lst (vs:=[]) ea_nil (by show 0≤sizeLine;decide) fun lr nr=>⟨(by show 11≤sizeLine;decide),fun a na=>?_⟩))))))))))))
 obtain⟨H',eH,hbk,hnew,sH⟩:=bk_new (part:=p) (place:=l) (kd:=kd) (name:=nm) hln n4 n5 n6 n7 n8 nr na
 show Q _ (upd _ a _)
 rw[show(([]:List V)=[]) from rfl]
 refine(show Q (.ref a) H' from ?_:Q (.ref a) H')|>(eH▸ ·)
 refine q2 a _ _ H' (s5.trans sH) hbk (fun z hz=>?_) ⟨⟨hp,hkd,hpk,hnn,hnb,hN.ok nm (List.mem_of_getElem? hnm)⟩,hnm,fun _=>⟨rfl,rfl⟩,fun _=>rfl,fun _=>rfl,fun _ _=>rfl,sps_nil,sps_nil⟩ ?_ rfl (by unfold dOf fresh;simp)
 ·have hb:∀{z},H5 z=none→H z=none:=fun{z} e=>by
   cases h:H z with
   |none=>rfl
   |some o=>rw[s5 _ _ h] at e;cases e
  by_cases e:z=ln
  ·rw[e];exact nln
  ·exact hb (hnew z (by simp only[List.mem_cons,List.not_mem_nil,or_false] at hz⊢;simp only[e,false_or] at hz;exact hz))
 ·cases e:bs.getLast? with
  |none=>trivial
  |some b0=>
   rcases hcond b0 e with z|⟨z1,z2⟩
   ·exact .inl z
   ·exact .inr ⟨z1,hN.lt (hBs.la b0 e).pl hnm z2⟩
theorem runR_app:∀(a b:List (List Nat)) (st:Rs),runR st (a++b)=(runR st a).bind fun s=>runR s b
 |[],_,_=>rfl
 |r::a,b,st=>by
  show(takeR st (cut 32 r)).bind (fun st'=>runR st' (a++b))=((takeR st (cut 32 r)).bind fun st'=>runR st' a).bind fun s=>runR s b
  cases takeR st (cut 32 r) with
  |none=>rfl
  |some s=>exact runR_app a b s
theorem rowsA_snoc (bs:List Bk)(b:Bk):rowsA (bs++[b])=rowsA bs++rowsB b:=by
 unfold rowsA
 rw[List.map_append,List.flatten_append]
 simp
theorem let_all:∀c∈lets++figs,c<128∧c≠10∧c≠32∧48≤c:=by decide+kernel
theorem let_97:∀c∈lets,97≤c:=by decide+kernel
theorem good_all {l:List Nat}(h:goodL l=true):(∀c∈l,c<128∧c≠10)∧l.length≤60∧32∉l∧l≠[]∧∀c,l[0]?=some c→97≤c:=by
 cases l with
 |nil=>cases h
 |cons c r=>
  rw[good_cons] at h
  simp only[Bool.and_eq_true,decide_eq_true_iff,List.all_eq_true,Bool.or_eq_true] at h
  obtain⟨⟨h1,h2⟩,h3⟩:=h
  have ha:∀d∈c::r,d∈lets++figs:=fun d hd=>by
   rcases List.mem_cons.mp hd with rfl|hd
   ·exact List.mem_append_left _ h2
   ·exact List.mem_append.mpr (h3 d hd)
  exact⟨fun d hd=>⟨(let_all d (ha d hd)).1,(let_all d (ha d hd)).2.1⟩,by rw[List.length_cons];omega,fun hd=>(let_all 32 (ha 32 hd)).2.2.1 rfl,by simp,fun d hd=>by cases hd;exact let_97 _ h2⟩
theorem pL_is {p:Nat}(h:p<3):partP (pL p)=some p∧32∉pL p∧(∀c∈pL p,c<128∧c≠10)∧(pL p).length≤60:=by
 match p,h with
 |0,_|1,_|2,_=>decide+kernel
theorem kL_is {k:Nat}(h:k≤4)(h0:k≠0):kindP (kL k)=some (k,kN k)∧32∉kL k∧(∀c∈kL k,c<128∧c≠10)∧(kL k).length≤60:=by
 match k,h,h0 with
 |1,_,_|2,_,_|3,_,_|4,_,_=>decide+kernel
theorem L_laid:L "laid" =pL 0:=by decide+kernel
theorem headW_is {b:Bk}(h:HdOk b):headW b=pL b.part::cp b.name::(if b.part=0 then [] else kL b.kind::b.nums.map numL):=by
 unfold headW
 by_cases e:b.part=0
 ·rw[if_pos e,if_pos e,e,L_laid]
 ·rw[if_neg e,if_neg e];rfl
theorem head_row {b:Bk}(h:HdOk b):RowOk (headL b)∧cut 32 (headL b)=headW b:=by
 have gn:=good_all h.nm
 have hp:=pL_is h.p3
 have hw:∀w∈headW b,32∉w∧(∀c∈w,c<128∧c≠10)∧w.length≤60:=by
  intro w hw
  rw[headW_is h] at hw
  rcases List.mem_cons.mp hw with rfl|hw
  ·exact⟨hp.2.1,hp.2.2.1,hp.2.2.2⟩
  rcases List.mem_cons.mp hw with rfl|hw
  ·exact⟨gn.2.2.1,gn.1,gn.2.1⟩
  split at hw
  ·cases hw
  ·rename_i e
   have hk:=kL_is h.k4 fun z=>e (h.pk.mpr z)
   rcases List.mem_cons.mp hw with rfl|hw
   ·exact⟨hk.2.1,hk.2.2.1,hk.2.2.2⟩
   ·obtain⟨i,hi,rfl⟩:=List.mem_map.mp hw
    exact⟨numL_free (by decide),(numL_all (h.nb i hi)).1,Nat.le_trans (numL_all (h.nb i hi)).2 (by decide)⟩
 have hl:(headW b).length≤6:=by
  have hn:=h.nn
  have:kN b.kind≤2:=by unfold kN;split<;>(try split)<;>decide
  rw[headW_is h]
  split
  ·exact(show 2≤6 by decide)
  ·simp only[List.length_cons,List.length_map];omega
 exact⟨RowOk.jl (fun w z=>(hw w z).2) hl,cut_jl (by rw[headW_is h];simp) fun w z=>(hw w z).1⟩
theorem lt_nil {l:List Nat}(h:l≠[]):([]:List Nat)<l:=by
 cases l with
 |nil=>exact absurd rfl h
 |cons c r=>exact List.nil_lt_cons c r
theorem head_take {b:Bk}{o:Option Bk}(h:HdOk b)(hb:Bh o b)(hd:dOf b=fresh b.kind):takeR (stO o) (cut 32 (headL b))=some (stO (some b)):=by
 have gn:=good_all h.nm
 rw[(head_row h).2,headW_is h]
 have hf:(stO o).fst=true:=by cases o<;>rfl
 unfold takeR
 rw[if_neg (by rw[hf];decide)]
 dsimp only
 rw[(pL_is h.p3).1]
 dsimp only
 unfold takeH
 dsimp only
 rw[if_neg ?_]
 ·have:draftP b.part (if b.part=0 then [] else kL b.kind::b.nums.map numL)=some (fresh b.kind):=by
   unfold draftP
   by_cases e:b.part=0
   ·rw[if_pos e,if_pos e,h.pk.mp e];rfl
   ·rw[if_neg e,if_neg e]
    dsimp only
    rw[(kL_is h.k4 fun z=>e (h.pk.mpr z)).1]
    dsimp only
    rw[okN_L h.nn h.nb,if_pos rfl]
  rw[this,hf,←hd]
  rfl
 ·rintro(z|z|⟨z1,z2⟩)
  ·cases o with
   |none=>exact absurd z (Nat.not_lt_zero _)
   |some b0=>
    have z:b.part<b0.part:=z
    rcases hb with y|y
    ·omega
    ·omega
  ·rw[h.nm] at z;cases z
  ·cases o with
   |none=>exact z2 (lt_nil gn.2.2.2.1)
   |some b0=>
    have z1:b.part=b0.part:=z1
    rcases hb with y|y
    ·omega
    ·exact z2 y.2
theorem bs_nil (ns:List Str):Bs ns 0 []:=⟨rfl,(fun r h=>nomatch h),(fun b h=>nomatch h),(fun b h=>nomatch h),rfl⟩
theorem bs_begun {ns:List Str}{n:Nat}{bs:List Bk}{b:Bk}(x:Bs ns n bs)(ok:OkB ns b)(hb:Bh bs.getLast? b)(hr:b.rows=[])(hd:dOf b=fresh b.kind):Bs ns (n+1) (bs++[b]):=by
 have eb:rowsB b=[headL b]:=by unfold rowsB;rw[hr];rfl
 refine⟨?_,fun r h=>?_,fun z h=>?_,fun z h=>?_,?_⟩
 ·rw[rowsA_snoc,runR_app,x.run,eb,List.getLast?_concat]
  show(takeR (stO bs.getLast?) (cut 32 (headL b))).bind (fun st'=>runR st' [])=_
  rw[head_take ok.toHdOk hb hd];rfl
 ·rw[rowsA_snoc,eb] at h
  rcases List.mem_append.mp h with h|h
  ·exact x.ok r h
  ·rw[List.mem_singleton.mp h];exact(head_row ok.toHdOk).1
 ·rw[List.getLast?_concat] at h;cases h;exact ok
 ·rcases List.mem_append.mp h with h|h
  ·exact x.hd z h
  ·rw[List.mem_singleton.mp h];exact ok.toHdOk
 ·rw[rowsA_snoc,List.length_append,x.ln,eb];rfl
theorem bs_gone {ns:List Str}{n:Nat}{bs:List Bk}{b b':Bk}(x:Bs ns n (bs++[b]))(ok:OkB ns b')(nx:Nx b b'):Bs ns (n+1) (bs++[b']):=by
 obtain⟨⟨e1,e2,e3,e4,e5⟩,r,er,hr,ht⟩:=nx
 have eh:headL b'=headL b:=by unfold headL headW;rw[e1,e2,e3,e4]
 have ea:rowsA (bs++[b'])=rowsA (bs++[b])++[cp r]:=by
  rw[rowsA_snoc,rowsA_snoc]
  unfold rowsB
  rw[eh,er,List.map_append,List.append_assoc];rfl
 have hl:(bs++[b]).getLast?=some b:=List.getLast?_concat
 refine⟨?_,fun z h=>?_,fun z h=>?_,fun z h=>?_,?_⟩
 ·rw[ea,runR_app,x.run,hl,List.getLast?_concat]
  show(takeR (stO (some b)) (cut 32 (cp r))).bind (fun st'=>runR st' [])=_
  rw[ht (stO (some b)) rfl rfl]
  show some (⟨true,b.part,cp b.name,some (dOf b')⟩:Rs)=some ⟨true,b'.part,cp b'.name,some (dOf b')⟩
  rw[e1,e2]
 ·rw[ea] at h
  rcases List.mem_append.mp h with h|h
  ·exact x.ok z h
  ·rw[List.mem_singleton.mp h];exact hr
 ·rw[List.getLast?_concat] at h;cases h;exact ok
 ·rcases List.mem_append.mp h with h|h
  ·exact x.hd z (List.mem_append_left _ h)
  ·rw[List.mem_singleton.mp h];exact ok.toHdOk
 ·rw[ea,List.length_append,x.ln];rfl
theorem sql_same {K:PySem.W.Frag}{H H':Hp}{a:Addr}{xs:List V}(h:SqL K H a xs)(s:Same H H'):SqL K H' a xs:=sql_keep h fun _ e=>s _ _ e
theorem new_of {H H':Hp}{z:Addr}(s:Same H H')(e:H' z=none):H z=none:=by
 cases h:H z with
 |none=>rfl
 |some o=>rw[s _ _ h] at e;cases e
theorem at_nt {cs:List Int}{i:Nat}(h:i<cs.length):∃c,cs[i]?=some c∧atI (cs.map V.int) (i:Int)=some (.int c):=⟨cs[i],List.getElem?_eq_getElem h,atI_nat (by rw[List.getElem?_map,List.getElem?_eq_getElem h];rfl)⟩
theorem ok_Blocks {cDraft cReading cWireError cBadRow cBadAnswer cPt cNk:Addr}{f:Addr}{fd:FuncData}(F:Fun K "_law_blocks" "_law_blocks" sBlocks f fd)(T:Txt w K mg cDraft cReading cWireError cBadRow cBadAnswer cPt cNk)(gMixed:Callee P w K mg base "_law_mixed" 1 ["cell", "k"] spMixed)(gBegun:Callee P w K mg base "_law_begun" 2 ["blocks", "names", "mixed", "cell"] spBegun)(gGoneOn:Callee P w K mg base "_law_gone_on" 3 ["block", "cell", "mixed"] spGoneOn):FnOk P w K mg base CX0 4 f fd ["cells", "names"] (spBlocks K):=by
 have sc:FnScope ["cells", "names", "blocks", "k", "mixed", "block"] ["cells", "names"] (defScope sBlocks):=⟨rfl,rfl,rfl,by decide+kernel,rfl,by decide+kernel,by decide+kernel⟩
 refine F.ok sc (fun vs H Q E h=>by repeat (first|(obtain⟨rfl,_⟩:=h;rfl)|(obtain⟨_,h⟩:=h))) (fun cdv A outer s H vs Q E hr h=>?_)
 obtain⟨cl,nl,cs,ns,rfl,hcl,h64,hN,hnl,q⟩:=h
 refine⟨_,(pss_cons (ps_set (i:=2) sc.nd rfl (Or.inl rfl) (pe_lst pa_nil))
 (pss_cons (ps_for PassesOwn.never rfl (pi_range1 (by rfl) T.range_ (pa_cons (pe_callB call_len (by rfl) T.len_ bt_len (pa_cons (pv 0) pa_nil)) pa_nil)) (pg_name (i:=3) sc.nd rfl (Or.inl rfl))
 (pss_cons (ps_set (i:=4) sc.nd rfl (Or.inl rfl) (pe_cal gMixed (hr.mono (by decide)) (by rfl) (pa_cons (pe_ix ix_list (pv 0) (pv 3) (fun _ _=>rfl)) (pa_cons (pv 3) pa_nil))))
 (pss_cons (ps_set (i:=5) sc.nd rfl (Or.inl rfl) pe_non)
 (pss_cons (ps_if (pw_or (pt_cmpR (op_eq0 hr) (pv 2) (pe_lst pa_nil) (nomark _)) (pw_or1 (pt_cmpR op_lt (pe_op op_mod (pv 4) pe_int) pe_int (nomark _)))).pt
 (pss_one (ps_set (i:=5) sc.nd rfl (Or.inl rfl) (pe_cal gBegun (hr.mono (by decide)) (by rfl) (pa_cons (pv 2) (pa_cons (pv 1) (pa_cons (pv 4) (pa_cons (pe_ix ix_list (pv 0) (pv 3) (fun _ _=>rfl)) pa_nil)))))))
 pss_nil)
 (pss_one (ps_if (pt_cmpR op_notN (pv 5) pe_non (nomark _))
 (pss_one (ps_expr (pe_bm PySem.F.plainAttrs_list PySem.F.slot_list_append PySem.F.type_list_append mt_append (pv 2) (pa_cons (pv 5) pa_nil))))
 (pss_one (ps_expr (pe_cal gGoneOn (hr.mono (by decide)) (by rfl) (pa_cons (pe_ix ix_list (pv 2) (pe_un un_neg pe_int) (fun _ _=>rfl)) (pa_cons (pe_ix ix_list (pv 0) (pv 3) (fun _ _=>rfl)) (pa_cons (pv 4) pa_nil))))))))))))
 (pss_one (ps_ret (pv 2))))),?_⟩
 have hsz:sizeLine=2^24:=rfl
 refine sq_lst (vs:=[]) ea_nil (by show 0≤sizeLine;decide) fun bl nbl=>?_
 have s0:Same H (upd H bl (.lst [])):=(Same.refl H).upd nbl
 have hb0:upd H bl (.lst []) bl=some (.lst (([]:List Addr).map V.ref)):=upd_same
 revert s0 hb0
 generalize upd H bl _=H0
 intro s0 hb0
 refine sq_rng1 (j:=(cs.length:Int)) (ea_cons (ev_cb (ea_cons (ev_var rfl) ea_nil) fun _ q'=>⟨_,_,rfl,.inl ⟨_,sql_same hcl s0,by rw[List.length_map]⟩,q'⟩) ea_nil) (by omega) (by omega) ?_
 refine for_range (n:=cs.length) (fun i σ H'=>∃(x3 x4 x5:Option V) (F as:List Addr) (bs:List Bk),σ=[some (.ref cl),some (.ref nl),some (.ref bl),x3,x4,x5]∧Same H H'∧H' bl=some (.lst (as.map V.ref))∧BksAt i H' F as bs∧Bs ns i bs∧(∀y∈F,H y=none)∧bl∉F) ⟨none,none,none,[],[],[],rfl,s0,hb0,.nil,bs_nil ns,(fun y hy=>nomatch hy),fun hy=>nomatch hy⟩ ?_ ?_
 ·rintro i σ H1 hi ⟨x3,x4,x5,F,as,bs,rfl,s1,hb,hB,hBs,hF,nF⟩
  obtain⟨c,hc,hat⟩:=at_nt hi
  refine gn ?_
  refine nrm (σ':=[some (.ref cl),some (.ref nl),some (.ref bl),some (.int (i:Nat)),x4,x5]) (by rw[Int.zero_add];rfl) ?_
  refine sq_asg (te_cal (ea_cons (ev_ixL (v:=.int c) (ev_var rfl) (ev_var rfl) (sql_same hcl s1) hat) (ea_cons (ev_var rfl) ea_nil)) ⟨c,_,rfl,by omega,by omega,fun m m0 m1=>?_⟩)
  refine sq_set ev_c ?_
  refine nrm (σ':=[some (.ref cl),some (.ref nl),some (.ref bl),some (.int (i:Nat)),some (.int m),some .non]) (by kernel_rfl) ?_
  refine sq_J (fun σ H'=>∃v:V,σ=[some (.ref cl),some (.ref nl),some (.ref bl),some (.int (i:Nat)),some (.int m),some v]∧Same H1 H'∧((v=.non∧as≠[])∨∃a b G,v=.ref a∧BkAt 0 G H' a b∧(∀y∈G,H1 y=none)∧OkB ns b∧Bh bs.getLast? b∧b.rows=[]∧dOf b=fresh b.kind)) (fun R hR=>?_) ?_
  ·refine rd_ifS (es_or (es_eq0 (fun H2 s=>ev_var rfl) hb) (es_of fun H2 s=>(et_test (ev_I0 (ev_I (ev_var rfl) ev_c (by first|(show(0:Int)<_;omega)|(show(0:Int)<_;decide))) ev_c)))) (fun e H2 s2=>?_) fun e H2 s2=>?_
   ·refine te_cal (ea_cons (ev_var rfl) (ea_cons (ev_var rfl) (ea_cons (ev_var rfl) (ea_cons (ev_ixL (v:=.int c) (ev_var rfl) (ev_var rfl) (sql_same hcl (s1.trans s2)) hat) ea_nil)))) ⟨bl,nl,c,m,i,i,F,as,bs,ns,rfl,m0,by omega,s2 _ _ hb,hB.same s2,hBs,hN,s2 _ _ (s1 _ _ hnl),fun hne H3 s3=>?_,fun a b G H3 s3 h3 hG ok hbh hr hd=>?_⟩
    ·refine hR _ _ ⟨_,by kernel_rfl,s2.trans s3,.inl ⟨rfl,fun z=>hne ?_⟩⟩
     exact List.eq_nil_of_length_eq_zero (by rw[←hB.len,z];rfl)
    ·exact hR _ _ ⟨_,by kernel_rfl,s2.trans s3,.inr ⟨a,b,G,rfl,h3,fun y hy=>new_of s2 (hG y hy),ok,hbh,hr,hd⟩⟩
   ·rw[Bool.or_eq_false_iff] at e
    exact hR _ _ ⟨_,rfl,s2,.inl ⟨rfl,fun z=>by rw[z] at e;cases e.1⟩⟩
  rintro σ H2 ⟨v,rfl,s2,hv⟩
  rcases hv with ⟨rfl,hne⟩|⟨a,b,G,rfl,hbk,hG,ok,hbh,hr,hd⟩
  ·refine rd_if (b:=false) (et_of (et_test (ev_notN (ev_var rfl) ev_c)) rfl) (fun z=>nomatch z) fun _=>?_
   obtain⟨F0,G,as0,bs0,a0,b0,ea,eb,eF,hB0,hbk,hdis⟩:=(hB.same s2).last hne
   have hla:atI (as.map V.ref) (-1)=some (.ref a0):=by rw[ea,List.map_append];exact atI_last
   have s12:=s1.trans s2
   refine rd_drop (te_cal (ea_cons (ev_ixL (v:=.ref a0) (ev_var rfl) (ev_U ev_c) (SqL.of (s2 _ _ hb)) hla) (ea_cons (ev_ixL (v:=.int c) (ev_var rfl) (ev_var rfl) (sql_same hcl s12) hat) (ea_cons (ev_var rfl) ea_nil))) ⟨a0,c,m,i,G,b0,ns,rfl,m0,by omega,hbk,hBs.la b0 (by rw[eb];simp),fun F' b' H3 hbk3 ok3 nx3 f3 hF3=>?_⟩)
   have nG:bl∉G:=fun z=>nF (by rw[eF];exact List.mem_append_right _ z)
   have bl2:=s2 _ _ hb
   rw[eb] at hBs
   refine⟨_,_,_,F0++F',as0++[a0],bs0++[b'],rfl,f3.same s12 fun y hy=>hF y (by rw[eF];exact List.mem_append_right _ hy),by rw[←ea];exact f3 _ _ nG bl2,.snoc ((hB0.fk f3 (fun y h1 h2=>hdis y h2 h1) hbk.fm).mono (Nat.le_succ i)) hbk3 (fun y hy hz=>?_),bs_gone hBs ok3 nx3,fun y hy=>?_,fun hy=>?_⟩
   ·rcases hF3 y hy with z|z
    ·exact hdis y z hz
    ·obtain⟨xs,e⟩:=hB0.fm y hz;rw[z] at e;cases e
   ·rcases List.mem_append.mp hy with z|z
    ·exact hF y (by rw[eF];exact List.mem_append_left _ z)
    ·rcases hF3 y z with w|w
     ·exact hF y (by rw[eF];exact List.mem_append_right _ w)
     ·exact new_of s12 w
   ·rcases List.mem_append.mp hy with z|z
    ·exact nF (by rw[eF];exact List.mem_append_left _ z)
    ·rcases hF3 bl z with w|w
     ·exact nG w
     ·rw[bl2] at w;cases w
  ·refine rd_if (b:=true) (et_of (et_test (ev_notN (ev_var rfl) ev_c)) rfl) (fun _=>?_) fun z=>nomatch z
   have s12:=s1.trans s2
   have bl2:=s2 _ _ hb
   have la:as.length<100:=by
    have h1:=hBs.ln
    have h2:=hB.len
    have:∀l:List Bk,l.length≤(rowsA l).length:=fun l=>by
     induction l with
     |nil=>exact Nat.zero_le _
     |cons z r ih=>
      show r.length+1≤((z::r).map rowsB).flatten.length
      rw[List.map_cons,List.flatten_cons,List.length_append]
      have:(rowsB z).length=z.rows.length+1:=by unfold rowsB;simp
      have:r.length≤((r.map rowsB).flatten).length:=ih
      omega
    have:=this bs
    have hi':i<cs.length:=hi
    omega
   refine rd_drop (te_bm (ev_var rfl) (.inl ⟨rfl,_,SqL.of bl2⟩) (ta_ev (ev_var rfl) ⟨bl,_,_,rfl,rfl,bl2,by rw[List.length_map];omega,?_⟩))
   have nG:bl∉G:=fun z=>by have:=hG bl z;rw[hb] at this;cases this
   have f3:FK [bl] H2 (upd H2 bl (.lst (as.map V.ref++[.ref a]))):=FK.set (FK.refl _ H2) (by simp)
   have gl:∀y∈[bl],∃xs,H2 y=some (.lst xs):=fun y hy=>by rw[List.mem_singleton.mp hy];exact⟨_,bl2⟩
   refine⟨_,_,_,F++G,as++[a],bs++[b],rfl,f3.same s12 (fun y hy=>by rw[List.mem_singleton.mp hy];exact nbl),by rw[upd_same,List.map_append];rfl,.snoc (((hB.same s2).fk f3 (fun y h1 h2=>nF (by rw[←List.mem_singleton.mp h2];exact h1)) gl).mono (Nat.le_succ i)) ((hbk.fk f3 (fun y h1 h2=>nG (by rw[←List.mem_singleton.mp h2];exact h1)) gl).mono (Nat.zero_le _)) (fun y hy hz=>?_),bs_begun hBs ok hbh hr hd,fun y hy=>?_,fun hy=>?_⟩
   ·obtain⟨xs,e⟩:=hB.fm y hz;rw[hG y hy] at e;cases e
   ·rcases List.mem_append.mp hy with z|z
    ·exact hF y z
    ·exact new_of s1 (hG y z)
   ·rcases List.mem_append.mp hy with z|z
    ·exact nF z
    ·exact nG z
 ·rintro σ H' ⟨x3,x4,x5,F,as,bs,rfl,s1,hb,hB,hBs,hF,nF⟩
  exact rd_ret (ev_var rfl) (q bl F as bs H' s1 nbl hb (hB.mono (by omega)) hBs hF nF)
noncomputable def rowB (l:List Nat):Bool:=(l.all fun c=>decide (c<128)&&decide (c≠10))&&decide (l.length≤500)
theorem rowB_ok {l:List Nat}(h:rowB l=true):RowOk l:=by
 unfold rowB at h
 rw[Bool.and_eq_true,List.all_eq_true] at h
 exact⟨fun c hc=>by simpa using h.1 c hc,of_decide_eq_true h.2⟩
noncomputable def nwS:List Str:=(["", " ", "laid", "laid A", "laid a b", " laid a", "laid a ", "laid  a", "laid 1a", "laid abcdefghijklm", "paper a", "paper a tree", "paper a tree 1 2", "paper a tree -0", "paper a tree 01", "paper a oak 1", "paper a shore 1", "paper a bundle 1", "paper a bundle 1 x", "paper a cut 0", "never a", "never", "never 1a shore", "step 0.0.0", "step 0.0.0 0.0.1 0.0.2", "step 0.0.0 0.0", "hill", "hill x", "hill 1 2", "at 0.0.0", "at 0.0.0 1 2 3", "at 0.0 1", "spot", "spot 0.0.0 0.0.1", "spot 00.0.0", "cut", "cut 0",
 "answer rested", "answer open", "wire 1", "hill +1", "hill 1000000000000000000", "Laid a", "paper a laid", "laid aB", "paper aB shore", "never a1Z cut", "paper a-b shore", "laid a_", "laid\ta", "spot 1_0.0.0", "spot +1.0.0", "spot -1.0.0", "at 0.0.-0 1", "step 0.0.0 0.0.1\t"]:List String).map Str.ofString
theorem nw_ok:∀x∈nwS,(rowB (cp x)&&badAny (cut 32 (cp x)))=true:=by decide+kernel
theorem hill18:Str.ofString "hill " ++Str.ofString (toString ((10:Int)^(18:Int).toNat))=Str.ofString "hill 1000000000000000000" :=str_cp (by decide+kernel)
theorem at_str {xs:List Str}{i:Int}(h0:0≤i)(h1:i<xs.length):∃x∈xs,atI (xs.map V.str) i=some (.str x):=by
 obtain⟨k,rfl⟩:=Int.eq_ofNat_of_zero_le h0
 have hk:k<xs.length:=by omega
 exact⟨xs[k],List.getElem_mem hk,atI_nat (by rw[List.getElem?_map,List.getElem?_eq_getElem hk];rfl)⟩
theorem te_lstS {ta:TA}{σ:St}{H:Hp}{vs:List V}(ys:List Str){Q:VK}(ha:EvA ta σ H vs)(e:vs=ys.map V.str)(hn:ys.length≤1000)(q:∀p H',Same H H'→H p=none→H' p=some (.lst (ys.map V.str))→Q (.ref p) H'):tLst ta σ H Q:=by
 subst e
 exact te_lst ha (by have:sizeLine=2^24:=rfl;rw[List.length_map];omega) fun p np=>q p _ ((Same.refl H).upd np) np upd_same
theorem te_catS {ta:TA}{σ:St}{H:Hp}{l:Addr}{vs:List V}{xs:List Str}(n k:Nat){i:Nat}{Q:VK}(hi:σ[i]?=some (some (.ref l)))(hl:H l=some (.lst ((xs.take n).map V.str)))(hx:xs.length≤100)(ha:EvA ta σ H vs)(e:vs=((xs.drop n).take k).map V.str)(q:∀p H',Same H H'→H' p=some (.lst ((xs.take (n+k)).map V.str))→Q (.ref p) H'):tOp rCat (tVar i) (tLst ta) σ H Q:=by
 have h1:((xs.drop n).take k).length≤100:=by rw[List.length_take,List.length_drop];omega
 have h2:(xs.take n).length≤100:=by rw[List.length_take];omega
 have hsz:sizeLine=2^24:=rfl
 refine te_op (te_use (ev_var hi) (te_lstS _ ha e (by omega) fun p H1 s1 _ hp=>?_))
 refine⟨l,p,_,_,rfl,rfl,s1 _ _ hl,hp,by rw[List.length_map,List.length_map];omega,fun u nu=>?_⟩
 exact q u _ (s1.trans ((Same.refl H1).upd nu)) (by rw[upd_same,List.take_add,List.map_append])
set_option maxHeartbeats 0 in
theorem ok_Nowhere {cDraft cReading cWireError cBadRow cBadAnswer cPt cNk:Addr}{f:Addr}{fd:FuncData}(F:Fun K "_law_nowhere" "_law_nowhere" sNowhere f fd)(T:Txt w K mg cDraft cReading cWireError cBadRow cBadAnswer cPt cNk):FnOk P w K mg base CX0 1 f fd ["cell"] spNowhere:=by
 have sc:FnScope ["cell", "some"] ["cell"] (defScope sNowhere):=⟨rfl,rfl,rfl,by decide+kernel,rfl,by decide+kernel,by decide+kernel⟩
 refine F.ok sc (fun vs H Q E h=>by repeat (first|(obtain⟨rfl,_⟩:=h;rfl)|(obtain⟨_,h⟩:=h))) (fun cdv A outer s H vs Q E hr h=>?_)
 obtain⟨c,rfl,q⟩:=h
 refine⟨_,(pss_cons (ps_set (i:=1) sc.nd rfl (Or.inl rfl) (pe_lst (pa_cons pe_str (pa_cons pe_str (pa_cons pe_str (pa_cons pe_str (pa_cons pe_str (pa_cons pe_str (pa_cons pe_str (pa_cons pe_str (pa_cons pe_str pa_nil)))))))))))
 (pss_cons (ps_set (i:=1) sc.nd rfl (Or.inl rfl) (pe_op op_cat (pv 1) (pe_lst (pa_cons pe_str (pa_cons pe_str (pa_cons pe_str (pa_cons pe_str (pa_cons pe_str pa_nil))))))))
 (pss_cons (ps_set (i:=1) sc.nd rfl (Or.inl rfl) (pe_op op_cat (pv 1) (pe_lst (pa_cons pe_str (pa_cons pe_str (pa_cons pe_str (pa_cons pe_str pa_nil)))))))
 (pss_cons (ps_set (i:=1) sc.nd rfl (Or.inl rfl) (pe_op op_cat (pv 1) (pe_lst (pa_cons pe_str (pa_cons pe_str (pa_cons pe_str (pa_cons pe_str (pa_cons pe_str (pa_cons pe_str pa_nil)))))))))
 (pss_cons (ps_set (i:=1) sc.nd rfl (Or.inl rfl) (pe_op op_cat (pv 1) (pe_lst (pa_cons pe_str (pa_cons pe_str (pa_cons pe_str (pa_cons pe_str (pa_cons pe_str (pa_cons pe_str pa_nil)))))))))
 (pss_cons (ps_set (i:=1) sc.nd rfl (Or.inl rfl) (pe_op op_cat (pv 1) (pe_lst (pa_cons pe_str (pa_cons pe_str (pa_cons pe_str (pa_cons pe_str (pa_cons pe_str (pa_cons pe_str (pa_cons pe_str pa_nil))))))))))
 (pss_cons (ps_set (i:=1) sc.nd rfl (Or.inl rfl) (pe_op op_cat (pv 1) (pe_lst (pa_cons pe_str (pa_cons pe_str (pa_cons pe_str (pa_cons pe_str (pa_cons (pe_op op_add_str pe_str (pe_callTy call_str_int (by rfl) T.str_ bt_str (pa_cons (pe_op op_pow pe_int pe_int) pa_nil))) (pa_cons pe_str pa_nil)))))))))
 (pss_cons (ps_set (i:=1) sc.nd rfl (Or.inl rfl) (pe_op op_cat (pv 1) (pe_lst (pa_cons pe_str (pa_cons pe_str (pa_cons pe_str (pa_cons pe_str (pa_cons pe_str (pa_cons pe_str pa_nil)))))))))
 (pss_cons (ps_set (i:=1) sc.nd rfl (Or.inl rfl) (pe_op op_cat (pv 1) (pe_lst (pa_cons pe_str (pa_cons pe_str (pa_cons pe_str (pa_cons pe_str (pa_cons pe_str (pa_cons pe_str pa_nil)))))))))
 (pss_one (ps_ret (pe_ix ix_list (pv 1) (pe_op op_mod (pv 0) (pe_callB call_len (by rfl) T.len_ bt_len (pa_cons (pv 1) pa_nil))) (fun _ _=>rfl))))))))))))),?_⟩
 have hl55:nwS.length≤100:=by decide+kernel
 refine sq_asgH fun R hR=>te_lstS (nwS.take 9) (ea_cons ev_c (ea_cons ev_c (ea_cons ev_c (ea_cons ev_c (ea_cons ev_c (ea_cons ev_c (ea_cons ev_c (ea_cons ev_c (ea_cons ev_c ea_nil))))))))) (by kernel_rfl) (by rw[List.length_take];omega) fun p0 H0 s0 _ h0=>hR _ _ ?_
 refine nrm (σ':=[some (.int c),some (.ref p0)]) (by kernel_rfl) ?_
 refine sq_asgH fun R hR=>te_catS (xs:=nwS) (9) 5 (i:=1) rfl h0 hl55 (ea_cons ev_c (ea_cons ev_c (ea_cons ev_c (ea_cons ev_c (ea_cons ev_c ea_nil))))) (by kernel_rfl) fun p1 H1 s1 h1=>hR _ _ ?_
 refine nrm (σ':=[some (.int c),some (.ref p1)]) (by kernel_rfl) ?_
 refine sq_asgH fun R hR=>te_catS (xs:=nwS) (9+5) 4 (i:=1) rfl h1 hl55 (ea_cons ev_c (ea_cons ev_c (ea_cons ev_c (ea_cons ev_c ea_nil)))) (by kernel_rfl) fun p2 H2 s2 h2=>hR _ _ ?_
 refine nrm (σ':=[some (.int c),some (.ref p2)]) (by kernel_rfl) ?_
 refine sq_asgH fun R hR=>te_catS (xs:=nwS) (9+5+4) 6 (i:=1) rfl h2 hl55 (ea_cons ev_c (ea_cons ev_c (ea_cons ev_c (ea_cons ev_c (ea_cons ev_c (ea_cons ev_c ea_nil)))))) (by kernel_rfl) fun p3 H3 s3 h3=>hR _ _ ?_
 refine nrm (σ':=[some (.int c),some (.ref p3)]) (by kernel_rfl) ?_
 refine sq_asgH fun R hR=>te_catS (xs:=nwS) (9+5+4+6) 6 (i:=1) rfl h3 hl55 (ea_cons ev_c (ea_cons ev_c (ea_cons ev_c (ea_cons ev_c (ea_cons ev_c (ea_cons ev_c ea_nil)))))) (by kernel_rfl) fun p4 H4 s4 h4=>hR _ _ ?_
 refine nrm (σ':=[some (.int c),some (.ref p4)]) (by kernel_rfl) ?_
 refine sq_asgH fun R hR=>te_catS (xs:=nwS) (9+5+4+6+6) 7 (i:=1) rfl h4 hl55 (ea_cons ev_c (ea_cons ev_c (ea_cons ev_c (ea_cons ev_c (ea_cons ev_c (ea_cons ev_c (ea_cons ev_c ea_nil))))))) (by kernel_rfl) fun p5 H5 s5 h5=>hR _ _ ?_
 refine nrm (σ':=[some (.int c),some (.ref p5)]) (by kernel_rfl) ?_
 refine sq_asgH fun R hR=>te_catS (xs:=nwS) (9+5+4+6+6+7) 6 (i:=1) rfl h5 hl55 (ea_cons ev_c (ea_cons ev_c (ea_cons ev_c (ea_cons ev_c (ea_cons (ev_of (c:=.str (Str.ofString "hill 1000000000000000000")) (ev_addS (x:=Str.ofString "hill ") ev_c (ev_cb (v:=.str (Str.ofString (toString ((10:Int)^(18:Int).toNat)))) (ea_cons (ev_I ev_c ev_c (cpw (by decide) (by decide) (by decide))) ea_nil) fun Q' q'=>⟨_,rfl,lg (by decide) (by decide),q'⟩) (by decide+kernel)) (by rw[hill18])) (ea_cons ev_c ea_nil)))))) (by kernel_rfl) fun p6 H6 s6 h6=>hR _ _ ?_
 refine nrm (σ':=[some (.int c),some (.ref p6)]) (by kernel_rfl) ?_
 refine sq_asgH fun R hR=>te_catS (xs:=nwS) (9+5+4+6+6+7+6) 6 (i:=1) rfl h6 hl55 (ea_cons ev_c (ea_cons ev_c (ea_cons ev_c (ea_cons ev_c (ea_cons ev_c (ea_cons ev_c ea_nil)))))) (by kernel_rfl) fun p7 H7 s7 h7=>hR _ _ ?_
 refine nrm (σ':=[some (.int c),some (.ref p7)]) (by kernel_rfl) ?_
 refine sq_asgH fun R hR=>te_catS (xs:=nwS) (9+5+4+6+6+7+6+6) 6 (i:=1) rfl h7 hl55 (ea_cons ev_c (ea_cons ev_c (ea_cons ev_c (ea_cons ev_c (ea_cons ev_c (ea_cons ev_c ea_nil)))))) (by kernel_rfl) fun p8 H8 s8 h8=>hR _ _ ?_
 refine nrm (σ':=[some (.int c),some (.ref p8)]) (by kernel_rfl) ?_
 have h8:H8 p8=some (.lst (nwS.map V.str)):=by rw[h8,List.take_of_length_le (by decide+kernel)]
 obtain⟨x,hx,hat⟩:=at_str (xs:=nwS) (i:=c%((nwS.map V.str).length:Int)) (Int.emod_nonneg _ (by rw[List.length_map];decide+kernel)) (by rw[List.length_map];exact Int.emod_lt_of_pos _ (by decide+kernel))
 have hb:=nw_ok x hx
 rw[Bool.and_eq_true] at hb
 have hpos:(0:Int)<((nwS.map V.str).length:Nat):=by rw[List.length_map];decide+kernel
 exact rd_ret (ev_ixL (v:=.str x) (ev_var rfl) (ev_I (ev_var rfl) (ev_len (K:=K) (ev_var rfl) h8) hpos) (SqL.of h8) hat) (q x H8 (s0.trans (s1.trans (s2.trans (s3.trans (s4.trans (s5.trans (s6.trans (s7.trans s8)))))))) (rowB_ok hb.1) hb.2)
theorem lex_irr (a:List Int):HT.lexLt a a=false:=by
 cases h:HT.lexLt a a with
 |false=>rfl
 |true=>rw[lex_asymm _ _ h] at h;cases h
theorem lex_zero {s:List Int}{m:Nat}(h:S3 m s):HT.lexLt s [0,0,0]=false:=by
 obtain⟨x,y,z,rfl,_⟩:=h
 rw[HT.lexLt_cons]
 split
 ·rw[HT.lexLt_cons]
  split
  ·rw[HT.lexLt_cons]
   split
   ·rfl
   ·exact decide_eq_false (by omega)
  ·exact decide_eq_false (by omega)
 ·exact decide_eq_false (by omega)
theorem s3_zero:S3 (10^18) [0,0,0]:=⟨0,0,0,rfl,by decide,by decide,by decide⟩
theorem word_at {w:Str}{s:List Int}{t:String}{r:List (List Nat)}(S:S3 (10^18) s)(ew:cp w=spotL s)(ht:L t=32::jl 32 r)(hr:r≠[])(hf:∀p∈r,32∉p)(ha:∀p∈r,(∀c∈p,c<128∧c≠10)∧p.length≤60)(hl:r.length≤4):RowOk (cp (Str.ofString "at " ++w++Str.ofString t))∧cut 32 (cp (Str.ofString "at " ++w++Str.ofString t))=L "at" ::spotL s::r:=by
 refine row_of (ws:=L "at" ::spotL s::r) ?_ (by simp) (fun z hz=>?_) (fun z hz=>?_) (by simp only[List.length_cons];omega)
 ·rw[cp_app,cp_app,ew,cp_L t,ht,show cp (Str.ofString "at ")=L "at" ++[32] by decide+kernel,jl_cons (by simp),jl_cons hr]
  simp
 ·rcases List.mem_cons.mp hz with rfl|hz
  ·exact L_free "at" (by decide+kernel)
  rcases List.mem_cons.mp hz with rfl|hz
  ·exact spotL_free (by decide)
  ·exact hf z hz
 ·rcases List.mem_cons.mp hz with rfl|hz
  ·exact L_all "at" (by decide+kernel) (by decide+kernel)
  rcases List.mem_cons.mp hz with rfl|hz
  ·exact spotL_all S
  ·exact ha z hz
theorem ok_NotB {cDraft cReading cWireError cBadRow cBadAnswer cPt cNk:Addr}{f:Addr}{fd:FuncData}(F:Fun K "_law_not_behind" "_law_not_behind" sNotB f fd)(T:Txt w K mg cDraft cReading cWireError cBadRow cBadAnswer cPt cNk)(gWord:Callee P w K mg base "_law_word" 1 ["spot"] spWord):FnOk P w K mg base CX0 2 f fd ["pairs"] spNotB:=by
 have sc:FnScope ["pairs"] ["pairs"] (defScope sNotB):=⟨rfl,rfl,rfl,by decide+kernel,rfl,by decide+kernel,by decide+kernel⟩
 refine F.ok sc (fun vs H Q E h=>by repeat (first|(obtain⟨rfl,_⟩:=h;rfl)|(obtain⟨_,h⟩:=h))) (fun cdv A outer s H vs Q E hr h=>?_)
 obtain⟨lp,ps,ss,rfl,hlp,hpr,hsp,q⟩:=h
 refine⟨_,(pss_cons (ps_if (pt_cmpR (op_eq0 hr) (pv 0) (pe_lst pa_nil) (nomark _))
 (pss_one (ps_ret (pe_lst pa_nil)))
 pss_nil)
 (pss_one (ps_ret (pe_lst (pa_cons (pe_op op_add_str (pe_op op_add_str pe_str (pe_cal gWord (hr.mono (by decide)) (by rfl) (pa_cons (pe_ix ix_tup (pe_ix ix_list (pv 0) (pe_un un_neg pe_int) (fun _ _=>rfl)) pe_int (fun _ _=>rfl)) pa_nil))) pe_str) (pa_cons pe_str (pa_cons (pe_op op_add_str (pe_op op_add_str pe_str (pe_cal gWord (hr.mono (by decide)) (by rfl) (pa_cons (pe_ix ix_tup (pe_ix ix_list (pv 0) pe_int (fun _ _=>rfl)) pe_int (fun _ _=>rfl)) pa_nil))) pe_str) pa_nil))))))),?_⟩
 have hsz:sizeLine=2^24:=rfl
 refine sq_ifS (es_eq0 (fun H1 s=>ev_var rfl) hlp) (fun e H1 s1=>?_) fun e H1 s1=>?_
 ·refine rd_te (te_lstS [] ea_nil rfl (Nat.zero_le _) fun l H2 s2 nl hl=>?_)
  exact q l [] _ (s1.trans s2) (new_of s1 nl) hl (by decide) fun x hx=>nomatch hx
 have hne:ps≠[]:=fun z=>by rw[z] at e;cases e
 obtain⟨p0,r,s0,v,u,e1,e2,⟨pa,w',pt,rfl,hpa,hpt⟩,_,hlast⟩:=prs_last hpr hne
 obtain⟨v1,hv1⟩:∃v1,ps[0]?=some v1:=⟨ps[0]'(List.length_pos_iff.mpr hne),List.getElem?_eq_getElem _⟩
 obtain⟨u1,hu1,pb,w1,pt1,rfl,hpb,hpt1⟩:=paired_at hpr hv1
 have hS:∀{i:Nat} {s:List Int},ss[i]?=some s→S3 (10^18) s:=fun{i s} h=>(hsp.bd i s h).mono (by
  have h1:=hsp.ln
  have h2:=lt_of_get h
  have:(i+1)*10^15≤100*10^15:=Nat.mul_le_mul_right _ (by omega)
  omega)
 have hu:ss[s0.length]?=some u:=by rw[e2];simp
 have S:=hS hu
 have S1:=hS hu1
 have hl1:HT.lexLt u u1=false:=by
  by_cases z:0<s0.length
  ·have:=List.pairwise_iff_getElem.mp hsp.up 0 s0.length (by rw[e2];simp) (by rw[e2];simp) z
   rw[List.getElem?_eq_some_iff.mp hu1|>.2,List.getElem?_eq_some_iff.mp hu|>.2] at this
   exact lex_asymm _ _ this
  ·have z0:s0.length=0:=by omega
   rw[z0] at hu
   rw[hu1] at hu
   cases hu
   exact lex_irr u
 refine rd_lstA (ta_one (te_op (te_op (te_use ev_c (te_cal (ea_cons (ev_ixT (v:=.ref pt) (ev_ixL (v:=.ref pa) (ev_var rfl) (ev_U ev_c) (SqL.of (s1 _ _ hlp)) (by rw[e1];exact atI_last)) ev_c (SqT.of (s1 _ _ hpa)) rfl) ea_nil) ⟨pt,u,rfl,S,s1 _ _ hpt,fun a H2 s2 ea=>⟨_,_,rfl,rfl,?_,te_use ev_c ⟨_,_,rfl,rfl,?_,ta_ev ev_c (ta_one (te_op (te_op (te_use ev_c (te_cal (ea_cons (ev_ixT (v:=.ref pt1) (ev_ixL (v:=.ref pb) (ev_var rfl) ev_c (SqL.of (s2 _ _ (s1 _ _ hlp))) (atI_nat (j:=0) hv1)) ev_c (SqT.of (s2 _ _ (s1 _ _ hpb))) rfl) ea_nil) ⟨pt1,u1,rfl,S1,s2 _ _ (s1 _ _ hpt1),fun b H3 s3 eb=>⟨_,_,rfl,rfl,?_,te_use ev_c ⟨_,_,rfl,rfl,?_,⟨(by show 3≤sizeLine;decide),fun l nl=>?_⟩⟩⟩⟩)))))⟩⟩⟩)))))
 ·have:=len_spot S ea;rw[hsz,show(Str.ofString "at ").length=3 by decide+kernel];omega
 ·have:=len_spot S ea;rw[hsz,strLen_append,show(Str.ofString "at ").length=3 by decide+kernel,show(Str.ofString " 1").length=2 by decide+kernel];omega
 ·have:=len_spot S1 eb;rw[hsz,show(Str.ofString "at ").length=3 by decide+kernel];omega
 ·have:=len_spot S1 eb;rw[hsz,strLen_append,show(Str.ofString "at ").length=3 by decide+kernel,show(Str.ofString " 0").length=2 by decide+kernel];omega
 have s13:=s1.trans (s2.trans s3)
 refine q l [Str.ofString "at " ++a++Str.ofString " 1",Str.ofString "at 0.0.0 -5",Str.ofString "at " ++b++Str.ofString " 0"] _ (s13.trans ((Same.refl H3).upd nl)) (new_of s13 nl) upd_same (show 3≤3 by decide) fun x hx=>?_
 simp only[List.mem_cons,List.not_mem_nil,or_false] at hx
 have w1:∀(k:Nat),k<10→(∀p∈[[48+k]],32∉p)∧∀p∈[[48+k]],(∀c∈p,c<128∧c≠10)∧p.length≤60:=fun k hk=>by
  refine⟨fun p hp=>?_,fun p hp=>?_⟩
  ·rw[List.mem_singleton.mp hp,List.mem_singleton];omega
  ·rw[List.mem_singleton.mp hp]
   exact⟨fun c hc=>by rw[List.mem_singleton] at hc;omega,(show 1≤60 by decide)⟩
 rcases hx with rfl|rfl|rfl
 ·have:=word_at (t:= " 1") (r:=[[49]]) S ea (by decide+kernel) (by simp) (w1 1 (by decide)).1 (w1 1 (by decide)).2 (by decide)
  exact⟨this.1,u,_,this.2,S,u,hlast,lex_irr u⟩
 ·exact⟨rowB_ok (by decide+kernel),[0,0,0],[L "-5"],by decide+kernel,s3_zero,u,hlast,lex_zero S⟩
 ·have:=word_at (t:= " 0") (r:=[[48]]) S1 eb (by decide+kernel) (by simp) (w1 0 (by decide)).1 (w1 0 (by decide)).2 (by decide)
  exact⟨this.1,u1,_,this.2,S1,u,hlast,hl1⟩
noncomputable def shutB (k:Nat) (hl ht sp:Bool):List (List Nat)→Bool
 |[]=>true
 |w::r=>(partP w).isNone&&(if w=L "step" then decide (k=3)||decide (k=4)||!okS r 2||hl||ht else if w=L "hill" then !decide (k=1)||!okN r 1 else if w=L "at" then (match r with|[]=>true|_::t=>if k=1 then !(hl&&okN t 1) else !(decide (k=2)&&okN t 2)) else if w=L "cut" then !decide (k=4)||!okS r 1||sp else if w=L "spot" then !(decide (k=3)||decide (k=4))||!okS r 1 else true)
theorem bnot {b:Bool}(h:(!b)=true):b≠true:=by cases b<;>simp_all
theorem shutB_no {d:Dr}{ws:List (List Nat)}(h:shutB d.kind d.hl d.ht d.sp ws=true):takeD d ws=none:=by
 cases ws with
 |nil=>rfl
 |cons w r=>
  have h:=(Bool.and_eq_true _ _▸h:_∧_).2
  unfold takeD
  dsimp only
  by_cases e1:w=L "step"
  ·rw[if_pos e1] at h⊢;rw[if_pos h]
  rw[if_neg e1] at h⊢
  by_cases e2:w=L "hill"
  ·rw[if_pos e2] at h⊢;rw[if_pos h]
  rw[if_neg e2] at h⊢
  by_cases e3:w=L "at"
  ·rw[if_pos e3] at h⊢
   unfold takeA
   cases r with
   |nil=>rfl
   |cons s t=>
    dsimp only at h⊢
    split
    ·rfl
    ·split
     ·rfl
     ·split at h
      ·rename_i hk;rw[if_pos hk,if_neg (bnot h)]
      ·rename_i hk;rw[if_neg hk,if_neg (bnot h)]
  rw[if_neg e3] at h⊢
  by_cases e4:w=L "cut"
  ·rw[if_pos e4] at h⊢;rw[if_pos h]
  rw[if_neg e4] at h⊢
  by_cases e5:w=L "spot"
  ·rw[if_pos e5] at h⊢;rw[if_pos h]
  rw[if_neg e5]
theorem take_no {st:Rs}{w:List Nat}{r:List (List Nat)}(h1:st.fst=true)(h2:partP w=none)(h3:∀d,st.dr=some d→takeD d (w::r)=none):takeR st (w::r)=none:=by
 unfold takeR
 rw[if_neg (by rw[h1];decide)]
 dsimp only
 rw[h2]
 dsimp only
 cases e:st.dr with
 |none=>rfl
 |some d=>dsimp only;rw[h3 d e];rfl
theorem shut_all {b:Bk}{rs:List Str}{k:Nat}{hl ht sp:Bool}(h:(rs.all fun x=>rowB (cp x)&&shutB k hl ht sp (cut 32 (cp x)))=true)(e1:b.kind=k)(e2:b.hl=hl)(e3:(!b.bp.isEmpty)=ht)(e4:b.sp=sp):∀x∈rs,Shut (some b) x:=fun x hx=>by
 have h:=List.all_eq_true.mp h x hx
 rw[Bool.and_eq_true] at h
 refine⟨rowB_ok h.1,?_⟩
 obtain⟨w,r,e⟩:∃w r,cut 32 (cp x)=w::r:=by
  cases e:cut 32 (cp x) with
  |nil=>exact absurd e (cut_ne _ _)
  |cons w r=>exact⟨w,r,rfl⟩
 have h2:=h.2
 rw[e] at h2⊢
 refine take_no rfl (by have:=(Bool.and_eq_true _ _▸h2:_∧_).1;cases z:partP w with|none=>rfl|some p=>rw[z] at this;cases this) fun d hd=>?_
 cases hd
 exact shutB_no (by show shutB b.kind b.hl (!b.bp.isEmpty) b.sp _=true;rw[e1,e2,e3,e4];exact h2)
theorem shut_none {rs:List Str}(h:(rs.all fun x=>rowB (cp x)&&(cut 32 (cp x)).all fun w=>(partP w).isNone)=true):∀x∈rs,Shut none x:=fun x hx=>by
 have h:=List.all_eq_true.mp h x hx
 rw[Bool.and_eq_true] at h
 refine⟨rowB_ok h.1,?_⟩
 have h2:=h.2
 cases e:cut 32 (cp x) with
 |nil=>exact absurd e (cut_ne _ _)
 |cons w r=>
  rw[e,List.all_cons,Bool.and_eq_true] at h2
  exact take_no rfl (by cases z:partP w with|none=>rfl|some p=>rw[z] at h2;cases h2.1) fun d hd=>nomatch hd
theorem at_shut {b:Bk}{x:Str}{s u:List Int}{t:List (List Nat)}(hr:RowOk (cp x))(hc:cut 32 (cp x)=L "at" ::spotL s::t)(S:S3 (10^18) s)(hu:(dOf b).last=some u)(hl:HT.lexLt u s=false):Shut (some b) x:=by
 refine⟨hr,?_⟩
 rw[hc]
 refine take_no rfl part_no.2.2.1 fun d hd=>?_
 cases hd
 rw[at_eq]
 unfold takeA
 dsimp only
 rw[spotP_L S]
 dsimp only
 rw[hu,if_pos]
 show(!HT.lexLt u s)=true
 rw[hl];rfl
def Rw (l:List String):List Str:=l.map Str.ofString
section
variable {n:Nat} {F:List Addr} {H:Hp} {a:Addr} {b:Bk} {ln l4 l5 l6 l7 l8 lr:Addr} {x4 x5 x6 x7 x8:List V} {ns:List Str}
theorem et_kb {K:PySem.W.Frag}{σ:St}{j:Nat}(x:BkP n F H a b ln l4 l5 l6 l7 l8 lr x4 x5 x6 x7 x8)(ok:OkB ns b)(h:σ[0]?=some (some (.ref a)))(hj:j≤4):EvT (tTest (tOp rEq (tOp (rIxL K) (tVar 0) (tC (.int 2))) (tC (.str (kS j))))) σ H (decide (b.kind=j)):=et_keq (K:=K) (ev_ixL (v:=.str (kS b.kind)) (ev_var h) ev_c (SqL.of x.ha) rfl) ok.k4 hj
theorem OkB.ht (ok:OkB ns b)(h:b.kind≠2):(!b.bp.isEmpty)=false:=by rw[ok.b2 h];rfl
end
theorem ok_ShutR {cDraft cReading cWireError cBadRow cBadAnswer cPt cNk:Addr}{f:Addr}{fd:FuncData}(F:Fun K "_law_shut_rows" "_law_shut_rows" sShutR f fd)(T:Txt w K mg cDraft cReading cWireError cBadRow cBadAnswer cPt cNk)(gWord:Callee P w K mg base "_law_word" 1 ["spot"] spWord)(gNotB:Callee P w K mg base "_law_not_behind" 2 ["pairs"] spNotB):FnOk P w K mg base CX0 3 f fd ["block"] spShutR:=by
 have sc:FnScope ["block", "step", "last"] ["block"] (defScope sShutR):=⟨rfl,rfl,rfl,by decide+kernel,rfl,by decide+kernel,by decide+kernel⟩
 refine F.ok sc (fun vs H Q E h=>by repeat (first|(obtain⟨rfl,_⟩:=h;rfl)|(obtain⟨_,h⟩:=h))) (fun cdv A outer s H vs Q E hr h=>?_)
 obtain⟨a,n,F,ns,o,rfl,hA,q⟩:=h
 refine⟨_,(pss_cons (ps_set (i:=1) sc.nd rfl (Or.inl rfl) pe_str)
 (pss_cons (ps_if (pt_cmpR (op_eq0 hr) (pv 0) (pe_lst pa_nil) (nomark _))
 (pss_one (ps_ret (pe_lst (pa_cons (pv 1) (pa_cons pe_str (pa_cons pe_str (pa_cons pe_str (pa_cons pe_str (pa_cons pe_str pa_nil)))))))))
 pss_nil)
 (pss_cons (ps_if (pt_cmpR op_eq (pe_ix ix_list (pv 0) pe_int (fun _ _=>rfl)) pe_str (nomark _))
 (pss_one (ps_ret (pe_lst (pa_cons pe_str (pa_cons pe_str (pa_cons pe_str (pa_cons pe_str (pa_cons pe_str pa_nil))))))))
 pss_nil)
 (pss_cons (ps_if (pt_cmpR op_eq (pe_ix ix_list (pv 0) pe_int (fun _ _=>rfl)) pe_str (nomark _))
 (pss_one (ps_ret (pe_lst (pa_cons (pv 1) (pa_cons pe_str (pa_cons pe_str (pa_cons pe_str (pa_cons pe_str pa_nil))))))))
 pss_nil)
 (pss_cons (ps_if (pw_and (pt_cmpR op_eq (pe_ix ix_list (pv 0) pe_int (fun _ _=>rfl)) pe_str (nomark _)) (pw_and1 (pt_cmpR (op_eq0 hr) (pe_ix ix_list (pv 0) pe_int (fun _ _=>rfl)) (pe_lst pa_nil) (nomark _)))).pt
 (pss_one (ps_ret (pe_lst (pa_cons (pv 1) (pa_cons pe_str (pa_cons pe_str (pa_cons pe_str pa_nil)))))))
 pss_nil)
 (pss_cons (ps_if (pt_cmpR op_eq (pe_ix ix_list (pv 0) pe_int (fun _ _=>rfl)) pe_str (nomark _))
 (pss_one (ps_ret (pe_lst (pa_cons (pv 1) (pa_cons pe_str (pa_cons pe_str (pa_cons pe_str (pa_cons pe_str (pa_cons pe_str (pa_cons pe_str pa_nil))))))))))
 pss_nil)
 (pss_cons (ps_if (pw_and (pt_cmpR op_eq (pe_ix ix_list (pv 0) pe_int (fun _ _=>rfl)) pe_str (nomark _)) (pw_and1 (pt_cmpR (op_eq0 hr) (pe_ix ix_list (pv 0) pe_int (fun _ _=>rfl)) (pe_lst pa_nil) (nomark _)))).pt
 (pss_one (ps_ret (pe_lst (pa_cons pe_str (pa_cons pe_str (pa_cons pe_str (pa_cons pe_str pa_nil)))))))
 pss_nil)
 (pss_cons (ps_if (pw_and (pt_cmpR op_eq (pe_ix ix_list (pv 0) pe_int (fun _ _=>rfl)) pe_str (nomark _)) (pw_and1 (pt_cmpR (op_eq0 hr) (pe_ix ix_list (pv 0) pe_int (fun _ _=>rfl)) (pe_lst pa_nil) (nomark _)))).pt
 (pss_one (ps_ret (pe_lst (pa_cons pe_str (pa_cons pe_str (pa_cons pe_str (pa_cons pe_str pa_nil)))))))
 pss_nil)
 (pss_cons (ps_if (pt_cmpR op_eq (pe_ix ix_list (pv 0) pe_int (fun _ _=>rfl)) pe_str (nomark _))
 (pss_cons (ps_set (i:=2) sc.nd rfl (Or.inl rfl) (pe_cal gWord (hr.mono (by decide)) (by rfl) (pa_cons (pe_ix ix_tup (pe_ix ix_list (pe_ix ix_list (pv 0) pe_int (fun _ _=>rfl)) (pe_un un_neg pe_int) (fun _ _=>rfl)) pe_int (fun _ _=>rfl)) pa_nil)))
 (pss_one (ps_ret (pe_lst (pa_cons (pv 1) (pa_cons pe_str (pa_cons pe_str (pa_cons pe_str (pa_cons pe_str (pa_cons (pe_op op_add_str (pe_op op_add_str pe_str (pv 2)) pe_str) (pa_cons pe_str pa_nil)))))))))))
 pss_nil)
 (pss_one (ps_ret (pe_op op_cat (pe_lst (pa_cons (pv 1) (pa_cons pe_str (pa_cons pe_str (pa_cons pe_str pa_nil))))) (pe_cal gNotB (hr.mono (by decide)) (by rfl) (pa_cons (pe_ix ix_list (pe_ix ix_list (pe_ix ix_list (pv 0) pe_int (fun _ _=>rfl)) (pe_un un_neg pe_int) (fun _ _=>rfl)) pe_int (fun _ _=>rfl)) pa_nil)))))))))))))),?_⟩
 have hsz:sizeLine=2^24:=rfl
 refine sq_set ev_c ?_
 refine nrm (σ':=[some (.ref a),some (.str (Str.ofString "step 0.0.0 0.0.1")),none]) (by kernel_rfl) ?_
 cases o with
 |none=>
  have hA:H a=some (.lst []):=hA
  refine sq_ifS (es_eq0 (fun H1 s=>ev_var rfl) hA) (fun e H1 s1=>?_) fun e H1 s1=>nomatch e
  exact rd_te (te_lstS (Rw ["step 0.0.0 0.0.1", "hill 1", "at 0.0.0 1", "at 0.0.0 1 2", "cut 0.0.0", "spot 0.0.0"]) (ea_cons (ev_var rfl) (ea_cons ev_c (ea_cons ev_c (ea_cons ev_c (ea_cons ev_c (ea_cons ev_c ea_nil)))))) (by kernel_rfl) (by decide) fun l H2 s2 nl hl=>q l _ H2 (s1.trans s2) (new_of s1 nl) hl (by decide) (by decide) (shut_none (by decide+kernel)))
 |some b=>
  obtain⟨⟨ln,l4,l5,l6,l7,l8,lr,x4,x5,x6,x7,x8,x0⟩,ok⟩:=id hA
  refine sq_ifS (es_eq0 (fun H1 s=>ev_var rfl) x0.ha) (fun e H1 s1=>nomatch e) fun _ H1 s1=>?_
  have x:=x0.same s1
  have fin:∀{l:Addr} {rs:List Str} {H0 H2:Hp},Same H H0→Same H0 H2→H0 l=none→H2 l=some (.lst (rs.map V.str))→rs≠[]→rs.length≤20→(∀x∈rs,Shut (some b) x)→Q (.ref l) H2:=fun s0 s2 nl hl h1 h2 h3=>q _ _ _ (s0.trans s2) (new_of s0 nl) hl h1 h2 h3
  refine sq_if (et_kb (K:=K) (j:=0) x ok rfl (by decide)) (fun e=>?_) fun e0=>?_
  ·have hk:=of_decide_eq_true e
   exact rd_te (te_lstS (Rw ["hill 1", "at 0.0.0 1", "at 0.0.0 1 2", "cut 0.0.0", "spot 0.0.0"]) (ea_cons ev_c (ea_cons ev_c (ea_cons ev_c (ea_cons ev_c (ea_cons ev_c ea_nil))))) (by kernel_rfl) (by decide) fun l H2 s2 nl hl=>fin s1 s2 nl hl (by decide) (by decide) (shut_all (k:=0) (hl:=false) (ht:=false) (sp:=false) (by decide+kernel) hk (ok.h1 (by omega)).1 (ok.ht (by omega)) (ok.s3 (by omega) (by omega))))
  refine sq_if (et_kb (K:=K) (j:=3) x ok rfl (by decide)) (fun e=>?_) fun e3=>?_
  ·have hk:=of_decide_eq_true e
   refine rd_te (te_lstS (Rw ["step 0.0.0 0.0.1", "hill 1", "at 0.0.0 1", "at 0.0.0 1 2", "cut 0.0.0"]) (ea_cons (ev_var rfl) (ea_cons ev_c (ea_cons ev_c (ea_cons ev_c (ea_cons ev_c ea_nil))))) (by kernel_rfl) (by decide) fun l H2 s2 nl hl=>fin s1 s2 nl hl (by decide) (by decide) (shut_all (k:=3) (hl:=false) (ht:=false) (sp:=b.sp) ?_ hk (ok.h1 (by omega)).1 (ok.ht (by omega)) rfl))
   cases b.sp<;>decide+kernel
  refine sq_ifS (es_and (es_of fun H2 s=>et_kb (K:=K) (j:=4) (x.same s) ok rfl (by decide)) (es_eq0 (fun H2 s=>ev_ixL (v:=.ref l8) (ev_var rfl) ev_c (SqL.of (s _ _ x.ha)) rfl) x.j8)) (fun e H2 s2=>?_) fun e4 H2 s2=>?_
  ·rw[Bool.and_eq_true] at e
   have hk:=of_decide_eq_true e.1
   exact rd_te (te_lstS (Rw ["step 0.0.0 0.0.1", "hill 1", "at 0.0.0 1", "at 0.0.0 1 2"]) (ea_cons (ev_var rfl) (ea_cons ev_c (ea_cons ev_c (ea_cons ev_c ea_nil)))) (by kernel_rfl) (by decide) fun l H3 s3 nl hl=>fin (s1.trans s2) s3 nl hl (by decide) (by decide) (shut_all (k:=4) (hl:=false) (ht:=false) (sp:=false) (by decide+kernel) hk (ok.h1 (by omega)).1 (ok.ht (by omega)) (by rw[x.b8,e.2];rfl)))
  have x2:=x.same s2
  refine sq_if (et_kb (K:=K) (j:=4) x2 ok rfl (by decide)) (fun e=>?_) fun e4'=>?_
  ·have hk:=of_decide_eq_true e
   rw[e,Bool.true_and] at e4
   exact rd_te (te_lstS (Rw ["step 0.0.0 0.0.1", "hill 1", "at 0.0.0 1 2", "cut 0.0.0", "cut 9.9.9", "cut 1.0.0", "cut 0.0.7"]) (ea_cons (ev_var rfl) (ea_cons ev_c (ea_cons ev_c (ea_cons ev_c (ea_cons ev_c (ea_cons ev_c (ea_cons ev_c ea_nil))))))) (by kernel_rfl) (by decide) fun l H3 s3 nl hl=>fin (s1.trans s2) s3 nl hl (by decide) (by decide) (shut_all (k:=4) (hl:=false) (ht:=false) (sp:=true) (by decide+kernel) hk (ok.h1 (by omega)).1 (ok.ht (by omega)) (by rw[x.b8,e4];rfl)))
  refine sq_ifS (es_and (es_of fun H3 s=>et_kb (K:=K) (j:=1) (x2.same s) ok rfl (by decide)) (es_eq0 (fun H3 s=>ev_ixL (v:=.ref l5) (ev_var rfl) ev_c (SqL.of (s _ _ x2.ha)) rfl) x2.j5)) (fun e H3 s3=>?_) fun e1 H3 s3=>?_
  ·rw[Bool.and_eq_true] at e
   have hk:=of_decide_eq_true e.1
   exact rd_te (te_lstS (Rw ["at 0.0.0 1", "at 0.0.0 1 2", "cut 0.0.0", "spot 0.0.0"]) (ea_cons ev_c (ea_cons ev_c (ea_cons ev_c (ea_cons ev_c ea_nil)))) (by kernel_rfl) (by decide) fun l H4 s4 nl hl=>fin ((s1.trans s2).trans s3) s4 nl hl (by decide) (by decide) (shut_all (k:=1) (hl:=false) (ht:=false) (sp:=false) (by decide+kernel) hk (by rw[x.b5,e.2];rfl) (ok.ht (by omega)) (ok.s3 (by omega) (by omega))))
  have x3:=x2.same s3
  refine sq_ifS (es_and (es_of fun H4 s=>et_kb (K:=K) (j:=2) (x3.same s) ok rfl (by decide)) (es_eq0 (fun H4 s=>ev_ixL (v:=.ref l6) (ev_var rfl) ev_c (SqL.of (s _ _ x3.ha)) rfl) x3.j6)) (fun e H4 s4=>?_) fun e2 H4 s4=>?_
  ·rw[Bool.and_eq_true] at e
   have hk:=of_decide_eq_true e.1
   have hbp:b.bp=[]:=by
    have:=Paired.length x3.p6
    rw[isE e.2] at this
    exact List.eq_nil_of_length_eq_zero this.symm
   exact rd_te (te_lstS (Rw ["hill 1", "at 0.0.0 1", "cut 0.0.0", "spot 0.0.0"]) (ea_cons ev_c (ea_cons ev_c (ea_cons ev_c (ea_cons ev_c ea_nil)))) (by kernel_rfl) (by decide) fun l H5 s5 nl hl=>fin (((s1.trans s2).trans s3).trans s4) s5 nl hl (by decide) (by decide) (shut_all (k:=2) (hl:=false) (ht:=false) (sp:=false) (by decide+kernel) hk (ok.h1 (by omega)).1 (by rw[hbp];rfl) (ok.s3 (by omega) (by omega))))
  have x4':=x3.same s4
  have s14:=((s1.trans s2).trans s3).trans s4
  refine sq_if (et_kb (K:=K) (j:=2) x4' ok rfl (by decide)) (fun e=>?_) fun e2'=>?_
  ·have hk:=of_decide_eq_true e
   rw[e,Bool.true_and] at e2
   have hne:x6≠[]:=fun z=>by rw[z] at e2;cases e2
   obtain⟨p0,r,s0,v,u,d1,d2,⟨pa,w',pt,rfl,hpa,hpt⟩,_,hlast⟩:=prs_last x4'.p6 hne
   have hS:S3 (10^18) u:=(ok.sb.bd s0.length u (by rw[d2];simp)).mono (by
    have h1:=ok.sb.ln
    rw[d2,List.length_append] at h1
    have:(s0.length+1)*10^15≤100*10^15:=Nat.mul_le_mul_right _ h1
    omega)
   have hu:(dOf b).last=some u:=by show(if b.kind=1 then _ else _)=_;rw[if_neg (by rw[hk];decide)];exact hlast
   have hbp:(!b.bp.isEmpty)=true:=by rw[d2];cases s0<;>rfl
   refine sq_asg (te_cal (ea_cons (ev_ixT (v:=.ref pt) (ev_ixL (v:=.ref pa) (ev_ixL (v:=.ref l6) (ev_var rfl) ev_c (SqL.of x4'.ha) rfl) (ev_U ev_c) (SqL.of x4'.j6) (by rw[d1];exact atI_last)) ev_c (SqT.of hpa) rfl) ea_nil) ⟨pt,u,rfl,hS,hpt,fun w H5 s5 ew=>?_⟩)
   try dsimp only
   refine nrm (σ':=[some (.ref a),some (.str (Str.ofString "step 0.0.0 0.0.1")),some (.str w)]) (by kernel_rfl) ?_
   have wl:=len_spot hS ew
   have e6:Ev (tOp _ _ _) [some (.ref a),some (.str (Str.ofString "step 0.0.0 0.0.1")),some (.str w)] H5 (.str (Str.ofString "at " ++w++Str.ofString " 0 0")):=ev_addS (x:=Str.ofString "at " ++w) (ev_addS (x:=Str.ofString "at ") ev_c (show Ev (tVar 2) _ _ _ from ev_var rfl) (by rw[hsz,show(Str.ofString "at ").length=3 by decide+kernel];omega)) ev_c (by rw[hsz,strLen_append,show(Str.ofString "at ").length=3 by decide+kernel,show(Str.ofString " 0 0").length=4 by decide+kernel];omega)
   refine rd_te (te_lstS (Rw ["step 0.0.0 0.0.1", "hill 1", "at 0.0.0 0", "cut 0.0.0", "spot 0.0.0"]++[Str.ofString "at " ++w++Str.ofString " 0 0",Str.ofString "at 0.0.0 1 2"]) (ea_cons (ev_var rfl) (ea_cons ev_c (ea_cons ev_c (ea_cons ev_c (ea_cons ev_c (ea_cons e6 (ea_cons ev_c ea_nil))))))) (by kernel_rfl) (show 7≤1000 by decide) fun l H6 s6 nl hl=>fin (s14.trans s5) s6 nl hl (by simp) (show 7≤20 by decide) fun y hy=>?_)
   rcases List.mem_append.mp hy with z|z
   ·exact shut_all (k:=2) (hl:=false) (ht:=true) (sp:=false) (by decide+kernel) hk (ok.h1 (by omega)).1 hbp (ok.s3 (by omega) (by omega)) y z
   ·simp only[List.mem_cons,List.not_mem_nil,or_false] at z
    rcases z with rfl|rfl
    ·have:=word_at (t:= " 0 0") (r:=[[48],[48]]) hS ew (by decide+kernel) (by simp) (by decide) (by decide) (by decide)
     exact at_shut this.1 this.2 hS hu (lex_irr u)
    ·exact at_shut (s:=[0,0,0]) (t:=[L "1",L "2"]) (rowB_ok (by decide+kernel)) (by decide+kernel) s3_zero hu (lex_zero hS)
  ·have hk:b.kind=1:=by
    have k4:=ok.k4
    have:=of_decide_eq_false e0
    have:=of_decide_eq_false e3
    have:=of_decide_eq_false e4'
    have:=of_decide_eq_false e2'
    omega
   rw[decide_eq_true hk,Bool.true_and] at e1
   have hbl:b.hl=true:=by rw[x.b5,e1];rfl
   obtain⟨y0,hx,top,lp,ps,d1,d2,d3,d4,d5,d6⟩:=x4'.hi hbl
   refine rd_te (te_op (te_lstS (Rw ["step 0.0.0 0.0.1", "at 0.0.0 1 2", "cut 0.0.0", "spot 0.0.0"]) (ea_cons (ev_var rfl) (ea_cons ev_c (ea_cons ev_c (ea_cons ev_c ea_nil)))) (by kernel_rfl) (by decide) fun p H5 s5 np hp=>te_cal (ea_cons (ev_ixL (v:=.ref lp) (ev_ixL (v:=.ref hx) (ev_ixL (v:=.ref l5) (ev_var rfl) ev_c (SqL.of (s5 _ _ x4'.ha)) rfl) (ev_U ev_c) (SqL.of (s5 _ _ x4'.j5)) (by rw[d1];exact atI_last)) ev_c (SqL.of (s5 _ _ d2)) rfl) ea_nil) ⟨lp,ps,b.hp,rfl,s5 _ _ d3,prs_up d5 (fun _ _ h=>s5 _ _ h),ok.sh,fun l rs H6 s6 nl hl h3 hall=>⟨p,l,_,_,rfl,rfl,s6 _ _ hp,hl,?_,fun u nu=>?_⟩⟩))
   ·rw[List.length_map,List.length_map,hsz];show 4+_≤_;omega
   have s46:=s14.trans (s5.trans s6)
   refine q u (Rw ["step 0.0.0 0.0.1", "at 0.0.0 1 2", "cut 0.0.0", "spot 0.0.0"]++rs) _ (s46.trans ((Same.refl H6).upd nu)) (new_of s46 nu) (by rw[upd_same,←List.map_append]) (by simp[Rw]) (by rw[List.length_append];show 4+_≤_;omega) fun y hy=>?_
   rcases List.mem_append.mp hy with z|z
   ·exact shut_all (k:=1) (hl:=true) (ht:=false) (sp:=false) (by decide+kernel) hk hbl (ok.ht (by omega)) (ok.s3 (by omega) (by omega)) y z
   ·obtain⟨h1,s,t,h2,h4,u',h5,h6⟩:=hall y z
    exact at_shut h1 h2 h4 (by show(if b.kind=1 then _ else _)=_;rw[if_pos hk];exact h5) h6
theorem cut_head {a n B:List Nat}(ha:32∉a)(hn:32∉n)(hB:B=[]∨∃B',B=32::B'):∃r,cut 32 (a++32::(n++B))=a::n::r:=by
 rw[cut_app,cut_none ha]
 rcases hB with rfl|⟨B',rfl⟩
 ·rw[List.append_nil,cut_none hn];exact⟨[],rfl⟩
 ·rw[cut_app,cut_none hn];exact⟨_,rfl⟩
theorem shut_head {b:Bk}{x:Str}{p:Nat}{n B:List Nat}(hp:p<3)(ex:cp x=pL p++32::(n++B))(h1:∀c∈n,c<128∧c≠10)(h2:n.length≤60)(h3:32∉n)(hB:B=[]∨∃B',B=32::B')(hB1:∀c∈B,c<128∧c≠10)(hB2:B.length≤60)(h:p<b.part∨(p=b.part∧¬cp b.name<n)):Shut (some b) x:=by
 have hP:=pL_is hp
 obtain⟨r,er⟩:=cut_head hP.2.1 h3 hB
 refine⟨?_,?_⟩
 ·rw[ex]
  refine⟨fun c hc=>?_,by rw[List.length_append,List.length_cons,List.length_append];omega⟩
  rcases List.mem_append.mp hc with z|z
  ·exact hP.2.2.1 c z
  rcases List.mem_cons.mp z with rfl|z
  ·decide
  rcases List.mem_append.mp z with z|z
  ·exact h1 c z
  ·exact hB1 c z
 ·rw[ex,er]
  unfold takeR
  rw[if_neg (show¬(stO (some b)).fst=false from fun z=>nomatch z)]
  dsimp only
  rw[hP.1]
  dsimp only
  unfold takeH
  dsimp only
  rw[if_pos]
  rcases h with h|h
  ·exact .inl h
  ·exact .inr (.inr h)
theorem not_lt_a {l:List Nat}(h:goodL l=true):¬l<[97]:=by
 have g:=good_all h
 cases l with
 |nil=>exact absurd rfl g.2.2.2.1
 |cons c r=>
  have hc:=g.2.2.2.2 c rfl
  rw[List.cons_lt_cons_iff]
  rintro(z|⟨_,z⟩)
  ·omega
  ·exact absurd z (List.not_lt_nil r)
theorem part_strs {p:Nat}(h:p<3):∃A B C:Str,atI [V.str (Str.ofString "laid "),.str (Str.ofString "paper "),.str (Str.ofString "never ")] ((p:Nat):Int)=some (.str A)∧atI [V.str (Str.ofString ""),.str (Str.ofString " shore"),.str (Str.ofString " tree 1")] ((p:Nat):Int)=some (.str B)∧atI [V.str (Str.ofString ""),.str (Str.ofString " cut"),.str (Str.ofString " bundle 0 -1")] ((p:Nat):Int)=some (.str C)∧cp A=pL p++[32]∧
  ((cp B=[]∨∃B',cp B=32::B')∧(∀c∈cp B,c<128∧c≠10)∧(cp B).length≤60)∧((cp C=[]∨∃B',cp C=32::B')∧(∀c∈cp C,c<128∧c≠10)∧(cp C).length≤60):=by
 match p,h with
 |0,_=>exact⟨_,_,_,rfl,rfl,rfl,by decide+kernel,⟨.inl (by decide+kernel),by decide+kernel,by decide+kernel⟩,.inl (by decide+kernel),by decide+kernel,by decide+kernel⟩
 |1,_=>exact⟨_,_,_,rfl,rfl,rfl,by decide+kernel,⟨.inr ⟨L "shore",by decide+kernel⟩,by decide+kernel,by decide+kernel⟩,.inr ⟨L "cut",by decide+kernel⟩,by decide+kernel,by decide+kernel⟩
 |2,_=>exact⟨_,_,_,rfl,rfl,rfl,by decide+kernel,⟨.inr ⟨L "tree 1",by decide+kernel⟩,by decide+kernel,by decide+kernel⟩,.inr ⟨L "bundle 0 -1",by decide+kernel⟩,by decide+kernel,by decide+kernel⟩
theorem ok_ShutH {cDraft cReading cWireError cBadRow cBadAnswer cPt cNk:Addr}{f:Addr}{fd:FuncData}(F:Fun K "_law_shut_heads" "_law_shut_heads" sShutH f fd)(T:Txt w K mg cDraft cReading cWireError cBadRow cBadAnswer cPt cNk):FnOk P w K mg base CX0 1 f fd ["block"] spShutH:=by
 have sc:FnScope ["block", "shut"] ["block"] (defScope sShutH):=⟨rfl,rfl,rfl,by decide+kernel,rfl,by decide+kernel,by decide+kernel⟩
 refine F.ok sc (fun vs H Q E h=>by repeat (first|(obtain⟨rfl,_⟩:=h;rfl)|(obtain⟨_,h⟩:=h))) (fun cdv A outer s H vs Q E hr h=>?_)
 obtain⟨a,n,F,ns,o,rfl,hA,q⟩:=h
 refine⟨_,(pss_cons (ps_if (pt_cmpR (op_eq0 hr) (pv 0) (pe_lst pa_nil) (nomark _))
 (pss_one (ps_ret (pe_lst pa_nil)))
 pss_nil)
 (pss_cons (ps_set (i:=1) sc.nd rfl (Or.inl rfl) (pe_lst (pa_cons (pe_op op_add_str (pe_op op_add_str (pe_ix ix_list (pe_lst (pa_cons pe_str (pa_cons pe_str (pa_cons pe_str pa_nil)))) (pe_ix ix_list (pv 0) pe_int (fun _ _=>rfl)) (fun _ _=>rfl)) (pe_ix ix_list (pv 0) pe_int (fun _ _=>rfl))) (pe_ix ix_list (pe_lst (pa_cons pe_str (pa_cons pe_str (pa_cons pe_str pa_nil)))) (pe_ix ix_list (pv 0) pe_int (fun _ _=>rfl)) (fun _ _=>rfl))) pa_nil)))
 (pss_cons (ps_expr (pe_bm PySem.F.plainAttrs_list PySem.F.slot_list_append PySem.F.type_list_append mt_append (pv 1) (pa_cons (pe_op op_add_str (pe_op op_add_str (pe_ix ix_list (pe_lst (pa_cons pe_str (pa_cons pe_str (pa_cons pe_str pa_nil)))) (pe_ix ix_list (pv 0) pe_int (fun _ _=>rfl)) (fun _ _=>rfl)) pe_str) (pe_ix ix_list (pe_lst (pa_cons pe_str (pa_cons pe_str (pa_cons pe_str pa_nil)))) (pe_ix ix_list (pv 0) pe_int (fun _ _=>rfl)) (fun _ _=>rfl))) pa_nil)))
 (pss_cons (ps_if (pt_cmpR op_gt (pe_ix ix_list (pv 0) pe_int (fun _ _=>rfl)) pe_int (nomark _))
 (pss_one (ps_expr (pe_bm PySem.F.plainAttrs_list PySem.F.slot_list_append PySem.F.type_list_append mt_append (pv 1) (pa_cons pe_str pa_nil))))
 pss_nil)
 (pss_cons (ps_if (pt_cmpR op_gt (pe_ix ix_list (pv 0) pe_int (fun _ _=>rfl)) pe_int (nomark _))
 (pss_one (ps_expr (pe_bm PySem.F.plainAttrs_list PySem.F.slot_list_append PySem.F.type_list_append mt_append (pv 1) (pa_cons pe_str pa_nil))))
 pss_nil)
 (pss_one (ps_ret (pv 1)))))))),?_⟩
 have hsz:sizeLine=2^24:=rfl
 cases o with
 |none=>
  have hA:H a=some (.lst []):=hA
  refine sq_ifS (es_eq0 (fun H1 s=>ev_var rfl) hA) (fun e H1 s1=>?_) fun e H1 s1=>nomatch e
  exact rd_te (te_lstS [] ea_nil rfl (Nat.zero_le _) fun l H2 s2 nl hl=>q l [] H2 (s1.trans s2) (new_of s1 nl) hl (Nat.zero_le _) fun x hx=>nomatch hx)
 |some b=>
  obtain⟨⟨ln,l4,l5,l6,l7,l8,lr,x4,x5,x6,x7,x8,x0⟩,ok⟩:=id hA
  refine sq_ifS (es_eq0 (fun H1 s=>ev_var rfl) x0.ha) (fun e H1 s1=>nomatch e) fun _ H1 s1=>?_
  have x:=x0.same s1
  have gn:=good_all ok.nm
  have h3:=ok.p3
  obtain⟨A,B,C,hA1,hB1,hC1,eA,⟨eB,eB1,eB2⟩,eC,eC1,eC2⟩:=part_strs ok.p3
  have lA:A.length≤61:=by rw[←cp_len,eA,List.length_append];have:=(pL_is h3).2.2.2;simp;omega
  have lB:B.length≤60:=by rw[←cp_len];exact eB2
  have lC:C.length≤60:=by rw[←cp_len];exact eC2
  have lN:b.name.length≤60:=by rw[←cp_len];exact gn.2.1
  have s1a:Shut (some b) (A++b.name++B):=shut_head (n:=cp b.name) (B:=cp B) h3 (by rw[cp_app,cp_app,eA];simp) gn.1 gn.2.1 gn.2.2.1 eB eB1 eB2 (.inr ⟨rfl,fun z=>List.lt_irrefl _ z⟩)
  have s2a:Shut (some b) (A++Str.ofString "a" ++C):=shut_head (n:=[97]) (B:=cp C) h3 (by rw[cp_app,cp_app,eA,show cp (Str.ofString "a")=[97] by decide+kernel];simp) (by decide) (by decide) (by decide) eC eC1 eC2 (.inr ⟨rfl,not_lt_a ok.nm⟩)
  have pv':∀{H':Hp} {σ:St},Same H1 H'→σ[0]?=some (some (.ref a))→Ev (tOp (rIxL K) (tVar 0) (tC (.int 0))) σ H' (.int (b.part:Nat)):=fun s h=>ev_ixL (v:=.int (b.part:Nat)) (ev_var h) ev_c (SqL.of (s _ _ x.ha)) rfl
  refine sq_asg (te_lstA (ta_one (te_op (te_op (te_pick (ea_cons ev_c (ea_cons ev_c (ea_cons ev_c ea_nil))) (by show 3≤sizeLine;decide) (fun H' s=>pv' s rfl) hA1 fun H2 s2=>te_use (ev_ixL (v:=.str b.name) (ev_var rfl) ev_c (SqL.of (s2 _ _ x.ha)) rfl) ⟨_,_,rfl,rfl,by rw[hsz];omega,te_pick (ea_cons ev_c (ea_cons ev_c (ea_cons ev_c ea_nil))) (by show 3≤sizeLine;decide) (fun H' s=>pv' (s2.trans s) rfl) hB1 fun H3 s3=>⟨_,_,rfl,rfl,by rw[hsz,strLen_append];omega,⟨(by show 1≤sizeLine;decide),fun l nl=>?_⟩⟩⟩)))))
  have s23:=s2.trans s3
  have nl0:H l=none:=new_of (s1.trans s23) nl
  have s4:Same H1 (upd H3 l (.lst [.str (A++b.name++B)])):=s23.trans ((Same.refl H3).upd nl)
  have hl4:upd H3 l (.lst [.str (A++b.name++B)]) l=some (.lst (([A++b.name++B]:List Str).map V.str)):=upd_same
  revert s4 hl4
  generalize upd H3 l _=H4
  intro s4 hl4
  refine nrm (σ':=[some (.ref a),some (.ref l)]) (by kernel_rfl) ?_
  refine sq_drop (te_bm (ev_var rfl) (.inl ⟨rfl,_,SqL.of hl4⟩) (ta_one (te_op (te_op (te_pick (ea_cons ev_c (ea_cons ev_c (ea_cons ev_c ea_nil))) (by show 3≤sizeLine;decide) (fun H' s=>pv' (s4.trans s) rfl) hA1 fun H5 s5=>te_use ev_c ⟨_,_,rfl,rfl,by rw[hsz,show(Str.ofString "a").length=1 by decide+kernel];omega,te_pick (ea_cons ev_c (ea_cons ev_c (ea_cons ev_c ea_nil))) (by show 3≤sizeLine;decide) (fun H' s=>pv' (s4.trans (s5.trans s)) rfl) hC1 fun H6 s6=>⟨_,_,rfl,rfl,by rw[hsz,strLen_append,show(Str.ofString "a").length=1 by decide+kernel];omega,⟨l,_,_,rfl,rfl,s6 _ _ (s5 _ _ hl4),by show 1+1≤sizeLine;decide,?_⟩⟩⟩)))))
  have nl1:H1 l=none:=by
   cases h:H1 l with
   |none=>rfl
   |some o=>rw[s23 _ _ h] at nl;cases nl
  have s7:Same H1 (upd H6 l (.lst (([A++b.name++B]:List Str).map V.str++[.str (A++Str.ofString "a" ++C)]))):=same_at (s4.trans (s5.trans s6)) nl1
  have hl7:upd H6 l (.lst (([A++b.name++B]:List Str).map V.str++[.str (A++Str.ofString "a" ++C)])) l=some (.lst (([A++b.name++B,A++Str.ofString "a" ++C]:List Str).map V.str)):=upd_same
  have hs7:∀y∈[A++b.name++B,A++Str.ofString "a" ++C],Shut (some b) y:=fun y hy=>by
   simp only[List.mem_cons,List.not_mem_nil,or_false] at hy
   rcases hy with rfl|rfl
   ·exact s1a
   ·exact s2a
  revert s7 hl7
  generalize upd H6 l _=H7
  intro s7 hl7
  have put:∀{rs:List Str} {H':Hp} {y:Str},Same H1 H'→H' l=some (.lst (rs.map V.str))→(∀z∈rs,Shut (some b) z)→Shut (some b) y→Same H1 (upd H' l (.lst (rs.map V.str++[.str y])))∧upd H' l (.lst (rs.map V.str++[.str y])) l=some (.lst ((rs++[y]).map V.str))∧∀z∈rs++[y],Shut (some b) z:=fun s h h1 h2=>⟨same_at s nl1,by rw[upd_same,List.map_append];rfl,fun z hz=>by
   rcases List.mem_append.mp hz with w|w
   ·exact h1 z w
   ·rw[List.mem_singleton.mp w];exact h2⟩
  try dsimp only
  refine sq_J (fun σ H'=>∃rs:List Str,σ=[some (.ref a),some (.ref l)]∧Same H1 H'∧H' l=some (.lst (rs.map V.str))∧rs.length≤3∧∀y∈rs,Shut (some b) y) (fun R hR=>?_) ?_
  ·refine rd_if (et_test (ev_gt (pv' s7 rfl) ev_c)) (fun e=>?_) fun _=>hR _ _ ⟨_,rfl,s7,hl7,show 2≤3 by decide,hs7⟩
   have e:=of_decide_eq_true e
   refine rd_drop (te_bm (ev_var rfl) (.inl ⟨rfl,_,SqL.of hl7⟩) (ta_ev ev_c ⟨l,_,_,rfl,rfl,hl7,by show 2+1≤sizeLine;decide,?_⟩))
   obtain⟨g1,g2,g3⟩:=put (y:=Str.ofString "laid z") s7 hl7 hs7 (shut_head (p:=0) (n:=[122]) (B:=[]) (by decide) (by decide+kernel) (by decide) (by decide) (by decide) (.inl rfl) (fun c hc=>nomatch hc) (by decide) (.inl (by omega)))
   exact hR _ _ ⟨_,rfl,g1,g2,show 3≤3 by decide,g3⟩
  rintro σ H8 ⟨rs,rfl,s8,hl8,h83,hs8⟩
  refine sq_J (fun σ H'=>∃rs:List Str,σ=[some (.ref a),some (.ref l)]∧Same H1 H'∧H' l=some (.lst (rs.map V.str))∧rs.length≤4∧∀y∈rs,Shut (some b) y) (fun R hR=>?_) ?_
  ·refine rd_if (et_test (ev_gt (pv' s8 rfl) ev_c)) (fun e=>?_) fun _=>hR _ _ ⟨_,rfl,s8,hl8,by omega,hs8⟩
   have e:=of_decide_eq_true e
   refine rd_drop (te_bm (ev_var rfl) (.inl ⟨rfl,_,SqL.of hl8⟩) (ta_ev ev_c ⟨l,_,_,rfl,rfl,hl8,by rw[List.length_map];omega,?_⟩))
   obtain⟨g1,g2,g3⟩:=put (y:=Str.ofString "paper z shore") s8 hl8 hs8 (shut_head (p:=1) (n:=[122]) (B:=32::L "shore") (by decide) (by decide+kernel) (by decide) (by decide) (by decide) (.inr ⟨_,rfl⟩) (by decide+kernel) (by decide+kernel) (.inl (by omega)))
   exact hR _ _ ⟨_,rfl,g1,g2,by rw[List.length_append];exact Nat.add_le_add_right h83 1,g3⟩
  rintro σ H9 ⟨rs,rfl,s9,hl9,h94,hs9⟩
  exact rd_ret (ev_var rfl) (q l rs H9 (s1.trans s9) nl0 hl9 (by omega) hs9)
theorem bad_take {st:Rs}{ws:List (List Nat)}(h1:st.fst=true)(h:badAny ws=true):takeR st ws=none:=by
 cases ws with
 |nil=>unfold takeR;rw[if_neg (by rw[h1];decide)]
 |cons w r=>
  cases hp:partP w with
  |some p=>
   unfold badAny at h
   dsimp only at h
   rw[hp] at h
   unfold takeR
   rw[if_neg (by rw[h1];decide)]
   dsimp only
   rw[hp]
   dsimp only
   cases r with
   |nil=>rfl
   |cons n t=>
    dsimp only at h
    unfold takeH
    dsimp only
    rw[Bool.or_eq_true] at h
    rcases h with h|h
    ·rw[if_pos (.inr (.inl (nb h)))]
    ·split
     ·rfl
     ·cases e:draftP p t with
      |none=>rfl
      |some d=>rw[e] at h;cases h
  |none=>
   refine take_no h1 hp fun d _=>?_
   unfold badAny at h
   dsimp only at h
   rw[hp] at h
   dsimp only at h
   by_cases e3:w=L "at"
   ·rw[if_neg (by rw[e3];decide+kernel),if_neg (by rw[e3];decide+kernel),if_pos e3] at h
    rw[e3,at_eq]
    unfold takeA
    cases r with
    |nil=>rfl
    |cons s t=>
     dsimp only at h⊢
     cases hs:spotP s with
     |none=>rfl
     |some u=>
      rw[hs] at h
      have h:(!okN t 1&&!okN t 2)=true:=h
      rw[Bool.and_eq_true] at h
      dsimp only
      rw[nb h.1,nb h.2]
      simp
   refine shutB_no ?_
   unfold shutB
   dsimp only
   rw[hp]
   show(true&&_)=true
   rw[Bool.true_and]
   by_cases e1:w=L "step"
   ·rw[if_pos e1] at h⊢;rw[h];simp
   rw[if_neg e1] at h⊢
   by_cases e2:w=L "hill"
   ·rw[if_pos e2] at h⊢;rw[h];simp
   rw[if_neg e2] at h⊢
   rw[if_neg e3] at h⊢
   by_cases e4:w=L "cut"
   ·rw[if_pos e4] at h⊢;rw[h];simp
   rw[if_neg e4] at h⊢
   by_cases e5:w=L "spot"
   ·rw[if_pos e5] at h⊢;rw[h];simp
   rw[if_neg e5]
theorem run_first {r:Str}{rs:List (List Nat)}(h:takeR rs0 (cut 32 (cp r))=some rs1):runR rs0 (cp r::rs)=runR rs1 rs:=by
 show(takeR rs0 (cut 32 (cp r))).bind (fun st'=>runR st' rs)=_
 rw[h];rfl
theorem first_row {i:Int}:∃r:Str,atI [V.str (Str.ofString "answer open"),.str (Str.ofString "answer rested")] (i%2)=some (.str r)∧RowOk (cp r)∧takeR rs0 (cut 32 (cp r))=some rs1:=by
 have tk:∀{ws:List (List Nat)},(ws=[L "answer",L "rested"]∨ws=[L "answer",L "open"])→takeR rs0 ws=some rs1:=fun h=>by
  unfold takeR
  rw[if_pos (show rs0.fst=false from rfl),if_pos h];rfl
 rcases(show i%2=0∨i%2=1 by omega) with h|h<;>rw[h]
 ·exact⟨_,rfl,rowB_ok (by decide+kernel),tk (.inr (by decide+kernel))⟩
 ·exact⟨_,rfl,rowB_ok (by decide+kernel),tk (.inl (by decide+kernel))⟩
theorem not_first {ws:List (List Nat)}(h:(decide (ws=[L "answer",L "rested"])||decide (ws=[L "answer",L "open"]))=false):takeR rs0 ws=none:=by
 rw[Bool.or_eq_false_iff,decide_eq_false_iff_not,decide_eq_false_iff_not] at h
 unfold takeR
 rw[if_pos (show rs0.fst=false from rfl),if_neg fun z=>z.elim h.1 h.2]
structure Pg (rs:List Str) (k:Nat) (n:Nat):Prop where
 ok:∀x∈rs,RowOk (cp x)
 ln:rs.length≤n
 p1:1≤rs.length
 fb:∃a b c st,rs.map cp=a++b::c∧runR rs0 a=some st∧takeR st (cut 32 b)=none∧k=a.length+1
theorem Pg.first {rs:List Str}{k n:Nat}(h:Pg rs k n)(hn:n≤400){x:Str}(ex:cp x=jl 10 (rs.map cp)):FirstBad x k:=by
 obtain⟨a,b,c,st,e,h1,h2,h3⟩:=h.fb
 refine⟨a,b,c,st,by rw[ex,e],fun r hr=>?_,?_,h1,h2,h3⟩
 ·rw[←e] at hr
  obtain⟨y,hy,rfl⟩:=List.mem_map.mp hr
  exact h.ok y hy
 ·rw[←e,List.length_map];exact Nat.le_trans h.ln hn
theorem Pg.bad1 {rs zs:List Str}{k n:Nat}(h:Pg rs k n){w:Str}(hz:∀z∈zs,z∈rs)(hl:zs.length≤n)(hw:RowOk (cp w))(h1:takeR rs0 (cut 32 (cp w))=none):Pg (w::zs) 1 (n+1):=
 ⟨fun x hx=>by
  rcases List.mem_cons.mp hx with rfl|hx
  ·exact hw
  ·exact h.ok x (hz x hx),by rw[List.length_cons];omega,by rw[List.length_cons];omega,[],cp w,zs.map cp,rs0,rfl,rfl,h1,rfl⟩
theorem rowsA_take {bs:List Bk}{i:Nat}:(rowsA (bs.take i)).length≤(rowsA bs).length:=by
 have:rowsA bs=rowsA (bs.take i)++rowsA (bs.drop i):=by
  unfold rowsA
  rw[←List.flatten_append,←List.map_append,List.take_append_drop]
 rw[this,List.length_append];omega
theorem te_rows {K:PySem.W.Frag}{σ:St}{H:Hp}{i j:Nat}{l a:Addr}{n:Nat}{G:List Addr}{b:Bk}{rs:List Str}{Q:VK}(hi:σ[i]?=some (some (.ref l)))(hj:σ[j]?=some (some (.ref a)))(hl:H l=some (.lst (rs.map V.str)))(hb:BkAt n G H a b)(hd:HdOk b)(hn:rs.length+n≤10000)(q:∀p H' x,Same H H'→H p=none→cp x=headL b→H' p=some (.lst ((rs++x::b.rows).map V.str))→Q (.ref p) H'):
  tOp rCat (tOp rCat (tVar i) (tLst (tCons (tCall spHead [] E0 (tCons (tVar j) tNil)) tNil))) (tOp (rIxL K) (tVar j) (tC (.int 10))) σ H Q:=by
 have hsz:sizeLine=2^24:=rfl
 obtain⟨ln,l4,l5,l6,l7,l8,lr,x4,x5,x6,x7,x8,x⟩:=id hb
 have hr:=x.nr
 refine te_op (te_op (te_use (ev_var hi) (te_lstA (ta_one (te_cal (ea_cons (ev_var hj) ea_nil) ⟨a,n,G,b,rfl,hb,hd,fun y H1 s1 ey=>⟨(by show 1≤sizeLine;decide),fun p np=>?_⟩⟩)))))
 have s2:Same H1 (upd H1 p (.lst [.str y])):=(Same.refl H1).upd np
 have hp:upd H1 p (.lst [.str y]) p=some (.lst [.str y]):=upd_same
 revert s2 hp
 generalize upd H1 p _=H2
 intro s2 hp
 have s12:=s1.trans s2
 refine⟨l,p,_,_,rfl,rfl,s12 _ _ hl,hp,by rw[List.length_map,hsz];show _+1≤_;omega,fun u nu=>?_⟩
 have s3:Same H2 (upd H2 u (.lst (rs.map V.str++[.str y]))):=(Same.refl H2).upd nu
 have hu:upd H2 u (.lst (rs.map V.str++[.str y])) u=some (.lst (rs.map V.str++[.str y])):=upd_same
 revert s3 hu
 generalize upd H2 u _=H3
 intro s3 hu
 have s13:=s12.trans s3
 refine te_use (ev_ixL (v:=.ref lr) (ev_var hj) ev_c (SqL.of (s13 _ _ x.ha)) rfl) ⟨u,lr,_,_,rfl,rfl,hu,s13 _ _ x.jr,by rw[List.length_append,List.length_map,List.length_map,hsz];show _+1+_≤_;omega,fun v nv=>?_⟩
 refine q v _ y (s13.trans ((Same.refl H3).upd nv)) (new_of s13 nv) ey ?_
 rw[upd_same,List.map_append,List.map_cons,List.append_assoc];rfl
theorem rows_snoc {rs:List Str}{bs:List Bk}{i:Nat}{b:Bk}{y:Str}{r0:List (List Nat)}(h:rs.map cp=r0++rowsA (bs.take i))(hb:bs[i]?=some b)(ey:cp y=headL b):(rs++y::b.rows).map cp=r0++rowsA (bs.take (i+1)):=by
 rw[take_one hb,rowsA_snoc,List.map_append,h,List.append_assoc,List.map_cons,ey];rfl
abbrev tS (hl cl ml:Addr) (t m:Int) (lr:Addr) (k:Int) (bl:Addr) (x8 x9 x10 x11 x12:Option V):St:=[some (.ref hl),some (.ref cl),some (.ref ml),some (.int t),some (.int m),some (.ref lr),some (.int k),some (.ref bl),x8,x9,x10,x11,x12]
theorem someS {i:Int}:∃w:Str,atI ((Rw ["", "answer", "answer shut", " answer open", "answer open ", "answer  open"]).map V.str) (i%6)=some (.str w)∧RowOk (cp w)∧takeR rs0 (cut 32 (cp w))=none:=by
 obtain⟨w,hw,e⟩:=at_str (xs:=Rw ["", "answer", "answer shut", " answer open", "answer open ", "answer  open"]) (i:=i%6) (by omega) (by show i%6<6;omega)
 have:=(show∀x∈Rw ["", "answer", "answer shut", " answer open", "answer open ", "answer  open"],(rowB (cp x)&&!(decide (cut 32 (cp x)=[L "answer",L "rested"])||decide (cut 32 (cp x)=[L "answer",L "open"])))=true by decide+kernel) w hw
 rw[Bool.and_eq_true] at this
 exact⟨w,e,rowB_ok this.1,not_first (nb this.2)⟩
theorem laid_a:RowOk (cp (Str.ofString "laid a"))∧takeR rs0 (cut 32 (cp (Str.ofString "laid a")))=none:=⟨rowB_ok (by decide+kernel),not_first (by decide+kernel)⟩
theorem last_at {as:List Addr}{e:Addr}:∃v,atI ([V.ref e]++as.map V.ref) (-1)=some (.ref v)∧((as=[]∧v=e)∨∃as0,as=as0++[v]):=by
 rcases List.eq_nil_or_concat as with h|⟨r,l,h⟩
 ·subst h;exact⟨e,rfl,.inl ⟨rfl,rfl⟩⟩
 ·rw[List.concat_eq_append] at h
  subst h
  exact⟨l,by rw[List.map_append,←List.append_assoc];exact atI_last,.inr ⟨r,rfl⟩⟩
theorem cut_one (xs:List V)(h:1≤xs.length):cutV xs (some 1) none=xs.drop 1:=cut_of xs 1 h
theorem ok_Turn {cDraft cReading cWireError cBadRow cBadAnswer cPt cNk:Addr}{f:Addr}{fd:FuncData}(F:Fun K "_law_turn" "_law_turn" sTurn f fd)(T:Txt w K mg cDraft cReading cWireError cBadRow cBadAnswer cPt cNk)(gMixed:Callee P w K mg base "_law_mixed" 1 ["cell", "k"] spMixed)(gNames:Callee P w K mg base "_law_names" 1 ["cell"] spNames)(gHead:Callee P w K mg base "_law_head" 1 ["block"] spHead)(gBlocks:Callee P w K mg base "_law_blocks" 4 ["cells", "names"] (spBlocks K))(gNowhere:Callee P w K mg base "_law_nowhere" 1 ["cell"] spNowhere)(gShutR:Callee P w K mg base "_law_shut_rows" 3 ["block"] spShutR)(gShutH:Callee P w K mg base "_law_shut_heads" 1 ["block"] spShutH):FnOk P w K mg base CX0 5 f fd ["head", "cells", "more", "turn"] (spTurn K):=by
 have sc:FnScope ["head", "cells", "more", "turn", "pick", "rows", "many", "blocks", "block", "due", "last", "shut", "some"] ["head", "cells", "more", "turn"] (defScope sTurn):=⟨rfl,rfl,rfl,by decide+kernel,rfl,by decide+kernel,by decide+kernel⟩
 refine F.ok sc (fun vs H Q E h=>by repeat (first|(obtain⟨rfl,_⟩:=h;rfl)|(obtain⟨_,h⟩:=h))) (fun cdv A outer s H vs Q E hr h=>?_)
 obtain⟨hl,cl,ml,t,hs,cs,ms,rfl,hhl,h6,hcl,h64,hml,hms,hm100,ht0,ht3,q⟩:=h
 refine⟨_,(pss_cons (ps_set (i:=4) sc.nd rfl (Or.inl rfl) (pe_cal gMixed (hr.mono (by decide)) (by rfl) (pa_cons (pe_ix ix_list (pv 0) pe_int (fun _ _=>rfl)) (pa_cons (pv 3) pa_nil))))
 (pss_cons (ps_set (i:=5) sc.nd rfl (Or.inl rfl) (pe_lst (pa_cons (pe_ix ix_list (pe_lst (pa_cons pe_str (pa_cons pe_str pa_nil))) (pe_op op_mod (pe_ix ix_list (pv 0) pe_int (fun _ _=>rfl)) pe_int) (fun _ _=>rfl)) pa_nil)))
 (pss_cons (ps_set (i:=6) sc.nd rfl (Or.inl rfl) (pe_op op_mod (pe_op op_add (pe_ix ix_list (pv 0) pe_int (fun _ _=>rfl)) (pe_op op_mul (pv 3) (pe_op op_mod (pe_ix ix_list (pv 0) pe_int (fun _ _=>rfl)) pe_int))) (pe_op op_add (pe_callB call_len (by rfl) T.len_ bt_len (pa_cons (pv 1) pa_nil)) pe_int)))
 (pss_cons (ps_set (i:=7) sc.nd rfl (Or.inl rfl) (pe_cal gBlocks (hr.mono (by decide)) (by rfl) (pa_cons (pe_slice sl_list (pv 1) po_none (po_some (pv 6))) (pa_cons (pe_cal gNames (hr.mono (by decide)) (by rfl) (pa_cons (pe_ix ix_list (pv 0) pe_int (fun _ _=>rfl)) pa_nil)) pa_nil))))
 (pss_cons (ps_for PassesOwn.never rfl (pi_list (pv 7)) (pg_name (i:=8) sc.nd rfl (Or.inl rfl))
 (pss_one (ps_set (i:=5) sc.nd rfl (Or.inl rfl) (pe_op op_cat (pe_op op_cat (pv 5) (pe_lst (pa_cons (pe_cal gHead (hr.mono (by decide)) (by rfl) (pa_cons (pv 8) pa_nil)) pa_nil))) (pe_ix ix_list (pv 8) pe_int (fun _ _=>rfl))))))
 (pss_cons (ps_set (i:=9) sc.nd rfl (Or.inl rfl) (pe_op op_add (pe_callB call_len (by rfl) T.len_ bt_len (pa_cons (pv 5) pa_nil)) pe_int))
 (pss_cons (ps_set (i:=10) sc.nd rfl (Or.inl rfl) (pe_ix ix_list (pe_op op_cat (pe_lst (pa_cons (pe_lst pa_nil) pa_nil)) (pv 7)) (pe_un un_neg pe_int) (fun _ _=>rfl)))
 (pss_cons (ps_set (i:=11) sc.nd rfl (Or.inl rfl) (pe_op op_cat (pe_cal gShutR (hr.mono (by decide)) (by rfl) (pa_cons (pv 10) pa_nil)) (pe_cal gShutH (hr.mono (by decide)) (by rfl) (pa_cons (pv 10) pa_nil))))
 (pss_cons (ps_if (pt_cmpR op_eq (pe_op op_mod (pe_op op_add (pe_ix ix_list (pv 0) pe_int (fun _ _=>rfl)) (pv 3)) pe_int) pe_int (nomark _))
 (pss_one (ps_expr (pe_bm PySem.F.plainAttrs_list PySem.F.slot_list_append PySem.F.type_list_append mt_append (pv 5) (pa_cons (pe_cal gNowhere (hr.mono (by decide)) (by rfl) (pa_cons (pe_op op_fdivB (pv 4) pe_int) pa_nil)) pa_nil))))
 (pss_one (ps_expr (pe_bm PySem.F.plainAttrs_list PySem.F.slot_list_append PySem.F.type_list_append mt_append (pv 5) (pa_cons (pe_ix ix_list (pv 11) (pe_op op_mod (pe_op op_fdivB (pv 4) pe_int) (pe_callB call_len (by rfl) T.len_ bt_len (pa_cons (pv 11) pa_nil))) (fun _ _=>rfl)) pa_nil)))))
 (pss_cons (ps_if (pt_cmpR op_gt (pe_op op_mod (pv 4) pe_int) pe_int (nomark _))
 (pss_one (ps_set (i:=5) sc.nd rfl (Or.inl rfl) (pe_op op_cat (pv 5) (pv 2))))
 pss_nil)
 (pss_cons (ps_if (pt_cmpR op_eq (pe_op op_mod (pe_op op_add (pe_op op_fdivB (pe_ix ix_list (pv 0) pe_int (fun _ _=>rfl)) pe_int) (pv 3)) pe_int) pe_int (nomark _))
 (pss_cons (ps_set (i:=12) sc.nd rfl (Or.inl rfl) (pe_lst (pa_cons pe_str (pa_cons pe_str (pa_cons pe_str (pa_cons pe_str (pa_cons pe_str (pa_cons pe_str pa_nil))))))))
 (pss_cons (ps_set (i:=5) sc.nd rfl (Or.inl rfl) (pe_op op_cat (pe_lst (pa_cons (pe_ix ix_list (pv 12) (pe_op op_mod (pe_op op_fdivB (pv 4) pe_int) pe_int) (fun _ _=>rfl)) pa_nil)) (pv 5)))
 (pss_one (ps_set (i:=9) sc.nd rfl (Or.inl rfl) pe_int))))
 pss_nil)
 (pss_cons (ps_if (pt_cmpR op_eq (pe_op op_mod (pe_op op_add (pe_op op_fdivB (pe_ix ix_list (pv 0) pe_int (fun _ _=>rfl)) pe_int) (pv 3)) pe_int) pe_int (nomark _))
 (pss_cons (ps_set (i:=5) sc.nd rfl (Or.inl rfl) (pe_op op_cat (pe_lst (pa_cons pe_str pa_nil)) (pe_slice sl_list (pv 5) (po_some pe_int) po_none)))
 (pss_one (ps_set (i:=9) sc.nd rfl (Or.inl rfl) pe_int)))
 pss_nil)
 (pss_one (ps_ret (pe_tup (pa_cons (pe_bm PySem.F.plainAttrs_str PySem.F.slot_str_join PySem.F.type_str_join mt_join pe_str (pa_cons (pv 5) pa_nil)) (pa_cons (pv 9) pa_nil))))))))))))))))),?_⟩
 have hsz:sizeLine=2^24:=rfl
 obtain⟨h0,h1,h2,h3,h4,h5,rfl⟩:=bl6 h6
 have eh:∀{H':Hp} {σ:St} {i:Int} {v:Int},Same H H'→σ[0]?=some (some (.ref hl))→atI (([h0,h1,h2,h3,h4,h5]:List Int).map V.int) i=some (.int v)→Ev (tOp (rIxL K) (tVar 0) (tC (.int i))) σ H' (.int v):=fun s h e=>ev_ixL (ev_var h) ev_c (SqL.of (s _ _ hhl)) e
 refine sq_asg (te_cal (ea_cons (eh (Same.refl H) rfl rfl) (ea_cons (ev_var rfl) ea_nil)) ⟨h4,t,rfl,ht0,by omega,fun m m0 m1=>?_⟩)
 refine nrm (σ':=[some (.ref hl),some (.ref cl),some (.ref ml),some (.int t),some (.int m),none,none,none,none,none,none,none,none]) (by kernel_rfl) ?_
 obtain⟨r0,hr0,r0k,r0t⟩:=first_row (i:=h0)
 refine sq_asgH fun R hR=>te_lstA (ta_one (te_pick (ea_cons ev_c (ea_cons ev_c ea_nil)) (by show 2≤sizeLine;decide) (fun H' s=>ev_I (eh s rfl rfl) ev_c (by show(0:Int)<2;decide)) hr0 fun H1 s1=>⟨(by show 1≤sizeLine;decide),fun lr nlr=>hR _ _ ?_⟩))
 have s2:Same H (upd H1 lr (.lst [.str r0])):=s1.trans ((Same.refl H1).upd nlr)
 have hlr:upd H1 lr (.lst [.str r0]) lr=some (.lst (([r0]:List Str).map V.str)):=upd_same
 have nlr:=new_of s1 nlr
 revert s2 hlr
 generalize upd H1 lr _=H2
 intro s2 hlr
 clear hR R
 refine nrm (σ':=[some (.ref hl),some (.ref cl),some (.ref ml),some (.int t),some (.int m),some (.ref lr),none,none,none,none,none,none,none]) (by kernel_rfl) ?_
 obtain⟨k,hk⟩:=Int.eq_ofNat_of_zero_le (show 0≤(h2+t*(h5%1009))%((cs.length:Int)+1) from Int.emod_nonneg _ (by omega))
 have hkl:k≤cs.length:=by have:=Int.emod_lt_of_pos (h2+t*(h5%1009)) (show(0:Int)<(cs.length:Int)+1 by omega);omega
 refine sq_set (v:=.int (k:Nat)) (ev_of (ev_I (ev_I0 (g:=fun i j=> .int (i+j)) (eh s2 rfl rfl) (ev_I (ev_var rfl) (ev_I (eh s2 rfl rfl) ev_c (by show(0:Int)<1009;decide)) (cmR (by omega) (by omega)))) (ev_I0 (g:=fun i j=> .int (i+j)) (ev_cb (v:=.int (cs.length:Nat)) (ea_cons (ev_var rfl) ea_nil) fun _ q'=>⟨_,_,rfl,.inl ⟨_,sql_same hcl s2,by rw[List.length_map]⟩,q'⟩) ev_c) (by show(0:Int)<(cs.length:Int)+1;omega)) (by show V.int _=_;rw[←hk])) ?_
 refine nrm (σ':=[some (.ref hl),some (.ref cl),some (.ref ml),some (.int t),some (.int m),some (.ref lr),some (.int (k:Nat)),none,none,none,none,none,none]) (by kernel_rfl) ?_
 refine sq_asgH fun R hR=>te_callA (ta_one (te_slT (ev_var rfl) (ev_var rfl) (sql_same hcl s2) fun p np=>ta_one (te_cal (ea_cons (eh (s2.trans ((Same.refl H2).upd np)) rfl rfl) ea_nil) ⟨h1,rfl,fun nla ns H4 s4 nnl hN hnl=>?_⟩)))
 have s3:Same H2 (upd H2 p (.lst (cutV (cs.map V.int) none (some (k:Int))))):=(Same.refl H2).upd np
 refine⟨p,nla,cs.take k,ns,rfl,SqL.of (by rw[s4 _ _ upd_same,cut_to _ _ (by rw[List.length_map];exact hkl),List.map_take]),by rw[List.length_take];omega,hN,hnl,fun bl F as bs H5 s5 nbl hbl hB hBs hF nF=>hR _ _ ?_⟩
 have s25:Same H2 H5:=s3.trans (s4.trans s5)
 clear hR R s4 s5 s3 nbl hnl nnl hF
 have hlr5:=s25 _ _ hlr
 have s05:=s2.trans s25
 clear s25 s2 hlr
 refine nrm (σ':=tS hl cl ml t m lr (k:Nat) bl none none none none none) (by kernel_rfl) ?_
 have hbn:(rowsA bs).length≤64:=by rw[hBs.ln,List.length_take];omega
 refine sq_hide fun R hR=>rd_forT (te_use (ev_var rfl) ⟨bl,rfl,⟨_,SqL.of hbl⟩,?_⟩)
 refine for_list (K:=K) (xs:=as.map V.ref) (fun i σ H'=>∃(x8:Option V) (lr:Addr) (rs:List Str),σ=tS hl cl ml t m lr (k:Nat) bl x8 none none none none∧Same H5 H'∧H lr=none∧H' lr=some (.lst (rs.map V.str))∧rs.map cp=[cp r0]++rowsA (bs.take i)) ⟨none,lr,[r0],rfl,Same.refl H5,nlr,hlr5,rfl⟩ (fun i σ H' _ ⟨_,_,_,_,s,_⟩=>SqL.of (s _ _ hbl)) ?_ ?_
 ·rintro i x σ H6 hx ⟨x8,lr,rs,rfl,s6,nlr,hlr,hrs⟩
  obtain⟨a,ha,rfl⟩:=map_at hx
  obtain⟨b,G,hb,hbk,_⟩:=hB.at_ ha
  have rl:rs.length≤65:=by rw[←List.length_map (f:=cp),hrs,List.length_append];have:=rowsA_take (bs:=bs) (i:=i);show 1+_≤_;omega
  refine gn ?_
  refine nrm (σ':=tS hl cl ml t m lr (k:Nat) bl (some (.ref a)) none none none none) (by kernel_rfl) ?_
  refine te_rows (K:=K) (i:=5) (j:=8) rfl rfl hlr (hbk.same s6) (hBs.hd b (List.mem_of_getElem? hb)) (by omega) fun u H7 y s7 nu ey hu=>?_
  exact⟨_,u,_,rfl,s6.trans s7,new_of (s05.trans s6) nu,hu,rows_snoc hrs hb ey⟩
 rintro σ H6 ⟨x8,lr,rs,rfl,s6,nlr,hlr,hrs⟩
 rw[List.length_map,hB.len,List.take_length] at hrs
 refine hR _ _ ?_
 clear hR R
 have rl:rs.length≤65:=by rw[←List.length_map (f:=cp),hrs,List.length_append];show 1+_≤_;omega
 have hrun:runR rs0 (rs.map cp)=some (stO bs.getLast?):=by rw[hrs];exact(run_first r0t).trans hBs.run
 have hrok:∀x∈rs,RowOk (cp x):=fun x hx=>by
  have:=List.mem_map_of_mem (f:=cp) hx
  rw[hrs] at this
  rcases List.mem_append.mp this with z|z
  ·rw[List.mem_singleton.mp z];exact r0k
  ·exact hBs.ok _ z
 have s06:=s05.trans s6
 have hbl6:=s6 _ _ hbl
 have hB6:=hB.same s6
 clear s05 s6 hbl hB hrs hlr5
 refine sq_set (v:=.int ((rs.length+1:Nat):Int)) (ev_of (ev_I0 (g:=fun i j=> .int (i+j)) (ev_len (K:=K) (ev_var rfl) hlr) ev_c) (by rw[List.length_map];rfl)) ?_
 refine nrm (σ':=tS hl cl ml t m lr (k:Nat) bl x8 (some (.int ((rs.length+1:Nat):Int))) none none none) (by kernel_rfl) ?_
 have hasl:as.length≤64:=by
  rw[hB6.len]
  refine Nat.le_trans ?_ hbn
  have:∀l:List Bk,l.length≤(rowsA l).length:=fun l=>by
   induction l with
   |nil=>exact Nat.zero_le _
   |cons z r ih=>
    show r.length+1≤((z::r).map rowsB).flatten.length
    rw[List.map_cons,List.flatten_cons,List.length_append]
    have:(rowsB z).length=z.rows.length+1:=by unfold rowsB;simp
    have:r.length≤((r.map rowsB).flatten).length:=ih
    omega
  exact this bs
 refine sq_asgH fun R hR=>te_op (te_op (te_lstA (ta_one (te_lst (vs:=[]) ea_nil (by show 0≤sizeLine;decide) fun e ne=>⟨(by show 1≤sizeLine;decide),fun p np=>?_⟩))))
 obtain⟨v,hv,hvc⟩:=last_at (as:=as) (e:=e)
 have sa:Same H6 (upd (upd H6 e (.lst [])) p (.lst [.ref e])):=((Same.refl H6).upd ne).upd np
 have hpe:p≠e:=(nw np).1
 have he:upd (upd H6 e (.lst [])) p (.lst [.ref e]) e=some (.lst []):=by rw[upd_ne hpe.symm,upd_same]
 have hp:upd (upd H6 e (.lst [])) p (.lst [.ref e]) p=some (.lst [.ref e]):=upd_same
 revert sa he hp
 generalize upd (upd H6 e _) p _=H7
 intro sa he hp
 refine te_use (ev_var rfl) ⟨p,bl,_,_,rfl,rfl,hp,sa _ _ hbl6,by rw[List.length_map,hsz];show 1+_≤_;omega,fun u nu=>te_use (ev_U ev_c) ⟨u,_,_,_,rfl,rfl,SqL.of upd_same,hv,hR _ _ ?_⟩⟩
 have sb:Same H7 (upd H7 u (.lst ([.ref e]++as.map V.ref))):=(Same.refl H7).upd nu
 revert sb
 generalize upd H7 u _=H8
 intro sb
 clear hR R
 have hLA:∃G,LastA 100 G H8 v ns bs.getLast?:=by
  rcases hvc with ⟨z1,z2⟩|⟨as0,z⟩
  ·have:bs=[]:=List.eq_nil_of_length_eq_zero (by rw[←hB6.len,z1];rfl)
   exact⟨[],by rw[this,z2];exact sb _ _ he⟩
  ·obtain⟨F0,G,as1,bs0,a1,b,e1,e2,_,_,hbk,_⟩:=hB6.last (by rw[z];simp)
   have hb:bs.getLast?=some b:=by rw[e2];simp
   have:v=a1:=by rw[z] at e1;have:=List.append_inj' e1 rfl;simpa using this.2
   refine⟨G,?_⟩
   rw[hb,this]
   exact⟨hbk.same (sa.trans sb),hBs.la b hb⟩
 obtain⟨G,hLA⟩:=hLA
 have s68:=sa.trans sb
 have hlr8:=s68 _ _ hlr
 have s08:=s06.trans s68
 clear sa sb s68 s06 hbl6 hB6 hvc hv he hp hlr
 generalize bs.getLast?=o at*
 refine nrm (σ':=tS hl cl ml t m lr (k:Nat) bl x8 (some (.int ((rs.length+1:Nat):Int))) (some (.ref v)) none none) (by kernel_rfl) ?_
 refine sq_asgH fun R hR=>te_op (te_cal (ea_cons (ev_var rfl) ea_nil) ⟨v,100,G,ns,o,rfl,hLA,fun l1 rs1 H9 s9 n1 hl1 ne1 len1 sh1=>te_cal (ea_cons (ev_var rfl) ea_nil) ⟨v,100,G,ns,o,rfl,?_,fun l2 rs2 H10 s10 n2 hl2 len2 sh2=>⟨l1,l2,_,_,rfl,rfl,s10 _ _ hl1,hl2,by rw[List.length_map,List.length_map,hsz];omega,fun u nu=>hR _ _ ?_⟩⟩⟩)
 ·cases o with
  |none=>exact s9 _ _ hLA
  |some b=>exact⟨hLA.1.same s9,hLA.2⟩
 have s11:Same H8 (upd H10 u (.lst (rs1.map V.str++rs2.map V.str))):=(s9.trans s10).trans ((Same.refl H10).upd nu)
 have hsu:upd H10 u (.lst (rs1.map V.str++rs2.map V.str)) u=some (.lst ((rs1++rs2).map V.str)):=by rw[upd_same,List.map_append]
 revert s11 hsu
 generalize upd H10 u _=H11
 intro s11 hsu
 clear hR R
 have sh12:∀x∈rs1++rs2,Shut o x:=fun x hx=>(List.mem_append.mp hx).elim (sh1 x) (sh2 x)
 have hne12:0<(rs1++rs2).length:=by rw[List.length_append];have:=List.length_pos_iff.mpr ne1;omega
 have hlr11:=s11 _ _ hlr8
 have s011:=s08.trans s11
 clear s9 s10 s11 sh1 sh2 hl1 hl2 n1 n2 nu s08 hlr8 hLA
 revert hsu sh12 hne12
 generalize rs1++rs2=sh
 intro hsu sh12 hne12
 refine nrm (σ':=tS hl cl ml t m lr (k:Nat) bl x8 (some (.int ((rs.length+1:Nat):Int))) (some (.ref v)) (some (.ref u)) none) (by kernel_rfl) ?_
 refine sq_J (fun σ H'=>∃y:Str,σ=tS hl cl ml t m lr (k:Nat) bl x8 (some (.int ((rs.length+1:Nat):Int))) (some (.ref v)) (some (.ref u)) none∧Same H H'∧H' lr=some (.lst ((rs++[y]).map V.str))∧RowOk (cp y)∧takeR (stO o) (cut 32 (cp y))=none) (fun R hR=>?_) ?_
 ·refine rd_if (et_test (ev_eqI (ev_I (ev_I0 (g:=fun i j=> .int (i+j)) (eh s011 rfl rfl) (ev_var rfl)) ev_c (by show(0:Int)<3;decide)) ev_c)) (fun _=>?_) fun _=>?_
  ·refine rd_drop (te_bm (ev_var rfl) (.inl ⟨rfl,_,SqL.of hlr11⟩) (ta_one (te_cal (ea_cons (ev_I (ev_var rfl) ev_c (cdB (by omega) (by omega))) ea_nil) ⟨_,rfl,fun y H12 s12 ry by'=>⟨lr,_,_,rfl,rfl,s12 _ _ hlr11,by rw[List.length_map];omega,?_⟩⟩)))
   exact hR _ _ ⟨y,rfl,same_at (s011.trans s12) nlr,by rw[upd_same,List.map_append];rfl,ry,bad_take (by cases o<;>rfl) by'⟩
  ·obtain⟨y,hy,hat⟩:=at_str (xs:=sh) (i:=m/7%((sh.map V.str).length:Int)) (Int.emod_nonneg _ (by rw[List.length_map];omega)) (by rw[List.length_map];exact Int.emod_lt_of_pos _ (by omega))
   refine rd_drop (te_bm (ev_var rfl) (.inl ⟨rfl,_,SqL.of hlr11⟩) (ta_ev (ev_ixL (v:=.str y) (ev_var rfl) (ev_I (g:=fun i j=> .int (i%j)) (ev_I (ev_var rfl) ev_c (cdB (by omega) (by omega))) (ev_len (K:=K) (ev_var rfl) hsu) (by rw[List.length_map];omega)) (SqL.of hsu) hat) ⟨lr,_,_,rfl,rfl,hlr11,by rw[List.length_map];omega,?_⟩))
   exact hR _ _ ⟨y,rfl,same_at s011 nlr,by rw[upd_same,List.map_append];rfl,(sh12 y hy).1,(sh12 y hy).2⟩
 rintro σ H12 ⟨y,rfl,s12,hlr12,ry,ty⟩
 clear hsu sh12 hlr11 s011
 have pg0:∀zs:List Str,(∀z∈zs,RowOk (cp z))→zs.length≤100→Pg (rs++y::zs) (rs.length+1) 170:=fun zs h1 h2=>⟨fun x hx=>by
  rcases List.mem_append.mp hx with w|w
  ·exact hrok x w
  rcases List.mem_cons.mp w with rfl|w
  ·exact ry
  ·exact h1 x w,by rw[List.length_append,List.length_cons];omega,by rw[List.length_append,List.length_cons];omega,rs.map cp,cp y,zs.map cp,stO o,by rw[List.map_append,List.map_cons],hrun,ty,by rw[List.length_map]⟩
 refine sq_J (fun σ H'=>∃(l:Addr) (ps:List Str),σ=tS hl cl ml t m l (k:Nat) bl x8 (some (.int ((rs.length+1:Nat):Int))) (some (.ref v)) (some (.ref u)) none∧Same H H'∧H' l=some (.lst (ps.map V.str))∧Pg ps (rs.length+1) 170) (fun R hR=>?_) ?_
 ·refine rd_if (et_test (ev_I0 (ev_I (ev_var rfl) ev_c (by first|(show(0:Int)<_;omega)|(show(0:Int)<_;decide))) ev_c)) (fun _=>?_) fun _=>hR _ _ ⟨lr,_,rfl,s12,hlr12,pg0 [] (fun z hz=>nomatch hz) (Nat.zero_le _)⟩
  refine te_op (te_use (ev_var rfl) (te_use (ev_var rfl) ⟨lr,ml,_,_,rfl,rfl,hlr12,s12 _ _ hml,by rw[List.length_map,List.length_map,List.length_append,hsz];show _+1+_≤_;omega,fun p np=>hR _ _ ⟨p,rs++y::ms,rfl,s12.trans ((Same.refl H12).upd np),?_,pg0 ms hms hm100⟩⟩))
  rw[upd_same,←List.map_append,List.append_assoc];rfl
 rintro σ H13 ⟨l,ps,rfl,s13,hl13,pg⟩
 refine sq_J (fun σ H'=>∃(l:Addr) (ps:List Str) (d:Nat) (x12:Option V),σ=tS hl cl ml t m l (k:Nat) bl x8 (some (.int (d:Nat))) (some (.ref v)) (some (.ref u)) x12∧Same H H'∧H' l=some (.lst (ps.map V.str))∧Pg ps d 171) (fun R hR=>?_) ?_
 ·refine rd_if (et_test (ev_eqI (ev_I (ev_I0 (g:=fun i j=> .int (i+j)) (ev_I (eh s13 rfl rfl) ev_c (cdB (by decide) (by decide))) (ev_var rfl)) ev_c (by show(0:Int)<9;decide)) ev_c)) (fun _=>?_) fun _=>hR _ _ ⟨l,ps,_,none,rfl,s13,hl13,pg.ok,Nat.le_succ_of_le pg.ln,pg.p1,pg.fb⟩
  obtain⟨w,hw,rw',tw⟩:=someS (i:=m/7)
  refine sq_asgH fun R hR'=>te_lstS (Rw ["", "answer", "answer shut", " answer open", "answer open ", "answer  open"]) (ea_cons ev_c (ea_cons ev_c (ea_cons ev_c (ea_cons ev_c (ea_cons ev_c (ea_cons ev_c ea_nil)))))) (by kernel_rfl) (by decide) fun p H14 s14 _ hp=>hR' _ _ ?_
  refine nrm (σ':=tS hl cl ml t m l (k:Nat) bl x8 (some (.int ((rs.length+1:Nat):Int))) (some (.ref v)) (some (.ref u)) (some (.ref p))) (by kernel_rfl) ?_
  refine sq_asgH fun R hR'=>te_op (te_lst (vs:=[.str w]) (ea_cons (ev_ixL (v:=.str w) (ev_var rfl) (ev_I (ev_I (ev_var rfl) ev_c (cdB (by omega) (by omega))) ev_c (by first|(show(0:Int)<_;omega)|(show(0:Int)<_;decide))) (SqL.of hp) hw) ea_nil) (by show 1≤sizeLine;decide) fun p1 np1=>?_)
  have s15:Same H14 (upd H14 p1 (.lst [.str w])):=(Same.refl H14).upd np1
  have hp1:upd H14 p1 (.lst [.str w]) p1=some (.lst [.str w]):=upd_same
  revert s15 hp1
  generalize upd H14 p1 _=H15
  intro s15 hp1
  have pl:=pg.ln
  refine te_use (ev_var rfl) ⟨p1,l,_,_,rfl,rfl,hp1,s15 _ _ (s14 _ _ hl13),by rw[List.length_map,hsz];show 1+_≤_;omega,fun p2 np2=>hR' _ _ ?_⟩
  refine ev_c _ (hR _ _ ⟨p2,w::ps,1,some (.ref p),by kernel_rfl,(s13.trans (s14.trans s15)).trans ((Same.refl H15).upd np2),by rw[upd_same];rfl,pg.bad1 (fun _ h=>h) pg.ln rw' tw⟩)
 clear hl13 pg s13
 rintro σ H14 ⟨l,ps,d,x12,rfl,s14,hl14,pg⟩
 refine sq_J (fun σ H'=>∃(l:Addr) (ps:List Str) (d:Nat),σ=tS hl cl ml t m l (k:Nat) bl x8 (some (.int (d:Nat))) (some (.ref v)) (some (.ref u)) x12∧Same H H'∧H' l=some (.lst (ps.map V.str))∧Pg ps d 172) (fun R hR=>?_) ?_
 ·refine rd_if (et_test (ev_eqI (ev_I (ev_I0 (g:=fun i j=> .int (i+j)) (ev_I (eh s14 rfl rfl) ev_c (cdB (by decide) (by decide))) (ev_var rfl)) ev_c (by show(0:Int)<9;decide)) ev_c)) (fun _=>?_) fun _=>hR _ _ ⟨l,ps,_,rfl,s14,hl14,pg.ok,Nat.le_succ_of_le pg.ln,pg.p1,pg.fb⟩
  have pl:=pg.ln
  refine sq_asgH fun R hR'=>te_op (te_lst (vs:=[.str (Str.ofString "laid a")]) (ea_cons ev_c ea_nil) (by show 1≤sizeLine;decide) fun p1 np1=>?_)
  have s15:Same H14 (upd H14 p1 (.lst [.str (Str.ofString "laid a")])):=(Same.refl H14).upd np1
  have hp1:upd H14 p1 (.lst [.str (Str.ofString "laid a")]) p1=some (.lst [.str (Str.ofString "laid a")]):=upd_same
  revert s15 hp1
  generalize upd H14 p1 _=H15
  intro s15 hp1
  refine te_slF (ev_var rfl) ev_c (SqL.of (s15 _ _ hl14)) fun p3 np3=>?_
  rw[cut_one _ (by rw[List.length_map];exact pg.p1),←List.map_drop]
  have s16:Same H15 (upd H15 p3 (.lst ((ps.drop 1).map V.str))):=(Same.refl H15).upd np3
  have hp3:upd H15 p3 (.lst ((ps.drop 1).map V.str)) p3=some (.lst ((ps.drop 1).map V.str)):=upd_same
  revert s16 hp3
  generalize upd H15 p3 _=H16
  intro s16 hp3
  have dl:(ps.drop 1).length≤171:=by rw[List.length_drop];omega
  refine⟨p1,p3,_,_,rfl,rfl,s16 _ _ hp1,hp3,by rw[List.length_map,hsz];show 1+_≤_;omega,fun p2 np2=>hR' _ _ ?_⟩
  refine ev_c _ (hR _ _ ⟨p2,Str.ofString "laid a" ::ps.drop 1,1,by kernel_rfl,(s14.trans (s15.trans s16)).trans ((Same.refl H16).upd np2),by rw[upd_same];rfl,pg.bad1 (fun _ h=>List.mem_of_mem_drop h) dl laid_a.1 laid_a.2⟩)
 clear hl14 pg s14
 rintro σ H15 ⟨l,ps,d,rfl,s15,hl15,pg⟩
 have pl:=pg.ln
 have jo:JoinOk (Str.ofString "\n") ps=true:=join_okL (fun x hx=>by have:=(pg.ok x hx).2;rw[cp_len] at this;omega) (by decide) (by omega)
 refine rd_tup (vs:=[.str (Txt.join (Str.ofString "\n") ps),.int (d:Nat)]) (ea_cons (fun _ q'=>te_bm ev_c rfl (ta_ev (ev_var rfl) ⟨_,l,ps,rfl,rfl,SqL.of hl15,jo,q'⟩)) (ea_cons (ev_var rfl) ea_nil)) (by show 2≤sizeLine;decide) fun p np=>?_
 exact q p _ d _ (s15.trans ((Same.refl H15).upd np)) (pg.first (by decide) (by rw[nl,cp_glued])) upd_same
theorem te_slB {K:PySem.W.Frag}{ta tb tc:TE}{σ:St}{H:Hp}{l:Addr}{xs:List V}{i j:Int}{Q:VK}(ha:Ev ta σ H (.ref l))(hb:Ev tb σ H (.int i))(hc:Ev tc σ H (.int j))(hs:SqL K H l xs)(q:∀p,H p=none→Q (.ref p) (upd H p (.lst (cutV xs (some i) (some j))))):tSl (rSlL K) ta (tPart tb) (tPart tc) σ H Q:=ha _ (hb _ ⟨i,rfl,hc _ ⟨j,rfl,l,xs,rfl,hs,q⟩⟩)
theorem cut_ints (ns:List Int)(lo hi:Option Int):∃cs:List Int,cutV (ns.map V.int) lo hi=cs.map V.int∧cs.length≤ns.length:=⟨(ns.drop _).take _,by unfold cutV;rw[List.map_take,List.map_drop],by rw[List.length_take,List.length_drop];omega⟩
theorem ok_law {cDraft cReading cWireError cBadRow cBadAnswer cPt cNk:Addr}{f:Addr}{fd:FuncData}(F:Fun K "law" "law" slaw f fd)(T:Txt w K mg cDraft cReading cWireError cBadRow cBadAnswer cPt cNk)(gCell:Callee P w K mg base "_law_cell_at" 1 ["script", "k"] (spCell K))(gNames:Callee P w K mg base "_law_names" 1 ["cell"] spNames)(gHead:Callee P w K mg base "_law_head" 1 ["block"] spHead)(gBlocks:Callee P w K mg base "_law_blocks" 4 ["cells", "names"] (spBlocks K))(gAsked:Callee P w K mg base "_law_asked" 8 ["page"] spAsked)(gNowhere:Callee P w K mg base "_law_nowhere" 1 ["cell"] spNowhere)(gTurn:Callee P w K mg base "_law_turn" 5 ["head", "cells", "more", "turn"] (spTurn K)):FnOk P w K mg base CX0 9 f fd ["script"] (spLaw K):=by
 have sc:FnScope ["script", "head", "more", "block", "turn", "page", "due", "heard"] ["script"] (defScope slaw):=⟨rfl,rfl,rfl,by decide+kernel,rfl,by decide+kernel,by decide+kernel⟩
 refine F.ok sc (fun vs H Q E h=>by repeat (first|(obtain⟨rfl,_⟩:=h;rfl)|(obtain⟨_,h⟩:=h))) (fun cdv A outer s H vs Q E hr h=>?_)
 obtain⟨a,ns,rfl,ha,hle,q⟩:=h
 refine⟨_,(pss_cons (ps_lcset (i:=1) (ls:=["k"]) (ys:=["script"]) (ix:=[0]) rfl sc.nd rfl (Or.inl rfl) ⟨rfl,by rfl,by rfl,by rfl,by rfl,rfl⟩ (pi_range1 (by rfl) T.range_ (pa_cons pe_int pa_nil)) (fun _ _ _ _ _=>(pg_name (i:=0) (show(["k", "script"]:List Str).Nodup by decide+kernel) rfl (Or.inl rfl))) (fun _ _ _ _ _=>pf_nil) (fun _ _ _ _ _=>(pe_cal (by exact gCell) (by exact(hr.mono (by decide))) (by rfl) (pa_cons (pv 1) (pa_cons (pv 0) pa_nil)))))
 (pss_cons (ps_set (i:=2) sc.nd rfl (Or.inl rfl) (pe_lst pa_nil))
 (pss_cons (ps_for PassesOwn.never rfl (pi_list (pe_cal gBlocks (hr.mono (by decide)) (by rfl) (pa_cons (pe_slice sl_list (pv 0) (po_some pe_int) (po_some pe_int)) (pa_cons (pe_cal gNames (hr.mono (by decide)) (by rfl) (pa_cons (pe_op op_fdivB (pe_ix ix_list (pv 1) pe_int (fun _ _=>rfl)) pe_int) pa_nil)) pa_nil)))) (pg_name (i:=3) sc.nd rfl (Or.inl rfl))
 (pss_one (ps_set (i:=2) sc.nd rfl (Or.inl rfl) (pe_op op_cat (pe_op op_cat (pv 2) (pe_lst (pa_cons (pe_cal gHead (hr.mono (by decide)) (by rfl) (pa_cons (pv 3) pa_nil)) pa_nil))) (pe_ix ix_list (pv 3) pe_int (fun _ _=>rfl))))))
 (pss_cons (ps_expr (pe_bm PySem.F.plainAttrs_list PySem.F.slot_list_append PySem.F.type_list_append mt_append (pv 2) (pa_cons (pe_cal gNowhere (hr.mono (by decide)) (by rfl) (pa_cons (pe_ix ix_list (pv 1) pe_int (fun _ _=>rfl)) pa_nil)) pa_nil)))
 (pss_cons (ps_for PassesOwn.never rfl (pi_range1 (by rfl) T.range_ (pa_cons pe_int pa_nil)) (pg_name (i:=4) sc.nd rfl (Or.inl rfl))
 (pss_cons (ps_asg (pe_cal gTurn (hr.mono (by decide)) (by rfl) (pa_cons (pv 1) (pa_cons (pe_slice sl_list (pv 0) (po_some pe_int) (po_some pe_int)) (pa_cons (pv 2) (pa_cons (pv 4) pa_nil))))) (pg_tup rfl (pgs_cons (pg_name (i:=5) sc.nd rfl (Or.inl rfl)) (pgs_cons (pg_name (i:=6) sc.nd rfl (Or.inl rfl)) pgs_nil))))
 (pss_cons (ps_set (i:=7) sc.nd rfl (Or.inl rfl) (pe_cal gAsked (hr.mono (by decide)) (by rfl) (pa_cons (pv 5) pa_nil)))
 (pss_cons (ps_if (pw_or (pt_not (pt_val (pe_callB call_isinst (by rfl) T.isinstance_ bt_isinstance (pa_cons (pe_ix ix_tup (pv 7) pe_int (fun _ _=>rfl)) (pa_cons (pe_bltn (v:=.ty "int") (by rfl) T.int_ bt_int (by rfl)) pa_nil))))) (pw_or (pt_val (pe_callB call_isinst (by rfl) T.isinstance_ bt_isinstance (pa_cons (pe_ix ix_tup (pv 7) pe_int (fun _ _=>rfl)) (pa_cons (pe_bltn (v:=.ty "bool") (by rfl) T.bool_ bt_bool (by rfl)) pa_nil)))) (pw_or1 (pt_cmpR op_ne (pe_ix ix_tup (pv 7) pe_int (fun _ _=>rfl)) (pv 6) (nomark _))))).pt
 (pss_one (ps_ret pe_bl))
 pss_nil)
 (pss_one (ps_if (pt_cmpR (op_neD hr) (pe_ix ix_tup (pv 7) pe_int (fun _ _=>rfl)) (pe_lst (pa_cons pe_bl (pa_cons pe_bl (pa_cons pe_bl pa_nil)))) (nomark _))
 (pss_one (ps_ret pe_bl))
 pss_nil))))))
 (pss_one (ps_ret pe_bl))))))),?_⟩
 have hsz:sizeLine=2^24:=rfl
 refine sq_lcT (te_use ev_c ⟨6,rfl,by decide,by decide,fun D nD=>?_⟩)
 refine lc_range (n:=6) (fun i τ H'=>∃(x0:Option V) (vs:List Int),τ=[x0,some (.ref a)]∧Same H H'∧H' D=some (.lst (vs.map V.int))∧vs.length=i) ⟨none,[],rfl,(Same.refl H).upd nD,upd_same,rfl⟩ ?_ ?_
 ·rintro i τ H' hi ⟨x0,vs,rfl,s,hD,hl⟩
  refine gn (lc_el ?_)
  refine te_cal (ea_cons (ev_var rfl) (ea_cons (ev_var rfl) ea_nil)) ⟨a,ns,_,rfl,sql_same ha s,by omega,fun v=>⟨_,hD,by rw[List.length_map];omega,_,vs++[v],rfl,same_at s nD,by rw[upd_same,List.map_append];rfl,by rw[List.length_append,hl];rfl⟩⟩
 rintro τ H1 ⟨x0,hs,rfl,s1,hD,h6⟩
 have h6:hs.length=6:=h6
 refine nrm (σ':=[some (.ref a),some (.ref D),none,none,none,none,none,none]) (by kernel_rfl) ?_
 obtain⟨h0,h1,h2,h3,h4,h5,rfl⟩:=bl6 h6
 refine sq_asgH fun R hR=>te_lstS [] ea_nil rfl (Nat.zero_le _) fun ml H2 s2 nml hml=>hR _ _ ?_
 refine nrm (σ':=[some (.ref a),some (.ref D),some (.ref ml),none,none,none,none,none]) (by kernel_rfl) ?_
 clear hR R
 have s02:=s1.trans s2
 have nml:=new_of s1 nml
 obtain⟨cs,ecs,hcs⟩:=cut_ints ns (some 3) (some 20)
 refine sq_hide fun R hR=>rd_forT (te_callA (ta_one (te_slB (ev_var rfl) ev_c ev_c (sql_same ha s02) fun p np=>?_)))
 rw[ecs]
 have s3:Same H2 (upd H2 p (.lst (cs.map V.int))):=(Same.refl H2).upd np
 have hp3:upd H2 p (.lst (cs.map V.int)) p=some (.lst (cs.map V.int)):=upd_same
 revert s3 hp3
 generalize upd H2 p _=H3
 intro s3 hp3
 refine ta_one (te_cal (ea_cons (ev_I (ev_ixL (v:=.int h1) (ev_var rfl) ev_c (SqL.of (s3 _ _ (s2 _ _ hD))) rfl) ev_c (cdB (by decide) (by decide))) ea_nil) ⟨_,rfl,fun nla nms H4 s4 nnl hN hnl=>?_⟩)
 refine⟨p,nla,cs,nms,rfl,SqL.of (s4 _ _ hp3),by omega,hN,hnl,fun bl F as bs H5 s5 nbl hbl hB hBs hF nF=>⟨bl,rfl,⟨_,SqL.of hbl⟩,?_⟩⟩
 have s25:Same H2 H5:=s3.trans (s4.trans s5)
 have s05:=s02.trans s25
 have hbn:(rowsA bs).length≤63:=by rw[hBs.ln];omega
 refine for_list (K:=K) (xs:=as.map V.ref) (fun i σ H'=>∃(x3:Option V) (ml:Addr) (rs:List Str),σ=[some (.ref a),some (.ref D),some (.ref ml),x3,none,none,none,none]∧Same H5 H'∧H ml=none∧H' ml=some (.lst (rs.map V.str))∧ml≠D∧rs.map cp=[]++rowsA (bs.take i)) ⟨none,ml,[],rfl,Same.refl H5,nml,s25 _ _ hml,(fun z=>by rw[z,s2 _ _ hD] at hml;cases hml),rfl⟩ (fun i σ H' _ ⟨_,_,_,_,s,_⟩=>SqL.of (s _ _ hbl)) ?_ ?_
 ·rintro i x σ H6 hx ⟨x3,ml,rs,rfl,s6,nml,hml,hmD,hrs⟩
  obtain⟨b',ha',rfl⟩:=map_at hx
  obtain⟨b,G,hb,hbk,_⟩:=hB.at_ ha'
  have rl:rs.length≤65:=by rw[←List.length_map (f:=cp),hrs,List.length_append];have:=rowsA_take (bs:=bs) (i:=i);show 0+_≤_;omega
  refine gn ?_
  refine nrm (σ':=[some (.ref a),some (.ref D),some (.ref ml),some (.ref b'),none,none,none,none]) (by kernel_rfl) ?_
  refine te_rows (K:=K) (i:=2) (j:=3) rfl rfl hml (hbk.same s6) (hBs.hd b (List.mem_of_getElem? hb)) (by omega) fun u H7 y s7 nu ey hu=>?_
  exact⟨_,u,_,rfl,s6.trans s7,new_of (s05.trans s6) nu,hu,(fun z=>by rw[z,s6 _ _ (s25 _ _ (s2 _ _ hD))] at nu;cases nu),rows_snoc hrs hb ey⟩
 rintro σ H6 ⟨x3,ml,rs,rfl,s6,nml,hml,hmD,hrs⟩
 rw[List.length_map,hB.len,List.take_length] at hrs
 refine hR _ _ ?_
 clear hR R
 have rl:rs.length≤65:=by rw[←List.length_map (f:=cp),hrs,List.length_append];show 0+_≤_;omega
 have hrok:∀x∈rs,RowOk (cp x):=fun x hx=>by
  have:=List.mem_map_of_mem (f:=cp) hx
  rw[hrs] at this
  exact hBs.ok _ this
 have s06:=s05.trans s6
 have hD6:=s6 _ _ (s25 _ _ (s2 _ _ hD))
 clear hB hBs hbl hF s5 s4 s3 hp3 hnl s25 s05 s6 s02 s2 s1 hD
 refine sq_drop (te_bm (ev_var rfl) (.inl ⟨rfl,_,SqL.of hml⟩) (ta_one (te_cal (ea_cons (ev_ixL (v:=.int h5) (ev_var rfl) ev_c (SqL.of hD6) rfl) ea_nil) ⟨_,rfl,fun y H7 s7 ry _=>⟨ml,_,_,rfl,rfl,s7 _ _ hml,by rw[List.length_map];omega,?_⟩⟩)))
 have s8:Same H (upd H7 ml (.lst (rs.map V.str++[.str y]))):=same_at (s06.trans s7) nml
 have hm8:upd H7 ml (.lst (rs.map V.str++[.str y])) ml=some (.lst ((rs++[y]).map V.str)):=by rw[upd_same,List.map_append];rfl
 have hD8:upd H7 ml (.lst (rs.map V.str++[.str y])) D=some (.lst (([h0,h1,h2,h3,h4,h5]:List Int).map V.int)):=by rw[upd_ne hmD.symm];exact s7 _ _ hD6
 revert s8 hm8 hD8
 generalize upd H7 ml _=H8
 intro s8 hm8 hD8
 have hms:∀x∈rs++[y],RowOk (cp x):=fun x hx=>by
  rcases List.mem_append.mp hx with z|z
  ·exact hrok x z
  ·rw[List.mem_singleton.mp z];exact ry
 have hml100:(rs++[y]).length≤100:=by rw[List.length_append];show _+1≤_;omega
 revert hm8 hms hml100
 generalize rs++[y]=ms
 intro hm8 hms hml100
 clear hrs hrok s06 hD6 hml s7
 obtain⟨c2,ec2,hc2⟩:=cut_ints ns (some 2) (some 202)
 try dsimp only
 refine sq_rng1 (j:=3) (ea_cons ev_c ea_nil) (by decide) (by decide) ?_
 refine for_range (n:=3) (fun i σ H'=>∃(x4 x5 x6 x7:Option V),σ=[some (.ref a),some (.ref D),some (.ref ml),x3,x4,x5,x6,x7]∧Same H8 H') ⟨none,none,none,none,rfl,Same.refl H8⟩ ?_ ?_
 ·rintro i σ H9 hi ⟨x4,x5,x6,x7,rfl,s9⟩
  have hi:i<3:=hi
  refine gn ?_
  refine nrm (σ':=[some (.ref a),some (.ref D),some (.ref ml),x3,some (.int (0+(i:Int))),x5,x6,x7]) (by kernel_rfl) ?_
  refine sq_hide fun R hR=>te_callA (ta_ev (ev_var rfl) (ta_one (te_slB (ev_var rfl) ev_c ev_c (sql_same ha (s8.trans s9)) fun p np=>?_)))
  rw[ec2]
  have sa:Same H9 (upd H9 p (.lst (c2.map V.int))):=(Same.refl H9).upd np
  have hpa:upd H9 p (.lst (c2.map V.int)) p=some (.lst (c2.map V.int)):=upd_same
  revert sa hpa
  generalize upd H9 p _=H10
  intro sa hpa
  have s810:=s9.trans sa
  refine ta_ev (ev_var rfl) (ta_ev (ev_var rfl) ⟨D,p,ml,_,_,c2,ms,rfl,s810 _ _ hD8,rfl,SqL.of hpa,by omega,s810 _ _ hm8,hms,hml100,by omega,by omega,fun pp x k H11 s11 fb hpp=>⟨pp,_,rfl,SqT.of hpp,rfl,_,_,rfl,_,_,rfl,rfl,hR _ _ ?_⟩⟩)
  clear hR R
  refine nrm (σ':=[some (.ref a),some (.ref D),some (.ref ml),x3,some (.int (0+(i:Int))),some (.str x),some (.int (k:Nat)),x7]) (by kernel_rfl) ?_
  refine sq_asg (te_cal (ea_cons (ev_var rfl) ea_nil) ⟨x,k,rfl,fb,fun t l H12 s12 ht hl=>?_⟩)
  refine nrm (σ':=[some (.ref a),some (.ref D),some (.ref ml),x3,some (.int (0+(i:Int))),some (.str x),some (.int (k:Nat)),some (.ref t)]) (by kernel_rfl) ?_
  have e0:Ev (tOp (rIxT K) (tVar 7) (tC (.int 0))) [some (.ref a),some (.ref D),some (.ref ml),x3,some (.int (0+(i:Int))),some (.str x),some (.int (k:Nat)),some (.ref t)] H12 (.int (k:Nat)):=ev_ixT (ev_var rfl) ev_c (SqT.of ht) rfl
  refine sq_ifF (b:=false) (et_of (et_or (a:=false) (b:=false) (et_not (b:=true) (et_B (ev_cb (v:=.bl true) (ea_cons e0 (ea_cons ev_c ea_nil)) fun Q' q'=>⟨_,_,_,_,_,rfl,.ty "int",.int _,T.ii,q'⟩))) fun _=>et_or (a:=false) (b:=false) (et_B (ev_cb (v:=.bl false) (ea_cons e0 (ea_cons ev_c ea_nil)) fun Q' q'=>⟨_,_,_,_,_,rfl,.ty "bool",.int _,T.ib,q'⟩)) fun _=>et_of (et_test (ev_neI e0 (ev_var rfl))) (by simp)) rfl) rfl ?_
  refine rd_ifof (et_raw (te_op (te_use (ev_ixT (v:=.ref l) (ev_var rfl) ev_c (SqT.of ht) rfl) (te_lst (vs:=[.bl true,.bl true,.bl false]) (ea_cons ev_c (ea_cons ev_c (ea_cons ev_c ea_nil))) (by show 3≤sizeLine;decide) fun p2 np2=>?_))))
  have sb:Same H12 (upd H12 p2 (.lst [.bl true,.bl true,.bl false])):=(Same.refl H12).upd np2
  have hp2:upd H12 p2 (.lst [.bl true,.bl true,.bl false]) p2=some (.lst [.bl true,.bl true,.bl false]):=upd_same
  revert sb hp2
  generalize upd H12 p2 _=H13
  intro sb hp2
  have d1:Dp K H13 (.ref l) (.list [.bool true,.bool true,.bool false]):=.lst (SqL.of (sb _ _ hl)) (.cons (.bl _) (.cons (.bl _) (.cons (.bl _) .nil)))
  refine⟨_,_,d1,.lst (SqL.of hp2) (.cons (.bl _) (.cons (.bl _) (.cons (.bl _) .nil))),by decide,?_⟩
  rw[eqv_same d1]
  exact⟨false,rfl,iteF ⟨_,_,_,_,rfl,s810.trans (s11.trans (s12.trans sb))⟩⟩
 ·rintro σ H9 ⟨x4,x5,x6,x7,rfl,s9⟩
  refine st ?_
  exact rd_ret ev_c (q H9)
end
set_option maxHeartbeats 2000000 in
theorem all_mk {l:PySem.W.OpenLaw}{w:World}{K:PySem.W.Frag}{h:Heap}{mg:Str→Option Value}{fa:Addr}(X:K.In h)(G:h.Ns mainGlobals mg)(hfa:mg "law" =some (.ref fa))
  {cDraft:Addr}
  {cReading:Addr}
  {cWireError:Addr}
  {cBadRow:Addr}
  {cBadAnswer:Addr}
  {cPt:Addr}
  {cNk:Addr}
  {f0:Addr} {od0 an0:Option Addr} {sl0:Array (Option Value)} {oc0 kV0 dc0 pm0 cd0 ct0:Value}
  {f1:Addr} {od1 an1:Option Addr} {sl1:Array (Option Value)} {oc1 kV1 dc1 pm1 cd1 ct1:Value}
  {f2:Addr} {od2 an2:Option Addr} {sl2:Array (Option Value)} {oc2 kV2 dc2 pm2 cd2 ct2:Value}
  {f3:Addr} {od3 an3:Option Addr} {sl3:Array (Option Value)} {oc3 kV3 dc3 pm3 cd3 ct3:Value}
  {f4:Addr} {od4 an4:Option Addr} {sl4:Array (Option Value)} {oc4 kV4 dc4 pm4 cd4 ct4:Value}
  {f5:Addr} {od5 an5:Option Addr} {sl5:Array (Option Value)} {oc5 kV5 dc5 pm5 cd5 ct5:Value}
  {f6:Addr} {od6 an6:Option Addr} {sl6:Array (Option Value)} {oc6 kV6 dc6 pm6 cd6 ct6:Value}
  {f7:Addr} {od7 an7:Option Addr} {sl7:Array (Option Value)} {oc7 kV7 dc7 pm7 cd7 ct7:Value}
  {f8:Addr} {od8 an8:Option Addr} {sl8:Array (Option Value)} {oc8 kV8 dc8 pm8 cd8 ct8:Value}
  {f9:Addr} {od9 an9:Option Addr} {sl9:Array (Option Value)} {oc9 kV9 dc9 pm9 cd9 ct9:Value}
  {f10:Addr} {od10 an10:Option Addr} {sl10:Array (Option Value)} {oc10 kV10 dc10 pm10 cd10 ct10:Value}
  {f11:Addr} {od11 an11:Option Addr} {sl11:Array (Option Value)} {oc11 kV11 dc11 pm11 cd11 ct11:Value}
  {f12:Addr} {od12 an12:Option Addr} {sl12:Array (Option Value)} {oc12 kV12 dc12 pm12 cd12 ct12:Value}
  {f13:Addr} {od13 an13:Option Addr} {sl13:Array (Option Value)} {oc13 kV13 dc13 pm13 cd13 ct13:Value}
  {f14:Addr} {od14 an14:Option Addr} {sl14:Array (Option Value)} {oc14 kV14 dc14 pm14 cd14 ct14:Value}
  {f15:Addr} {od15 an15:Option Addr} {sl15:Array (Option Value)} {oc15 kV15 dc15 pm15 cd15 ct15:Value}
  {f16:Addr} {od16 an16:Option Addr} {sl16:Array (Option Value)} {oc16 kV16 dc16 pm16 cd16 ct16:Value}
  {f17:Addr} {od17 an17:Option Addr} {sl17:Array (Option Value)} {oc17 kV17 dc17 pm17 cd17 ct17:Value}
  {f18:Addr} {od18 an18:Option Addr} {sl18:Array (Option Value)} {oc18 kV18 dc18 pm18 cd18 ct18:Value}
  {f19:Addr} {od19 an19:Option Addr} {sl19:Array (Option Value)} {oc19 kV19 dc19 pm19 cd19 ct19:Value}
  {f20:Addr} {od20 an20:Option Addr} {sl20:Array (Option Value)} {oc20 kV20 dc20 pm20 cd20 ct20:Value}
  {f21:Addr} {od21 an21:Option Addr} {sl21:Array (Option Value)} {oc21 kV21 dc21 pm21 cd21 ct21:Value}
  {f22:Addr} {od22 an22:Option Addr} {sl22:Array (Option Value)} {oc22 kV22 dc22 pm22 cd22 ct22:Value}
  {f23:Addr} {od23 an23:Option Addr} {sl23:Array (Option Value)} {oc23 kV23 dc23 pm23 cd23 ct23:Value}
  {f24:Addr} {od24 an24:Option Addr} {sl24:Array (Option Value)} {oc24 kV24 dc24 pm24 cd24 ct24:Value}
  {f25:Addr} {od25 an25:Option Addr} {sl25:Array (Option Value)} {oc25 kV25 dc25 pm25 cd25 ct25:Value}
  {f26:Addr} {od26 an26:Option Addr} {sl26:Array (Option Value)} {oc26 kV26 dc26 pm26 cd26 ct26:Value}
  {f27:Addr} {od27 an27:Option Addr} {sl27:Array (Option Value)} {oc27 kV27 dc27 pm27 cd27 ct27:Value}
  {f28:Addr} {od28 an28:Option Addr} {sl28:Array (Option Value)} {oc28 kV28 dc28 pm28 cd28 ct28:Value}
  {f29:Addr} {od29 an29:Option Addr} {sl29:Array (Option Value)} {oc29 kV29 dc29 pm29 cd29 ct29:Value}
  {f30:Addr} {od30 an30:Option Addr} {sl30:Array (Option Value)} {oc30 kV30 dc30 pm30 cd30 ct30:Value}
  {f31:Addr} {od31 an31:Option Addr} {sl31:Array (Option Value)} {oc31 kV31 dc31 pm31 cd31 ct31:Value}
  {f32:Addr} {od32 an32:Option Addr} {sl32:Array (Option Value)} {oc32 kV32 dc32 pm32 cd32 ct32:Value}
  {f33:Addr} {od33 an33:Option Addr} {sl33:Array (Option Value)} {oc33 kV33 dc33 pm33 cd33 ct33:Value}
  {f34:Addr} {od34 an34:Option Addr} {sl34:Array (Option Value)} {oc34 kV34 dc34 pm34 cd34 ct34:Value}
  {f35:Addr} {od35 an35:Option Addr} {sl35:Array (Option Value)} {oc35 kV35 dc35 pm35 cd35 ct35:Value}
  {f36:Addr} {od36 an36:Option Addr} {sl36:Array (Option Value)} {oc36 kV36 dc36 pm36 cd36 ct36:Value}
  {f37:Addr} {od37 an37:Option Addr} {sl37:Array (Option Value)} {oc37 kV37 dc37 pm37 cd37 ct37:Value}
  {f38:Addr} {od38 an38:Option Addr} {sl38:Array (Option Value)} {oc38 kV38 dc38 pm38 cd38 ct38:Value}
  {f39:Addr} {od39 an39:Option Addr} {sl39:Array (Option Value)} {oc39 kV39 dc39 pm39 cd39 ct39:Value}
  {f40:Addr} {od40 an40:Option Addr} {sl40:Array (Option Value)} {oc40 kV40 dc40 pm40 cd40 ct40:Value}
  {f41:Addr} {od41 an41:Option Addr} {sl41:Array (Option Value)} {oc41 kV41 dc41 pm41 cd41 ct41:Value}
  {tLETTERS:Tok}
  {tFIGURES:Tok}
  {tMOST_SIGNS:Tok}
  {tMOST_FIGURES:Tok}
  {slPt:Array (Option Value)} {dnPt:Nat} {tPt0:Tok} {tPt1:Tok} {tPt2:Tok}
  {dnNk:Nat} {hNk0:Int} {tNk0 uNk0:Tok} {hNk1:Int} {tNk1 uNk1:Tok} {hNk2:Int} {tNk2 uNk2:Tok} {hNk3:Int} {tNk3 uNk3:Tok}
  (n_BadAnswer:PySem.W.nsIn K mainGlobals "BadAnswer" =some (some (.ref cBadAnswer)))
  (n_Draft:PySem.W.nsIn K mainGlobals "Draft" =some (some (.ref cDraft)))
  (n_Reading:PySem.W.nsIn K mainGlobals "Reading" =some (some (.ref cReading)))
  (a0:PySem.W.nsIn K mainGlobals "is_name" =some (some (.ref f0)))
  (l0:K.lookup f0=some ⟨oc0,od0,.func (PySem.W.fnOf "is_name" "is_name" (defArgs sName) (defBody sName) (defScope sName) .none kV0 dc0 pm0 an0 cd0 ct0),sl0⟩)
  (c0:PySem.W.codeIn K cd0 "is_name" =true)
  (k0:PySem.W.keepIn K (.ref f0)=true)
  (a1:PySem.W.nsIn K mainGlobals "number_in" =some (some (.ref f1)))
  (l1:K.lookup f1=some ⟨oc1,od1,.func (PySem.W.fnOf "number_in" "number_in" (defArgs sNumIn) (defBody sNumIn) (defScope sNumIn) .none kV1 dc1 pm1 an1 cd1 ct1),sl1⟩)
  (c1:PySem.W.codeIn K cd1 "number_in" =true)
  (k1:PySem.W.keepIn K (.ref f1)=true)
  (a2:PySem.W.nsIn K mainGlobals "spot_in" =some (some (.ref f2)))
  (l2:K.lookup f2=some ⟨oc2,od2,.func (PySem.W.fnOf "spot_in" "spot_in" (defArgs sSpotIn) (defBody sSpotIn) (defScope sSpotIn) .none kV2 dc2 pm2 an2 cd2 ct2),sl2⟩)
  (c2:PySem.W.codeIn K cd2 "spot_in" =true)
  (k2:PySem.W.keepIn K (.ref f2)=true)
  (a3:PySem.W.nsIn K mainGlobals "whole_in" =some (some (.ref f3)))
  (l3:K.lookup f3=some ⟨oc3,od3,.func (PySem.W.fnOf "whole_in" "whole_in" (defArgs sWholeIn) (defBody sWholeIn) (defScope sWholeIn) .none kV3 dc3 pm3 an3 cd3 ct3),sl3⟩)
  (c3:PySem.W.codeIn K cd3 "whole_in" =true)
  (k3:PySem.W.keepIn K (.ref f3)=true)
  (a4:PySem.W.nsIn K mainGlobals "wholes_told" =some (some (.ref f4)))
  (l4:K.lookup f4=some ⟨oc4,od4,.func (PySem.W.fnOf "wholes_told" "wholes_told" (defArgs sWholes) (defBody sWholes) (defScope sWholes) .none kV4 dc4 pm4 an4 cd4 ct4),sl4⟩)
  (c4:PySem.W.codeIn K cd4 "wholes_told" =true)
  (k4:PySem.W.keepIn K (.ref f4)=true)
  (a5:PySem.W.nsIn K mainGlobals "spots_told" =some (some (.ref f5)))
  (l5:K.lookup f5=some ⟨oc5,od5,.func (PySem.W.fnOf "spots_told" "spots_told" (defArgs sSpotsT) (defBody sSpotsT) (defScope sSpotsT) .none kV5 dc5 pm5 an5 cd5 ct5),sl5⟩)
  (c5:PySem.W.codeIn K cd5 "spots_told" =true)
  (k5:PySem.W.keepIn K (.ref f5)=true)
  (a6:PySem.W.findIn K (.ref cDraft) "__init__" =some (some (.ref f6)))
  (i6:PySem.W.isFn K (.ref f6)=true)
  (l6:K.lookup f6=some ⟨oc6,od6,.func (PySem.W.fnOf "__init__" "Draft.__init__" (defArgs sDInit) (defBody sDInit) (defScope sDInit) .none kV6 dc6 pm6 an6 cd6 ct6),sl6⟩)
  (c6:PySem.W.codeIn K cd6 "Draft.__init__" =true)
  (k6:PySem.W.keepIn K (.ref f6)=true)
  (a7:PySem.W.findIn K (.ref cDraft) "take_step" =some (some (.ref f7)))
  (i7:PySem.W.isFn K (.ref f7)=true)
  (l7:K.lookup f7=some ⟨oc7,od7,.func (PySem.W.fnOf "take_step" "Draft.take_step" (defArgs sTStep) (defBody sTStep) (defScope sTStep) .none kV7 dc7 pm7 an7 cd7 ct7),sl7⟩)
  (c7:PySem.W.codeIn K cd7 "Draft.take_step" =true)
  (k7:PySem.W.keepIn K (.ref f7)=true)
  (a8:PySem.W.findIn K (.ref cDraft) "take_hill" =some (some (.ref f8)))
  (i8:PySem.W.isFn K (.ref f8)=true)
  (l8:K.lookup f8=some ⟨oc8,od8,.func (PySem.W.fnOf "take_hill" "Draft.take_hill" (defArgs sTHill) (defBody sTHill) (defScope sTHill) .none kV8 dc8 pm8 an8 cd8 ct8),sl8⟩)
  (c8:PySem.W.codeIn K cd8 "Draft.take_hill" =true)
  (k8:PySem.W.keepIn K (.ref f8)=true)
  (a9:PySem.W.findIn K (.ref cDraft) "take_hill_height" =some (some (.ref f9)))
  (i9:PySem.W.isFn K (.ref f9)=true)
  (l9:K.lookup f9=some ⟨oc9,od9,.func (PySem.W.fnOf "take_hill_height" "Draft.take_hill_height" (defArgs sTHH) (defBody sTHH) (defScope sTHH) .none kV9 dc9 pm9 an9 cd9 ct9),sl9⟩)
  (c9:PySem.W.codeIn K cd9 "Draft.take_hill_height" =true)
  (k9:PySem.W.keepIn K (.ref f9)=true)
  (a10:PySem.W.findIn K (.ref cDraft) "take_pair" =some (some (.ref f10)))
  (i10:PySem.W.isFn K (.ref f10)=true)
  (l10:K.lookup f10=some ⟨oc10,od10,.func (PySem.W.fnOf "take_pair" "Draft.take_pair" (defArgs sTPair) (defBody sTPair) (defScope sTPair) .none kV10 dc10 pm10 an10 cd10 ct10),sl10⟩)
  (c10:PySem.W.codeIn K cd10 "Draft.take_pair" =true)
  (k10:PySem.W.keepIn K (.ref f10)=true)
  (a11:PySem.W.findIn K (.ref cDraft) "take_height" =some (some (.ref f11)))
  (i11:PySem.W.isFn K (.ref f11)=true)
  (l11:K.lookup f11=some ⟨oc11,od11,.func (PySem.W.fnOf "take_height" "Draft.take_height" (defArgs sTHeight) (defBody sTHeight) (defScope sTHeight) .none kV11 dc11 pm11 an11 cd11 ct11),sl11⟩)
  (c11:PySem.W.codeIn K cd11 "Draft.take_height" =true)
  (k11:PySem.W.keepIn K (.ref f11)=true)
  (a12:PySem.W.findIn K (.ref cDraft) "take_cut" =some (some (.ref f12)))
  (i12:PySem.W.isFn K (.ref f12)=true)
  (l12:K.lookup f12=some ⟨oc12,od12,.func (PySem.W.fnOf "take_cut" "Draft.take_cut" (defArgs sTCut) (defBody sTCut) (defScope sTCut) .none kV12 dc12 pm12 an12 cd12 ct12),sl12⟩)
  (c12:PySem.W.codeIn K cd12 "Draft.take_cut" =true)
  (k12:PySem.W.keepIn K (.ref f12)=true)
  (a13:PySem.W.findIn K (.ref cDraft) "take_spot" =some (some (.ref f13)))
  (i13:PySem.W.isFn K (.ref f13)=true)
  (l13:K.lookup f13=some ⟨oc13,od13,.func (PySem.W.fnOf "take_spot" "Draft.take_spot" (defArgs sTSpot) (defBody sTSpot) (defScope sTSpot) .none kV13 dc13 pm13 an13 cd13 ct13),sl13⟩)
  (c13:PySem.W.codeIn K cd13 "Draft.take_spot" =true)
  (k13:PySem.W.keepIn K (.ref f13)=true)
  (a14:PySem.W.findIn K (.ref cDraft) "take_row" =some (some (.ref f14)))
  (i14:PySem.W.isFn K (.ref f14)=true)
  (l14:K.lookup f14=some ⟨oc14,od14,.func (PySem.W.fnOf "take_row" "Draft.take_row" (defArgs sTRow) (defBody sTRow) (defScope sTRow) .none kV14 dc14 pm14 an14 cd14 ct14),sl14⟩)
  (c14:PySem.W.codeIn K cd14 "Draft.take_row" =true)
  (k14:PySem.W.keepIn K (.ref f14)=true)
  (a15:PySem.W.nsIn K mainGlobals "draft_told" =some (some (.ref f15)))
  (l15:K.lookup f15=some ⟨oc15,od15,.func (PySem.W.fnOf "draft_told" "draft_told" (defArgs sDTold) (defBody sDTold) (defScope sDTold) .none kV15 dc15 pm15 an15 cd15 ct15),sl15⟩)
  (c15:PySem.W.codeIn K cd15 "draft_told" =true)
  (k15:PySem.W.keepIn K (.ref f15)=true)
  (a16:PySem.W.findIn K (.ref cReading) "__init__" =some (some (.ref f16)))
  (i16:PySem.W.isFn K (.ref f16)=true)
  (l16:K.lookup f16=some ⟨oc16,od16,.func (PySem.W.fnOf "__init__" "Reading.__init__" (defArgs sRInit) (defBody sRInit) (defScope sRInit) .none kV16 dc16 pm16 an16 cd16 ct16),sl16⟩)
  (c16:PySem.W.codeIn K cd16 "Reading.__init__" =true)
  (k16:PySem.W.keepIn K (.ref f16)=true)
  (a17:PySem.W.findIn K (.ref cReading) "take_first" =some (some (.ref f17)))
  (i17:PySem.W.isFn K (.ref f17)=true)
  (l17:K.lookup f17=some ⟨oc17,od17,.func (PySem.W.fnOf "take_first" "Reading.take_first" (defArgs sTFirst) (defBody sTFirst) (defScope sTFirst) .none kV17 dc17 pm17 an17 cd17 ct17),sl17⟩)
  (c17:PySem.W.codeIn K cd17 "Reading.take_first" =true)
  (k17:PySem.W.keepIn K (.ref f17)=true)
  (a18:PySem.W.findIn K (.ref cReading) "take_head" =some (some (.ref f18)))
  (i18:PySem.W.isFn K (.ref f18)=true)
  (l18:K.lookup f18=some ⟨oc18,od18,.func (PySem.W.fnOf "take_head" "Reading.take_head" (defArgs sTHead) (defBody sTHead) (defScope sTHead) .none kV18 dc18 pm18 an18 cd18 ct18),sl18⟩)
  (c18:PySem.W.codeIn K cd18 "Reading.take_head" =true)
  (k18:PySem.W.keepIn K (.ref f18)=true)
  (a19:PySem.W.findIn K (.ref cReading) "take_words" =some (some (.ref f19)))
  (i19:PySem.W.isFn K (.ref f19)=true)
  (l19:K.lookup f19=some ⟨oc19,od19,.func (PySem.W.fnOf "take_words" "Reading.take_words" (defArgs sTWords) (defBody sTWords) (defScope sTWords) .none kV19 dc19 pm19 an19 cd19 ct19),sl19⟩)
  (c19:PySem.W.codeIn K cd19 "Reading.take_words" =true)
  (k19:PySem.W.keepIn K (.ref f19)=true)
  (a20:PySem.W.findIn K (.ref cBadAnswer) "__init__" =some (some (.ref f20)))
  (i20:PySem.W.isFn K (.ref f20)=true)
  (l20:K.lookup f20=some ⟨oc20,od20,.func (PySem.W.fnOf "__init__" "BadAnswer.__init__" (defArgs sXInit) (defBody sXInit) (defScope sXInit) .none kV20 dc20 pm20 an20 cd20 ct20),sl20⟩)
  (c20:PySem.W.codeIn K cd20 "BadAnswer.__init__" =true)
  (k20:PySem.W.keepIn K (.ref f20)=true)
  (xi20:excInI K cBadAnswer [.type "ValueError",.type "Exception",.type "BaseException",.type "object"] "ValueError.__new__" f20=true)
  (kc20:PySem.W.keepIn K (.ref cBadAnswer)=true)
  (a21:PySem.W.nsIn K mainGlobals "read_answer" =some (some (.ref f21)))
  (l21:K.lookup f21=some ⟨oc21,od21,.func (PySem.W.fnOf "read_answer" "read_answer" (defArgs sRead) (defBody sRead) (defScope sRead) .none kV21 dc21 pm21 an21 cd21 ct21),sl21⟩)
  (c21:PySem.W.codeIn K cd21 "read_answer" =true)
  (k21:PySem.W.keepIn K (.ref f21)=true)
  (a22:PySem.W.nsIn K mainGlobals "_law_cell_at" =some (some (.ref f22)))
  (l22:K.lookup f22=some ⟨oc22,od22,.func (PySem.W.fnOf "_law_cell_at" "_law_cell_at" (defArgs sCell) (defBody sCell) (defScope sCell) .none kV22 dc22 pm22 an22 cd22 ct22),sl22⟩)
  (c22:PySem.W.codeIn K cd22 "_law_cell_at" =true)
  (k22:PySem.W.keepIn K (.ref f22)=true)
  (a23:PySem.W.nsIn K mainGlobals "_law_mixed" =some (some (.ref f23)))
  (l23:K.lookup f23=some ⟨oc23,od23,.func (PySem.W.fnOf "_law_mixed" "_law_mixed" (defArgs sMixed) (defBody sMixed) (defScope sMixed) .none kV23 dc23 pm23 an23 cd23 ct23),sl23⟩)
  (c23:PySem.W.codeIn K cd23 "_law_mixed" =true)
  (k23:PySem.W.keepIn K (.ref f23)=true)
  (a24:PySem.W.nsIn K mainGlobals "_law_number" =some (some (.ref f24)))
  (l24:K.lookup f24=some ⟨oc24,od24,.func (PySem.W.fnOf "_law_number" "_law_number" (defArgs sNumber) (defBody sNumber) (defScope sNumber) .none kV24 dc24 pm24 an24 cd24 ct24),sl24⟩)
  (c24:PySem.W.codeIn K cd24 "_law_number" =true)
  (k24:PySem.W.keepIn K (.ref f24)=true)
  (a25:PySem.W.nsIn K mainGlobals "_law_spot" =some (some (.ref f25)))
  (l25:K.lookup f25=some ⟨oc25,od25,.func (PySem.W.fnOf "_law_spot" "_law_spot" (defArgs sSpot) (defBody sSpot) (defScope sSpot) .none kV25 dc25 pm25 an25 cd25 ct25),sl25⟩)
  (c25:PySem.W.codeIn K cd25 "_law_spot" =true)
  (k25:PySem.W.keepIn K (.ref f25)=true)
  (a26:PySem.W.nsIn K mainGlobals "_law_behind" =some (some (.ref f26)))
  (l26:K.lookup f26=some ⟨oc26,od26,.func (PySem.W.fnOf "_law_behind" "_law_behind" (defArgs sBehind) (defBody sBehind) (defScope sBehind) .none kV26 dc26 pm26 an26 cd26 ct26),sl26⟩)
  (c26:PySem.W.codeIn K cd26 "_law_behind" =true)
  (k26:PySem.W.keepIn K (.ref f26)=true)
  (a27:PySem.W.nsIn K mainGlobals "_law_word" =some (some (.ref f27)))
  (l27:K.lookup f27=some ⟨oc27,od27,.func (PySem.W.fnOf "_law_word" "_law_word" (defArgs sWord) (defBody sWord) (defScope sWord) .none kV27 dc27 pm27 an27 cd27 ct27),sl27⟩)
  (c27:PySem.W.codeIn K cd27 "_law_word" =true)
  (k27:PySem.W.keepIn K (.ref f27)=true)
  (a28:PySem.W.nsIn K mainGlobals "_law_names" =some (some (.ref f28)))
  (l28:K.lookup f28=some ⟨oc28,od28,.func (PySem.W.fnOf "_law_names" "_law_names" (defArgs sNames) (defBody sNames) (defScope sNames) .none kV28 dc28 pm28 an28 cd28 ct28),sl28⟩)
  (c28:PySem.W.codeIn K cd28 "_law_names" =true)
  (k28:PySem.W.keepIn K (.ref f28)=true)
  (a29:PySem.W.nsIn K mainGlobals "_law_head" =some (some (.ref f29)))
  (l29:K.lookup f29=some ⟨oc29,od29,.func (PySem.W.fnOf "_law_head" "_law_head" (defArgs sHead) (defBody sHead) (defScope sHead) .none kV29 dc29 pm29 an29 cd29 ct29),sl29⟩)
  (c29:PySem.W.codeIn K cd29 "_law_head" =true)
  (k29:PySem.W.keepIn K (.ref f29)=true)
  (a30:PySem.W.nsIn K mainGlobals "_law_begun" =some (some (.ref f30)))
  (l30:K.lookup f30=some ⟨oc30,od30,.func (PySem.W.fnOf "_law_begun" "_law_begun" (defArgs sBegun) (defBody sBegun) (defScope sBegun) .none kV30 dc30 pm30 an30 cd30 ct30),sl30⟩)
  (c30:PySem.W.codeIn K cd30 "_law_begun" =true)
  (k30:PySem.W.keepIn K (.ref f30)=true)
  (a31:PySem.W.nsIn K mainGlobals "_law_stepped" =some (some (.ref f31)))
  (l31:K.lookup f31=some ⟨oc31,od31,.func (PySem.W.fnOf "_law_stepped" "_law_stepped" (defArgs sStepped) (defBody sStepped) (defScope sStepped) .none kV31 dc31 pm31 an31 cd31 ct31),sl31⟩)
  (c31:PySem.W.codeIn K cd31 "_law_stepped" =true)
  (k31:PySem.W.keepIn K (.ref f31)=true)
  (a32:PySem.W.nsIn K mainGlobals "_law_lifted" =some (some (.ref f32)))
  (l32:K.lookup f32=some ⟨oc32,od32,.func (PySem.W.fnOf "_law_lifted" "_law_lifted" (defArgs sLifted) (defBody sLifted) (defScope sLifted) .none kV32 dc32 pm32 an32 cd32 ct32),sl32⟩)
  (c32:PySem.W.codeIn K cd32 "_law_lifted" =true)
  (k32:PySem.W.keepIn K (.ref f32)=true)
  (a33:PySem.W.nsIn K mainGlobals "_law_gone_on" =some (some (.ref f33)))
  (l33:K.lookup f33=some ⟨oc33,od33,.func (PySem.W.fnOf "_law_gone_on" "_law_gone_on" (defArgs sGoneOn) (defBody sGoneOn) (defScope sGoneOn) .none kV33 dc33 pm33 an33 cd33 ct33),sl33⟩)
  (c33:PySem.W.codeIn K cd33 "_law_gone_on" =true)
  (k33:PySem.W.keepIn K (.ref f33)=true)
  (a34:PySem.W.nsIn K mainGlobals "_law_blocks" =some (some (.ref f34)))
  (l34:K.lookup f34=some ⟨oc34,od34,.func (PySem.W.fnOf "_law_blocks" "_law_blocks" (defArgs sBlocks) (defBody sBlocks) (defScope sBlocks) .none kV34 dc34 pm34 an34 cd34 ct34),sl34⟩)
  (c34:PySem.W.codeIn K cd34 "_law_blocks" =true)
  (k34:PySem.W.keepIn K (.ref f34)=true)
  (a35:PySem.W.nsIn K mainGlobals "_law_asked" =some (some (.ref f35)))
  (l35:K.lookup f35=some ⟨oc35,od35,.func (PySem.W.fnOf "_law_asked" "_law_asked" (defArgs sAsked) (defBody sAsked) (defScope sAsked) .none kV35 dc35 pm35 an35 cd35 ct35),sl35⟩)
  (c35:PySem.W.codeIn K cd35 "_law_asked" =true)
  (k35:PySem.W.keepIn K (.ref f35)=true)
  (a36:PySem.W.nsIn K mainGlobals "_law_nowhere" =some (some (.ref f36)))
  (l36:K.lookup f36=some ⟨oc36,od36,.func (PySem.W.fnOf "_law_nowhere" "_law_nowhere" (defArgs sNowhere) (defBody sNowhere) (defScope sNowhere) .none kV36 dc36 pm36 an36 cd36 ct36),sl36⟩)
  (c36:PySem.W.codeIn K cd36 "_law_nowhere" =true)
  (k36:PySem.W.keepIn K (.ref f36)=true)
  (a37:PySem.W.nsIn K mainGlobals "_law_not_behind" =some (some (.ref f37)))
  (l37:K.lookup f37=some ⟨oc37,od37,.func (PySem.W.fnOf "_law_not_behind" "_law_not_behind" (defArgs sNotB) (defBody sNotB) (defScope sNotB) .none kV37 dc37 pm37 an37 cd37 ct37),sl37⟩)
  (c37:PySem.W.codeIn K cd37 "_law_not_behind" =true)
  (k37:PySem.W.keepIn K (.ref f37)=true)
  (a38:PySem.W.nsIn K mainGlobals "_law_shut_rows" =some (some (.ref f38)))
  (l38:K.lookup f38=some ⟨oc38,od38,.func (PySem.W.fnOf "_law_shut_rows" "_law_shut_rows" (defArgs sShutR) (defBody sShutR) (defScope sShutR) .none kV38 dc38 pm38 an38 cd38 ct38),sl38⟩)
  (c38:PySem.W.codeIn K cd38 "_law_shut_rows" =true)
  (k38:PySem.W.keepIn K (.ref f38)=true)
  (a39:PySem.W.nsIn K mainGlobals "_law_shut_heads" =some (some (.ref f39)))
  (l39:K.lookup f39=some ⟨oc39,od39,.func (PySem.W.fnOf "_law_shut_heads" "_law_shut_heads" (defArgs sShutH) (defBody sShutH) (defScope sShutH) .none kV39 dc39 pm39 an39 cd39 ct39),sl39⟩)
  (c39:PySem.W.codeIn K cd39 "_law_shut_heads" =true)
  (k39:PySem.W.keepIn K (.ref f39)=true)
  (a40:PySem.W.nsIn K mainGlobals "_law_turn" =some (some (.ref f40)))
  (l40:K.lookup f40=some ⟨oc40,od40,.func (PySem.W.fnOf "_law_turn" "_law_turn" (defArgs sTurn) (defBody sTurn) (defScope sTurn) .none kV40 dc40 pm40 an40 cd40 ct40),sl40⟩)
  (c40:PySem.W.codeIn K cd40 "_law_turn" =true)
  (k40:PySem.W.keepIn K (.ref f40)=true)
  (a41:PySem.W.nsIn K mainGlobals "law" =some (some (.ref f41)))
  (l41:K.lookup f41=some ⟨oc41,od41,.func (PySem.W.fnOf "law" "law" (defArgs slaw) (defBody slaw) (defScope slaw) .none kV41 dc41 pm41 an41 cd41 ct41),sl41⟩)
  (c41:PySem.W.codeIn K cd41 "law" =true)
  (k41:PySem.W.keepIn K (.ref f41)=true)
  (pg_Draft:PySem.W.plainGet K cDraft Str.empty=true)
  (hd_Draft:PySem.W.hasDictIn K cDraft=true)
  (po_Draft:PySem.W.plainOver K cDraft=true)
  (sa_Draft:PySem.W.findIn K (.ref cDraft) "__setattr__" =some (some (.builtin "object.__setattr__")))
  (mk_Draft:PySem.W.makesIn K cDraft=true)
  (kc_Draft:PySem.W.keepIn K (.ref cDraft)=true)
  (na_Draft_kind:PySem.W.findIn K (.ref cDraft) "kind" =some none)
  (na_Draft_numbers:PySem.W.findIn K (.ref cDraft) "numbers" =some none)
  (na_Draft_wires:PySem.W.findIn K (.ref cDraft) "wires" =some none)
  (na_Draft_hills:PySem.W.findIn K (.ref cDraft) "hills" =some none)
  (na_Draft_heights:PySem.W.findIn K (.ref cDraft) "heights" =some none)
  (na_Draft_cut:PySem.W.findIn K (.ref cDraft) "cut" =some none)
  (na_Draft_spots:PySem.W.findIn K (.ref cDraft) "spots" =some none)
  (na_Draft_last:PySem.W.findIn K (.ref cDraft) "last" =some none)
  (pg_Reading:PySem.W.plainGet K cReading Str.empty=true)
  (hd_Reading:PySem.W.hasDictIn K cReading=true)
  (po_Reading:PySem.W.plainOver K cReading=true)
  (sa_Reading:PySem.W.findIn K (.ref cReading) "__setattr__" =some (some (.builtin "object.__setattr__")))
  (mk_Reading:PySem.W.makesIn K cReading=true)
  (kc_Reading:PySem.W.keepIn K (.ref cReading)=true)
  (na_Reading_rested:PySem.W.findIn K (.ref cReading) "rested" =some none)
  (na_Reading_part:PySem.W.findIn K (.ref cReading) "part" =some none)
  (na_Reading_name:PySem.W.findIn K (.ref cReading) "name" =some none)
  (na_Reading_drafts:PySem.W.findIn K (.ref cReading) "drafts" =some none)
  (n_WireError:PySem.W.nsIn K mainGlobals "WireError" =some (some (.ref cWireError)))
  (r_WireError:PySem.W.readsIn K cWireError (.type "type")=true)
  (f_WireError:PySem.W.findCls K (.ref cWireError) (.type "type") "__init__" =some (.val (.builtin "ValueError.__init__")))
  (s_WireError:PySem.W.specialIn K (.ref cWireError) "__getattribute__" =some (some (.builtin "type.__getattribute__")))
  (n_BadRow:PySem.W.nsIn K mainGlobals "BadRow" =some (some (.ref cBadRow)))
  (ga_BadAnswer:PySem.W.findIn K (.ref cBadAnswer) "__getattribute__" =some (some (.builtin "BaseException.__getattribute__")))
  (gt_BadAnswer:PySem.W.findIn K (.ref cBadAnswer) "__getattr__" =some none)
  (cl_BadAnswer:PySem.W.findIn K (.ref cBadAnswer) "__class__" =some (some (.builtin "object.__class__")))
  (gg_BadAnswer:PySem.W.specialIn K (.builtin "object.__class__") "__get__" =some (some (.builtin "getset_descriptor.__get__")))
  (tk_BadAnswer:PySem.W.takesIn K (.builtin "object.__class__")=some true)
  (ob_BadAnswer:PySem.W.mroIn K cBadAnswer (.type "object")=some true)
  (be_BadAnswer:PySem.W.mroIn K cBadAnswer (.type "BaseException")=some true)
  (sa_BadAnswer:PySem.W.findIn K (.ref cBadAnswer) "__setattr__" =some (some (.builtin "object.__setattr__")))
  (na_BadAnswer:PySem.W.findIn K (.ref cBadAnswer) "row" =some none)
  (hd_BadAnswer:PySem.W.hasDictIn K cBadAnswer=true)
  (z_len:PySem.W.nsIn K mainGlobals "len" =some none)
  (z_range:PySem.W.nsIn K mainGlobals "range" =some none)
  (z_isinstance:PySem.W.nsIn K mainGlobals "isinstance" =some none)
  (z_int:PySem.W.nsIn K mainGlobals "int" =some none)
  (z_bool:PySem.W.nsIn K mainGlobals "bool" =some none)
  (z_str:PySem.W.nsIn K mainGlobals "str" =some none)
  (z_any:PySem.W.nsIn K mainGlobals "any" =some none)
  (z_all:PySem.W.nsIn K mainGlobals "all" =some none)
  (z_tuple:PySem.W.nsIn K mainGlobals "tuple" =some none)
  (z_enumerate:PySem.W.nsIn K mainGlobals "enumerate" =some none)
  (z_sorted:PySem.W.nsIn K mainGlobals "sorted" =some none)
  (z_ValueError:PySem.W.nsIn K mainGlobals "ValueError" =some none)
  (q_LETTERS:PySem.W.nsIn K mainGlobals "LETTERS" =some (some (.str (Str.ofString "abcdefghijklmnopqrstuvwxyz") tLETTERS)))
  (q_FIGURES:PySem.W.nsIn K mainGlobals "FIGURES" =some (some (.str (Str.ofString "0123456789") tFIGURES)))
  (q_MOST_SIGNS:PySem.W.nsIn K mainGlobals "MOST_SIGNS" =some (some (.int 12 tMOST_SIGNS)))
  (q_MOST_FIGURES:PySem.W.nsIn K mainGlobals "MOST_FIGURES" =some (some (.int 18 tMOST_FIGURES)))
  (q_PARTS:PySem.W.nsIn K mainGlobals "PARTS" =some (some (.ref cPt)))
  (qt_PARTS:K.lookup cPt=some ⟨.type "tuple",none,.seq #[.str (Str.ofString "laid") tPt0,.str (Str.ofString "paper") tPt1,.str (Str.ofString "never") tPt2] dnPt,slPt⟩)
  (q_NUMBERS_OF_KINDS:PySem.W.nsIn K mainGlobals "NUMBERS_OF_KINDS" =some (some (.ref cNk)))
  (qd_NUMBERS_OF_KINDS:K.lookup cNk=some ⟨.type "dict",none,.dict #[⟨hNk0,.str (Str.ofString "tree") tNk0,.int 1 uNk0⟩,⟨hNk1,.str (Str.ofString "bundle") tNk1,.int 2 uNk1⟩,⟨hNk2,.str (Str.ofString "shore") tNk2,.int 0 uNk2⟩,⟨hNk3,.str (Str.ofString "cut") tNk3,.int 0 uNk3⟩] dnNk,#[]⟩)
  (qh0_NUMBERS_OF_KINDS:hNk0=keyH w (.inr (Str.ofString "tree")))
  (qh1_NUMBERS_OF_KINDS:hNk1=keyH w (.inr (Str.ofString "bundle")))
  (qh2_NUMBERS_OF_KINDS:hNk2=keyH w (.inr (Str.ofString "shore")))
  (qh3_NUMBERS_OF_KINDS:hNk3=keyH w (.inr (Str.ofString "cut")))
  (qs_NUMBERS_OF_KINDS:(cNk==sysModules)=false)
  (ii:PySem.W.kitOne K (.type "int") (.type "int")=some true)
  (ib:PySem.W.kitOne K (.type "int") (.type "bool")=some false)
  (bw:PySem.W.kitOne K (.ref cBadAnswer) (.ref cWireError)=some true)
  (bv:PySem.W.kitOne K (.ref cBadAnswer) (.type "ValueError")=some true)
  (br:PySem.W.kitOne K (.ref cBadAnswer) (.ref cBadRow)=some false)
  (xb:PySem.W.exmOne K (.ref cBadAnswer) (.ref cBadAnswer)=some true)
  :∃fd:FuncData,(∀(s:Shared) (v:Value),BindsTo s fd ⟨[v],[]⟩ [("script",v)])∧∀base:Heap,K.In base→base.Ns mainGlobals mg→FnOk l.prog w K mg base CX0 9 fa fd ["script"] (spLaw K):=by
 have e:=hfa.symm.trans (PySem.W.mg_of X G a41)
 cases e
 have T:Txt w K mg cDraft cReading cWireError cBadRow cBadAnswer cPt cNk:=⟨PySem.W.mg_none_of X G z_len,PySem.W.mg_none_of X G z_range,PySem.W.mg_none_of X G z_isinstance,PySem.W.mg_none_of X G z_int,PySem.W.mg_none_of X G z_bool,PySem.W.mg_none_of X G z_str,PySem.W.mg_none_of X G z_any,PySem.W.mg_none_of X G z_all,PySem.W.mg_none_of X G z_tuple,PySem.W.mg_none_of X G z_enumerate,PySem.W.mg_none_of X G z_sorted,PySem.W.mg_none_of X G z_ValueError,⟨pg_Draft,hd_Draft,po_Draft,sa_Draft⟩,PySem.W.mg_of X G n_Draft,na_Draft_kind,na_Draft_numbers,na_Draft_wires,na_Draft_hills,na_Draft_heights,na_Draft_cut,na_Draft_spots,na_Draft_last,⟨pg_Reading,hd_Reading,po_Reading,sa_Reading⟩,PySem.W.mg_of X G n_Reading,na_Reading_rested,na_Reading_part,na_Reading_name,na_Reading_drafts,⟨PySem.W.mg_of X G n_WireError,⟨⟨_,r_WireError,f_WireError⟩,s_WireError⟩⟩,PySem.W.mg_of X G n_BadRow,⟨PySem.W.mg_of X G n_BadAnswer,⟨ga_BadAnswer,gt_BadAnswer,cl_BadAnswer,gg_BadAnswer,tk_BadAnswer,ob_BadAnswer,be_BadAnswer⟩,⟨sa_BadAnswer,ob_BadAnswer,be_BadAnswer,na_BadAnswer,hd_BadAnswer,ga_BadAnswer,gt_BadAnswer⟩⟩,⟨_,PySem.W.mg_of X G q_LETTERS,⟨_,rfl⟩⟩,⟨_,PySem.W.mg_of X G q_FIGURES,⟨_,rfl⟩⟩,⟨_,PySem.W.mg_of X G q_MOST_SIGNS,⟨_,rfl⟩⟩,⟨_,PySem.W.mg_of X G q_MOST_FIGURES,⟨_,rfl⟩⟩,⟨_,PySem.W.mg_of X G q_PARTS,rfl⟩,⟨_,qt_PARTS,rfl,rfl⟩,fun _=> .inr ⟨_,_,_,qt_PARTS,rfl,rfl,(by show 3≤sizeLine;decide),(.cons ⟨_,rfl⟩ (.cons ⟨_,rfl⟩ (.cons ⟨_,rfl⟩ .nil)))⟩,⟨_,PySem.W.mg_of X G q_NUMBERS_OF_KINDS,rfl⟩,⟨qs_NUMBERS_OF_KINDS,⟨_,_,qd_NUMBERS_OF_KINDS,(.cons ⟨keyIs_str _ _,qh0_NUMBERS_OF_KINDS,⟨_,rfl⟩⟩ (.cons ⟨keyIs_str _ _,qh1_NUMBERS_OF_KINDS,⟨_,rfl⟩⟩ (.cons ⟨keyIs_str _ _,qh2_NUMBERS_OF_KINDS,⟨_,rfl⟩⟩ (.cons ⟨keyIs_str _ _,qh3_NUMBERS_OF_KINDS,⟨_,rfl⟩⟩ .nil))))⟩,by decide+kernel⟩,ii,ib,bw,bv,br,xb⟩
 have F0:=fun_mk (st:=sName) l0 c0 k0
 have b0:=bd1 (p0:= "name") F0 fun _ _ _ _ _ _ _=>rfl
 have F1:=fun_mk (st:=sNumIn) l1 c1 k1
 have b1:=bd1 (p0:= "word") F1 fun _ _ _ _ _ _ _=>rfl
 have F2:=fun_mk (st:=sSpotIn) l2 c2 k2
 have b2:=bd1 (p0:= "word") F2 fun _ _ _ _ _ _ _=>rfl
 have F3:=fun_mk (st:=sWholeIn) l3 c3 k3
 have b3:=bd1 (p0:= "word") F3 fun _ _ _ _ _ _ _=>rfl
 have F4:=fun_mk (st:=sWholes) l4 c4 k4
 have b4:=bd2 (p0:= "words") (p1:= "many") F4 fun _ _ _ _ _ _ _ _=>rfl
 have F5:=fun_mk (st:=sSpotsT) l5 c5 k5
 have b5:=bd2 (p0:= "words") (p1:= "many") F5 fun _ _ _ _ _ _ _ _=>rfl
 have F6:=fun_mk (st:=sDInit) l6 c6 k6
 have b6:=bd3 (p0:= "self") (p1:= "kind") (p2:= "numbers") F6 fun _ _ _ _ _ _ _ _ _=>rfl
 have F7:=fun_mk (st:=sTStep) l7 c7 k7
 have b7:=bd2 (p0:= "self") (p1:= "words") F7 fun _ _ _ _ _ _ _ _=>rfl
 have F8:=fun_mk (st:=sTHill) l8 c8 k8
 have b8:=bd2 (p0:= "self") (p1:= "words") F8 fun _ _ _ _ _ _ _ _=>rfl
 have F9:=fun_mk (st:=sTHH) l9 c9 k9
 have b9:=bd3 (p0:= "self") (p1:= "spot") (p2:= "numbers") F9 fun _ _ _ _ _ _ _ _ _=>rfl
 have F10:=fun_mk (st:=sTPair) l10 c10 k10
 have b10:=bd3 (p0:= "self") (p1:= "spot") (p2:= "numbers") F10 fun _ _ _ _ _ _ _ _ _=>rfl
 have F11:=fun_mk (st:=sTHeight) l11 c11 k11
 have b11:=bd2 (p0:= "self") (p1:= "words") F11 fun _ _ _ _ _ _ _ _=>rfl
 have F12:=fun_mk (st:=sTCut) l12 c12 k12
 have b12:=bd2 (p0:= "self") (p1:= "words") F12 fun _ _ _ _ _ _ _ _=>rfl
 have F13:=fun_mk (st:=sTSpot) l13 c13 k13
 have b13:=bd2 (p0:= "self") (p1:= "words") F13 fun _ _ _ _ _ _ _ _=>rfl
 have F14:=fun_mk (st:=sTRow) l14 c14 k14
 have b14:=bd2 (p0:= "self") (p1:= "words") F14 fun _ _ _ _ _ _ _ _=>rfl
 have F15:=fun_mk (st:=sDTold) l15 c15 k15
 have b15:=bd2 (p0:= "part") (p1:= "words") F15 fun _ _ _ _ _ _ _ _=>rfl
 have F16:=fun_mk (st:=sRInit) l16 c16 k16
 have b16:=bd1 (p0:= "self") F16 fun _ _ _ _ _ _ _=>rfl
 have F17:=fun_mk (st:=sTFirst) l17 c17 k17
 have b17:=bd2 (p0:= "self") (p1:= "words") F17 fun _ _ _ _ _ _ _ _=>rfl
 have F18:=fun_mk (st:=sTHead) l18 c18 k18
 have b18:=bd3 (p0:= "self") (p1:= "part") (p2:= "words") F18 fun _ _ _ _ _ _ _ _ _=>rfl
 have F19:=fun_mk (st:=sTWords) l19 c19 k19
 have b19:=bd2 (p0:= "self") (p1:= "words") F19 fun _ _ _ _ _ _ _ _=>rfl
 have F20:=fun_mk (st:=sXInit) l20 c20 k20
 have b20:=bd2 (p0:= "self") (p1:= "row") F20 fun _ _ _ _ _ _ _ _=>rfl
 have F21:=fun_mk (st:=sRead) l21 c21 k21
 have b21:=bd1 (p0:= "page") F21 fun _ _ _ _ _ _ _=>rfl
 have F22:=fun_mk (st:=sCell) l22 c22 k22
 have b22:=bd2 (p0:= "script") (p1:= "k") F22 fun _ _ _ _ _ _ _ _=>rfl
 have F23:=fun_mk (st:=sMixed) l23 c23 k23
 have b23:=bd2 (p0:= "cell") (p1:= "k") F23 fun _ _ _ _ _ _ _ _=>rfl
 have F24:=fun_mk (st:=sNumber) l24 c24 k24
 have b24:=bd1 (p0:= "cell") F24 fun _ _ _ _ _ _ _=>rfl
 have F25:=fun_mk (st:=sSpot) l25 c25 k25
 have b25:=bd1 (p0:= "cell") F25 fun _ _ _ _ _ _ _=>rfl
 have F26:=fun_mk (st:=sBehind) l26 c26 k26
 have b26:=bd2 (p0:= "spot") (p1:= "cell") F26 fun _ _ _ _ _ _ _ _=>rfl
 have F27:=fun_mk (st:=sWord) l27 c27 k27
 have b27:=bd1 (p0:= "spot") F27 fun _ _ _ _ _ _ _=>rfl
 have F28:=fun_mk (st:=sNames) l28 c28 k28
 have b28:=bd1 (p0:= "cell") F28 fun _ _ _ _ _ _ _=>rfl
 have F29:=fun_mk (st:=sHead) l29 c29 k29
 have b29:=bd1 (p0:= "block") F29 fun _ _ _ _ _ _ _=>rfl
 have F30:=fun_mk (st:=sBegun) l30 c30 k30
 have b30:=bd4 (p0:= "blocks") (p1:= "names") (p2:= "mixed") (p3:= "cell") F30 fun _ _ _ _ _ _ _ _ _ _=>rfl
 have F31:=fun_mk (st:=sStepped) l31 c31 k31
 have b31:=bd3 (p0:= "block") (p1:= "cell") (p2:= "mixed") F31 fun _ _ _ _ _ _ _ _ _=>rfl
 have F32:=fun_mk (st:=sLifted) l32 c32 k32
 have b32:=bd4 (p0:= "block") (p1:= "pairs") (p2:= "cell") (p3:= "mixed") F32 fun _ _ _ _ _ _ _ _ _ _=>rfl
 have F33:=fun_mk (st:=sGoneOn) l33 c33 k33
 have b33:=bd3 (p0:= "block") (p1:= "cell") (p2:= "mixed") F33 fun _ _ _ _ _ _ _ _ _=>rfl
 have F34:=fun_mk (st:=sBlocks) l34 c34 k34
 have b34:=bd2 (p0:= "cells") (p1:= "names") F34 fun _ _ _ _ _ _ _ _=>rfl
 have F35:=fun_mk (st:=sAsked) l35 c35 k35
 have b35:=bd1 (p0:= "page") F35 fun _ _ _ _ _ _ _=>rfl
 have F36:=fun_mk (st:=sNowhere) l36 c36 k36
 have b36:=bd1 (p0:= "cell") F36 fun _ _ _ _ _ _ _=>rfl
 have F37:=fun_mk (st:=sNotB) l37 c37 k37
 have b37:=bd1 (p0:= "pairs") F37 fun _ _ _ _ _ _ _=>rfl
 have F38:=fun_mk (st:=sShutR) l38 c38 k38
 have b38:=bd1 (p0:= "block") F38 fun _ _ _ _ _ _ _=>rfl
 have F39:=fun_mk (st:=sShutH) l39 c39 k39
 have b39:=bd1 (p0:= "block") F39 fun _ _ _ _ _ _ _=>rfl
 have F40:=fun_mk (st:=sTurn) l40 c40 k40
 have b40:=bd4 (p0:= "head") (p1:= "cells") (p2:= "more") (p3:= "turn") F40 fun _ _ _ _ _ _ _ _ _ _=>rfl
 have F41:=fun_mk (st:=slaw) l41 c41 k41
 refine⟨PySem.W.fnOf "law" "law" (defArgs slaw) (defBody slaw) (defScope slaw) .none kV41 dc41 pm41 an41 cd41 ct41,fun s v=> .of_eq rfl,fun base hB _=>?_⟩
 have gName:Callee l.prog w K mg base "is_name" 1 ["name"] spName:=⟨f0,_,ok_Name F0 T,PySem.W.mg_of X G a0,k0,b0⟩
 have gNumIn:Callee l.prog w K mg base "number_in" 1 ["word"] spNumIn:=⟨f1,_,ok_NumIn F1 T,PySem.W.mg_of X G a1,k1,b1⟩
 have gSpotIn:Callee l.prog w K mg base "spot_in" 2 ["word"] spSpotIn:=⟨f2,_,ok_SpotIn F2 T gNumIn,PySem.W.mg_of X G a2,k2,b2⟩
 have gWholeIn:Callee l.prog w K mg base "whole_in" 2 ["word"] spWholeIn:=⟨f3,_,ok_WholeIn F3 T gNumIn,PySem.W.mg_of X G a3,k3,b3⟩
 have gWholes:Callee l.prog w K mg base "wholes_told" 3 ["words", "many"] (spWholes K):=⟨f4,_,ok_Wholes F4 T gWholeIn,PySem.W.mg_of X G a4,k4,b4⟩
 have gSpotsT:Callee l.prog w K mg base "spots_told" 3 ["words", "many"] (spSpotsT K):=⟨f5,_,ok_SpotsT F5 T gSpotIn,PySem.W.mg_of X G a5,k5,b5⟩
 have gDInit:KCallee l.prog w K mg base cDraft "Draft" 1 ["self", "kind", "numbers"] (spDInit cDraft):=⟨f6,_,ok_DInit F6 T,⟨mk_Draft,a6,i6,kc_Draft⟩,PySem.W.mg_of X G n_Draft,b6⟩
 have gTStep:MCallee l.prog w K mg base cDraft "take_step" 4 ["self", "words"] (spTStep cDraft):=⟨f7,_,ok_TStep F7 T gSpotsT,⟨a7,i7,k7⟩,b7⟩
 have gTHill:MCallee l.prog w K mg base cDraft "take_hill" 4 ["self", "words"] (spTHill cDraft):=⟨f8,_,ok_THill F8 T gWholes,⟨a8,i8,k8⟩,b8⟩
 have gTHH:MCallee l.prog w K mg base cDraft "take_hill_height" 1 ["self", "spot", "numbers"] (spTHH cDraft):=⟨f9,_,ok_THH F9 T,⟨a9,i9,k9⟩,b9⟩
 have gTPair:MCallee l.prog w K mg base cDraft "take_pair" 1 ["self", "spot", "numbers"] (spTPair cDraft):=⟨f10,_,ok_TPair F10 T,⟨a10,i10,k10⟩,b10⟩
 have gTHeight:MCallee l.prog w K mg base cDraft "take_height" 4 ["self", "words"] (spTHeight cDraft):=⟨f11,_,ok_THeight F11 T gSpotIn gWholes gTHH gTPair,⟨a11,i11,k11⟩,b11⟩
 have gTCut:MCallee l.prog w K mg base cDraft "take_cut" 4 ["self", "words"] (spTCut cDraft):=⟨f12,_,ok_TCut F12 T gSpotsT,⟨a12,i12,k12⟩,b12⟩
 have gTSpot:MCallee l.prog w K mg base cDraft "take_spot" 4 ["self", "words"] (spTSpot cDraft):=⟨f13,_,ok_TSpot F13 T gSpotsT,⟨a13,i13,k13⟩,b13⟩
 have gTRow:MCallee l.prog w K mg base cDraft "take_row" 5 ["self", "words"] (spTRow cDraft):=⟨f14,_,ok_TRow F14 T gTStep gTHill gTHeight gTCut gTSpot,⟨a14,i14,k14⟩,b14⟩
 have gDTold:Callee l.prog w K mg base "draft_told" 4 ["part", "words"] (spDTold cDraft):=⟨f15,_,ok_DTold F15 T gWholes gDInit,PySem.W.mg_of X G a15,k15,b15⟩
 have gRInit:KCallee l.prog w K mg base cReading "Reading" 1 ["self"] (spRInit cReading):=⟨f16,_,ok_RInit F16 T,⟨mk_Reading,a16,i16,kc_Reading⟩,PySem.W.mg_of X G n_Reading,b16⟩
 have gTFirst:MCallee l.prog w K mg base cReading "take_first" 1 ["self", "words"] (spTFirst cReading cDraft):=⟨f17,_,ok_TFirst F17 T,⟨a17,i17,k17⟩,b17⟩
 have gTHead:MCallee l.prog w K mg base cReading "take_head" 5 ["self", "part", "words"] (spTHead cReading cDraft):=⟨f18,_,ok_THead F18 T gName gDTold,⟨a18,i18,k18⟩,b18⟩
 have gTWords:MCallee l.prog w K mg base cReading "take_words" 6 ["self", "words"] (spTWords cReading cDraft):=⟨f19,_,ok_TWords F19 T gTRow gTFirst gTHead,⟨a19,i19,k19⟩,b19⟩
 have gXInit:KCalleeE l.prog w K mg base "BadAnswer" cBadAnswer 1 ["self", "row"] (spXInit K):=⟨f20,_,ok_XInit F20 T,PySem.W.mg_of X G n_BadAnswer,⟨xi20,⟨_,l20,fn_cls l20 i20⟩,kc20⟩,b20⟩
 have gRead:CalleeX2 l.prog w K mg base "read_answer" 7 ["page"] (spRead cBadAnswer):=⟨f21,_,ok_Read F21 T gRInit gTWords gXInit,PySem.W.mg_of X G a21,k21,b21⟩
 have gCell:Callee l.prog w K mg base "_law_cell_at" 1 ["script", "k"] (spCell K):=⟨f22,_,ok_Cell F22 T,PySem.W.mg_of X G a22,k22,b22⟩
 have gMixed:Callee l.prog w K mg base "_law_mixed" 1 ["cell", "k"] spMixed:=⟨f23,_,ok_Mixed F23 T,PySem.W.mg_of X G a23,k23,b23⟩
 have gNumber:Callee l.prog w K mg base "_law_number" 1 ["cell"] spNumber:=⟨f24,_,ok_Number F24 T,PySem.W.mg_of X G a24,k24,b24⟩
 have gSpot:Callee l.prog w K mg base "_law_spot" 1 ["cell"] spSpot:=⟨f25,_,ok_Spot F25 T,PySem.W.mg_of X G a25,k25,b25⟩
 have gBehind:Callee l.prog w K mg base "_law_behind" 1 ["spot", "cell"] spBehind:=⟨f26,_,ok_Behind F26 T,PySem.W.mg_of X G a26,k26,b26⟩
 have gWord:Callee l.prog w K mg base "_law_word" 1 ["spot"] spWord:=⟨f27,_,ok_Word F27 T,PySem.W.mg_of X G a27,k27,b27⟩
 have gNames:Callee l.prog w K mg base "_law_names" 1 ["cell"] spNames:=⟨f28,_,ok_Names F28 T,PySem.W.mg_of X G a28,k28,b28⟩
 have gHead:Callee l.prog w K mg base "_law_head" 1 ["block"] spHead:=⟨f29,_,ok_Head F29 T,PySem.W.mg_of X G a29,k29,b29⟩
 have gBegun:Callee l.prog w K mg base "_law_begun" 2 ["blocks", "names", "mixed", "cell"] spBegun:=⟨f30,_,ok_Begun F30 T gNumber,PySem.W.mg_of X G a30,k30,b30⟩
 have gStepped:Callee l.prog w K mg base "_law_stepped" 2 ["block", "cell", "mixed"] spStepped:=⟨f31,_,ok_Stepped F31 T gSpot gWord,PySem.W.mg_of X G a31,k31,b31⟩
 have gLifted:Callee l.prog w K mg base "_law_lifted" 2 ["block", "pairs", "cell", "mixed"] spLifted:=⟨f32,_,ok_Lifted F32 T gNumber gSpot gBehind gWord,PySem.W.mg_of X G a32,k32,b32⟩
 have gGoneOn:Callee l.prog w K mg base "_law_gone_on" 3 ["block", "cell", "mixed"] spGoneOn:=⟨f33,_,ok_GoneOn F33 T gNumber gSpot gWord gStepped gLifted,PySem.W.mg_of X G a33,k33,b33⟩
 have gBlocks:Callee l.prog w K mg base "_law_blocks" 4 ["cells", "names"] (spBlocks K):=⟨f34,_,ok_Blocks F34 T gMixed gBegun gGoneOn,PySem.W.mg_of X G a34,k34,b34⟩
 have gAsked:Callee l.prog w K mg base "_law_asked" 8 ["page"] spAsked:=⟨f35,_,ok_Asked F35 T gRead,PySem.W.mg_of X G a35,k35,b35⟩
 have gNowhere:Callee l.prog w K mg base "_law_nowhere" 1 ["cell"] spNowhere:=⟨f36,_,ok_Nowhere F36 T,PySem.W.mg_of X G a36,k36,b36⟩
 have gNotB:Callee l.prog w K mg base "_law_not_behind" 2 ["pairs"] spNotB:=⟨f37,_,ok_NotB F37 T gWord,PySem.W.mg_of X G a37,k37,b37⟩
 have gShutR:Callee l.prog w K mg base "_law_shut_rows" 3 ["block"] spShutR:=⟨f38,_,ok_ShutR F38 T gWord gNotB,PySem.W.mg_of X G a38,k38,b38⟩
 have gShutH:Callee l.prog w K mg base "_law_shut_heads" 1 ["block"] spShutH:=⟨f39,_,ok_ShutH F39 T,PySem.W.mg_of X G a39,k39,b39⟩
 have gTurn:Callee l.prog w K mg base "_law_turn" 5 ["head", "cells", "more", "turn"] (spTurn K):=⟨f40,_,ok_Turn F40 T gMixed gNames gHead gBlocks gNowhere gShutR gShutH,PySem.W.mg_of X G a40,k40,b40⟩
 exact ok_law F41 T gCell gNames gHead gBlocks gAsked gNowhere gTurn
theorem walk {l:PySem.W.OpenLaw}{q:Program}{loose:List Str}{XP:(Str→Option Value)→Heap→Prop}{YP:World→Heap→Prop}{d:DefRec}{K:Params→PySem.W.Frag}(hn:l.most=some 63)(hdf:d.params.defaults=[])
  (hY:∀(w:World) (h:Heap),YP w h→(K w.params).In h)
  (F:∀(w:World) (mg:Str→Option Value) (fa:Addr) (h:Heap),(K w.params).In h→h.Ns mainGlobals mg→mg d.name=some (.ref fa)→
   ∃fd:FuncData,(∀(s:Shared) (u:Value),BindsTo s fd ⟨[u],[]⟩ [("script",u)])∧∀base:Heap,(K w.params).In base→base.Ns mainGlobals mg→FnOk l.prog w (K w.params) mg base CX0 9 fa fd ["script"] (spLaw (K w.params))):
  PySem.W.WalkO q loose XP YP l.row.toRowW d [] (fun f vs=>PySem.call f vs):=
 L2.walk_of (n:=63) (k:=9) (x:= "script") (CX:=fun _=>CX0) (sp:=fun w=>spLaw (K w.params)) hn (by decide) hdf ⟨rfl,by decide,by decide,rfl⟩ hY F (fun _ _ a ns hl _ hS=>⟨a,ns,rfl,hS,hl,fun _=>rfl⟩) fun _ _ _ _ _ z=>z
end K47
end
/-! these names are taken, so that the head lays no second forms of the greatest of its objects -/
def PySem.W.Fast.tw11056845155829615057 : Unit := ()
def PySem.W.Fast.tw17638709091204697068 : Unit := ()
def PySem.W.Fast.tw15820318566495382888 : Unit := ()
def PySem.W.Fast.tw7323327458266053426 : Unit := ()
def PySem.W.Fast.tw4627457969747338353 : Unit := ()
def PySem.W.Fast.tw7519637519007980810 : Unit := ()
def PySem.W.Fast.tw419924767453010329 : Unit := ()
def PySem.W.Fast.tw16246174359664330473 : Unit := ()
def PySem.W.Fast.tw12692841181973274194 : Unit := ()
def PySem.W.Fast.tw11207855798285106585 : Unit := ()
def PySem.W.Fast.tw11306304783822180043 : Unit := ()
def PySem.W.Fast.tw12184284814967133393 : Unit := ()
def PySem.W.Fast.tw16990911052394823892 : Unit := ()
def PySem.W.Fast.tw2163383249091324338 : Unit := ()
def PySem.W.Fast.tw7450410933583915037 : Unit := ()
def PySem.W.Fast.tw866753523630118176 : Unit := ()
def PySem.W.Fast.tw16892755870453355654 : Unit := ()
def PySem.W.Fast.tw11574749382303732129 : Unit := ()
def PySem.W.Fast.tw9708084572090585927 : Unit := ()
def PySem.W.Fast.tw3592963101778747688 : Unit := ()
def PySem.W.Fast.tw7359176598868038572 : Unit := ()
def PySem.W.Fast.tw6914973254425024537 : Unit := ()
def PySem.W.Fast.tw3517659389620233946 : Unit := ()
def PySem.W.Fast.tw11680364157816921406 : Unit := ()
def PySem.W.Fast.tw9118909323559855559 : Unit := ()
def PySem.W.Fast.tw10850241256053922962 : Unit := ()
def PySem.W.Fast.tw5220638402003237401 : Unit := ()
def PySem.W.Fast.tw155796367062788539 : Unit := ()
def PySem.W.Fast.tw5235377024615654366 : Unit := ()
def PySem.W.Fast.tw15519044663243162 : Unit := ()
def PySem.W.Fast.tw5509243817365875694 : Unit := ()
def PySem.W.Fast.tw12205220381463303004 : Unit := ()
def PySem.W.Fast.tw11038649766673748135 : Unit := ()
def PySem.W.Fast.tw2188713979506227130 : Unit := ()
def PySem.W.Fast.tw8974647782542615843 : Unit := ()
def PySem.W.Fast.tw10936825754989422452 : Unit := ()
def PySem.W.Fast.tw11685103298309273704 : Unit := ()
def PySem.W.Fast.tw9530165140504694096 : Unit := ()
def PySem.W.Fast.tw6758095147507031849 : Unit := ()
def PySem.W.Fast.tw18387301887156056100 : Unit := ()
def PySem.W.Fast.tw15813953411731751859 : Unit := ()
def PySem.W.Fast.tw237956066813044879 : Unit := ()
def PySem.W.Fast.tw17459483908815156936 : Unit := ()
def PySem.W.Fast.tw4547263656045211902 : Unit := ()
def PySem.W.Fast.tw2426512091795374228 : Unit := ()
def PySem.W.Fast.tw10666178172766012934 : Unit := ()
def PySem.W.Fast.tw653634095820877091 : Unit := ()
def PySem.W.Fast.tw11602563795557066727 : Unit := ()
def PySem.W.Fast.tw11981671711142832562 : Unit := ()
def PySem.W.Fast.tw16166811637271335081 : Unit := ()
def PySem.W.Fast.tw7479473664527477403 : Unit := ()
def PySem.W.Fast.tw4262710143315350813 : Unit := ()
def PySem.W.Fast.tw7222026200292489539 : Unit := ()
def PySem.W.Fast.tw5151427541499819980 : Unit := ()
def PySem.W.Fast.tw9904284543522839595 : Unit := ()
def PySem.W.Fast.tw1965467570038538861 : Unit := ()
def PySem.W.Fast.tw3649467238525066566 : Unit := ()
def PySem.W.Fast.tw17075428851503535791 : Unit := ()
def PySem.W.Fast.tw4210402401304483498 : Unit := ()
def PySem.W.Fast.tw2582647598253253765 : Unit := ()
def PySem.W.Fast.tw17236431468099092955 : Unit := ()
def PySem.W.Fast.tw5816464309941679386 : Unit := ()
def PySem.W.Fast.tw15179874043344732309 : Unit := ()
def PySem.W.Fast.tw2224275275280864733 : Unit := ()
def PySem.W.Fast.tw16563696803504306401 : Unit := ()
def PySem.W.Fast.tw5846724144622163949 : Unit := ()
def PySem.W.Fast.tw14090607467860909937 : Unit := ()
def PySem.W.Fast.tw15809288995190292154 : Unit := ()
def PySem.W.Fast.tw10975258005880564623 : Unit := ()
def PySem.W.Fast.tw3454078756254095995 : Unit := ()
def PySem.W.Fast.tw7089914071793817892 : Unit := ()
def PySem.W.Fast.tw8072606006968693994 : Unit := ()
def PySem.W.Fast.tw4034843825742346223 : Unit := ()
def PySem.W.Fast.tw6753515638054432580 : Unit := ()
def PySem.W.Fast.tw8554569606990759544 : Unit := ()
def PySem.W.Fast.tw10542354567022687121 : Unit := ()
def PySem.W.Fast.tw12567967771585917499 : Unit := ()
def PySem.W.Fast.tw7498475546723387301 : Unit := ()
def PySem.W.Fast.tw14253863575087516722 : Unit := ()
def PySem.W.Fast.tw6547064557888815952 : Unit := ()
def PySem.W.Fast.tw10534674430601561704 : Unit := ()
def PySem.W.Fast.tw14991938736641231051 : Unit := ()
def PySem.W.Fast.tw6438200608590448401 : Unit := ()
def PySem.W.Fast.tw6777444873054372322 : Unit := ()
def PySem.W.Fast.tw9543105597606604266 : Unit := ()
def PySem.W.Fast.tw8810345749351933234 : Unit := ()
def PySem.W.Fast.tw17468003186329896082 : Unit := ()
def PySem.W.Fast.tw16504931120974978709 : Unit := ()
def PySem.W.Fast.tw8629706984800051749 : Unit := ()
def PySem.W.Fast.tw3915334114086364011 : Unit := ()
def PySem.W.Fast.tw6372321343962677249 : Unit := ()
def PySem.W.Fast.tw13466809541293497523 : Unit := ()
def PySem.W.Fast.tw3423108421784013250 : Unit := ()
def PySem.W.Fast.tw14985691977182316158 : Unit := ()
def PySem.W.Fast.tw15363448158510724075 : Unit := ()
def PySem.W.Fast.tw2492691594677432229 : Unit := ()
def PySem.W.Fast.tw9538916232090790763 : Unit := ()
def PySem.W.Fast.tw18250630340252331777 : Unit := ()
def PySem.W.Fast.tw11469767736704010948 : Unit := ()
def PySem.W.Fast.tw11996635660059053840 : Unit := ()
def PySem.W.Fast.tw3225856410608319554 : Unit := ()
def PySem.W.Fast.tw15548534114043604238 : Unit := ()
def PySem.W.Fast.tw329690989522878940 : Unit := ()
def PySem.W.Fast.tw2840405936431022426 : Unit := ()
def PySem.W.Fast.tw432845575545580874 : Unit := ()
def PySem.W.Fast.tw10700498381350127374 : Unit := ()
def PySem.W.Fast.tw5403664691879234166 : Unit := ()
def PySem.W.Fast.tw6904725325551171583 : Unit := ()
def PySem.W.Fast.tw2910961906479466020 : Unit := ()
def PySem.W.Fast.tw7004219018124848901 : Unit := ()
def PySem.W.Fast.tw2343044167106550790 : Unit := ()
def PySem.W.Fast.tw12226536358154005313 : Unit := ()
def PySem.W.Fast.tw4777496961388951989 : Unit := ()
def PySem.W.Fast.tw6407079438882142776 : Unit := ()
def PySem.W.Fast.tw10700060132529643797 : Unit := ()
def PySem.W.Fast.tw2350671267126380360 : Unit := ()
def PySem.W.Fast.tw5085938024448677099 : Unit := ()
def PySem.W.Fast.tw2010487311617111933 : Unit := ()
def PySem.W.Fast.tw13879043355086172653 : Unit := ()
def PySem.W.Fast.tw8198620692233108275 : Unit := ()
def PySem.W.Fast.tw6363840749236719846 : Unit := ()
def PySem.W.Fast.tw18314759136453339306 : Unit := ()
def PySem.W.Fast.tw15449809172705877969 : Unit := ()
def PySem.W.Fast.tw9974745139493322713 : Unit := ()
def PySem.W.Fast.tw963594404249161016 : Unit := ()
def PySem.W.Fast.tw4311184227210813901 : Unit := ()
def PySem.W.Fast.tw5862958170526040837 : Unit := ()
def PySem.W.Fast.tw3989035424958009924 : Unit := ()
def PySem.W.Fast.tw10333855171414595313 : Unit := ()
open PySem PySem.W PyProof.Rows
set_option maxRecDepth 100000 in
set_option maxHeartbeats 0 in
theorem PySem.Challenge.cw_wirefloor_k47_first_bad_row_holds : PySem.Challenge.rw_wirefloor_k47_first_bad_row.Holds := by
  w_on; o_law; k_head; (case hw => w_witness2)
  k_fill
  refine K47.walk (l := PySem.Challenge.rw_wirefloor_k47_first_bad_row) rfl rfl (fun w h Y => PySem.W.kIn_of Y) ?F
  case F =>
    intro w mg fa h KX G hmg
    refine' K47.all_mk KX G hmg ?n_BadAnswer ?n_Draft ?n_Reading ?a0 ?l0 ?c0 ?k0 ?a1 ?l1 ?c1 ?k1 ?a2 ?l2 ?c2 ?k2 ?a3 ?l3 ?c3 ?k3 ?a4 ?l4 ?c4 ?k4 ?a5 ?l5 ?c5 ?k5 ?a6 ?i6 ?l6 ?c6 ?k6 ?a7 ?i7 ?l7 ?c7 ?k7 ?a8 ?i8 ?l8 ?c8 ?k8 ?a9 ?i9 ?l9 ?c9 ?k9 ?a10 ?i10 ?l10 ?c10 ?k10 ?a11 ?i11 ?l11 ?c11 ?k11 ?a12 ?i12 ?l12 ?c12 ?k12 ?a13 ?i13 ?l13 ?c13 ?k13 ?a14 ?i14 ?l14 ?c14 ?k14 ?a15 ?l15 ?c15 ?k15 ?a16 ?i16 ?l16 ?c16 ?k16 ?a17 ?i17 ?l17 ?c17 ?k17 ?a18 ?i18 ?l18 ?c18 ?k18 ?a19 ?i19 ?l19 ?c19 ?k19 ?a20 ?i20 ?l20 ?c20 ?k20 ?xi20 ?kc20 ?a21 ?l21 ?c21 ?k21 ?a22 ?l22 ?c22 ?k22 ?a23 ?l23 ?c23 ?k23 ?a24 ?l24 ?c24 ?k24 ?a25 ?l25 ?c25 ?k25 ?a26 ?l26 ?c26 ?k26 ?a27 ?l27 ?c27 ?k27 ?a28 ?l28 ?c28 ?k28 ?a29 ?l29 ?c29 ?k29 ?a30 ?l30 ?c30 ?k30 ?a31 ?l31 ?c31 ?k31 ?a32 ?l32 ?c32 ?k32 ?a33 ?l33 ?c33 ?k33 ?a34 ?l34 ?c34 ?k34 ?a35 ?l35 ?c35 ?k35 ?a36 ?l36 ?c36 ?k36 ?a37 ?l37 ?c37 ?k37 ?a38 ?l38 ?c38 ?k38 ?a39 ?l39 ?c39 ?k39 ?a40 ?l40 ?c40 ?k40 ?a41 ?l41 ?c41 ?k41 ?pg_Draft ?hd_Draft ?po_Draft ?sa_Draft ?mk_Draft ?kc_Draft ?na_Draft_kind ?na_Draft_numbers ?na_Draft_wires ?na_Draft_hills ?na_Draft_heights ?na_Draft_cut ?na_Draft_spots ?na_Draft_last ?pg_Reading ?hd_Reading ?po_Reading ?sa_Reading ?mk_Reading ?kc_Reading ?na_Reading_rested ?na_Reading_part ?na_Reading_name ?na_Reading_drafts ?n_WireError ?r_WireError ?f_WireError ?s_WireError ?n_BadRow ?ga_BadAnswer ?gt_BadAnswer ?cl_BadAnswer ?gg_BadAnswer ?tk_BadAnswer ?ob_BadAnswer ?be_BadAnswer ?sa_BadAnswer ?na_BadAnswer ?hd_BadAnswer ?z_len ?z_range ?z_isinstance ?z_int ?z_bool ?z_str ?z_any ?z_all ?z_tuple ?z_enumerate ?z_sorted ?z_ValueError ?q_LETTERS ?q_FIGURES ?q_MOST_SIGNS ?q_MOST_FIGURES ?q_PARTS ?qt_PARTS ?q_NUMBERS_OF_KINDS ?qd_NUMBERS_OF_KINDS ?qh0_NUMBERS_OF_KINDS ?qh1_NUMBERS_OF_KINDS ?qh2_NUMBERS_OF_KINDS ?qh3_NUMBERS_OF_KINDS ?qs_NUMBERS_OF_KINDS ?ii ?ib ?bw ?bv ?br ?xb
    (case n_BadAnswer => k_is)
    (case n_Draft => k_is)
    (case n_Reading => k_is)
    (case a0 => k_is)
    (case l0 => k_is)
    (case c0 => k_is)
    (case k0 => k_is)
    (case a1 => k_is)
    (case l1 => k_is)
    (case c1 => k_is)
    (case k1 => k_is)
    (case a2 => k_is)
    (case l2 => k_is)
    (case c2 => k_is)
    (case k2 => k_is)
    (case a3 => k_is)
    (case l3 => k_is)
    (case c3 => k_is)
    (case k3 => k_is)
    (case a4 => k_is)
    (case l4 => k_is)
    (case c4 => k_is)
    (case k4 => k_is)
    (case a5 => k_is)
    (case l5 => k_is)
    (case c5 => k_is)
    (case k5 => k_is)
    (case a6 => k_is)
    (case i6 => k_is)
    (case l6 => k_is)
    (case c6 => k_is)
    (case k6 => k_is)
    (case a7 => k_is)
    (case i7 => k_is)
    (case l7 => k_is)
    (case c7 => k_is)
    (case k7 => k_is)
    (case a8 => k_is)
    (case i8 => k_is)
    (case l8 => k_is)
    (case c8 => k_is)
    (case k8 => k_is)
    (case a9 => k_is)
    (case i9 => k_is)
    (case l9 => k_is)
    (case c9 => k_is)
    (case k9 => k_is)
    (case a10 => k_is)
    (case i10 => k_is)
    (case l10 => k_is)
    (case c10 => k_is)
    (case k10 => k_is)
    (case a11 => k_is)
    (case i11 => k_is)
    (case l11 => k_is)
    (case c11 => k_is)
    (case k11 => k_is)
    (case a12 => k_is)
    (case i12 => k_is)
    (case l12 => k_is)
    (case c12 => k_is)
    (case k12 => k_is)
    (case a13 => k_is)
    (case i13 => k_is)
    (case l13 => k_is)
    (case c13 => k_is)
    (case k13 => k_is)
    (case a14 => k_is)
    (case i14 => k_is)
    (case l14 => k_is)
    (case c14 => k_is)
    (case k14 => k_is)
    (case a15 => k_is)
    (case l15 => k_is)
    (case c15 => k_is)
    (case k15 => k_is)
    (case a16 => k_is)
    (case i16 => k_is)
    (case l16 => k_is)
    (case c16 => k_is)
    (case k16 => k_is)
    (case a17 => k_is)
    (case i17 => k_is)
    (case l17 => k_is)
    (case c17 => k_is)
    (case k17 => k_is)
    (case a18 => k_is)
    (case i18 => k_is)
    (case l18 => k_is)
    (case c18 => k_is)
    (case k18 => k_is)
    (case a19 => k_is)
    (case i19 => k_is)
    (case l19 => k_is)
    (case c19 => k_is)
    (case k19 => k_is)
    (case a20 => k_is)
    (case i20 => k_is)
    (case l20 => k_is)
    (case c20 => k_is)
    (case k20 => k_is)
    (case xi20 => kernel_rfl)
    (case kc20 => k_is)
    (case a21 => k_is)
    (case l21 => k_is)
    (case c21 => k_is)
    (case k21 => k_is)
    (case a22 => k_is)
    (case l22 => k_is)
    (case c22 => k_is)
    (case k22 => k_is)
    (case a23 => k_is)
    (case l23 => k_is)
    (case c23 => k_is)
    (case k23 => k_is)
    (case a24 => k_is)
    (case l24 => k_is)
    (case c24 => k_is)
    (case k24 => k_is)
    (case a25 => k_is)
    (case l25 => k_is)
    (case c25 => k_is)
    (case k25 => k_is)
    (case a26 => k_is)
    (case l26 => k_is)
    (case c26 => k_is)
    (case k26 => k_is)
    (case a27 => k_is)
    (case l27 => k_is)
    (case c27 => k_is)
    (case k27 => k_is)
    (case a28 => k_is)
    (case l28 => k_is)
    (case c28 => k_is)
    (case k28 => k_is)
    (case a29 => k_is)
    (case l29 => k_is)
    (case c29 => k_is)
    (case k29 => k_is)
    (case a30 => k_is)
    (case l30 => k_is)
    (case c30 => k_is)
    (case k30 => k_is)
    (case a31 => k_is)
    (case l31 => k_is)
    (case c31 => k_is)
    (case k31 => k_is)
    (case a32 => k_is)
    (case l32 => k_is)
    (case c32 => k_is)
    (case k32 => k_is)
    (case a33 => k_is)
    (case l33 => k_is)
    (case c33 => k_is)
    (case k33 => k_is)
    (case a34 => k_is)
    (case l34 => k_is)
    (case c34 => k_is)
    (case k34 => k_is)
    (case a35 => k_is)
    (case l35 => k_is)
    (case c35 => k_is)
    (case k35 => k_is)
    (case a36 => k_is)
    (case l36 => k_is)
    (case c36 => k_is)
    (case k36 => k_is)
    (case a37 => k_is)
    (case l37 => k_is)
    (case c37 => k_is)
    (case k37 => k_is)
    (case a38 => k_is)
    (case l38 => k_is)
    (case c38 => k_is)
    (case k38 => k_is)
    (case a39 => k_is)
    (case l39 => k_is)
    (case c39 => k_is)
    (case k39 => k_is)
    (case a40 => k_is)
    (case l40 => k_is)
    (case c40 => k_is)
    (case k40 => k_is)
    (case a41 => k_is)
    (case l41 => k_is)
    (case c41 => k_is)
    (case k41 => k_is)
    (case pg_Draft => k_is)
    (case hd_Draft => k_is)
    (case po_Draft => k_is)
    (case sa_Draft => k_is)
    (case mk_Draft => k_is)
    (case kc_Draft => k_is)
    (case na_Draft_kind => k_is)
    (case na_Draft_numbers => k_is)
    (case na_Draft_wires => k_is)
    (case na_Draft_hills => k_is)
    (case na_Draft_heights => k_is)
    (case na_Draft_cut => k_is)
    (case na_Draft_spots => k_is)
    (case na_Draft_last => k_is)
    (case pg_Reading => k_is)
    (case hd_Reading => k_is)
    (case po_Reading => k_is)
    (case sa_Reading => k_is)
    (case mk_Reading => k_is)
    (case kc_Reading => k_is)
    (case na_Reading_rested => k_is)
    (case na_Reading_part => k_is)
    (case na_Reading_name => k_is)
    (case na_Reading_drafts => k_is)
    (case n_WireError => k_is)
    (case r_WireError => k_is)
    (case f_WireError => k_is)
    (case s_WireError => k_is)
    (case n_BadRow => k_is)
    (case ga_BadAnswer => k_is)
    (case gt_BadAnswer => k_is)
    (case cl_BadAnswer => k_is)
    (case gg_BadAnswer => k_is)
    (case tk_BadAnswer => k_is)
    (case ob_BadAnswer => k_is)
    (case be_BadAnswer => k_is)
    (case sa_BadAnswer => k_is)
    (case na_BadAnswer => k_is)
    (case hd_BadAnswer => k_is)
    (case z_len => k_is)
    (case z_range => k_is)
    (case z_isinstance => k_is)
    (case z_int => k_is)
    (case z_bool => k_is)
    (case z_str => k_is)
    (case z_any => k_is)
    (case z_all => k_is)
    (case z_tuple => k_is)
    (case z_enumerate => k_is)
    (case z_sorted => k_is)
    (case z_ValueError => k_is)
    (case q_LETTERS => k_is)
    (case q_FIGURES => k_is)
    (case q_MOST_SIGNS => k_is)
    (case q_MOST_FIGURES => k_is)
    (case q_PARTS => k_is)
    (case qt_PARTS => k_is)
    (case q_NUMBERS_OF_KINDS => k_is)
    (case qd_NUMBERS_OF_KINDS => k_is)
    (case qh0_NUMBERS_OF_KINDS => rfl)
    (case qh1_NUMBERS_OF_KINDS => rfl)
    (case qh2_NUMBERS_OF_KINDS => rfl)
    (case qh3_NUMBERS_OF_KINDS => rfl)
    (case qs_NUMBERS_OF_KINDS => rfl)
    (case ii => kit_is)
    (case ib => kit_is)
    (case bw => kit_is)
    (case bv => kit_is)
    (case br => kit_is)
    (case xb => kts_exm)
