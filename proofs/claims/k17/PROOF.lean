import PyProof.Rows.All
import Wide.All
import OpenK.AllK
import Wide.FinOn
import Lean
import PyProof.EqAt
import PyProof.EqKinds
import PyProof.TupleCall
import PyProof.SetKind
import PyProof.SetNew
import PyProof.SetRoads
import PyProof.Walks
import PyProof.Rows.SetListFold
import PyProof.Seq
import PyProof.Rows.SortShell
import PyProof.TupleIter
import PyProof.CollectWalk
import PyProof.ReprRoads
import PyProof.EqLayable
import PyProof.ReprLen
import PyProof.WalkInts
import PyProof.SeqI3
import PyProof.ListMulRoad
import PyProof.ZipIter
import PyProof.EnumFor
import PyProof.EnumMake
import PyProof.Draws
import PyProof.Rows.ZipGen
import PyProof.LayNew
import PyProof.WalksMore
import PyProof.IsiTupleAll
import PyProof.Rows.Range3
import PyProof.Rows.SumAny
import PyProof.Rows.CallKwBuiltin
import PyProof.MinMaxWalk
import PySem.Challenge.RW_boxcover_k17_sizes_told
set_option Elab.async false
set_option maxRecDepth 10000
set_option linter.all false
set_option maxHeartbeats 4000000
namespace PySem.W.Fast
def tw13343541407035914617:=0
def tw6306211638624906340:=0
def tw1667163199495403060:=0
def tw12869704411754742800:=0
def tw12142550282788467268:=0
def tw9335945366609758434:=0
def tw392384962998659940:=0
def tw13649708710407623549:=0
def tw14819532179846096652:=0
def tw7934511555380993605:=0
def tw16955272238408678426:=0
def tw472111525006606351:=0
def tw16624669329468681064:=0
def tw9699495617257405294:=0
def tw2324208291189904406:=0
def tw6490920499887901534:=0
def tw2841023107656591696:=0
def tw3088883816524417285:=0
def tw2171512599496788565:=0
def tw5375068194054723913:=0
def tw2505312545597050479:=0
def tw1375810035060611486:=0
def tw12677858898759927561:=0
def tw18151968820813191189:=0
def tw14150443170091434756:=0
def tw4717138991044540021:=0
def tw5752785237872975219:=0
def tw9692129181125765026:=0
def tw14151942319592326454:=0
def tw4983082251865571386:=0
def tw12308327553322630045:=0
def tw3895330353135349040:=0
def tw3110351712537243236:=0
def tw6398221269016360026:=0
def tw14628388884936521860:=0
def tw10428977583475275073:=0
def tw3125942454028825679:=0
def tw6977749476816724714:=0
def tw16583484946810590909:=0
def tw1887912943071114770:=0
def tw7491474806500408234:=0
def tw7069389984400988086:=0
def tw4957289874594137030:=0
def tw11569163567790429040:=0
def tw4464276477927335927:=0
def tw1766090884189857302:=0
def tw868807945301503815:=0
def tw7175788257248665200:=0
def tw18407341058097444993:=0
def tw2456592403787802936:=0
def tw1552190766111498860:=0
def tw4227085036320239635:=0
def tw6209938675471514848:=0
def tw13515260500943309653:=0
def tw11239377200981229329:=0
def tw17299512728274682831:=0
def tw8332345200422227684:=0
def tw1121417667989110149:=0
def tw17611943301161513553:=0
def tw17908134585925576219:=0
def tw7784085603867881284:=0
def tw1897785033853623303:=0
def tw17035025441898306987:=0
def tw15631024203996680805:=0
def tw14207477409547748070:=0
def tw11091675322778395648:=0
def tw17471865911831330999:=0
def tw4503139768031285414:=0
def tw14708339291152993038:=0
def tw7430278214446667908:=0
def tw3335933082972917381:=0
def tw1345585614288291918:=0
def tw17622847363408048682:=0
def tw18261698749006712417:=0
def tw5471325451956264446:=0
def tw10945092229057357090:=0
def tw8693438835481415166:=0
def tw16661272370581069356:=0
def tw831882566977375341:=0
def tw12357201158759068429:=0
def tw18406447421189908172:=0
def tw15325808821052191397:=0
def tw9081407101509311335:=0
def tw8827602575685813546:=0
def tw611784800697204399:=0
def tw15072760145045867840:=0
def tw14392979144560944788:=0
def tw645374049372062842:=0
def tw612991649407851919:=0
def tw13791818781058975586:=0
def tw5047041080891414672:=0
def tw2441994543946225325:=0
def tw14720567810205282536:=0
def tw10309915882041341002:=0
def tw1011964619258858691:=0
def tw16673350726150935507:=0
def tw4615264479773419179:=0
def tw6477383785037688284:=0
def tw2891648181257533004:=0
def tw9930563658518892681:=0
def tw12720915390005258816:=0
def tw12568541576487918779:=0
def tw13499764245987739686:=0
def tw6093589982193236787:=0
def tw16352256768396235021:=0
def tw17651131305213990218:=0
def tw4581569620115335465:=0
def tw1925055486789459759:=0
def tw4994996215188552244:=0
def tw8372126858619555694:=0
end PySem.W.Fast
section
set_option maxRecDepth 100000
namespace L2
open PySem PySem.Spec PyProof.Rows
abbrev Key:=Sum Int Str
def nG:Key->Value->Bool
 |.inl k,v=>Value.isInt k v
 |.inr x,v=>Value.isStrOf x v
def yh(w:World):Key->Int
 |.inl k=>hashInt k
 |.inr x=>hashStr w x
theorem GC:∀{k:Key} {v:Value},nG k v=true->(∃i t,k=Sum.inl i/\v=Value.int i t)∨(∃x t,k=Sum.inr x/\v=Value.str x t)
 |.inl i,v,h=>by
  obtain⟨t,e⟩:=Value.isInt_shape (k:=i) (v:=v) h
  exact .inl ⟨i,t,rfl,e⟩
 |.inr x,v,h=>by
  obtain⟨t,e⟩:=Value.isStrOf_shape (x:=x) (v:=v) h
  exact .inr ⟨x,t,rfl,e⟩
theorem vI(a b:Int):decide ((Sum.inl a:Key)=Sum.inl b)=(a==b):=by
 by_cases e:a=b
 .subst e;simp
 .have h:¬(Sum.inl a:Key)=Sum.inl b:=fun q=>e (Sum.inl.inj q)
  rw[decide_eq_false h]
  exact(beq_eq_false_iff_ne.mpr e).symm
theorem vD(a b:Str):decide ((Sum.inr a:Key)=Sum.inr b)=decide (a=b):=by
 by_cases e:a=b
 .subst e;simp
 .have h:¬(Sum.inr a:Key)=Sum.inr b:=fun q=>e (Sum.inr.inj q)
  rw[decide_eq_false h,decide_eq_false e]
theorem vH(a:Int)(b:Str):decide ((Sum.inl a:Key)=Sum.inr b)=false:=decide_eq_false (fun q=>nomatch q)
theorem vG(a:Str)(b:Int):decide ((Sum.inr a:Key)=Sum.inl b)=false:=decide_eq_false (fun q=>nomatch q)
def Vv(prog:Program)(w:World):PySem.KeyKind prog w Key where
 is:=nG
 hash:=yh w
 inj:=fun v a b ha hb=>by
  rcases GC ha with ⟨i,t,rfl,rfl⟩|⟨x,t,rfl,rfl⟩
  .rcases GC hb with ⟨j,u,rfl,e⟩|⟨y,u,rfl,e⟩
   .injection e with e1 _;rw[e1]
   .exact nomatch e
  .rcases GC hb with ⟨j,u,rfl,e⟩|⟨y,u,rfl,e⟩
   .exact nomatch e
   .injection e with e1 _;rw[e1]
 byValue:=fun k v h=>by
  rcases GC h with ⟨i,t,rfl,rfl⟩|⟨x,t,rfl,rfl⟩<;>rfl
 pyHash:=fun hv h=>by
  rcases GC hv with ⟨i,t,rfl,rfl⟩|⟨x,t,rfl,rfl⟩
  .exact wpAny_pyHash_int h
  .exact wpAny_pyHash_str h
 eqBool:=fun hu hv h=>by
  rcases GC hu with ⟨i,t,rfl,rfl⟩|⟨x,t,rfl,rfl⟩
  .rcases GC hv with ⟨j,u,rfl,rfl⟩|⟨y,u,rfl,rfl⟩
   .rw[vI] at h;exact wpAny_eqBool_int h
   .rw[vH] at h;exact SeqAt.EqAt.int_str i t y u _ _ _ _ h
  .rcases GC hv with ⟨j,u,rfl,rfl⟩|⟨y,u,rfl,rfl⟩
   .rw[vG] at h;exact SeqAt.EqAt.str_int x t j u _ _ _ _ h
   .rw[vD] at h;exact wpAny_eqBool_str h
 «strs»:=fun k x t v h=>by
  rcases GC h with ⟨i,u,rfl,e⟩|⟨y,u,rfl,e⟩
  .exact nomatch e
  .injection e with e1 _
   subst e1
   cases v<;>rfl
end L2
namespace L2
open PySem PySem.Spec PyProof.Rows
inductive V where
 |non|bl (b:Bool)|int (i:Int)|str (x:Str)|byt (b:Array UInt8)|flt (b:UInt64)|ref (a:Addr)|ty (n:String)
 deriving DecidableEq
def RelV:V->Value->Prop
 |.non,u=>u=Value.none
 |.bl b,u=>u=Value.bool b
 |.int i,u=>∃t,u=Value.int i t
 |.str x,u=>∃t,u=Value.str x t
 |.byt b,u=>∃t,u=Value.bytes b t
 |.flt b,u=>∃t,u=Value.float b t
 |.ref a,u=>u=Value.ref a
 |.ty n,u=>u=Value.type n
abbrev Vals:List V->List Value->Prop:=Paired RelV
theorem Vals.length{xs:List V}{us:List Value}(r:Vals xs us):xs.length=us.length:=Paired.length r
theorem Vals.get:∀{xs:List V} {us:List Value} {i:Nat} {x:V},Vals xs us->xs[i]?=some x->∃u,us[i]?=some u/\RelV x u
 |_,_,_,_,.nil,e=>by simp at e
 |_,_,0,_,.cons r _,e=>by simp at e;subst e;exact⟨_,rfl,r⟩
 |_,_,i+1,x,.cons _ t,e=>by
  obtain⟨u,h1,h2⟩:=Vals.get (i:=i) (x:=x) t (by simpa using e)
  exact⟨u,by simpa using h1,h2⟩
theorem Vals.set{x:V}{u:Value}(r:RelV x u):∀{xs:List V} {us:List Value} (i:Nat),Vals xs us->Vals (xs.set i x) (us.set i u)
 |_,_,_,.nil=>.nil
 |_,_,0,.cons _ t=>.cons r t
 |_,_,i+1,.cons q t=>.cons q (Vals.set r i t)
theorem Vals.append:∀{xs ys:List V} {us ws:List Value},Vals xs us->Vals ys ws->Vals (xs++ys) (us++ws)
 |_,_,_,_,.nil,s=>s
 |_,_,_,_,.cons r t,s=>.cons r (Vals.append t s)
theorem Vals.take:∀{xs:List V} {us:List Value} (n:Nat),Vals xs us->Vals (xs.take n) (us.take n)
 |_,_,0,_=>.nil
 |_,_,_+1,.nil=>.nil
 |_,_,n+1,.cons r t=>.cons r (Vals.take n t)
theorem Vals.drop:∀{xs:List V} {us:List Value} (n:Nat),Vals xs us->Vals (xs.drop n) (us.drop n)
 |_,_,0,r=>r
 |_,_,_+1,.nil=>.nil
 |_,_,n+1,.cons _ t=>Vals.drop n t
def jD:Option V->Option Value->Prop
 |some v,some u=>RelV v u
 |none,none=>True
 |_,_=>False
def KV{κ:Type}:List (κ×V)->List (κ×Value)->Prop:=Paired fun(p:κ×V) (q:κ×Value)=>p.1=q.1/\RelV p.2 q.2
def kV:Key->V
 |.inl i=>.int i
 |.inr x=>.str x
inductive HO where
  /-- a list -/
 |lst (xs:List V)
  /-- a tuple (never changes) -/
 |tup (xs:List V)
  /-- a dict whose keys are ints and texts; one whose keys are tuples of ints and texts (the empty one is both) -/
 |dK (kvs:List (Key×V))|dT (kvs:List (List Key×V))
  /-- a set of ints: its members, its size -/
 |set (S:Int->Bool) (n:Nat)
  /-- an instance of the class at C, its dict at dx, its attributes -/
 |ins (C dx:Addr) (fs:List (Str×V))
  /-- the dict of the instance at x -/
 |own (x:Addr)
  /-- the dict of an exception -/
 |xd (fs:List (Str×V))
  /-- a bound method, f of x -/
 |met (f x:Addr)
  /-- a range object lo, lo + 1, .. below hi -/
 |rng (lo hi:Int)
  /-- a thing that is known to the object (the script; a dict while a loop walks it): read, never written while it is so -/
 |frz (o:Obj) (u:HO)
  /-- a code object's table -/
 |tbl (ps:Array Value)
  /-- any other thing, by what is true of its one object (a def of one's own: SetO a S n := HO.ext fun h => ..) -/
 |ext (φ:Heap->Prop)
abbrev Hp:=Addr->Option HO
def upd(H:Hp)(a:Addr)(o:HO):Hp:=fun b=>if b=a then some o else H b
theorem CQ{H:Hp}{a:Addr}{o:HO}:upd H a o a=some o:=by unfold upd;rw[if_pos rfl]
theorem Bo{H:Hp}{a b:Addr}{o:HO}(h:b≠a):upd H a o b=H b:=by unfold upd;rw[if_neg h]
theorem Dm{H:Hp}{a b:Addr}{o:HO}(h:H a=some o)(h':H b=none):a≠b:=by
 intro e;subst e;rw[h] at h';cases h'
section
variable(P:Program)(w:World)
def Ed(H:Hp)(h:Heap)(a:Addr):HO->Prop
 |.lst xs=>xs.length<=sizeLine/\∃(its:List Value)(n:Nat),Vals xs its/\h.get? a=some { cls:=.type "list",data:=.seq its.toArray n }
 |.tup xs=>xs.length<=sizeLine/\∃its:List Value,Vals xs its/\IsTup h a its.toArray
 |.dK kvs=>kvs.length<=sizeLine/\(a==sysModules)=false/\∃vs,KV kvs vs/\h.DictOf (Vv P w) a vs
 |.dT kvs=>kvs.length<=sizeLine/\(a==sysModules)=false/\∃xs:List (List Key×Addr×Value),
   Paired (fun(p:List Key×V) (q:List Key×Addr×Value)=>p.1=q.1/\H q.2.1=some (.tup (p.1.map kV))/\RelV p.2 q.2.2) kvs xs /\
   ∃o es ep,h.get? a=some o/\o.ExactDict/\o.data=.dict es ep/\es.toList=xs.map (entryOfKey (tupleKind (Vv P w)))/\(xs.map (·.1)).Nodup
 |.set S n=>h.SetOf (intKind P w) a S n
 |.ins C dx fs=>H dx=some (.own a)/\fs.length<=1000/\dx≠a/\h.get? a=some (PySem.W.instObj C dx) /\
   ∃mA,h.Ns1 dx mA/\(∀f,jD (fs.lookup f) (mA f))/\PySem.Within mA (fs.map (·.1))
 |.own _=>∃o,h.get? a=some o
 |.xd fs=>∃mA,h.Ns1 a mA/\∀f,jD (fs.lookup f) (mA f)
 |.rng lo hi=>∃t u v,h.get? a=some { cls:=.type "range",data:=.fields #[.int lo t,.int hi u,.int 1 v] }
 |.frz o u=>h.get? a=some o/\Ed H h a u
 |.tbl ps=>h.get? a=some { cls:=.none,data:=.fields ps }
 |.met f x=>h.get? a=some (PySem.W.methodObj (.ref f) (.ref x))
 |.ext φ=>φ h/\(∃o,h.get? a=some o)/\∀h1 h2:Heap,φ h1->(∀o,h1.get? a=some o->h2.get? a=some o)->φ h2
def HOk(H:Hp)(h:Heap):Prop:=∀a o,H a=some o->Ed P w H h a o
end
section
variable{P:Program}{w:World}{H H':Hp}{h h':Heap}{a:Addr}{o:HO}
theorem Ed.lt(x:Ed P w H h a o):a<h.objs.size:=by
 cases o with
 |lst xs=>obtain⟨_,_,_,_,e⟩:=x;exact Heap.lt_size e
 |tup xs=>obtain⟨_,_,_,p⟩:=x;exact p.lt
 |dK kvs=>obtain⟨_,_,_,_,o,_,_,e,_⟩:=x;exact Heap.lt_size e
 |dT kvs=>obtain⟨_,_,_,_,o,_,_,e,_⟩:=x;exact Heap.lt_size e
 |set S n=>obtain⟨o,_,_,_,e,_⟩:=x;exact Heap.lt_size e
 |ins C dx fs=>obtain⟨_,_,_,e,_⟩:=x;exact Heap.lt_size e
 |own y=>obtain⟨_,e⟩:=x;exact Heap.lt_size e
 |xd fs=>obtain⟨_,⟨_,_,_,e,_⟩,_⟩:=x;exact Heap.lt_size e
 |rng lo hi=>obtain⟨_,_,_,e⟩:=x;exact Heap.lt_size e
 |frz ob u=>obtain⟨e,_⟩:=x;exact Heap.lt_size e
 |tbl ps=>exact Heap.lt_size (show h.get? a=some _ from x)
 |met f y=>exact Heap.lt_size (show h.get? a=some _ from x)
 |ext φ=>obtain⟨_,⟨_,e⟩,_⟩:=x;exact Heap.lt_size e
theorem Paired.tO{α β:Type}{F G:α->β->Prop}:∀{l₁:List α} {l₂:List β},Paired F l₁ l₂->(∀a b,F a b->G a b)->Paired G l₁ l₂
 |_,_,.nil,_=>.nil
 |_,_,.cons r t,f=>.cons (f _ _ r) (Paired.tO t f)
theorem Ed.stay(x:Ed P w H h a o)(k:∀b u,(b=a∨H b=some (.own a))->h.get? b=some u->h'.get? b=some u)
  (ho:∀b,H b=some (.own a)->H' b=some (.own a)) (ht:∀b xs,H b=some (.tup xs)->H' b=some (.tup xs)):Ed P w H' h' a o:=by
 induction o with
 |lst xs=>obtain⟨z,its,n,r,e⟩:=x;exact⟨z,its,n,r,k _ _ (.inl rfl) e⟩
 |tup xs=>obtain⟨z,its,r,ob,e,c⟩:=x;exact⟨z,its,r,ob,k _ _ (.inl rfl) e,c⟩
 |dK kvs=>obtain⟨z,y,vs,r,ob,es,ep,e,c⟩:=x;exact⟨z,y,vs,r,ob,es,ep,k _ _ (.inl rfl) e,c⟩
 |dT kvs =>
  obtain⟨z,y,xs,r,ob,es,ep,e,c⟩:=x
  exact⟨z,y,xs,Paired.tO r fun p q z=>⟨z.1,ht _ _ z.2.1,z.2.2⟩,ob,es,ep,k _ _ (.inl rfl) e,c⟩
 |set S n=>obtain⟨ob,es,ep,t,e,c⟩:=x;exact⟨ob,es,ep,t,k _ _ (.inl rfl) e,c⟩
 |ins C dx fs =>
  obtain⟨d,z,ne,e,mA,⟨od,es,ep,e2,c⟩,r⟩:=x
  exact⟨ho _ d,z,ne,k _ _ (.inl rfl) e,mA,⟨od,es,ep,k _ _ (.inr d) e2,c⟩,r⟩
 |own y=>obtain⟨ob,e⟩:=x;exact⟨ob,k _ _ (.inl rfl) e⟩
 |xd fs=>obtain⟨mA,⟨od,es,ep,e,c⟩,r⟩:=x;exact⟨mA,⟨od,es,ep,k _ _ (.inl rfl) e,c⟩,r⟩
 |rng lo hi=>obtain⟨t,u,v,e⟩:=x;exact⟨t,u,v,k _ _ (.inl rfl) e⟩
 |frz ob u ih=>obtain⟨e,q⟩:=x;exact⟨k _ _ (.inl rfl) e,ih q⟩
 |tbl ps =>
  have e:h.get? a=some { cls:=.none,data:=.fields ps }:=x
  show h'.get? a=some { cls:=.none,data:=.fields ps }
  exact k a _ (.inl rfl) e
 |met f y =>
  have e:h.get? a=some (PySem.W.methodObj (.ref f) (.ref y)):=x
  show h'.get? a=some (PySem.W.methodObj (.ref f) (.ref y))
  exact k a _ (.inl rfl) e
 |ext φ=>obtain⟨p,⟨o,e⟩,st⟩:=x;exact⟨st _ _ p fun o q=>k _ _ (.inl rfl) q,⟨o,k _ _ (.inl rfl) e⟩,st⟩
theorem HOk.lt(x:HOk P w H h)(e:H a=some o):a<h.objs.size:=(x a o e).lt
theorem HOk.fresh(x:HOk P w H h)(e:h.objs.size<=a):H a=none:=by
 cases q:H a with
 |none=>rfl
 |some u=>exact absurd (Nat.lt_of_lt_of_le (x.lt q) e) (Nat.lt_irrefl _)
theorem HOk.kept(x:HOk P w H h)(k:∀b u,h.get? b=some u->h'.get? b=some u):HOk P w H h':=fun a o e =>
 (x a o e).stay (fun b u _ q=>k b u q) (fun _ q=>q) fun _ _ q=>q
theorem HOk.laid(x:HOk P w H h)(k:∀b u,h.get? b=some u->h'.get? b=some u)(hp:h.objs.size<=a)(new:Ed P w (upd H a o) h' a o):HOk P w (upd H a o) h':=fun b u e=>by
 have hn:=x.fresh hp
 by_cases hb:b=a
 .subst hb;rw[CQ] at e;cases e;exact new
 .rw[Bo hb] at e
  exact(x b u e).stay (fun c v _ q=>k c v q) (fun c q=>by rw[Bo (Dm q hn)];exact q) fun c xs q=>by rw[Bo (Dm q hn)];exact q
end
def Rd(H:Hp)(a:Addr)(u:HO):Prop:=H a=some u∨∃o,H a=some (.frz o u)
theorem Rd.ok{P:Program}{w:World}{H:Hp}{h:Heap}{a:Addr}{u:HO}(r:Rd H a u)(x:HOk P w H h):Ed P w H h a u:=by
 rcases r with r|⟨o,r⟩
 .exact x a u r
 .obtain⟨_,q⟩:=x a _ r
  exact q
def Mut:Option HO->Prop
 |some (.lst _)=>True
 |some (.dK _)=>True
 |some (.dT _)=>True
 |some (.set _ _)=>True
 |some (.ins _ _ _)=>True
 |some (.ext _)=>True
 |_=>False
section
variable{P:Program}{w:World}{H:Hp}{h h':Heap}{x e:Addr}{o':HO}
theorem HOk.write(ok:HOk P w H h)(mu:Mut (H x))(he:e=x∨H e=some (.own x))(k:∀b u,b≠e->h.get? b=some u->h'.get? b=some u)(heo:∃u,h'.get? e=some u)
  (new:Ed P w (upd H x o') h' x o'):HOk P w (upd H x o') h':=fun b u q=>by
 have nown:∀c y,H c=some (.own y)->c≠x:=fun c y r z=>by subst z;rw[r] at mu;exact mu
 have ntup:∀c xs,H c=some (.tup xs)->c≠x:=fun c xs r z=>by subst z;rw[r] at mu;exact mu
 by_cases hb:b=x
 .subst hb;rw[CQ] at q;cases q;exact new
 .rw[Bo hb] at q
  by_cases hbe:b=e
  .have q':H b=some (.own x):=by
    rcases he with z|z
    .exact absurd (hbe.trans z) hb
    .rw[hbe];exact z
   rw[q] at q';cases q'
   obtain⟨v,hv⟩:=heo
   exact⟨v,by rw[hbe];exact hv⟩
  .refine(ok b u q).stay (fun c v hc r=>k c v ?_ r) (fun c r=>by rw[Bo (nown c b r)];exact r) fun c xs r=>by rw[Bo (ntup c xs r)];exact r
   rcases hc with rfl|hc
   .exact hbe
   .rintro rfl
    rcases he with z|z
    .exact nown c b hc z
    .rw[hc] at z;cases z;exact hb rfl
end
structure Un(fs ex:List Addr)(H H':Hp)(h h':Heap):Prop where
 keep:∀b o,h.get? b=some o->H b=none->b ∉ fs->b ∉ ex->h'.get? b=some o
 slot:∀b o,h.get? b=some o->H b=none->b∈fs->b ∉ ex->∃sl,h'.get? b=some { o with slots:=sl }
 free:∀b o,h.get? b=some o->H b=none->b ∉ ex->H' b=none
 there:∀b o,h.get? b=some o->b ∉ ex->∃o',h'.get? b=some o'
 tups:∀b xs,H b=some (.tup xs)->H' b=some (.tup xs)
 frzs:∀b o u,H b=some (.frz o u)->H' b=some (.frz o u)
 tbls:∀b ps,H b=some (.tbl ps)->∃more,H' b=some (.tbl (ps++more))
 sy:H sysModules=none->H' sysModules=none
section
variable{fs fs' ex ex':List Addr}{H H1 H2:Hp}{h h1 h2 h':Heap}{a x e:Addr}{o:HO}
theorem Un.any(u:Un fs ex H H1 h h1){b:Addr}{ob:Obj}(q:h.get? b=some ob)(n:H b=none)(hx:b ∉ ex):∃sl,h1.get? b=some { ob with slots:=sl }:=by
 by_cases hb:b∈fs
 .exact u.slot b ob q n hb hx
 .exact⟨ob.slots,u.keep b ob q n hb hx⟩
theorem Un.kept(k:∀b u,h.get? b=some u->h'.get? b=some u):Un fs ex H H h h' :=
 ⟨fun b ob q _ _ _=>k b ob q,fun b ob q _ _ _=>⟨ob.slots,k b ob q⟩,fun _ _ _ n _=>n,fun b ob q _=>⟨ob,k b ob q⟩,fun _ _ q=>q,fun _ _ _ q=>q,fun _ ps q=>⟨#[],by rw[q];simp⟩,id⟩
theorem Un.refl:Un fs ex H H h h:=Un.kept fun _ _ q=>q
theorem Un.laid(k:∀b u,h.get? b=some u->h'.get? b=some u)(hp:h.objs.size<=a)(hn:H a=none)(hsy:sysModules≠a):Un fs ex H (upd H a o) h h' where
 sy:=fun n=>by rw[Bo hsy];exact n
 keep:=fun b u q _ _ _=>k b u q
 slot:=fun b u q _ _ _=>⟨u.slots,k b u q⟩
 free:=fun b u q n _=>by rw[Bo (Nat.ne_of_lt (Nat.lt_of_lt_of_le (Heap.lt_size q) hp))];exact n
 there:=fun b u q _=>⟨u,k b u q⟩
 tups:=fun b xs q=>by rw[Bo (Dm q hn)];exact q
 frzs:=fun b u xs q=>by rw[Bo (Dm q hn)];exact q
 tbls:=fun b ps q=>⟨#[],by rw[Bo (Dm q hn),q];simp⟩
theorem Un.write(mu:Mut (H x))(he:e=x∨H e=some (.own x))(k:∀b u,b≠e->h.get? b=some u->h'.get? b=some u)(heo:∃u,h'.get? e=some u):Un fs ex H (upd H x o) h h':=by
 have hx:∀b,H b=none->b≠x:=fun b n z=>by subst z;rw[n] at mu;exact mu
 have hb:∀b,H b=none->b≠e:=fun b n z=>by
  subst z
  rcases he with r|r
  .exact hx b n r
  .rw[n] at r;cases r
 have hm:∀b u,H b=some u->¬Mut (some u)->b≠x:=fun b u q nm z=>by subst z;rw[q] at mu;exact nm mu
 refine⟨fun b u q n _ _=>k b u (hb b n) q,fun b u q n _ _=>⟨u.slots,k b u (hb b n) q⟩,fun b u q n _=>by rw[Bo (hx b n)];exact n,fun b u q _=>?_,
  fun b xs q=>by rw[Bo (hm b _ q fun z=>z)];exact q,fun b u xs q=>by rw[Bo (hm b _ q fun z=>z)];exact q,fun b ps q=>⟨#[],by rw[Bo (hm b _ q fun z=>z),q];simp⟩,fun n=>by rw[Bo (hx _ n)];exact n⟩
 by_cases hbe:b=e
 .subst hbe;exact heo
 .exact⟨u,k b u hbe q⟩
end
def trk(h:Heap)(H:Hp):List Addr:=(List.range h.objs.size).filter fun a=>(H a).isSome
def QJ(h:Heap)(H:Hp):Heap:=PySem.W.hideAll h (trk h H)
theorem iK(h:Heap)(H:Hp):(QJ h H).objs.size=h.objs.size:=PySem.W.hideAll_size _ _
theorem m9{h:Heap}{H:Hp}{b:Addr}{o:Obj}(e:h.get? b=some o)(n:H b=none):(QJ h H).get? b=some o :=
 PySem.W.hideAll_get _ e fun hm=>by
  have q:(H b).isSome=true:=(List.mem_filter.mp hm).2
  rw[n] at q;simp at q
theorem pO{h:Heap}{H:Hp}{b:Addr}{o:Obj}(e:(QJ h H).get? b=some o):h.get? b=some o/\H b=none:=by
 have e':h.get? b=some o:=PySem.W.of_hideAll (trk h H) e
 refine⟨e',?_⟩
 cases q:H b with
 |none=>rfl
 |some x =>
  have hm:b∈trk h H:=List.mem_filter.mpr ⟨List.mem_range.mpr (Heap.lt_size e'),by simp[q]⟩
  have z:(QJ h H).get? b=none:=PySem.W.hideAll_none (trk h H) hm
  rw[z] at e;cases e
def rB(g h:Heap)(L:Addr):List (Addr×Obj):=(List.range h.objs.size).filterMap fun a=>if a=L∨(g.get? a).isSome=true then none else (h.get? a).map fun o=>(a,o)
def rest(g h:Heap)(L d:Addr):List (Addr×Obj):=(rB g h L).filter fun p=>decide (p.1≠d)
end L2
namespace L2
open PySem PySem.Spec PyProof.Rows
structure Mod(K:PySem.W.Frag)(mg:Str->Option Value)(base:Heap):Prop where
 kin:K.In base
 glob:base.Ns mainGlobals mg
 blt:∃mb,base.Ns builtinsNs mb/\∀x:Str,x≠"__name__"->mb x=bootBuiltins x
 nolimit:base.NoLimit
/-- the context: a def's body (or a comprehension's block) running. base: fixed through the whole law; s₀, H₀: the entry; outer: the frames whose slots others may change (a def's callers); stack: all frames that run;
   ex: iterators that were made ahead of the entry and are walked here (a comprehension's); fn: the names whose cells were made at the entry (a def: all; a comprehension's block: its own); calm: not within an except suite; pn: pins that every state bears; xe: what is wanted of an exception that leaves the code -/
structure Cx where
 prog:Program
 w:World
 K:PySem.W.Frag
 mg:Str->Option Value
 base:Heap
 A:Around
 N:List Str
 s₀:Shared
 H₀:Hp
 env:Env
 outer:List Env
 stack:List Env
 ex:List Addr
 fn:Str->Bool
 calm:Bool
 pn:List (Addr×Obj)
 xe:Value->Shared->Prop
def frs(l:List Env):List Addr:=l.filterMap (·.frame)
abbrev Cx.fs(X:Cx):List Addr:=frs X.outer
def Vis(sc:Scope)(x:Str):Prop:=sc.names.lookup x=some .local∨sc.names.lookup x=some .cell∨sc.names.lookup x=some .free
def Loc(sc:Scope)(x:Str):Prop:=sc.names.lookup x=some .local∨sc.names.lookup x=some .cell
def Look(env:Env)(h:Heap)(m:Str->Option Value)(x:Str)(u:Value):Prop :=
 (env.kindOf x=some .local/\m x=some u)∨((env.kindOf x=some .cell∨env.kindOf x=some .free)/\∃c,env.cells.lookup x=some c/\h.IsCell c (some u))
structure Cx.Ok(X:Cx):Prop where
 mod:Mod X.K X.mg X.base
 kind:X.env.scope.kind=.function
 glob:X.env.globals=mainGlobals
 blt:X.env.builtins=builtinsNs
 above:X.s₀.heap.objs.size<=X.env.locals
 inj:∀x y c,X.env.cells.lookup x=some c->X.env.cells.lookup y=some c->x=y
 has:∀x,(X.env.kindOf x=some .cell∨X.env.kindOf x=some .free)->∃c,X.env.cells.lookup x=some c
 cab:∀x c,X.fn x=true->X.env.cells.lookup x=some c->X.s₀.heap.objs.size<=c
 hd:X.calm=true->X.A.handled=none
 frames:X.A.frames=some X.stack
 stk:X.stack=X.outer∨(X.stack=X.env::X.outer/\X.env.frame=some X.env.locals)
 exf:∀b∈X.ex,b≠X.env.locals/\∀x c,X.env.cells.lookup x=some c->c≠b
 bs:∀b o,X.base.get? b=some o->X.s₀.heap.get? b=some o/\X.H₀ b=none
 bsz:X.base.objs.size<=X.s₀.heap.objs.size
 noex:∀b o,X.base.get? b=some o->b ∉ X.ex
 exfs:∀b∈X.ex,b ∉ X.fs
 Nm:X.s₀.heap.FunFrames X.base X.outer
 frf:∀b∈X.fs,X.H₀ b=none
 sy:X.H₀ sysModules=none
structure Inv(X:Cx)(pins:List (Addr×Obj))(σ:List (Option V))(H:Hp)(s:Shared):Prop where
 ok:X.Ok
 os:s.os=X.s₀.os
 bare:AllBare s.gens
 base:Un X.fs X.ex X.H₀ H X.s₀.heap s.heap
 loc:∃m,s.heap.Ns X.env.locals m/\∀(i:Nat)(x:Str)(v:V),X.N[i]?=some x->σ[i]?=some (some v)->Vis X.env.scope x->∃u,RelV v u/\Look X.env s.heap m x u
 cell:∀x c,X.env.cells.lookup x=some c->∃v,s.heap.IsCell c v
 free:H X.env.locals=none
 freeC:∀x c,X.env.cells.lookup x=some c->H c=none
 pin:∀p∈X.pn++pins,s.heap.get? p.1=some p.2/\H p.1=none/\p.1≠X.env.locals/\p.1 ∉ X.fs/\∀v,p.2.data≠.cell v
 hok:HOk X.prog X.w H s.heap
 len:σ.length=X.N.length
section
variable{X:Cx}{pins:List (Addr×Obj)}{σ:List (Option V)}{H H':Hp}{s:Shared}{h':Heap}
theorem Cx.Ok.yd(ok:X.Ok){b:Addr}{o:Obj}(e:X.base.get? b=some o):b ∉ X.fs:=fun hb=>by
 have:=(ok.Nm.mem hb).1
 rw[e] at this;cases this
theorem Inv.bs(I:Inv X pins σ H s):∀b o,X.base.get? b=some o->s.heap.get? b=some o/\H b=none:=fun b o e =>
 ⟨I.base.keep b o (I.ok.bs b o e).1 (I.ok.bs b o e).2 (I.ok.yd e) (I.ok.noex b o e),I.base.free b o (I.ok.bs b o e).1 (I.ok.bs b o e).2 (I.ok.noex b o e)⟩
theorem Inv.bk(I:Inv X pins σ H s):∀b o,X.base.get? b=some o->s.heap.get? b=some o:=fun b o e=>(I.bs b o e).1
theorem Inv.mod(I:Inv X pins σ H s):Mod X.K X.mg X.base:=I.ok.mod
theorem Inv.kIn(I:Inv X pins σ H s):X.K.In s.heap:=I.ok.mod.kin.keeps I.bk
theorem Inv.fr(I:Inv X pins σ H s):∃m,Fr X.base X.env.locals s.heap m :=
 let ⟨m,hn,_⟩:=I.loc
 ⟨m,hn,I.bk,Nat.le_trans I.ok.bsz I.ok.above⟩
theorem Inv.lt(I:Inv X pins σ H s):X.env.locals<s.heap.objs.size:=let ⟨_,hn,_⟩:=I.loc;hn.lt
theorem Inv.sz(I:Inv X pins σ H s):X.s₀.heap.objs.size<=s.heap.objs.size:=Nat.le_trans I.ok.above (Nat.le_of_lt I.lt)
theorem Inv.j7(I:Inv X pins σ H s){a:Addr}(h:s.heap.objs.size<=a):a ∉ X.fs:=fun hb=>by
 obtain⟨_,o,ho,_⟩:=I.ok.Nm.mem hb
 exact absurd (Nat.lt_of_lt_of_le (Heap.lt_size ho) (Nat.le_trans I.sz h)) (Nat.lt_irrefl _)
theorem Inv.cne(I:Inv X pins σ H s):∀x c,X.env.cells.lookup x=some c->c≠X.env.locals:=fun x c e z=>by
 obtain⟨v,o,ho,hd⟩:=I.cell x c e
 obtain⟨m,⟨o',es,ep,ho',hd',_⟩,_⟩:=I.loc
 rw[z,ho'] at ho;cases ho;rw[hd'] at hd;cases hd
theorem Inv.Nm(I:Inv X pins σ H s):s.heap.FunFrames X.base X.outer:=by
 have all:∀(l:List Env),(∀b∈frs l,b∈X.fs)->X.s₀.heap.FunFrames X.base l->s.heap.FunFrames X.base l:=by
  intro l
  induction l with
  |nil=>intro _ _;trivial
  |cons env r ih =>
   intro hs hl
   obtain⟨hk,⟨L,o,hf,hn,ho,hd⟩,hr⟩:=hl
   have hL:L∈X.fs:=hs L (by unfold frs;rw[List.filterMap_cons,hf];exact List.mem_cons_self)
   obtain⟨sl,e⟩:=I.base.slot L o ho (I.ok.frf L hL) hL fun z=>I.ok.exfs L z hL
   exact⟨hk,⟨L,_,hf,hn,e,hd⟩,ih (fun b hb=>hs b (by unfold frs;rw[List.filterMap_cons,hf];exact List.mem_cons_of_mem _ hb)) hr⟩
 exact all X.outer (fun _ hb=>hb) I.ok.Nm
theorem Inv.stack(I:Inv X pins σ H s):s.heap.FunFrames X.base X.stack:=by
 rcases I.ok.stk with e|⟨e,hf⟩
 .rw[e];exact I.Nm
 .rw[e]
  obtain⟨m,hn,_⟩:=I.loc
  refine .cons (by rw[I.ok.kind];decide) hf hn ?_ I.Nm
  exact Heap.get?_none_of_le (Nat.le_trans I.ok.bsz I.ok.above)
theorem Inv.R0(I:Inv X pins σ H s):∀b∈frs X.stack,b∈X.env.locals::X.fs:=fun b hb=>by
 rcases I.ok.stk with e|⟨e,hf⟩
 .rw[e] at hb;exact List.mem_cons_of_mem _ hb
 .rw[e] at hb
  unfold frs at hb
  rw[List.filterMap_cons,hf] at hb
  exact hb
theorem Inv.aR(I:Inv X pins σ H s):∀b∈frs X.stack,H b=none:=fun b hb=>by
 rcases List.mem_cons.mp (I.R0 b hb) with e|hb
 .rw[e];exact I.free
 .obtain⟨_,o,ho,_⟩:=I.ok.Nm.mem hb
  exact I.base.free b o ho (I.ok.frf b hb) fun z=>I.ok.exfs b z hb
theorem Inv.bh(I:Inv X pins σ H s):sysModules<s.heap.objs.size:=by
 obtain⟨o,_,_,e,_⟩:=I.ok.mod.glob
 exact Nat.lt_trans (by decide:(1:Nat)<3) (Heap.lt_size (I.bk _ _ e))
theorem Inv.Vo(I:Inv X pins σ H s):H sysModules=none:=I.base.sy I.ok.sy
theorem Inv.step{g':Array GenState}{t':Nat}{d':Drawn}{ch:List Addr}(I:Inv X pins σ H s)
  (hch:∀b∈ch,(b∈X.ex∨X.s₀.heap.objs.size<=b)/\b≠X.env.locals/\(∀x c,X.env.cells.lookup x=some c->c≠b)/\∀p∈X.pn++pins,p.1≠b)
  (keep:∀b o,b≠X.env.locals->b ∉ X.fs->b ∉ ch->s.heap.get? b=some o->H b=none->h'.get? b=some o)
  (slot:∀b o,b≠X.env.locals->b∈X.fs->b ∉ ch->s.heap.get? b=some o->H b=none->∃sl,h'.get? b=some { o with slots:=sl }) (free:∀b o,b ∉ ch->s.heap.get? b=some o->H b=none->H' b=none)
  (there:∀b o,b ∉ ch->s.heap.get? b=some o->∃o',h'.get? b=some o')
  (tups:∀b xs,H b=some (.tup xs)->H' b=some (.tup xs)) (frzs:∀b o u,H b=some (.frz o u)->H' b=some (.frz o u)) (tbls:∀b ps,H b=some (.tbl ps)->∃more,H' b=some (.tbl (ps++more)))
  (ns:∀m,s.heap.Ns X.env.locals m->h'.Ns X.env.locals m) (hok:HOk X.prog X.w H' h') (hg:AllBare g') (sy:H sysModules=none->H' sysModules=none) :
  Inv X pins σ H' { s with heap:=h',gens:=g',drawn:=d',toks:=t' }:=by
 have neL:∀b o,X.s₀.heap.get? b=some o->b≠X.env.locals:=fun b o e=>Nat.ne_of_lt (Nat.lt_of_lt_of_le (Heap.lt_size e) I.ok.above)
 have neC:∀b o,X.s₀.heap.get? b=some o->b ∉ X.ex->b ∉ ch:=fun b o e hx hb=>by
  rcases(hch b hb).1 with z|z
  .exact hx z
  .exact absurd (Nat.lt_of_lt_of_le (Heap.lt_size e) z) (Nat.lt_irrefl _)
 have cellK:∀x c,X.env.cells.lookup x=some c->∀v,s.heap.IsCell c v->h'.IsCell c v:=fun x c e v ⟨o,ho,hd⟩=>by
  have nch:c ∉ ch:=fun z=>(hch c z).2.2.1 x c e rfl
  by_cases hc:c∈X.fs
  .obtain⟨sl,q⟩:=slot c o (I.cne x c e) hc nch ho (I.freeC x c e)
   exact⟨_,q,hd⟩
  .exact⟨o,keep c o (I.cne x c e) hc nch ho (I.freeC x c e),hd⟩
 refine⟨I.ok,I.os,hg,⟨fun b o e n hb hx=>?_,fun b o e n hb hx=>?_,fun b o e n hx=>?_,fun b o e hx=>?_,fun b xs e=>tups b xs (I.base.tups b xs e),fun b o xs e=>frzs b o xs (I.base.frzs b o xs e),fun b ps e=>?_,fun n=>sy (I.base.sy n)⟩,?_,fun x c e=>?_,?_,fun x c e=>?_,fun p hp=>?_,hok,I.len⟩
 .exact keep b o (neL b o e) hb (neC b o e hx) (I.base.keep b o e n hb hx) (I.base.free b o e n hx)
 .obtain⟨sl,e1⟩:=I.base.slot b o e n hb hx
  obtain⟨sl',e2⟩:=slot b _ (neL b o e) hb (neC b o e hx) e1 (I.base.free b o e n hx)
  exact⟨sl',e2⟩
 .obtain⟨o',e1⟩:=I.base.there b o e hx
  exact free b o' (neC b o e hx) e1 (I.base.free b o e n hx)
 .obtain⟨o',e1⟩:=I.base.there b o e hx
  exact there b o' (neC b o e hx) e1
 .obtain⟨m1,e1⟩:=I.base.tbls b ps e
  obtain⟨m2,e2⟩:=tbls b _ e1
  exact⟨m1++m2,by rw[e2,Array.append_assoc]⟩
 .obtain⟨m,hn,hl⟩:=I.loc
  refine⟨m,ns m hn,fun i x v e1 e2 e3=>?_⟩
  obtain⟨u,r,l⟩:=hl i x v e1 e2 e3
  refine⟨u,r,?_⟩
  rcases l with l|⟨k,c,e,z⟩
  .exact .inl l
  .exact .inr ⟨k,c,e,cellK x c e _ z⟩
 .obtain⟨v,z⟩:=I.cell x c e
  exact⟨v,cellK x c e v z⟩
 .obtain⟨m,⟨o,_,_,ho,_⟩,_⟩:=I.loc
  exact free _ o (fun z=>(hch _ z).2.1 rfl) ho I.free
 .obtain⟨v,o,ho,hd⟩:=I.cell x c e
  exact free c o (fun z=>(hch c z).2.2.1 x c e rfl) ho (I.freeC x c e)
 .obtain⟨e,n,ne,nf,d⟩:=I.pin p hp
  have nch:p.1 ∉ ch:=fun z=>(hch p.1 z).2.2.2 p hp rfl
  exact⟨keep p.1 p.2 ne nf nch e n,free p.1 p.2 nch e n,ne,nf,d⟩
theorem Inv.un{t':Nat}(I:Inv X pins σ H s)(u:Un X.fs [] H H' s.heap h')(hok:HOk X.prog X.w H' h'):Inv X pins σ H' { s with heap:=h',toks:=t' }:=by
 obtain⟨m,⟨o,es,ep,ho,r⟩,_⟩:=id I.loc
 obtain⟨sl,hL⟩:=u.any ho I.free (by simp)
 exact I.step (g':=s.gens) (d':=s.drawn) (ch:=[]) (fun _ z=>nomatch z) (fun b o _ hb _ e n=>u.keep b o e n hb (by simp)) (fun b o _ hb _ e n=>u.slot b o e n hb (by simp)) (fun b o _ e n=>u.free b o e n (by simp)) (fun b o _ e=>u.there b o e (by simp)) u.tups u.frzs u.tbls (fun m' hm=>by
  obtain⟨o',es',ep',ho',r'⟩:=hm
  rw[ho] at ho';cases ho'
  exact⟨_,es',ep',hL,r'⟩) hok I.bare u.sy
theorem Inv.call{g':Array GenState}{t':Nat}{d':Drawn}{ch:List Addr}(I:Inv X pins σ H s)(u:Un (frs X.stack) ch H H' s.heap h')(hok:HOk X.prog X.w H' h')(hg:AllBare g')
  (hch:∀b∈ch,(b∈X.ex∨X.s₀.heap.objs.size<=b)/\b≠X.env.locals/\(∀x c,X.env.cells.lookup x=some c->c≠b)/\∀p∈X.pn++pins,p.1≠b) :
  Inv X pins σ H' { s with heap:=h',gens:=g',drawn:=d',toks:=t' }:=by
 obtain⟨m,⟨o,es,ep,ho,r⟩,_⟩:=id I.loc
 obtain⟨sl,hL⟩:=u.any ho I.free fun z=>(hch _ z).2.1 rfl
 exact I.step (ch:=ch) hch (fun b o hL hb hc e n=>u.keep b o e n (fun z=>(List.mem_cons.mp (I.R0 b z)).elim hL hb) hc) (fun b o _ _ hc e n=>u.any e n hc) (fun b o hc e n=>u.free b o e n hc) (fun b o hc e=>u.there b o e hc) u.tups u.frzs u.tbls (fun m' hm=>by
  obtain⟨o',es',ep',ho',r'⟩:=hm
  rw[ho] at ho';cases ho'
  exact⟨_,es',ep',hL,r'⟩) hok hg u.sy
theorem Inv.turned{t':Nat}{it:Addr}(I:Inv X pins σ H s)(k:∀b o,b≠it->s.heap.get? b=some o->h'.get? b=some o)(hn:H it=none)(hL:it≠X.env.locals)
  (h1:it∈X.ex∨X.s₀.heap.objs.size<=it) (h2:∀x c,X.env.cells.lookup x=some c->c≠it) (h3:∀p∈X.pn++pins,p.1≠it):Inv X pins σ H { s with heap:=h',toks:=t' }:=by
 have nit:∀b u,H b=some u->b≠it:=fun b u e z=>by rw[z,hn] at e;cases e
 refine I.step (g':=s.gens) (d':=s.drawn) (ch:=[it]) (fun b hb=>?_) (fun b o _ _ hc e _=>k b o (fun z=>hc (by simp[z])) e) (fun b o _ _ hc e _=>⟨o.slots,k b o (fun z=>hc (by simp[z])) e⟩) (fun _ _ _ _ n=>n)
  (fun b o hc e=>⟨o,k b o (fun z=>hc (by simp[z])) e⟩) (fun _ _ e=>e) (fun _ _ _ e=>e) (fun b ps e=>⟨#[],by rw[e];simp⟩) (fun m hm=>?_) (fun b u e=>?_) I.bare id
 .have e:b=it:=by simpa using hb
  subst e
  exact⟨h1,hL,h2,h3⟩
 .obtain⟨o,es,ep,ho,r⟩:=hm
  exact⟨o,es,ep,k _ o (Ne.symm hL) ho,r⟩
 .refine(I.hok b u e).stay (fun c v hc q=>k c v ?_ q) (fun _ q=>q) fun _ _ q=>q
  rcases hc with z|z
  .rw[z];exact nit b u e
  .exact nit c _ z
theorem Inv.tok(I:Inv X pins σ H s)(t:Nat):Inv X pins σ H { s with toks:=t }:=I.un (h':=s.heap) (t':=t) Un.refl I.hok
theorem Inv.kept{t':Nat}(I:Inv X pins σ H s)(k:∀b u,s.heap.get? b=some u->h'.get? b=some u):Inv X pins σ H { s with heap:=h',toks:=t' }:=I.un (Un.kept k) (I.hok.kept k)
theorem Inv.laid{a:Addr}{o:HO}{t':Nat}(I:Inv X pins σ H s)(k:∀b u,s.heap.get? b=some u->h'.get? b=some u)(hp:s.heap.objs.size<=a)(new:Ed X.prog X.w (upd H a o) h' a o) :
  Inv X pins σ (upd H a o) { s with heap:=h',toks:=t' }:=I.un (Un.laid k hp (I.hok.fresh hp) (Nat.ne_of_lt (Nat.lt_of_lt_of_le I.bh hp))) (I.hok.laid k hp new)
theorem Inv.write{x e:Addr}{o:HO}{t':Nat}(I:Inv X pins σ H s)(mu:Mut (H x))(he:e=x∨H e=some (.own x))(k:∀b u,b≠e->s.heap.get? b=some u->h'.get? b=some u)(heo:∃u,h'.get? e=some u)
  (new:Ed X.prog X.w (upd H x o) h' x o):Inv X pins σ (upd H x o) { s with heap:=h',toks:=t' }:=I.un (Un.write mu he k heo) (I.hok.write mu he k heo new)
theorem Inv.weak{σ':List (Option V)}(I:Inv X pins σ H s)(hl:σ'.length=σ.length)(w:∀(i:Nat) v,σ'[i]?=some (some v)->σ[i]?=some (some v)):Inv X pins σ' H s :=
 ⟨I.ok,I.os,I.bare,I.base,let ⟨m,hn,hl'⟩:=I.loc;⟨m,hn,fun i x v e1 e2 e3=>hl' i x v e1 (w i v e2) e3⟩,I.cell,I.free,I.freeC,I.pin,I.hok,hl.trans I.len⟩
theorem Inv.S8{pins':List (Addr×Obj)}(I:Inv X pins σ H s)(h:∀p∈pins',s.heap.get? p.1=some p.2/\H p.1=none/\p.1≠X.env.locals/\p.1 ∉ X.fs/\∀v,p.2.data≠.cell v):Inv X pins' σ H s :=
 ⟨I.ok,I.os,I.bare,I.base,I.loc,I.cell,I.free,I.freeC,fun p hp=>(List.mem_append.mp hp).elim (fun z=>I.pin p (List.mem_append_left _ z)) (h p),I.hok,I.len⟩
theorem Yj{N:List Str}(hN:N.Nodup){i j:Nat}{x:Str}(a:N[i]?=some x)(b:N[j]?=some x):i=j:=by
 obtain⟨h1,e1⟩:=List.getElem?_eq_some_iff.mp a
 obtain⟨h2,e2⟩:=List.getElem?_eq_some_iff.mp b
 exact(List.getElem_inj hN).mp (e1.trans e2.symm)
theorem WM{M:Model}{A:Around}{E:Value->Shared->Prop}{i:Nat}{x:Str}{v:V}{u:Value}{Q:Unit->Shared->Prop}(I:Inv X pins σ H s)(hN:X.N.Nodup)(hi:X.N[i]?=some x)(hx:Loc X.env.scope x)(r:RelV v u)
  (h:∀s',Inv X pins (σ.set i (some v)) H s'->(∃a,Heap.SameBut a s.heap s'.heap/\(a=X.env.locals∨X.env.cells.lookup x=some a))->Q () s') (hf:X.fn x=true∨X.env.scope.names.lookup x=some .local:=by first|exact .inl rfl|exact .inr rfl|assumption):wpAny M A (storeName X.env x u) Q E s:=by
 obtain⟨m,hn,hl⟩:=id I.loc
 have hcls:(X.env.scope.kind==.class||(X.env.scope.kind==.module&&X.env.locals != X.env.globals))=false:=by rw[I.ok.kind];rfl
 have hiσ:i<σ.length:=by rw[I.len];exact(List.getElem?_eq_some_iff.mp hi).1
 have cne:=I.cne
 have tracked:∀{a:Addr} {h':Heap},(∃o,s.heap.get? a=some o/\H a=none)->Heap.SameBut a s.heap h'->HOk X.prog X.w H h':=fun {a h'} ha hs b ob e=>by
  obtain⟨_,_,hfree⟩:=ha
  refine(I.hok b ob e).stay (fun c w' hc q=>(hs.2 c ?_).trans q) (fun _ q=>q) fun _ _ q=>q
  rintro rfl
  rcases hc with rfl|hc
  .rw[hfree] at e;cases e
  .rw[hfree] at hc;cases hc
 rcases hx with hk|hk
 .refine wpAny_storeName_local hk hn (fun h' hn' hs=>?_) hcls
  obtain⟨oL,_,_,hoL,_⟩:=id hn
  refine h _ ⟨I.ok,I.os,I.bare,⟨fun b o e n hb hx=>?_,fun b o e n hb hx=>?_,I.base.free,fun b o e hx=>?_,I.base.tups,I.base.frzs,I.base.tbls,I.base.sy⟩,⟨_,hn',fun j y v' e1 e2 e3=>?_⟩,fun y c e=>?_,I.free,I.freeC,fun p hp=>?_,tracked ⟨oL,hoL,I.free⟩ hs,by simpa using I.len⟩ ⟨_,hs,.inl rfl⟩
  .exact(hs.2 b (Nat.ne_of_lt (Nat.lt_of_lt_of_le (Heap.lt_size e) I.ok.above))).trans (I.base.keep b o e n hb hx)
  .obtain⟨sl,e1⟩:=I.base.slot b o e n hb hx
   exact⟨sl,(hs.2 b (Nat.ne_of_lt (Nat.lt_of_lt_of_le (Heap.lt_size e) I.ok.above))).trans e1⟩
  .obtain⟨o',e1⟩:=I.base.there b o e hx
   exact⟨o',(hs.2 b (Nat.ne_of_lt (Nat.lt_of_lt_of_le (Heap.lt_size e) I.ok.above))).trans e1⟩
  .by_cases hj:j=i
   .subst hj
    rw[hi] at e1;cases e1
    rw[List.getElem?_set_self hiσ] at e2
    cases e2
    exact⟨u,r,.inl ⟨hk,by simp⟩⟩
   .rw[List.getElem?_set_ne (Ne.symm hj)] at e2
    obtain⟨u',r',q⟩:=hl j y v' e1 e2 e3
    refine⟨u',r',?_⟩
    rcases q with ⟨k,e⟩|⟨k,c,e,z⟩
    .refine .inl ⟨k,?_⟩
     have:y≠x:=fun e=>hj (Yj hN e1 (e ▸ hi))
     simp[this,e]
    .exact .inr ⟨k,c,e,z.sameBut hs (cne y c e)⟩
  .obtain⟨w',z⟩:=I.cell y c e
   exact⟨w',z.sameBut hs (cne y c e)⟩
  .obtain⟨e,n,ne,nf,d⟩:=I.pin p hp
   exact⟨(hs.2 p.1 ne).trans e,n,ne,nf,d⟩
 .have hfn:X.fn x=true:=by
   rcases hf with z|z
   .exact z
   .rw[z] at hk;cases hk
  obtain⟨c,hc⟩:=I.ok.has x (.inl hk)
  obtain⟨w',z⟩:=I.cell x c hc
  refine wpAny_storeName_cell I.ok.kind hk hc z (fun h' hc' hs=>?_)
  obtain⟨oc,hoc,hocd⟩:=id z
  refine h { s with heap:=h' } ⟨I.ok,I.os,I.bare,⟨fun b o e n hb hx=>?_,fun b o e n hb hx=>?_,I.base.free,fun b o e hx=>?_,I.base.tups,I.base.frzs,I.base.tbls,I.base.sy⟩,⟨m,hn.sameBut hs (Ne.symm (cne x c hc)),fun j y v' e1 e2 e3=>?_⟩,fun y c' e=>?_,I.free,I.freeC,fun p hp=>?_,tracked ⟨oc,hoc,I.freeC x c hc⟩ hs,by simpa using I.len⟩ ⟨c,hs,.inr hc⟩
  .exact(hs.2 b (Nat.ne_of_lt (Nat.lt_of_lt_of_le (Heap.lt_size e) (I.ok.cab x c hfn hc)))).trans (I.base.keep b o e n hb hx)
  .obtain⟨sl,e1⟩:=I.base.slot b o e n hb hx
   exact⟨sl,(hs.2 b (Nat.ne_of_lt (Nat.lt_of_lt_of_le (Heap.lt_size e) (I.ok.cab x c hfn hc)))).trans e1⟩
  .obtain⟨o',e1⟩:=I.base.there b o e hx
   exact⟨o',(hs.2 b (Nat.ne_of_lt (Nat.lt_of_lt_of_le (Heap.lt_size e) (I.ok.cab x c hfn hc)))).trans e1⟩
  .by_cases hj:j=i
   .subst hj
    rw[hi] at e1;cases e1
    rw[List.getElem?_set_self hiσ] at e2
    cases e2
    exact⟨u,r,.inr ⟨.inl hk,c,hc,hc'⟩⟩
   .rw[List.getElem?_set_ne (Ne.symm hj)] at e2
    obtain⟨u',r',q⟩:=hl j y v' e1 e2 e3
    refine⟨u',r',?_⟩
    rcases q with q|⟨k,c',e,z'⟩
    .exact .inl q
    .refine .inr ⟨k,c',e,z'.sameBut hs ?_⟩
     rintro rfl
     exact hj (Yj hN e1 (I.ok.inj _ _ _ e hc ▸ hi))
  .by_cases hcc:c'=c
   .subst hcc;exact⟨_,hc'⟩
   .obtain⟨w2,z2⟩:=I.cell y c' e
    exact⟨w2,z2.sameBut hs hcc⟩
  .obtain⟨e,n,ne,nf,d⟩:=I.pin p hp
   refine⟨(hs.2 p.1 ?_).trans e,n,ne,nf,d⟩
   intro q
   rw[q,hoc] at e
   have q':oc=p.2:=Option.some.inj e
   exact d w' (by rw[←q'];exact hocd)
theorem YT{M:Model}{A:Around}{E:Value->Shared->Prop}{i:Nat}{x:Str}{v:V}{u:Value}{Q:Unit->Shared->Prop}(I:Inv X pins σ H s)(hN:X.N.Nodup)(hi:X.N[i]?=some x)(hx:Loc X.env.scope x)(r:RelV v u)
  (h:∀s',Inv X pins (σ.set i (some v)) H s'->Q () s') (hf:X.fn x=true∨X.env.scope.names.lookup x=some .local:=by first|exact .inl rfl|exact .inr rfl|assumption):wpAny M A (storeName X.env x u) Q E s :=
 WM I hN hi hx r (fun s' I' _=>h s' I') hf
theorem Inv.call'{s':Shared}{ch:List Addr}(I:Inv X pins σ H s)(ho:s'.os=s.os)(u:Un (frs X.stack) ch H H' s.heap s'.heap)(hok:HOk X.prog X.w H' s'.heap)(hg:AllBare s'.gens)
  (hch:∀b∈ch,(b∈X.ex∨X.s₀.heap.objs.size<=b)/\b≠X.env.locals/\(∀x c,X.env.cells.lookup x=some c->c≠b)/\∀p∈X.pn++pins,p.1≠b):Inv X pins σ H' s':=by
 obtain⟨h',g',d',t',o'⟩:=s'
 have e:o'=s.os:=ho
 subst e
 exact I.call (g':=g') (t':=t') (d':=d') u hok hg hch
end
abbrev XK:=Value->Option Addr->Hp->Prop
abbrev St:=List (Option V)
abbrev VK:=V->Hp->Prop
abbrev TE:=St->Hp->VK->Prop
abbrev TT:=St->Hp->(Bool->Hp->Prop)->Prop
abbrev TA:=St->Hp->(List V->Hp->Prop)->Prop
structure Ends where
 nx:St->Hp->Prop
 rt:VK
 bk:St->Hp->Prop:=fun _ _=>False
 ct:St->Hp->Prop:=fun _ _=>False
abbrev TS:=Ends->St->Hp->Prop
def EP(X:Cx)(pins:List (Addr×Obj))(σ:St)(Q:VK)(u:Value)(s':Shared):Prop:=∃v H',Inv X pins σ H' s'/\RelV v u/\Q v H'
def TP(X:Cx)(pins:List (Addr×Obj))(σ:St)(Q:Bool->Hp->Prop)(b:Bool)(s':Shared):Prop:=∃H',Inv X pins σ H' s'/\Q b H'
def AP(X:Cx)(pins:List (Addr×Obj))(σ:St)(Q:List V->Hp->Prop)(us:List Value)(s':Shared):Prop:=∃vs H',Inv X pins σ H' s'/\Vals vs us/\Q vs H'
def SP(X:Cx)(pins:List (Addr×Obj))(D:Ends)(f:Flow)(s':Shared):Prop :=
 match f with
 |.next=>∃σ' H',Inv X pins σ' H' s'/\D.nx σ' H'
 |.brk=>∃σ' H',Inv X pins σ' H' s'/\D.bk σ' H'
 |.cont=>∃σ' H',Inv X pins σ' H' s'/\D.ct σ' H'
 |.ret u=>∃v σ' H',Inv X pins σ' H' s'/\RelV v u/\D.rt v H'
def PE(X:Cx)(e:Expr)(t:TE):Prop :=
 ∀(pins:List (Addr×Obj))(s:Shared)(σ:St)(H:Hp)(Q:VK),Inv X pins σ H s->t σ H Q->wpAny (model X.prog X.w) X.A (eval e X.env) (EP X pins σ Q) X.xe s
def PT(X:Cx)(e:Expr)(t:TT):Prop :=
 ∀(pins:List (Addr×Obj))(s:Shared)(σ:St)(H:Hp)(Q:Bool->Hp->Prop),Inv X pins σ H s->t σ H Q->wpAny (model X.prog X.w) X.A (isTrue e X.env (eval e X.env)) (TP X pins σ Q) X.xe s
def PW(X:Cx)(e:Expr)(t:TT):Prop :=
 ∀(whole:Sem Value)(pins:List (Addr×Obj))(s:Shared)(σ:St)(H:Hp)(Q:Bool->Hp->Prop),Inv X pins σ H s->t σ H Q->wpAny (model X.prog X.w) X.A (isTrue e X.env whole) (TP X pins σ Q) X.xe s
theorem PW.pt{X:Cx}{e:Expr}{t:TT}(h:PW X e t):PT X e t:=h _
def PA(X:Cx)(es:List Expr)(t:TA):Prop :=
 ∀(pos:Pos)(pins:List (Addr×Obj))(s:Shared)(σ:St)(H:Hp)(Q:List V->Hp->Prop),Inv X pins σ H s->t σ H Q->wpAny (model X.prog X.w) X.A (spliced (backTo pos (starEach es X.env))) (AP X pins σ Q) X.xe s
def PS(X:Cx)(st:Stmt)(t:TS):Prop :=
 ∀(pins:List (Addr×Obj))(s:Shared)(σ:St)(H:Hp)(D:Ends),Inv X pins σ H s->t D σ H->wpAny (model X.prog X.w) X.A (exec st X.env) (SP X pins D) X.xe s
def PSs(X:Cx)(st:List Stmt)(t:TS):Prop :=
 ∀(pins:List (Addr×Obj))(s:Shared)(σ:St)(H:Hp)(D:Ends),Inv X pins σ H s->t D σ H->wpAny (model X.prog X.w) X.A (execs st X.env) (SP X pins D) X.xe s
theorem thn{α:Type}{t:Sem α}{Q Q':α->Shared->Prop}{M:Model}{A:Around}{E:Value->Shared->Prop}{s:Shared}(h:wpAny M A t Q E s)(hQ:∀a s,Q a s->Q' a s):wpAny M A t Q' E s:=wpAny_mono h hQ fun _ _ x=>x
end L2
namespace L2
open PySem PySem.Spec PyProof.Rows
section
variable{X:Cx}
theorem bin{a b:Expr}{ta tb:TE}(ha:PE X a ta)(hb:PE X b tb){pins:List (Addr×Obj)}{s:Shared}{σ:St}{H:Hp}{R:V->V->Hp->Prop}(I:Inv X pins σ H s)(h:ta σ H fun x H1=>tb σ H1 fun y H2=>R x y H2)
  {α:Type} {Q:α->Shared->Prop} {f:Value->Value->Sem α}
  (hf:∀v u s2 x y H2,Inv X pins σ H2 s2->RelV x v->RelV y u->R x y H2->wpAny (model X.prog X.w) X.A (f v u) Q X.xe s2) :
  wpAny (model X.prog X.w) X.A (eval a X.env) (fun v s₁=>wpAny (model X.prog X.w) X.A (eval b X.env) (fun u s₂=>wpAny (model X.prog X.w) X.A (f v u) Q X.xe s₂) X.xe s₁) X.xe s:=by
 refine thn (ha pins s σ H _ I h) fun v s1 ⟨x,H1,I1,r1,q1⟩=>?_
 refine thn (hb pins s1 σ H1 _ I1 q1) fun u s2 ⟨y,H2,I2,r2,q2⟩=>?_
 exact hf v u s2 x y H2 I2 r1 r2 q2
def sG(i:Nat):TE:=fun σ H Q=>∃v,σ[i]?=some (some v)/\Q v H
def tC(v:V):TE:=fun _ H Q=>Q v H
theorem eF{i:Nat}{x:Str}{pos:Pos}(hN:X.N[i]?=some x)(hv:Vis X.env.scope x)(hd:(x==("__debug__":Str))=false:=by decide)(hcd:(x==("__classdict__":Str))=false:=by decide):PE X (.Name x pos) (sG i):=by
 intro pins s σ H Q I h
 obtain⟨v,e,h⟩:=h
 obtain⟨m,hn,hl⟩:=I.loc
 obtain⟨u,r,l⟩:=hl i x v hN e hv
 have fin:EP X pins σ Q u s:=⟨v,H,I,r,h⟩
 rcases l with ⟨hk,hm⟩|⟨hk,c,hc,hcell⟩
 .exact wpAny_Name (wpAny_loadName_local I.ok.kind hk hn hm fin) hd
 .rcases hk with hk|hk
  .exact wpAny_Name (wpAny_loadName_cell I.ok.kind hk hc hcell fin) hd
  .exact wpAny_Name (wpAny_loadName_free I.ok.kind hk hc hcell fin hcd) hd
theorem R6{i j pos}:PE X (.Constant (.int i) j pos) (tC (.int i)):=fun _ _ _ H _ I h=>wpAny_Constant_int ⟨.int i,H,I.tok _,⟨_,rfl⟩,h⟩
theorem xG{b j pos}:PE X (.Constant (.bool b) j pos) (tC (.bl b)):=fun _ _ _ H _ I h=>Constant_bool ⟨.bl b,H,I,rfl,h⟩
def Gl(X:Cx)(x:Str):Prop:=X.env.kindOf x=some .globalImplicit
theorem bC{E:Value->Shared->Prop}{pins:List (Addr×Obj)}{s:Shared}{σ:St}{H:Hp}{x:Str}{u:Value}{pos:Pos}{Q:Value->Shared->Prop}(I:Inv X pins σ H s)(hg:Gl X x)(hm:X.mg x=some u)(h:Q u s)
  (hd:(x==("__debug__":Str))=false:=by decide):wpAny (model X.prog X.w) X.A (eval (.Name x pos) X.env) Q E s :=
 Calls.Name_function_global I.ok.kind hg (Calls.loadGlobal_global (by rw[I.ok.glob];exact I.mod.glob.keeps I.bk) hm h) hd
theorem Jz{E:Value->Shared->Prop}{pins:List (Addr×Obj)}{s:Shared}{σ:St}{H:Hp}{x:Str}{u:Value}{pos:Pos}{Q:Value->Shared->Prop}(I:Inv X pins σ H s)(hg:Gl X x)(hm:X.mg x=none)(hv:bootBuiltins x=some u)(h:Q u s)
  (hn:x≠"__name__":=by decide) (hd:(x==("__debug__":Str))=false:=by decide):wpAny (model X.prog X.w) X.A (eval (.Name x pos) X.env) Q E s:=by
 obtain⟨mb,h1,h2⟩:=I.mod.blt
 exact Calls.Name_function_global I.ok.kind hg (Calls.loadGlobal_builtin (by rw[I.ok.glob];exact I.mod.glob.keeps I.bk) hm (by rw[I.ok.blt];exact h1.keeps I.bk) ((h2 x hn).trans hv) h) hd
theorem ao{x:Str}{v:V}{u:Value}{pos:Pos}(hg:Gl X x)(hm:X.mg x=some u)(r:RelV v u)(hd:(x==("__debug__":Str))=false:=by decide):PE X (.Name x pos) (tC v) :=
 fun _ _ _ H _ I h=>bC I hg hm ⟨v,H,I,r,h⟩ hd
theorem pJ{x:Str}{v:V}{u:Value}{pos:Pos}(hg:Gl X x)(hm:X.mg x=none)(hv:bootBuiltins x=some u)(r:RelV v u)(hn:x≠"__name__":=by decide)(hd:(x==("__debug__":Str))=false:=by decide):PE X (.Name x pos) (tC v) :=
 fun _ _ _ H _ I h=>Jz I hg hm hv ⟨v,H,I,r,h⟩ hn hd
variable{a b:Expr}{ta tb:TE}{pos:Pos}
def PC(X:Cx)(op:CmpOp)(a b:Expr)(t:TE):Prop :=
 ∀(pins:List (Addr×Obj))(s:Shared)(σ:St)(H:Hp)(Q:VK),Inv X pins σ H s->t σ H Q ->
  wpAny (model X.prog X.w) X.A (eval a X.env) (fun v s₁=>wpAny (model X.prog X.w) X.A (eval b X.env) (fun u s₂=>wpAny (model X.prog X.w) X.A (compareOp op v u) (EP X pins σ Q) X.xe s₂) X.xe s₁) X.xe s
theorem kj(b:Expr){op:CmpOp}(h:op≠.In)(h2:op≠.NotIn):behindInMarks op b=false:=by
 have e1:(op==CmpOp.In)=false:=by cases op<;>first|rfl|exact absurd rfl h
 have e2:(op==CmpOp.NotIn)=false:=by cases op<;>first|rfl|exact absurd rfl h2
 cases b<;>simp[behindInMarks,e1,e2]
def tB(t:TE):TT:=fun σ H Q=>t σ H fun x H1=>∃c,x=.bl c/\Q c H1
theorem zU{op:CmpOp}{t:TE}(h:PC X op a b t)(h1:behindInMarks op b=false:=by first|exact kj _ (by decide) (by decide)|rfl):PT X (.Compare a [op] [b] pos) (tB t):=by
 intro pins s σ H Q I hw
 refine wpAny_isTrue_Compare1 (thn (h pins s σ H _ I hw) fun v s1 h1=>thn h1 fun u s2 h2=>thn h2 fun c s3 ⟨x,H1,I1,r1,q1⟩=>?_) h1
 obtain⟨d,rfl,q⟩:=q1
 cases r1
 exact wpAny_truthy_bool ⟨H1,I1,q⟩
theorem uM{e:Expr}{t:TE}(h:PE X e t)(he:∀whole,isTrue e X.env whole=(do let v ←whole;standAt e.pos;holding [v] (truthy v)):=by intro _;rfl):PT X e (tB t):=by
 intro pins s σ H Q I hw
 refine isTrue_plain (thn (h pins s σ H _ I hw) fun v s1 ⟨x,H1,I1,r1,q1⟩=>?_) (he _)
 obtain⟨d,rfl,q⟩:=q1
 cases r1
 exact wpAny_truthy_bool ⟨H1,I1,q⟩
variable{tA tB':TT}{rest:List Expr}
def Jt(t u:TT):TT:=fun σ H Q=>t σ H fun c H1=>if c=true then u σ H1 Q else Q false H1
def tOr(t u:TT):TT:=fun σ H Q=>t σ H fun c H1=>if c=true then Q true H1 else u σ H1 Q
def Hx(t:TT):TT:=fun σ H Q=>t σ H fun c H1=>Q (!c) H1
theorem oR(ha:PT X a tA):PW X (.BoolOp .And [a] pos) tA:=by
 intro wh pins s σ H Q I h
 refine isTrue_and (thn (ha pins s σ H Q I h) fun c s1 e=>?_)
 cases c with
 |true=>exact isTrue_and_nil e
 |false=>exact e
theorem uK(ha:PT X a tA):PW X (.BoolOp .Or [a] pos) tA:=by
 intro wh pins s σ H Q I h
 refine isTrue_or (thn (ha pins s σ H Q I h) fun c s1 e=>?_)
 cases c with
 |false=>exact isTrue_or_nil e
 |true=>exact e
theorem uL(ha:PT X a tA)(hb:PW X (.BoolOp .And (b::rest) pos) tB'):PW X (.BoolOp .And (a::b::rest) pos) (Jt tA tB'):=by
 intro wh pins s σ H Q I h
 refine isTrue_and (thn (ha pins s σ H _ I h) fun c s1 ⟨H1,I1,q1⟩=>?_)
 cases c with
 |true=>exact hb wh pins s1 σ H1 Q I1 q1
 |false=>exact⟨H1,I1,q1⟩
theorem wZ(ha:PT X a tA)(hb:PW X (.BoolOp .Or (b::rest) pos) tB'):PW X (.BoolOp .Or (a::b::rest) pos) (tOr tA tB'):=by
 intro wh pins s σ H Q I h
 refine isTrue_or (thn (ha pins s σ H _ I h) fun c s1 ⟨H1,I1,q1⟩=>?_)
 cases c with
 |true=>exact⟨H1,I1,q1⟩
 |false=>exact hb wh pins s1 σ H1 Q I1 q1
theorem uN(ha:PT X a tA):PT X (.UnaryOp .Not a pos) (Hx tA):=by
 intro pins s σ H Q I h
 exact isTrue_not (ha pins s σ H (fun c H1=>Q (!c) H1) I h)
def wQ(ta tb:TE):TE:=fun σ H Q=>ta σ H fun x H1=>∃c,x=.bl c/\if c=true then tb σ H1 Q else Q (.bl false) H1
def wL(ta:TE):TE:=fun σ H Q=>ta σ H fun x H1=>∃c,x=.bl c/\Q (.bl (!c)) H1
theorem uX{op}{t:TE}(h:PE X a t):PE X (.BoolOp op [a] pos) t:=fun pins s σ H Q I hw=>BoolOp_one (h pins s σ H Q I hw)
theorem uc(ha:PE X a ta)(hb:PE X (.BoolOp .And (b::rest) pos) tb):PE X (.BoolOp .And (a::b::rest) pos) (wQ ta tb):=by
 intro pins s σ H Q I h
 refine BoolOp_and (thn (ha pins s σ H _ I h) fun v s1 ⟨x,H1,I1,r1,q1⟩=>?_)
 obtain⟨c,rfl,q1⟩:=q1
 cases r1
 refine wpAny_truthy_bool ?_
 cases c with
 |true=>exact hb pins s1 σ H1 Q I1 q1
 |false=>exact⟨.bl false,H1,I1,rfl,q1⟩
theorem uY(ha:PE X a ta):PE X (.UnaryOp .Not a pos) (wL ta):=by
 intro pins s σ H Q I h
 refine UnaryOp_ (thn (ha pins s σ H _ I h) fun v s1 ⟨x,H1,I1,r1,q1⟩=>?_)
 obtain⟨c,rfl,q1⟩:=q1
 cases r1
 exact not_of (wpAny_truthy_bool ⟨.bl (!c),H1,I1,rfl,q1⟩)
end
end L2
namespace L2
open PySem PySem.Spec PyProof.Rows
def SqL(K:PySem.W.Frag)(H:Hp)(a:Addr)(xs:List V):Prop :=
 Rd H a (.lst xs) ∨
  ∃(o:Obj)(its:Array Value)(n:Nat),K.lookup a=some o/\o.cls=.type "list"/\o.dict=none/\o.data=.seq its n/\its.size<=sizeLine/\Vals xs its.toList
def SqT(K:PySem.W.Frag)(H:Hp)(a:Addr)(xs:List V):Prop :=
 Rd H a (.tup xs) ∨
  ∃(o:Obj)(its:Array Value)(n:Nat),K.lookup a=some o/\o.cls=.type "tuple"/\o.data=.seq its n/\its.size<=sizeLine/\Vals xs its.toList
def yr:Value->Option V
 |.none=>some .non
 |.bool b=>some (.bl b)
 |.int i _=>some (.int i)
 |.str x _=>some (.str x)
 |.bytes b _=>some (.byt b)
 |.float b _=>some (.flt b)
 |.ref a=>some (.ref a)
 |.type n=>some (.ty n)
 |_=>none
theorem RelV.abs{x:V}{u:Value}(r:RelV x u):yr u=some x:=by
 cases x with
 |non=>cases r;rfl
 |bl _=>cases r;rfl
 |int _=>obtain⟨t,rfl⟩:=r;rfl
 |str _=>obtain⟨t,rfl⟩:=r;rfl
 |byt _=>obtain⟨t,rfl⟩:=r;rfl
 |flt _=>obtain⟨t,rfl⟩:=r;rfl
 |ref _=>cases r;rfl
 |ty _=>cases r;rfl
theorem RelV.inj{x y:V}{u:Value}(r:RelV x u)(q:RelV y u):x=y:=Option.some.inj (r.abs.symm.trans q.abs)
theorem Vals.inj:∀{xs ys:List V} {us:List Value},Vals xs us->Vals ys us->xs=ys
 |_,_,_,.nil,.nil=>rfl
 |_,_,_,.cons r t,.cons r' t'=>by rw[r.inj r',Vals.inj t t']
section
variable{X:Cx}{pins:List (Addr×Obj)}{σ:St}{H:Hp}{s:Shared}{a:Addr}{xs ys:List V}
theorem SqL.of{K:PySem.W.Frag}(h:H a=some (.lst xs)):SqL K H a xs:=.inl (.inl h)
theorem SqT.of{K:PySem.W.Frag}(h:H a=some (.tup xs)):SqT K H a xs:=.inl (.inl h)
theorem Inv.list(I:Inv X pins σ H s)(h:SqL X.K H a xs):∃its:List Value,Vals xs its/\PlainL s.heap a its.toArray/\xs.length<=sizeLine:=by
 rcases h with h|⟨o,its,n,hk,hc,hd,hs,hz,r⟩
 .obtain⟨z,its,n,r,e⟩:=h.ok I.hok
  exact⟨its,r,⟨_,n,e,rfl,rfl,rfl⟩,z⟩
 .refine⟨its.toList,r,⟨o,n,I.kIn a o hk,hc,hd,by simpa using hs⟩,?_⟩
  have e:=r.length
  simp only[Array.length_toList] at e
  omega
theorem Inv.tuple(I:Inv X pins σ H s)(h:SqT X.K H a xs):∃its:List Value,Vals xs its/\IsTup s.heap a its.toArray/\xs.length<=sizeLine:=by
 rcases h with h|⟨o,its,n,hk,hc,hs,hz,r⟩
 .obtain⟨z,its,r,p⟩:=h.ok I.hok
  exact⟨its,r,p,z⟩
 .refine⟨its.toList,r,⟨o,I.kIn a o hk,hc,n,by simpa using hs⟩,?_⟩
  have e:=r.length
  simp only[Array.length_toList] at e
  omega
theorem Inv.Yk(I:Inv X pins σ H s)(h:SqL X.K H a xs)(h':SqL X.K H a ys):xs=ys:=by
 obtain⟨its,r,⟨o,n,e,_,_,d⟩,_⟩:=I.list h
 obtain⟨its',r',⟨o',n',e',_,_,d'⟩,_⟩:=I.list h'
 rw[e] at e';cases e'
 rw[d] at d'
 injection d' with d1 _
 have:its=its':=by simpa using congrArg Array.toList d1
 subst this
 exact r.inj r'
theorem Inv.fQ(I:Inv X pins σ H s)(h:SqT X.K H a xs)(h':SqT X.K H a ys):xs=ys:=by
 obtain⟨its,r,⟨o,e,_,n,d⟩,_⟩:=I.tuple h
 obtain⟨its',r',⟨o',e',_,n',d'⟩,_⟩:=I.tuple h'
 rw[e] at e';cases e'
 rw[d] at d'
 injection d' with d1 _
 have:its=its':=by simpa using congrArg Array.toList d1
 subst this
 exact r.inj r'
end
abbrev Cx.wish(X:Cx)(E:Value->Shared->Prop):Cx:={ X with xe:=E }
abbrev Cx.nox(X:Cx):Cx:=X.wish fun _ _=>False
theorem Cx.Ok.wish{X:Cx}(ok:X.Ok)(E:Value->Shared->Prop):(X.wish E).Ok :=
 ⟨ok.mod,ok.kind,ok.glob,ok.blt,ok.above,ok.inj,ok.has,ok.cab,ok.hd,ok.frames,ok.stk,ok.exf,ok.bs,ok.bsz,ok.noex,ok.exfs,ok.Nm,ok.frf,ok.sy⟩
theorem Cx.Ok.Lz{X:Cx}{E:Value->Shared->Prop}(ok:(X.wish E).Ok):X.Ok :=
 ⟨ok.mod,ok.kind,ok.glob,ok.blt,ok.above,ok.inj,ok.has,ok.cab,ok.hd,ok.frames,ok.stk,ok.exf,ok.bs,ok.bsz,ok.noex,ok.exfs,ok.Nm,ok.frf,ok.sy⟩
section
variable{X:Cx}{pins:List (Addr×Obj)}{σ:St}{H:Hp}{s:Shared}{E:Value->Shared->Prop}
theorem Inv.wish(I:Inv X pins σ H s)(E:Value->Shared->Prop):Inv (X.wish E) pins σ H s:=⟨I.ok.wish E,I.os,I.bare,I.base,I.loc,I.cell,I.free,I.freeC,I.pin,I.hok,I.len⟩
theorem Inv.Lz(I:Inv (X.wish E) pins σ H s):Inv X pins σ H s:=⟨I.ok.Lz,I.os,I.bare,I.base,I.loc,I.cell,I.free,I.freeC,I.pin,I.hok,I.len⟩
theorem SP.Lz{D:Ends}{f:Flow}{s':Shared}(h:SP (X.wish E) pins D f s'):SP X pins D f s':=by
 cases f with
 |next=>obtain⟨σ',H',I,q⟩:=h;exact⟨σ',H',I.Lz,q⟩
 |brk=>obtain⟨σ',H',I,q⟩:=h;exact⟨σ',H',I.Lz,q⟩
 |cont=>obtain⟨σ',H',I,q⟩:=h;exact⟨σ',H',I.Lz,q⟩
 |ret u=>obtain⟨v,σ',H',I,r,q⟩:=h;exact⟨v,σ',H',I.Lz,r,q⟩
theorem PSs.nox{st:List Stmt}{t:TS}(h:PSs X.nox st t):PSs X st t:=fun pins s σ H D I hw =>
 wpAny_mono (h pins s σ H D (I.wish _) hw) (fun _ _ q=>q.Lz) fun _ _ z=>False.elim z
end
section
variable{X:Cx}{st:Stmt}{rest:List Stmt}{t u:TS}{e:Expr}{te:TE}{pos:Pos}
def wM:TS:=fun D σ H=>D.nx σ H
def yO(t u:TS):TS:=fun D σ H=>t { D with nx:=u D } σ H
theorem oY:PSs X [] wM:=fun _ _ σ H _ I h=>wpAny_execs_nil ⟨σ,H,I,h⟩
theorem jx(h1:PS X st t)(h2:PSs X rest u):PSs X (st::rest) (yO t u):=by
 intro pins s σ H D I h
 refine wpAny_execs_cons (thn (h1 pins s σ H { D with nx:=u D } I h) fun f s1 q=>?_)
 cases f with
 |next =>
  obtain⟨σ',H',I',q⟩:=q
  exact h2 pins s1 σ' H' D I' q
 |ret v=>exact q
 |brk=>exact q
 |cont=>exact q
theorem oX(h1:PS X st t):PSs X [st] t:=by
 intro pins s σ H D I h
 refine wpAny_execs_cons (thn (h1 pins s σ H D I h) fun f s1 q=>?_)
 cases f with
 |next=>exact wpAny_execs_nil q
 |ret v=>exact q
 |brk=>exact q
 |cont=>exact q
theorem Inv.quiet{pins:List (Addr×Obj)}{σ:St}{H:Hp}{s:Shared}(I:Inv X pins σ H s):interactive X.env=false:=by simp[interactive,I.ok.kind]
def wO(te:TE):TS:=fun D σ H=>te σ H fun _ H1=>D.nx σ H1
theorem oZ(he:PE X e te)(hs:swapsWith e none pos.line X.env=pure false:=by rfl):PS X (.Expr e pos) (wO te):=by
 intro pins s σ H D I h
 exact wpAny_Expr_any (thn (he pins s σ H _ I h) fun v s1 ⟨x,H1,I1,r1,q1⟩=>⟨σ,H1,I1,q1⟩) I.quiet hs
def yP(te:TE):TS:=fun D σ H=>te σ H D.rt
theorem uP(he:PE X e te):PS X (.Return (some e) pos) (yP te):=by
 intro pins s σ H D I h
 exact wpAny_Return_some (thn (he pins s σ H _ I h) fun v s1 ⟨x,H1,I1,r1,q1⟩=>⟨x,σ,H1,I1,r1,q1⟩)
def yR(c:TT)(t u:TS):TS:=fun D σ H=>c σ H fun b H1=>if b=true then t D σ H1 else u D σ H1
theorem wg{c:Expr}{a b:List Stmt}{tc:TT}(hc:PT X c tc)(ha:PSs X a t)(hb:PSs X b u):PS X (.If c a b pos) (yR tc t u):=by
 intro pins s σ H D I h
 refine wpAny_If (thn (hc pins s σ H _ I h) fun d s1 ⟨H1,I1,q1⟩=>?_)
 cases d with
 |true=>exact ha pins s1 σ H1 D I1 q1
 |false=>exact hb pins s1 σ H1 D I1 q1
def u5:TS:=fun _ _ _=>False
theorem jz:PS X st u5:=fun _ _ _ _ _ _ h=>h.elim
end
abbrev TG:=V->St->Hp->(St->Hp->Prop)->Prop
abbrev TGs:=List V->St->Hp->(St->Hp->Prop)->Prop
def PG(X:Cx)(target:Expr)(t:TG):Prop :=
 ∀(pins:List (Addr×Obj))(s:Shared)(σ:St)(H:Hp)(v:V)(u:Value)(Q:St->Hp->Prop),Inv X pins σ H s->RelV v u->t v σ H Q ->
  wpAny (model X.prog X.w) X.A (assign target X.env u) (fun _ s'=>∃σ' H',Inv X pins σ' H' s'/\Q σ' H') X.xe s
def PGs(X:Cx)(ts:List Expr)(t:TGs):Prop :=
 ∀(pins:List (Addr×Obj))(s:Shared)(σ:St)(H:Hp)(vs:List V)(us:List Value)(Q:St->Hp->Prop),Inv X pins σ H s->Vals vs us->t vs σ H Q ->
  wpAny (model X.prog X.w) X.A (assignInOrder ((assignEach ts X.env).map (·.2)) us) (fun _ s'=>∃σ' H',Inv X pins σ' H' s'/\Q σ' H') X.xe s
abbrev jB:=V->V->V->Hp->(Hp->Prop)->Prop
def tV(X:Cx)(t:jB):Prop :=
 ∀(pins:List (Addr×Obj))(s:Shared)(σ:St)(H:Hp)(o i v:V)(ov iv u:Value)(Q:Hp->Prop),Inv X pins σ H s->RelV o ov->RelV i iv->RelV v u->t o i v H Q ->
  wpAny (model X.prog X.w) X.A (setItem ov iv u) (fun _ s'=>∃H',Inv X pins σ H' s'/\Q H') X.xe s
section
variable{X:Cx}{pos:Pos}
def Xj(i:Nat):TG:=fun v σ H Q=>Q (σ.set i (some v)) H
theorem pF{i:Nat}{x:Str}(hN:X.N.Nodup)(hi:X.N[i]?=some x)(hx:Loc X.env.scope x)(hf:X.fn x=true∨X.env.scope.names.lookup x=some .local:=by first|exact .inl rfl|exact .inr rfl|assumption):PG X (.Name x pos) (Xj i):=by
 intro pins s σ H v u Q I r h
 exact wpAny_assign_Name (YT I hN hi hx r (fun s' I'=>⟨_,H,I',h⟩) hf)
def jA:TGs:=fun vs σ H Q=>vs=[]/\Q σ H
def cO(t:TG)(u:TGs):TGs:=fun vs σ H Q=>∃v r,vs=v::r/\t v σ H fun σ' H'=>u r σ' H' Q
theorem pD:PGs X [] jA:=by
 intro pins s σ H vs us Q I r h
 obtain⟨e,h⟩:=h
 subst e
 cases r
 exact assignInOrder_nil ⟨σ,H,I,h⟩
theorem kJ{e:Expr}{es:List Expr}{t:TG}{u:TGs}(h1:PG X e t)(h2:PGs X es u)
  (hs:(assignEach (e::es) X.env).map (·.2)=assign e X.env::(assignEach es X.env).map (·.2):=by rfl):PGs X (e::es) (cO t u):=by
 intro pins s σ H vs us Q I r h
 obtain⟨v,vr,e1,h⟩:=h
 subst e1
 cases r with
 |cons r rr =>
  rw[hs]
  refine assignInOrder_cons (thn (h1 pins s σ H _ _ _ I r h) fun _ s1 ⟨σ1,H1,I1,q1⟩=>?_)
  exact h2 pins s1 σ1 H1 _ _ Q I1 rr q1
def j9(K:PySem.W.Frag)(n:Nat)(t:TGs):TG:=fun v σ H Q=>∃a xs,v=.ref a/\SqT K H a xs/\xs.length=n/\t xs σ H Q
theorem uU{es:List Expr}{k:Nat}{t:TGs}{n:Nat}(hc:X.calm=true)(h:PGs X es t)
  (hn:(assignEach es X.env).length=n:=by rfl) (hst:(assignEach es X.env).findIdx? (·.1)=none:=by rfl):PG X (.Tuple es k pos) (j9 X.K n t):=by
 intro pins s σ H v u Q I r hw
 obtain⟨a,xs,e1,hq,hl,hw⟩:=hw
 subst e1
 cases r
 obtain⟨its,rv,ht,hz⟩:=I.tuple hq
 refine assign_Tuple_tuple (I.ok.hd hc) ht (by simp[hn,←hl,rv.length]) hst fun h' hx=>?_
 have I1:Inv X pins σ H { s with heap:=h' }:=I.kept (t':=s.toks) fun b o e=>hx b o (Nat.ne_of_lt (Heap.lt_size e)) e
 exact h pins _ σ H xs _ Q I1 (by simpa using rv) hw
def yp(to ti:TE)(t:jB):TG:=fun v σ H Q=>to σ H fun o H1=>ti σ H1 fun i H2=>t o i v H2 fun H3=>Q σ H3
theorem uV{o i:Expr}{to ti:TE}{t:jB}(ho:PE X o to)(hi:PE X i ti)(hs:tV X t)
  (ha:∀v,assign (.Subscript o i pos) X.env v=(do
   let ov ←holding [v] (eval o X.env)
   let iv ←holding [v,ov] (eval i X.env)
   standAt pos
   holding [v,ov,iv] (setItem ov iv v)
   release [v,ov,iv] []):=by intro _;rfl):PG X (.Subscript o i pos) (yp to ti t):=by
 intro pins s σ H v u Q I r h
 rw[ha]
 refine wpAny_bind (wpAny_holding (thn (ho pins s σ H _ I h) fun ov s1 ⟨x,H1,I1,r1,q1⟩=>?_))
 refine wpAny_bind (wpAny_holding (thn (hi pins s1 σ H1 _ I1 q1) fun iv s2 ⟨y,H2,I2,r2,q2⟩=>?_))
 refine wpAny_bind (wpAny_standAt (wpAny_bind (wpAny_holding (thn (hs pins s2 σ H2 x y v ov iv u _ I2 r1 r2 r q2) fun _ s3 ⟨H3,I3,q3⟩=>?_))))
 exact wpAny_release ⟨σ,H3,I3,q3⟩
def sO(te:TE)(g:TG):TS:=fun D σ H=>te σ H fun x H1=>g x σ H1 D.nx
theorem eE{tg e:Expr}{te:TE}{g:TG}(he:PE X e te)(hg:PG X tg g)(hs:swapsWithSole [tg] e pos.line X.env=pure false:=by rfl)(hw:swappedStores [tg] e X.env=pure none:=by rfl)
  (h1:(assignEach [tg] X.env).map (·.2)=[assign tg X.env]:=by rfl):PS X (.Assign [tg] e pos) (sO te g):=by
 intro pins s σ H D I h
 refine wpAny_Assign_stores (thn (he pins s σ H _ I h) fun v s1 ⟨x,H1,I1,r1,q1⟩=>?_) hs hw
 rw[h1]
 exact thn (hg pins s1 σ H1 x v _ I1 r1 q1) fun _ s2 q=>q
theorem uO{i:Nat}{x:Str}{e:Expr}{te:TE}{pos':Pos}(hN:X.N.Nodup)(hi:X.N[i]?=some x)(hx:Loc X.env.scope x)(he:PE X e te)(hs:swapsWith e (some (.Name x pos')) pos.line X.env=pure false:=by rfl)(hf:X.fn x=true∨X.env.scope.names.lookup x=some .local:=by first|exact .inl rfl|exact .inr rfl|assumption) :
  PS X (.Assign [.Name x pos'] e pos) (sO te (Xj i)):=by
 intro pins s σ H D I h
 refine wpAny_Assign_Name (thn (he pins s σ H _ I h) fun v s1 ⟨y,H1,I1,r1,q1⟩=>?_) hs
 exact YT I1 hN hi hx r1 (fun s2 I2=>⟨_,H1,I2,q1⟩) hf
end
section
variable{X:Cx}{pos:Pos}
def tu(c:TT)(tb:TS):TS:=fun D σ H=>∃W:Nat->St->Hp->Prop,(∃m,W m σ H)/\∀m σ H,W m σ H ->
 c σ H fun b H1=>if b=true then ∃N:St->Hp->Prop,(∀σ' H',N σ' H'->∃m',m'<m/\W m' σ' H')/\tb { D with nx:=N,ct:=N,bk:=D.nx } σ H1 else D.nx σ H1
theorem jy{c:Expr}{body:List Stmt}{tc:TT}{tb:TS}(hp:PassesOwn (model X.prog X.w) X.A X.env X.xe)(hc:PT X c tc)(hb:PSs X body tb):PS X (.While c body [] pos) (tu tc tb):=by
 intro pins s σ H D I h
 obtain⟨W,⟨m0,w0⟩,turn⟩:=h
 refine wpAny_While (codeAny_whileLoop (fun n s'=>∃σ' H',Inv X pins σ' H' s'/\W n σ' H') ?_ m0 ⟨σ,H,I,w0⟩)
 rintro n s1 ⟨σ1,H1,I1,w1⟩
 refine wpAny_passesOwn hp (thn (hc pins s1 σ1 H1 _ I1 (turn n σ1 H1 w1)) fun b s2 ⟨H2,I2,q2⟩=>?_)
 cases b with
 |true =>
  obtain⟨N,hN,q2⟩:=q2
  rw[if_pos rfl]
  refine wpAny_passesOwn hp (thn (hb pins s2 σ1 H2 _ I2 q2) fun f s3 q3=>?_)
  cases f with
  |next =>
   obtain⟨σ3,H3,I3,n3⟩:=q3
   obtain⟨m',hm,w3⟩:=hN σ3 H3 n3
   exact⟨m',hm,σ3,H3,I3,w3⟩
  |cont =>
   obtain⟨σ3,H3,I3,n3⟩:=q3
   obtain⟨m',hm,w3⟩:=hN σ3 H3 n3
   exact⟨m',hm,σ3,H3,I3,w3⟩
  |brk=>exact q3
  |ret v=>exact q3
 |false =>
  rw[if_neg Bool.false_ne_true]
  exact wpAny_execs_nil ⟨σ1,H2,I2,q2⟩
end
structure It where
 go:Nat->Hp->Prop
 yld:Nat->Hp->V->Hp->Prop
 stop:Nat->Hp->Prop
def PL(X:Cx)(pins:List (Addr×Obj))(H:Hp)(b:Addr):Prop :=
 H b=none/\b≠X.env.locals/\b ∉ X.fs/\(b∈X.ex∨X.s₀.heap.objs.size<=b)/\(∀x c,X.env.cells.lookup x=some c->c≠b)/\∀p∈X.pn++pins,p.1≠b
theorem Inv.Vp{X:Cx}{pins:List (Addr×Obj)}{σ:St}{H H':Hp}{s:Shared}{b:Addr}(I:Inv X pins σ H s)(hb:s.heap.objs.size<=b)(hn:H' b=none):PL X pins H' b:=by
 refine⟨hn,Nat.ne_of_gt (Nat.lt_of_lt_of_le I.lt hb),I.j7 hb,.inr (Nat.le_trans I.sz hb),fun x c e z=>?_,fun p hp z=>?_⟩
 .obtain⟨v,q⟩:=I.cell x c e
  exact absurd (Nat.lt_of_lt_of_le q.lt (by rw[z];exact hb)) (Nat.lt_irrefl _)
 .exact absurd (Nat.lt_of_lt_of_le (Heap.lt_size (I.pin p hp).1) (by rw[z];exact hb)) (Nat.lt_irrefl _)
structure Turn(P:Program)(w:World)(K:PySem.W.Frag)(tg:Expr)(J:It)(fp:List Addr)(it:Addr)(tn:Nat->Heap->Prop):Prop where
 mem:it∈fp
 obj:∀i h,tn i h->∀b∈fp,∃o,h.get? b=some o/\∀v,o.data≠.cell v
 keep:∀i h h',tn i h->(∀b∈fp,∀o,h.get? b=some o->h'.get? b=some o)->tn i h'
 item:∀(X:Cx),X.prog=P->X.w=w->X.K=K->X.calm=true->∀(i:Nat)(pins:List (Addr×Obj))(s:Shared)(σ:St)(H:Hp)(E:Value->Shared->Prop),Inv X pins σ H s->(∀b∈fp,PL X pins H b)->tn i s.heap->J.go i H ->
  wpAny (model P w) X.A (pyNext (.ref it)) (fun r s1=>∃u,r=some u /\
   wpAny (model P w) X.A (letOwnedTupleGo tg (.ref it) u) (fun _ s2=>∃x H',Inv X pins σ H' s2/\RelV x u/\J.yld i H x H'/\tn (i+1) s2.heap/\∀b∈fp,H' b=none) E s1) E s
 done:∀(X:Cx),X.prog=P->X.w=w->X.K=K->X.calm=true->∀(i:Nat)(pins:List (Addr×Obj))(s:Shared)(σ:St)(H:Hp)(E:Value->Shared->Prop),Inv X pins σ H s->(∀b∈fp,PL X pins H b)->tn i s.heap->J.stop i H ->
  wpAny (model P w) X.A (pyNext (.ref it)) (fun r s1=>r=none/\Inv X pins σ H s1) E s
 self:∀(A:Around)(i:Nat)(s:Shared)(Q:Value->Shared->Prop)(E:Value->Shared->Prop),tn i s.heap->Q (.ref it) s->wpAny (model P w) A (pyIter (.ref it)) Q E s
abbrev TI:=St->Hp->(It->Hp->Prop)->Prop
def PIE(X:Cx)(pins:List (Addr×Obj))(σ:St)(tg:Expr)(R:It->Hp->Prop)(itv:Value)(s2:Shared):Prop :=
 ∃(it:Addr)(fp:List Addr)(tn:Nat->Heap->Prop)(J:It)(H':Hp),itv=.ref it/\Inv X pins σ H' s2/\Turn X.prog X.w X.K tg J fp it tn/\tn 0 s2.heap/\(∀b∈fp,PL X pins H' b)/\R J H'
def PI(X:Cx)(tg iter:Expr)(wi:TI):Prop :=
 ∀(pins:List (Addr×Obj))(s:Shared)(σ:St)(H:Hp)(R:It->Hp->Prop),Inv X pins σ H s->wi σ H R ->
  wpAny (model X.prog X.w) X.A (eval iter X.env) (fun v s1=>wpAny (model X.prog X.w) X.A (pyIter v) (PIE X pins σ tg R) X.xe s1) X.xe s
theorem Xi{M:Model}{A:Around}{E:Value->Shared->Prop}{s:Shared}{tg:Expr}{it:Addr}{u:Value}{o:Obj}{n:String}{vs:Array Value}{Q:Unit->Shared->Prop}(ho:s.heap.get? it=some o)(hc:o.cls=.type n)(hd:o.data=.fields vs)
  (hn:["enumerate","zip","dict_itemiterator","dict_reverseitemiterator","odict_iterator","itertools.zip_longest","itertools.pairwise"].contains n=false) (hQ:Q () s):wpAny M A (letOwnedTupleGo tg (.ref it) u) Q E s:=by
 unfold letOwnedTupleGo
 cases tg<;>first
  |exact wpAny_pure hQ
  |(cases u<;>first
    |exact wpAny_pure hQ
    |(refine wpAny_bind (wpAny_load ho ?_)
      rw[hc,hd]
      show wpAny M A (if (["enumerate","zip","dict_itemiterator","dict_reverseitemiterator","odict_iterator","itertools.zip_longest","itertools.pairwise"].contains n&&vs[0]?==some (rawInt _))=true then _ else _) Q E s
      rw[if_neg (by intro h;rw[hn,Bool.false_and] at h;cases h)]
      exact wpAny_pure hQ))
def Itl(K:PySem.W.Frag)(a:Addr):It :=
 ⟨fun i H=>∃xs x,SqL K H a xs/\xs[i]?=some x,fun i H x H'=>H'=H/\∀xs,SqL K H a xs->xs[i]?=some x,fun i H=>∃xs,SqL K H a xs/\xs.length<=i⟩
def Itt(K:PySem.W.Frag)(a:Addr):It :=
 ⟨fun i H=>∃xs x,SqT K H a xs/\xs[i]?=some x,fun i H x H'=>H'=H/\∀xs,SqT K H a xs->xs[i]?=some x,fun i H=>∃xs,SqT K H a xs/\xs.length<=i⟩
def Itr(lo:Int)(n:Nat):It:=⟨fun i _=>i<n,fun i H x H'=>H'=H/\x=.int (lo+i),fun i _=>n<=i⟩
theorem fO{P:Program}{w:World}{K:PySem.W.Frag}{tg:Expr}(a it:Addr):Turn P w K tg (Itl K a) [it] it (fun i h=>h.IsListIter it a i) where
 mem:=by simp
 obj:=fun i h st b hb=>by
  have e:b=it:=by simpa using hb
  subst e
  obtain⟨o,e,c,d⟩:=st
  exact⟨o,e,fun v z=>by rw[d] at z;cases z⟩
 keep:=fun i h h' st k=>st.at fun o e=>k it (by simp) o e
 item:=by
  intro X hP hw hK hc i pins s σ H E I hf st hg
  subst hP hw hK
  obtain⟨xs,x,hq,hx⟩:=hg
  obtain⟨its,rv,p,hz⟩:=I.list hq
  obtain⟨u,hu,ru⟩:=rv.get hx
  obtain⟨f0,f1,f2,f3,f4,f5⟩:=hf it (by simp)
  refine wpAny_pyNext_list_item st p.isList (x:=u) (by simpa using hu) fun h' st' sb=>?_
  have I1:Inv X pins σ H { s with heap:=h' }:=I.turned (t':=s.toks) (fun b o hb e=>(sb.2 b hb).trans e) f0 f1 f3 f4 f5
  obtain⟨o,e,c,d⟩:=id st'
  exact⟨u,rfl,Xi (s:={ s with heap:=h' }) e c d (by decide) ⟨x,H,I1,ru,⟨rfl,fun ys hy=>by rw[I.Yk hy hq];exact hx⟩,st',fun b hb=>(hf b hb).1⟩⟩
 done:=by
  intro X hP hw hK hc i pins s σ H E I hf st hg
  subst hP hw hK
  obtain⟨xs,hq,hx⟩:=hg
  obtain⟨its,rv,p,hz⟩:=I.list hq
  obtain⟨f0,f1,f2,f3,f4,f5⟩:=hf it (by simp)
  have hl:=rv.length
  exact wpAny_pyNext_list_end (I.ok.hd hc) st p.isList (by simp;omega) fun h' eb=>⟨rfl,I.turned (t':=s.toks) (fun b o hb e=>eb b o hb e) f0 f1 f3 f4 f5⟩
 self:=fun _ _ _ _ _ st h=>wpAny_pyIter_listiter st h
theorem cP{P:Program}{w:World}{K:PySem.W.Frag}{tg:Expr}(a it:Addr):Turn P w K tg (Itt K a) [it] it (fun i h=>h.IsTupleIter it a i) where
 mem:=by simp
 obj:=fun i h st b hb=>by
  have e:b=it:=by simpa using hb
  subst e
  obtain⟨o,e,c,d⟩:=st
  exact⟨o,e,fun v z=>by rw[d] at z;cases z⟩
 keep:=fun i h h' st k=>st.at fun o e=>k it (by simp) o e
 item:=by
  intro X hP hw hK hc i pins s σ H E I hf st hg
  subst hP hw hK
  obtain⟨xs,x,hq,hx⟩:=hg
  obtain⟨its,rv,p,hz⟩:=I.tuple hq
  obtain⟨u,hu,ru⟩:=rv.get hx
  obtain⟨f0,f1,f2,f3,f4,f5⟩:=hf it (by simp)
  refine wpAny_pyNext_tuple_item st (show s.heap.IsTuple a its.toArray from p) (x:=u) (by simpa using hu) fun h' st' sb=>?_
  have I1:Inv X pins σ H { s with heap:=h' }:=I.turned (t':=s.toks) (fun b o hb e=>(sb.2 b hb).trans e) f0 f1 f3 f4 f5
  obtain⟨o,e,c,d⟩:=id st'
  exact⟨u,rfl,Xi (s:={ s with heap:=h' }) e c d (by decide) ⟨x,H,I1,ru,⟨rfl,fun ys hy=>by rw[I.fQ hy hq];exact hx⟩,st',fun b hb=>(hf b hb).1⟩⟩
 done:=by
  intro X hP hw hK hc i pins s σ H E I hf st hg
  subst hP hw hK
  obtain⟨xs,hq,hx⟩:=hg
  obtain⟨its,rv,p,hz⟩:=I.tuple hq
  obtain⟨f0,f1,f2,f3,f4,f5⟩:=hf it (by simp)
  have hl:=rv.length
  exact wpAny_pyNext_tuple_end (I.ok.hd hc) st (show s.heap.IsTuple a its.toArray from p) (by simp;omega) fun h' eb=>⟨rfl,I.turned (t':=s.toks) (fun b o hb e=>eb b o hb e) f0 f1 f3 f4 f5⟩
 self:=fun _ _ _ _ _ st h=>wpAny_pyIter_tupleiter st h
theorem cQ{P:Program}{w:World}{K:PySem.W.Frag}{tg:Expr}(it:Addr)(lo:Int)(n:Nat):Turn P w K tg (Itr lo n) [it] it (fun i h=>IsRangeIter h it (lo+(i:Nat)*1) ((n:Int)-(i:Nat)) 1) where
 mem:=by simp
 obj:=fun i h st b hb=>by
  have e:b=it:=by simpa using hb
  subst e
  exact⟨_,st,fun v z=>by
   have z':Data.fields _=Data.cell v:=z
   cases z'⟩
 keep:=fun i h h' st k=>k it (by simp) _ st
 item:=by
  intro X hP hw hK hc i pins s σ H E I hf st hg
  subst hP hw hK
  obtain⟨f0,f1,f2,f3,f4,f5⟩:=hf it (by simp)
  have W:=Walks.range (prog:=X.prog) (w:=X.w) (I.ok.hd hc) it lo 1 n
  refine W.item i s _ _ hg st fun v h' tk hv st' kk=>?_
  obtain⟨t,rfl⟩:=hv
  have I1:Inv X pins σ H { s with heap:=h',toks:=tk }:=I.turned (fun b o hb e=>kk b o (by simpa using hb) e) f0 f1 f3 f4 f5
  refine⟨_,rfl,Xi (s:={ s with heap:=h',toks:=tk }) (n:="range_iterator") st' rfl rfl (by decide) ⟨.int (lo+i),H,I1,⟨t,?_⟩,⟨rfl,rfl⟩,st',fun b hb=>(hf b hb).1⟩⟩
  rw[Int.mul_one]
 done:=by
  intro X hP hw hK hc i pins s σ H E I hf st hg
  subst hP hw hK
  obtain⟨f0,f1,f2,f3,f4,f5⟩:=hf it (by simp)
  exact wpAny_pyNext_range_end (I.ok.hd hc) st (by have:n<=i:=hg;omega) fun h' eb=>⟨rfl,I.turned (t':=s.toks) (fun b o hb e=>eb b o hb e) f0 f1 f3 f4 f5⟩
 self:=fun _ _ _ _ _ st h=>wpAny_pyIter_rangeiter st h
end L2
namespace L2
open PySem PySem.Spec PyProof.Rows
section
variable{X:Cx}{tg:Expr}
theorem jt{pins:List (Addr×Obj)}{σ:St}{H:Hp}{s:Shared}{R:It->Hp->Prop}{E:Value->Shared->Prop}{lo hi:Int}{t u v:Tok}{tk:Nat}(I:Inv X pins σ H s)(h1:-(2^62)<=lo)(h2:lo<2^62)(h3:-(2^62)<=hi)(h4:hi<2^62)
  (q:R (Itr lo (hi-lo).toNat) H):wpAny (model X.prog X.w) X.A (pyIter (.ref s.heap.objs.size)) (PIE X pins σ tg R) E { s with heap:=s.heap.push { cls:=.type "range",data:=.fields #[.int lo t,.int hi u,.int 1 v] },toks:=tk }:=by
 refine wpAny_pyIter_range (IsRange.new ..) (small_one h1 h2 h3 h4) ?_
 have I1:Inv X pins σ H { s with heap:=s.heap.push { cls:=.type "range",data:=.fields #[.int lo t,.int hi u,.int 1 v] },toks:=tk }:=I.kept fun b o e=>Heap.get?_push_of_some _ e
 refine⟨(s.heap.push { cls:=.type "range",data:=.fields #[.int lo t,.int hi u,.int 1 v] }).objs.size,[(s.heap.push { cls:=.type "range",data:=.fields #[.int lo t,.int hi u,.int 1 v] }).objs.size],_,_,H,rfl,
  I1.kept (t':=tk) fun b o e=>Heap.get?_push_of_some _ e,cQ _ lo (hi-lo).toNat,?_,fun b hb=>?_,q⟩
 .have e1:lo+((0:Nat):Int)*1=lo:=by simp
  have e2:(((hi-lo).toNat:Nat):Int)-((0:Nat):Int)=Builtin.Range.rangeSize lo hi 1:=by rw[rangeSize_one];split<;>omega
  show IsRangeIter _ _ (lo+((0:Nat):Int)*1) ((((hi-lo).toNat:Nat):Int)-((0:Nat):Int)) 1
  rw[e1,e2]
  exact Heap.get?_push_size _ rfl
 .have e:b=(s.heap.push { cls:=.type "range",data:=.fields #[.int lo t,.int hi u,.int 1 v] }).objs.size:=by simpa using hb
  subst e
  exact I1.Vp (Nat.le_refl _) (I1.hok.fresh (Nat.le_refl _))
def xX(ta:TA):TI:=fun σ H R=>ta σ H fun vs H1=>∃j:Int,vs=[.int j]/\-(2^62)<=j/\j<2^62/\R (Itr 0 j.toNat) H1
theorem gR{a:Expr}{ta:TA}{p pos:Pos}(hg:Gl X "range")(hm:X.mg "range"=none)(ha:PA X [a] ta)(hs:starEach [a] X.env=[(false,eval a X.env)]:=by rfl):PI X tg (.Call (.Name "range" p) [a] [] pos) (xX ta):=by
 intro pins s σ H R I h
 refine Call_ (Jz I hg hm boot_range (PyProof.Rows.callWith_type1 (thn (ha pos pins s σ H _ I h) fun us s1 ⟨vs,H1,I1,r1,q1⟩=>?_) hs rfl))
 obtain⟨j,e,q1,q2,q⟩:=q1
 subst e
 cases r1 with
 |cons r rr =>
  cases rr
  obtain⟨t,rfl⟩:=r
  exact call_range_1 (jt I1 (by omega) (by omega) q1 q2 (by simpa using q))
def yS(wi:TI)(g:TG)(tb:TS):TS:=fun D σ H=>wi σ H fun J H1=>∃W:Nat->Nat->St->Hp->Prop,(∃m,W 0 m σ H1)/\∀i m σ H,W i m σ H ->
 (J.stop i H/\D.nx σ H)∨(J.go i H/\∃N:St->Hp->Prop,(∀σ' H',N σ' H'->∃m',m'<m/\W (i+1) m' σ' H')/\∀x H',J.yld i H x H'->g x σ H' fun σ2 H2=>tb { D with nx:=N,ct:=N,bk:=D.nx } σ2 H2)
def M6(fp:List Addr)(h:Heap):List (Addr×Obj):=fp.filterMap fun b=>(h.get? b).map fun o=>(b,o)
theorem NK{fp:List Addr}{h:Heap}{b:Addr}{o:Obj}(hb:b∈fp)(e:h.get? b=some o):(b,o)∈M6 fp h:=List.mem_filterMap.mpr ⟨b,hb,by rw[e];rfl⟩
theorem Wd{fp:List Addr}{h:Heap}{p:Addr×Obj}(hp:p∈M6 fp h):p.1∈fp/\h.get? p.1=some p.2:=by
 obtain⟨b,hb,e⟩:=List.mem_filterMap.mp hp
 cases q:h.get? b with
 |none=>rw[q] at e;cases e
 |some o =>
  rw[q] at e
  have e':(b,o)=p:=Option.some.inj e
  subst e'
  exact⟨hb,q⟩
theorem Inv.pinned{pins:List (Addr×Obj)}{σ:St}{H:Hp}{s:Shared}{fp:List Addr}(I:Inv X pins σ H s)(hf:∀b∈fp,PL X pins H b)(ho:∀b∈fp,∃o,s.heap.get? b=some o/\∀v,o.data≠.cell v):Inv X (pins++M6 fp s.heap) σ H s :=
 I.S8 fun p hp=>(List.mem_append.mp hp).elim (fun z=>I.pin p (List.mem_append_right _ z)) fun z=>by
  obtain⟨hb,e⟩:=Wd z
  obtain⟨f0,f1,f2,_⟩:=hf p.1 hb
  obtain⟨o,e',d⟩:=ho p.1 hb
  rw[e] at e';cases e'
  exact⟨e,f0,f1,f2,d⟩
theorem Inv.QV{pins pl:List (Addr×Obj)}{σ:St}{H:Hp}{s:Shared}(I:Inv X (pins++pl) σ H s):Inv X pins σ H s:=I.S8 fun p hp=>I.pin p (List.mem_append_right _ (List.mem_append_left _ hp))
theorem uQ{iter:Expr}{body:List Stmt}{wi:TI}{g:TG}{tb:TS}{pos:Pos}(hp:PassesOwn (model X.prog X.w) X.A X.env X.xe)(hc:X.calm=true)(hi:PI X tg iter wi)(hg:PG X tg g)(hb:PSs X body tb)
  (hs:∀x,foldedSetIterable iter X.env x=pure x:=by intro _;rfl):PS X (.For tg iter body [] pos) (yS wi g tb):=by
 intro pins s σ H D I h
 refine wpAny_For (thn (hi pins s σ H _ I h) fun v s1 h1=>thn h1 fun itv s2 h2=>?_) hs
 obtain⟨it,fp,tn,J,H2,e,I2,T,st2,f2,W,⟨m0,w0⟩,turn⟩:=h2
 subst e
 -- what stays true of the iterator's objects through the loop
 have stat:∀{H':Hp},(∀b∈fp,H' b=none)->∀b∈fp,PL X pins H' b:=fun hn b hb=>⟨hn b hb,(f2 b hb).2⟩
 refine codeAny_forLoop_any (fun n s'=>∃i σ' H',Inv X pins σ' H' s'/\tn i s'.heap/\(∀b∈fp,H' b=none)/\W i n σ' H') ?_ m0 ⟨0,σ,H2,I2,st2,fun b hb=>(f2 b hb).1,w0⟩
 rintro n s3 ⟨i,σ3,H3,I3,st3,fr3,w3⟩
 rcases turn i n σ3 H3 w3 with ⟨stop,qn⟩|⟨go,N,hN,step⟩
 .refine wpAny_passesOwn hp (thn (T.done X rfl rfl rfl hc i pins s3 σ3 H3 X.xe I3 (stat fr3) st3 stop) fun r s4 ⟨hr,I4⟩=>?_)
  subst hr
  exact wpAny_execs_nil ⟨σ3,H3,I4,qn⟩
 .refine wpAny_passesOwn hp (thn (T.item X rfl rfl rfl hc i pins s3 σ3 H3 X.xe I3 (stat fr3) st3 go) fun r s4 ⟨u,hr,h4⟩=>?_)
  subst hr
  refine wpAny_passesOwn hp (thn h4 fun _ s5 ⟨x,H5,I5,r5,y5,st5,fr5⟩=>?_)
  have I5':=I5.pinned (stat fr5) (T.obj _ _ st5)
  refine wpAny_passesOwn hp (thn (hg _ s5 σ3 H5 x u _ I5' r5 (step x H5 y5)) fun _ s6 ⟨σ6,H6,I6,q6⟩=>?_)
  refine wpAny_passesOwn hp (thn (hb _ s6 σ6 H6 _ I6 q6) fun f s7 q7=>?_)
  have again:∀{σ7:St} {H7:Hp},Inv X (pins++M6 fp s5.heap) σ7 H7 s7->N σ7 H7->∃m,m<n/\∃i σ' H',Inv X pins σ' H' s7/\tn i s7.heap/\(∀b∈fp,H' b=none)/\W i m σ' H':=fun {σ7 H7} I7 n7=>by
   obtain⟨m',hm,w7⟩:=hN σ7 H7 n7
   refine⟨m',hm,i+1,σ7,H7,I7.QV,T.keep _ _ _ st5 fun b hb o e=>(I7.pin (b,o) (List.mem_append_right _ (List.mem_append_right _ (NK hb e)))).1,fun b hb=>?_,w7⟩
   obtain⟨o,e,d⟩:=T.obj _ _ st5 b hb
   exact(I7.pin (b,o) (List.mem_append_right _ (List.mem_append_right _ (NK hb e)))).2.1
  cases f with
  |next=>obtain⟨σ7,H7,I7,n7⟩:=q7;exact again I7 n7
  |cont=>obtain⟨σ7,H7,I7,n7⟩:=q7;exact again I7 n7
  |brk=>obtain⟨σ7,H7,I7,q7⟩:=q7;exact⟨σ7,H7,I7.QV,q7⟩
  |ret v=>obtain⟨x7,σ7,H7,I7,r7,q7⟩:=q7;exact⟨x7,σ7,H7,I7.QV,r7,q7⟩
end
end L2
namespace L2
open PySem PySem.Spec PyProof.Rows
abbrev R2:=V->V->Hp->VK->Prop
def OpR(X:Cx)(f:Value->Value->Sem Value)(r:R2):Prop :=
 ∀(pins:List (Addr×Obj))(s:Shared)(σ:St)(H:Hp)(x y:V)(v u:Value)(Q:VK),Inv X pins σ H s->RelV x v->RelV y u->r x y H Q ->
  wpAny (model X.prog X.w) X.A (f v u) (EP X pins σ Q) X.xe s
def UnR(X:Cx)(f:Value->Sem Value)(r:V->Hp->VK->Prop):Prop :=
 ∀(pins:List (Addr×Obj))(s:Shared)(σ:St)(H:Hp)(x:V)(v:Value)(Q:VK),Inv X pins σ H s->RelV x v->r x H Q ->
  wpAny (model X.prog X.w) X.A (f v) (EP X pins σ Q) X.xe s
def Dl(X:Cx)(f:Value)(r:List V->Hp->VK->Prop):Prop :=
 ∀(pins:List (Addr×Obj))(s:Shared)(σ:St)(H:Hp)(xs:List V)(us:List Value)(Q:VK),Inv X pins σ H s->Vals xs us->r xs H Q ->
  wpAny (model X.prog X.w) X.A (call f us) (EP X pins σ Q) X.xe s
def tOp(r:R2)(ta tb:TE):TE:=fun σ H Q=>ta σ H fun x H1=>tb σ H1 fun y H2=>r x y H2 Q
def tUn(r:V->Hp->VK->Prop)(ta:TE):TE:=fun σ H Q=>ta σ H fun x H1=>r x H1 Q
def rI(C:Int->Int->Prop)(g:Int->Int->V):R2:=fun x y H Q=>∃i j,x=.int i/\y=.int j/\C i j/\Q (g i j) H
def rI0(g:Int->Int->V):R2:=fun x y H Q=>∃i j,x=.int i/\y=.int j/\Q (g i j) H
def rU(g:Int->V):V->Hp->VK->Prop:=fun x H Q=>∃i,x=.int i/\Q (g i) H
section
variable{X:Cx}{a b c:Expr}{ta tb tc:TE}{pos:Pos}
theorem bf(ha:PE X a ta)(hb:PE X b tb){pins:List (Addr×Obj)}{s:Shared}{σ:St}{H:Hp}{R:V->V->Hp->Prop}(I:Inv X pins σ H s)
  (h:ta σ H fun x H1=>tb σ H1 fun y H2=>R x y H2) {Q:Value->Shared->Prop} {f:Value->Value->Sem Value}
  (hf:∀v u s2 x y H2,Inv X pins σ H2 s2->RelV x v->RelV y u->R x y H2->wpAny (model X.prog X.w) X.A (f v u) Q X.xe s2) :
  wpAny (model X.prog X.w) X.A (eval a X.env) (fun v s₁=>wpAny (model X.prog X.w) X.A (eval b X.env) (fun u s₂=>wpAny (model X.prog X.w) X.A (f v u) Q X.xe s₂) X.xe s₁) X.xe s:=by
 refine thn (ha pins s σ H _ I h) fun v s1 ⟨x,H1,I1,r1,q1⟩=>?_
 refine thn (hb pins s1 σ H1 _ I1 q1) fun u s2 ⟨y,H2,I2,r2,q2⟩=>?_
 exact hf v u s2 x y H2 I2 r1 r2 q2
theorem n8{op:Operator}{r:R2}(ho:OpR X (binaryOp op) r)(ha:PE X a ta)(hb:PE X b tb):PE X (.BinOp a op b pos) (tOp r ta tb):=by
 intro pins s σ H Q I h
 exact wpAny_BinOp (bf ha hb I h fun v u s2 x y H2 I2 rx ry q=>ho pins s2 σ H2 x y v u Q I2 rx ry q)
theorem wj{op:UnaryOp}{r:V->Hp->VK->Prop}(ho:UnR X (unaryOp op) r)(ha:PE X a ta):PE X (.UnaryOp op a pos) (tUn r ta):=by
 intro pins s σ H Q I h
 exact UnaryOp_ (thn (ha pins s σ H _ I h) fun v s1 ⟨x,H1,I1,r1,q1⟩=>ho pins s1 σ H1 x v Q I1 r1 q1)
theorem opI{f:Value->Value->Sem Value}{C:Int->Int->Prop}{g:Int->Int->Int}
  (rule:∀(i j:Int)(t u:Tok)(s:Shared)(Q:Value->Shared->Prop)(E:Value->Shared->Prop),C i j->Q (.int (g i j) s.toks) { s with toks:=s.toks+1 }->wpAny (model X.prog X.w) X.A (f (.int i t) (.int j u)) Q E s) :
  OpR X f (rI C fun i j=>.int (g i j)):=by
 intro pins s σ H x y v u Q I rx ry h
 obtain⟨i,j,rfl,rfl,hc,q⟩:=h
 obtain⟨t,rfl⟩:=rx
 obtain⟨t',rfl⟩:=ry
 exact rule i j t t' s _ _ hc ⟨.int (g i j),H,I.tok _,⟨_,rfl⟩,q⟩
theorem tM{f:Value->Value->Sem Value}{g:Int->Int->Int}
  (rule:∀(i j:Int)(t u:Tok)(s:Shared)(Q:Value->Shared->Prop)(E:Value->Shared->Prop),Q (.int (g i j) s.toks) { s with toks:=s.toks+1 }->wpAny (model X.prog X.w) X.A (f (.int i t) (.int j u)) Q E s) :
  OpR X f (rI0 fun i j=>.int (g i j)):=by
 intro pins s σ H x y v u Q I rx ry h
 obtain⟨i,j,rfl,rfl,q⟩:=h
 obtain⟨t,rfl⟩:=rx
 obtain⟨t',rfl⟩:=ry
 exact rule i j t t' s _ _ ⟨.int (g i j),H,I.tok _,⟨_,rfl⟩,q⟩
theorem bV{f:Value->Value->Sem Value}{g:Int->Int->Bool}
  (rule:∀(i j:Int)(t u:Tok)(s:Shared)(Q:Value->Shared->Prop)(E:Value->Shared->Prop),Q (.bool (g i j)) s->wpAny (model X.prog X.w) X.A (f (.int i t) (.int j u)) Q E s) :
  OpR X f (rI0 fun i j=>.bl (g i j)):=by
 intro pins s σ H x y v u Q I rx ry h
 obtain⟨i,j,rfl,rfl,q⟩:=h
 obtain⟨t,rfl⟩:=rx
 obtain⟨t',rfl⟩:=ry
 exact rule i j t t' s _ _ ⟨.bl (g i j),H,I,rfl,q⟩
def jF(i j:Int):Prop:=0<=j/\j<=1000000/\i.natAbs<2^64
def Xv(i j:Int):Prop:=(-(2^64)<i/\i<2^64)∨(-(2^64)<j/\j<2^64)
theorem Xv.ok{i j:Int}(h:Xv i j):IntMulOk i j:=by
 rcases h with ⟨h1,h2⟩|⟨h1,h2⟩
 .exact .of_left (intBits_le_64 h1 h2)
 .exact .of_right (intBits_le_64 h1 h2)
theorem um:OpR X (binaryOp .Add) (rI0 fun i j=>.int (i+j)):=tM fun _ _ _ _ _ _ _ q=>add_int q
theorem Gz:OpR X (binaryOp .Sub) (rI0 fun i j=>.int (i-j)):=tM fun _ _ _ _ _ _ _ q=>sub_int q
theorem uf:OpR X (binaryOp .Mult) (rI Xv fun i j=>.int (i*j)):=opI fun _ _ _ _ _ _ _ hc q=>mul_int q hc.ok
theorem Kz:OpR X (binaryOp .Mod) (rI (fun _ j=>0<j) fun i j=>.int (i%j)):=opI fun i j _ _ _ _ _ hc q=>by
 have h1:(0:Int)<j:=hc
 exact mod_int' (by omega) (by rw[Int.fmod_eq_emod_of_nonneg i (by omega)];exact q)
theorem Jy:OpR X (binaryOp .Pow) (rI jF fun i j=>.int (i^j.toNat)):=opI fun _ _ _ _ _ _ _ hc q=>pow_int_small hc.1 hc.2.1 hc.2.2 q
theorem unI{f:Value->Sem Value}{g:Int->Int}
  (rule:∀(i:Int)(t:Tok)(s:Shared)(Q:Value->Shared->Prop)(E:Value->Shared->Prop),Q (.int (g i) s.toks) { s with toks:=s.toks+1 }->wpAny (model X.prog X.w) X.A (f (.int i t)) Q E s) :
  UnR X f (rU fun i=>.int (g i)):=by
 intro pins s σ H x v Q I rx h
 obtain⟨i,rfl,q⟩:=h
 obtain⟨t,rfl⟩:=rx
 exact rule i t s _ _ ⟨.int (g i),H,I.tok _,⟨_,rfl⟩,q⟩
theorem Ul:UnR X (unaryOp .USub) (rU fun i=>.int (-i)):=unI fun _ _ _ _ _ q=>neg_int q
end
def sS:V->V->Bool
 |.non,.non=>true|.non,.int _=>true|.int _,.non=>true|.non,.bl _=>true|.bl _,.non=>true|.non,.str _=>true|.str _,.non=>true
 |.int _,.int _=>true|.bl _,.bl _=>true|.str _,.str _=>true|.byt _,.byt _=>true
 |.int _,.str _=>true|.str _,.int _=>true|.bl _,.str _=>true|.str _,.bl _=>true
 |_,_=>false
def rEq:R2:=fun x y H Q=>sS x y=true/\Q (.bl (decide (x=y))) H
def rNe:R2:=fun x y H Q=>sS x y=true/\Q (.bl (!decide (x=y))) H
theorem bJ{i j:Int}:decide (V.int i=V.int j)=(i==j):=by
 rw[Bool.eq_iff_iff]
 simp
theorem eY{i j:Bool}:decide (V.bl i=V.bl j)=(i==j):=by
 rw[Bool.eq_iff_iff]
 simp
theorem bI{i j:Str}:decide (V.str i=V.str j)=(i==j):=by
 rw[Bool.eq_iff_iff]
 simp
theorem bK{i j:Array UInt8}:decide (V.byt i=V.byt j)=(i.toList==j.toList):=by
 rw[Bool.eq_iff_iff]
 cases i
 cases j
 simp
section
variable{X:Cx}{a b c:Expr}{ta tb tc:TE}{pos:Pos}
theorem DY{pins:List (Addr×Obj)}{σ:St}{H:Hp}{s:Shared}{Q:VK}{k k':Bool}(I:Inv X pins σ H s)(q:Q (.bl k) H)(e:k=k'):EP X pins σ Q (.bool k') s:=by
 subst e
 exact⟨.bl k,H,I,rfl,q⟩
theorem xM:OpR X (compareOp .Eq) rEq:=by
 intro pins s σ H x y v u Q I rx ry h
 obtain⟨hs,q⟩:=h
 cases x with
 |non =>
  cases rx
  cases y with
  |non=>cases ry;exact PySem.EqNone.eq_none_none (DY I q (by simp))
  |bl j=>cases ry;exact PySem.EqNone.eq_none_bool (DY I q (by simp))
  |int j=>obtain⟨t',rfl⟩:=ry;exact PySem.EqNone.eq_none_int (DY I q (by simp))
  |str j=>obtain⟨t',rfl⟩:=ry;exact PySem.EqNone.eq_none_str (DY I q (by simp))
  |_=>exact absurd (show false=true from hs) Bool.false_ne_true
 |bl i =>
  cases rx
  cases y with
  |non=>cases ry;exact PySem.EqNone.eq_bool_none (DY I q (by simp))
  |bl j=>cases ry;exact eq_bool (DY I q eY)
  |str j=>obtain⟨t',rfl⟩:=ry;exact PySem.EqMixed.eq_bool_str (DY I q (by simp))
  |_=>exact absurd (show false=true from hs) Bool.false_ne_true
 |int i =>
  obtain⟨t,rfl⟩:=rx
  cases y with
  |non=>cases ry;exact PySem.EqNone.eq_int_none (DY I q (by simp))
  |int j=>obtain⟨t',rfl⟩:=ry;exact eq_int (DY I q bJ)
  |str j=>obtain⟨t',rfl⟩:=ry;exact PySem.EqMixed.eq_int_str (DY I q (by simp))
  |_=>exact absurd (show false=true from hs) Bool.false_ne_true
 |str i =>
  obtain⟨t,rfl⟩:=rx
  cases y with
  |non=>cases ry;exact PySem.EqNone.eq_str_none (DY I q (by simp))
  |bl j=>cases ry;exact PySem.EqMixed.eq_str_bool (DY I q (by simp))
  |int j=>obtain⟨t',rfl⟩:=ry;exact PySem.EqMixed.eq_str_int (DY I q (by simp))
  |str j=>obtain⟨t',rfl⟩:=ry;exact eq_str (DY I q bI)
  |_=>exact absurd (show false=true from hs) Bool.false_ne_true
 |byt i =>
  obtain⟨t,rfl⟩:=rx
  cases y with
  |byt j=>obtain⟨t',rfl⟩:=ry;exact PySem.W.eq_bytes (DY I q bK)
  |_=>exact absurd (show false=true from hs) Bool.false_ne_true
 |_=>cases y<;>exact absurd (show false=true from hs) Bool.false_ne_true
theorem xJ:OpR X (compareOp .NotEq) rNe:=by
 intro pins s σ H x y v u Q I rx ry h
 obtain⟨hs,q⟩:=h
 cases x with
 |non =>
  cases rx
  cases y with
  |non=>cases ry;exact PySem.EqNone.ne_none_none (DY I q (by simp))
  |bl j=>cases ry;exact PySem.EqNone.ne_none_bool (DY I q (by simp))
  |int j=>obtain⟨t',rfl⟩:=ry;exact PySem.EqNone.ne_none_int (DY I q (by simp))
  |str j=>obtain⟨t',rfl⟩:=ry;exact PySem.EqNone.ne_none_str (DY I q (by simp))
  |_=>exact absurd (show false=true from hs) Bool.false_ne_true
 |bl i =>
  cases rx
  cases y with
  |non=>cases ry;exact PySem.EqNone.ne_bool_none (DY I q (by simp))
  |bl j=>cases ry;exact ne_bool (DY I q (congrArg not eY))
  |str j=>obtain⟨t',rfl⟩:=ry;exact PySem.EqMixed.ne_bool_str (DY I q (by simp))
  |_=>exact absurd (show false=true from hs) Bool.false_ne_true
 |int i =>
  obtain⟨t,rfl⟩:=rx
  cases y with
  |non=>cases ry;exact PySem.EqNone.ne_int_none (DY I q (by simp))
  |int j=>obtain⟨t',rfl⟩:=ry;exact ne_int (DY I q (congrArg not bJ))
  |str j=>obtain⟨t',rfl⟩:=ry;exact PySem.EqMixed.ne_int_str (DY I q (by simp))
  |_=>exact absurd (show false=true from hs) Bool.false_ne_true
 |str i =>
  obtain⟨t,rfl⟩:=rx
  cases y with
  |non=>cases ry;exact PySem.EqNone.ne_str_none (DY I q (by simp))
  |bl j=>cases ry;exact PySem.EqMixed.ne_str_bool (DY I q (by simp))
  |int j=>obtain⟨t',rfl⟩:=ry;exact PySem.EqMixed.ne_str_int (DY I q (by simp))
  |str j=>obtain⟨t',rfl⟩:=ry;exact ne_str (DY I q (congrArg not bI))
  |_=>exact absurd (show false=true from hs) Bool.false_ne_true
 |byt i =>
  obtain⟨t,rfl⟩:=rx
  cases y with
  |byt j=>obtain⟨t',rfl⟩:=ry;exact PySem.W.ne_bytes (DY I q (congrArg not bK))
  |_=>exact absurd (show false=true from hs) Bool.false_ne_true
 |_=>cases y<;>exact absurd (show false=true from hs) Bool.false_ne_true
theorem cL:OpR X (compareOp .Lt) (rI0 fun i j=>.bl (decide (i<j))):=bV fun _ _ _ _ _ _ _ q=>lt_int q
theorem xK:OpR X (compareOp .LtE) (rI0 fun i j=>.bl (decide (i<=j))):=bV fun _ _ _ _ _ _ _ q=>le_int q
theorem Rz:OpR X (compareOp .Gt) (rI0 fun i j=>.bl (decide (j<i))):=bV fun _ _ _ _ _ _ _ q=>gt_int q
theorem nF:OpR X (compareOp .GtE) (rI0 fun i j=>.bl (decide (j<=i))):=bV fun _ _ _ _ _ _ _ q=>ge_int q
theorem OpR.or{f:Value->Value->Sem Value}{r r':R2}(h:OpR X f r)(h':OpR X f r'):OpR X f (fun x y H Q=>r x y H Q∨r' x y H Q):=by
 intro pins s σ H x y v u Q I rx ry q
 rcases q with q|q
 .exact h pins s σ H x y v u Q I rx ry q
 .exact h' pins s σ H x y v u Q I rx ry q
theorem Cy(b:Expr){op:CmpOp}(h:op≠.In:=by decide)(h2:op≠.NotIn:=by decide):behindInMarks op b=false:=by
 have e1:(op==CmpOp.In)=false:=by cases op<;>first|rfl|exact absurd rfl h
 have e2:(op==CmpOp.NotIn)=false:=by cases op<;>first|rfl|exact absurd rfl h2
 cases b<;>simp[behindInMarks,e1,e2]
theorem aq{op:CmpOp}{r:R2}(ho:OpR X (compareOp op) r)(ha:PE X a ta)(hb:PE X b tb)(hm:behindInMarks op b=false):PE X (.Compare a [op] [b] pos) (tOp r ta tb):=by
 intro pins s σ H Q I h
 exact wpAny_Compare1 (bf ha hb I h fun v u s2 x y H2 I2 rx ry q=>ho pins s2 σ H2 x y v u Q I2 rx ry q) hm
def cG(t:TE):TT:=fun σ H Q=>t σ H fun x H'=>∃k,x=.bl k/\Q k H'
theorem oW{op:CmpOp}{r:R2}(ho:OpR X (compareOp op) r)(ha:PE X a ta)(hb:PE X b tb)(hm:behindInMarks op b=false):PT X (.Compare a [op] [b] pos) (cG (tOp r ta tb)):=by
 intro pins s σ H Q I h
 refine wpAny_isTrue_Compare1 (thn (ha pins s σ H _ I h) fun v s1 ⟨x,H1,I1,r1,q1⟩=>thn (hb pins s1 σ H1 _ I1 q1) fun u s2 ⟨y,H2,I2,r2,q2⟩ =>
  thn (ho pins s2 σ H2 x y v u _ I2 r1 r2 q2) fun c s3 ⟨z,H3,I3,r3,k,e,q3⟩=>?_) hm
 subst e
 cases r3
 exact wpAny_truthy_bool ⟨H3,I3,q3⟩
def dh(r r':R2)(ta tb tc:TE):TE:=fun σ H Q=>ta σ H fun x H1=>tb σ H1 fun y H2=>r x y H2 fun z H3=>∃k,z=.bl k /\
 (if k=true then tc σ H3 fun w' H4=>r' y w' H4 Q else Q (.bl false) H3)
theorem jw{op op':CmpOp}{r r':R2}(ho:OpR X (compareOp op) r)(ho':OpR X (compareOp op') r')(ha:PE X a ta)(hb:PE X b tb)(hc:PE X c tc)
  (hm:lastMarks [op,op'] [b,c]=false:=by with_unfolding_all rfl):PT X (.Compare a [op,op'] [b,c] pos) (cG (dh r r' ta tb tc)):=by
 intro pins s σ H Q I h
 refine isTrue_chain (thn (ha pins s σ H _ I h) fun v s1 ⟨x,H1,I1,r1,q1⟩=>test_link (thn (hb pins s1 σ H1 _ I1 q1) fun u s2 ⟨y,H2,I2,r2,q2⟩ =>
  thn (ho pins s2 σ H2 x y v u _ I2 r1 r2 q2) fun d s3 ⟨z,H3,I3,r3,k,e,q3⟩=>?_)) hm
 subst e
 cases r3
 refine wpAny_truthy_bool ?_
 cases k with
 |false =>
  obtain⟨k',e',q'⟩:=q3
  cases e'
  exact ite_ff ⟨H3,I3,q'⟩
 |true =>
  refine ite_tt (test_last (thn (hc pins s3 σ H3 _ I3 q3) fun w' s4 ⟨z',H4,I4,r4,q4⟩=>thn (ho' pins s4 σ H4 y z' u w' _ I4 r2 r4 q4) fun d' s5 ⟨z2,H5,I5,r5,k2,e2,q5⟩=>?_))
  subst e2
  cases r5
  exact wpAny_truthy_bool ⟨H5,I5,q5⟩
theorem R8:(sizeLine:Nat)<2^63:=by rw[sizeLine_eq];decide
theorem cg:OpR X (binaryOp .Add) (fun x y H Q=>∃i j,x=.str i/\y=.str j/\i.length+j.length<=sizeLine/\Q (.str (i++j)) H):=by
 intro pins s σ H x y v u Q I rx ry h
 obtain⟨i,j,rfl,rfl,hz,q⟩:=h
 obtain⟨t,rfl⟩:=rx
 obtain⟨t',rfl⟩:=ry
 exact add_str (fun t' tk=>⟨.str (i++j),H,I.tok _,⟨_,rfl⟩,q⟩) hz
theorem vals1{x:V}{us:List Value}(r:Vals [x] us):∃u,us=[u]/\RelV x u:=by
 cases r with
 |cons r1 r2=>cases r2;exact⟨_,rfl,r1⟩
theorem vals2{x y:V}{us:List Value}(r:Vals [x,y] us):∃u w',us=[u,w']/\RelV x u/\RelV y w':=by
 cases r with
 |cons r1 r2 =>
  cases r2 with
  |cons r3 r4=>cases r4;exact⟨_,_,rfl,r1,r3⟩
theorem iZ(hc:X.calm=true):Dl X (.builtin "max") (fun xs H Q=>∃i j,xs=[.int i,.int j]/\Q (.int (if j>i then j else i)) H):=by
 intro pins s σ H xs us Q I r h
 obtain⟨i,j,rfl,q⟩:=h
 obtain⟨u,w',rfl,⟨t,rfl⟩,⟨t',rfl⟩⟩:=vals2 r
 refine max_two_ints (I.ok.hd hc) fun h' tk k=>⟨_,H,I.kept k,?_,q⟩
 by_cases hj:j>i
 .rw[if_pos hj,if_pos hj];exact⟨_,rfl⟩
 .rw[if_neg hj,if_neg hj];exact⟨_,rfl⟩
theorem Wz(hc:X.calm=true):Dl X (.builtin "min") (fun xs H Q=>∃i j,xs=[.int i,.int j]/\Q (.int (if j<i then j else i)) H):=by
 intro pins s σ H xs us Q I r h
 obtain⟨i,j,rfl,q⟩:=h
 obtain⟨u,w',rfl,⟨t,rfl⟩,⟨t',rfl⟩⟩:=vals2 r
 refine min_two_ints (I.ok.hd hc) fun h' tk k=>⟨_,H,I.kept k,?_,q⟩
 by_cases hj:j<i
 .rw[if_pos hj,if_pos hj];exact⟨_,rfl⟩
 .rw[if_neg hj,if_neg hj];exact⟨_,rfl⟩
theorem X3:Dl X (.type "int") (fun xs H Q=>(∃i,xs=[.int i]/\Q (.int i) H)∨∃k,xs=[.bl k]/\Q (.int (if k then 1 else 0)) H):=by
 intro pins s σ H xs us Q I r h
 rcases h with ⟨i,rfl,q⟩|⟨k,rfl,q⟩
 .obtain⟨u,rfl,t,rfl⟩:=vals1 r
  exact call_int_int ⟨.int i,H,I,⟨_,rfl⟩,q⟩
 .obtain⟨u,rfl,r1⟩:=vals1 r
  cases r1
  exact call_int_bool ⟨.int (if k then 1 else 0),H,I.tok _,⟨_,rfl⟩,q⟩
end
end L2
namespace L2
open PySem PySem.Spec PyProof.Rows
structure jE(h:Heap)(x dx C:Addr)(mA:Str->Option Value):Prop where
 obj:h.get? x=some (PySem.W.instObj C dx)
 ns:h.Ns1 dx mA
 ne:dx≠x
theorem gk{h:Heap}{dx:Addr}{mA:Str->Option Value}(n:h.Ns1 dx mA):∃od,h.get? dx=some od/\∀name,PySem.W.lookIn name od=some (mA name):=by
 obtain⟨o,es,ep,ho,hd,hk,_,hm⟩:=n
 refine⟨o,ho,fun name=>?_⟩
 have e:=hm name
 unfold nsFind findBy at e
 rw[←Array.find?_toList] at e
 unfold PySem.W.lookIn
 rw[hd]
 dsimp only
 split
 .rename_i y q
  rw[q] at e
  exact congrArg some e
 .rename_i q
  rw[q] at e
  have a:es.toList.any (·.refKey)=false:=by
   rw[List.any_eq_false]
   intro y hy
   obtain⟨z,t,hkey⟩:=hk y (Array.mem_toList_iff.mp hy)
   simp[DictEntry.refKey,hkey]
  have a':¬es.toList.any (·.refKey)=true:=by rw[a];exact Bool.false_ne_true
  rw[if_neg a']
  exact congrArg some e
theorem jE.look{h:Heap}{x dx C:Addr}{mA:Str->Option Value}(I:jE h x dx C mA):∃od,PySem.W.InstAt h x (PySem.W.instObj C dx) C (some od)/\∀name,PySem.W.lookIn name od=some (mA name) :=
 let ⟨od,ho,hl⟩:=gk I.ns
 ⟨od,⟨I.obj,rfl,rfl,ho⟩,hl⟩
section
variable{prog:Program}{w:World}{A:Around}{E:Value->Shared->Prop}{s:Shared}{K:PySem.W.Frag}{x dx C f:Addr}{mA:Str->Option Value}{name:Str}{v:Value}
end
section
variable{P:Program}{w:World}{H H':Hp}{h h':Heap}{a C dx:Addr}{fs fs':List (Str×V)}
theorem qR(hok:HOk P w H h)(e:H a=some (.ins C dx fs)):∃mA,jE h a dx C mA/\(∀f,jD (fs.lookup f) (mA f))/\PySem.Within mA (fs.map (·.1))/\fs.length<=1000/\H dx=some (.own a):=by
 obtain⟨d,z,ne,ob,mA,n,r,q⟩:=(show Ed P w H h a (.ins C dx fs) from hok a _ e)
 exact⟨mA,⟨ob,n,ne⟩,r,q,z,d⟩
end
structure Cls(K:PySem.W.Frag)(C:Addr):Prop where
 pg:PySem.W.plainGet K C Str.empty=true
 hd:PySem.W.hasDictIn K C=true
 po:PySem.W.plainOver K C=true
 sa:PySem.W.findIn K (.ref C) "__setattr__"=some (some (.builtin "object.__setattr__"))
theorem Cls.get{K:PySem.W.Frag}{C:Addr}(c:Cls K C)(f:Str):PySem.W.plainGet K C f=true:=c.pg
structure Con(K:PySem.W.Frag)(C:Addr)(f:Str)(v:V)(u:Value):Prop where
 at_:PySem.W.findIn K (.ref C) f=some (some u)
 rel:RelV v u
 get:PySem.W.specialIn K u "__get__"=some none
 cp:PySem.W.copiedNames.contains f=false
structure Meth(K:PySem.W.Frag)(C:Addr)(m:Str)(f:Addr):Prop where
 at_:PySem.W.findIn K (.ref C) m=some (some (.ref f))
 fn:PySem.W.isFn K (.ref f)=true
 kp:PySem.W.keepIn K (.ref f)=true
section
variable{X:Cx}{pins:List (Addr×Obj)}{σ:St}{H:Hp}{s:Shared}{a C dx:Addr}{fs:List (Str×V)}{f:Str}{v:V}{A:Around}{E:Value->Shared->Prop}
end
section
variable{X:Cx}{o e value:Expr}{f:Str}{pos pos' tpos:Pos}{ta tv:TE}
end
section
variable{X:Cx}{pins:List (Addr×Obj)}{σ:St}{H:Hp}{s:Shared}{A:Around}{E:Value->Shared->Prop}{Q:Value->Shared->Prop}{c:Value}{b:Bool}
inductive KR (K:PySem.W.Frag) (H:Hp):V->Value->Prop where
 |non:KR K H .non (.type "NoneType")
 |bl (x:Bool):KR K H (.bl x) (.type "bool")
 |int (i:Int):KR K H (.int i) (.type "int")
 |str (x:Str):KR K H (.str x) (.type "str")
 |flt (x:UInt64):KR K H (.flt x) (.type "float")
 |lst {a:Addr} {xs:List V} (e:H a=some (.lst xs)):KR K H (.ref a) (.type "list")
 |frz {a:Addr} {o:Obj} {xs:List V} (e:H a=some (.frz o (.lst xs))):KR K H (.ref a) (.type "list")
 |tup {a:Addr} {xs:List V} (e:H a=some (.tup xs)):KR K H (.ref a) (.type "tuple")
 |dK {a:Addr} {kvs:List (Key×V)} (e:H a=some (.dK kvs)):KR K H (.ref a) (.type "dict")
 |dT {a:Addr} {kvs:List (List Key×V)} (e:H a=some (.dT kvs)):KR K H (.ref a) (.type "dict")
 |ins {a C dx:Addr} {fs:List (Str×V)} (e:H a=some (.ins C dx fs)) (cl:Cls K C) (ha:PySem.W.findIn K (.ref C) "__class__"=some (some (.builtin "object.__class__")))
   (hn:PySem.W.specialIn K (.builtin "object.__class__") "__get__"=some (some (.builtin "getset_descriptor.__get__"))) (htk:PySem.W.takesIn K (.builtin "object.__class__")=some true)
   (hm:PySem.W.mroIn K C (.type "object")=some true):KR K H (.ref a) (.ref C)
theorem iD{x:V}{u t:Value}(I:Inv X pins σ H s)(rx:RelV x u)(ty:KR X.K H x t)(e:PySem.W.kitOne X.K t c=some b)(h:∀tk,Q (.bool b) { s with toks:=tk }) :
  wpAny (model X.prog X.w) A (call (.builtin "isinstance") [u,c]) Q E s:=by
 cases ty with
 |non=>cases (show u=Value.none from rx);exact PySem.W.kia_one PySem.W.kitx_none I.kIn True.intro e (fun z=>nomatch z) h
 |bl y=>cases (show u=Value.bool y from rx);exact PySem.W.kia_one PySem.W.kitx_bool I.kIn True.intro e (fun z=>nomatch z) h
 |int i=>obtain⟨t,q⟩:=(show ∃t,u=Value.int i t from rx);cases q;exact PySem.W.kia_one PySem.W.kitx_int I.kIn True.intro e (fun z=>nomatch z) h
 |str y=>obtain⟨t,q⟩:=(show ∃t,u=Value.str y t from rx);cases q;exact PySem.W.kia_one PySem.W.kitx_str I.kIn True.intro e (fun z=>nomatch z) h
 |flt y=>obtain⟨t,q⟩:=(show ∃t,u=Value.float y t from rx);cases q;exact PySem.W.kia_one PySem.W.kitx_float I.kIn True.intro e (fun z=>nomatch z) h
 |@lst a xs ea =>
  cases (show u=Value.ref a from rx)
  obtain⟨_,_,n,_,h1⟩:=(show Ed X.prog X.w H s.heap a (.lst xs) from I.hok a _ ea)
  exact PySem.W.kia_one PySem.W.kitx_list I.kIn ⟨_,h1,rfl⟩ e (fun z=>nomatch z) h
 |@frz a ob xs ea =>
  cases (show u=Value.ref a from rx)
  obtain⟨_,_,_,n,_,h1⟩:=(show Ed X.prog X.w H s.heap a (.frz ob (.lst xs)) from I.hok a _ ea)
  exact PySem.W.kia_one PySem.W.kitx_list I.kIn ⟨_,h1,rfl⟩ e (fun z=>nomatch z) h
 |@tup a xs ea =>
  cases (show u=Value.ref a from rx)
  obtain⟨_,_,_,p⟩:=(show Ed X.prog X.w H s.heap a (.tup xs) from I.hok a _ ea)
  obtain⟨o,h1,h2,_⟩:=p
  exact PySem.W.kia_one PySem.W.kitx_tuple I.kIn ⟨o,h1,h2⟩ e (fun z=>nomatch z) h
 |@dK a kvs ea =>
  cases (show u=Value.ref a from rx)
  obtain⟨_,_,vs,_,p⟩:=(show Ed X.prog X.w H s.heap a (.dK kvs) from I.hok a _ ea)
  obtain⟨o,es,ep,h1,h2,_⟩:=p
  exact PySem.W.kia_one PySem.W.kitx_dict I.kIn ⟨o,h1,h2.1⟩ e (fun z=>nomatch z) h
 |@dT a kvs ea =>
  cases (show u=Value.ref a from rx)
  obtain⟨_,_,xs,_,o,es,ep,h1,h2,_⟩:=(show Ed X.prog X.w H s.heap a (.dT kvs) from I.hok a _ ea)
  exact PySem.W.kia_one PySem.W.kitx_dict I.kIn ⟨o,h1,h2.1⟩ e (fun z=>nomatch z) h
 |@ins a C dx fs ea cl ha hn htk hm =>
  cases (show u=Value.ref a from rx)
  obtain⟨mA,O,_⟩:=qR I.hok ea
  obtain⟨od,J,_⟩:=O.look
  exact PySem.W.kia_one (PySem.W.kitx_own (cl.get _) cl.hd ha hn htk hm) I.kIn J e (fun z=>nomatch z) h
end
end L2
namespace L2
open PySem PySem.Spec PyProof.Rows
structure Fj(k:Nat)(A:Around):Prop where
 hd:A.handled=none
 dp:A.depth+3*k+5<recursionLimit
 un:A.units+16*k+200<cLine
 gd:A.guards=some []
theorem Fj.mono{j k:Nat}{A:Around}(r:Fj k A)(h:j<=k):Fj j A:=⟨r.hd,by have:=r.dp;omega,by have:=r.un;omega,r.gd⟩
theorem Fj.deeper{k:Nat}{A:Around}(r:Fj (k+1) A)(env:Env):Fj k (A.deeper env) :=
 ⟨r.hd,by have:=r.dp;show A.depth+1+3*k+5<_;omega,by have:=r.un;show A.units+3+16*k+200<_;omega,r.gd⟩
theorem Fj.depth{k:Nat}{A:Around}(r:Fj k A):A.depth<recursionLimit:=by have:=r.dp;omega
theorem Fj.units{k:Nat}{A:Around}(r:Fj k A):A.units+64<cLine:=by have:=r.un;omega
def sI:TA:=fun _ H Q=>Q [] H
def mY(ta:TE)(tr:TA):TA:=fun σ H Q=>ta σ H fun x H1=>tr σ H1 fun xs H2=>Q (x::xs) H2
section
variable{X:Cx}{e:Expr}{es:List Expr}{te:TE}{t:TA}{pos:Pos}
theorem R7:PA X [] sI:=fun _ _ _ _ H Q I h=>Calls.spliced_nil ⟨[],H,I,.nil,h⟩
theorem Q8(ha:PE X e te)(hr:PA X es t)(hs:starEach (e::es) X.env=(false,eval e X.env)::starEach es X.env:=by rfl):PA X (e::es) (mY te t):=by
 intro pos pins s σ H Q I h
 rw[hs]
 show wpAny _ _ (spliced ((false,eval e X.env)::backTo pos (starEach es X.env))) _ _ s
 refine Calls.spliced_cons (thn (ha pins s σ H _ I h) fun u s1 ⟨x,H1,I1,r1,q1⟩=>?_)
 exact thn (hr pos pins s1 σ H1 _ I1 q1) fun us s2 ⟨xs,H2,I2,r2,q2⟩=>⟨x::xs,H2,I2,.cons r1 r2,q2⟩
def sH(t:TA):TE:=fun σ H Q=>t σ H fun xs H1=>xs.length<=sizeLine/\∀p,H1 p=none->Q (.ref p) (upd H1 p (.tup xs))
def yQ(t:TA):TE:=fun σ H Q=>t σ H fun xs H1=>xs.length<=sizeLine/\∀p,H1 p=none->Q (.ref p) (upd H1 p (.lst xs))
theorem uW{x1}(h:PA X es t):PE X (.Tuple es x1 pos) (sH t):=by
 intro pins s σ H Q I hq
 refine wpAny_Tuple_spliced (thn (h pos pins s σ H _ I hq) fun us s1 ⟨xs,H1,I1,r,z,q⟩=>⟨by rw[←r.length];exact z,?_⟩)
 have hf:H1 s1.heap.objs.size=none:=I1.hok.fresh (Nat.le_refl _)
 refine⟨.ref s1.heap.objs.size,upd H1 s1.heap.objs.size (.tup xs),I1.laid (t':=s1.toks) (fun b u e=>Heap.get?_push_of_some _ e) (Nat.le_refl _) ?_,rfl,q _ hf⟩
 exact⟨z,us,r,⟨_,Heap.get?_push_size _ rfl,rfl,_,rfl⟩⟩
theorem eG(h:PA X es t):PE X (.List es pos) (yQ t):=by
 intro pins s σ H Q I hq
 refine wpAny_List_spliced (thn (h pos pins s σ H _ I hq) fun us s1 ⟨xs,H1,I1,r,z,q⟩=>⟨by rw[←r.length];exact z,?_⟩)
 have hf:H1 s1.heap.objs.size=none:=I1.hok.fresh (Nat.le_refl _)
 refine⟨.ref s1.heap.objs.size,upd H1 s1.heap.objs.size (.lst xs),I1.laid (t':=s1.toks) (fun b u e=>Heap.get?_push_of_some _ e) (Nat.le_refl _) ?_,rfl,q _ hf⟩
 exact⟨z,us,0,r,Heap.get?_push_size _ rfl⟩
end
abbrev Sp:=List V->Hp->VK->XK->Prop
abbrev CXT:=List Env->Hp->Shared->XK->Value->Shared->Prop
structure cD(P:Program)(w:World)(K:PySem.W.Frag)(mg:Str->Option Value)(base:Heap)(A:Around)(outer:List Env)(s:Shared)(H:Hp):Prop where
 frames:A.frames=some outer
 mod:Mod K mg base
 bs:∀b o,base.get? b=some o->s.heap.get? b=some o/\H b=none
 bsz:base.objs.size<=s.heap.objs.size
 Nm:s.heap.FunFrames base outer
 frf:∀b∈frs outer,H b=none
 hok:HOk P w H s.heap
 bare:AllBare s.gens
 sy:H sysModules=none
def CE(outer:List Env)(P:Program)(w:World)(H:Hp)(s:Shared)(Q:VK)(u:Value)(s':Shared):Prop :=
 ∃v H',s'.os=s.os/\AllBare s'.gens/\Un (frs outer) [] H H' s.heap s'.heap/\HOk P w H' s'.heap/\RelV v u/\Q v H'
def CR(CX:CXT)(outer:List Env)(P:Program)(w:World)(H:Hp)(s:Shared)(Q:VK)(E:XK)(r:Result)(s':Shared):Prop :=
 match r with
 |.ok (.ret u)=>CE outer P w H s Q u s'
 |.ok _=>False
 |.error e=>CX outer H s E e s'
structure Cp(P:Program)(w:World)(K:PySem.W.Frag)(mg:Str->Option Value)(base:Heap)(CX:CXT)(k:Nat)(f:Addr)(fd:FuncData)(ps:List Str)(sp:Sp):Prop where
 len:∀vs H Q E,sp vs H Q E->vs.length=ps.length
 run:∀(A:Around)(outer:List Env)(s:Shared)(H:Hp)(args:Args)(us:List Value)(vs:List V)(Q:VK)(E:XK),Fj k A->cD P w K mg base A outer s H->BindsTo s fd args (ps.zip us)->Vals vs us->sp vs H Q E ->
  codeAny (model P w) A (.call (.ref f) args) (CR CX outer P w H s Q E) s
theorem Cp.mono{P:Program}{w:World}{K:PySem.W.Frag}{mg:Str->Option Value}{base:Heap}{CX:CXT}{j k:Nat}{f:Addr}{fd:FuncData}{ps:List Str}{sp:Sp}(F:Cp P w K mg base CX j f fd ps sp)(h:j<=k) :
  Cp P w K mg base CX k f fd ps sp:=⟨F.len,fun A outer s H args us vs Q E hr=>F.run A outer s H args us vs Q E (hr.mono h)⟩
theorem Cp.imp{P:Program}{w:World}{K:PySem.W.Frag}{mg:Str->Option Value}{base:Heap}{CX:CXT}{k:Nat}{f:Addr}{fd:FuncData}{ps:List Str}{sp sp':Sp}(F:Cp P w K mg base CX k f fd ps sp)
  (h:∀vs H Q E,sp' vs H Q E->sp vs H Q E):Cp P w K mg base CX k f fd ps sp' :=
 ⟨fun vs H Q E q=>F.len vs H Q E (h _ _ _ _ q),fun A outer s H args us vs Q E hr he hb hv hs=>F.run A outer s H args us vs Q E hr he hb hv (h _ _ _ _ hs)⟩
section
variable{X:Cx}{pins:List (Addr×Obj)}{σ:St}{H:Hp}{s s':Shared}
theorem Inv.env0(I:Inv X pins σ H s):cD X.prog X.w X.K X.mg X.base X.A X.stack s H :=
 ⟨I.ok.frames,I.ok.mod,I.bs,Nat.le_trans I.ok.bsz I.sz,I.stack,I.aR,I.hok,I.bare,I.Vo⟩
theorem Inv.after{Q:VK}{u:Value}(I:Inv X pins σ H s)(h:CE X.stack X.prog X.w H s Q u s'):EP X pins σ Q u s':=by
 obtain⟨v,H',os,bare,un,hok,r,q⟩:=h
 obtain⟨hh,g,d,t,os'⟩:=s'
 obtain rfl:os'=s.os:=os
 exact⟨v,H',I.call (h':=hh) (g':=g) (d':=d) (t':=t) (ch:=[]) un hok bare (fun b z=>absurd z (by simp)),r,q⟩
end
def mZ(sp:Sp)(dvs:List V)(E:XK)(t:TA):TE:=fun σ H Q=>t σ H fun vs H1=>sp (vs++dvs) H1 Q E
def Binds(K:PySem.W.Frag)(fd:FuncData)(ps:List Str)(ds:List Value):Prop :=
 ∀(s:Shared)(us:List Value),K.In s.heap->(us++ds).length=ps.length->BindsTo s fd ⟨us,[]⟩ (ps.zip (us++ds))
theorem Binds.all{K:PySem.W.Frag}{fd:FuncData}{ps:List Str}(h:∀us:List Value,us.length=ps.length->bindArgs fd ⟨us,[]⟩=pure (ps.zip us)):Binds K fd ps []:=fun s us _ hl=>by
 rw[List.append_nil] at hl ⊢
 exact .of_eq (h us hl)
def Passes(CX:CXT)(X:Cx)(E:XK):Prop:=∀(pins:List (Addr×Obj))(σ:St)(H:Hp)(s:Shared)(e:Value)(s':Shared),Inv X pins σ H s->CX X.stack H s E e s'->X.xe e s'
section
variable{X:Cx}{CX:CXT}{k:Nat}{f C:Addr}{fd:FuncData}{ps:List Str}{sp:Sp}{dvs:List V}{ds:List Value}{E:XK}{x m:Str}{p pos apos:Pos}{e o:Expr}{es:List Expr}{ta:TE}{t:TA}
theorem uG{pins:List (Addr×Obj)}{σ:St}{H:Hp}{s:Shared}{Q:VK}{us:List Value}{vs:List V}(F:Cp X.prog X.w X.K X.mg X.base CX k f fd ps sp)(hr:Fj k X.A)(hb:Binds X.K fd ps ds)(hd:Vals dvs ds)(hx:Passes CX X E)
  (I:Inv X pins σ H s) (r:Vals vs us) (h:sp (vs++dvs) H Q E):wpAny (model X.prog X.w) X.A (call (.ref f) us) (EP X pins σ Q) X.xe s:=by
 have r2:Vals (vs++dvs) (us++ds):=r.append hd
 have hl:(us++ds).length=ps.length:=by rw[←r2.length];exact F.len _ _ _ _ h
 refine wpAny_call (codeAny_mono (F.run X.A X.stack s H ⟨us,[]⟩ (us++ds) (vs++dvs) Q E hr I.env0 (hb s us I.kIn hl) r2 h) fun r s' hq=>?_)
 cases r with
 |error e=>exact hx pins σ H s e s' I hq
 |ok fl =>
  cases fl with
  |ret u=>exact I.after hq
  |next=>exact False.elim hq
  |brk=>exact False.elim hq
  |cont=>exact False.elim hq
theorem pI(F:Cp X.prog X.w X.K X.mg X.base CX k f fd ps sp)(hr:Fj k X.A)(hg:Gl X x)(hm:X.mg x=some (.ref f))(hk:PySem.W.keepIn X.K (.ref f)=true)(hb:Binds X.K fd ps ds)(hd:Vals dvs ds)(hx:Passes CX X E)
  (ha:PA X (e::es) t) (hdb:(x==("__debug__":Str))=false:=by decide) (he:starEach (e::es) X.env=(false,eval e X.env)::starEach es X.env:=by rfl) (hpl:(backTo pos (starEach es X.env)).any (·.1)=false:=by rfl) :
  PE X (.Call (.Name x p) (e::es) [] pos) (mZ sp dvs E t):=by
 intro pins s σ H Q I h
 refine wpAny_Call_Name_kw (bC I hg hm ?_ hdb)
 refine PySem.W.callWith_K (h₀:=X.base) I.ok.mod.kin hk (thn (ha pos pins s σ H _ I h) fun us s1 ⟨vs,H1,I1,r,q⟩=>⟨I1.kIn,?_⟩) he hpl
 exact uG F hr hb hd hx I1 r q
structure Mk(K:PySem.W.Frag)(C f:Addr):Prop where
 makes:PySem.W.makesIn K C=true
 init:PySem.W.findIn K (.ref C) "__init__"=some (some (.ref f))
 fn:PySem.W.isFn K (.ref f)=true
 kp:PySem.W.keepIn K (.ref C)=true
end
section
variable{X:Cx}{CX:CXT}{k:Nat}{f C:Addr}{fd:FuncData}{ps ks:List Str}{sp:Sp}{E:XK}{x m:Str}{p pos apos kpos:Pos}{e o:Expr}{es:List Expr}{kws:List Keyword}{te ta:TE}{t tk:TA}{nm:Option Str}
structure zX(K:PySem.W.Frag)(fd:FuncData)(ps ks:List Str)(g:List Value->List Value->List Value)(gV:List V->List V->List V):Prop where
 to:∀(s:Shared)(us ws:List Value),K.In s.heap->(g us ws).length=ps.length->BindsTo s fd ⟨us,ks.zip ws⟩ (ps.zip (g us ws))
 rel:∀{vs:List V} {us:List Value} {zs:List V} {ws:List Value},Vals vs us->Vals zs ws->Vals (gV vs zs) (g us ws)
variable{g:List Value->List Value->List Value}{gV:List V->List V->List V}
end
structure Bw(N P:List Str)(sc:Scope):Prop where
 kind:sc.kind=.function
 co:sc.isCoroutine=false
 gen:sc.isGenerator=false
 nd:N.Nodup
 pre:N.take P.length=P
 par:∀x∈P,sc.names.lookup x=some .local∨sc.names.lookup x=some .cell
 nofree:∀y∈sc.names,y.2≠.free
theorem X4{kindOf:Str->Option NameKind}{x:Str}:∀{binds:List (Str×Value)} {m:Str->Option Value},(∀v,(x,v) ∉ binds)->bindL kindOf binds m x=m x
 |[],_,_=>rfl
 |(n,v)::r,m,h=>by
  unfold bindL
  rw[X4 fun w hw=>h w (List.mem_cons_of_mem _ hw)]
  split
  .have:x≠n:=by rintro rfl;exact h v List.mem_cons_self
   simp[this]
  .rfl
theorem X6{kindOf:Str->Option NameKind}{x:Str}:∀{binds:List (Str×Value)} {m:Str->Option Value},(∀v,(x,v) ∉ binds)->bindC kindOf binds m x=m x
 |[],_,_=>rfl
 |(n,v)::r,m,h=>by
  unfold bindC
  rw[X6 fun w hw=>h w (List.mem_cons_of_mem _ hw)]
  split
  .rfl
  .have:x≠n:=by rintro rfl;exact h v List.mem_cons_self
   simp[this]
theorem X5{kindOf:Str->Option NameKind}{x:Str}{v:Value}:∀{P:List Str} {vs:List Value} {i:Nat} {m:Str->Option Value},P.Nodup->P[i]?=some x->vs[i]?=some v->kindOf x=some .local ->
  bindL kindOf (P.zip vs) m x=some v
 |[],_,_,_,_,h,_,_=>by simp at h
 |_::_,[],_,_,_,_,h,_=>by simp at h
 |p::P,w::vs,0,m,nd,h1,h2,hk=>by
  simp at h1 h2;subst h1;subst h2
  show bindL kindOf ((p,w)::P.zip vs) m p=_
  unfold bindL
  rw[X4 fun v hv=>(List.nodup_cons.mp nd).1 (List.of_mem_zip hv).1,if_pos hk]
  simp
 |p::P,w::vs,i+1,m,nd,h1,h2,hk=>by
  show bindL kindOf ((p,w)::P.zip vs) m x=_
  unfold bindL
  exact X5 (i:=i) (List.nodup_cons.mp nd).2 (by simpa using h1) (by simpa using h2) hk
theorem X7{kindOf:Str->Option NameKind}{x:Str}{v:Value}:∀{P:List Str} {vs:List Value} {i:Nat} {m:Str->Option Value},P.Nodup->P[i]?=some x->vs[i]?=some v->kindOf x≠some .local ->
  bindC kindOf (P.zip vs) m x=some v
 |[],_,_,_,_,h,_,_=>by simp at h
 |_::_,[],_,_,_,_,h,_=>by simp at h
 |p::P,w::vs,0,m,nd,h1,h2,hk=>by
  simp at h1 h2;subst h1;subst h2
  show bindC kindOf ((p,w)::P.zip vs) m p=_
  unfold bindC
  rw[X6 fun v hv=>(List.nodup_cons.mp nd).1 (List.of_mem_zip hv).1,if_neg hk]
  simp
 |p::P,w::vs,i+1,m,nd,h1,h2,hk=>by
  show bindC kindOf ((p,w)::P.zip vs) m x=_
  unfold bindC
  exact X7 (i:=i) (List.nodup_cons.mp nd).2 (by simpa using h1) (by simpa using h2) hk
def start(N:List Str)(vs:List V):St:=vs.map some++List.replicate (N.length-vs.length) none
def Qu(CX:CXT)(P:Program)(w:World)(K:PySem.W.Frag)(mg:Str->Option Value)(base:Heap)(N:List Str)(qual:Str)(scope:Scope)(f:Addr)(cd:Value)(A:Around)(outer:List Env)(s:Shared)(H:Hp)(E:XK):Cx where
 prog:=P
 w:=w
 K:=K
 mg:=mg
 base:=base
 A:=A.deeper (envOfC qual scope s.heap.objs.size f cd)
 N:=N
 s₀:=s
 H₀:=H
 env:=envOfC qual scope s.heap.objs.size f cd
 outer:=outer
 stack:=envOfC qual scope s.heap.objs.size f cd::outer
 ex:=[]
 calm:=true
 fn:=fun _=>true
 pn:=[]
 xe:=fun e s'=>wpAny (model P w) (A.deeper (envOfC qual scope s.heap.objs.size f cd)) (leaving (envOfC qual scope s.heap.objs.size f cd) e) (fun _ s''=>CX outer H s E e s'') (fun e' s''=>CX outer H s E e' s'') s'
theorem Z2{sc:Scope}{n:Nat}{x:Str}(h:sc.names.lookup x=some .cell):∃c,(cellsFrom n sc.names []).lookup x=some c:=by
 have q:=PySem.W.cellsFrom_some sc.names n [] (.inl h)
 exact Option.isSome_iff_exists.mp q
theorem iI{CX:CXT}{P:Program}{w:World}{K:PySem.W.Frag}{mg:Str->Option Value}{base:Heap}{N ps:List Str}{qual:Str}{scope:Scope}{f:Addr}{cd:Value}{A:Around}{outer:List Env}{s s1:Shared}{H:Hp}{E:XK}{us:List Value}{vs:List V}
  (S:Bw N ps scope) (hd:A.handled=none) (e0:cD P w K mg base A outer s H) (hl:vs.length=ps.length) (r:Vals vs us)
  (x:InCallC s s.heap.objs.size (bindL (envOfC qual scope s.heap.objs.size f cd).kindOf (ps.zip us) fun _=>none) (cellsFrom (s.heap.objs.size+1) scope.names []) (bindC (envOfC qual scope s.heap.objs.size f cd).kindOf (ps.zip us) fun _=>none) s1) :
  Inv (Qu CX P w K mg base N qual scope f cd A outer s H E) [] (start N vs) H s1:=by
 have hpl:ps.length<=N.length:=by have:=congrArg List.length S.pre;rw[List.length_take] at this;omega
 obtain⟨h1,tk,rfl,hk⟩:=x.done
 have noA:∀b:Addr,b ∉ (Qu CX P w K mg base N qual scope f cd A outer s H E).ex:=fun b z=>absurd (show b∈([]:List Addr) from z) (by simp)
 refine⟨⟨e0.mod,S.kind,rfl,rfl,Nat.le_refl _,fun y z c h1 h2=>?_,fun y hy=>?_,fun y c _ h=>?_,fun _=>hd,Around.frames_deeper e0.frames,.inr ⟨rfl,rfl⟩,fun b z=>absurd z (noA b),e0.bs,e0.bsz,fun b _ _=>noA b,fun b z=>absurd z (noA b),e0.Nm,e0.frf,e0.sy⟩,
  rfl,e0.bare,Un.kept hk,⟨_,x.toInCall.ns,fun i y v h1 h2 h3=>?_⟩,fun y c h=>⟨_,x.cell y c h⟩,e0.hok.fresh (Nat.le_refl _),fun y c h=>?_,fun p hp=>absurd (show p∈([]:List (Addr×Obj)) from hp) (by simp),e0.hok.kept hk,?_⟩
 .exact name_of_addr x.apart (PySem.mem_of_lookup h1) (PySem.mem_of_lookup h2)
 .have hy:scope.names.lookup y=some .cell∨scope.names.lookup y=some .free:=hy
  rcases hy with hy|hy
  .exact Z2 hy
  .exact absurd rfl (S.nofree _ (PySem.mem_of_lookup hy))
 .exact Nat.le_of_lt (x.above y c (PySem.mem_of_lookup h))
 .have hi:i<vs.length:=by
   unfold start at h2
   by_cases hi:i<vs.length
   .exact hi
   .rw[List.getElem?_append_right (by simpa using hi)] at h2
    rw[List.getElem?_replicate] at h2
    split at h2<;>cases h2
  have ha:vs[i]?=some v:=by
   unfold start at h2
   rw[List.getElem?_append_left (by simpa using hi),List.getElem?_map] at h2
   cases e:vs[i]? with
   |none=>rw[e] at h2;cases h2
   |some a=>rw[e] at h2;cases h2;rfl
  obtain⟨u,hu,rv⟩:=r.get ha
  have hp:ps[i]?=some y:=by
   rw[←S.pre,List.getElem?_take_of_lt (by omega)];exact h1
  have ndP:ps.Nodup:=by rw[←S.pre];exact S.nd.sublist (List.take_sublist _ _)
  refine⟨u,rv,?_⟩
  rcases S.par y (List.mem_of_getElem? hp) with k|k
  .exact .inl ⟨k,X5 ndP hp hu k⟩
  .obtain⟨c,e⟩:=Z2 (n:=s.heap.objs.size+1) k
   refine .inr ⟨.inl k,c,e,?_⟩
   have q:=x.cell y c e
   rw[X7 ndP hp hu (by show scope.names.lookup y≠_;rw[k];decide)] at q
   exact q
 .exact e0.hok.fresh (Nat.le_of_lt (x.above y c (PySem.mem_of_lookup h)))
 .unfold start
  show _=N.length
  rw[List.length_append,List.length_map,List.length_replicate]
  omega
theorem xZ{CX:CXT}{P:Program}{w:World}{K:PySem.W.Frag}{mg:Str->Option Value}{base:Heap}{k:Nat}{f:Addr}{name qual:Str}{params:Arguments}{body:List Stmt}{scope:Scope}{dV kV doc pm cdv ct oc:Value}{an od:Option Addr}
  {osl:Array (Option Value)} {N ps:List Str} {sp:Sp} (lk:K.lookup f=some ⟨oc,od,.func (PySem.W.fnOf name qual params body scope dV kV doc pm an cdv ct),osl⟩) (hcd:PySem.W.codeIn K cdv qual=true) (S:Bw N ps scope)
  (len:∀vs H Q E,sp vs H Q E->vs.length=ps.length)
  (hbody:∀(A:Around)(outer:List Env)(s:Shared)(H:Hp)(vs:List V)(Q:VK)(E:XK),Fj k (A.deeper (envOfC qual scope s.heap.objs.size f cdv))->sp vs H Q E ->
   ∃t,PSs (Qu CX P w K mg base N qual scope f cdv A outer s H E) body t/\t { nx:=fun _ H'=>Q .non H',rt:=Q } (start N vs) H) :
  Cp P w K mg base CX (k+1) f (PySem.W.fnOf name qual params body scope dV kV doc pm an cdv ct) ps sp:=by
 refine⟨len,fun A outer s H args us vs Q E hr e0 hb r hsp=>?_⟩
 have hl:=len _ _ _ _ hsp
 have KX:K.In s.heap:=e0.mod.kin.keeps fun b o e=>(e0.bs b o e).1
 have lim:s.heap.NoLimit:=e0.mod.nolimit.keeps fun b o e=>(e0.bs b o e).1
 have hkind:∀y∈ps.zip us,scope.names.lookup y.1=some .local∨(scope.names.lookup y.1=some .cell/\((cellsFrom (s.heap.objs.size+1) scope.names []).lookup y.1).isSome=true):=fun⟨n,v⟩ hy=>by
  rcases S.par n (List.of_mem_zip hy).1 with q|q
  .exact .inl q
  .exact .inr ⟨q,PySem.W.cellsFrom_some _ _ _ (.inl q)⟩
 refine codeAny_call_function hr.depth (KX _ _ lk) rfl S.co S.gen rfl (PySem.W.codeRec_of KX hcd) (hb _ _ _ _ ?_)
 refine wpAny_newFunctionEnv_cells S.kind hkind fun env he s1 x=>?_
 subst he
 refine⟨lim.keeps x.toInCall.keep,codeAny_func ?_⟩
 obtain⟨t,ht,hq⟩:=hbody A outer s H vs Q E (hr.deeper _) hsp
 have I:Inv (Qu CX P w K mg base N qual scope f cdv A outer s H E) [] (start N vs) H s1:=iI S hr.hd e0 hl r x
 refine wpAny_mono (ht [] s1 (start N vs) H _ I hq) (fun fl s' hs=>?_) fun e s' hs=>hs
 have fin:∀{σ':St} {H':Hp} {v:V} {u:Value},Inv (Qu CX P w K mg base N qual scope f cdv A outer s H E) [] σ' H' s'->RelV v u->Q v H'->CE outer P w H s Q u s' :=
  fun {σ' H' v u} J rv q=>⟨v,H',J.os,J.bare,J.base,J.hok,rv,q⟩
 cases fl with
 |ret u =>
  obtain⟨v,σ',H',J,rv,q⟩:=hs
  exact fin J rv q
 |next =>
  obtain⟨σ',H',J,q⟩:=hs
  exact fin (v:=V.non) (u:=Value.none) J rfl q
 |brk =>
  obtain⟨_,_,_,q⟩:=hs
  exact False.elim q
 |cont =>
  obtain⟨_,_,_,q⟩:=hs
  exact False.elim q
end L2
namespace L2
open PySem PySem.Spec PyProof.Rows
section
variable{X:Cx}{x:Str}{p pos:Pos}{e:Expr}{es:List Expr}{t:TA}{id T:String}{r:List V->Hp->VK->Prop}
def tCB(r:List V->Hp->VK->Prop)(t:TA):TE:=fun σ H Q=>t σ H fun vs H1=>r vs H1 Q
theorem Yd(hc:Dl X (.builtin id) r)(hg:Gl X x)(hm:X.mg x=none)(hv:bootBuiltins x=some (.builtin id))(ha:PA X (e::es) t)(hn:x≠"__name__":=by decide)(hdb:(x==("__debug__":Str))=false:=by decide)
  (he:starEach (e::es) X.env=(false,eval e X.env)::starEach es X.env:=by rfl) (hpl:(backTo pos (starEach es X.env)).any (·.1)=false:=by rfl):PE X (.Call (.Name x p) (e::es) [] pos) (tCB r t):=by
 intro pins s σ H Q I h
 refine wpAny_Call_Name_kw (Jz I hg hm hv ?_ hn hdb)
 exact PyProof.Rows.callWith_builtin1 (thn (ha pos pins s σ H _ I h) fun us s1 ⟨vs,H1,I1,r1,q1⟩=>hc pins s1 σ H1 vs us Q I1 r1 q1) he hpl
theorem Km(hc:Dl X (.type T) r)(hg:Gl X x)(hm:X.mg x=none)(hv:bootBuiltins x=some (.type T))(ha:PA X (e::es) t)(hn:x≠"__name__":=by decide)(hdb:(x==("__debug__":Str))=false:=by decide)
  (he:starEach (e::es) X.env=(false,eval e X.env)::starEach es X.env:=by rfl) (hpl:(backTo pos (starEach es X.env)).any (·.1)=false:=by rfl):PE X (.Call (.Name x p) (e::es) [] pos) (tCB r t):=by
 intro pins s σ H Q I h
 refine wpAny_Call_Name_kw (Jz I hg hm hv ?_ hn hdb)
 exact PyProof.Rows.callWith_type1 (thn (ha pos pins s σ H _ I h) fun us s1 ⟨vs,H1,I1,r1,q1⟩=>hc pins s1 σ H1 vs us Q I1 r1 q1) he hpl
end
end L2
namespace HT
open PySem PyProof.Rows
section
open PySem.SeqAt
open PySem.AutoSeq1 (wpAny_loadPart')
open PySem.MeetsSeq PySem.MeetsSeq2 PySem.MeetsSeq3
end
section
variable{prog:Program}{w:World}{A:Around}{E:Value->Shared->Prop}{s:Shared}
theorem qz{t b:Addr}{vs ws:List Value}{Q:Value->Shared->Prop}(ht:IsTup s.heap t vs.toArray)(hb:IsTup s.heap b ws.toArray)(hv:vs≠[])
  (h1:ws=[]->Q (.ref t) s) (h2:ws≠[]->Q (.ref s.heap.objs.size) { s with heap:=s.heap.push { cls:=.type "tuple",data:=.seq (vs++ws).toArray } })
  (hsz:vs.length+ws.length<=sizeLine):wpAny (model prog w) A (binaryOp .Add (.ref t) (.ref b)) Q E s:=by
 obtain⟨⟨cls,dd,data,sl⟩,ho,hc,n,hd⟩:=id ht
 obtain⟨⟨cls2,dd2,data2,sl2⟩,ho2,hc2,n2,hd2⟩:=id hb
 simp only at hc hd hc2 hd2
 subst hc hd hc2 hd2
 have e:vs.toArray++ws.toArray=(vs++ws).toArray:=by simp
 by_cases hw:ws=[]
 .exact concat_meets ⟨_,ho,rfl⟩ ⟨_,ho2,rfl⟩ noFill_tuple_add seq_tuple_add PySem.F.slot_tuple_add PySem.F.entry_tuple_add (PySem.F.args_tuple_add_2 _ _)
   (tuple_addW1 t b vs.toArray ws.toArray n n2 dd dd2 sl sl2 (by simpa using hv) (by simp[hw])) ⟨ho,ho2,h1 hw⟩
 .refine concat_meets ⟨_,ho,rfl⟩ ⟨_,ho2,rfl⟩ noFill_tuple_add seq_tuple_add PySem.F.slot_tuple_add PySem.F.entry_tuple_add (PySem.F.args_tuple_add_2 _ _)
   (tuple_addW2 t b vs.toArray ws.toArray n n2 dd dd2 sl sl2 (by simpa using hv) (by simpa using hw) (by rw[List.size_toArray,List.size_toArray];exact hsz)) ⟨ho,ho2,?_⟩
  rw[e]
  exact h2 hw
def sIx(n d:Nat):Option Int->Nat
 |none=>d
 |some v=>if v<0 then (v+(n:Int)).toNat else min v.toNat n
theorem uF(n d:Nat)(hd:d<=n)(o:Option Int):sIx n d o<=n:=by
 cases o with
 |none=>exact hd
 |some v =>
  show(if v<0 then (v+(n:Int)).toNat else min v.toNat n)<=n
  by_cases hv:v<0
  .rw[if_pos hv];omega
  .rw[if_neg hv];exact Nat.min_le_right _ _
theorem bN(v:Int)(n d:Nat):(if v<0 then max (v+(n:Int)) 0 else min v (n:Int))=((sIx n d (some v):Nat):Int):=by
 show(if v<0 then max (v+(n:Int)) 0 else min v (n:Int))=(((if v<0 then (v+(n:Int)).toNat else min v.toNat n):Nat):Int)
 by_cases hv:v<0
 .simp only[if_pos hv];omega
 .simp only[if_neg hv];omega
theorem dZ(lo hi:Option Int)(n:Nat):Builtin.Slice.sliceAdjust lo hi 1 (n:Int)=(((sIx n 0 lo:Nat):Int),((sIx n n hi:Nat):Int)):=by
 have h1:¬((1:Int)<0):=by omega
 unfold Builtin.Slice.sliceAdjust
 simp only[h1,if_false]
 refine Prod.ext ?_ ?_
 .cases lo with
  |none=>rfl
  |some v=>exact bN v n 0
 .cases hi with
  |none=>rfl
  |some v=>exact bN v n n
theorem cW(i j:Nat):Builtin.Slice.slicePlaces (i:Int) (j:Int) 1=j-i:=by
 unfold Builtin.Slice.slicePlaces
 have h1:(1:Int)>0:=by omega
 simp only[h1,if_true,Int.ediv_one]
 split<;>omega
theorem Uy{v:Value}{o:Option Int}{Q:Option Int->Shared->Prop}(p:IsPart v o)(h:Q o s):wpAny (model prog w) A (Builtin.Slice.slicePartIndex v) Q E s:=by
 cases p with
 |none=>exact slicePart_none h
 |int i t=>exact slicePart_int h
theorem Ob{sl:Addr}{vl vu:Value}{lo hi:Option Int}{n:Nat}{Q:Int×Int×Nat->Shared->Prop}(hs:s.heap.IsSliceOf sl vl vu .none)(pl:IsPart vl lo)(pu:IsPart vu hi)
  (h:Q (((sIx n 0 lo:Nat):Int),1,sIx n n hi-sIx n 0 lo) s):wpAny (model prog w) A (Builtin.Slice.sliceApplied (.ref sl) (pure (n:Int))) Q E s:=by
 obtain⟨os,hos,hcs,hds⟩:=id hs
 unfold Builtin.Slice.sliceApplied Builtin.Slice.sliceFields
 refine wpAny_bind (wpAny_bind (wpAny_field hos hds (x:=vl) rfl (wpAny_bind (wpAny_field hos hds (x:=vu) rfl (wpAny_bind (wpAny_field hos hds (x:=.none) rfl (wpAny_pure ?_)))))))
 refine wpAny_bind (slicePart_none ?_)
 show wpAny _ _ (if ((1:Int)==0)=true then _ else _) _ _ s
 rw[if_neg (by decide)]
 refine wpAny_bind (Uy pl (wpAny_bind (Uy pu (wpAny_bind (wpAny_pure ?_)))))
 show wpAny _ _ (match Builtin.Slice.sliceAdjust lo hi 1 (n:Int) with|(lo,hi)=>pure (lo,(1:Int),Builtin.Slice.slicePlaces lo hi 1)) _ _ s
 rw[dZ lo hi n]
 show wpAny _ _ (pure (((sIx n 0 lo:Nat):Int),(1:Int),Builtin.Slice.slicePlaces ((sIx n 0 lo:Nat):Int) ((sIx n n hi:Nat):Int) 1)) _ _ s
 rw[cW]
 exact wpAny_pure h
theorem kI(xs:Array Value)(i k:Nat):((List.range k).filterMap fun(m:Nat)=>xs[((i:Int)+(m:Int)*1).toNat]?).toArray=((xs.toList.drop i).take k).toArray:=by
 have e:(fun(m:Nat)=>xs[((i:Int)+(m:Int)*1).toNat]?)=fun m=>xs[i+m]?:=by
  funext m
  have:((i:Int)+(m:Int)*1).toNat=i+m:=by omega
  rw[this]
 rw[e]
 have:=pick_run xs i k
 rw[List.filterMap_map] at this
 have e2:((fun x=>xs[x]?)∘fun x=>i+x)=fun m=>xs[i+m]?:=rfl
 rw[e2] at this
 rw[this]
theorem Sw{t sl:Addr}{items:Array Value}{vl vu:Value}{lo hi:Option Int}{Q:Value->Shared->Prop}(ht:IsTup s.heap t items)(hs:s.heap.IsSliceOf sl vl vu .none)(pl:IsPart vl lo)(pu:IsPart vu hi)
  (hw:¬(sIx items.size 0 lo=0/\sIx items.size items.size hi=items.size))
  (h:Q (.ref s.heap.objs.size) { s with heap:=s.heap.push { cls:=.type "tuple",data:=.seq ((items.toList.drop (sIx items.size 0 lo)).take (sIx items.size items.size hi-sIx items.size 0 lo)).toArray } })
  (hsz:items.size<=sizeLine):wpAny (model prog w) A (getItem (.ref t) (.ref sl)) Q E s:=by
 have htake:sizeOk (.seq ((items.toList.drop (sIx items.size 0 lo)).take (sIx items.size items.size hi-sIx items.size 0 lo)).toArray):=by
  show((items.toList.drop (sIx items.size 0 lo)).take (sIx items.size items.size hi-sIx items.size 0 lo)).toArray.size<=sizeLine
  rw[List.size_toArray,List.length_take,List.length_drop,Array.length_toList]
  omega
 have hj:sIx items.size items.size hi<=items.size:=uF _ _ (Nat.le_refl _) hi
 obtain⟨os,hos,hcs,hds⟩:=id hs
 have hTs:s.TypeIs (.ref sl) "slice":=⟨os,hos,hcs⟩
 unfold getItem
 try with_reducible refine wpAny_holding ?_
 first|refine wpAny_bind (wpAny_pure ?_)|skip
 refine wpAny_bind (wpAny_sequenceKey ht.typeIs (by decide) ?_)
 refine wpAny_bind (wpAny_callSpecial?_slot (name:=Str.ofString "__getitem__") ht.typeIs PyProof.Rows.slot_tuple_getitem
  (wpAny_call_entry PyProof.Rows.slot_tuple_getitem ht.typeIs entry_tuple_getitem ?_ (args_tuple_getitem _ _)))
 show wpAny _ _ (Builtin.Tuple.tupleItemsOf (.ref t) >>= _) _ _ s
 refine wpAny_bind (tupleItemsOf_ ht ?_)
 refine wpAny_bind (wpAny_typeOf hTs ?_)
 rw[if_pos (by decide)]
 refine wpAny_bind (Ob hs pl pu ?_)
 have hno:¬((((sIx items.size 0 lo:Nat):Int)==0&&(1:Int)==1&&(sIx items.size items.size hi-sIx items.size 0 lo)==items.size)=true):=by
  intro q
  rw[Bool.and_eq_true,Bool.and_eq_true] at q
  have q1:((sIx items.size 0 lo:Nat):Int)=0:=eq_of_beq q.1.1
  have q2:sIx items.size items.size hi-sIx items.size 0 lo=items.size:=eq_of_beq q.2
  exact hw ⟨by omega,by omega⟩
 show wpAny _ _ (if (((sIx items.size 0 lo:Nat):Int)==0&&(1:Int)==1&&(sIx items.size items.size hi-sIx items.size 0 lo)==items.size)=true then _ else _) _ _ s
 rw[if_neg hno,kI]
 first
  |exact wpAny_bind (m:=Builtin.Tuple.tupleExact _) (wpAny_newObj_type (wpAny_pure ⟨_,rfl,wpAny_pure h⟩) htake)
  |exact wpAny_bind (m:=Builtin.Tuple.tupleExact _) (wpAny_newObj_type (wpAny_bind (wpAny_pure (wpAny_pure ⟨_,rfl,wpAny_pure h⟩))) htake)
  |exact wpAny_bind (wpAny_bind (m:=Builtin.Tuple.tupleExact _) (wpAny_newObj_type (wpAny_pure (wpAny_pure ⟨_,rfl,wpAny_pure h⟩)) htake))
  |exact wpAny_bind (wpAny_bind (m:=Builtin.Tuple.tupleExact _) (wpAny_newObj_type (wpAny_pure ⟨_,rfl,wpAny_pure h⟩) htake))
end
end HT
namespace L2
open PySem PySem.Spec PyProof.Rows
abbrev TO:=St->Hp->(Option Int->Hp->Prop)->Prop
def PO(X:Cx)(e:Option Expr)(t:TO):Prop :=
 ∀(pins:List (Addr×Obj))(s:Shared)(σ:St)(H:Hp)(Q:Option Int->Hp->Prop),Inv X pins σ H s->t σ H Q ->
  wpAny (model X.prog X.w) X.A (evalPart e X.env) (fun u s'=>∃o H',Inv X pins σ H' s'/\IsPart u o/\Q o H') X.xe s
def o9:TO:=fun _ H Q=>Q none H
def wK(t:TE):TO:=fun σ H Q=>t σ H fun x H1=>∃i,x=.int i/\Q (some i) H1
theorem intsAre_of{ns:List Int}:∀{us:List Value},Vals (ns.map V.int) us->IntsAre us ns:=by
 induction ns with
 |nil=>intro us r;rw[List.map_nil] at r;cases r;exact .nil
 |cons n ns ih =>
  intro us r
  rw[List.map_cons] at r
  cases r with
  |cons r1 r2 =>
   obtain⟨t,e⟩:=r1
   subst e
   exact .cons n t (ih r2)
section
variable{X:Cx}{e:Expr}{te:TE}{lo hi:Option Expr}{tl th:TO}{pos p2:Pos}
theorem pA:PO X none o9:=by
 intro pins s σ H Q I h
 rw[evalPart_none]
 exact wpAny_pure ⟨none,H,I,.none,h⟩
theorem ou(h:PE X e te):PO X (some e) (wK te):=by
 intro pins s σ H Q I hw
 rw[evalPart_some]
 refine thn (h pins s σ H _ I hw) fun u s1 ⟨x,H1,I1,r1,q1⟩=>?_
 obtain⟨i,rfl,q⟩:=q1
 obtain⟨t,rfl⟩:=r1
 exact⟨some i,H1,I1,.int i t,q⟩
def SlR(X:Cx)(r:V->Option Int->Option Int->Hp->VK->Prop):Prop :=
 ∀(pins:List (Addr×Obj))(s:Shared)(σ:St)(H:Hp)(x:V)(v vl vu:Value)(lo hi:Option Int)(sl:Addr)(Q:VK),Inv X pins σ H s->RelV x v->s.heap.IsSliceOf sl vl vu .none->IsPart vl lo->IsPart vu hi->r x lo hi H Q ->
  ∃T id,typeLookup (.type T) "__getitem__"=pure (some (.builtin id))/\s.TypeIs v T/\wpAny (model X.prog X.w) X.A (getItem v (.ref sl)) (EP X pins σ Q) X.xe s
theorem SlR.or{r r':V->Option Int->Option Int->Hp->VK->Prop}(h:SlR X r)(h':SlR X r'):SlR X (fun x lo hi H Q=>r x lo hi H Q∨r' x lo hi H Q):=by
 intro pins s σ H x v vl vu lo hi sl Q I rx hs pl pu q
 rcases q with q|q
 .exact h pins s σ H x v vl vu lo hi sl Q I rx hs pl pu q
 .exact h' pins s σ H x v vl vu lo hi sl Q I rx hs pl pu q
def tSl(r:V->Option Int->Option Int->Hp->VK->Prop)(te:TE)(tl th:TO):TE:=fun σ H Q=>te σ H fun x H1=>tl σ H1 fun l H2=>th σ H2 fun u H3=>r x l u H3 Q
theorem kO{r:V->Option Int->Option Int->Hp->VK->Prop}(hr:SlR X r)(he:PE X e te)(hl:PO X lo tl)(hu:PO X hi th):PE X (.Subscript e (.Slice lo hi none p2) pos) (tSl r te tl th):=by
 intro pins s σ H Q I h
 refine Subscript_ (thn (he pins s σ H _ I h) fun v s1 ⟨x,H1,I1,r1,q1⟩=>?_)
 refine wpAny_Slice (thn (hl pins s1 σ H1 _ I1 q1) fun vl s2 ⟨l,H2,I2,pl,q2⟩=>thn (hu pins s2 σ H2 _ I2 q2) fun vu s3 ⟨u,H3,I3,pu,q3⟩=>?_)
 rw[evalPart_none]
 refine wpAny_pure ?_
 have I4:Inv X pins σ H3 { s3 with heap:=s3.heap.push { cls:=.type "slice",data:=.fields #[vl,vu,.none] } }:=I3.kept (t':=s3.toks) fun b ob q=>Heap.get?_push_of_some _ q
 obtain⟨T,id,hT,ht,hg⟩:=hr pins { s3 with heap:=s3.heap.push { cls:=.type "slice",data:=.fields #[vl,vu,.none] } } σ H3 x v vl vu l u s3.heap.objs.size Q I4 r1 (Heap.IsSliceOf.new ..) pl pu q3
 show wpAny (model X.prog X.w) X.A (subscriptTail e (.Slice lo hi none p2) v (.ref s3.heap.objs.size)) (EP X pins σ Q) X.xe { s3 with heap:=s3.heap.push { cls:=.type "slice",data:=.fields #[vl,vu,.none] } }
 exact tail_any (ops:=[.ref s3.heap.objs.size,v]) ht hT hg (by with_unfolding_all rfl)
def Kr(xs:List V)(lo hi:Option Int):List V:=(xs.drop (HT.sIx xs.length 0 lo)).take (HT.sIx xs.length xs.length hi-HT.sIx xs.length 0 lo)
theorem TY(xs:List V)(lo hi:Option Int):(Kr xs lo hi).length<=xs.length:=by
 unfold Kr
 rw[List.length_take,List.length_drop]
 omega
def yU(K:PySem.W.Frag):V->Option Int->Option Int->Hp->VK->Prop:=fun x lo hi H Q=>∃a xs,x=.ref a/\SqT K H a xs /\
 ¬(HT.sIx xs.length 0 lo=0/\HT.sIx xs.length xs.length hi=xs.length)/\∀p,H p=none->Q (.ref p) (upd H p (.tup (Kr xs lo hi)))
theorem u9:SlR X (yU X.K):=by
 intro pins s σ H x v vl vu lo hi sl Q I rx hs pl pu h
 obtain⟨a,xs,rfl,hx,hw,q⟩:=h
 cases rx
 obtain⟨its,r,ht,hz⟩:=I.tuple hx
 have hlen:its.toArray.size=xs.length:=by rw[List.size_toArray];exact r.length.symm
 refine⟨"tuple",_,PyProof.Rows.slot_tuple_getitem.lookup,ht.typeIs,?_⟩
 refine HT.Sw ht hs pl pu (by rw[hlen];exact hw) ?_ (by rw[hlen];exact hz)
 rw[hlen]
 refine⟨.ref s.heap.objs.size,_,I.laid (t':=s.toks) (o:=.tup (Kr xs lo hi)) (fun b ob q=>Heap.get?_push_of_some _ q) (Nat.le_refl _) ?_,rfl,q _ (I.hok.fresh (Nat.le_refl _))⟩
 exact⟨Nat.le_trans (TY xs lo hi) hz,_,(r.drop (HT.sIx xs.length 0 lo)).take (HT.sIx xs.length xs.length hi-HT.sIx xs.length 0 lo),IsTup.new _ _⟩
def wX(K:PySem.W.Frag):R2:=fun x y H Q=>∃a b xs ys,x=.ref a/\y=.ref b/\SqT K H a xs/\SqT K H b ys/\xs≠[]/\xs.length+ys.length<=sizeLine /\
 (ys=[]->Q (.ref a) H)/\(ys≠[]->∀p,H p=none->Q (.ref p) (upd H p (.tup (xs++ys))))
theorem Vals.SJ{xs:List V}{us:List Value}(r:Vals xs us):us=[]↔xs=[]:=by
 cases r with
 |nil=>simp
 |cons _ _=>simp
theorem pL:OpR X (binaryOp .Add) (wX X.K):=by
 intro pins s σ H x y v u Q I rx ry h
 obtain⟨a,b,xs,ys,rfl,rfl,ha,hb,hx,hz,q1,q2⟩:=h
 cases rx
 cases ry
 obtain⟨its,r1,p1,_⟩:=I.tuple ha
 obtain⟨its2,r2,p2,_⟩:=I.tuple hb
 refine HT.qz p1 p2 (fun z=>hx (r1.SJ.mp z)) (fun z=>⟨.ref a,H,I,rfl,q1 (r2.SJ.mp z)⟩) (fun z=>?_) (by rw[←r1.length,←r2.length];exact hz)
 refine⟨.ref s.heap.objs.size,_,I.laid (t':=s.toks) (o:=.tup (xs++ys)) (fun b ob q=>Heap.get?_push_of_some _ q) (Nat.le_refl _) ?_,rfl,q2 (fun w=>z (r2.SJ.mpr w)) _ (I.hok.fresh (Nat.le_refl _))⟩
 exact⟨by rw[List.length_append];exact hz,_,r1.append r2,IsTup.new _ _⟩
end
end L2
namespace L2
open PySem PySem.Spec PyProof.Rows
def ixN(n:Nat)(i:Int):Option Nat:=if 0<=i then (if i<n then some i.toNat else none) else if -(n:Int)<=i then some (i+n).toNat else none
def atI{α:Type}(xs:List α)(i:Int):Option α:=(ixN xs.length i).bind fun j=>xs[j]?
theorem bF{n:Nat}{i:Int}{j:Nat}(h:ixN n i=some j):seqIndex? i n=some j/\j<n/\-(n:Int)<=i/\i<n:=by
 unfold ixN at h
 by_cases h0:0<=i
 .rw[if_pos h0] at h
  by_cases h1:i<n
  .rw[if_pos h1] at h
   have e:i.toNat=j:=Option.some.inj h
   exact⟨by rw[seqIndex_of h0 h1,e],by omega,by omega,h1⟩
  .rw[if_neg h1] at h;cases h
 .rw[if_neg h0] at h
  by_cases h1:-(n:Int)<=i
  .rw[if_pos h1] at h
   have e:(i+n).toNat=j:=Option.some.inj h
   exact⟨by rw[seqIndex_neg (by omega) h1,e],by omega,h1,by omega⟩
  .rw[if_neg h1] at h;cases h
theorem W4{α:Type}{xs:List α}{i:Int}{v:α}(h:atI xs i=some v):∃j,seqIndex? i xs.length=some j/\xs[j]?=some v/\j<xs.length/\-(xs.length:Int)<=i/\i<xs.length:=by
 unfold atI at h
 cases e:ixN xs.length i with
 |none=>rw[e] at h;cases h
 |some j =>
  rw[e] at h
  obtain⟨h1,h2,h3,h4⟩:=bF e
  exact⟨j,h1,h,h2,h3,h4⟩
theorem Nj{α:Type}{xs:List α}{j:Nat}{v:α}(h:xs[j]?=some v):atI xs (j:Int)=some v:=by
 have hj:j<xs.length:=(List.getElem?_eq_some_iff.mp h).1
 have e:ixN xs.length (j:Int)=some j:=by
  unfold ixN
  rw[if_pos (by omega),if_pos (by omega)];simp
 unfold atI;rw[e];exact h
theorem UL{α:Type}(xs:List α)(v:α):atI (xs++[v]) (-1)=some v:=by
 have hl:(xs++[v]).length=xs.length+1:=by simp
 have e:ixN (xs++[v]).length (-1)=some xs.length:=by
  unfold ixN
  rw[hl,if_neg (by decide),if_pos (by omega)]
  congr 1
  omega
 unfold atI
 rw[e]
 show(xs++[v])[xs.length]?=some v
 simp
def Sh(b:Expr):Prop:=∀o i,subscripted b false o i=operate [o,i] (getItem o i)
def IxR(X:Cx)(r:R2):Prop :=
 ∀(value slice:Expr)(pins:List (Addr×Obj))(s:Shared)(σ:St)(H:Hp)(x y:V)(v u:Value)(Q:VK),Inv X pins σ H s->RelV x v->RelV y u->r x y H Q ->
  subscripted slice false v u=operate [v,u] (getItem v u)->wpAny (model X.prog X.w) X.A (subscriptTail value slice v u) (EP X pins σ Q) X.xe s
def MtR(X:Cx)(id:String)(r:V->List V->Hp->VK->Prop):Prop :=
 ∀(pins:List (Addr×Obj))(s:Shared)(σ:St)(H:Hp)(x:V)(xs:List V)(v:Value)(us:List Value)(Q:VK),Inv X pins σ H s->RelV x v->Vals xs us->r x xs H Q ->
  wpAny (model X.prog X.w) X.A (call (.builtin id) (v::us)) (EP X pins σ Q) X.xe s
section
variable{X:Cx}{a b:Expr}{ta tb:TE}{pos:Pos}
theorem IxR.or{r r':R2}(h:IxR X r)(h':IxR X r'):IxR X (fun x y H Q=>r x y H Q∨r' x y H Q):=by
 intro value slice pins s σ H x y v u Q I rx ry q hs
 rcases q with q|q
 .exact h value slice pins s σ H x y v u Q I rx ry q hs
 .exact h' value slice pins s σ H x y v u Q I rx ry q hs
theorem wu{r:R2}(hr:IxR X r)(ha:PE X a ta)(hb:PE X b tb)(hs:Sh b):PE X (.Subscript a b pos) (tOp r ta tb):=by
 intro pins s σ H Q I h
 exact Subscript_ (bf ha hb I h fun v u s2 x y H2 I2 rx ry q=>hr a b pins s2 σ H2 x y v u Q I2 rx ry q (hs _ _))
def tH(K:PySem.W.Frag):R2:=fun x y H Q=>∃p xs i v,x=.ref p/\y=.int i/\SqL K H p xs/\atI xs i=some v/\Q v H
def tE(K:PySem.W.Frag):R2:=fun x y H Q=>∃p xs i v,x=.ref p/\y=.int i/\SqT K H p xs/\atI xs i=some v/\Q v H
def tG:R2:=fun x y H Q=>∃z i c,x=.str z/\y=.int i/\z.length<=sizeLine/\atI z.cps.toList i=some c/\Q (.str ⟨#[c]⟩) H
theorem qN:IxR X (tH X.K):=by
 intro value slice pins s σ H x y v u Q I rx ry h hs
 obtain⟨p,xs,i,z,rfl,rfl,hq,he,q⟩:=h
 cases rx
 obtain⟨t,rfl⟩:=ry
 obtain⟨its,r,pl,hz⟩:=I.list hq
 obtain⟨j,h1,h2,h3,h4,h5⟩:=W4 he
 obtain⟨w,ew,rw'⟩:=r.get h2
 have hl:=r.length
 have hn:=R8
 have fin:EP X pins σ Q w s:=⟨z,H,I,rw',q⟩
 by_cases h0:0<=i
 .have hj:i.toNat=j:=by
   rw[seqIndex_of h0 h5] at h1
   exact Option.some.inj h1
  exact item_listR pl.isList h0 (by omega) (by rw[hj];simpa using ew) fin hs
 .have hj:(i+(its.toArray.size:Int)).toNat=j:=by
   rw[seqIndex_neg (by omega) h4] at h1
   rw[List.size_toArray,←hl]
   exact Option.some.inj h1
  exact subscriptTail_builtinR (x:=w) pl.isList.typeIs slot_list_getitem.lookup
   (wpAny_getItem_list_neg (Q:=fun r s'=>r=w/\EP X pins σ Q r s') pl.isList (by omega) (by rw[List.size_toArray]<;>omega) (by omega) (by rw[hj];simpa using ew) ⟨rfl,fin⟩) hs
theorem vK:IxR X (tE X.K):=by
 intro value slice pins s σ H x y v u Q I rx ry h hs
 obtain⟨p,xs,i,z,rfl,rfl,hq,he,q⟩:=h
 cases rx
 obtain⟨t,rfl⟩:=ry
 obtain⟨its,r,pl,hz⟩:=I.tuple hq
 obtain⟨j,h1,h2,h3,h4,h5⟩:=W4 he
 obtain⟨w,ew,rw'⟩:=r.get h2
 have hl:=r.length
 have hn:=R8
 have fin:EP X pins σ Q w s:=⟨z,H,I,rw',q⟩
 exact subscriptTail_builtinR (x:=w) pl.typeIs slot_tuple_getitem.lookup
  (getItem_tuple (j:=j) (Q:=fun r s'=>r=w/\EP X pins σ Q r s') pl (by omega) (by omega) (by rw[List.size_toArray,←hl];exact h1) (by simpa using ew) ⟨rfl,fin⟩) hs
theorem vL:IxR X tG:=by
 intro value slice pins s σ H x y v u Q I rx ry h hs
 obtain⟨z,i,c,rfl,rfl,hz,he,q⟩:=h
 obtain⟨t,rfl⟩:=rx
 obtain⟨t',rfl⟩:=ry
 obtain⟨j,h1,h2,h3,h4,h5⟩:=W4 he
 have hl:z.cps.toList.length=z.length:=by simp[Str.length]
 rw[hl] at h1 h4 h5
 have hn:=R8
 exact tail_any (typeIs_str s z t) slot_str_getitem.lookup (getItem_str (c:=c) (by
  have e1:decide (i < -(2^63:Int))=false:=decide_eq_false (by omega)
  have e2:decide (i≥2^63)=false:=decide_eq_false (by omega)
  rw[e1,e2,Bool.or_false]) (by rw[h1];simpa using h2) ⟨.str ⟨#[c]⟩,H,I.tok _,⟨_,rfl⟩,q⟩) hs
def rIx(K:PySem.W.Frag):R2:=fun x y H Q=>tH K x y H Q∨tE K x y H Q∨tG x y H Q
theorem Bt:IxR X (rIx X.K):=qN.or (vK.or vL)
theorem dB(its:List Value)(n j:Nat)(u:Value):Obj.mapSeq (·.setIfInBounds j u) { cls:=.type "list",data:=.seq its.toArray n }={ cls:=.type "list",data:=.seq (its.set j u).toArray n }:=by
 simp[Obj.mapSeq]
theorem Inv.lst{pins:List (Addr×Obj)}{σ:St}{H:Hp}{s:Shared}{p:Addr}{xs:List V}(I:Inv X pins σ H s)(h:H p=some (.lst xs)) :
  ∃(its:List Value)(n:Nat),Vals xs its/\s.heap.get? p=some { cls:=.type "list",data:=.seq its.toArray n }/\xs.length<=sizeLine:=by
 obtain⟨z,its,n,r,e⟩:=I.hok p _ h
 exact⟨its,n,r,e,z⟩
theorem Inv.ux{pins:List (Addr×Obj)}{σ:St}{H:Hp}{s:Shared}{p:Addr}{xs ys:List V}{its its':List Value}{n n':Nat}{f:Obj->Obj}(I:Inv X pins σ H s)(h:H p=some (.lst xs))
  (ho:s.heap.get? p=some { cls:=.type "list",data:=.seq its.toArray n }) (hf:f { cls:=.type "list",data:=.seq its.toArray n }={ cls:=.type "list",data:=.seq its'.toArray n' }) (r:Vals ys its') (hz:ys.length<=sizeLine) (t:Nat) :
  Inv X pins σ (upd H p (.lst ys)) { s with heap:=s.heap.update p f,toks:=t }:=by
 have e:(s.heap.update p f).get? p=some { cls:=.type "list",data:=.seq its'.toArray n' }:=by
  rw[Heap.get?_update_self f ho (by rw[hf]<;>rfl),hf]
 refine I.write (x:=p) (e:=p) (by rw[h];trivial) (.inl rfl) (fun b u hb q=>(Heap.get?_update_other _ _ (Ne.symm hb)).trans q) ⟨_,e⟩ ?_
 exact⟨hz,its',n',r,e⟩
def wV:V->V->V->Hp->(Hp->Prop)->Prop:=fun o i v H Q=>∃p xs k j,o=.ref p/\i=.int k/\H p=some (.lst xs)/\ixN xs.length k=some j/\Q (upd H p (.lst (xs.set j v)))
theorem set_list:tV X wV:=by
 intro pins s σ H o i v ov iv u Q I ro ri rv h
 obtain⟨p,xs,k,j,rfl,rfl,hp,hj,q⟩:=h
 cases ro
 obtain⟨t,rfl⟩:=ri
 obtain⟨its,n,r,ho,hz⟩:=I.lst hp
 obtain⟨h1,h2,h3,h4⟩:=bF hj
 have hl:=r.length
 have hn:=R8
 have I':Inv X pins σ (upd H p (.lst (xs.set j v))) { s with heap:=s.heap.update p (Obj.mapSeq (·.setIfInBounds j u)) } :=
  I.ux hp ho (dB its n j u) (r.set rv j) (by rw[List.length_set];exact hz) s.toks
 by_cases h0:0<=k
 .have hk:k.toNat=j:=by
   rw[seqIndex_of h0 h4] at h1
   exact Option.some.inj h1
  exact PySem.W.ki_setAt ho h0 (by omega) (by rw[List.size_toArray,←hl];exact h4) (by rw[hk];exact⟨_,I',q⟩)
 .have hk:(k+(its.toArray.size:Int)).toNat=j:=by
   rw[seqIndex_neg (by omega) h3] at h1
   rw[List.size_toArray,←hl]
   exact Option.some.inj h1
  exact PySem.W.ki_setBack ho (by omega) (by rw[List.size_toArray,←hl];exact h3) (by omega) (by rw[hk];exact⟨_,I',q⟩)
theorem ZC(lo hi:Option Int)(n:Nat):(sliceBounds lo hi none n).1=((HT.sIx n 0 lo:Nat):Int)/\(sliceBounds lo hi none n).2.1=((HT.sIx n n hi:Nat):Int)/\(sliceBounds lo hi none n).2.2=1:=by
 refine⟨?_,?_,rfl⟩
 .cases lo with
  |none=>simp[sliceBounds,HT.sIx]
  |some i =>
   simp only[sliceBounds,HT.sIx,Option.getD_none,show(1:Int)>0 by decide,if_true]
   by_cases h:i<0
   .simp only[h,if_true]<;>omega
   .simp only[h,if_false]<;>omega
 .cases hi with
  |none=>simp[sliceBounds,HT.sIx]
  |some i =>
   simp only[sliceBounds,HT.sIx,Option.getD_none,show(1:Int)>0 by decide,if_true]
   by_cases h:i<0
   .simp only[h,if_true]<;>omega
   .simp only[h,if_false]<;>omega
theorem XD(its:List Value)(lo hi:Option Int):slicePick its.toArray lo hi none=((its.drop (HT.sIx its.length 0 lo)).take (HT.sIx its.length its.length hi-HT.sIx its.length 0 lo)).toArray:=by
 obtain⟨h1,h2,h3⟩:=ZC lo hi its.toArray.size
 unfold slicePick
 rw[h1,h2,h3]
 simp only[sliceRange_one,pick_run,List.size_toArray]<;>rfl
def sW(K:PySem.W.Frag):V->Option Int->Option Int->Hp->VK->Prop:=fun x lo hi H Q=>∃a xs,x=.ref a/\SqL K H a xs/\∀p,H p=none->Q (.ref p) (upd H p (.lst (Kr xs lo hi)))
theorem oE:SlR X (sW X.K):=by
 intro pins s σ H x v vl vu lo hi sl Q I rx hs pl pu h
 obtain⟨a,xs,rfl,hx,q⟩:=h
 cases rx
 obtain⟨its,r,ht,hz⟩:=I.list hx
 have hlen:=r.length
 refine⟨"list",_,slot_list_getitem.lookup,ht.isList.typeIs,?_⟩
 refine wpAny_getItem_list_slice ht.isList hs pl pu .none (by simp) ?_ (by rw[List.size_toArray]<;>omega)
 rw[XD,←hlen]
 refine⟨.ref s.heap.objs.size,_,I.laid (t':=s.toks) (o:=.lst (Kr xs lo hi)) (fun b ob q=>Heap.get?_push_of_some _ q) (Nat.le_refl _) ?_,rfl,q _ (I.hok.fresh (Nat.le_refl _))⟩
 exact⟨Nat.le_trans (TY xs lo hi) hz,_,0,(r.drop (HT.sIx xs.length 0 lo)).take (HT.sIx xs.length xs.length hi-HT.sIx xs.length 0 lo),Heap.get?_push_size _ rfl⟩
theorem Dr:Dl X (.builtin "len") (fun xs H Q=>∃p ys,xs=[.ref p]/\(SqL X.K H p ys∨SqT X.K H p ys)/\Q (.int ys.length) H):=by
 intro pins s σ H xs us Q I r h
 obtain⟨p,ys,rfl,hq,q⟩:=h
 obtain⟨u,rfl,rx⟩:=vals1 r
 cases rx
 have hn:=R8
 rcases hq with hq|hq
 .obtain⟨its,r',pl,hz⟩:=I.list hq
  have hlen:=r'.length
  exact Calls.call_len_list pl.isList (by simp only[List.size_toArray]<;>omega) ⟨.int ys.length,H,I.tok _,⟨s.toks+1,by rw[List.size_toArray,hlen]⟩,q⟩
 .obtain⟨its,r',pl,hz⟩:=I.tuple hq
  have hlen:=r'.length
  exact len_tuple pl (by simp only[List.size_toArray]<;>omega) ⟨.int ys.length,H,I.tok _,⟨s.toks+1,by rw[List.size_toArray,hlen]⟩,q⟩
theorem Dl.or{f:Value}{r r':List V->Hp->VK->Prop}(h:Dl X f r)(h':Dl X f r'):Dl X f (fun xs H Q=>r xs H Q∨r' xs H Q):=by
 intro pins s σ H xs us Q I rs q
 rcases q with q|q
 .exact h pins s σ H xs us Q I rs q
 .exact h' pins s σ H xs us Q I rs q
theorem Ry:Dl X (.type "list") (fun xs H Q=>∃p ys,xs=[.ref p]/\(SqL X.K H p ys∨SqT X.K H p ys)/\∀l,H l=none->Q (.ref l) (upd H l (.lst ys))):=by
 intro pins s σ H xs us Q I r h
 obtain⟨p,ys,rfl,hq,q⟩:=h
 obtain⟨u,rfl,rx⟩:=vals1 r
 cases rx
 have fin:∀(its:List Value),Vals ys its->ys.length<=sizeLine->∀(h':Heap)(c':Nat),(∀b o',s.heap.get? b=some o'->h'.get? b=some o') ->
   h'.get? s.heap.objs.size=some { cls:=.type "list",dict:=none,data:=.seq its.toArray c',slots:=#[] }->EP X pins σ Q (.ref s.heap.objs.size) { s with heap:=h' }:=fun its r' hz h' c' kp e =>
  ⟨.ref s.heap.objs.size,_,I.laid (t':=s.toks) kp (Nat.le_refl _) (show Ed X.prog X.w _ h' _ (.lst ys) from ⟨hz,its,c',r',e⟩),rfl,q _ (I.hok.fresh (Nat.le_refl _))⟩
 rcases hq with hq|hq
 .obtain⟨its,r',pl,hz⟩:=I.list hq
  have hlen:=r'.length
  obtain⟨o,ho,hc,n,hd⟩:=pl.isList
  exact call_list_seq p (.inl rfl) ho hc hd (fun h' c' kp e=>fin its r' hz h' c' kp e) (by simp only[List.size_toArray]<;>omega)
 .obtain⟨its,r',pl,hz⟩:=I.tuple hq
  have hlen:=r'.length
  obtain⟨o,ho,hc,n,hd⟩:=pl
  exact call_list_seq p (.inr rfl) ho hc hd (fun h' c' kp e=>fin its r' hz h' c' kp e) (by simp only[List.size_toArray]<;>omega)
theorem Mt:Dl X (.type "tuple") (fun xs H Q=>∃p ys,xs=[.ref p]/\((SqL X.K H p ys/\∀l,H l=none->Q (.ref l) (upd H l (.tup ys)))∨(SqT X.K H p ys/\Q (.ref p) H))):=by
 intro pins s σ H xs us Q I r h
 obtain⟨p,ys,rfl,h⟩:=h
 obtain⟨u,rfl,rx⟩:=vals1 r
 cases rx
 rcases h with ⟨hq,q⟩|⟨hq,q⟩
 .obtain⟨its,r',pl,hz⟩:=I.list hq
  have hlen:=r'.length
  refine call_tuple_list pl.isList (fun h' kp=>?_) (by simp only[List.size_toArray]<;>omega)
  have I1:Inv X pins σ H { s with heap:=h' }:=I.kept (t':=s.toks) kp
  have I2:Inv X pins σ (upd H h'.objs.size (.tup ys)) { s with heap:=h'.push { cls:=.type "tuple",data:=.seq its.toArray } } :=
   I1.laid (t':=s.toks) (fun b o e=>Heap.get?_push_of_some _ e) (Nat.le_refl _) (show Ed X.prog X.w _ _ _ (.tup ys) from ⟨hz,its,r',IsTup.new _ _⟩)
  exact⟨.ref h'.objs.size,_,I2,rfl,q _ (I1.hok.fresh (Nat.le_refl _))⟩
 .obtain⟨its,r',pl,hz⟩:=I.tuple hq
  exact call_tuple_same pl ⟨.ref p,H,I,rfl,q⟩
def tyV(K:PySem.W.Frag)(T:String)(x:V)(H:Hp):Prop:=match x with
 |.str _=>T="str"
 |.int _=>T="int"
 |.ref p=>(T="list"/\∃xs,SqL K H p xs)∨(T="tuple"/\∃o,K.lookup p=some o/\o.cls=.type "tuple"/\o.dict=none) ∨
   (T="dict"/\((∃kvs,H p=some (.dK kvs))∨∃kvs,H p=some (.dT kvs)))∨(T="set"/\∃S n,H p=some (.set S n))
 |_=>False
theorem dg{pins:List (Addr×Obj)}{σ:St}{H:Hp}{s:Shared}{T:String}{x:V}{v:Value}(I:Inv X pins σ H s)(r:RelV x v)(ty:tyV X.K T x H) :
  s.TypeIs v T/\∀a,v=.ref a->∃ob,s.heap.get? a=some ob/\ob.dict=none:=by
 cases x with
 |str z =>
  obtain⟨t,rfl⟩:=r
  cases (show T="str" from ty)
  exact⟨typeIs_str s z t,fun _ e=>nomatch e⟩
 |int i =>
  obtain⟨t,rfl⟩:=r
  cases (show T="int" from ty)
  exact⟨typeIs_int s i t,fun _ e=>nomatch e⟩
 |ref p =>
  cases r
  rcases ty with ⟨rfl,xs,hq⟩|⟨rfl,o,hk,hc,hd⟩|⟨rfl,hk⟩|⟨rfl,S,n,hk⟩
  .obtain⟨its,_,pl,_⟩:=I.list hq
   refine⟨pl.isList.typeIs,fun a e=>?_⟩
   cases e
   obtain⟨o,n,e,c,hd,_⟩:=pl
   exact⟨o,e,hd⟩
  .refine⟨⟨o,I.kIn p o hk,hc⟩,fun a e=>?_⟩
   cases e
   exact⟨o,I.kIn _ o hk,hd⟩
  .have z:∃o,s.heap.get? p=some o/\o.ExactDict:=by
    rcases hk with ⟨kvs,hk⟩|⟨kvs,hk⟩
    .obtain⟨_,_,_,_,o,_,_,e,ex,_⟩:=I.hok p _ hk
     exact⟨o,e,ex⟩
    .obtain⟨_,_,_,_,o,_,_,e,ex,_⟩:=I.hok p _ hk
     exact⟨o,e,ex⟩
   obtain⟨o,e,ex⟩:=z
   refine⟨⟨o,e,ex.1⟩,fun a e2=>?_⟩
   cases e2
   exact⟨o,e,ex.2.1⟩
  .obtain⟨o,_,_,_,e,ex,_⟩:=I.hok p _ hk
   refine⟨⟨o,e,ex.1⟩,fun a e2=>?_⟩
   cases e2
   exact⟨o,e,ex.2.1⟩
 |_=>exact False.elim ty
def sJ(K:PySem.W.Frag)(T:String)(r:V->List V->Hp->VK->Prop)(to:TE):TE:=fun σ H Q=>to σ H fun x H1=>tyV K T x H1/\r x [] H1 Q
def tBM(K:PySem.W.Frag)(T:String)(r:V->List V->Hp->VK->Prop)(to:TE)(t:TA):TE:=fun σ H Q=>to σ H fun x H1=>tyV K T x H1/\t σ H1 fun xs H2=>r x xs H2 Q
variable{o e:Expr}{es:List Expr}{to:TE}{t:TA}{name:Str}{apos cpos:Pos}{T id:String}{r:V->List V->Hp->VK->Prop}
theorem uZ(pa:PlainAttrs T)(slot:Slot T name id)(hty:typeOf (.builtin id)=pure (.type "method_descriptor"))(hm:MtR X id r)(ho:PE X o to)
  (hbase:attributeBase o name X.env (eval o X.env)=eval o X.env:=by rfl) (hline:(apos.endLine==cpos.line)=true:=by rfl):PE X (.Call (.Attribute o name apos) [] [] cpos) (sJ X.K T r to):=by
 intro pins s σ H Q I h
 refine wpAny_Call_method0_late hbase hline (thn (ho pins s σ H _ I h) fun v s1 ⟨x,H1,I1,r1,ty,q1⟩=>?_)
 obtain⟨h1,h2⟩:=dg I1 r1 ty
 exact⟨T,id,pa,slot,hty,h1,h2,Calls.callWith_builtin rfl (PySem.evalArgs_none (hm pins s1 σ H1 x [] v [] Q I1 r1 .nil q1))⟩
theorem wz(pa:PlainAttrs T)(slot:Slot T name id)(hty:typeOf (.builtin id)=pure (.type "method_descriptor"))(hm:MtR X id r)(ho:PE X o to)(ha:PA X (e::es) t)
  (hbase:attributeBase o name X.env (eval o X.env)=eval o X.env:=by rfl)
  (hfew:((backTo cpos (starEach (e::es) X.env)).all (fun x=>!x.1)&&(backToKw cpos (keywordEach [] X.env)).all (fun x=>x.1.isSome)
   && decide ((e::es).length+([]:List Keyword).length+(if ([]:List Keyword).isEmpty then 0 else 1)<30))=true:=by rfl)
  (hline:(apos.endLine==cpos.line)=true:=by rfl) (hs:starEach (e::es) X.env=(false,eval e X.env)::starEach es X.env:=by rfl) (hplain:(backTo cpos (starEach es X.env)).any (·.1)=false:=by rfl) :
  PE X (.Call (.Attribute o name apos) (e::es) [] cpos) (tBM X.K T r to t):=by
 intro pins s σ H Q I h
 refine wpAny_Call_method_late hbase hfew hline rfl (thn (ho pins s σ H _ I h) fun v s1 ⟨x,H1,I1,r1,ty,q1⟩=>?_)
 obtain⟨h1,h2⟩:=dg I1 r1 ty
 refine⟨T,id,pa,slot,hty,h1,h2,?_⟩
 have hA:=ha cpos pins s1 σ H1 _ I1 q1
 rw[hs] at hA ⊢
 refine Calls.callWith_builtin (by show(false||(backTo cpos (starEach es X.env)).any (·.1))=false;rw[hplain]<;>rfl) (Calls.evalArgs_plain ?_)
 exact thn hA fun us s2 ⟨vs,H2,I2,r2,q2⟩=>hm pins s2 σ H2 x vs v us Q I2 r1 r2 q2
/- xs.append(e), list.index on a module's tuple .. are MtR facts of 06m -/
end
end L2
namespace L2
open PySem PySem.Spec PyProof.Rows
def MtM(X:Cx)(id:String)(r:V->List V->Hp->VK->Prop):Prop :=
 ∀(pins:List (Addr×Obj))(s:Shared)(σ:St)(H:Hp)(x:V)(xs:List V)(v:Value)(us:List Value)(Q:VK),Inv X pins σ H s->RelV x v->Vals xs us->r x xs H Q ->
  wpAny (model X.prog X.w) X.A (call (.builtin id) (v::us)) (EP X pins σ Q) X.xe s
theorem Vals.one:∀{x:V} {us:List Value},Vals [x] us->∃u,us=[u]/\RelV x u
 |_,_,.cons r .nil=>⟨_,rfl,r⟩
theorem Vals.zero:∀{us:List Value},Vals [] us->us=[]
 |_,.nil=>rfl
theorem Vals.dropLast{xs:List V}{us:List Value}(h:Vals xs us):Vals xs.dropLast us.dropLast:=by
 induction h with
 |nil=>exact .nil
 |cons r t ih =>
  cases t with
  |nil=>exact .nil
  |cons q t'=>exact .cons r ih
theorem Vals.eraseIdx:∀{xs:List V} {us:List Value} (i:Nat),Vals xs us->Vals (xs.eraseIdx i) (us.eraseIdx i)
 |_,_,_,.nil=>.nil
 |_,_,0,.cons _ t=>t
 |_,_,i+1,.cons r t=>.cons r (Vals.eraseIdx i t)
theorem Vals.rep{xs:List V}{us:List Value}(h:Vals xs us):∀k:Nat,Vals (List.replicate k xs).flatten (List.replicate k us).flatten
 |0=>.nil
 |k+1=>by
  rw[List.replicate_succ,List.replicate_succ,List.flatten_cons,List.flatten_cons]
  exact Vals.append h (Vals.rep h k)
theorem dR{α:Type}(l:List α):l.eraseIdx (l.length-1)=l.dropLast:=by
 induction l with
 |nil=>rfl
 |cons a r ih =>
  cases r with
  |nil=>rfl
  |cons b r =>
   have e:(a::b::r).length-1=((b::r).length-1)+1:=by
    have h1:(a::b::r).length=r.length+2:=rfl
    have h2:(b::r).length=r.length+1:=rfl
    omega
   rw[e,List.eraseIdx_cons_succ,ih]
   all_goals rfl
theorem Wg{α:Type}:∀(l:List α)(i:Nat),(l.eraseIdx i).length<=l.length
 |[],_=>Nat.le_refl _
 |_::_,0=>Nat.le_succ _
 |_::r,i+1=>Nat.succ_le_succ (Wg r i)
theorem foldl_rep(its:List Value):∀(k:Nat)(acc:List Value),
  List.foldl (fun x1 x2=>x1++x2) acc.toArray (List.replicate k its.toArray)=(acc++(List.replicate k its).flatten).toArray
 |0,acc=>by simp
 |k+1,acc=>by
  have e:acc.toArray++its.toArray=(acc++its).toArray:=by simp
  have e2:(acc++its)++(List.replicate k its).flatten=acc++(List.replicate (k+1) its).flatten:=by
   rw[List.replicate_succ,List.flatten_cons,List.append_assoc]
  rw[←e2,←foldl_rep its k (acc++its),←e,List.replicate_succ,List.foldl_cons]
section
variable{X:Cx}{pins:List (Addr×Obj)}{σ:St}{H:Hp}{s:Shared}{l b:Addr}{xs ys zs:List V}
theorem Inv.bW{its its':List Value}{n:Nat}{f:Array Value->Array Value}{t':Nat}(I:Inv X pins σ H s)(hH:H l=some (.lst xs))
  (e:s.heap.get? l=some { cls:=.type "list",data:=.seq its.toArray n }) (hf:f its.toArray=its'.toArray) (hv:Vals ys its') (hz:ys.length<=sizeLine) :
  Inv X pins σ (upd H l (.lst ys)) { s with heap:=s.heap.update l (Obj.mapSeq f),toks:=t' }:=by
 have q:=PySem.IsL.update e f
 rw[hf] at q
 refine I.write (x:=l) (e:=l) (by rw[hH];exact trivial) (.inl rfl) (fun b' u hb hu=>(Heap.get?_update_other s.heap (Obj.mapSeq f) (Ne.symm hb)).trans hu) ⟨_,q⟩ ?_
 exact⟨hz,its',_,hv,q⟩
theorem Inv.tQ{its:List Value}{t':Nat}(I:Inv X pins σ H s)(hv:Vals ys its)(hz:ys.length<=sizeLine) :
  Inv X pins σ (upd H s.heap.objs.size (.lst ys)) { s with heap:=s.heap.push { cls:=.type "list",data:=.seq its.toArray },toks:=t' } :=
 I.laid (fun _ _ q=>Heap.get?_push_of_some _ q) (Nat.le_refl _) ⟨hz,its,0,hv,Heap.get?_push_size _ rfl⟩
theorem Inv.fresh(I:Inv X pins σ H s):H s.heap.objs.size=none:=I.hok.fresh (Nat.le_refl _)
theorem Inv.Qt(I:Inv X pins σ H s)(hH:H l=some (.lst xs)):xs.length<=sizeLine/\∃(its:List Value)(n:Nat),Vals xs its/\xs.length=its.length/\s.heap.get? l=some { cls:=.type "list",data:=.seq its.toArray n }:=by
 obtain⟨z,its,n,r,e⟩:=I.hok l _ hH
 exact⟨z,its,n,r,r.length,e⟩
theorem Yi{n:Nat}(h:n<=sizeLine):Builtin.List.listTooLong n=false:=by
 unfold Builtin.List.listTooLong
 exact decide_eq_false (by omega)
end
section
variable{X:Cx}
def aZ:V->List V->Hp->VK->Prop:=fun x vs H Q=>∃l xs y,x=.ref l/\vs=[y]/\H l=some (.lst xs)/\xs.length<sizeLine/\Q .non (upd H l (.lst (xs++[y])))
theorem Ig:MtM X "list.append" aZ:=by
 intro pins s σ H x vs v us Q I rx rv h
 obtain⟨l,xs,y,rfl,rfl,hH,hz,q⟩:=h
 cases rx
 obtain⟨u,rfl,ru⟩:=rv.one
 obtain⟨z,its,n,r,hl,e⟩:=I.Qt hH
 refine call_meets F.slot_list_append ⟨_,e,rfl⟩ F.entry_list_append (F.args_list_append_2 _ _) (PySem.list_append l its.toArray n u (by rw[List.size_toArray];omega)) ⟨e,?_⟩
 refine⟨.non,_,I.bW (its':=its++[u]) hH e (by simp) (r.append (.cons ru .nil)) ?_,rfl,q⟩
 rw[List.length_append,List.length_singleton]
 omega
def aY:V->List V->Hp->VK->Prop:=fun x vs H Q=>∃l b xs zs,x=.ref l/\vs=[.ref b]/\H l=some (.lst xs)/\H b=some (.lst zs)/\xs.length+zs.length<=sizeLine/\Q .non (upd H l (.lst (xs++zs)))
theorem gb:MtM X "list.extend" aY:=by
 intro pins s σ H x vs v us Q I rx rv h
 obtain⟨l,b,xs,zs,rfl,rfl,hH,hB,hz,q⟩:=h
 cases rx
 obtain⟨u,rfl,ru⟩:=rv.one
 cases ru
 obtain⟨z,its,n,r,hl,e⟩:=I.Qt hH
 obtain⟨z2,its2,n2,r2,hl2,e2⟩:=I.Qt hB
 have hsz:its.toArray.size+its2.toArray.size<=sizeLine:=by rw[List.size_toArray,List.size_toArray];omega
 have hlong:¬(!its.toArray.isEmpty&&Builtin.List.listTooLong (its.toArray.size+its2.toArray.size))=true:=by
  rw[Yi hsz,Bool.and_false]
  exact Bool.false_ne_true
 refine call_meets F.slot_list_extend ⟨_,e,rfl⟩ F.entry_list_extend (F.args_list_extend_2 _ _)
  (AutoSeq1.list_extend_list_list_0 l its.toArray n b its2.toArray n2 hlong (by rw[List.size_toArray];omega) (by omega)) ⟨e,e2,?_⟩
 refine⟨.non,_,I.bW (its':=its++its2) hH e (by simp) (r.append r2) ?_,rfl,q⟩
 rw[List.length_append]
 omega
def su:V->List V->Hp->VK->Prop:=fun x vs H Q=>∃l xs y,x=.ref l/\vs=[]/\H l=some (.lst xs)/\xs[xs.length-1]?=some y/\Q y (upd H l (.lst xs.dropLast))
theorem ur:MtM X "list.pop" su:=by
 intro pins s σ H x vs v us Q I rx rv h
 obtain⟨l,xs,y,rfl,rfl,hH,hy,q⟩:=h
 cases rx
 have hus:=rv.zero
 subst hus
 obtain⟨z,its,n,r,hl,e⟩:=I.Qt hH
 obtain⟨u,hu,ru⟩:=r.get hy
 have hy':its.toArray[its.toArray.size-1]?=some u:=by
  show its.toArray[its.length-1]?=some u
  rw[←Array.getElem?_toList,←hl]
  exact hu
 refine call_meets F.slot_list_pop ⟨_,e,rfl⟩ F.entry_list_pop (F.args_list_pop_1 _) (MeetsSeq.list_pop_last l its.toArray n u hy' (by rw[List.size_toArray];omega)) ⟨e,?_⟩
 refine⟨y,_,I.bW (its':=its.dropLast) hH e ?_ r.dropLast ?_,ru,q⟩
 .show its.toArray.eraseIdxIfInBounds (its.toArray.size-1)=its.dropLast.toArray
  rw[List.size_toArray,List.eraseIdxIfInBounds_toArray,dR]
 .rw[List.length_dropLast]
  omega
def dz:V->List V->Hp->VK->Prop:=fun x vs H Q=>∃l xs i k y,x=.ref l/\vs=[.int i]/\H l=some (.lst xs)/\-(2^63)<=i/\i<2^63/\seqIndex? i xs.length=some k/\xs[k]?=some y/\Q y (upd H l (.lst (xs.eraseIdx k)))
theorem lA:MtM X "list.pop" dz:=by
 intro pins s σ H x vs v us Q I rx rv h
 obtain⟨l,xs,i,k,y,rfl,rfl,hH,h1,h2,hk,hy,q⟩:=h
 cases rx
 obtain⟨u,rfl,ru⟩:=rv.one
 obtain⟨t,rfl⟩:=ru
 obtain⟨z,its,n,r,hl,e⟩:=I.Qt hH
 obtain⟨w,hw,rw'⟩:=r.get hy
 refine call_meets F.slot_list_pop ⟨_,e,rfl⟩ F.entry_list_pop (F.args_list_pop_2 _ _)
  (MeetsSeq.list_pop_at l its.toArray n i t k w (fitsIndex_both h1 h2) (by rw[List.size_toArray,←hl];exact hk) (by rw[←Array.getElem?_toList];exact hw) (by rw[List.size_toArray];omega)) ⟨e,?_⟩
 refine⟨y,_,I.bW (its':=its.eraseIdx k) hH e ?_ (r.eraseIdx k) ?_,rw',q⟩
 .show its.toArray.eraseIdxIfInBounds k=(its.eraseIdx k).toArray
  rw[List.eraseIdxIfInBounds_toArray]
 .have:=Wg xs k
  omega
def tL:R2:=fun x y H Q=>∃l b xs zs,x=.ref l/\y=.ref b/\H l=some (.lst xs)/\H b=some (.lst zs)/\xs.length+zs.length<=sizeLine/\∀p,H p=none->Q (.ref p) (upd H p (.lst (xs++zs)))
theorem uh:OpR X (binaryOp .Add) tL:=by
 intro pins s σ H x y v u Q I rx ry h
 obtain⟨l,b,xs,zs,rfl,rfl,hH,hB,hz,q⟩:=h
 cases rx
 cases ry
 obtain⟨z,its,n,r,hl,e⟩:=I.Qt hH
 obtain⟨z2,its2,n2,r2,hl2,e2⟩:=I.Qt hB
 refine PySem.P.add_list e e2 ?_ (by rw[List.size_toArray,List.size_toArray];omega)
 have ea:its.toArray++its2.toArray=(its++its2).toArray:=by simp
 rw[ea]
 exact⟨.ref _,_,I.tQ (t':=s.toks) (r.append r2) (by rw[List.length_append];omega),rfl,q _ I.fresh⟩
def sZ:R2:=fun x y H Q=>∃l k xs,x=.ref l/\y=.int k/\H l=some (.lst xs)/\-(2^63)<=k/\k<2^63/\xs.length*k.toNat<=sizeLine /\
 ∀p,H p=none->Q (.ref p) (upd H p (.lst (List.replicate k.toNat xs).flatten))
theorem len_rep{α:Type}(xs:List α)(k:Nat):(List.replicate k xs).flatten.length=k*xs.length:=by
 induction k with
 |zero=>simp
 |succ k ih=>rw[List.replicate_succ,List.flatten_cons,List.length_append,ih,Nat.succ_mul,Nat.add_comm]
theorem eH:OpR X (binaryOp .Mult) sZ:=by
 intro pins s σ H x y v u Q I rx ry h
 obtain⟨l,k,xs,rfl,rfl,hH,h1,h2,hz,q⟩:=h
 cases rx
 obtain⟨t,rfl⟩:=ry
 obtain⟨z,its,n,r,hl,e⟩:=I.Qt hH
 have hlen:its.toArray.size*k.toNat<=sizeLine:=by rw[List.size_toArray,←hl];exact hz
 have hcap:¬its.toArray.size*k.toNat>(2^63-1)/8:=by
  have:(sizeLine:Nat)<=(2^63-1)/8:=by decide
  omega
 have hfit:¬(!Builtin.List.listFitsIndex k)=true:=by
  rw[fitsIndex_both h1 h2]
  exact Bool.false_ne_true
 have hlong:¬Builtin.List.listTooLong (its.toArray.size*k.toNat)=true:=by
  rw[Yi hlen]
  exact Bool.false_ne_true
 have hnew:List.foldl (fun x1 x2=>x1++x2) #[] (List.replicate (if its.toArray.isEmpty=true then 0 else k.toNat) its.toArray)=(List.replicate k.toNat its).flatten.toArray:=by
  have f0:∀m:Nat,List.foldl (fun x1 x2=>x1++x2) #[] (List.replicate m its.toArray)=(List.replicate m its).flatten.toArray:=fun m=>by
   have:=foldl_rep its m []
   rw[List.nil_append] at this
   exact this
  rw[f0]
  cases its with
  |nil=>simp
  |cons a r'=>rw[if_neg (by simp)]
 refine wpAny_binaryOp_repeat_ref (T:="list") (U:="int") (by decide) ⟨_,e,rfl⟩ (fun s'=>typeIs_int s' k t) noFill_list_mul F.fills_int_mul F.slot_int_rmul repeat_list F.slot_int_index.lookup
  (call_meets F.slot_int_rmul (typeIs_int s k t) F.entry_int_rmul (F.args_int_rmul_2 _ _) (int___rmul___int_list k t l its.toArray n)
   ⟨e,rfl,⟨_,e,rfl⟩,call_meets F.slot_list_mul ⟨_,e,rfl⟩ F.entry_list_mul (F.args_list_mul_2 _ _) (AutoListH.list___mul___list_int_3 l its.toArray n k t hfit hcap hlong) ⟨e,?_⟩⟩)
 rw[hnew]
 exact⟨.ref _,_,I.tQ (t':=s.toks) (r.rep k.toNat) (by rw[len_rep,Nat.mul_comm];exact hz),rfl,q _ I.fresh⟩
end
section
variable{prog:Program}{w:World}{A:Around}{E:Value->Shared->Prop}{s:Shared}
set_option maxRecDepth 100000 in
end
section
variable{X:Cx}
end
end L2
namespace Att
open PySem PySem.W PySem.Calls PyProof.Rows
theorem Vm{P:Params}{h:Heap}:∀(ns:List Int)(vs:List Value),WellAll P h vs (ns.map WData.int)->IntsAre vs ns:=by
 intro ns
 induction ns with
 |nil =>
  intro vs w
  rw[List.map_nil] at w
  cases w
  exact .nil
 |cons n ns ih =>
  intro vs w
  rw[List.map_cons] at w
  cases w with
  |cons a b =>
   cases a
   exact .cons _ _ (ih _ b)
theorem gC{l:OpenLaw}{n:Nat}(hn:l.most=some n){P:Params}{h:Heap}{args:List WData}{vals:List Value}
  (hpre:l.row.toRowW.claim.pre args=true) (hwl:WellAll P h vals args) :
  ∃a vs ns,vals=[Value.ref a]/\args=[WData.list (ns.map WData.int)]/\h.get? a=some { cls:=.type "list",data:=.seq vs.toArray }/\IntsAre vs ns/\ns.length<=n:=by
 have hsh:WShape.hasAll [] args [.list .int]=true:=(pre_splitW hpre).1
 have hc:l.pre.holds [] { args:=args }=true:=(pre_splitW hpre).2
 obtain⟨d,r,rfl,h1,h2⟩:=hasAllW_cons hsh
 obtain rfl:=hasAllW_nil h2
 obtain⟨xs,rfl,h3⟩:=hasW_list h1
 obtain⟨ns,rfl⟩:=items_int h3
 have hlen:ns.length<=n:=by
  unfold OpenLaw.pre at hc
  have h4:(WTm.not (.lt (.lit (.int (n:Int))) (.len (.arg 0)))).holds [] { args:=[.list (ns.map .int)] }=true:=by
   have h4:=(holds_andW hc).1
   rw[hn] at h4
   exact h4
  have h5:=condW_of h4 (w_not (w_lt w_lit (w_len_list (w_arg rfl))))
  rw[List.length_map] at h5
  refine Nat.le_of_not_lt fun q=>?_
  have q':(n:Int)<((ns.length:Nat):Int):=by omega
  first
   |(rw[decide_eq_true q'] at h5;exact absurd h5 (by decide))
   |(simp at h5;omega)
 cases hwl with
 |cons w1 w2 =>
  cases w2
  cases w1 with
  |list ho hall=>exact⟨_,_,ns,rfl,rfl,ho,Vm ns _ hall,hlen⟩
theorem gJ(l:OpenLaw)(args:List WData):l.row.toRowW.claim.post args (.bool true) args=true :=
 postW_of (r:=l.row.toRowW) (X:=(true==true))
  (show WShape.has [] (.bool true) .bool=true by first|rfl|decide|simp[WShape.has,WShape.arms,WShape.armsAll])
  (show(WTm.eq .res (.lit (.bool true))).value [] { args:=args,res:=some (.bool true),after:=args }=some (.bool (true==true)) from w_eq_bool (w_res rfl) w_lit) rfl
theorem dD{R:WRecords}{cl:Str->Option Addr}{h:Heap}{a:Addr}{ds:List WData}{as:List Addr}(r:ReadsAllW R cl h [.ref a] [.list ds] as)(lo:∀b∈as,(b==sysModules)=false):a≠sysModules:=by
 cases r with
 |cons r1 _ =>
  cases r1 with
  |list _ _ _ _=>exact fun z=>by have:=lo a (by simp);rw[z] at this;simp at this
theorem aD{l:OpenLaw}{n:Nat}{q:Program}{loose:List Str}{XP:(Str->Option Value)->Heap->Prop}{YP:World->Heap->Prop}{d:DefRec}
  (hn:l.most=some n) (hdf:d.params.defaults=[])
  (call:∀(w:World)(s₀ s₁:Shared)(mg mb:Str->Option Value)(fa:Addr)(o:Obj)(pm cd doc:Value)(a:Addr)(vs:List Value)(ns:List Int),
   Ground q loose [] XP w s₀ mg mb s₁.heap->YP w s₁.heap ->
   s₁.heap.get? fa=some o->o.data=.func (docDef d.name d.params d.body d.scope pm cd doc)->s₁.heap.CodeRec cd d.name->mg d.name=some (.ref fa) ->
   s₁.heap.get? a=some { cls:=.type "list",data:=.seq vs.toArray }->IntsAre vs ns->ns.length<=n->a≠sysModules->s₁.gens=#[] ->
   codeAny (model l.prog w) callerA (.call (.ref fa) ⟨[.ref a],[]⟩) (fun r s'=>r=.ok (.ret (.bool true))/\OldK s₁.heap s'.heap/\s'.os=s₁.os/\AllBare s'.gens) s₁) :
  WalkO q loose XP YP l.row.toRowW d [] (fun f vs=>PySem.call f vs):=by
 intro w s₀ s₁ mg mb G Y fa o pm cd doc dV kV ho hd hcd hD hmg hg args vals as hpre hlay hrd hwl hlo
 obtain rfl:dV=.none:=Dflts.none hD hdf
 obtain rfl:kV=.none:=Dflts.noKw hD
 obtain⟨a,vs,ns,rfl,rfl,hobj,hints,hlen⟩:=gC hn hpre hwl
 refine enter_call (codeAny_mono (call w s₀ s₁ mg mb fa o pm cd doc a vs ns G Y ho (fd_plain hd) hcd hmg hobj hints hlen (dD hrd hlo) hg) fun r s' hq=>?_)
 obtain⟨rfl,h2,h3,h4⟩:=hq
 exact⟨.inl ⟨.bool true,.bool true,[],rfl,fun _=>rfl,.bool true,gJ l _,fun _=>⟨List.Pairwise.nil,fun _ hm=>(nomatch hm)⟩⟩,h2,h3,h4⟩
section
variable{prog:Program}{w:World}{A:Around}{E:Value->Shared->Prop}{s:Shared}{K:Frag}
end
end Att
namespace L2
open PySem PySem.Spec PyProof.Rows
theorem RK:∀{vs:List Value} {ns:List Int},IntsAre vs ns->Vals (ns.map V.int) vs
 |_,_,.nil=>.nil
 |_,_,.cons n t h=>.cons ⟨t,rfl⟩ (RK h)
def Only(H:Hp):Prop:=∀b,H b=none∨∃o xs,H b=some (.frz o (.lst xs))
theorem lK{P:Program}{w:World}{K:PySem.W.Frag}{mg mb:Str->Option Value}{CX:CXT}{k:Nat}{fa a:Addr}{fd:FuncData}{x:Str}{sp:Sp}{s₁:Shared}{vs:List Value}{ns:List Int}
  (KX:K.In s₁.heap) (hns:s₁.heap.Ns mainGlobals mg) (hb:s₁.heap.Ns builtinsNs mb) (hbb:∀x:Str,x≠"__name__"->mb x=bootBuiltins x) (hlim:s₁.heap.NoLimit) (hg:s₁.gens=#[])
  (ha:s₁.heap.get? a=some { cls:=.type "list",data:=.seq vs.toArray }) (hi:IntsAre vs ns) (hl:ns.length<=sizeLine) (hasy:a≠sysModules) (hr:Fj k callerA)
  (F:∀base:Heap,K.In base->base.Ns mainGlobals mg->Cp P w K mg base CX k fa fd [x] sp) (hbind:∀(s:Shared)(u:Value),BindsTo s fd ⟨[u],[]⟩ [(x,u)])
  (hsp:∀H:Hp,Only H->SqL K H a (ns.map V.int)->sp [.ref a] H (fun v _=>v=.bl true) fun _ _ _=>False)
  (hCX:∀H e s',CX [] H s₁ (fun _ _ _=>False) e s'->False) :
  codeAny (model P w) callerA (.call (.ref fa) ⟨[.ref a],[]⟩) (fun r s'=>r=.ok (.ret (.bool true))/\OldK s₁.heap s'.heap/\s'.os=s₁.os/\AllBare s'.gens) s₁:=by
 have rv:=RK hi
 have lenV:=hi.length
 -- from an abstract heap in which nothing but the script may be tracked
 have core:∀H:Hp,Only H->SqL K H a (ns.map V.int)->HOk P w H s₁.heap->(∀b,H b≠none->b=a)->(H a≠none->K.lookup a=none) ->
   codeAny (model P w) callerA (.call (.ref fa) ⟨[.ref a],[]⟩) (fun r s'=>r=.ok (.ret (.bool true))/\OldK s₁.heap s'.heap/\s'.os=s₁.os/\AllBare s'.gens) s₁:=by
  intro H hO hS hok hA hK
  have base_of:∀{b:Addr} {o:Obj},s₁.heap.get? b=some o->H b=none->(QJ s₁.heap H).get? b=some o:=fun e n=>m9 e n
  have noA:∀{b:Addr} {o:Obj} {es:Array DictEntry} {ep:Nat},s₁.heap.get? b=some o->o.data=.dict es ep->H b=none:=fun {b o es ep} e d=>by
   cases q:H b with
   |none=>rfl
   |some u =>
    have e':b=a:=hA b (by rw[q];simp)
    subst e'
    rw[ha] at e;cases e
    have d':Data.seq vs.toArray _=Data.dict es ep:=d
    cases d'
  have nsK:∀{b:Addr} {m:Str->Option Value},s₁.heap.Ns b m->(QJ s₁.heap H).Ns b m:=fun {b m} ⟨o,es,ep,e,d,r⟩=>⟨o,es,ep,base_of e (noA e d),d,r⟩
  have hKb:K.In (QJ s₁.heap H):=fun b o e=>base_of (KX b o e) (by
   cases q:H b with
   |none=>rfl
   |some u =>
    have e':b=a:=hA b (by rw[q];simp)
    subst e'
    rw[hK (by rw[q];simp)] at e;cases e)
  have hM:Mod K mg (QJ s₁.heap H):=⟨hKb,nsK hns,⟨mb,nsK hb,hbb⟩,let ⟨mc,h1,h2⟩:=hlim;⟨mc,nsK h1,h2⟩⟩
  have e0:cD P w K mg (QJ s₁.heap H) callerA [] s₁ H:=⟨rfl,hM,fun b o e=>pO e,Nat.le_of_eq (iK _ _),trivial,fun b hb=>absurd (show b∈([]:List Addr) from hb) (by simp),hok,.of_eq hg,Classical.byContradiction fun z=>hasy (hA _ z).symm⟩
  refine codeAny_mono ((F _ hKb (nsK hns)).run callerA [] s₁ H ⟨[.ref a],[]⟩ [.ref a] [.ref a] _ _ hr e0 (hbind s₁ (.ref a)) (.cons rfl .nil) (hsp H hO hS)) fun r s' h=>?_
  cases r with
  |error e=>exact(hCX H e s' h).elim
  |ok fl =>
   cases fl with
   |next=>exact False.elim h
   |brk=>exact False.elim h
   |cont=>exact False.elim h
   |ret u =>
    obtain⟨v,H',os,bare,un,hok',r',q⟩:=h
    have q':v=.bl true:=q
    subst q'
    obtain rfl:u=Value.bool true:=r'
    refine⟨rfl,OldK.of_keep fun b o e=>?_,os,bare⟩
    cases q:H b with
    |none=>exact un.keep b o e q (by intro z;exact absurd (show b∈([]:List Addr) from z) (by simp)) (by simp)
    |some u =>
     rcases hO b with z|⟨ob,xs,z⟩
     .rw[q] at z;cases z
     .have z2:=un.frzs b ob _ z
      obtain⟨e1,_⟩:=hok b _ z
      obtain⟨e2,_⟩:=hok' b _ z2
      rw[e] at e1;cases e1
      exact e2
 cases hk:K.lookup a with
 |some o =>
  -- the script is one of the module's own objects
  have e:=KX a o hk
  rw[ha] at e
  cases e
  refine core (fun _=>none) (fun _=>.inl rfl) (.inr ⟨_,vs.toArray,_,hk,rfl,rfl,rfl,by rw[List.size_toArray,lenV];exact hl,by simpa using rv⟩) (fun b u z=>by have z':(none:Option HO)=some u:=z;cases z') (fun b z=>absurd rfl z) fun z=>absurd rfl z
 |none =>
  refine core (fun b=>if b=a then some (.frz { cls:=.type "list",data:=.seq vs.toArray } (.lst (ns.map V.int))) else none) (fun b=>?_) (.inl (.inr ⟨{ cls:=.type "list",data:=.seq vs.toArray },if_pos rfl⟩)) (fun b u z=>?_) (fun b z=>?_) fun _=>hk
  .by_cases hb:b=a
   .exact .inr ⟨_,_,if_pos hb⟩
   .exact .inl (if_neg hb)
  .by_cases hb:b=a
   .have z':=(if_pos hb).symm.trans z
    cases z'
    subst hb
    exact⟨ha,by rw[List.length_map];exact hl,vs,_,rv,ha⟩
   .have z':=(if_neg hb).symm.trans z
    cases z'
  .by_cases hb:b=a
   .exact hb
   .exact absurd (if_neg hb) z
end L2
namespace L2
open PySem PySem.Spec PyProof.Rows
abbrev KOf{K:PySem.W.Frag}{h:Heap}(_:K.In h):PySem.W.Frag:=K
theorem walk_of{l:PySem.W.OpenLaw}{n k:Nat}{q:Program}{loose:List Str}{XP:(Str->Option Value)->Heap->Prop}{YP:World->Heap->Prop}{d:DefRec}{K:Params->PySem.W.Frag}{CX:World->CXT}{sp:World->Sp}{x:Str}
  (hn:l.most=some n) (hn2:n<=sizeLine) (hdf:d.params.defaults=[]) (hr:Fj k callerA)
  (hY:∀(w:World)(h:Heap),YP w h->(K w.params).In h)
  (F:∀(w:World)(mg:Str->Option Value)(fa:Addr)(h:Heap),(K w.params).In h->h.Ns mainGlobals mg->mg d.name=some (.ref fa) ->
   ∃fd:FuncData,(∀(s:Shared)(u:Value),BindsTo s fd ⟨[u],[]⟩ [(x,u)]) /\
    ∀base:Heap,(K w.params).In base->base.Ns mainGlobals mg->Cp l.prog w (K w.params) mg base (CX w) k fa fd [x] (sp w))
  (hsp:∀(w:World)(H:Hp)(a:Addr)(ns:List Int),ns.length<=n->Only H->SqL (K w.params) H a (ns.map V.int)->sp w [.ref a] H (fun v _=>v=.bl true) fun _ _ _=>False)
  (hCX:∀(w:World)(H:Hp)(s:Shared)(e:Value)(s':Shared),CX w [] H s (fun _ _ _=>False) e s'->False) :
  PySem.W.WalkO q loose XP YP l.row.toRowW d [] (fun f vs=>PySem.call f vs):=by
 refine Att.aD hn hdf fun w s₀ s₁ mg mb fa o pm cd doc a vs ns G Y ho hd hcd hmg hobj hints hlen hasy hg=>?_
 have KX:=hY w _ Y
 obtain⟨fd,hb,hF⟩:=F w mg fa _ KX G.T.g hmg
 exact lK KX G.T.g G.T.b G.T.builtins G.T.nolimit hg hobj hints (Nat.le_trans hlen hn2) hasy hr hF hb (fun H hO hS=>hsp w H a ns hlen hO hS) fun H e s'=>hCX w H s₁ e s'
theorem jK{l:PySem.W.OpenLaw}{n k:Nat}{q:Program}{loose:List Str}{XP:(Str->Option Value)->Heap->Prop}{YP:World->Heap->Prop}{d:DefRec}{K:Params->PySem.W.Frag}{CX:CXT}{sp:PySem.W.Frag->Sp}{x:Str}
  (hn:l.most=some n) (hn2:n<=sizeLine) (hdf:d.params.defaults=[]) (hr:Fj k callerA)
  (hY:∀(w:World)(h:Heap),YP w h->(K w.params).In h)
  (F:∀(w:World)(mg:Str->Option Value)(fa:Addr)(h:Heap),(K w.params).In h->h.Ns mainGlobals mg->mg d.name=some (.ref fa) ->
   ∃fd:FuncData,(∀(s:Shared)(u:Value),BindsTo s fd ⟨[u],[]⟩ [(x,u)]) /\
    ∀base:Heap,(K w.params).In base->base.Ns mainGlobals mg->Cp l.prog w (K w.params) mg base CX k fa fd [x] (sp (K w.params)))
  (hsp:∀(K:PySem.W.Frag)(H:Hp)(a:Addr)(ns:List Int),ns.length<=n->Only H->SqL K H a (ns.map V.int)->sp K [.ref a] H (fun v _=>v=.bl true) fun _ _ _=>False)
  (hCX:∀(H:Hp)(s:Shared)(e:Value)(s':Shared),CX [] H s (fun _ _ _=>False) e s'->False) :
  PySem.W.WalkO q loose XP YP l.row.toRowW d [] (fun f vs=>PySem.call f vs) :=
 walk_of (K:=K) (CX:=fun _=>CX) (sp:=fun w=>sp (K w.params)) hn hn2 hdf hr hY F (fun w H a ns h1 h2 h3=>hsp (K w.params) H a ns h1 h2 h3) fun _ H s e s'=>hCX H s e s'
end L2
/- THE LAST THEOREM (shape; LID, My.* are yours):
   My.Adr: a structure of the addresses that your layer names (classes, functions); My.Txt K t: a structure (Prop) of the equations over K;
   My.txt_mk : {K} {implicit addresses ..} (e1 : nsIn K mainGlobals "law" = some (some (.ref f))) (e2 : K.lookup f = some ⟨oc, od, .func (fnOf "law" "law" params body scope dV kV doc pm an cdv ct), sl⟩) (e3 : codeIn K cdv "law" = true) .. : ∃ t, My.Txt K t

set_option maxRecDepth 100000 in
set_option maxHeartbeats 0 in
theorem PySem.Challenge.cw_LID_holds : PySem.Challenge.rw_LID.Holds := by
  w_on; o_law; k_head; (case hw => w_witness2)
  k_fill
  refine L2.walk_of (l := PySem.Challenge.rw_LID) (n := 63) (k := 40) (x := "script") (CX := fun w => ..) (sp := fun _ => My.sp_law) rfl (by decide) rfl ⟨rfl, by decide, by decide⟩ (fun w h Y => PySem.W.kIn_of Y) ?F ?S ?C
  case F =>
    intro w mg fa h KX G hmg
    have T : ∃ t, My.Txt (L2.KOf KX) t := by
      dsimp only [L2.KOf]                          -- K must stand as «<heap const> w.params» for k_is
      refine' My.txt_mk ?e1 ?e2 ?e3 ..
      (case e1 => PySem.W.k_is)                    -- in the order: a name -> its address -> its object -> its parts
      (case e2 => PySem.W.k_is)
      ..
    obtain ⟨t, T⟩ := T
    have e0 := hmg.symm.trans (PySem.W.mg_of KX G T.law)
    cases e0                                       -- fa is the law's own address
    exact ⟨_, fun s u => .of_eq rfl, fun base kb nb => My.law_fn T kb nb⟩     -- if «.of_eq rfl» comes too early: refine' ⟨_, ?b, fun base kb nb => My.law_fn T kb nb⟩; exact fun s u => .of_eq rfl
  case S => exact fun w H a ns hl hO hS => ..
  case C => exact ..
(the tactic k_is has no namespace: write k_is) -/
namespace L2
open PySem PySem.Spec PyProof.Rows
def Bv(s:Stmt):Arguments:=match s with
 |.FunctionDef _ a _ _ _ _ _ _ _ _=>a
 |_=>{ posonlyargs:=[],args:=[],vararg:=none,kwonlyargs:=[],kw_defaults:=[],kwarg:=none,defaults:=[] }
def Bq(s:Stmt):List Stmt:=match s with
 |.FunctionDef _ _ b _ _ _ _ _ _ _=>b
 |_=>[]
def Aj(s:Stmt):Scope:=match s with
 |.FunctionDef _ _ _ _ _ _ sc _ _ _=>sc
 |_=>{ kind:=.function,names:=[],isGenerator:=false,isCoroutine:=false }
abbrev CX0:CXT:=fun _ _ _ _ _ _=>False
abbrev E0:XK:=fun _ _ _=>False
theorem xH{X:Cx}:Passes CX0 X E0:=fun _ _ _ _ _ _ _ h=>h.elim
structure Fun(K:PySem.W.Frag)(x qual:Str)(st:Stmt)(f:Addr)(fd:FuncData):Prop where
 ex:∃(oc:Value)(od:Option Addr)(kV doc pm:Value)(an:Option Addr)(cdv ct:Value)(osl:Array (Option Value)),
  fd=PySem.W.fnOf x qual (Bv st) (Bq st) (Aj st) .none kV doc pm an cdv ct/\K.lookup f=some ⟨oc,od,.func fd,osl⟩/\PySem.W.codeIn K cdv qual=true
 kp:PySem.W.keepIn K (.ref f)=true
section
variable{P:Program}{w:World}{K:PySem.W.Frag}{mg:Str->Option Value}{base:Heap}
theorem Fun.ok{x qual:Str}{st:Stmt}{f:Addr}{fd:FuncData}{N ps:List Str}{k:Nat}{sp:Sp}(F:Fun K x qual st f fd)(S:Bw N ps (Aj st))(len:∀vs H Q E,sp vs H Q E->vs.length=ps.length)
  (hbody:∀(cdv:Value)(A:Around)(outer:List Env)(s:Shared)(H:Hp)(vs:List V)(Q:VK)(E:XK),Fj k (A.deeper (envOfC qual (Aj st) s.heap.objs.size f cdv))->sp vs H Q E ->
   ∃t,PSs (Qu CX0 P w K mg base N qual (Aj st) f cdv A outer s H E).nox (Bq st) t/\t { nx:=fun _ H'=>Q .non H',rt:=Q } (start N vs) H):Cp P w K mg base CX0 (k+1) f fd ps sp:=by
 obtain⟨oc,od,kV,doc,pm,an,cdv,ct,osl,rfl,lk,hcd⟩:=F.ex
 refine xZ lk hcd S len fun A outer s H vs Q E hr hsp=>?_
 obtain⟨t,h,q⟩:=hbody cdv A outer s H vs Q E hr hsp
 exact⟨t,h.nox,q⟩
theorem Fun.binds{x qual:Str}{st:Stmt}{f:Addr}{fd:FuncData}{ps:List Str}(F:Fun K x qual st f fd)
  (h:∀(kV doc pm:Value)(an:Option Addr)(cdv ct:Value)(us:List Value),us.length=ps.length->bindArgs (PySem.W.fnOf x qual (Bv st) (Bq st) (Aj st) .none kV doc pm an cdv ct) ⟨us,[]⟩=pure (ps.zip us)):Binds K fd ps []:=by
 obtain⟨oc,od,kV,doc,pm,an,cdv,ct,osl,rfl,lk,hcd⟩:=F.ex
 exact .all (h kV doc pm an cdv ct)
theorem DQ{x qual:Str}{st:Stmt}{f:Addr}{oc:Value}{od an:Option Addr}{osl:Array (Option Value)}{kV doc pm cdv ct:Value}(l:K.lookup f=some ⟨oc,od,.func (PySem.W.fnOf x qual (Bv st) (Bq st) (Aj st) .none kV doc pm an cdv ct),osl⟩)
  (c:PySem.W.codeIn K cdv qual=true) (k:PySem.W.keepIn K (.ref f)=true):Fun K x qual st f (PySem.W.fnOf x qual (Bv st) (Bq st) (Aj st) .none kV doc pm an cdv ct):=⟨⟨oc,od,kV,doc,pm,an,cdv,ct,osl,rfl,l,c⟩,k⟩
end
theorem WT{n:Nat}(h:n<=1000):n<sizeLine:=Nat.lt_of_le_of_lt h (by decide)
section
variable{X:Cx}
theorem pv(i:Nat){x:Str}{pos:Pos}(hN:X.N[i]?=some x:=by rfl)(hv:Vis X.env.scope x:=by first|exact Or.inl rfl|exact Or.inr (Or.inl rfl)|exact Or.inr (Or.inr rfl))(hd:(x==("__debug__":Str))=false:=by decide)
  (hcd:(x==("__classdict__":Str))=false:=by decide):PE X (.Name x pos) (sG i):=eF hN hv hd hcd
end
def Same(H H':Hp):Prop:=∀b o,H b=some o->H' b=some o
theorem Same.refl(H:Hp):Same H H:=fun _ _ h=>h
theorem Same.free{H H':Hp}(e:Same H H'){l:Addr}(h:H' l=Option.none):H l=Option.none:=by
 cases q:H l with
 |none=>rfl
 |some o =>
  rw[e l o q] at h
  cases h
end L2
end
section
namespace SetP
open PySem
def KY(xs:Array Nat):Prop:=xs.toList.Pairwise (·<·)
theorem jr:KY #[]:=List.Pairwise.nil
theorem cV(n:Nat):KY (Array.range n):=by
 unfold KY
 rw[Array.toList_range]
 exact List.pairwise_lt_range
theorem KY.lt{xs:Array Nat}(h:KY xs){i k:Nat}(hik:i<k)(hk:k<xs.size):xs.getD i 0<xs.getD k 0:=by
 have q:=List.pairwise_iff_getElem.mp h i k (by rw[Array.length_toList];omega) (by rw[Array.length_toList];exact hk) hik
 rw[Array.getD_eq_getD_getElem?,Array.getD_eq_getD_getElem?,Array.getElem?_eq_getElem (by omega),Array.getElem?_eq_getElem hk]
 simpa using q
theorem KY.le{xs:Array Nat}(h:KY xs){i k:Nat}(hik:i<=k)(hk:k<xs.size):xs.getD i 0<=xs.getD k 0:=by
 rcases Nat.lt_or_eq_of_le hik with z|z
 .exact Nat.le_of_lt (h.lt z hk)
 .rw[z];exact Nat.le_refl _
theorem W0{xs:Array Nat}{j:Nat}(h:KY xs):∀(fuel lo hi:Nat),lo<=hi->hi<=xs.size->hi-lo<=fuel->(∀i,i<lo->xs.getD i 0<j)->(∀i,hi<=i->i<xs.size->j<=xs.getD i 0) ->
  SetTable.below.go xs j fuel lo hi<=xs.size/\(∀i,i<SetTable.below.go xs j fuel lo hi->xs.getD i 0<j)/\∀i,SetTable.below.go xs j fuel lo hi<=i->i<xs.size->j<=xs.getD i 0
 |0,lo,hi,h1,h2,h3,h4,h5=>by
  have e:lo=hi:=by omega
  subst e
  unfold SetTable.below.go
  exact⟨h2,h4,h5⟩
 |fuel+1,lo,hi,h1,h2,h3,h4,h5=>by
  unfold SetTable.below.go
  by_cases hlt:lo<hi
  .rw[if_pos hlt]
   have hm:(lo+hi)/2<hi:=by omega
   have hl:lo<=(lo+hi)/2:=by omega
   have e:xs.getD ((lo+hi)/2) j=xs.getD ((lo+hi)/2) 0:=by
    rw[Array.getD_eq_getD_getElem?,Array.getD_eq_getD_getElem?,Array.getElem?_eq_getElem (by omega)]
    rfl
   dsimp only
   rw[e]
   by_cases hc:xs.getD ((lo+hi)/2) 0<j
   .rw[if_pos hc]
    exact W0 h fuel _ hi (by omega) h2 (by omega) (fun i hi'=>Nat.lt_of_le_of_lt (h.le (by omega) (by omega)) hc) h5
   .rw[if_neg hc]
    exact W0 h fuel lo _ (by omega) (by omega) (by omega) h4 (fun i hi' hs=>Nat.le_trans (Nat.le_of_not_lt hc) (h.le hi' hs))
  .rw[if_neg hlt]
   have e:lo=hi:=by omega
   subst e
   exact⟨h2,h4,h5⟩
theorem Qk{xs:Array Nat}{j:Nat}(h:KY xs):SetTable.below xs j<=xs.size/\(∀i,i<SetTable.below xs j->xs.getD i 0<j)/\∀i,SetTable.below xs j<=i->i<xs.size->j<=xs.getD i 0:=by
 unfold SetTable.below
 exact W0 h xs.size 0 xs.size (Nat.zero_le _) (Nat.le_refl _) (by omega) (fun i hi=>absurd hi (Nat.not_lt_zero _)) fun i h1 h2=>absurd h2 (by omega)
theorem Vd{xs:Array Nat}(h:KY xs){i:Nat}(hi:i<xs.size):SetTable.below xs (xs.getD i 0+1)=i+1:=by
 obtain⟨a,b,c⟩:=Qk (j:=xs.getD i 0+1) h
 generalize SetTable.below xs (xs.getD i 0+1)=r at a b c
 rcases Nat.lt_trichotomy r (i+1) with z|z|z
 .have:=c i (by omega) hi;omega
 .exact z
 .have h1:=b (i+1) z
  have h2:xs.getD i 0<xs.getD (i+1) 0:=h.lt (Nat.lt_succ_self i) (by omega)
  omega
theorem Vc{xs:Array Nat}(h:KY xs):SetTable.below xs 0=0:=by
 obtain⟨a,b,c⟩:=Qk (j:=0) h
 generalize SetTable.below xs 0=r at a b c
 cases r with
 |zero=>rfl
 |succ r=>exact absurd (b 0 (by omega)) (Nat.not_lt_zero _)
theorem Zg{xs:Array Nat}{j:Nat}(h:KY xs)(hn:xs[SetTable.below xs j]?≠some j):KY (SetTable.insertAt xs (SetTable.below xs j) j):=by
 obtain⟨a,b,c⟩:=Qk (j:=j) h
 unfold KY
 rw[SetTable.toList_insertAt]
 generalize SetTable.below xs j=p at a b c hn
 have getT:∀i,i<xs.size->xs.toList[i]?=some (xs.getD i 0):=fun i hi=>by
  rw[Array.getElem?_toList,Array.getD_eq_getD_getElem?,Array.getElem?_eq_getElem hi];rfl
 refine List.pairwise_append.mpr ⟨h.sublist (List.take_sublist _ _),List.pairwise_cons.mpr ⟨fun y hy=>?_,h.sublist (List.drop_sublist _ _)⟩,fun x hx y hy=>?_⟩
 .obtain⟨i,hi⟩:=List.mem_iff_getElem?.mp hy
  rw[List.getElem?_drop] at hi
  have hlt:p+i<xs.size:=by
   have:=(List.getElem?_eq_some_iff.mp hi).1
   rwa [Array.length_toList] at this
  rw[getT _ hlt] at hi
  have e:=Option.some.inj hi
  have h1:=c (p+i) (Nat.le_add_right _ _) hlt
  rw[←e]
  rcases Nat.lt_or_eq_of_le h1 with z|z
  .exact z
  .exfalso
   have hp:p<xs.size:=by omega
   have h2:=c p (Nat.le_refl _) hp
   have h3:=h.le (Nat.le_add_right p i) hlt
   have h4:xs.getD p 0=j:=by omega
   apply hn
   have:=getT p hp
   rw[Array.getElem?_toList] at this
   rw[this,h4]
 .have hxj:x<j:=by
   obtain⟨i,hi⟩:=List.mem_iff_getElem?.mp hx
   have hip:i<p:=by
    have:=(List.getElem?_eq_some_iff.mp hi).1
    rw[List.length_take] at this;omega
   rw[List.getElem?_take_of_lt hip] at hi
   have hlt:i<xs.size:=by
    have:=(List.getElem?_eq_some_iff.mp hi).1
    rwa [Array.length_toList] at this
   rw[getT _ hlt] at hi
   rw[←Option.some.inj hi]
   exact b i hip
  rcases List.mem_cons.mp hy with z|z
  .rw[z];exact hxj
  .obtain⟨i,hi⟩:=List.mem_iff_getElem?.mp z
   rw[List.getElem?_drop] at hi
   have hlt:p+i<xs.size:=by
    have:=(List.getElem?_eq_some_iff.mp hi).1
    rwa [Array.length_toList] at this
   rw[getT _ hlt] at hi
   rw[←Option.some.inj hi]
   exact Nat.lt_of_lt_of_le hxj (c (p+i) (Nat.le_add_right _ _) hlt)
def Off(t:SetTable)(j:Nat):Prop:=t.place[SetTable.below t.place j]?≠some j
theorem T4{t:SetTable}{j:Nat}(h:∀i,t.slot j≠.live i):Off t j:=fun e=>by
 apply h (SetTable.below t.place j)
 unfold SetTable.slot
 dsimp only
 rw[e]
 simp
theorem RX{t:SetTable}{f:Nat->Int}{h:Int}{j:Nat}{d:Option Nat}:∀(fuel:Nat)(p:SetTable.Probe),(∀d,p.dummy=some d->Off t d)->SetTable.probe.go t f h fuel p=some (.empty j d)->Off t j/\∀d',d=some d'->Off t d'
 |0,_,_,e=>by unfold SetTable.probe.go at e;cases e
 |fuel+1,p,hp,e=>by
  unfold SetTable.probe.go at e
  cases hs:t.slot p.j with
  |empty =>
   rw[hs] at e
   have e':=Option.some.inj e
   cases e'
   exact⟨T4 (fun i z=>by rw[hs] at z;exact SetTable.Slot.noConfusion z),hp⟩
  |dummy =>
   rw[hs] at e
   refine RX fuel _ (fun d' hd=>?_) e
   have hd':(t.advance { p with dummy:=some p.j }).dummy=some p.j:=by
    unfold SetTable.advance;dsimp only;split<;>rfl
   rw[hd'] at hd
   cases hd
   exact T4 fun i z=>by rw[hs] at z;cases z
  |live i =>
   rw[hs] at e
   dsimp only at e
   split at e
   .cases e
   .refine RX fuel _ (fun d' hd=>hp d' ?_) e
    rw[←hd]
    unfold SetTable.advance
    split<;>rfl
theorem ZQ{t:SetTable}{h:Int}{j:Nat}{b:Bool}(e:t.freeSlot h=some (j,b)):Off t j:=by
 unfold SetTable.freeSlot at e
 split at e
 .rename_i j' d q
  unfold SetTable.probe at q
  obtain⟨o1,o2⟩:=RX _ _ (fun d hd=>by unfold SetTable.probeStart at hd;cases hd) q
  have e':=Option.some.inj e
  cases d with
  |none=>cases e';exact o1
  |some d=>cases e';exact o2 _ rfl
 .cases e
def TabOk(L:Bool)(t:SetTable):Prop:=KY t.place/\t.led=L
theorem TabOk.fresh(L:Bool)(f m:Nat):TabOk L (.fresh f m L):=⟨jr,rfl⟩
theorem TabOk.standIn{L:Bool}{t:SetTable}(h:TabOk L t)(n:Nat):TabOk L (t.standIn n):=⟨cV n,h.2⟩
theorem TabOk.orStandIn{L:Bool}{t:SetTable}(h:TabOk L t)(n:Nat):TabOk L (t.orStandIn n):=by
 unfold SetTable.orStandIn
 split
 .exact h
 .exact h.standIn n
theorem TabOk.nq{L:Bool}{t:SetTable}(h:TabOk L t)(b:Bool):TabOk L { t with plain:=b }:=h
theorem dH{L:Bool}{t:SetTable}(h:TabOk L t)(es:Array (Int×Value))(k:Int)(x:Value):TabOk L (layNew t es k x).2.1:=by
 unfold layNew
 split
 .rename_i slot wasDummy q
  exact TabOk.orStandIn (t:=(t.put slot).1) ⟨Zg h.1 (ZQ q),h.2⟩ _
 .exact h.standIn _
theorem Tw{α:Type}(g:Nat->Option α):∀l:List Nat,List.Sublist ((l.filterMap fun j=>(g j).map (j,·)).map (·.1)) l
 |[]=>List.Sublist.slnil
 |j::r=>by
  rw[List.filterMap_cons]
  cases hg:g j with
  |none=>exact(Tw g r).cons j
  |some a=>exact(Tw g r).cons_cons j
theorem ZF{L:Bool}{t:SetTable}(h:TabOk L t)(es:Array (Int×Value))(n:Nat):TabOk L (relayAll t es n).2.1:=by
 unfold relayAll
 split
 .rename_i t' order q
  dsimp only
  split
  .unfold SetTable.relaid SetTable.laid at q
   cases ho:SetTable.layClean (SetTable.sizeAbove n-1) (es.map (·.1)) with
   |none=>rw[ho] at q;cases q
   |some owner =>
    rw[ho] at q
    have q':=Option.some.inj q
    cases q'
    refine⟨?_,h.2⟩
    show List.Pairwise (·<·) (List.toArray _).toList
    exact List.pairwise_lt_range.sublist (Tw (fun j=>owner.getD j none) _)
  .exact h.standIn _
 .exact h.standIn _
end SetP
end
section
set_option maxRecDepth 100000
namespace SetP
open PySem PyProof.Rows
abbrev Oh(w:World):Bool:=!(w.params.followText "set-order")
structure SetT(prog:Program)(w:World)(h:Heap)(a:Addr)(ds:List Int):Prop where
 nd:ds.Nodup
 ex:∃o es ep t,h.get? a=some o/\o.ExactSet/\o.data=.set es ep t/\ElemsOf (intKind prog w) es.toList/\(∀k,decide (k∈ds)=true↔∃e∈es.toList,(intKind prog w).is k e.2=true) /\
  es.size<scanBound/\t.fits es.size=true/\es.size=ds.length/\TabOk (Oh w) t
def Gb(ds:List Int)(k:Int):List Int:=if k∈ds then ds else ds++[k]
theorem Ub{ds:List Int}(h:ds.Nodup)(k:Int):(Gb ds k).Nodup:=by
 unfold Gb
 split
 .exact h
 .rename_i hk
  exact List.nodup_append.mpr ⟨h,by simp,fun a ha b hb=>by rw[List.mem_singleton] at hb;subst hb;rintro rfl;exact hk ha⟩
theorem Wf{ds:List Int}{k j:Int}:j∈Gb ds k↔j∈ds∨j=k:=by
 unfold Gb
 split
 .rename_i hk
  exact⟨.inl,fun z=>z.elim id fun e=>e ▸ hk⟩
 .rw[List.mem_append,List.mem_singleton]
theorem iz(ds:List Int)(k:Int):(Gb ds k).length<=ds.length+1:=by
 unfold Gb
 split
 .omega
 .rw[List.length_append,List.length_singleton];omega
section
variable{prog:Program}{w:World}{A:Around}{E:Value->Shared->Prop}{s:Shared}
theorem SetT.sameBut{h h':Heap}{a:Addr}{ds:List Int}(x:SetT prog w h a ds)(hs:∀o,h.get? a=some o->h'.get? a=some o):SetT prog w h' a ds:=by
 obtain⟨nd,o,es,ep,t,e,r⟩:=x
 exact⟨nd,o,es,ep,t,hs o e,r⟩
theorem SetT.stored{h:Heap}{a:Addr}{o:Obj}{es es':Array (Int×Value)}{ep:Nat}{t t':SetTable}{ds:List Int}(ho:h.get? a=some o)(hex:o.ExactSet)(hd:o.data=.set es ep t)(nd:ds.Nodup)
  (hel:ElemsOf (intKind prog w) es'.toList) (hm:∀k,decide (k∈ds)=true↔∃e∈es'.toList,(intKind prog w).is k e.2=true) (hb:es'.size<scanBound) (hf:t'.fits es'.size=true) (hn:es'.size=ds.length) (ht:TabOk (Oh w) t') :
  (h.update a (Obj.putSet es' t')).get? a=some { o with data:=.set es' (ep+1) t' }/\SetT prog w (h.update a (Obj.putSet es' t')) a ds:=by
 obtain⟨g,_⟩:=SetOf_store (knd:=intKind prog w) ho hex hd hel hm hb hf
 exact⟨g,nd,_,es',ep+1,t',g,hex,rfl,hel,hm,hb,hf,hn,ht⟩
theorem XC{g:Bool->Sem Unit}(hg:∀(b:Bool)(s₁:Shared)(Q':Unit->Shared->Prop),Q' () s₁->wpAny (model prog w) A (g b) Q' E s₁)
  {a:Addr} {o:Obj} {es es1:Array (Int×Value)} {ep:Nat} {t t2:SetTable} {ds:List Int} (ho:s.heap.get? a=some o) (hex:o.ExactSet) (hd:o.data=.set es ep t) (nd:ds.Nodup)
  (hel:ElemsOf (intKind prog w) es1.toList) (hm:∀k,decide (k∈ds)=true↔∃e∈es1.toList,(intKind prog w).is k e.2=true) (hb:es1.size<scanBound) (hf:t2.fits es1.size=true) (hn:es1.size=ds.length) (ht:TabOk (Oh w) t2)
  {dummy:Bool} {R:Option Bool->Shared->Prop} (h:∀h',Heap.SameBut a s.heap h'->SetT prog w h' a ds->R (some true) { s with heap:=h' }) :
  wpAny (model prog w) A (do
    storeSet a es1 t2
    if (!dummy&&t2.tooFull)=true then do
      g (relayAll t2 es1 (SetTable.grown es1.size)).2.2
      storeSet a (relayAll t2 es1 (SetTable.grown es1.size)).1 (relayAll t2 es1 (SetTable.grown es1.size)).2.1
      pure (some true)
     else pure (some true)) R E s:=by
 obtain⟨g1,T1⟩:=SetT.stored (prog:=prog) (w:=w) ho hex hd nd hel hm hb hf hn ht
 have sb1:=Heap.SameBut.update s.heap a (Obj.putSet es1 t2)
 refine wpAny_bind (wpAny_storeSet_of ho hd ?_ (fits_of_scanBound hb))
 split
 .have p:=relayAll_perm t2 es1 (SetTable.grown es1.size)
  have f:=relayAll_fits t2 es1 (SetTable.grown es1.size)
  have tb:=ZF ht es1 (SetTable.grown es1.size)
  generalize relayAll t2 es1 (SetTable.grown es1.size)=RR at p f tb
  obtain⟨es2,t3,gave⟩:=RR
  have sz:es2.size=es1.size:=by simpa using p.length_eq
  have T2:=SetT.stored (prog:=prog) (w:=w) (es':=es2) (t':=t3) g1 hex rfl nd (hel.perm p) (fun k=>(hm k).trans ⟨fun⟨e,he,q⟩=>⟨e,p.mem_iff.mpr he,q⟩,fun⟨e,he,q⟩=>⟨e,p.mem_iff.mp he,q⟩⟩)
   (by rw[sz];exact hb) f (by rw[sz];exact hn) tb
  refine wpAny_bind (hg _ _ _ (wpAny_bind (wpAny_storeSet_of g1 rfl ?_ (fits_of_scanBound (by show es2.size<_;rw[sz];exact hb)))))
  exact wpAny_pure (h _ (sb1.trans (Heap.SameBut.update _ a _)) T2.2)
 .exact wpAny_pure (h _ sb1 T1)
theorem aF{a:Addr}{ds:List Int}{k:Int}{t0:Tok}{Q:Bool->Shared->Prop}(hS:SetT prog w s.heap a ds)(room:ds.length+1<scanBound)
  (h:∀b h',Heap.SameBut a s.heap h'->SetT prog w h' a (Gb ds k)->Q b { s with heap:=h' }):wpAny (model prog w) A (setAddHashed a (.int k t0) ((intKind prog w).hash k)) Q E s:=by
 obtain⟨nd,o,es,ep,t,ho,hex,hd,hel,hm,hb,hf,hn,ht⟩:=hS
 have hkey:(intKind prog w).is k (.int k t0)=true:=intKind_is prog w k t0
 have hsc:(Value.int k t0).scannable=true:=rfl
 unfold setAddHashed setAddHashedIn
 refine wpAny_holding (wpAny_bind (wpAny_setState_of ho hd hf ?_))
 dsimp only
 rw[byScan_of hsc hb hel,if_pos rfl]
 unfold setAddByScan
 refine wpAny_bind (wpAny_bind (wpAny_rule (wpAny_bind (wpAny_setScan_of hkey ho hd hf hel ?_))))
 cases hr:List.findIdx? (fun e=>(intKind prog w).is k e.2) es.toList with
 |some j =>
  obtain⟨hj,hpj,_⟩:=List.findIdx?_eq_some_iff_getElem.mp hr
  have hk:k∈ds:=of_decide_eq_true ((hm k).mpr ⟨es.toList[j],List.getElem_mem hj,hpj⟩)
  refine wpAny_pure (wpAny_pure ?_)
  have q:=h false s.heap (Heap.SameBut.refl a s.heap) (by
   have e:Gb ds k=ds:=by unfold Gb;rw[if_pos hk]
   rw[e];exact⟨nd,o,es,ep,t,ho,hex,hd,hel,hm,hb,hf,hn,ht⟩)
  cases s;exact q
 |none =>
  have hk:k ∉ ds:=fun z=>by
   obtain⟨e,he,hp⟩:=(hm k).mp (decide_eq_true z)
   have q:=List.findIdx?_eq_none_iff.mp hr e he
   rw[hp] at q;cases q
  have eA:Gb ds k=ds++[k]:=by unfold Gb;rw[if_neg hk]
  have p:=layNew_perm t es ((intKind prog w).hash k) (.int k t0)
  have f:=layNew_fits t es ((intKind prog w).hash k) (.int k t0)
  have tb:=dH ht es ((intKind prog w).hash k) (.int k t0)
  generalize layNew t es ((intKind prog w).hash k) (.int k t0)=LL at p f tb
  obtain⟨es1,t1,dummy,gave⟩:=LL
  dsimp only at p f tb ⊢
  rw[Array.toList_push] at p
  have hel1:ElemsOf (intKind prog w) es1.toList:=(hel.push hkey hsc).perm p
  have sz:es1.size=(Gb ds k).length:=by
   have q:=p.length_eq
   rw[Array.length_toList,List.length_append,List.length_singleton,Array.length_toList] at q
   rw[q,eA,List.length_append,List.length_singleton,hn]
  have hm1:∀j,decide (j∈Gb ds k)=true↔∃e∈es1.toList,(intKind prog w).is j e.2=true:=fun j=>by
   rw[←mem_push_iff (S:=fun k'=>decide (k'∈ds)) hkey hm p j]
   simp only[decide_eq_true_eq,Bool.or_eq_true,Wf]
  have hb1:es1.size<scanBound:=by rw[sz,eA,List.length_append,List.length_singleton];exact room
  refine wpAny_bind ?_
  have gw:∀(b:Bool)(s₁:Shared)(Q':Unit->Shared->Prop),Q' () s₁->wpAny (model prog w) A (match b with|true=>rule "set.scan.the-table-gave-way"|false=>pure ()) Q' E s₁:=fun b s₁ Q' q=>by
   cases b
   .exact wpAny_pure q
   .exact wpAny_rule q
  refine gw _ _ _ ?_
  split
  .refine wpAny_bind ?_
   rw[hashByValue_scannable 8 hsc]
   refine wpAny_pure (XC gw ho hex hd (Ub nd k) hel1 hm1 hb1 ?_ sz ?_ fun h' sb T=>wpAny_pure (h true h' sb T))
   .split
    .exact f
    .exact SetTable.fits_plain_off f
   .split
    .exact tb
    .exact tb.nq false
  .refine wpAny_bind (wpAny_pure ?_)
   rw[if_pos rfl]
   exact XC gw ho hex hd (Ub nd k) hel1 hm1 hb1 f sz tb fun h' sb T=>wpAny_pure (h true h' sb T)
end
end SetP
end
section
set_option maxRecDepth 100000
namespace SetP
open PySem PyProof.Rows
theorem Wt:entryFor table "set.update.loop"=some Builtin.«set.update.loop»:=entryFor_of_tree (by kernel_rfl)
theorem RZ:plainId "set.update.loop"=true:=by decide +kernel
def once(ns:List Int):List Int:=ns.foldl Gb []
theorem gW(ns:List Int)(k:Int):once (ns++[k])=Gb (once ns) k:=by unfold once;rw[List.foldl_append];rfl
theorem O5:∀(ns:List Int),(once ns).Nodup/\(once ns).length<=ns.length/\∀j,j∈once ns↔j∈ns:=by
 intro ns
 have all:∀(ns ds:List Int),ds.Nodup->(ns.foldl Gb ds).Nodup/\(ns.foldl Gb ds).length<=ds.length+ns.length/\∀j,j∈ns.foldl Gb ds↔j∈ds∨j∈ns:=by
  intro ns
  induction ns with
  |nil=>intro ds h;exact⟨h,by simp,fun j=>by simp⟩
  |cons n r ih =>
   intro ds h
   obtain⟨a,b,c⟩:=ih (Gb ds n) (Ub h n)
   refine⟨a,?_,fun j=>?_⟩
   .have:=iz ds n
    rw[List.foldl_cons,List.length_cons];omega
   .rw[List.foldl_cons,c j,Wf,List.mem_cons]
    constructor
    .rintro((z|z)|z)
     .exact .inl z
     .exact .inr (.inl z)
     .exact .inr (.inr z)
    .rintro(z|z|z)
     .exact .inl (.inl z)
     .exact .inl (.inr z)
     .exact .inr z
 obtain⟨a,b,c⟩:=all ns [] List.nodup_nil
 exact⟨a,by rw[List.length_nil,Nat.zero_add] at b;exact b,fun j=>by rw[show once ns=ns.foldl Gb [] from rfl,c j];simp⟩
section
variable{prog:Program}{w:World}{A:Around}{E:Value->Shared->Prop}{s:Shared}
theorem jL{R:Result->Shared->Prop}{S I l:Addr}{items:Array Value}{ns:List Int}(hh:A.handled=none)(hi:IntsAre items.toList ns)(hb:items.size+1<scanBound)(hSI:S≠I)(hSl:S≠l)(hIl:I≠l) :
  ∀(k i:Nat)(s:Shared),items.size-i=k->i<=items.size->s.heap.IsListIter I l i->s.heap.IsList l items->SetT prog w s.heap S (once (ns.take i)) ->
   (∀h' tk,(∀b o,b≠S->b≠I->s.heap.get? b=some o->h'.get? b=some o)->SetT prog w h' S (once ns)->R (.ok (.ret .none)) { s with heap:=h',toks:=tk }) ->
   codeAny (model prog w) A (.builtin "set.update.loop" ⟨[.ref S,.ref I],[]⟩) R s:=by
 have hlen:items.size=ns.length:=by have:=hi.length;simpa using this
 intro k
 induction k with
 |zero =>
  intro i s hk hi' it il T hR
  have e:i=items.size:=by omega
  subst e
  refine codeAny_builtin Wt ?_
  rw[Around.under_plainId RZ _]
  show wpAny _ A.in1 (pyNext (.ref I) >>= _) _ _ s
  refine wpAny_bind (wpAny_pyNext_list_end hh it il (by simp) fun h' eb=>?_)
  show wpAny _ A.in1 (ret Value.none) _ _ _
  refine wpAny_pure (hR h' s.toks (fun b o _ hbI q=>eb b o hbI q) ?_)
  rw[List.take_of_length_le (by omega)] at T
  exact T.sameBut fun o q=>eb S o hSI q
 |succ k ih =>
  intro i s hk hi' it il T hR
  have hlt:i<items.size:=by omega
  refine codeAny_builtin Wt ?_
  rw[Around.under_plainId RZ _]
  show wpAny _ A.in1 (pyNext (.ref I) >>= _) _ _ s
  refine wpAny_bind (wpAny_pyNext_list_item it il (x:=items[i]) (by simp[hlt]) fun h1 it1 sb1=>?_)
  have hn:i<ns.length:=by omega
  obtain⟨t0,hv⟩:∃t0,items[i]=.int ns[i] t0:=by
   have all:∀{vs:List Value} {ms:List Int},IntsAre vs ms->∀(j:Nat)(h1:j<vs.length)(h2:j<ms.length),∃t0,vs[j]=.int ms[j] t0:=by
    intro vs ms r
    induction r with
    |nil=>intro j h1;simp at h1
    |cons n t _ ih=>intro j h1 h2;cases j with
     |zero=>exact⟨t,rfl⟩
     |succ j=>exact ih j (by simpa using h1) (by simpa using h2)
   have q:=all hi i (by simpa using hlt) hn
   simpa using q
  rw[hv]
  show wpAny _ A.in1 (holding [Value.int ns[i] t0] (setAdd S (.int ns[i] t0)) >>= _) _ _ _
  have T1:SetT prog w h1 S (once (ns.take i)):=T.sameBut fun o q=>(sb1.2 S hSI).trans q
  have il1:h1.IsList l items:=by
   obtain⟨o,ho,r⟩:=il
   exact⟨o,(sb1.2 l hIl.symm).trans ho,r⟩
  refine wpAny_bind (wpAny_holding ?_)
  unfold setAdd
  refine wpAny_holding (wpAny_bind ((intKind prog w).pyHash (k:=ns[i]) (intKind_is _ _ _ _) ?_))
  have room:(once (ns.take i)).length+1<scanBound:=by
   have q:=(O5 (ns.take i)).2.1
   rw[List.length_take] at q
   omega
  refine aF (s:={ s with heap:=h1,toks:=s.toks+1 }) T1 room fun b h2 sb2 T2=>?_
  have T2':SetT prog w h2 S (once (ns.take (i+1))):=by
   rw[List.take_succ_eq_append_getElem hn,gW];exact T2
  refine wpAny_pure ⟨plainId_quiet RZ _,ih (i+1) _ (by omega) hlt ?_ ?_ T2' fun h' tk hk' T'=>?_⟩
  .obtain⟨o,ho,r⟩:=it1
   exact⟨o,(sb2.2 I hSI.symm).trans ho,r⟩
  .obtain⟨o,ho,r⟩:=il1
   exact⟨o,(sb2.2 l hSl.symm).trans ho,r⟩
  .exact hR h' tk (fun c o hcS hcI q=>hk' c o hcS hcI ((sb2.2 c hcS).trans ((sb1.2 c hcI).trans q))) T'
theorem xO(a:Value){Q₁:Value->Shared->Prop}
  (h:Q₁ (.ref s.heap.objs.size) { s with heap:=s.heap.push { cls:=.type "set",dict:=none,data:=.set #[] 0 (.fresh 0 0 (Oh w)) } }) :
  codeAny (model prog w) A (.call (.builtin "set.__new__") ⟨[.type "set",a],[]⟩) (wants Q₁ E) s:=by
 refine codeAny_of_tree ?_
 have hck:checkBuiltinCall "set.__new__" ⟨[.type "set",a],[]⟩=pure ():=by kernel_rfl
 show wpAny _ A.in1 (checkBuiltinCall "set.__new__" ⟨[.type "set",a],[]⟩ >>= fun _=>again (.builtin "set.__new__" ⟨[.type "set",a],[]⟩)) _ _ s
 rw[hck]
 refine wpAny_bind (wpAny_pure (wpAny_pure ⟨plainId_quiet F.plain_set_new _,codeAny_builtin F.entry_set_new ?_⟩))
 rw[Around.under_plainId F.plain_set_new _]
 have hsub:=sub_set_self
 unfold Builtin.«set.__new__» Builtin.Frozenset.newClass
 obtain⟨hp,g,d,tk,os⟩:=s
 dsimp only
 wp_walk
 refine wpAny_askSetting (wpAny_pure ?_)
 simp only[newObj]
 exact wpAny_bind (wpAny_alloc (wpAny_pure (wpAny_pure h)))
theorem m6{M:Model}{self a:Value}{Q:Unit->Shared->Prop}(hT:s.TypeIs self "set")(hQ:Q () s):wpAny M A (checkBuiltinCall "set.__init__" ⟨[self,a],[]⟩) Q E s:=by
 simp only[checkBuiltinCall,kind_set_init,split_set_init,sig_set_init]
 refine wpAny_bind (wpAny_isInstance hT sub_set_self ?_)
 simp only[Bool.not_true,Bool.false_eq_true,if_false]
 unfold Bind.checkArgs
 dsimp only
 refine wpAny_bind (m:=Bind.printed "set" true _ _) (printed_name (by decide) ?_)
 refine wpAny_bind (m:=Bind.printed "*" false _ _) (printed_star (self:=self) rfl hT fun short=>?_)
 have one:(if (Manifest.Receiver.self==Manifest.Receiver.none)=true then [self,a].length else [self,a].length-1)=1:=by
  have z:(Manifest.Receiver.self==Manifest.Receiver.none)=false:=by decide
  simp[z]
 rw[one]
 simp only[List.map_nil]
 have z1:(Manifest.ParamKind.posOnly==Manifest.ParamKind.posOnly)=true:=by decide
 have z2:(Manifest.ParamKind.posOnly==Manifest.ParamKind.posOrKw)=false:=by decide
 have z3:(Manifest.ParamKind.posOnly==Manifest.ParamKind.varPos)=false:=by decide
 have fine:Bind.check ⟨.positional,"set","*",.self,[⟨"iterable",.posOnly,false⟩]⟩ "set" short 1 []=pure ():=by
  simp[Bind.check,Bind.checkCount,Bind.isPositional,z1,z2,z3]
 rw[fine]
 exact wpAny_pure hQ
set_option maxHeartbeats 3200000 in
theorem oH{l:Addr}{items:Array Value}{ns:List Int}{Q:Value->Shared->Prop}(hh:A.handled=none)(hl:s.heap.IsList l items)(hi:IntsAre items.toList ns)(hb:items.size+1<scanBound)
  (h:∀h' tk,(∀b o,s.heap.get? b=some o->h'.get? b=some o)->SetT prog w h' s.heap.objs.size (once ns)->Q (.ref s.heap.objs.size) { s with heap:=h',toks:=tk }) :
  wpAny (model prog w) A (call (.type "set") [.ref l]) Q E s:=by
 have hmade:=F.called_set.made
 have hsub:=F.called_set.sub
 have h1:=F.called_set.notType
 have h2:=F.called_set.canCreate
 have hct:checkTypeCall "set" ⟨[.ref l],[]⟩=pure ():=by kernel_rfl
 obtain⟨c,tl,hmro⟩:=F.called_set.mro
 refine wpAny_call (codeAny_of_tree ?_)
 show wpAny _ _ (callAny (.type "set") ⟨[.ref l],[]⟩) _ _ s
 refine wpAny_pure ⟨Code.quiet_builtin _ (by decide +kernel),codeAny_builtin F.entry_type_call ?_⟩
 rw[Around.under_plain (weight_type_call_type "set" [.ref l] []) rfl]
 repeat (any_goals (first|assumption|wp_step))
 refine codeAny_mono (xO (.ref l) (E:=E) (Q₁:=fun obj s₁=>obj=.ref s.heap.objs.size/\s₁={ s with heap:=s.heap.push { cls:=.type "set",dict:=none,data:=.set #[] 0 (.fresh 0 0 (Oh w)) } }) ⟨rfl,rfl⟩) fun r s₁ hr=>?_
 cases r with
 |error e=>exact hr
 |ok fl =>
  cases fl with
  |ret obj =>
   obtain⟨rfl,rfl⟩:=hr
   generalize hg1:s.heap.push { cls:=.type "set",dict:=none,data:=.set #[] 0 (.fresh 0 0 (Oh w)) }=g1
   have e1:g1.get? s.heap.objs.size=some { cls:=.type "set",dict:=none,data:=.set #[] 0 (.fresh 0 0 (Oh w)) }:=hg1 ▸ Heap.get?_push_size _ rfl
   have k1:∀b o,s.heap.get? b=some o->g1.get? b=some o:=fun b o q=>hg1 ▸ Heap.get?_push_of_some _ q
   have z1:g1.objs.size=s.heap.objs.size+1:=by rw[←hg1,Heap.size_push]
   have hT:Shared.TypeIs { s with heap:=g1 } (.ref s.heap.objs.size) "set":=⟨_,e1,rfl⟩
   have hli:=F.called_set.init.lookup
   have hbi:=F.called_set.init.bind (.ref s.heap.objs.size)
   repeat (any_goals (first|assumption|wp_step))
   refine codeAny_mono (codeAny_call_builtin (R:=wants (fun r s₂=>r=.none/\∃h' tk,s₂={ s with heap:=h',toks:=tk }/\(∀b o,s.heap.get? b=some o->h'.get? b=some o)/\SetT prog w h' s.heap.objs.size (once ns)) E)
    F.called_set.init.plain F.entry_set_init (m6 hT ?_)) fun r₂ s₂ hr₂=>?_
   .obtain⟨ol,hol,hcl,nl,hdl⟩:=hl
    obtain⟨ocls,odict,odata,oslots⟩:=ol
    simp only at hcl hdl
    subst hcl hdl
    have q1:g1.get? l=some { cls:=.type "list",dict:=odict,data:=.seq items nl,slots:=oslots }:=k1 _ _ hol
    have il:g1.IsList l items:=⟨_,q1,rfl,nl,rfl⟩
    have hlS:l<s.heap.objs.size:=Heap.lt_size hol
    have hs1:isSubtype (.type "list") (.type "set")=pure false:=by rw[isSubtype_type];kernel_rfl
    have hs2:isSubtype (.type "list") (.type "frozenset")=pure false:=by rw[isSubtype_type];kernel_rfl
    have hs3:(Value.type "list"==Value.type "dict")=false:=by decide
    unfold Builtin.«set.__init__» noKeywords Builtin.Frozenset.updateFrom
    generalize hPI:pyIter=PI
    wp_walk
    subst hPI
    refine wpAny_pyIter_list il (wpAny_bind (wpAny_runValue ?_))
    have n1:s.heap.objs.size≠g1.objs.size:=by rw[z1];exact Nat.ne_of_lt (Nat.lt_succ_self _)
    have n2:s.heap.objs.size≠l:=Nat.ne_of_gt hlS
    have n3:g1.objs.size≠l:=by rw[z1];exact Nat.ne_of_gt (Nat.lt_succ_of_lt hlS)
    refine jL (l:=l) (items:=items) (by simpa using hh) hi hb n1 n2 n3 (items.size-0) 0 _ (by omega) (Nat.zero_le _) ⟨_,Heap.get?_push_size _ rfl,rfl,rfl⟩ ?_ ?_ ?_
    .obtain⟨o,ho,r⟩:=il
     exact⟨o,Heap.get?_push_of_some _ ho,r⟩
    .refine⟨List.nodup_nil,_,#[],0,_,Heap.get?_push_of_some _ e1,⟨rfl,rfl,rfl⟩,rfl,fun e he=>by simp at he,fun k=>by simp[once],by decide,by rfl,rfl,TabOk.fresh _ _ _⟩
    .intro h' tk hk T
     show wpAny _ _ _ _ _ _
     refine wpAny_pure ?_
     show wpAny _ _ (ret Value.none) _ _ _
     refine wpAny_pure ⟨rfl,h',tk,rfl,fun b o q=>?_,T⟩
     have hb':=Heap.lt_size q
     exact hk b o (Nat.ne_of_lt hb') (by rw[z1];exact Nat.ne_of_lt (Nat.lt_succ_of_lt hb')) (Heap.get?_push_of_some _ (k1 b o q))
   .cases r₂ with
    |error e=>exact hr₂
    |ok fl₂ =>
     cases fl₂ with
     |ret r =>
      obtain⟨rfl,h',tk,rfl,hk,T⟩:=hr₂
      repeat (any_goals (first|assumption|wp_step))
      exact h h' tk hk T
     |_=>exact hr₂.elim
  |_=>exact hr.elim
end
end SetP
end
section
set_option maxRecDepth 100000
namespace SetP
open PySem PyProof.Rows
theorem Qj{α:Type}:∀(l:List α)(i:Nat)(h:i<l.length),(l[i]::l.eraseIdx i).Perm l
 |[],i,h=>absurd h (by simp)
 |x::r,0,_=>List.Perm.refl _
 |x::r,i+1,h=>(List.Perm.swap x _ _).trans (List.Perm.cons x (Qj r i (by simpa using h)))
theorem Sy:∀{ds ns:List Int},ds.Nodup->(∀k,k∈ds->k∈ns)->ns.length<=ds.length->ns.Perm ds
 |[],ns,_,_,h=>by
  have e:ns=[]:=List.length_eq_zero_iff.mp (by simpa using h)
  rw[e]
 |d::r,ns,nd,sub,h=>by
  have hd:d∈ns:=sub d List.mem_cons_self
  have p:=List.perm_cons_erase hd
  obtain⟨h1,h2⟩:=List.nodup_cons.mp nd
  refine p.trans (List.Perm.cons d (Sy h2 (fun k hk=>?_) ?_))
  .have hne:k≠d:=fun e=>h1 (e ▸ hk)
   exact(List.mem_erase_of_ne hne).mpr (sub k (List.mem_cons_of_mem _ hk))
  .rw[List.length_erase_of_mem hd]
   rw[List.length_cons] at h
   omega
theorem ak{α:Type}(next:Nat->Nat):∀(fuel k:Nat)(left:List α)(out:Array α),left.length=fuel->(pickOrder.go next fuel k left out).toList.Perm (out.toList++left)
 |0,_,left,out,h=>by
  have e:left=[]:=List.length_eq_zero_iff.mp h
  subst e
  unfold pickOrder.go
  simp
 |fuel+1,k,left,out,h=>by
  unfold pickOrder.go
  have hi:next k%left.length<left.length:=Nat.mod_lt _ (by omega)
  rw[List.getElem?_eq_getElem hi]
  dsimp only
  refine(ak next fuel (k+1) _ _ (by rw[List.length_eraseIdx_of_lt hi];omega)).trans ?_
  rw[Array.toList_push,List.append_assoc]
  exact List.Perm.append_left _ (Qj _ _ hi)
theorem gP{α:Type}(next:Nat->Nat)(xs:Array α):(pickOrder next xs).toList.Perm xs.toList:=by
 unfold pickOrder
 simpa using ak next xs.size 0 xs.toList #[] (by simp)
section
variable{M:Model}{A:Around}{E:Value->Shared->Prop}
theorem dX{src:Source}{n:Nat}{s:Shared}{Q:Nat->Shared->Prop}(hn:n≠0)(h:∀i d',i<n->Q i { s with drawn:=d' }):wpAny M A (choose src n) Q E s :=
 fun _ _ _=>⟨hn,h _ _ (Nat.mod_lt _ (Nat.pos_of_ne_zero hn))⟩
theorem Qp{α:Type}:∀(n:Nat)(xs:List α)(s:Shared)(Q:List α->Shared->Prop),xs.length<=n->(∀ys d',ys.Perm xs->Q ys { s with drawn:=d' })->wpAny M A (drawOrder n xs) Q E s
 |0,xs,s,Q,h,q=>by
  have e:xs=[]:=List.length_eq_zero_iff.mp (by omega)
  subst e
  unfold drawOrder
  exact wpAny_pure (q [] s.drawn (List.Perm.refl _))
 |n+1,[],s,Q,h,q=>by
  unfold drawOrder
  exact wpAny_pure (q [] s.drawn (List.Perm.refl _))
 |n+1,x::xs,s,Q,h,q=>by
  unfold drawOrder
  refine wpAny_bind (dX (by simp) fun i d' hi=>?_)
  rw[List.getElem?_eq_getElem hi]
  dsimp only
  refine wpAny_bind (Qp n _ _ _ (by rw[List.length_eraseIdx_of_lt hi];simp at h ⊢;omega) fun ys d'' p=>wpAny_pure (q _ d'' ?_))
  exact(List.Perm.cons _ p).trans (Qj _ _ hi)
end
theorem Fv:Slot "set_iterator" "__next__" "set_iterator.__next__" :=
 .of (owner:="set_iterator") (n:="__next__") (by rw[typeLookup_type,builtinLookup_eq_fast];kernel_rfl) (by decide +kernel) (by decide +kernel) (by decide +kernel)
  (by first|exact .inl (by decide +kernel)|exact .inr (by decide +kernel)) (by rw[isSubtype_type];kernel_rfl)
theorem Oe:entryFor table "set_iterator.__next__"=some Builtin.«set_iterator.__next__»:=entryFor_of_tree (by kernel_rfl)
theorem PB(a:Value):argsOk "set_iterator.__next__" ⟨[a],[]⟩:=by unfold argsOk;kernel_rfl
theorem W8:entryFor table "set.__iter__"=some Builtin.«frozenset.__iter__» :=
 entryFor_alias (id':="frozenset.__iter__") (by kernel_rfl) rfl (by decide +kernel) (by kernel_rfl)
def K4(first:Value)(i:Nat)(S:Addr)(n ep:Nat):Obj:={ cls:=.type "set_iterator",data:=.fields #[first,.int i 0,.ref S,.int n 0,.int ep 0] }
inductive Road (w:World) (h:Heap) (es:Array (Int×Value)) (ep:Nat) (t:SetTable) (S it T:Addr) (vs:List Value) (i:Nat):Value->Prop
 |text (k:Int):w.params.followText "set-order"=true->(∀(j:Nat),vs[j]?=((pickOrder (w.params.setOrder S ep) es)[j]?).map fun(e:Int×Value)=>e.2)->Road w h es ep t S it T vs i (.int k 0)
 |plain:w.params.followText "set-order"=false->(!t.plain&&decide (es.size>1))=false->TabOk true t->(∀(j:Nat),vs[j]?=(es[j]?).map fun(e:Int×Value)=>e.2)->Road w h es ep t S it T vs i (.int ((if i=0 then 0 else t.place.getD (i-1) 0+1:Nat):Int) 0)
 |drawn (ps:List Nat):T≠it->h.get? T=some { cls:=.type "tuple",data:=.seq (ps.map fun(p:Nat)=>rawInt p).toArray 0 }->(∀p∈ps,p<es.size)->(∀(j:Nat),vs[j]?=(ps[j]?).bind fun p=>(es[p]?).map fun(e:Int×Value)=>e.2)->Road w h es ep t S it T vs i (.ref T)
structure N7(w:World)(h:Heap)(it S T:Addr)(vs:List Value)(i:Nat):Prop where
 ne:it≠S
 ex:∃o es ep t first,h.get? S=some o/\o.data=.set es ep t/\t.fits es.size=true/\vs.length=es.size/\h.get? it=some (K4 first i S es.size ep)/\Road w h es ep t S it T vs i first
section
variable{prog:Program}{w:World}{A:Around}{E:Value->Shared->Prop}{s:Shared}
theorem N7.keep{h h':Heap}{it S T:Addr}{vs:List Value}{i:Nat}(x:N7 w h it S T vs i)(k:∀b∈[it,S,T],∀o,h.get? b=some o->h'.get? b=some o):N7 w h' it S T vs i:=by
 obtain⟨ne,o,es,ep,t,first,a,b,c,d,e,r⟩:=x
 refine⟨ne,o,es,ep,t,first,k S (by simp) _ a,b,c,d,k it (by simp) _ e,?_⟩
 cases r with
 |text k1 z1 z2=>exact .text k1 z1 z2
 |plain z1 z2 z3 z4=>exact .plain z1 z2 z3 z4
 |drawn ps z1 z2 z3 z4=>exact .drawn ps z1 (k T (by simp) _ z2) z3 z4
theorem vM{S:Addr}{ds:List Int}{Q:Value->Shared->Prop}(hS:SetT prog w s.heap S ds)
  (h:∀h' d' it T vs,(∀b o,s.heap.get? b=some o->h'.get? b=some o)->s.heap.objs.size<=it->(T=S∨s.heap.objs.size<=T)->N7 w h' it S T vs 0->(∃ns,IntsAre vs ns/\ns.Perm ds)->Q (.ref it) { s with heap:=h',drawn:=d' }) :
  wpAny (model prog w) A (pyIter (.ref S)) Q E s:=by
 obtain⟨nd,o,es,ep,t,ho,hex,hd,hel,hm,hb,hf,hn,ht⟩:=hS
 have hT:s.TypeIs (.ref S) "set":=⟨o,ho,hex.1⟩
 have hlt:=Heap.lt_size ho
 -- the members as ints
 have intsV:∀(l:List (Int×Value)),ElemsOf (intKind prog w) l->∃ns,IntsAre (l.map (·.2)) ns/\∀k,k∈ns↔∃e∈l,(intKind prog w).is k e.2=true:=by
  intro l
  induction l with
  |nil=>intro _;exact⟨[],.nil,fun k=>by simp⟩
  |cons e r ih =>
   intro he
   obtain⟨ns,a,b⟩:=ih he.tail
   obtain⟨⟨k0,hk0,_⟩,_⟩:=he.head
   obtain⟨t0,e0⟩:=Value.isInt_shape (show Value.isInt k0 e.2=true from hk0)
   refine⟨k0::ns,by rw[List.map_cons,e0];exact .cons k0 t0 a,fun k=>?_⟩
   rw[List.mem_cons,b k]
   constructor
   .rintro(z|⟨e',he',q⟩)
    .exact⟨e,List.mem_cons_self,by rw[z];exact hk0⟩
    .exact⟨e',List.mem_cons_of_mem _ he',q⟩
   .rintro⟨e',he',q⟩
    rcases List.mem_cons.mp he' with z|z
    .subst z;exact .inl ((intKind prog w).inj _ _ _ q hk0)
    .exact .inr ⟨e',z,q⟩
 -- any order of the members is the ints in some order
 have fin:∀(l:List (Int×Value)),l.Perm es.toList->∃ns,IntsAre (l.map (·.2)) ns/\ns.Perm ds:=fun l p=>by
  obtain⟨ns,a,b⟩:=intsV l (hel.perm p)
  refine⟨ns,a,?_⟩
  have hsub:ds ⊆ ns:=fun k hk=>(b k).mpr (by
   obtain⟨e,he,q⟩:=(hm k).mp (decide_eq_true hk)
   exact⟨e,p.mem_iff.mpr he,q⟩)
  have hle:ns.length<=ds.length:=by
   have q1:(l.map (·.2)).length=ns.length:=IntsAre.length a
   rw[List.length_map] at q1
   exact Nat.le_of_eq (by rw[←q1,p.length_eq,Array.length_toList,hn])
  exact Sy nd (fun k hk=>hsub hk) hle
 refine wpAny_pyIter_slot hT F.slot_set_iter (wpAny_call_entry F.slot_set_iter hT W8 ?_ (F.args_set_iter_1 _))
 unfold Builtin.«frozenset.__iter__» Builtin.Frozenset.slot0 slotArgs
 simp only[List.isEmpty_nil,Bool.not_true,Bool.false_eq_true,↓reduceIte,bind_assoc,List.length_nil,bne_self_eq_false]
 unfold Builtin.Frozenset.addrOf Builtin.Frozenset.sizeOf
 refine wpAny_bind (wpAny_pure ?_)
 try dsimp only
 refine wpAny_bind (wpAny_pure ?_)
 refine wpAny_bind (wpAny_bind (wpAny_setEntries_of ho hd hf (wpAny_pure ?_)))
 unfold setDrawn setsByText
 simp only[bind_assoc]
 refine wpAny_bind (wpAny_setState_of ho hd hf ?_)
 refine wpAny_bind (wpAny_askSetting ?_)
 refine wpAny_bind (wpAny_pure (wpAny_bind (wpAny_pure ?_)))
 show wpAny (model prog w) A.in1 (if (!(w.params.followText "set-order")&&(!t.plain&&decide (es.size>1)))=true then _ else _) _ _ s
 have len2:∀(ps:List Nat),ps.Perm (List.range es.size)->((ps.filterMap fun p=>es[p]?)).Perm es.toList/\∀(j:Nat),((ps.filterMap fun p=>es[p]?).map (·.2))[j]?=(ps[j]?).bind fun p=>(es[p]?).map fun(e:Int×Value)=>e.2:=fun ps p=>by
  refine⟨(p.filterMap _).trans (by rw[filterMap_getElem?_range]),?_⟩
  have all:∀(ps:List Nat),(∀p∈ps,p<es.size)->∀(j:Nat),((ps.filterMap fun p=>es[p]?).map (·.2))[j]?=(ps[j]?).bind fun p=>(es[p]?).map fun(e:Int×Value)=>e.2:=by
   intro ps
   induction ps with
   |nil=>intro _ j;simp
   |cons q r ih =>
    intro hq j
    have hq':q<es.size:=hq q List.mem_cons_self
    rw[List.filterMap_cons_some (b:=es[q]) (by simp[hq'])]
    cases j with
    |zero=>simp[hq']
    |succ j=>simpa using ih (fun p hp=>hq p (List.mem_cons_of_mem _ hp)) j
  exact all ps fun q hq=>List.mem_range.mp (p.mem_iff.mp hq)
 split
 .rename_i hc
  refine wpAny_bind (Qp es.size (List.range es.size) s _ (by simp) fun ps d' p=>?_)
  obtain⟨p1,p2⟩:=len2 ps p
  refine wpAny_bind (wpAny_newObj_type ?_ ?_)
  .refine wpAny_bind (wpAny_setEpoch_of (Heap.get?_push_of_some _ ho) hd hf ?_)
   refine wpAny_bind (wpAny_newObj_type (wpAny_pure ⟨_,rfl,"set_iterator",_,⟨_,Heap.get?_push_size _ rfl,rfl⟩,Fv.lookup,?_⟩))
   refine h _ d' _ s.heap.objs.size ((ps.filterMap fun p=>es[p]?).map (·.2)) (fun b o' e=>Heap.get?_push_of_some _ (Heap.get?_push_of_some _ e)) ?_ (.inr (Nat.le_refl _)) ?_ (fin _ p1)
   .show s.heap.objs.size<=(s.heap.push _).objs.size
    rw[Heap.size_push];exact Nat.le_succ _
   .refine⟨?_,o,es,ep,t,_,Heap.get?_push_of_some _ (Heap.get?_push_of_some _ ho),hd,hf,?_,Heap.get?_push_size _ rfl,.drawn ps ?_ (Heap.get?_push_of_some _ (Heap.get?_push_size _ rfl)) (fun q hq=>List.mem_range.mp (p.mem_iff.mp hq)) p2⟩
    .show(s.heap.push _).objs.size≠S
     rw[Heap.size_push];exact Nat.ne_of_gt (Nat.lt_succ_of_lt hlt)
    .rw[List.length_map,p1.length_eq,Array.length_toList]
    .show s.heap.objs.size≠(s.heap.push _).objs.size
     rw[Heap.size_push];exact Nat.ne_of_lt (Nat.lt_succ_self _)
  .show _<=sizeLine
   rw[List.size_toArray,List.length_map,p.length_eq,List.length_range]
   exact fits_of_scanBound hb
 .rename_i hc
  refine wpAny_bind (wpAny_pure (wpAny_bind (wpAny_setEpoch_of ho hd hf ?_)))
  refine wpAny_bind (wpAny_newObj_type (wpAny_pure ⟨_,rfl,"set_iterator",_,⟨_,Heap.get?_push_size _ rfl,rfl⟩,Fv.lookup,?_⟩))
  by_cases ht':w.params.followText "set-order"=true
  .have pp:=gP (w.params.setOrder S ep) es
   have q:=h (s.heap.push (K4 (rawInt 0) 0 S es.size ep)) s.drawn s.heap.objs.size S ((pickOrder (w.params.setOrder S ep) es).toList.map (·.2)) (fun b o' e=>Heap.get?_push_of_some _ e) (Nat.le_refl _) (.inl rfl)
    ⟨Nat.ne_of_gt hlt,o,es,ep,t,_,Heap.get?_push_of_some _ ho,hd,hf,by rw[List.length_map,pp.length_eq,Array.length_toList],Heap.get?_push_size _ rfl,.text 0 ht' fun j=>by rw[List.getElem?_map,Array.getElem?_toList]⟩ (fin _ pp)
   exact q
  .have hf':w.params.followText "set-order"=false:=by simpa using ht'
   have hL:Oh w=true:=by show(!_)=true;rw[hf'];rfl
   rw[hL] at ht
   have hdr:(!t.plain&&decide (es.size>1))=false:=by
    rw[hf'] at hc
    simpa using hc
   have q:=h (s.heap.push (K4 (rawInt 0) 0 S es.size ep)) s.drawn s.heap.objs.size S (es.toList.map (·.2)) (fun b o' e=>Heap.get?_push_of_some _ e) (Nat.le_refl _) (.inl rfl)
    ⟨Nat.ne_of_gt hlt,o,es,ep,t,_,Heap.get?_push_of_some _ ho,hd,hf,by rw[List.length_map,Array.length_toList],Heap.get?_push_size _ rfl,.plain hf' hdr ht fun j=>by rw[List.getElem?_map,Array.getElem?_toList]⟩ (fin _ (List.Perm.refl _))
   exact q
end
end SetP
end
section
set_option maxRecDepth 100000
namespace SetP
open PySem PyProof.Rows
section
variable{prog:Program}{w:World}{A:Around}{E:Value->Shared->Prop}{s:Shared}
theorem V3(first x:Value)(i:Nat)(S:Addr)(n ep:Nat):Obj.mapFields (·.setIfInBounds 0 x) (K4 first i S n ep)=K4 x i S n ep:=rfl
theorem dJ(first:Value)(i:Nat)(S:Addr)(n ep:Nat):Obj.mapFields (·.setIfInBounds 1 (rawInt ((i:Int)+1))) (K4 first i S n ep)=K4 first (i+1) S n ep:=rfl
theorem Rk{S:Addr}{o:Obj}{es:Array (Int×Value)}{ep slot given:Nat}{t:SetTable}{Q:Option (Value×Nat)->Shared->Prop}(ho:s.heap.get? S=some o)(hd:o.data=.set es ep t)(hf:t.fits es.size=true)
  (z:w.params.followText "set-order"=true) (h:Q (((pickOrder (w.params.setOrder S ep) es)[given]?).map fun e=>(e.2,slot)) s):wpAny (model prog w) A (setNext S slot given ep) Q E s:=by
 unfold setNext
 refine wpAny_bind (wpAny_setState_of ho hd hf ?_)
 unfold setsByText
 refine wpAny_bind (wpAny_bind (wpAny_askSetting (wpAny_pure ?_)))
 show wpAny _ _ (if (w.params.followText "set-order")=true then _ else _) _ _ s
 rw[if_pos z]
 show wpAny _ _ (if (ep != ep)=true then _ else _) _ _ s
 rw[if_neg (by simp)]
 unfold setWalk
 refine wpAny_bind (wpAny_bind (wpAny_setState_of ho hd hf ?_))
 unfold setsByText
 refine wpAny_bind (wpAny_bind (wpAny_askSetting (wpAny_pure ?_)))
 show wpAny _ _ (if (w.params.followText "set-order")=true then _ else _) _ _ s
 rw[if_pos z]
 exact wpAny_bind (wpAny_askSetting (wpAny_pure (wpAny_pure h)))
theorem Ql{S:Addr}{o:Obj}{es:Array (Int×Value)}{ep slot given:Nat}{t:SetTable}{Q:Option (Value×Nat)->Shared->Prop}(ho:s.heap.get? S=some o)(hd:o.data=.set es ep t)(hf:t.fits es.size=true)
  (z:w.params.followText "set-order"=false) (z2:(!t.plain&&decide (es.size>1))=false) (z3:t.led=true)
  (h:Q (match es[SetTable.below t.place slot]?,t.place[SetTable.below t.place slot]? with|some (_,x),some j=>some (x,j+1)|_,_=>none) s):wpAny (model prog w) A (setNext S slot given ep) Q E s:=by
 unfold setNext
 refine wpAny_bind (wpAny_setState_of ho hd hf ?_)
 unfold setsByText
 refine wpAny_bind (wpAny_bind (wpAny_askSetting (wpAny_pure ?_)))
 show wpAny _ _ (if (w.params.followText "set-order")=true then _ else _) _ _ s
 rw[if_neg (by rw[z];simp)]
 show wpAny _ _ (if (!t.plain&&decide (es.size>1))=true then _ else _) _ _ s
 rw[if_neg (by rw[z2];simp)]
 refine wpAny_bind ?_
 show wpAny _ _ (if (!t.led&&!es.isEmpty)=true then _ else _) _ _ s
 rw[if_neg (by rw[z3];simp)]
 exact wpAny_pure (wpAny_pure h)
theorem d9{it S T:Addr}{vs:List Value}{i:Nat}{v:Value}{Q:Option Value->Shared->Prop}(x:N7 w s.heap it S T vs i)(hv:vs[i]?=some v)
  (h:∀h',Heap.SameBut it s.heap h'->N7 w h' it S T vs (i+1)->Q (some v) { s with heap:=h' }):wpAny (model prog w) A (pyNext (.ref it)) Q E s:=by
 obtain⟨ne,o,es,ep,t,first,ho,hd,hf,hl,hi,r⟩:=x
 have hT:s.TypeIs (.ref it) "set_iterator":=⟨_,hi,rfl⟩
 unfold pyNext
 refine wpAny_bind (wpAny_attempt (wpAny_callSpecial?_slot (name:=Str.ofString "__next__") hT Fv (wpAny_call_entry Fv hT Oe ?_ (PB _))))
 unfold Builtin.«set_iterator.__next__» slotArgs
 simp only[List.isEmpty_nil,Bool.not_true,Bool.false_eq_true,↓reduceIte,List.length_nil,bne_self_eq_false]
 refine wpAny_bind (wpAny_pure ?_)
 refine wpAny_bind (wpAny_fieldsOf hi rfl ?_)
 show wpAny _ _ (setEntries S >>= _) _ _ s
 refine wpAny_bind (wpAny_setEntries_of ho hd hf ?_)
 show wpAny _ _ (if ((es.size:Int) != (es.size:Int))=true then _ else _) _ _ s
 rw[if_neg (by simp)]
 have lt:i<vs.length:=(List.getElem?_eq_some_iff.mp hv).1
 have upd1:∀{h1:Heap} {f1:Value},h1.get? it=some (K4 f1 i S es.size ep)->(h1.update it (Obj.mapFields (·.setIfInBounds 1 (rawInt ((i:Int)+1))))).get? it=some (K4 f1 (i+1) S es.size ep):=fun {h1 f1} e=>by
  rw[←dJ f1 i S es.size ep];exact Heap.get?_update_self _ e rfl
 have upd0:∀{h1:Heap} {f1 y:Value},h1.get? it=some (K4 f1 i S es.size ep)->(h1.update it (Obj.mapFields (·.setIfInBounds 0 y))).get? it=some (K4 y i S es.size ep):=fun {h1 f1 y} e=>by
  rw[←V3 f1 y i S es.size ep];exact Heap.get?_update_self _ e rfl
 cases r with
 |text k z1 z2 =>
  show wpAny _ _ (setNext S k.toNat i ep >>= _) _ _ s
  refine wpAny_bind (Rk ho hd hf z1 ?_)
  have q:=z2 i
  rw[hv] at q
  cases hp:(pickOrder (w.params.setOrder S ep) es)[i]? with
  |none=>rw[hp] at q;cases q
  |some e =>
   rw[hp] at q
   have q':v=e.2:=Option.some.inj q
   subst q'
   refine wpAny_bind (wpAny_setField hi rfl (by simp) (wpAny_bind (wpAny_setField (upd0 hi) rfl (by simp) (wpAny_pure ⟨_,rfl,wpAny_pure (h _ ((Heap.SameBut.update ..).trans (Heap.SameBut.update ..)) ⟨ne,o,es,ep,t,_,?_,hd,hf,hl,upd1 (upd0 hi),.text _ z1 z2⟩)⟩))))
   rw[Heap.get?_update_other _ _ ne,Heap.get?_update_other _ _ ne];exact ho
 |plain z1 z2 z3 z4 =>
  show wpAny _ _ (setNext S (Int.toNat ((if i=0 then 0 else t.place.getD (i-1) 0+1:Nat):Int)) i ep >>= _) _ _ s
  rw[Int.toNat_natCast]
  refine wpAny_bind (Ql ho hd hf z1 z2 z3.2 ?_)
  have psz:t.place.size=es.size:=by
   have q:=hf
   simp only[SetTable.fits,Bool.and_eq_true,beq_iff_eq] at q
   exact q.1
  have hb:SetTable.below t.place (if i=0 then 0 else t.place.getD (i-1) 0+1)=i:=by
   cases i with
   |zero=>rw[if_pos rfl];exact Vc z3.1
   |succ i=>rw[if_neg (by omega)];exact Vd z3.1 (by omega)
  rw[hb]
  have q:=z4 i
  rw[hv] at q
  have hie:i<es.size:=by omega
  have hip:i<t.place.size:=by omega
  rw[Array.getElem?_eq_getElem hie] at q ⊢
  rw[Array.getElem?_eq_getElem hip]
  have q':v=es[i].2:=Option.some.inj q
  subst q'
  show wpAny _ _ (setField (.ref it) 0 (rawInt ((t.place[i]+1:Nat):Int)) >>= _) _ _ s
  refine wpAny_bind (wpAny_setField hi rfl (by simp) (wpAny_bind (wpAny_setField (upd0 hi) rfl (by simp) (wpAny_pure ⟨_,rfl,wpAny_pure (h _ ((Heap.SameBut.update ..).trans (Heap.SameBut.update ..)) ⟨ne,o,es,ep,t,_,?_,hd,hf,hl,upd1 (upd0 hi),?_⟩)⟩))))
  .rw[Heap.get?_update_other _ _ ne,Heap.get?_update_other _ _ ne];exact ho
  .have e:t.place[i]=t.place.getD (i+1-1) 0:=by
    rw[Array.getD_eq_getD_getElem?,Nat.add_sub_cancel,Array.getElem?_eq_getElem hip];rfl
   have rr:∀hp:Heap,Road w hp es ep t S it T vs (i+1) (.int ((t.place[i]+1:Nat):Int) 0):=fun hp=>by
    have r1:Road w hp es ep t S it T vs (i+1) (.int ((if i+1=0 then 0 else t.place.getD (i+1-1) 0+1:Nat):Int) 0):=.plain z1 z2 z3 z4
    rw[if_neg (by omega),←e] at r1
    exact r1
   exact rr _
 |drawn ps z1 z2 z3 z4 =>
  show wpAny _ _ (seqItems? (.ref T) >>= _) _ _ s
  refine wpAny_bind (wpAny_seqItems z2 rfl ?_)
  have q:=z4 i
  rw[hv] at q
  cases hp:ps[i]? with
  |none=>rw[hp] at q;cases q
  |some p =>
   rw[hp] at q
   have hlt:p<es.size:=z3 p (List.mem_of_getElem? hp)
   have q2:some v=(es[p]?).map fun(e:Int×Value)=>e.2:=q
   rw[Array.getElem?_eq_getElem hlt] at q2
   have q':v=es[p].2:=Option.some.inj q2
   subst q'
   have hg:((ps.map fun(p:Nat)=>rawInt p).toArray)[i]?=some (rawInt p):=by
    rw[List.getElem?_toArray,List.getElem?_map,hp];rfl
   show wpAny _ _ (match ((ps.map fun(p:Nat)=>rawInt p).toArray)[(i:Int).toNat]? with|some (.int place _)=>_|some _=>_|none=>_) _ _ s
   rw[Int.toNat_natCast,hg]
   show wpAny _ _ (setNextDrawn S p ep >>= _) _ _ s
   unfold setNextDrawn
   refine wpAny_bind (wpAny_bind (wpAny_setState_of ho hd hf ?_))
   show wpAny _ _ (if (ep != ep)=true then _ else _) _ _ s
   rw[if_neg (by simp)]
   dsimp only
   rw[Array.getElem?_eq_getElem hlt]
   refine wpAny_pure ?_
   refine wpAny_bind (wpAny_setField hi rfl (by simp) (wpAny_pure ⟨_,rfl,wpAny_pure (h _ (Heap.SameBut.update ..) ⟨ne,o,es,ep,t,_,?_,hd,hf,hl,upd1 hi,.drawn ps z1 ?_ z3 z4⟩)⟩))
   .rw[Heap.get?_update_other _ _ ne];exact ho
   .rw[Heap.get?_update_other _ _ z1.symm];exact z2
theorem gZ{it S T:Addr}{vs:List Value}{Q:Option Value->Shared->Prop}(hh:A.handled=none)(x:N7 w s.heap it S T vs vs.length)
  (h:∀h',Heap.ExtBut it s.heap h'->Q none { s with heap:=h' }):wpAny (model prog w) A (pyNext (.ref it)) Q E s:=by
 obtain⟨ne,o,es,ep,t,first,ho,hd,hf,hl,hi,r⟩:=x
 have hT:s.TypeIs (.ref it) "set_iterator":=⟨_,hi,rfl⟩
 unfold pyNext
 refine wpAny_bind (wpAny_attempt (wpAny_callSpecial?_slot (name:=Str.ofString "__next__") hT Fv (wpAny_call_entry Fv hT Oe ?_ (PB _))))
 unfold Builtin.«set_iterator.__next__» slotArgs
 simp only[List.isEmpty_nil,Bool.not_true,Bool.false_eq_true,↓reduceIte,List.length_nil,bne_self_eq_false]
 refine wpAny_bind (wpAny_pure ?_)
 refine wpAny_bind (wpAny_fieldsOf hi rfl ?_)
 show wpAny _ _ (setEntries S >>= _) _ _ s
 refine wpAny_bind (wpAny_setEntries_of ho hd hf ?_)
 show wpAny _ _ (if ((es.size:Int) != (es.size:Int))=true then _ else _) _ _ s
 rw[if_neg (by simp)]
 have stop:∀{s1:Shared},Heap.ExtBut it s.heap s1.heap->s1={ s with heap:=s1.heap }->wpAny (model prog w) A.in1 (newExc (.type "StopIteration") [] >>= fun e=>(raiseNew e:Sem Fin)) (fun fin s'=>∃v,fin=.done (.ret v)/\wpAny (model prog w) A (pure (some v)) Q E s')
   (fun e s'=>wpAny (model prog w) A (do if ←isInstance e (.type "StopIteration") then pure none else throw e) Q E s') s1:=fun {s1} eb es1=>by
  refine wpAny_bind ?_
  simp only[newExc,newTuple]
  refine wpAny_bind (wpAny_newObj_type ?_ (by size_fits))
  refine wpAny_bind (m:=firstArgMember _ _) (wpAny_of_eq (a:=Value.none) (by first|rfl|(simp only[firstArgMember];rfl)) ?_)
  refine wpAny_newObj_type ?_ (by size_fits)
  simp only[raiseNew]
  refine wpAny_bind (wpAny_handled ?_)
  rw[show A.in1.handled=none from hh]
  refine wpAny_bind (wpAny_pure (wpAny_throw ?_))
  refine wpAny_bind (wpAny_isInstance (T:="StopIteration") (b:=true) ⟨_,Heap.get?_push_size _ rfl,rfl⟩ isSubtype_stop ?_)
  rw[if_pos rfl,es1]
  exact wpAny_pure (h _ ((eb.push _).push _))
 cases r with
 |text k z1 z2 =>
  show wpAny _ _ (setNext S k.toNat vs.length ep >>= _) _ _ s
  refine wpAny_bind (Rk ho hd hf z1 ?_)
  have q:=z2 vs.length
  rw[List.getElem?_eq_none (Nat.le_refl _)] at q
  cases hp:(pickOrder (w.params.setOrder S ep) es)[vs.length]? with
  |some e=>rw[hp] at q;cases q
  |none =>
   refine wpAny_bind (wpAny_setField hi rfl (by simp) ?_)
   exact stop (s1:={ s with heap:=s.heap.update it (Obj.mapFields (·.setIfInBounds 2 Value.none)) }) (Heap.SameBut.update ..).extBut rfl
 |plain z1 z2 z3 z4 =>
  generalize hsl:(if vs.length=0 then 0 else t.place.getD (vs.length-1) 0+1:Nat)=sl
  show wpAny _ _ (setNext S (Int.toNat (sl:Int)) vs.length ep >>= _) _ _ s
  rw[Int.toNat_natCast]
  refine wpAny_bind (Ql ho hd hf z1 z2 z3.2 ?_)
  have psz:t.place.size=es.size:=by
   have q:=hf
   simp only[SetTable.fits,Bool.and_eq_true,beq_iff_eq] at q
   exact q.1
  have hb:SetTable.below t.place sl=vs.length:=by
   rw[←hsl]
   generalize vs.length=n at hl
   cases n with
   |zero=>rw[if_pos rfl];exact Vc z3.1
   |succ i=>rw[if_neg (by omega)];exact Vd z3.1 (by omega)
  rw[hb,hl,Array.getElem?_eq_none (Nat.le_refl _)]
  refine wpAny_bind (wpAny_setField hi rfl (by simp) ?_)
  exact stop (s1:={ s with heap:=s.heap.update it (Obj.mapFields (·.setIfInBounds 2 Value.none)) }) (Heap.SameBut.update ..).extBut rfl
 |drawn ps z1 z2 z3 z4 =>
  show wpAny _ _ (seqItems? (.ref T) >>= _) _ _ s
  refine wpAny_bind (wpAny_seqItems z2 rfl ?_)
  have q:=z4 vs.length
  rw[List.getElem?_eq_none (Nat.le_refl _)] at q
  have hg:((ps.map fun(p:Nat)=>rawInt p).toArray)[vs.length]?=none:=by
   rw[List.getElem?_toArray,List.getElem?_map]
   cases hp:ps[vs.length]? with
   |none=>rfl
   |some p =>
    rw[hp] at q
    have hlt:p<es.size:=z3 p (List.mem_of_getElem? hp)
    have q2:none=(es[p]?).map fun(e:Int×Value)=>e.2:=q
    rw[Array.getElem?_eq_getElem hlt] at q2
    cases q2
  show wpAny _ _ (match ((ps.map fun(p:Nat)=>rawInt p).toArray)[(vs.length:Int).toNat]? with|some (.int place _)=>_|some _=>_|none=>_) _ _ s
  rw[Int.toNat_natCast,hg]
  refine wpAny_bind (wpAny_setField hi rfl (by simp) ?_)
  have e0:(s.heap.update it (Obj.mapFields (·.setIfInBounds 0 (rawInt 0)))).get? it=some (K4 (rawInt 0) vs.length S es.size ep):=by
   rw[←V3 (.ref T) (rawInt 0) vs.length S es.size ep];exact Heap.get?_update_self _ hi rfl
  refine wpAny_bind (wpAny_setField e0 rfl (by simp) ?_)
  exact stop (s1:={ s with heap:=(s.heap.update it (Obj.mapFields (·.setIfInBounds 0 (rawInt 0)))).update it (Obj.mapFields (·.setIfInBounds 2 Value.none)) }) ((Heap.SameBut.update ..).trans (Heap.SameBut.update ..)).extBut rfl
end
end SetP
end
section
set_option maxRecDepth 100000
namespace SetP
open PySem PyProof.Rows
theorem Ow:Slot "set_iterator" "__iter__" "set_iterator.__iter__" :=
 .of (owner:="set_iterator") (n:="__iter__") (by rw[typeLookup_type,builtinLookup_eq_fast];kernel_rfl) (by decide +kernel) (by decide +kernel) (by decide +kernel)
  (by first|exact .inl (by decide +kernel)|exact .inr (by decide +kernel)) (by rw[isSubtype_type];kernel_rfl)
theorem Uh:entryFor table "set_iterator.__iter__"=some Builtin.«dict_keyiterator.__iter__» :=
 entryFor_alias (id':="dict_keyiterator.__iter__") (by kernel_rfl) rfl (by decide +kernel) (by kernel_rfl)
theorem Vn(a:Value):argsOk "set_iterator.__iter__" ⟨[a],[]⟩:=by unfold argsOk;kernel_rfl
theorem dG:typeLookup (.type "set") "__len__"=pure (some (.builtin "set.__len__")):=F.slot_set_len.lookup
section
variable{prog:Program}{w:World}{A:Around}{E:Value->Shared->Prop}{s:Shared}
theorem ni(hh:A.handled=none)(it S T:Addr)(vs:List Value):Walks prog w A it [it,S,T] [it] vs.length (fun i v=>vs[i]?=some v) (fun i h=>N7 w h it S T vs i) where
 sub:=fun b hb=>by simp at hb;subst hb;simp
 frame:=fun i h h' x k=>x.keep fun b hb o e=>k b hb o e
 item:=fun i s Q E hi x hQ=>by
  have hv:vs[i]?=some vs[i]:=List.getElem?_eq_getElem hi
  exact d9 x hv fun h' sb x'=>hQ _ h' s.toks hv x' fun b o hb e=>(sb.2 b (by simpa using hb)).trans e
 done:=fun s Q E x hQ=>gZ hh x fun h' eb=>hQ h' s.toks fun b o hb e=>eb b o (by simpa using hb) e
 self:=fun i s Q E x hQ=>by
  obtain⟨_,o,es,ep,t,first,_,_,_,_,hi,_⟩:=x
  have hT:s.TypeIs (.ref it) "set_iterator":=⟨_,hi,rfl⟩
  refine wpAny_pyIter_slot hT Ow (wpAny_call_entry Ow hT Uh ?_ (Vn _))
  show wpAny _ _ (ret (.ref it)) _ _ s
  exact wpAny_pure ⟨_,rfl,"set_iterator",_,hT,Fv.lookup,hQ⟩
theorem vO{S:Addr}{Q:Bool->Shared->Prop}(hT:s.TypeIs (.ref S) "set")(h:Q false s):wpAny (model prog w) A (Builtin.List.listLengthHint (.ref S)) Q E s:=by
 unfold Builtin.List.listLengthHint
 refine wpAny_bind (wpAny_specialOf hT dG ?_)
 have hs:splitId "set.__len__"=some ("set","__len__"):=by decide +kernel
 dsimp only
 rw[hs]
 dsimp only
 refine wpAny_bind (wpAny_isInstance hT sub_set_self ?_)
 simp only[Bool.not_true,Bool.false_eq_true,if_false]
 refine wpAny_bind (wpAny_typeOf hT ?_)
 exact wpAny_pure h
theorem iW{S:Addr}{ds:List Int}{Q:List Value->Shared->Prop}(hh:A.handled=none)(hS:SetT prog w s.heap S ds)(h64:ds.length<64)
  (h:∀h' d' tk vs ns,(∀b o,s.heap.get? b=some o->h'.get? b=some o)->IntsAre vs ns->ns.Perm ds->Q vs { s with heap:=h',drawn:=d',toks:=tk }):wpAny (model prog w) A (collect (.ref S)) Q E s:=by
 obtain⟨o,ho,hex⟩:∃o,s.heap.get? S=some o/\o.ExactSet:=by
  obtain⟨_,o,es,ep,t,ho,hex,_⟩:=hS
  exact⟨o,ho,hex⟩
 have hlt:=Heap.lt_size ho
 unfold collect
 refine wpAny_bind (wpAny_runValue (codeAny_builtin F.entry_proto_collect ?_))
 rw[Around.under_plainId F.plain_proto_collect _]
 show wpAny _ A.in1 (newList [] >>= fun l=>again (.builtin "list.__iadd__" ⟨[l,.ref S],[]⟩)) _ _ s
 refine wpAny_bind (wpAny_newObj_type (wpAny_pure ⟨plainId_quiet F.plain_list_iadd _,codeAny_builtin F.entry_list_iadd ?_⟩))
 rw[Around.under_plainId F.plain_list_iadd _]
 generalize hL:s.heap.objs.size=L
 generalize hg:s.heap.push { cls:=.type "list",dict:=none,data:=.seq ([]:List Value).toArray }=g
 have k1:∀b o,s.heap.get? b=some o->g.get? b=some o:=fun b o e=>hg ▸ Heap.get?_push_of_some _ e
 have hLg:g.get? L=some { cls:=.type "list",data:=.seq ([]:List Value).toArray }:=hg ▸ hL ▸ Heap.get?_push_size _ rfl
 have hsz:g.objs.size=L+1:=by rw[←hg,Heap.size_push,hL]
 have hLS:L≠S:=by rw[←hL];exact Nat.ne_of_gt hlt
 have hT:Shared.TypeIs { s with heap:=g } (.ref S) "set":=⟨o,k1 _ _ ho,hex.1⟩
 show wpAny _ A.in1 (Builtin.List.listExtendWith (.ref L) (.ref S) (.ref L)) _ _ _
 unfold Builtin.List.listExtendWith
 refine wpAny_bind (wpAny_typeOf hT ?_)
 have h1:Builtin.List.listSameRef (.ref L) (.ref S)=false:=by simp[Builtin.List.listSameRef,hLS]
 have h2:(Value.type "set"==Value.type "list")=false:=by decide
 have h3:(Value.type "set"==Value.type "tuple")=false:=by decide
 simp only[h1,h2,h3,Bool.or_false,Bool.false_eq_true,if_false]
 refine wpAny_bind (vM (s:={ s with heap:=g }) (hS.sameBut fun o e=>k1 _ _ e) fun g2 d2 it T vs k2 hit hTT x ⟨ns,hi,hp⟩=>?_)
 have hT2:Shared.TypeIs { s with heap:=g2,drawn:=d2 } (.ref S) "set":=⟨o,k2 _ _ (k1 _ _ ho),hex.1⟩
 refine wpAny_bind (wpAny_holding (vO hT2 ?_))
 have hit':L<it:=by
  have hit2:g.objs.size<=it:=hit
  omega
 show wpAny _ A.in1 (rule "list.extend.makes-room" >>= fun _=>Builtin.List.listTouch (.ref L) >>= fun _=>again (.builtin "list.extend.loop" ⟨[.ref L,.ref it,.ref L],[]⟩)) _ _ _
 refine wpAny_bind (wpAny_rule (wpAny_bind ?_))
 have e1:=k2 _ _ hLg
 show wpAny _ A.in1 (updateSeq L (·.push .none) >>= fun _=>updateSeq L (·.pop)) _ _ _
 refine wpAny_bind (wpAny_updateSeq e1 rfl ?_)
 have e2:=Heap.get?_update_self (Obj.mapSeq (·.push Value.none)) e1 rfl
 refine wpAny_updateSeq e2 rfl ?_
 have e3:=Heap.get?_update_self (Obj.mapSeq (·.pop)) e2 rfl
 have oth:∀b o,b≠L->g2.get? b=some o->((g2.update L (Obj.mapSeq (·.push Value.none))).update L (Obj.mapSeq (·.pop))).get? b=some o:=fun b o hb e=>(Heap.get?_update_other _ _ (Ne.symm hb)).trans ((Heap.get?_update_other _ _ (Ne.symm hb)).trans e)
 have hvn:vs.length=ns.length:=IntsAre.length hi
 have hv64:vs.length<64:=by rw[hvn,hp.length_eq];exact h64
 have hz:vs.length<=sizeLine:=by rw[sizeLine_eq];omega
 have nin:L ∉ [it,S,T]:=fun z=>by
  simp only[List.mem_cons,List.not_mem_nil,or_false] at z
  rcases z with z|z|z
  .omega
  .exact hLS z
  .rcases hTT with q|q
   .exact hLS (z.trans q)
   .have q':g.objs.size<=T:=q
    omega
 have W:=(ni (prog:=prog) (w:=w) (A:=A.in1) (by simpa using hh) it S T vs).toS
 have x3:N7 w ((g2.update L (Obj.mapSeq (·.push Value.none))).update L (Obj.mapSeq (·.pop))) it S T vs 0:=x.keep fun b hb o e=>oth b o (fun z=>nin (z ▸ hb)) e
 refine wpAny_pure ⟨plainId_quiet F.plain_extend_loop _,codeAny_extend_loopS W hz L nin _ vs.length 0 _ _ _ (by omega) (Nat.zero_le _) x3 e3 (ItemsOf.nil _) fun s' acc c hm hS' hacc=>?_⟩
 show wpAny _ A (load L >>= _) _ _ s'
 refine wpAny_bind (wpAny_load hS' ?_)
 have eacc:acc.toList=vs:=by
  apply List.ext_getElem?
  intro j
  rw[Array.getElem?_toList]
  cases hj:acc[j]? with
  |some v=>exact(hacc.2 j v hj).symm
  |none =>
   have:acc.size<=j:=by simpa using hj
   rw[hacc.1] at this
   exact(List.getElem?_eq_none this).symm
 obtain⟨h',g',d',tk,os'⟩:=s'
 have q1:g'=s.gens:=hm.gens
 have q2:os'=s.os:=hm.os
 subst q1 q2
 refine wpAny_pure ?_
 show Q acc.toList _
 rw[eacc]
 refine h h' d' tk vs ns (fun b o e=>hm.heap b o ?_ (oth b o ?_ (k2 _ _ (k1 _ _ e)))) hi hp
 .have hb:b<L:=by rw[←hL];exact Heap.lt_size e
  intro z
  rcases List.mem_cons.mp z with z|z
  .exact absurd z (Nat.ne_of_lt hb)
  .exact absurd (List.mem_singleton.mp z) (Nat.ne_of_lt (Nat.lt_trans hb hit'))
 .exact Nat.ne_of_lt (by rw[←hL];exact Heap.lt_size e)
theorem Ve{h:Heap}{a:Addr}{vs:List Value}{n:Nat}{out:Array Value}(ho:h.get? a=some (seqObj "list" vs.toArray n)):∃n',(sortedHeap h a vs out).get? a=some (seqObj "list" out n'):=by
 unfold sortedHeap
 have q1:=get?_update_seq ho (fun _=>#[])
 exact⟨_,get?_update_seq (Heap.get?_push_of_some _ (Heap.get?_push_of_some _ q1)) (fun _=>out)⟩
theorem Uc{h:Heap}{a b:Addr}{vs:List Value}{out:Array Value}{o:Obj}(hb:b≠a)(ho:h.get? b=some o):(sortedHeap h a vs out).get? b=some o:=by
 unfold sortedHeap
 rw[Heap.get?_update_other _ _ (Ne.symm hb)]
 exact Heap.get?_push_of_some _ (Heap.get?_push_of_some _ ((Heap.get?_update_other _ _ (Ne.symm hb)).trans ho))
theorem jZ{S:Addr}{ds:List Int}{Q:Value->Shared->Prop}(hh:A.handled=none)(hS:SetT prog w s.heap S ds)(h64:ds.length<64)
  (h:∀h' d' tk l vs ns n,(∀b o,s.heap.get? b=some o->h'.get? b=some o)->(∀b o,s.heap.get? b=some o->b<l)->h'.get? l=some { cls:=.type "list",data:=.seq vs n }->IntsAre vs.toList ns->ns.Perm ds->ns.Pairwise (·<=·)->Q (.ref l) { s with heap:=h',drawn:=d',toks:=tk }) :
  wpAny (model prog w) A (call (.builtin "sorted") [.ref S]) Q E s:=by
 refine Calls.call_function_entry kind_sorted plain_sorted entry_sorted (args_sorted1 _) ?_
 unfold Builtin.«sorted»
 refine wpAny_bind (m:=checkCount "sorted" 1 1 _) (wpAny_pure ?_)
 refine wpAny_bind (iW (A:=A.in1) (by simpa using hh) hS h64 fun h1 d1 t1 vs ns k1 hi hp=>?_)
 have hv64:vs.length<64:=by rw[show vs.length=ns.length from IntsAre.length hi,hp.length_eq];exact h64
 refine wpAny_bind (wpAny_newList ?_)
 have hoL:(h1.push (seqObj "list" vs.toArray 0)).get? h1.objs.size=some (seqObj "list" vs.toArray 0):=Heap.get?_push_size _ rfl
 show wpAny _ _ _ _ _ { s with heap:=h1.push (seqObj "list" vs.toArray 0),drawn:=d1,toks:=t1 }
 refine wpAny_bind (wpAny_holding (wpAny_call_entry slot_list_sort ⟨_,hoL,rfl⟩ entry_list_sort (list_sort_tree hoL hi hv64 fun out ns' a1 a2 a3=>⟨_,rfl,?_⟩) (args_list_sort _)))
 refine wpAny_pure ⟨_,rfl,?_⟩
 have old:∀b o,s.heap.get? b=some o->b≠h1.objs.size:=fun b o e=>Nat.ne_of_lt (Heap.lt_size (k1 b o e))
 obtain⟨n',e'⟩:=Ve (out:=out) hoL
 refine h _ d1 t1 h1.objs.size out ns' n' (fun b o e=>Uc (old b o e) (Heap.get?_push_of_some _ (k1 b o e))) (fun b o e=>Heap.lt_size (k1 b o e)) e' a1 (a2.trans hp) a3
end
end SetP
end
section
namespace L2
open PySem PySem.Spec PyProof.Rows
def PTs(X:Cx)(ifs:List Expr)(t:TT):Prop :=
 ∀(pins:List (Addr×Obj))(s:Shared)(σ:St)(H:Hp)(Q:Bool->Hp->Prop),Inv X pins σ H s->t σ H Q ->
  wpAny (model X.prog X.w) X.A (forIn ifs true fun c r=>if r=true then do let ok ←isTrue c X.env (eval c X.env);pure (ForInStep.yield ok) else pure (ForInStep.yield r)) (TP X pins σ Q) X.xe s
def Fz:TT:=fun _ H Q=>Q true H
theorem oV{X:Cx}:PTs X [] Fz:=fun _ _ _ H _ I h=>wpAny_pure ⟨H,I,h⟩
theorem oU{X:Cx}{c:Expr}{t:TT}(h:PT X c t):PTs X [c] t:=by
 intro pins s σ H Q I hw
 rw[List.forIn_cons]
 simp only[if_true]
 refine wpAny_bind (wpAny_bind (thn (h pins s σ H Q I hw) fun b s1 hb=>wpAny_pure ?_))
 show wpAny _ _ (pure b) _ _ _
 exact wpAny_pure hb
def Low(k:Nat)(g:TG):Prop:=∀x σ H Q,g x σ H Q->g x σ H fun σ' H'=>Q σ' H'/\σ'.length=σ.length/\∀j,k<=j->σ'[j]?=σ[j]?
def Xu(k:Nat)(g:TGs):Prop:=∀x σ H Q,g x σ H Q->g x σ H fun σ' H'=>Q σ' H'/\σ'.length=σ.length/\∀j,k<=j->σ'[j]?=σ[j]?
theorem lE{k i:Nat}(h:i<k):Low k (Xj i):=fun x σ H Q q =>
 ⟨q,List.length_set ..,fun j hj=>List.getElem?_set_ne (by omega)⟩
theorem pX{k:Nat}:Xu k jA:=fun _ _ _ _ ⟨e,q⟩=>⟨e,q,rfl,fun _ _=>rfl⟩
theorem lG{k:Nat}{t:TG}{u:TGs}(ht:Low k t)(hu:Xu k u)(mono:∀x σ H Q Q',(∀σ' H',Q σ' H'->Q' σ' H')->t x σ H Q->t x σ H Q')
  (monoU:∀x σ H Q Q',(∀σ' H',Q σ' H'->Q' σ' H')->u x σ H Q->u x σ H Q'):Xu k (cO t u):=fun x σ H Q ⟨v,r,e,q⟩=>by
 refine⟨v,r,e,mono v σ H _ _ (fun σ1 H1 z=>?_) (ht v σ H _ q)⟩
 obtain⟨z1,z2,z3⟩:=z
 exact monoU r σ1 H1 _ _ (fun σ2 H2 y=>⟨y.1,y.2.1.trans z2,fun j hj=>(y.2.2 j hj).trans (z3 j hj)⟩) (hu r σ1 H1 _ z1)
theorem pW{K:PySem.W.Frag}{n k:Nat}{t:TGs}(h:Xu k t):Low k (j9 K n t):=fun x σ H Q ⟨a,xs,e,hs,hl,q⟩=>⟨a,xs,e,hs,hl,h xs σ H Q q⟩
def compLook(sc:Scope)(N N2:List Str)(k:Nat)(caps:List Nat)(scope:Scope):Bool :=
 decide (scope.kind=.function)&&scope.names.all (fun y=>decide (y.2≠.cell)||decide (scope.names.lookup y.1=some .cell))&&scope.names.all (fun y=>decide (y.2≠.local)||decide (scope.names.lookup y.1=some .local)) &&
 scope.names.all (fun y=>decide (y.2≠.free)||decide (sc.names.lookup y.1=some .cell)||decide (sc.names.lookup y.1=some .free))&&decide N2.Nodup&&decide (N2.length=k+caps.length) &&
 (List.range caps.length).all fun j=>match caps[j]?,N2[k+j]? with
  |some i,some y=>decide (N[i]?=some y)&&decide (scope.names.lookup y=some .free)
  |_,_=>false
structure Dy(sc:Scope)(N N2:List Str)(k:Nat)(caps:List Nat)(scope:Scope):Prop where
 kind:scope.kind=.function
 one:∀y∈scope.names,y.2=.cell->scope.names.lookup y.1=some .cell
 loc:∀y∈scope.names,y.2=.local->scope.names.lookup y.1=some .local
 free:∀y∈scope.names,y.2=.free->sc.names.lookup y.1=some .cell∨sc.names.lookup y.1=some .free
 nd:N2.Nodup
 len:N2.length=k+caps.length
 cap:∀j i,caps[j]?=some i->∃y,N2[k+j]?=some y/\N[i]?=some y/\scope.names.lookup y=some .free
theorem Dy.of{sc:Scope}{N N2:List Str}{k:Nat}{caps:List Nat}{scope:Scope}(h:compLook sc N N2 k caps scope=true):Dy sc N N2 k caps scope:=by
 unfold compLook at h
 simp only[Bool.and_eq_true,List.all_eq_true,Bool.or_eq_true,decide_eq_true_eq] at h
 obtain⟨⟨⟨⟨⟨⟨h1,h2⟩,h3⟩,h4⟩,h5⟩,h6⟩,h7⟩:=h
 refine⟨h1,fun y hy e=>?_,fun y hy e=>?_,fun y hy e=>?_,h5,h6,fun j i e=>?_⟩
 .rcases h2 y hy with z|z
  .exact absurd e z
  .exact z
 .rcases h3 y hy with z|z
  .exact absurd e z
  .exact z
 .rcases h4 y hy with (z|z)|z
  .exact absurd e z
  .exact .inl z
  .exact .inr z
 .have hj:j∈List.range caps.length:=List.mem_range.mpr (List.getElem?_eq_some_iff.mp e).1
  have q:=h7 j hj
  rw[e] at q
  cases hy:N2[k+j]? with
  |none=>rw[hy] at q;exact absurd q (by simp)
  |some y =>
   rw[hy] at q
   simp only[Bool.and_eq_true,decide_eq_true_eq] at q
   exact⟨y,rfl,q.1,q.2⟩
theorem Rm{env:Env}:∀{names:List (Str×NameKind)} {x:Str},names.lookup x=some .free ->
  (names.map fun(n,k)=>if (k==NameKind.free&&env.scope.kind==.function&&env.kindOf n==some .cell) then (n,NameKind.cell) else (n,k)).lookup x=some .cell ∨
  (names.map fun(n,k)=>if (k==NameKind.free&&env.scope.kind==.function&&env.kindOf n==some .cell) then (n,NameKind.cell) else (n,k)).lookup x=some .free
 |[],_,h=>by simp at h
 |(n,k)::r,x,h=>by
  have ih:=@Rm env r x
  show List.lookup x ((if (k==NameKind.free&&env.scope.kind==.function&&env.kindOf n==some .cell)=true then (n,NameKind.cell) else (n,k))::_)=_∨List.lookup x ((if (k==NameKind.free&&env.scope.kind==.function&&env.kindOf n==some .cell)=true then (n,NameKind.cell) else (n,k))::_)=_
  cases hx:x==n with
  |true =>
   simp only[List.lookup_cons,hx] at h
   cases h
   by_cases hc:(NameKind.free==NameKind.free&&env.scope.kind==.function&&env.kindOf n==some .cell)=true
   .rw[if_pos hc];left;simp only[List.lookup_cons,hx]
   .rw[if_neg hc];right;simp only[List.lookup_cons,hx]
  |false =>
   simp only[List.lookup_cons,hx] at h
   by_cases hc:(k==NameKind.free&&env.scope.kind==.function&&env.kindOf n==some .cell)=true
   .rw[if_pos hc];simp only[List.lookup_cons,hx];exact ih h
   .rw[if_neg hc];simp only[List.lookup_cons,hx];exact ih h
theorem Rn{env:Env}:∀{names:List (Str×NameKind)} {x:Str},
  ((names.map fun(n,k)=>if (k==NameKind.free&&env.scope.kind==.function&&env.kindOf n==some .cell) then (n,NameKind.cell) else (n,k)).lookup x=some .cell ∨
   (names.map fun(n,k)=>if (k==NameKind.free&&env.scope.kind==.function&&env.kindOf n==some .cell) then (n,NameKind.cell) else (n,k)).lookup x=some .free)->names.lookup x=some .free∨names.lookup x=some .cell
 |[],_,h=>by simp at h
 |(n,k)::r,x,h=>by
  have ih:=@Rn env r x
  cases hx:x==n with
  |true =>
   simp only[List.lookup_cons,hx]
   by_cases hf:k=.free
   .rw[hf];exact .inl rfl
   .have hkf:(k==NameKind.free)=false:=by
     cases k<;>first|rfl|exact absurd rfl hf
    simp only[List.map_cons,hkf,Bool.false_and,Bool.false_eq_true,if_false,List.lookup_cons,hx] at h
    rcases h with z|z
    .exact .inr z
    .exact absurd (Option.some.inj z) hf
  |false =>
   simp only[List.lookup_cons,hx]
   refine ih ?_
   have h':List.lookup x ((if (k==NameKind.free&&env.scope.kind==.function&&env.kindOf n==some .cell)=true then (n,NameKind.cell) else (n,k))::List.map _ r)=some .cell∨List.lookup x ((if (k==NameKind.free&&env.scope.kind==.function&&env.kindOf n==some .cell)=true then (n,NameKind.cell) else (n,k))::List.map _ r)=some .free:=h
   by_cases hcc:(k==NameKind.free&&env.scope.kind==.function&&env.kindOf n==some .cell)=true
   .rw[if_pos hcc] at h';simp only[List.lookup_cons,hx] at h';exact h'
   .rw[if_neg hcc] at h';simp only[List.lookup_cons,hx] at h';exact h'
theorem J3:∀(names:List (Str×NameKind))(n:Nat)(acc:List (Str×Addr)),cellsFrom n names acc=cellsFrom n names []++acc
 |[],_,_=>rfl
 |(x,k)::r,n,acc=>by
  unfold cellsFrom
  split
  .rw[J3 r (n+1) ((x,n)::acc),J3 r (n+1) [(x,n)],List.append_assoc];rfl
  .exact J3 r n acc
theorem Ms:∀(names:List (Str×NameKind))(n:Nat){x:Str}{c:Addr},(x,c)∈cellsFrom n names []->(x,NameKind.cell)∈names
 |[],_,_,_,h=>by simp[cellsFrom] at h
 |(y,k)::r,n,x,c,h=>by
  unfold cellsFrom at h
  split at h
  .rename_i hk
   rw[J3] at h
   rcases List.mem_append.mp h with z|z
   .exact List.mem_cons_of_mem _ (Ms r (n+1) z)
   .have z':(x,c)=(y,n):=by simpa using z
    have hk':k=.cell:=by simpa using hk
    cases z'
    rw[hk'];exact List.mem_cons_self
  .exact List.mem_cons_of_mem _ (Ms r n h)
theorem dF{cs ds:List (Str×Addr)}{x:Str}{c:Addr}(h:(cs++ds).lookup x=some c):cs.lookup x=some c∨(cs.lookup x=none/\ds.lookup x=some c):=by
 rw[List.lookup_append] at h
 cases e:cs.lookup x with
 |none=>rw[e] at h;exact .inr ⟨rfl,h⟩
 |some d=>rw[e] at h;exact .inl h
theorem Zt{M:Model}{A:Around}{E:Value->Shared->Prop}{s:Shared}{scope:Scope}{globals:Addr}{cl:List (Str×Addr)}{qual:Str}{env:Env}{Q:Env->Shared->Prop}
  (hQ:∀h':Heap,h'.Ns s.heap.objs.size (fun _=>none)->(∀b o,s.heap.get? b=some o->h'.get? b=some o)->CellsOk h' (s.heap.objs.size+1) (cellsFrom (s.heap.objs.size+1) scope.names []) ->
   Q { scope,locals:=s.heap.objs.size,globals,cells:=cellsFrom (s.heap.objs.size+1) scope.names []++cl,qual,func:=none,code:=env.code,frame:=env.frame,builtins:=env.builtins } { s with heap:=h' }) :
  wpAny M A (newFunctionEnv scope globals cl [] qual none .none (some env)) Q E s:=by
 simp only[newFunctionEnv,Option.isSome_some,if_true]
 refine wpAny_bind (wpAny_alloc ?_)
 refine wpAny_bind (wpAny_layCells _ (fun name kind cells=>by cases hkc:kind==NameKind.cell<;>simp[hkc]) _ _ _ _ ?_)
 rw[show({ s with heap:=s.heap.push { cls:=.type "dict",data:=.dict #[] } }:Shared).heap.objs.size=s.heap.objs.size+1 from Heap.size_push ..]
 have ok:=cellsFrom_ok scope.names (s.heap.push { cls:=.type "dict",data:=.dict #[] }) (s.heap.objs.size+1) [] ⟨fun _ _ hm=>(nomatch hm),List.Pairwise.nil⟩ (by rw[Heap.size_push];exact Nat.le_refl _)
 rw[Heap.size_push] at ok
 rw[J3]
 refine wpAny_bind ?_
 rw[List.forIn_nil]
 refine wpAny_pure (wpAny_pure (hQ _ ?_ ?_ ok))
 .exact(Heap.Ns.new s.heap (.type "dict")).keeps (pushCells_keeps _ _)
 .exact fun b o e=>pushCells_keeps _ _ b o (Heap.get?_push_of_some _ e)
theorem VL{scope:Scope}{env:Env}(h:∀y∈scope.names,y.2=.free->∃c,env.cells.lookup y.1=some c) :
  ∃cl,closureFor scope env=pure cl/\(∀x c,cl.lookup x=some c->env.cells.lookup x=some c)/\∀x,scope.names.lookup x=some .free->∃c,cl.lookup x=some c:=by
 have all:∀(names:List (Str×NameKind))(cs:List (Str×Addr)),(∀y∈names,y.2=.free->∃c,env.cells.lookup y.1=some c)->(∀x c,cs.lookup x=some c->env.cells.lookup x=some c) ->
   ∃cl,(forIn names cs (fun(x:Str×NameKind) (cs:List (Str×Addr))=>(match x with
     |(name,kind)=>if (kind==NameKind.free)=true then (cellOf env name >>= fun a=>pure (ForInStep.yield ((name,a)::cs))) else pure (ForInStep.yield cs):Sem (ForInStep (List (Str×Addr)))) ):Sem (List (Str×Addr)))=pure cl /\
    (∀x c,cl.lookup x=some c->env.cells.lookup x=some c)/\(∀x c,cs.lookup x=some c->∃c',cl.lookup x=some c')/\∀x,names.lookup x=some .free->∃c,cl.lookup x=some c:=by
  intro names
  induction names with
  |nil=>intro cs _ hc;exact⟨cs,rfl,hc,fun x c e=>⟨c,e⟩,fun x e=>by simp at e⟩
  |cons y r ih =>
   intro cs hy hc
   obtain⟨n,kd⟩:=y
   by_cases hk:kd=.free
   .subst hk
    obtain⟨c,hcn⟩:=hy (n,.free) List.mem_cons_self rfl
    have hc':∀x c',((n,c)::cs).lookup x=some c'->env.cells.lookup x=some c':=fun x c' e=>by
     rw[List.lookup_cons] at e
     cases hx:x==n with
     |true =>
      rw[hx] at e
      have hxn:x=n:=by simpa using hx
      rw[hxn,hcn];exact e
     |false=>rw[hx] at e;exact hc x c' e
    obtain⟨cl,e1,e2,e3,e4⟩:=ih ((n,c)::cs) (fun z hz=>hy z (List.mem_cons_of_mem _ hz)) hc'
    refine⟨cl,?_,e2,fun x c' e=>?_,fun x e=>?_⟩
    .rw[List.forIn_cons]
     have hb:(NameKind.free==NameKind.free)=true:=rfl
     simp only[hb,if_true,cellOf,hcn,pure_bind]
     exact e1
    .by_cases hx:(x==n)=true
     .exact e3 x c (by rw[List.lookup_cons,hx])
     .have hx':(x==n)=false:=by simpa using hx
      exact e3 x c' (by rw[List.lookup_cons,hx'];exact e)
    .rw[List.lookup_cons] at e
     cases hx:x==n with
     |true=>exact e3 x c (by rw[List.lookup_cons,hx])
     |false=>rw[hx] at e;exact e4 x e
   .have hb:(kd==NameKind.free)=false:=by
     cases kd<;>first|rfl|exact absurd rfl hk
    obtain⟨cl,e1,e2,e3,e4⟩:=ih cs (fun z hz=>hy z (List.mem_cons_of_mem _ hz)) hc
    refine⟨cl,?_,e2,e3,fun x e=>?_⟩
    .rw[List.forIn_cons]
     simp only[hb,Bool.false_eq_true,if_false,pure_bind]
     exact e1
    .rw[List.lookup_cons] at e
     cases hx:x==n with
     |true=>rw[hx] at e;exact absurd (Option.some.inj e) hk
     |false=>rw[hx] at e;exact e4 x e
 obtain⟨cl,e1,e2,_,e4⟩:=all scope.names [] h (fun x c e=>by simp at e)
 refine⟨cl,?_,e2,e4⟩
 unfold closureFor
 rw[←bind_pure (pure cl:Sem _),←e1]
abbrev Dw(X:Cx)(N2:List Str)(scope:Scope)(cl:List (Str×Addr))(C:Addr)(s:Shared)(H:Hp)(ex:List Addr):Cx :=
 { X with N:=N2,s₀:=s,H₀:=H,env:=compEnvC scope cl C X.env,outer:=X.stack,ex:=ex,fn:=fun x=>decide (scope.names.lookup x=some .cell),pn:=[],xe:=fun _ _=>False }
def Ju(k:Nat)(caps:List Nat)(σ:St):St:=List.replicate k none++caps.map fun j=>(σ[j]?).join
def xu(J:It)(k:Nat)(caps:List Nat)(σ:St)(g:TG)(tt:TT)(te:TE)(Q:VK)(H1:Hp):Prop:=∃W:Nat->Nat->List V->Hp->Prop,(∃m,W 0 m [] H1)/\∀i m ys H,W i m ys H ->
 (J.stop i H/\∀p,H p=none->Q (.ref p) (upd H p (.lst ys))) ∨
 (J.go i H/\ys.length<sizeLine/\∀x H',J.yld i H x H'->g x (Ju k caps σ) H' fun σ2 H2=>tt σ2 H2 fun b H3 =>
  if b=true then te σ2 H3 fun v H4=>∃m',m'<m/\W (i+1) m' (ys++[v]) H4 else ∃m',m'<m/\W (i+1) m' ys H3)
def cI(k:Nat)(caps:List Nat)(wi:TI)(g:TG)(tt:TT)(te:TE):TE:=fun σ H Q=>wi σ H fun J H1=>xu J k caps σ g tt te Q H1
theorem bO{k:Nat}{caps:List Nat}{σ:St}{i:Nat}{v:V}(h:(Ju k caps σ)[i]?=some (some v)):∃j a,i=k+j/\caps[j]?=some a/\σ[a]?=some (some v):=by
 unfold Ju at h
 by_cases hi:i<k
 .rw[List.getElem?_append_left (by simpa using hi),List.getElem?_replicate,if_pos hi] at h
  cases h
 .rw[List.getElem?_append_right (by simpa using hi),List.length_replicate,List.getElem?_map] at h
  cases e:caps[i-k]? with
  |none=>rw[e] at h;cases h
  |some a =>
   rw[e] at h
   have h':(σ[a]?).join=some v:=Option.some.inj h
   refine⟨i-k,a,by omega,e,?_⟩
   cases e2:σ[a]? with
   |none=>rw[e2] at h';cases h'
   |some o =>
    rw[e2] at h'
    cases o with
    |none=>cases h'
    |some v' =>
     have h'':some v'=some v:=h'
     rw[h'']
theorem Ls{a b n:Nat}(h1:a<n)(h2:n<=b):a≠b:=by omega
section
variable{X:Cx}{pins:List (Addr×Obj)}{σ:St}
theorem Inv.but{H:Hp}{s:Shared}{C:Addr}{h':Heap}(I:Inv X pins σ H s)(hb:Heap.SameBut C s.heap h')(hn:H C=none)(hL:C≠X.env.locals)(h1:X.s₀.heap.objs.size<=C)(h2:∀x c,X.env.cells.lookup x=some c->c≠C)(h3:∀p∈X.pn++pins,p.1≠C) :
  Inv X pins σ H { s with heap:=h' }:=I.turned (t':=s.toks) (fun b o hne e=>(hb.2 b hne).trans e) hn hL (.inr h1) h2 h3
theorem VJ{s2:Shared}{H2:Hp}{elt tg iter:Expr}{ifs:List Expr}{scope:Scope}{pos:Pos}{N2:List Str}{k:Nat}{caps:List Nat}{cl:List (Str×Addr)}{g:TG}{tt:TT}{te:TE}{E:Value->Shared->Prop}
  {it:Addr} {fp:List Addr} {tn:Nat->Heap->Prop} {J:It} {RR:Value->Addr->Result->Shared->Prop} {Qe:List V->Hp->Prop} {W:Nat->Nat->List V->Hp->Prop} {m0:Nat}
  (hc:X.calm=true) (hS:Dy X.env.scope X.N N2 k caps scope) (hlow:Low k g)
  (hcl:∀x c,cl.lookup x=some c->X.env.cells.lookup x=some c) (hcf:∀x,scope.names.lookup x=some .free->∃c,cl.lookup x=some c)
  (hb:∀(cl:List (Str×Addr))(C:Addr)(s:Shared)(H:Hp)(ex:List Addr),PG (Dw X N2 scope cl C s H ex) tg g/\PTs (Dw X N2 scope cl C s H ex) ifs tt/\PE (Dw X N2 scope cl C s H ex) elt te)
  (I2:Inv X pins σ H2 s2) (T:Turn X.prog X.w X.K tg J fp it tn) (st2:tn 0 s2.heap) (f2:∀b∈fp,PL X pins H2 b) (w0:W 0 m0 [] H2)
  (turn:∀i m ys H,W i m ys H->(J.stop i H/\Qe ys H) ∨
   (J.go i H/\ys.length<sizeLine/\∀x H',J.yld i H x H'->g x (Ju k caps σ) H' fun σ2 H2=>tt σ2 H2 fun b H3 =>
    if b=true then te σ2 H3 fun v H4=>∃m',m'<m/\W (i+1) m' (ys++[v]) H4 else ∃m',m'<m/\W (i+1) m' ys H3))
  (hRR:∀D C s' H' ys,s2.heap.objs.size<=D->s2.heap.objs.size<=C->C≠D->H' D=none->H' C=none->Inv X pins σ (upd H' D (.lst ys)) s'->(∃m,s'.heap.Ns C m)->Qe ys H'->RR (.ref D) C (.ok .next) s') :
  wpAny (model X.prog X.w) X.A (newList []) (fun acc s₃=>wpAny (model X.prog X.w) X.A (newFunctionEnv scope X.env.globals cl [] X.env.qual none .none (some X.env)) (fun cenv s₄ =>
   codeAny (model X.prog X.w) X.A (.compStart (.ListComp elt [⟨tg,iter,ifs,0⟩] scope pos) 0 (.ref it) acc { cenv with scope:=relabel scope X.env }) (RR acc cenv.locals) s₄) E s₃) E s2:=by
 refine wpAny_newObj_type (Zt fun h₁ hns₁ kp cok=>?_)
 dsimp only at hns₁ kp cok ⊢
 generalize hH3:s2.heap.push { cls:=.type "list",dict:=none,data:=.seq ([]:List Value).toArray }=H3 at hns₁ kp cok ⊢
 have hC:H3.objs.size=s2.heap.objs.size+1:=by rw[←hH3,Heap.size_push]
 generalize hDD:s2.heap.objs.size=D at hC
 generalize hCC:H3.objs.size=C at hns₁ cok hC ⊢
 have hDC:D≠C:=by omega
 have szD:s2.heap.objs.size<=D:=Nat.le_of_eq hDD
 have szC:s2.heap.objs.size<=C:=by rw[hDD,hC];exact Nat.le_succ _
 have below:∀b o,s2.heap.get? b=some o->b≠C/\b≠D:=fun b o e=>⟨Ls (Heap.lt_size e) szC,Ls (Heap.lt_size e) szD⟩
 have old:∀b o,s2.heap.get? b=some o->h₁.get? b=some o:=fun b o e=>kp b o (hH3 ▸ Heap.get?_push_of_some _ e)
 have hacc:h₁.get? D=some { cls:=.type "list",data:=.seq ([]:List Value).toArray 0 }:=kp _ _ (hH3 ▸ hDD ▸ Heap.get?_push_size _ rfl)
 have f2h:∀b∈fp,∃o,s2.heap.get? b=some o:=fun b hbf=>let ⟨o,e,_⟩:=T.obj 0 _ st2 b hbf;⟨o,e⟩
 -- the block's context
 have okc:∀x c,X.env.cells.lookup x=some c->∃o,s2.heap.get? c=some o:=fun x c e=>let ⟨_,o,ho,_⟩:=I2.cell x c e;⟨o,ho⟩
 have oMem:∀x c,(cellsFrom (C+1) scope.names []).lookup x=some c->C+1<=c/\h₁.IsCell c none/\scope.names.lookup x=some .cell:=fun x c e=>by
  have m:=PySem.mem_of_lookup e
  exact⟨(cok.empty x c m).2,(cok.empty x c m).1,hS.one _ (Ms _ _ m) rfl⟩
 have oHas:∀x,scope.names.lookup x=some .cell->∃c,(cellsFrom (C+1) scope.names []).lookup x=some c:=fun x e=>Option.isSome_iff_exists.mp (PySem.W.cellsFrom_some scope.names (C+1) [] (.inl e))
 have oApart:=cok.apart
 generalize cellsFrom (C+1) scope.names []=own at oMem oHas oApart ⊢
 have hcs:∀x c,(own++cl).lookup x=some c->(C+1<=c/\h₁.IsCell c none/\own.lookup x=some c)∨X.env.cells.lookup x=some c:=fun x c e=>by
  rcases dF e with z|z
  .exact .inl ⟨(oMem x c z).1,(oMem x c z).2.1,z⟩
  .exact .inr (hcl x c z.2)
 have hlt:∀x c,X.env.cells.lookup x=some c->c<s2.heap.objs.size:=fun x c e=>let ⟨o,ho⟩:=okc x c e;Heap.lt_size ho
 have OK:(Dw X N2 scope (own++cl) C s2 H2 fp).Ok:=by
  refine⟨I2.ok.mod,hS.kind,I2.ok.glob,I2.ok.blt,?_,fun x y c h1 h2=>?_,fun x hx=>?_,fun x c hf h1=>?_,I2.ok.hd,I2.ok.frames,.inl rfl,fun b hbf=>?_,I2.bs,
   Nat.le_trans I2.ok.bsz I2.sz,fun b o e hbf=>?_,fun b hbf hb'=>?_,I2.stack,I2.aR,I2.Vo⟩
  .exact szC
  .rcases hcs x c h1 with z|z
   .rcases hcs y c h2 with z'|z'
    .exact name_of_addr oApart (PySem.mem_of_lookup z.2.2) (PySem.mem_of_lookup z'.2.2)
    .exact absurd (hlt y c z') (Nat.not_lt.mpr (Nat.le_trans szC (Nat.le_trans (Nat.le_succ _) z.1)))
   .rcases hcs y c h2 with z'|z'
    .exact absurd (hlt x c z) (Nat.not_lt.mpr (Nat.le_trans szC (Nat.le_trans (Nat.le_succ _) z'.1)))
    .exact I2.ok.inj x y c z z'
  .rcases Rn (env:=X.env) hx with z|z
   .obtain⟨c,e⟩:=hcf x z
    show ∃c,(own++cl).lookup x=some c
    rw[List.lookup_append]
    cases q:own.lookup x with
    |none=>exact⟨c,e⟩
    |some d=>exact⟨d,rfl⟩
   .obtain⟨c,e⟩:=oHas x z
    exact⟨c,by show(own++cl).lookup x=some c;rw[List.lookup_append,e];rfl⟩
  .obtain⟨d,e⟩:=oHas x (of_decide_eq_true hf)
   have h1':(own++cl).lookup x=some c:=h1
   rw[List.lookup_append,e] at h1'
   have e2:d=c:=Option.some.inj h1'
   rw[←e2]
   exact Nat.le_trans szC (Nat.le_trans (Nat.le_succ _) (oMem x d e).1)
  .obtain⟨o,e⟩:=f2h b hbf
   refine⟨(below b o e).1,fun x c h1=>?_⟩
   rcases hcs x c h1 with z|z
   .exact fun w=>absurd (Heap.lt_size e) (by rw[←w];exact Nat.not_lt.mpr (Nat.le_trans szC (Nat.le_trans (Nat.le_succ _) z.1)))
   .exact(f2 b hbf).2.2.2.2.1 x c z
  .rcases(f2 b hbf).2.2.2.1 with z|z
   .exact I2.ok.noex b o e z
   .exact absurd (Nat.lt_of_lt_of_le (Heap.lt_size (I2.ok.bs b o e).1) z) (Nat.lt_irrefl _)
  .rcases List.mem_cons.mp (I2.R0 b hb') with z|z
   .exact(f2 b hbf).2.1 z
   .exact(f2 b hbf).2.2.1 z
 have fresh:∀a,s2.heap.objs.size<=a->H2 a=none:=fun a ha=>I2.hok.fresh ha
 have I4:∀tk,Inv (Dw X N2 scope (own++cl) C s2 H2 fp) [(D,{ cls:=.type "list",data:=.seq ([]:List Value).toArray 0 })] (Ju k caps σ) H2 { s2 with heap:=h₁,toks:=tk }:=fun tk=>by
  refine⟨OK,rfl,I2.bare,Un.kept old,⟨_,hns₁,fun i x v e1 e2 e3=>?_⟩,fun x c e=>?_,fresh C szC,fun x c e=>?_,fun p hp=>?_,I2.hok.kept old,?_⟩
  .obtain⟨j,a,rfl,ha,hv⟩:=bO e2
   obtain⟨y,y1,y2,y3⟩:=hS.cap j a ha
   have e1':N2[k+j]?=some x:=e1
   rw[y1] at e1';cases e1'
   have hk:X.env.scope.names.lookup x=some .cell∨X.env.scope.names.lookup x=some .free:=hS.free (x,.free) (PySem.mem_of_lookup y3) rfl
   obtain⟨m',_,hl⟩:=id I2.loc
   obtain⟨u,ru,lk⟩:=hl a x v y2 hv (hk.elim (fun z=>.inr (.inl z)) fun z=>.inr (.inr z))
   refine⟨u,ru,.inr ⟨Rm y3,?_⟩⟩
   rcases lk with ⟨kk,_⟩|⟨_,c,e,z⟩
   .have kk':X.env.scope.names.lookup x=some .local:=kk
    rw[kk'] at hk
    rcases hk with z|z<;>cases z
   .obtain⟨c',e'⟩:=hcf x y3
    have e'':=hcl x c' e'
    rw[e] at e'';cases e''
    obtain⟨o,ho,hd⟩:=z
    refine⟨c,?_,o,old c o ho,hd⟩
    show(own++cl).lookup x=some c
    rw[List.lookup_append]
    cases q:own.lookup x with
    |none=>exact e'
    |some d=>have:=(oMem x d q).2.2;rw[y3] at this;cases this
  .rcases hcs x c e with z|z
   .exact⟨none,z.2.1⟩
   .obtain⟨v,o,ho,hd⟩:=I2.cell x c z
    exact⟨v,o,old c o ho,hd⟩
  .rcases hcs x c e with z|z
   .exact fresh c (Nat.le_trans szC (Nat.le_trans (Nat.le_succ _) z.1))
   .exact I2.freeC x c z
  .have hp':p∈[(D,({ cls:=.type "list",data:=.seq ([]:List Value).toArray 0 }:Obj))]:=hp
   have e:p=(D,({ cls:=.type "list",data:=.seq ([]:List Value).toArray 0 }:Obj)):=by simpa using hp'
   subst e
   exact⟨hacc,fresh D szD,hDC,fun z=>by
    rcases List.mem_cons.mp (I2.R0 D z) with z|z
    .exact Ls I2.lt szD z.symm
    .exact I2.j7 szD z,fun v z=>by cases z⟩
  .show(Ju k caps σ).length=N2.length
   unfold Ju
   rw[List.length_append,List.length_replicate,List.length_map,hS.len]
 -- the loop
 obtain⟨hg,ht,he⟩:=hb (own++cl) C s2 H2 fp
 have loop:∀s₃:Shared,Inv (Dw X N2 scope (own++cl) C s2 H2 fp) [(D,{ cls:=.type "list",data:=.seq ([]:List Value).toArray 0 })] (Ju k caps σ) H2 s₃->tn 0 s₃.heap ->
   codeAny (model X.prog X.w) X.A (.compLoop (.ListComp elt [⟨tg,iter,ifs,0⟩] scope pos) 0 (.ref it) (.ref D) (compEnvC scope (own++cl) C X.env)) (RR (.ref D) C) s₃:=by
  intro s₃ I₃ st₃
  refine codeAny_loop rfl (fun n s'=>∃i ys its nn H',Inv (Dw X N2 scope (own++cl) C s2 H2 fp) [(D,{ cls:=.type "list",data:=.seq (its:List Value).toArray nn })] (Ju k caps σ) H' s'/\Vals ys its/\tn i s'.heap/\(∀b∈fp,H' b=none)/\ys.length<=sizeLine/\W i n ys H') ?_ m0
   ⟨0,[],[],0,H2,I₃,.nil,st₃,fun b hbf=>(f2 b hbf).1,Nat.zero_le _,w0⟩
  rintro n s5 ⟨i,ys,its,nn,H5,I5,rv,st5,fr5,hz,w5⟩
  show wpAny _ X.A ((compTurn (.ListComp elt [⟨tg,iter,ifs,0⟩] scope pos) 0 (.ref it) (.ref D) (compEnvC scope (own++cl) C X.env)).onRaise (fun x=>do noteFrame x (compEnvC scope (own++cl) C X.env);theTreesLotGoes x)) _ _ s5
  refine wpAny_noted ?_
  rw[compTurn_list]
  refine wpAny_bind (wpAny_standAt (wpAny_bind ?_))
  have fpok:∀{H':Hp} {o:Obj},(∀b∈fp,H' b=none)->∀b∈fp,PL (Dw X N2 scope (own++cl) C s2 H2 fp) [(D,o)] H' b:=fun {H' o} hn b hbf=>by
   obtain⟨ob,e⟩:=f2h b hbf
   refine⟨hn b hbf,(below b ob e).1,OK.exfs b hbf,.inl hbf,(OK.exf b hbf).2,fun p hp z=>?_⟩
   have hp':p∈[(D,o)]:=hp
   have e':p=(D,o):=by simpa using hp'
   subst e'
   exact(below b ob e).2 z.symm
  rcases turn i n ys H5 w5 with ⟨stop,qn⟩|⟨go,hz2,step⟩
  .refine thn (T.done (Dw X N2 scope (own++cl) C s2 H2 fp) rfl rfl rfl hc i _ s5 _ H5 _ I5 (fpok fr5) st5 stop) fun r s6 ⟨hr,I6⟩=>?_
   subst hr
   refine wpAny_pure ?_
   obtain⟨pe,pn,pne,pnf,_⟩:=I6.pin (D,{ cls:=.type "list",data:=.seq its.toArray nn }) (List.mem_append_right _ (List.mem_singleton.mpr rfl))
   have hD:H5 D=none:=pn
   have hCn:H5 C=none:=I6.free
   refine hRR D C s6 H5 ys szD szC (Ne.symm hDC) hD hCn ?_ ?_ qn
   .have un:Un (frs X.stack) fp H2 (upd H5 D (.lst ys)) s2.heap s6.heap:=by
     have u:=I6.base
     refine⟨u.keep,u.slot,fun b o e n1 n2=>?_,u.there,fun b xs e=>?_,fun b o u' e=>?_,fun b ps e=>?_,fun n=>by rw[Bo (Nat.ne_of_lt (Nat.lt_of_lt_of_le I2.bh szD))];exact u.sy n⟩
     .rw[Bo (below b o e).2];exact u.free b o e n1 n2
     .rw[Bo (Dm (u.tups b xs e) hD)];exact u.tups b xs e
     .rw[Bo (Dm (u.frzs b o u' e) hD)];exact u.frzs b o u' e
     .obtain⟨more,q⟩:=u.tbls b ps e
      exact⟨more,by rw[Bo (Dm q hD)];exact q⟩
    refine I2.call' I6.os un (fun b u e=>?_) I6.bare (fun b hbf=>⟨(f2 b hbf).2.2.2.1,(f2 b hbf).2.1,(f2 b hbf).2.2.2.2.1,(f2 b hbf).2.2.2.2.2⟩)
    by_cases hbd:b=D
    .subst hbd
     rw[CQ] at e;cases e
     exact⟨hz,its,nn,rv,pe⟩
    .rw[Bo hbd] at e
     exact(I6.hok b u e).stay (fun _ _ _ q=>q) (fun c q=>by rw[Bo (Dm q hD)];exact q) fun c xs q=>by rw[Bo (Dm q hD)];exact q
   .obtain⟨m,hn,_⟩:=I6.loc
    exact⟨m,hn⟩
  .refine thn (T.item (Dw X N2 scope (own++cl) C s2 H2 fp) rfl rfl rfl hc i _ s5 _ H5 _ I5 (fpok fr5) st5 go) fun r s6 ⟨u,hr,h6⟩=>?_
   subst hr
   refine wpAny_bind (thn h6 fun _ s7 ⟨x,H7,I7,r7,y7,st7,fr7⟩=>?_)
   have I7':=I7.pinned (fpok fr7) (T.obj _ _ st7)
   refine wpAny_bind (wpAny_mono (hg _ s7 _ H7 x u _ I7' r7 (hlow _ _ _ _ (step x H7 y7))) (fun _ s8 ⟨σ8,H8,I8,q8,ql,qk⟩=>?_) fun _ _ z=>z.elim)
   have wk:∀{pl:List (Addr×Obj)} {H9:Hp} {s9:Shared},Inv (Dw X N2 scope (own++cl) C s2 H2 fp) pl σ8 H9 s9->Inv (Dw X N2 scope (own++cl) C s2 H2 fp) pl (Ju k caps σ) H9 s9:=fun {pl H9 s9} I9 =>
    I9.weak ql.symm fun i v e=>by
     obtain⟨j,a,rfl,_,_⟩:=bO e
     rw[qk (k+j) (Nat.le_add_right _ _)];exact e
   have pinD:∀{pl:List (Addr×Obj)} {σ9:St} {H9:Hp} {s9:Shared},Inv (Dw X N2 scope (own++cl) C s2 H2 fp) (((D,({ cls:=.type "list",data:=.seq its.toArray nn }:Obj))::[])++pl) σ9 H9 s9->s9.heap.get? D=some { cls:=.type "list",data:=.seq its.toArray nn }/\H9 D=none:=fun {pl σ9 H9 s9} I9=>by
    obtain⟨e1,e2,_⟩:=I9.pin (D,_) (List.mem_append_right _ (List.mem_append_left _ (List.mem_singleton.mpr rfl)))
    exact⟨e1,e2⟩
   have stn:∀{pl:List (Addr×Obj)} {σ9:St} {H9:Hp} {s9:Shared},Inv (Dw X N2 scope (own++cl) C s2 H2 fp) (pl++M6 fp s7.heap) σ9 H9 s9->tn (i+1) s9.heap/\∀b∈fp,H9 b=none:=fun {pl σ9 H9 s9} I9=>by
    refine⟨T.keep _ _ _ st7 fun b hbf o e=>(I9.pin (b,o) (List.mem_append_right _ (List.mem_append_right _ (NK hbf e)))).1,fun b hbf=>?_⟩
    obtain⟨o,e,d⟩:=T.obj _ _ st7 b hbf
    exact(I9.pin (b,o) (List.mem_append_right _ (List.mem_append_right _ (NK hbf e)))).2.1
   refine wpAny_bind (wpAny_mono (ht _ s8 σ8 H8 _ I8 q8) (fun ok s9 ⟨H9,I9,q9⟩=>?_) fun _ _ z=>z.elim)
   cases ok with
   |false =>
    obtain⟨m',hm,w9⟩:=(by simpa using q9:∃m',m'<n/\W (i+1) m' ys H9)
    refine wpAny_pure ⟨rfl,m',hm,i+1,ys,its,nn,H9,wk I9.QV,rv,(stn I9).1,(stn I9).2,hz,w9⟩
   |true =>
    have q9':te σ8 H9 fun v H4=>∃m',m'<n/\W (i+1) m' (ys++[v]) H4:=by simpa using q9
    refine wpAny_bind (wpAny_bind (wpAny_mono (he _ s9 σ8 H9 _ I9 q9') (fun y s10 ⟨v,H10,I10,r10,q10⟩=>wpAny_bind ?_) fun _ _ z=>z.elim))
    obtain⟨m',hm,w10⟩:=q10
    obtain⟨eD,nD⟩:=pinD I10
    have hl:=rv.length
    refine call_meets F.slot_list_append ⟨_,eD,rfl⟩ F.entry_list_append (F.args_list_append_2 _ _) (PySem.list_append D its.toArray nn y (by rw[List.size_toArray];omega)) ⟨eD,?_⟩
    refine wpAny_pure (wpAny_pure ⟨rfl,m',hm,?_⟩)
    obtain⟨n2,qD⟩:∃n2,(s10.heap.update D (Obj.mapSeq fun z=>z.push y)).get? D=some { cls:=.type "list",data:=.seq (its++[y]).toArray n2 }:=by
     have q0:=PySem.IsL.update eD (fun z=>z.push y)
     have hf:its.toArray.push y=(its++[y]).toArray:=by simp
     rw[hf] at q0
     exact⟨_,q0⟩
    have J0:Inv (Dw X N2 scope (own++cl) C s2 H2 fp) (M6 fp s7.heap) (Ju k caps σ) H10 s10:=wk (I10.S8 fun p hp=>I10.pin p (List.mem_append_right _ (List.mem_append_right _ hp)))
    have J1:Inv (Dw X N2 scope (own++cl) C s2 H2 fp) (M6 fp s7.heap) (Ju k caps σ) H10 { s10 with heap:=s10.heap.update D (Obj.mapSeq fun z=>z.push y),toks:=s10.toks }:=by
     refine J0.turned (fun b o hne e=>(Heap.get?_update_other s10.heap _ (Ne.symm hne)).trans e) nD hDC (.inr szD) (fun x c e z=>?_) fun p hp z=>?_
     .rcases hcs x c e with y|y
      .have:=y.1
       rw[z] at this
       omega
      .obtain⟨o,ho⟩:=okc x c y
       exact(below c o ho).2 z
     .have hp':p∈M6 fp s7.heap:=hp
      obtain⟨ob,e⟩:=f2h p.1 (Wd hp').1
      exact(below p.1 ob e).2 z
    have J2:Inv (Dw X N2 scope (own++cl) C s2 H2 fp) [(D,{ cls:=.type "list",data:=.seq (its++[y]).toArray n2 })] (Ju k caps σ) H10 { s10 with heap:=s10.heap.update D (Obj.mapSeq fun z=>z.push y),toks:=s10.toks }:=by
     refine J1.S8 fun p hp=>?_
     have e:p=(D,{ cls:=.type "list",data:=.seq (its++[y]).toArray n2 }):=List.mem_singleton.mp hp
     subst e
     exact⟨qD,nD,hDC,fun z=>by
      rcases List.mem_cons.mp (I2.R0 D z) with z|z
      .exact Ls I2.lt szD z.symm
      .exact I2.j7 szD z,fun v z=>by cases z⟩
    refine⟨i+1,ys++[v],its++[y],_,H10,J2,rv.append (.cons r10 .nil),?_,(stn I10).2,?_,w10⟩
    .refine T.keep _ _ _ (stn I10).1 fun b hbf o e=>?_
     obtain⟨ob,e'⟩:=f2h b hbf
     exact(Heap.get?_update_other s10.heap _ (Ne.symm (below b ob e').2)).trans e
    .rw[List.length_append,List.length_singleton];omega
 have st1:tn 0 h₁:=T.keep _ _ _ st2 fun b hbf o e=>old b o e
 exact codeAny_compStart_list (loop _ (I4 _) st1) (T.self X.A 0 _ _ _ st1 (loop _ (I4 _) st1))
theorem pH{elt tg iter:Expr}{ifs:List Expr}{scope:Scope}{pos:Pos}{N2:List Str}{k:Nat}{caps:List Nat}{wi:TI}{g:TG}{tt:TT}{te:TE}
  (hc:X.calm=true) (hS:Dy X.env.scope X.N N2 k caps scope) (hlow:Low k g) (hi:PI X tg iter wi)
  (hb:∀(cl:List (Str×Addr))(C:Addr)(s:Shared)(H:Hp)(ex:List Addr),PG (Dw X N2 scope cl C s H ex) tg g/\PTs (Dw X N2 scope cl C s H ex) ifs tt/\PE (Dw X N2 scope cl C s H ex) elt te)
  (hs:∀x,foldedSetIterable iter X.env x=pure x:=by intro _;rfl):PE X (.ListComp elt [⟨tg,iter,ifs,0⟩] scope pos) (cI k caps wi g tt te):=by
 intro pins s σ H Q I h
 rw[eval_ListComp]
 obtain⟨cl,hcl0,hcl,hcf⟩:=VL (scope:=scope) (env:=X.env) fun y hy e=>I.ok.has y.1 (hS.free y hy e)
 refine wpAny_comprehension_free (use:=none) rfl hs hcl0 hS.kind hS.loc ?_
 refine thn (hi pins s σ H _ I h) fun v s1 h1=>thn h1 fun itv s2 h2=>?_
 obtain⟨it,fp,tn,J,H2,e,I2,T,st2,f2,W,⟨m0,w0⟩,turn⟩:=h2
 subst e
 refine VJ (RR:=fun acc C=>compPost (model X.prog X.w) X.A X.xe none (EP X pins σ Q) acc C) (Qe:=fun ys H=>∀p,H p=none->Q (.ref p) (upd H p (.lst ys))) hc hS hlow hcl hcf hb I2 T st2 f2 w0 turn ?_
 intro D C s' H' ys hD hC hDC nD nC I' hn q
 obtain⟨m,hn⟩:=hn
 refine⟨m,hn,fun h' hsb=>⟨.ref D,_,?_,rfl,q D nD⟩⟩
 refine I'.but hsb (by rw[Bo hDC];exact nC) (fun z=>?_) (Nat.le_trans I2.sz hC) (fun x c e z=>?_) fun p hp z=>?_
 .exact Ls I2.lt hC z.symm
 .obtain⟨v,o,ho,_⟩:=I2.cell x c e
  exact Ls (Heap.lt_size ho) hC z
 .exact Ls (Heap.lt_size (I2.pin p hp).1) hC z
def wI(i:Nat)(t:TE):TS:=fun D σ H=>t σ H fun v H1=>D.nx (σ.set i (some v)) H1
theorem aj{elt tg iter:Expr}{ifs:List Expr}{scope:Scope}{pos py spos:Pos}{N2:List Str}{k i:Nat}{y:Str}{caps:List Nat}{wi:TI}{g:TG}{tt:TT}{te:TE}
  (hc:X.calm=true) (hN:X.N.Nodup) (hi':X.N[i]?=some y) (hS:Dy X.env.scope X.N N2 k caps scope) (hlow:Low k g) (hi:PI X tg iter wi)
  (hb:∀(cl:List (Str×Addr))(C:Addr)(s:Shared)(H:Hp)(ex:List Addr),PG (Dw X N2 scope cl C s H ex) tg g/\PTs (Dw X N2 scope cl C s H ex) ifs tt/\PE (Dw X N2 scope cl C s H ex) elt te)
  (hx:X.env.scope.names.lookup y=some .local:=by rfl) (hsw:swapsWith (.ListComp elt [⟨tg,iter,ifs,0⟩] scope pos) (some (.Name y py)) spos.line X.env=pure true:=by rfl)
  (hs:∀x,foldedSetIterable iter X.env x=pure x:=by intro _;rfl):PS X (.Assign [.Name y py] (.ListComp elt [⟨tg,iter,ifs,0⟩] scope pos) spos) (wI i (cI k caps wi g tt te)):=by
 intro pins s σ H D0 I h
 obtain⟨cl,hcl0,hcl,hcf⟩:=VL (scope:=scope) (env:=X.env) fun y hy e=>I.ok.has y.1 (hS.free y hy e)
 rw[exec_Assign_Name_used _ _ _ _ hsw]
 refine wpAny_bind (wpAny_standAt (wpAny_bind ?_))
 show wpAny _ X.A (do let _ ←comprehension (.ListComp elt [⟨tg,iter,ifs,0⟩] scope pos) scope X.env _ (newList []) false (eval iter X.env) (some (assign (.Name y py) X.env))) _ _ s
 refine wpAny_bind (wpAny_mono (wpAny_comprehension_free (use:=some (assign (.Name y py) X.env)) (Q:=fun _ s'=>SP X pins D0 .next s') rfl hs hcl0 hS.kind hS.loc ?_) (fun _ s' hq=>wpAny_pure (wpAny_pure hq)) fun _ _ e=>e)
 refine thn (hi pins s σ H _ I h) fun v s1 h1=>thn h1 fun itv s2 h2=>?_
 obtain⟨it,fp,tn,J,H2,e,I2,T,st2,f2,W,⟨m0,w0⟩,turn⟩:=h2
 subst e
 refine VJ (RR:=fun acc C=>compPost (model X.prog X.w) X.A X.xe (some (assign (.Name y py) X.env)) (fun _ s'=>SP X pins D0 .next s') acc C)
  (Qe:=fun ys H=>∀p,H p=none->D0.nx (σ.set i (some (.ref p))) (upd H p (.lst ys))) hc hS hlow hcl hcf hb I2 T st2 f2 w0 turn ?_
 intro D C s' H' ys hD hC hDC nD nC I' hn q
 obtain⟨m,hn⟩:=hn
 show wpAny _ X.A (assign (.Name y py) X.env (.ref D)) _ _ _
 refine wpAny_assign_Name (WM (v:=.ref D) I' hN hi' (.inl hx) rfl (fun s'' I'' ⟨a,hsb,ha⟩=>?_) (.inr hx))
 have hLC:C≠X.env.locals:=fun z=>Ls I2.lt hC z.symm
 have hcC:∀x c,X.env.cells.lookup x=some c->c≠C:=fun x c e z=>by
  obtain⟨v,o,ho,_⟩:=I2.cell x c e
  exact Ls (Heap.lt_size ho) hC z
 have haC:C≠a:=by
  rcases ha with z|z
  .rw[z];exact hLC
  .exact fun e=>hcC y a z e.symm
 refine⟨m,hn.sameBut hsb haC,fun h' hsb'=>?_⟩
 refine⟨_,_,I''.but hsb' (by rw[Bo hDC];exact nC) hLC (Nat.le_trans I2.sz hC) hcC fun p hp z=>?_,q D nD⟩
 exact Ls (Heap.lt_size (I2.pin p hp).1) hC z
end
end L2
end
section
namespace L2
open PySem PySem.Spec PyProof.Rows
theorem Ed.obj{P:Program}{w:World}{H:Hp}{h:Heap}{a:Addr}{o:HO}(x:Ed P w H h a o):∃ob,h.get? a=some ob:=by
 cases o with
 |lst xs=>obtain⟨_,_,_,_,e⟩:=x;exact⟨_,e⟩
 |tup xs=>obtain⟨_,_,_,ob,e,_⟩:=x;exact⟨ob,e⟩
 |dK kvs=>obtain⟨_,_,_,_,o,_,_,e,_⟩:=x;exact⟨o,e⟩
 |dT kvs=>obtain⟨_,_,_,_,o,_,_,e,_⟩:=x;exact⟨o,e⟩
 |set S n=>obtain⟨o,_,_,_,e,_⟩:=x;exact⟨o,e⟩
 |ins C dx fs=>obtain⟨_,_,_,e,_⟩:=x;exact⟨_,e⟩
 |own y=>exact x
 |xd fs=>obtain⟨_,⟨o,_,_,e,_⟩,_⟩:=x;exact⟨o,e⟩
 |rng lo hi=>obtain⟨_,_,_,e⟩:=x;exact⟨_,e⟩
 |frz ob u=>obtain⟨e,_⟩:=x;exact⟨_,e⟩
 |tbl ps=>exact⟨_,x⟩
 |met f y=>exact⟨_,x⟩
 |ext φ=>obtain⟨_,e,_⟩:=x;exact e
section
variable{X:Cx}{pins:List (Addr×Obj)}{σ:St}{H:Hp}{s:Shared}
theorem Inv.au(I:Inv X pins σ H s){a:Addr}(h:s.heap.get? a=none):H a=none:=by
 cases q:H a with
 |none=>rfl
 |some o =>
  obtain⟨ob,e⟩:=(I.hok a o q).obj
  rw[h] at e;cases e
theorem Inv.laidN{a:Addr}{o:HO}{h':Heap}{d':Drawn}{t':Nat}(I:Inv X pins σ H s)(k:∀b u,s.heap.get? b=some u->h'.get? b=some u)(hn:s.heap.get? a=none)(hsy:sysModules≠a)(new:Ed X.prog X.w (upd H a o) h' a o) :
  Inv X pins σ (upd H a o) { s with heap:=h',drawn:=d',toks:=t' }:=by
 have hH:=I.au hn
 have ne:∀b u,s.heap.get? b=some u->b≠a:=fun b u e z=>by rw[z,hn] at e;cases e
 refine I.step (g':=s.gens) (ch:=[]) (fun _ z=>nomatch z) (fun b u _ _ _ e _=>k b u e) (fun b u _ _ _ e _=>⟨u.slots,k b u e⟩) (fun b u _ e n=>by rw[Bo (ne b u e)];exact n) (fun b u _ e=>⟨u,k b u e⟩)
  (fun b xs e=>by rw[Bo (Dm e hH)];exact e) (fun b u xs e=>by rw[Bo (Dm e hH)];exact e) (fun b ps e=>⟨#[],by rw[Bo (Dm e hH),e];simp⟩) (fun m hm=>?_) (fun b u e=>?_) I.bare (fun n=>by rw[Bo hsy];exact n)
 .obtain⟨ob,es,ep,e,r⟩:=hm
  exact⟨ob,es,ep,k _ _ e,r⟩
 .by_cases hb:b=a
  .subst hb;rw[CQ] at e;cases e;exact new
  .rw[Bo hb] at e
   exact(I.hok b u e).stay (fun c v _ q=>k c v q) (fun c q=>by rw[Bo (Dm q hH)];exact q) fun c xs q=>by rw[Bo (Dm q hH)];exact q
end
def Xn(P:Program)(w:World)(a:Addr)(ds:List Int):HO:=.ext fun h=>SetP.SetT P w h a ds
theorem oJ{P:Program}{w:World}{H:Hp}{h:Heap}{a:Addr}{ds:List Int}(x:SetP.SetT P w h a ds):Ed P w H h a (Xn P w a ds) :=
 ⟨x,(by obtain⟨_,o,_,_,_,e,_⟩:=x;exact⟨o,e⟩),fun h1 h2 y k=>y.sameBut k⟩
section
variable{X:Cx}
theorem mQ(hc:X.calm=true):Dl X (.type "set") (fun xs H Q=>∃p ns,xs=[.ref p]/\SqL X.K H p (ns.map V.int)/\ns.length<1000/\∀a,H a=none->Q (.ref a) (upd H a (Xn X.prog X.w a (SetP.once ns)))):=by
 intro pins s σ H xs us Q I r h
 obtain⟨p,ns,rfl,hq,hl,q⟩:=h
 obtain⟨u,rfl,rx⟩:=vals1 r
 cases rx
 obtain⟨its,rv,pl,hz⟩:=I.list hq
 have hlen:=rv.length
 rw[List.length_map] at hlen
 refine SetP.oH (I.ok.hd hc) pl.isList (by simpa using intsAre_of rv) (by rw[List.size_toArray,←hlen];unfold scanBound;omega) fun h' tk k T=>?_
 have hn:s.heap.get? s.heap.objs.size=none:=Heap.get?_none_of_le (Nat.le_refl _)
 exact⟨.ref s.heap.objs.size,_,I.laidN (d':=s.drawn) (t':=tk) k hn (Nat.ne_of_lt I.bh) (oJ T),rfl,q _ (I.hok.fresh (Nat.le_refl _))⟩
theorem W9(hc:X.calm=true):Dl X (.builtin "sorted") (fun xs H Q=>∃(a:Addr)(ds:List Int),xs=[.ref a]/\H a=some (Xn X.prog X.w a ds)/\ds.length<64 /\
  ∀(l:Addr)(ns:List Int),H l=none->ns.Perm ds->ns.Pairwise (·<=·)->Q (.ref l) (upd H l (.lst (ns.map V.int)))):=by
 intro pins s σ H xs us Q I r h
 obtain⟨a,ds,rfl,hH,hl,q⟩:=h
 obtain⟨u,rfl,rx⟩:=vals1 r
 cases rx
 obtain⟨T,_,_⟩:=(show Ed X.prog X.w H s.heap a (Xn X.prog X.w a ds) from I.hok a _ hH)
 refine SetP.jZ (I.ok.hd hc) T hl fun h' d' tk l vs ns n k hb e hi hp hs=>?_
 have hn:s.heap.get? l=none:=by
  cases q:s.heap.get? l with
  |none=>rfl
  |some o=>exact absurd (hb l o q) (Nat.lt_irrefl _)
 have hsy:sysModules≠l:=by
  obtain⟨o,_,_,e,_⟩:=I.ok.mod.glob
  exact Nat.ne_of_lt (Nat.lt_trans (by decide:(1:Nat)<3) (hb _ _ (I.bk _ _ e)))
 have hlen:ns.length<64:=by rw[hp.length_eq];exact hl
 refine⟨.ref l,_,I.laidN (d':=d') (t':=tk) (o:=.lst (ns.map V.int)) k hn hsy ⟨?_,vs.toList,n,RK hi,by simpa using e⟩,rfl,q l ns (I.au hn) hp hs⟩
 rw[List.length_map]
 exact Nat.le_of_lt (WT (by omega))
theorem ZX{prog:Program}{w:World}{A:Around}{bs:List Bool}{its:List Value}(r:Vals (bs.map V.bl) its):TruthOf prog w A (fun i v=>its.toArray[i]?=some v) (fun i=>bs.getD i false):=by
 intro i v s Q E hP h
 rw[List.getElem?_toArray] at hP
 have hlen:=r.length
 rw[List.length_map] at hlen
 have hi:i<bs.length:=by rw[hlen];exact(List.getElem?_eq_some_iff.mp hP).1
 obtain⟨u,e,ru⟩:=r.get (i:=i) (x:=.bl bs[i]) (by rw[List.getElem?_map,List.getElem?_eq_getElem hi];rfl)
 rw[e] at hP;cases hP
 have ru':v=Value.bool bs[i]:=ru
 subst ru'
 have e2:bs.getD i false=bs[i]:=by rw[List.getD_eq_getElem?_getD,List.getElem?_eq_getElem hi];rfl
 have h:Q (bs.getD i false) s:=h
 rw[e2] at h
 exact wpAny_truthy_bool h
theorem all_range(bs:List Bool):(List.range bs.length).all (fun i=>bs.getD i false)=bs.all id:=by
 rw[Bool.eq_iff_iff,List.all_eq_true,List.all_eq_true]
 constructor
 .intro h b hb
  obtain⟨i,hi⟩:=List.mem_iff_getElem?.mp hb
  have q:=h i (List.mem_range.mpr (List.getElem?_eq_some_iff.mp hi).1)
  rw[List.getD_eq_getElem?_getD,hi] at q
  exact q
 .intro h i hi
  have hi':=List.mem_range.mp hi
  rw[List.getD_eq_getElem?_getD,List.getElem?_eq_getElem hi']
  exact h _ (List.getElem_mem hi')
theorem Z4(hc:X.calm=true):Dl X (.builtin "all") (fun xs H Q=>∃(p:Addr)(bs:List Bool),xs=[.ref p]/\SqL X.K H p (bs.map V.bl)/\Q (.bl (bs.all id)) H):=by
 intro pins s σ H xs us Q I r h
 obtain⟨p,bs,rfl,hq,q⟩:=h
 obtain⟨u,rfl,rx⟩:=vals1 r
 cases rx
 obtain⟨its,rv,pl,hz⟩:=I.list hq
 have hlen:=rv.length
 rw[List.length_map] at hlen
 have hl:=pl.isList
 have hlt:p<s.heap.objs.size:=by obtain⟨o,ho,_⟩:=hl;exact Heap.lt_size ho
 refine call_all_walk (wpAny_pyIter_list hl ?_)
 refine⟨s.heap.objs.size,[s.heap.objs.size,p],[s.heap.objs.size],its.toArray.size,_,_,fun i=>bs.getD i false,rfl,Walks.list (by simpa using I.ok.hd hc) s.heap.objs.size p (Nat.ne_of_lt hlt) its.toArray,⟨⟨_,Heap.get?_push_size _ rfl,rfl,rfl⟩,hl.push _⟩,ZX rv,fun h' tk k=>?_⟩
 refine⟨.bl (bs.all id),H,I.kept (h':=h') (t':=tk) fun b o e=>k b o (fun z=>?_) (Heap.get?_push_of_some _ e),?_,q⟩
 .exact absurd (List.mem_singleton.mp z) (Nat.ne_of_lt (Heap.lt_size e))
 .show Value.bool _=Value.bool _
  rw[List.size_toArray,←hlen,all_range]
theorem Ce{K:PySem.W.Frag}{a b:String}{r:Bool}(h:(if (Value.type a==Value.type b)=true then some true else if PySem.W.kitMeta b=true then (PySem.fastBuiltinMro a).map (·.contains (.type b)) else none)=some r):PySem.W.kitOne K (.type a) (.type b)=some r:=h
theorem aA:Dl X (.builtin "isinstance") (fun xs H Q=>∃(x:V)(T:String)(t:Value)(b:Bool),xs=[x,.ty T]/\KR X.K H x t/\PySem.W.kitOne X.K t (.type T)=some b/\Q (.bl b) H):=by
 intro pins s σ H xs us Q I r h
 obtain⟨x,T,t,b,rfl,ty,e,q⟩:=h
 obtain⟨u,w',rfl,rx,rt⟩:=vals2 r
 cases (show w'=Value.type T from rt)
 exact iD I rx ty e fun tk=>⟨.bl b,H,I.tok tk,rfl,q⟩
theorem Zz:Dl X (.type "range") (fun xs H Q=>∃(n:Int),xs=[.int n]/\∀p,H p=none->Q (.ref p) (upd H p (.rng 0 n))):=by
 intro pins s σ H xs us Q I r h
 obtain⟨n,rfl,q⟩:=h
 obtain⟨u,rfl,rx⟩:=vals1 r
 obtain⟨t,rfl⟩:=(show ∃t,u=Value.int n t from rx)
 exact call_range_1 ⟨.ref s.heap.objs.size,_,I.laid (o:=.rng 0 n) (fun _ _ e=>Heap.get?_push_of_some _ e) (Nat.le_refl _) ⟨_,_,_,Heap.get?_push_size _ rfl⟩,rfl,q _ (I.hok.fresh (Nat.le_refl _))⟩
theorem Zy:Dl X (.type "range") (fun xs H Q=>∃(a b:Int),xs=[.int a,.int b]/\∀p,H p=none->Q (.ref p) (upd H p (.rng a b))):=by
 intro pins s σ H xs us Q I r h
 obtain⟨a,b,rfl,q⟩:=h
 obtain⟨u,w',rfl,rx,ry⟩:=vals2 r
 obtain⟨t,rfl⟩:=(show ∃t,u=Value.int a t from rx)
 obtain⟨t',rfl⟩:=(show ∃t,w'=Value.int b t from ry)
 exact call_range_2 ⟨.ref s.heap.objs.size,_,I.laid (o:=.rng a b) (fun _ _ e=>Heap.get?_push_of_some _ e) (Nat.le_refl _) ⟨_,_,_,Heap.get?_push_size _ rfl⟩,rfl,q _ (I.hok.fresh (Nat.le_refl _))⟩
def upTo(lo:Int)(n:Nat):List Int:=(List.range n).map fun(i:Nat)=>lo+i
theorem WD(hc:X.calm=true):Dl X (.type "list") (fun xs H Q=>∃(r:Addr)(lo hi:Int),xs=[.ref r]/\H r=some (.rng lo hi)/\-(2^62)<=lo/\lo<2^62/\-(2^62)<=hi/\hi<2^62/\(hi-lo).toNat<=1000 /\
  ∀l,H l=none->Q (.ref l) (upd H l (.lst ((upTo lo (hi-lo).toNat).map V.int)))):=by
 intro pins s σ H xs us Q I rr h
 obtain⟨r,lo,hi,rfl,hH,h1,h2,h3,h4,h5,q⟩:=h
 obtain⟨u,rfl,rx⟩:=vals1 rr
 cases rx
 obtain⟨t,u,v,e⟩:=(show Ed X.prog X.w H s.heap r (.rng lo hi) from I.hok r _ hH)
 have hsz:Builtin.Range.rangeSize lo hi 1=(((hi-lo).toNat:Nat):Int):=by rw[rangeSize_one];split<;>omega
 refine call_list_range (a:=lo) (b:=hi) (c:=1) (I.ok.hd hc) e (small_one h1 h2 h3 h4) hsz (by omega) fun h' tk acc c k eS hacc=>?_
 refine⟨.ref s.heap.objs.size,_,I.laid (o:=.lst ((upTo lo (hi-lo).toNat).map V.int)) (t':=tk) k (Nat.le_refl _) ⟨?_,acc.toList,c,?_,by simpa using eS⟩,rfl,q _ (I.hok.fresh (Nat.le_refl _))⟩
 .unfold upTo
  rw[List.length_map,List.length_map,List.length_range]
  exact Nat.le_of_lt (WT h5)
 .have gen:∀(l:List Value)(j:Nat),(∀(i:Nat)(v:Value),l[i]?=some v->∃t,v=Value.int (lo+((i+j:Nat):Int)) t)->Vals (((List.range' j l.length).map fun(i:Nat)=>lo+i).map V.int) l:=by
   intro l
   induction l with
   |nil=>intro j _;exact .nil
   |cons x r ih =>
    intro j hx
    obtain⟨t,e⟩:=hx 0 x rfl
    subst e
    rw[List.length_cons,List.range'_succ]
    refine .cons ⟨t,by simp⟩ (ih (j+1) fun i v hv=>?_)
    obtain⟨t',e'⟩:=hx (i+1) v (by simpa using hv)
    exact⟨t',by rw[e',show i+1+j=i+(j+1) by omega]⟩
  have q2:=gen acc.toList 0 fun i v hv=>by
   obtain⟨t',e'⟩:=hacc.2 i v (by simpa using hv)
   exact⟨t',by rw[e'];simp⟩
  have el:acc.toList.length=(hi-lo).toNat:=by simpa using hacc.1
  rw[el,←List.range_eq_range'] at q2
  exact q2
end
end L2
end
section
namespace L2
open PySem PySem.Spec PyProof.Rows
mutual
inductive Tr (N:Addr->Prop) (H:Hp):V->PyData->Prop
 |non:Tr N H .non .none
 |bl (b:Bool):Tr N H (.bl b) (.bool b)
 |int (i:Int):Tr N H (.int i) (.int i)
 |str (x:Str):Tr N H (.str x) (.str x)
 |lst {a:Addr} {xs:List V} {ds:List PyData}:N a->H a=some (.lst xs)->Kw N H xs ds->Tr N H (.ref a) (.list ds)
 |tup {a:Addr} {xs:List V} {ds:List PyData}:N a->H a=some (.tup xs)->Kw N H xs ds->Tr N H (.ref a) (.tuple ds)
 |dct {a:Addr}:N a->H a=some (.dK [])->Tr N H (.ref a) (.dict [])
inductive Kw (N:Addr->Prop) (H:Hp):List V->List PyData->Prop
 |nil:Kw N H [] []
 |cons {x:V} {d:PyData} {xs:List V} {ds:List PyData}:Tr N H x d->Kw N H xs ds->Kw N H (x::xs) (d::ds)
end
section
variable{N N':Addr->Prop}{H H':Hp}
end
section
variable{N:Addr->Prop}{P:Program}{w:World}{H:Hp}{h:Heap}
mutual
theorem Tr.reads(ok:HOk P w H h)(hs:H sysModules=none):∀{v:V} {d:PyData},Tr N H v d->∀u,RelV v u->∃as,Reads h u d as/\sysModules ∉ as
 |_,_,.non,u,r=>⟨[],by cases (show u=Value.none from r);exact .none,by simp⟩
 |_,_,.bl b,u,r=>⟨[],by cases (show u=Value.bool b from r);exact .bool b,by simp⟩
 |_,_,.int i,u,r=>by obtain⟨t,rfl⟩:=(show ∃t,u=Value.int i t from r);exact⟨[],.int i t,by simp⟩
 |_,_,.str x,u,r=>by obtain⟨t,rfl⟩:=(show ∃t,u=Value.str x t from r);exact⟨[],.str x t,by simp⟩
 |_,_,.lst (a:=a) (xs:=xs) (ds:=ds) _ hH t,u,r=>by
  cases (show u=Value.ref a from r)
  obtain⟨_,its,n,rv,e⟩:=(show Ed P w H h a (.lst xs) from ok a _ hH)
  obtain⟨as,ra,na⟩:=Kw.reads ok hs t its rv
  refine⟨a::as,.list e rfl rfl (by simpa using ra),fun z=>?_⟩
  rcases List.mem_cons.mp z with z|z
  .rw[z] at hs;rw[hs] at hH;cases hH
  .exact na z
 |_,_,.tup (a:=a) (xs:=xs) (ds:=ds) _ hH t,u,r=>by
  cases (show u=Value.ref a from r)
  obtain⟨_,its,rv,ob,e,c,n,d⟩:=(show Ed P w H h a (.tup xs) from ok a _ hH)
  obtain⟨as,ra,na⟩:=Kw.reads ok hs t its rv
  exact⟨as,.tuple e c d (by simpa using ra),na⟩
 |_,_,.dct (a:=a) _ hH,u,r=>by
  cases (show u=Value.ref a from r)
  obtain⟨_,y,vs,kv,o,es,ep,e,ex,d,el⟩:=(show Ed P w H h a (.dK []) from ok a _ hH)
  cases kv
  have e0:es.toList=[]:=by
   have q:Pairs (Vv P w) es.toList []:=el.2.1
   generalize es.toList=l at q
   cases q
   rfl
  refine⟨[a],.dict (as:=[]) (bs:=[]) e ex.1 d (by rw[e0];exact .nil) (by rw[e0];exact .nil),fun z=>?_⟩
  have z':=List.mem_singleton.mp z
  rw[←z'] at y
  simp at y
theorem Kw.reads(ok:HOk P w H h)(hs:H sysModules=none):∀{xs:List V} {ds:List PyData},Kw N H xs ds->∀us,Vals xs us->∃as,ReadsAll h us ds as/\sysModules ∉ as
 |_,_,.nil,us,r=>by cases r;exact⟨[],.nil,by simp⟩
 |_,_,.cons t ts,us,r=>by
  cases r with
  |cons rx rr =>
   obtain⟨as,ra,na⟩:=Tr.reads ok hs t _ rx
   obtain⟨bs,rb,nb⟩:=Kw.reads ok hs ts _ rr
   exact⟨as++bs,.cons ra rb,fun z=>(List.mem_append.mp z).elim na nb⟩
end
end
section
variable{X:Cx}
theorem ug{k:Nat}(hr:Fj k X.A):OpR X (compareOp .Eq) (fun x y H Q=>∃(N N':Addr->Prop)(d e:PyData),Tr N H x d/\Tr N' H y e/\SeqAt.shaped d=true/\SeqAt.shaped e=true/\Q (.bl (PyData.eqv d e)) H):=by
 intro pins s σ H x y v u Q I rx ry h
 obtain⟨N,N',d,e,t1,t2,s1,s2,q⟩:=h
 obtain⟨as,ra,_⟩:=t1.reads I.hok I.Vo v rx
 obtain⟨bs,rb,_⟩:=t2.reads I.hok I.Vo u ry
 exact SeqAt.compareEq_shaped ra rb s1 s2 hr.units ⟨.bl _,H,I,rfl,q⟩
theorem ud{k:Nat}(hr:Fj k X.A):OpR X (compareOp .NotEq) (fun x y H Q=>∃(N N':Addr->Prop)(d e:PyData),Tr N H x d/\Tr N' H y e/\SeqAt.shaped d=true/\SeqAt.shaped e=true/\Q (.bl (!PyData.eqv d e)) H):=by
 intro pins s σ H x y v u Q I rx ry h
 obtain⟨N,N',d,e,t1,t2,s1,s2,q⟩:=h
 obtain⟨as,ra,_⟩:=t1.reads I.hok I.Vo v rx
 obtain⟨bs,rb,_⟩:=t2.reads I.hok I.Vo u ry
 exact SeqAt.compareNe_shaped ra rb s1 s2 hr.units ⟨.bl _,H,I,rfl,q⟩
end
end L2
end
section
namespace HT
open PySem PySem.Spec PyProof.Rows
section
variable{prog:Program}{w:World}{A:Around}{E:Value->Shared->Prop}{s:Shared}
theorem mO{t b:Addr}{ws:List Value}{Q:Value->Shared->Prop}(ht:IsTup s.heap t ([]:List Value).toArray)(hb:IsTup s.heap b ws.toArray)(h:Q (.ref b) s):wpAny (model prog w) A (binaryOp .Add (.ref t) (.ref b)) Q E s:=by
 obtain⟨⟨c1,d1,x1,sl1⟩,ho,hc,n,hd⟩:=id ht
 obtain⟨⟨c2,d2,x2,sl2⟩,ho2,hc2,n2,hd2⟩:=id hb
 simp only at hc hd hc2 hd2
 subst hc hd hc2 hd2
 exact concat_meets ⟨_,ho,rfl⟩ ⟨_,ho2,rfl⟩ noFill_tuple_add seq_tuple_add PySem.F.slot_tuple_add PySem.F.entry_tuple_add (PySem.F.args_tuple_add_2 _ _) (tuple_addW0 t b _ ws.toArray n n2 d1 d2 sl1 sl2 (by simp)) ⟨ho,ho2,h⟩
theorem Zc{t sl:Addr}{items:Array Value}{vl vu:Value}{lo hi:Option Int}{Q:Value->Shared->Prop}(ht:IsTup s.heap t items)(hs:s.heap.IsSliceOf sl vl vu .none)(pl:IsPart vl lo)(pu:IsPart vu hi)
  (hw:sIx items.size 0 lo=0/\sIx items.size items.size hi=items.size) (h:Q (.ref t) s):wpAny (model prog w) A (getItem (.ref t) (.ref sl)) Q E s:=by
 obtain⟨os,hos,hcs,hds⟩:=id hs
 have hTs:s.TypeIs (.ref sl) "slice":=⟨os,hos,hcs⟩
 unfold getItem
 try with_reducible refine wpAny_holding ?_
 first|refine wpAny_bind (wpAny_pure ?_)|skip
 refine wpAny_bind (wpAny_sequenceKey ht.typeIs (by decide) ?_)
 refine wpAny_bind (wpAny_callSpecial?_slot (name:=Str.ofString "__getitem__") ht.typeIs PyProof.Rows.slot_tuple_getitem (wpAny_call_entry PyProof.Rows.slot_tuple_getitem ht.typeIs entry_tuple_getitem ?_ (args_tuple_getitem _ _)))
 show wpAny _ _ (Builtin.Tuple.tupleItemsOf (.ref t) >>= _) _ _ s
 refine wpAny_bind (tupleItemsOf_ ht (wpAny_bind (wpAny_typeOf hTs ?_)))
 rw[if_pos (by decide)]
 refine wpAny_bind (Ob hs pl pu ?_)
 have yes:(((sIx items.size 0 lo:Nat):Int)==0&&(1:Int)==1&&(sIx items.size items.size hi-sIx items.size 0 lo)==items.size)=true:=by
  rw[hw.1,hw.2];simp
 show wpAny _ _ (if (((sIx items.size 0 lo:Nat):Int)==0&&(1:Int)==1&&(sIx items.size items.size hi-sIx items.size 0 lo)==items.size)=true then _ else _) _ _ s
 rw[if_pos yes]
 unfold Builtin.Tuple.tupleIsExact
 refine wpAny_bind (wpAny_bind (wpAny_typeOf ht.typeIs (wpAny_pure ?_)))
 rw[if_pos (by decide)]
 exact wpAny_bind (wpAny_rule (wpAny_pure ⟨_,rfl,wpAny_pure h⟩))
end
end HT
namespace L2
open PySem PySem.Spec PyProof.Rows
theorem Cw{H:Hp}{p:Addr}(h:H p=none)(o:HO):Same H (upd H p o):=fun b u q=>by rw[Bo (Dm q h)];exact q
theorem dW(xs:List V)(lo hi:Option Int)(h:HT.sIx xs.length 0 lo=0/\HT.sIx xs.length xs.length hi=xs.length):Kr xs lo hi=xs:=by
 unfold Kr
 rw[h.1,h.2,List.drop_zero,Nat.sub_zero,List.take_length]
section
variable{X:Cx}
theorem pN:OpR X (binaryOp .Add) (fun x y H Q=>∃(a b:Addr)(xs ys:List V),x=.ref a/\y=.ref b/\H a=some (.tup xs)/\H b=some (.tup ys)/\xs.length+ys.length<=sizeLine/\∀p H',Same H H'->H' p=some (.tup (xs++ys))->Q (.ref p) H'):=by
 intro pins s σ H x y v u Q I rx ry h
 obtain⟨a,b,xs,ys,rfl,rfl,ha,hb,hz,q⟩:=h
 by_cases hx:xs=[]
 .subst hx
  cases rx
  cases ry
  obtain⟨its,r1,p1,_⟩:=I.tuple (SqT.of ha)
  obtain⟨its2,r2,p2,_⟩:=I.tuple (SqT.of hb)
  cases r1
  exact HT.mO p1 p2 ⟨.ref b,H,I,rfl,q b H (Same.refl H) hb⟩
 .refine pL pins s σ H _ _ v u Q I rx ry ⟨a,b,xs,ys,rfl,rfl,SqT.of ha,SqT.of hb,hx,hz,fun z=>?_,fun _ p hp=>q p _ (Cw hp _) CQ⟩
  subst z
  exact q a H (Same.refl H) (by rw[List.append_nil];exact ha)
theorem oA:SlR X (fun x lo hi H Q=>∃(a:Addr)(xs:List V),x=.ref a/\H a=some (.tup xs)/\∀p H',Same H H'->H' p=some (.tup (Kr xs lo hi))->Q (.ref p) H'):=by
 intro pins s σ H x v vl vu lo hi sl Q I rx hs pl pu h
 obtain⟨a,xs,rfl,ha,q⟩:=h
 by_cases hw:HT.sIx xs.length 0 lo=0/\HT.sIx xs.length xs.length hi=xs.length
 .cases rx
  obtain⟨its,r,ht,hz⟩:=I.tuple (SqT.of ha)
  have hlen:its.toArray.size=xs.length:=by rw[List.size_toArray];exact r.length.symm
  refine⟨"tuple",_,PyProof.Rows.slot_tuple_getitem.lookup,ht.typeIs,?_⟩
  exact HT.Zc ht hs pl pu (by rw[hlen];exact hw) ⟨.ref a,H,I,rfl,q a H (Same.refl H) (by rw[dW xs lo hi hw];exact ha)⟩
 .exact u9 pins s σ H _ v vl vu lo hi sl Q I rx hs pl pu ⟨a,xs,rfl,SqT.of ha,hw,fun p hp=>q p _ (Cw hp _) CQ⟩
theorem kh{d:Addr}{D:List (PyData×PyData)}(hT:∀h,X.K.In h->IntTab X.prog X.w h d D):OpR X (compareOp .In) (fun x y H Q=>∃(i:Int),x=.int i/\y=.ref d/\Q (.bl (lookup (.int i) D).isSome) H):=by
 intro pins s σ H x y v u Q I rx ry h
 obtain⟨i,rfl,rfl,q⟩:=h
 obtain⟨t,rfl⟩:=(show ∃t,v=Value.int i t from rx)
 cases ry
 exact in_intTab (hT _ I.kIn) ⟨.bl _,H,I.tok _,rfl,q⟩
theorem sE{P:Program}{w:World}{K:PySem.W.Frag}{d:Addr}{ep:Nat}{h1 h2 h3 k1 k2 k3 v1 v2 v3:Int}{t1 t2 t3 u1 u2 u3:Tok}(hd:(d==sysModules)=false)
  (l:K.lookup d=some { cls:=.type "dict",data:=.dict #[⟨h1,.int k1 t1,.int v1 u1⟩,⟨h2,.int k2 t2,.int v2 u2⟩,⟨h3,.int k3 t3,.int v3 u3⟩] ep })
  (e1:h1=hashInt k1) (e2:h2=hashInt k2) (e3:h3=hashInt k3) (nd:[k1,k2,k3].Nodup):∀h,K.In h->IntTab P w h d [(.int k1,.int v1),(.int k2,.int v2),(.int k3,.int v3)]:=by
 intro h kin
 refine⟨hd,[(k1,.int v1 u1),(k2,.int v2 u2),(k3,.int v3 u3)],⟨_,_,ep,kin _ _ l,⟨rfl,rfl,rfl⟩,rfl,?_,?_,nd⟩,?_⟩
 .intro e he
  simp only[List.mem_toArray,List.mem_cons,List.not_mem_nil,or_false] at he
  rcases he with z|z|z
  .subst z;exact⟨k1,intKind_is P w k1 t1,e1⟩
  .subst z;exact⟨k2,intKind_is P w k2 t2,e2⟩
  .subst z;exact⟨k3,intKind_is P w k3 t3,e3⟩
 .exact .cons (intKind_is P w k1 t1) rfl (.cons (intKind_is P w k2 t2) rfl (.cons (intKind_is P w k3 t3) rfl .nil))
 .exact .cons (.int v1 u1) (.cons (.int v2 u2) (.cons (.int v3 u3) .nil))
end
end L2
end
section
namespace L2
open PySem PySem.Spec PyProof.Rows
def Cal(P:Program)(w:World)(K:PySem.W.Frag)(mg:Str->Option Value)(base:Heap)(x:Str)(k:Nat)(ps:List Str)(sp:Sp):Prop :=
 ∃f fd,Cp P w K mg base CX0 k f fd ps sp/\Binds K fd ps []/\PySem.W.keepIn K (.ref f)=true/\mg x=some (.ref f)
section
variable{X:Cx}
theorem QZ{x:Str}{k k':Nat}{ps:List Str}{sp:Sp}{e:Expr}{es:List Expr}{t:TA}{p pos:Pos}(c:Cal X.prog X.w X.K X.mg X.base x k ps sp)(hr:Fj k' X.A)(hk:k<=k')(hg:Gl X x)(ha:PA X (e::es) t)
  (hdb:(x==("__debug__":Str))=false:=by decide) (he:starEach (e::es) X.env=(false,eval e X.env)::starEach es X.env:=by rfl) (hpl:(backTo pos (starEach es X.env)).any (·.1)=false:=by rfl) :
  PE X (.Call (.Name x p) (e::es) [] pos) (mZ sp [] E0 t):=by
 obtain⟨f,fd,F,b,kp,m⟩:=c
 exact pI (F.mono hk) hr hg m kp b .nil xH ha hdb he hpl
theorem O4:OpR X (binaryOp .FloorDiv) (rI (fun _ j=>0<j/\j<2^64) fun i j=>.int (i/j)):=opI fun i j _ _ _ _ _ hc q=>by
 rw[←Int.fdiv_eq_ediv_of_nonneg _ (Int.le_of_lt hc.1)] at q
 refine floordiv_int (Int.ne_of_gt hc.1) q (.inl (PyProof.noPylong_of_log2 ?_))
 have h1:j.natAbs<2^64:=by omega
 have h2:j.natAbs≠0:=by omega
 exact Nat.lt_trans ((Nat.log2_lt h2).mpr h1) (by decide)
end
theorem Hz:bootBuiltins "len"=some (.builtin "len"):=by decide +kernel
theorem Ec:bootBuiltins "isinstance"=some (.builtin "isinstance"):=by decide +kernel
theorem fC:bootBuiltins "all"=some (.builtin "all"):=by decide +kernel
theorem iw:bootBuiltins "sorted"=some (.builtin "sorted"):=by decide +kernel
theorem fB:bootBuiltins "min"=some (.builtin "min"):=by decide +kernel
theorem vU:bootBuiltins "max"=some (.builtin "max"):=by decide +kernel
theorem vR:bootBuiltins "set"=some (.type "set"):=by decide +kernel
theorem QC:bootBuiltins "list"=some (.type "list"):=by decide +kernel
theorem Ln:bootBuiltins "tuple"=some (.type "tuple"):=by decide +kernel
theorem mU:bootBuiltins "range"=some (.type "range"):=by decide +kernel
theorem RG:bootBuiltins "int"=some (.type "int"):=by decide +kernel
theorem W3:bootBuiltins "bool"=some (.type "bool"):=by decide +kernel
def UJ:List Str:=["len","isinstance","all","sorted","min","max","abs","repr","set","list","tuple","range","int","bool","str"]
def Blt(mg:Str->Option Value):Prop:=∀x∈UJ,mg x=none
theorem Blt.is{mg:Str->Option Value}(b:Blt mg)(x:Str)(h:UJ.contains x=true:=by decide +kernel):mg x=none:=b x (List.contains_iff_mem.mp h)
def tyName:PyData->String
 |.none=>"NoneType"
 |.bool _=>"bool"
 |.int _=>"int"
 |.str _=>"str"
 |.list _=>"list"
 |.tuple _=>"tuple"
 |.dict _=>"dict"
theorem Tr.ty{N:Addr->Prop}{K:PySem.W.Frag}{H:Hp}{v:V}{d:PyData}(t:Tr N H v d):KR K H v (.type (tyName d)):=by
 cases t with
 |non=>exact .non
 |bl b=>exact .bl b
 |int i=>exact .int i
 |str x=>exact .str x
 |lst _ h _=>exact .lst h
 |tup _ h _=>exact .tup h
 |dct _ h=>exact .dK h
def Xp(T:String)(d:PyData):Bool:=match T with
 |"int"=>(match d with|.int _=>true|.bool _=>true|_=>false)
 |"bool"=>(match d with|.bool _=>true|_=>false)
 |"tuple"=>(match d with|.tuple _=>true|_=>false)
 |"list"=>(match d with|.list _=>true|_=>false)
 |_=>false
theorem qI{K:PySem.W.Frag}(d:PyData):PySem.W.kitOne K (.type (tyName d)) (.type "int")=some (Xp "int" d):=by
 cases d with
 |none=>exact Ce (a:="NoneType") (r:=false) (by decide +kernel)
 |bool _=>exact Ce (a:="bool") (r:=true) (by decide +kernel)
 |int _=>exact Ce (a:="int") (r:=true) (by decide +kernel)
 |str _=>exact Ce (a:="str") (r:=false) (by decide +kernel)
 |list _=>exact Ce (a:="list") (r:=false) (by decide +kernel)
 |tuple _=>exact Ce (a:="tuple") (r:=false) (by decide +kernel)
 |dict _=>exact Ce (a:="dict") (r:=false) (by decide +kernel)
theorem lO{K:PySem.W.Frag}(d:PyData):PySem.W.kitOne K (.type (tyName d)) (.type "bool")=some (Xp "bool" d):=by
 cases d with
 |none=>exact Ce (a:="NoneType") (r:=false) (by decide +kernel)
 |bool _=>exact Ce (a:="bool") (r:=true) (by decide +kernel)
 |int _=>exact Ce (a:="int") (r:=false) (by decide +kernel)
 |str _=>exact Ce (a:="str") (r:=false) (by decide +kernel)
 |list _=>exact Ce (a:="list") (r:=false) (by decide +kernel)
 |tuple _=>exact Ce (a:="tuple") (r:=false) (by decide +kernel)
 |dict _=>exact Ce (a:="dict") (r:=false) (by decide +kernel)
theorem kit_tuple{K:PySem.W.Frag}(d:PyData):PySem.W.kitOne K (.type (tyName d)) (.type "tuple")=some (Xp "tuple" d):=by
 cases d with
 |none=>exact Ce (a:="NoneType") (r:=false) (by decide +kernel)
 |bool _=>exact Ce (a:="bool") (r:=false) (by decide +kernel)
 |int _=>exact Ce (a:="int") (r:=false) (by decide +kernel)
 |str _=>exact Ce (a:="str") (r:=false) (by decide +kernel)
 |list _=>exact Ce (a:="list") (r:=false) (by decide +kernel)
 |tuple _=>exact Ce (a:="tuple") (r:=true) (by decide +kernel)
 |dict _=>exact Ce (a:="dict") (r:=false) (by decide +kernel)
theorem lN{K:PySem.W.Frag}(d:PyData):PySem.W.kitOne K (.type (tyName d)) (.type "list")=some (Xp "list" d):=by
 cases d with
 |none=>exact Ce (a:="NoneType") (r:=false) (by decide +kernel)
 |bool _=>exact Ce (a:="bool") (r:=false) (by decide +kernel)
 |int _=>exact Ce (a:="int") (r:=false) (by decide +kernel)
 |str _=>exact Ce (a:="str") (r:=false) (by decide +kernel)
 |list _=>exact Ce (a:="list") (r:=true) (by decide +kernel)
 |tuple _=>exact Ce (a:="tuple") (r:=false) (by decide +kernel)
 |dict _=>exact Ce (a:="dict") (r:=false) (by decide +kernel)
end L2
end
section
namespace L2
open PySem PySem.Spec PyProof.Rows
def qG:PyData->Bool
 |.none=>true
 |.bool _=>true
 |.int i=>decide (i.natAbs<10^41)
 |.str x=>decide (x.length<=30)&&x.cps.toList.all fun c=>decide (c<16^8)
 |.dict kvs=>kvs.isEmpty
 |_=>false
def fit:List Nat->PyData->Bool
 |w::ws,.list xs=>decide (xs.length<=w)&&xs.all (fit ws)
 |w::ws,.tuple xs=>decide (xs.length<=w)&&xs.all (fit ws)
 |_,d=>qG d
def Nx(n:Nat)(Pv:Nat->List V->Hp->Prop)(i:Nat)(ys:List V)(H:Hp):Prop:=∃m',m'<n-i/\(m'=n-(i+1)/\i+1<=n/\Pv (i+1) ys H)
theorem nx{n:Nat}{Pv:Nat->List V->Hp->Prop}{i:Nat}{ys:List V}{H:Hp}(hi:i<n)(p:Pv (i+1) ys H):Nx n Pv i ys H:=⟨n-(i+1),by omega,rfl,hi,p⟩
section
variable{k:Nat}{caps:List Nat}{σ:St}{g:TG}{tt:TT}{te:TE}{Q:VK}{H:Hp}
end
def Well(H:Hp)(a:Addr):Prop:=∃x y:Int,H a=some (.lst [.int x,.int y])
end L2
end
section
namespace L2
open PySem PySem.Spec PyProof.Rows
section
variable{a:Addr}{H0:Hp}{σ:St}{te t1 t2:TE}{ta:TA}{d:PyData}{ds d1 d2:List PyData}{i j:Int}
end
end L2
end
section
namespace L2
open PySem PySem.Spec PyProof.Rows
section
variable{X:Cx}{K:PySem.W.Frag}
abbrev yW(K:PySem.W.Frag):List V->Hp->VK->Prop:=fun xs H Q=>∃p ys,xs=[.ref p]/\(SqL K H p ys∨SqT K H p ys)/\Q (.int ys.length) H
abbrev oO(K:PySem.W.Frag):List V->Hp->VK->Prop:=fun xs H Q=>∃p ys,xs=[.ref p]/\(SqL K H p ys∨SqT K H p ys)/\∀l,H l=none->Q (.ref l) (upd H l (.lst ys))
abbrev ju(K:PySem.W.Frag):List V->Hp->VK->Prop:=fun xs H Q=>∃p ys,xs=[.ref p]/\((SqL K H p ys/\∀l,H l=none->Q (.ref l) (upd H l (.tup ys)))∨(SqT K H p ys/\Q (.ref p) H))
theorem kW{d:Addr}{D:List (PyData×PyData)}{x:Str}{p pos:Pos}{b:Expr}{ta tb:TE}(hT:∀h,X.K.In h->IntTab X.prog X.w h d D)(ha:PE X (.Name x p) ta)(hb:PE X b tb)(hs:Sh b)
  (hg:∀r,letTemporaryGo (.Name x p) (.ref d) r=pure ():=by intro _;with_unfolding_all rfl) :
  PE X (.Subscript (.Name x p) b pos) (tOp (fun x y H Q=>∃(i j:Int),x=.ref d/\y=.int i/\lookup (.int i) D=some (.int j)/\Q (.int j) H) ta tb):=by
 intro pins s σ H Q I h
 refine Subscript_ (bf ha hb I h fun v u s2 x y H2 I2 rx ry q=>?_)
 obtain⟨i,j,rfl,rfl,hl,q⟩:=q
 cases rx
 obtain⟨t,rfl⟩:=ry
 refine item_intTab (hT _ I2.kIn) hl (fun v fl=>?_) (hs _ _) hg
 cases fl s2.heap with
 |int _ t'=>exact⟨.int j,H2,I2.tok _,⟨t',rfl⟩,q⟩
end
end L2
end
section
namespace Bc
open PySem PySem.Spec PyProof.Rows L2
abbrev D3:List (PyData×PyData):=[(.int 1,.int 20),(.int 2,.int 10),(.int 3,.int 6)]
theorem xV(i:Int):(lookup (.int i) D3).isSome=decide (i=1∨i=2∨i=3):=by
 have same_i:∀a b:Int,same (.int a) (.int b)=decide (a=b):=fun a b=>by by_cases h:a=b<;>simp[same,h]
 simp only[lookup,same_i]
 by_cases h1:(1:Int)=i
 .subst h1;rfl
 by_cases h2:(2:Int)=i
 .subst h2;rfl
 by_cases h3:(3:Int)=i
 .subst h3;rfl
 rw[decide_eq_false h1,decide_eq_false h2,decide_eq_false h3]
 have h:¬(i=1∨i=2∨i=3):=by omega
 rw[decide_eq_false h]
 rfl
def tR:PyData->Bool
 |.tuple es=>PyData.canLayAll0 es&&decide (PyData.depthAll es<=60)
 |_=>true
def lay:PyData->Bool
 |.tuple ds=>ds.all tR
 |_=>true
abbrev F3:List Nat:=[9,9,9]
def nr(a:Int):Bool:=decide (-(10^9)<=a)&&decide (a<=10^9)
def bx:PyData->Bool
 |.tuple [.int a,.int b]=>nr a&&nr b&&decide (a<b)
 |_=>false
def part(d:PyData):Bool:=fit [9,9] d&&tR d
def good(d:PyData):Bool:=fit F3 d&&lay d
end Bc
end
section
set_option maxRecDepth 100000
namespace HT
open PySem PySem.Spec PyProof.Rows
open AutoSeq1 (wpAny_loadPart')
theorem Ug:fillsNumberSlot (.type "tuple") "mul"=pure false :=
 PySem.fillsNumberSlot_seq (id:="tuple.__mul__") (r:=some (.builtin "tuple.__rmul__")) PySem.F.slot_tuple_mul.lookup (by decide +kernel) PySem.F.slot_tuple_rmul.lookup (by decide +kernel)
theorem gG:seqRepeat? (.type "tuple")=pure (some (.builtin "tuple.__mul__")):=by
 unfold seqRepeat?
 rw[PySem.seqSlot_of (T:="tuple") (name:="__mul__") (id:="tuple.__mul__") PySem.F.slot_tuple_mul.lookup (by decide +kernel),PySem.seqSlot_of (T:="tuple") (name:="__rmul__") (id:="tuple.__rmul__") PySem.F.slot_tuple_rmul.lookup (by decide +kernel)]
 rfl
theorem ZP(a:Int)(t:Tok)(l:Addr)(items:Array Value)(n:Nat)(dd:Option Addr)(sl:Array (Option Value)) :
  Meets (Builtin.«int.__rmul__» ⟨[.int a t,.ref l],[]⟩) (fun _ R s=>s.heap.get? l=some { cls:=.type "tuple",dict:=dd,data:=.seq items n,slots:=sl }/\R (.ok (.ret Value.notImplemented)) s) :=
 .of_wp fun prog w A R s h=>by obtain⟨hp,g,d,tk,os⟩:=s;obtain⟨hl,h⟩:=h;wp_walk using wpAny_loadPart' hl;exact⟨_,rfl,h⟩
theorem jP(l:Addr)(items:Array Value)(n:Nat)(dd:Option Addr)(sl:Array (Option Value))(x:Int)(u:Tok)(hc0:¬(decide (x < -(2^63))||decide (x≥2^63))=true)(hc1:(items.isEmpty||x==1)=true) :
  Meets (Builtin.«tuple.__mul__» ⟨[.ref l,.int x u],[]⟩) (fun _ R s=>s.heap.get? l=some { cls:=.type "tuple",dict:=dd,data:=.seq items n,slots:=sl }/\R (.ok (.ret (Value.ref l))) { s with heap:=s.heap,toks:=s.toks }) :=
 .of_wp fun prog w A R s h=>by obtain⟨hp,g,d,tk,os⟩:=s;obtain⟨hl,h⟩:=h;have f1:=AutoSeq1.idx_int;wp_walk;refine wpAny_ite_false (decide_eq_false hc0) ?_;wp_walk using wpAny_loadPart' hl;exact⟨_,rfl,h⟩
theorem jO(l:Addr)(items:Array Value)(n:Nat)(dd:Option Addr)(sl:Array (Option Value))(x:Int)(u:Tok)(hc0:¬(decide (x < -(2^63))||decide (x≥2^63))=true)(hc1:¬(items.isEmpty||x==1)=true)
  (hc2:¬(decide (x<=0)||items.isEmpty)=true) (hc3:¬(items.size:Int)*x>(2^63-1)/8) (hc4:¬Builtin.Tuple.tupleTooMany ((items.size:Int)*x)=true) (hsz:(List.foldl (fun x1 x2=>x1++x2) #[] (List.replicate x.toNat items)).size<=sizeLine) :
  Meets (Builtin.«tuple.__mul__» ⟨[.ref l,.int x u],[]⟩) (fun _ R s=>s.heap.get? l=some { cls:=.type "tuple",dict:=dd,data:=.seq items n,slots:=sl }/\R (.ok (.ret (Value.ref s.heap.objs.size))) { s with heap:=s.heap.push { cls:=Value.type "tuple",data:=Data.seq (List.foldl (fun x1 x2=>x1++x2) #[] (List.replicate x.toNat items)) },toks:=s.toks }) :=
 .of_wp fun prog w A R s h=>by obtain⟨hp,g,d,tk,os⟩:=s;obtain⟨hl,h⟩:=h;have f1:=AutoSeq1.idx_int;wp_walk;refine wpAny_ite_false (decide_eq_false hc0) ?_;wp_walk using wpAny_loadPart' hl;refine wpAny_ite_false (decide_eq_false hc3) ?_;wp_walk;exact⟨_,rfl,h⟩
section
variable{prog:Program}{w:World}{A:Around}{E:Value->Shared->Prop}{s:Shared}
theorem pP{t:Addr}{its:List Value}{k:Int}{u:Tok}{Q:Value->Shared->Prop}(ht:IsTup s.heap t its.toArray)(hne:its≠[])(h1:1<=k)(h2:k<2^60)(hz:its.length*k.toNat<=sizeLine)
  (q1:k=1->Q (.ref t) s) (q2:k≠1->Q (.ref s.heap.objs.size) { s with heap:=s.heap.push { cls:=.type "tuple",data:=.seq (List.replicate k.toNat its).flatten.toArray } }) :
  wpAny (model prog w) A (binaryOp .Mult (.ref t) (.int k u)) Q E s:=by
 obtain⟨⟨c1,d1,x1,sl1⟩,ho,hc,n,hd⟩:=id ht
 simp only at hc hd
 subst hc hd
 have c0:¬(decide (k < -(2^63))||decide (k≥2^63))=true:=by
  rw[decide_eq_false (by omega),decide_eq_false (by omega)];exact Bool.false_ne_true
 have ne:its.toArray.isEmpty=false:=by cases its with|nil=>exact absurd rfl hne|cons _ _=>rfl
 have hnew:List.foldl (fun x1 x2=>x1++x2) #[] (List.replicate k.toNat its.toArray)=(List.replicate k.toNat its).flatten.toArray:=by
  have:=L2.foldl_rep its k.toNat []
  rw[List.nil_append] at this
  exact this
 refine wpAny_binaryOp_repeat_ref (T:="tuple") (U:="int") (by decide) ⟨_,ho,rfl⟩ (fun s'=>typeIs_int s' k u) Ug PySem.F.fills_int_mul PySem.F.slot_int_rmul gG PySem.F.slot_int_index.lookup
  (call_meets PySem.F.slot_int_rmul (typeIs_int s k u) PySem.F.entry_int_rmul (PySem.F.args_int_rmul_2 _ _) (ZP k u t its.toArray n d1 sl1) ⟨ho,rfl,⟨_,ho,rfl⟩,?_⟩)
 by_cases k1:k=1
 .exact call_meets PySem.F.slot_tuple_mul ⟨_,ho,rfl⟩ PySem.F.entry_tuple_mul (PySem.F.args_tuple_mul_2 _ _) (jP t its.toArray n d1 sl1 k u c0 (by rw[k1];simp)) ⟨ho,q1 k1⟩
 .have e:((its.toArray.size:Nat):Int)*k=((its.length*k.toNat:Nat):Int):=by
   rw[List.size_toArray,Int.natCast_mul,Int.toNat_of_nonneg (by omega)]
  have hs:(sizeLine:Nat)=16777216:=by decide
  refine call_meets PySem.F.slot_tuple_mul ⟨_,ho,rfl⟩ PySem.F.entry_tuple_mul (PySem.F.args_tuple_mul_2 _ _) (jO t its.toArray n d1 sl1 k u c0 ?_ ?_ ?_ ?_ ?_) ⟨ho,?_⟩
  .rw[ne];simp[k1]
  .rw[ne,decide_eq_false (by omega)];exact Bool.false_ne_true
  .rw[e];omega
  .rw[e]
   unfold Builtin.Tuple.tupleTooMany
   rw[decide_eq_true_eq]
   omega
  .rw[hnew,List.size_toArray,L2.len_rep,Nat.mul_comm];exact hz
  .rw[hnew];exact q2 k1
end
end HT
namespace L2
open PySem PySem.Spec PyProof.Rows
abbrev mj:R2:=fun x y H Q=>∃(a:Addr)(k:Int)(xs:List V),x=.ref a/\y=.int k/\H a=some (.tup xs)/\xs≠[]/\1<=k/\k<2^60/\xs.length*k.toNat<=sizeLine/\∀p H',Same H H'->H' p=some (.tup (List.replicate k.toNat xs).flatten)->Q (.ref p) H'
section
variable{X:Cx}
theorem pK:OpR X (binaryOp .Mult) mj:=by
 intro pins s σ H x y v u Q I rx ry h
 obtain⟨a,k,xs,rfl,rfl,ha,hne,k1,k2,hz,q⟩:=h
 cases rx
 obtain⟨t,rfl⟩:=ry
 obtain⟨its,r1,p1,_⟩:=I.tuple (SqT.of ha)
 refine HT.pP p1 (fun z=>hne (r1.SJ.mp z)) k1 k2 (by rw[←r1.length];exact hz) (fun e=>?_) (fun e=>?_)
 .refine⟨.ref a,H,I,rfl,q a H (Same.refl H) ?_⟩
  rw[e]
  simpa using ha
 .refine⟨.ref s.heap.objs.size,_,I.laid (t':=s.toks) (o:=.tup (List.replicate k.toNat xs).flatten) (fun b ob q=>Heap.get?_push_of_some _ q) (Nat.le_refl _) ?_,rfl,q _ _ (Cw (I.hok.fresh (Nat.le_refl _)) _) CQ⟩
  exact⟨by rw[len_rep,Nat.mul_comm];exact hz,_,r1.rep k.toNat,IsTup.new _ _⟩
end
section
variable{X:Cx}
end
section
variable{a:Addr}{H0:Hp}{σ:St}{te t1 t2:TE}{ta:TA}{d:PyData}{ds d1 d2:List PyData}{i j:Int}{K:PySem.W.Frag}
end
structure Wq(a q:Addr)(bs:List V)(H:Hp):Prop where
 w:Well H a
 at_:H q=some (.lst bs)
 ne:q≠a
section
variable{a q p:Addr}{bs:List V}{H H':Hp}
abbrev mz:R2:=fun x y H Q=>∃(a b:Addr)(xs ys:List V),x=.ref a/\y=.ref b/\H a=some (.tup xs)/\H b=some (.tup ys)/\xs.length+ys.length<=sizeLine/\∀p H',Same H H'->H' p=some (.tup (xs++ys))->Q (.ref p) H'
abbrev sX:V->Option Int->Option Int->Hp->VK->Prop:=fun x lo hi H Q=>∃(a:Addr)(xs:List V),x=.ref a/\H a=some (.tup xs)/\∀p H',Same H H'->H' p=some (.tup (Kr xs lo hi))->Q (.ref p) H'
end
end L2
end
section
namespace L2
open PySem PySem.Spec PyProof.Rows
end L2
namespace Bc
open PySem PySem.Spec PyProof.Rows L2
def uw:PyData->Nat
 |.int 1=>20
 |.int 2=>10
 |.int 3=>6
 |_=>0
def yq(n:Nat):PyData->Bool
 |.tuple es=>decide (es.length=n)&&es.all bx
 |_=>false
end Bc
end
section
namespace L2
open PySem PySem.Spec PyProof.Rows
theorem Inv.Vs{X:Cx}{pins:List (Addr×Obj)}{σ:St}{H:Hp}{s:Shared}{h':Heap}{t':Nat}{fp:List Addr}(I:Inv X pins σ H s)(k:∀b o,b ∉ fp->s.heap.get? b=some o->h'.get? b=some o)(hf:∀b∈fp,PL X pins H b) :
  Inv X pins σ H { s with heap:=h',toks:=t' }:=by
 have nit:∀b u,H b=some u->b ∉ fp:=fun b u e z=>by
  have:=(hf b z).1
  rw[this] at e
  cases e
 refine I.step (g':=s.gens) (d':=s.drawn) (ch:=fp) (fun b hb=>?_) (fun b o _ _ hc e _=>k b o hc e) (fun b o _ _ hc e _=>⟨o.slots,k b o hc e⟩) (fun _ _ _ _ n=>n) (fun b o hc e=>⟨o,k b o hc e⟩) (fun _ _ e=>e) (fun _ _ _ e=>e)
  (fun b ps e=>⟨#[],by rw[e];simp⟩) (fun m hm=>?_) (fun b u e=>?_) I.bare id
 .obtain⟨_,a2,_,a4,a5,a6⟩:=hf b hb
  exact⟨a4,a2,a5,a6⟩
 .obtain⟨o,es,ep,ho,r⟩:=hm
  exact⟨o,es,ep,k _ o (fun z=>(hf _ z).2.1 rfl) ho,r⟩
 .refine(I.hok b u e).stay (fun c v hc q=>k c v ?_ q) (fun _ q=>q) fun _ _ q=>q
  rcases hc with z|z
  .rw[z];exact nit b u e
  .exact nit c _ z
theorem Inv.nA{X:Cx}{pins:List (Addr×Obj)}{σ:St}{H:Hp}{s:Shared}{h':Heap}{t':Nat}{fp:List Addr}{x y:V}{u v:Value}(I:Inv X pins σ H s)(rx:RelV x u)(ry:RelV y v)
  (ht:h'.get? s.heap.objs.size=some { cls:=.type "tuple",data:=.seq #[u,v] }) (k:∀b o,b ∉ fp->s.heap.get? b=some o->h'.get? b=some o) (hf:∀b∈fp,PL X pins H b) (hlt:∀b∈fp,b<s.heap.objs.size) :
  Inv X pins σ (upd H s.heap.objs.size (.tup [x,y])) { s with heap:=h',toks:=t' }:=by
 have I1:=I.laid (h':=s.heap.push { cls:=.type "tuple",data:=.seq #[u,v] }) (t':=s.toks) (a:=s.heap.objs.size) (o:=.tup [x,y]) (fun b ob q=>Heap.get?_push_of_some _ q) (Nat.le_refl _)
  ⟨(by decide:2<=sizeLine),[u,v],.cons rx (.cons ry .nil),IsTup.new _ _⟩
 refine Inv.Vs (s:={ s with heap:=s.heap.push { cls:=.type "tuple",data:=.seq #[u,v] } }) (h':=h') (t':=t') (fp:=fp) I1 (fun b o hb e=>?_) (fun b hb=>?_)
 .rcases Heap.get?_push_cases e with ⟨z1,z2⟩|z
  .rw[z1,z2]
   exact ht
  .exact k b o hb z
 .obtain⟨a1,a2,a3,a4,a5,a6⟩:=hf b hb
  exact⟨by rw[Bo (Nat.ne_of_lt (hlt b hb))];exact a1,a2,a3,a4,a5,a6⟩
def Ite(K:PySem.W.Frag)(a:Addr):It :=
 ⟨fun i H=>∃xs x,SqL K H a xs/\xs[i]?=some x,fun i H v H'=>∃p x,H p=none/\v=.ref p/\H'=upd H p (.tup [.int i,x])/\∀xs,SqL K H a xs->xs[i]?=some x,fun i H=>∃xs,SqL K H a xs/\xs.length<=i⟩
theorem fP{P:Program}{w:World}{K:PySem.W.Frag}{elts:List Expr}{x1:Nat}{pos:Pos}(a e it:Addr)(hne:e≠it) :
  Turn P w K (.Tuple elts x1 pos) (Ite K a) [e,it] e (fun i h=>(∃old,IsEnum h e it (i:Nat) old)/\h.IsListIter it a i) where
 mem:=by simp
 obj:=fun i h st b hb=>by
  obtain⟨⟨old,he⟩,o,e1,c,d⟩:=st
  simp only[List.mem_cons,List.not_mem_nil,or_false] at hb
  rcases hb with rfl|rfl
  .exact⟨_,he,fun v z=>by cases z⟩
  .exact⟨o,e1,fun v z=>by rw[d] at z;cases z⟩
 keep:=fun i h h' st k=>by
  obtain⟨⟨old,he⟩,hit⟩:=st
  exact⟨⟨old,k e (by simp) _ he⟩,hit.at fun o q=>k it (by simp) o q⟩
 item:=by
  intro X hP hw hK hc i pins s σ H E I hf st hg
  subst hP hw hK
  obtain⟨xs,x,hq,hx⟩:=hg
  obtain⟨its,rv,p,hz⟩:=I.list hq
  obtain⟨u,hu,ru⟩:=rv.get hx
  obtain⟨⟨old,he⟩,hit⟩:=st
  have lt1:e<s.heap.objs.size:=Heap.lt_size he
  have lt2:it<s.heap.objs.size:=by obtain⟨o,q,_⟩:=hit;exact Heap.lt_size q
  refine wpAny_pyNext_enum_item he hit p.isList (x:=u) (by simpa using hu) hne fun h' eo it' tp sz k=>⟨_,rfl,?_⟩
  refine wpAny_letOwnedTupleGo_enum eo fun h2 e2 sb=>?_
  have ne2:s.heap.objs.size≠e:=Nat.ne_of_gt lt1
  have J:=I.nA (h':=h2) (t':=s.toks+1) (fp:=[e,it]) (x:=.int i) (y:=x) (u:=.int i s.toks) (v:=u) ⟨_,rfl⟩ ru (sb.extBut _ _ ne2 tp) (fun b o hb q=>by
   simp only[List.mem_cons,List.not_mem_nil,or_false,not_or] at hb
   exact sb.extBut _ _ hb.1 (k b o hb.1 hb.2 q)) hf (fun b hb=>by
   simp only[List.mem_cons,List.not_mem_nil,or_false] at hb
   rcases hb with rfl|rfl
   .exact lt1
   .exact lt2)
  refine⟨.ref s.heap.objs.size,_,J,rfl,⟨_,x,I.hok.fresh (Nat.le_refl _),rfl,rfl,fun ys hy=>by rw[I.Yk hy hq];exact hx⟩,⟨⟨u,e2⟩,it'.at fun o q=>sb.extBut _ _ (Ne.symm hne) q⟩,fun b hb=>?_⟩
  rw[Bo]
  .exact(hf b hb).1
  .simp only[List.mem_cons,List.not_mem_nil,or_false] at hb
   rcases hb with rfl|rfl
   .exact Nat.ne_of_lt lt1
   .exact Nat.ne_of_lt lt2
 done:=by
  intro X hP hw hK hc i pins s σ H E I hf st hg
  subst hP hw hK
  obtain⟨xs,hq,hx⟩:=hg
  obtain⟨its,rv,p,hz⟩:=I.list hq
  obtain⟨⟨old,he⟩,hit⟩:=st
  have hl:=rv.length
  exact wpAny_pyNext_enum_end (I.ok.hd hc) he hit p.isList (by simp;omega) fun h' eb=>⟨rfl,I.Vs (t':=s.toks) (fp:=[e,it]) (fun b o hb q=>eb b o (fun z=>hb (by simp[z])) q) hf⟩
 self:=fun _ _ _ _ _ st h=>by
  obtain⟨⟨old,he⟩,_⟩:=st
  exact wpAny_pyIter_enum he h
abbrev xY(K:PySem.W.Frag)(ta:TA):TI:=fun σ H R=>ta σ H fun vs H1=>∃a,vs=[.ref a]/\(∃xs,SqL K H1 a xs)/\R (Ite K a) H1
section
variable{X:Cx}
theorem pC{a:Expr}{ta:TA}{p pos:Pos}{elts:List Expr}{x1:Nat}{tpos:Pos}(hg:Gl X "enumerate")(hm:X.mg "enumerate"=none)(ha:PA X [a] ta)(hs:starEach [a] X.env=[(false,eval a X.env)]:=by rfl) :
  PI X (.Tuple elts x1 tpos) (.Call (.Name "enumerate" p) [a] [] pos) (xY X.K ta):=by
 intro pins s σ H R I h
 refine Call_ (Jz I hg hm (by decide +kernel:bootBuiltins "enumerate"=some (.type "enumerate")) (PyProof.Rows.callWith_type1 (thn (ha pos pins s σ H _ I h) fun us s1 ⟨vs,H1,I1,r1,q1⟩=>?_) hs rfl))
 obtain⟨l,e,⟨xs,hq⟩,q⟩:=q1
 subst e
 cases r1 with
 |cons r rr =>
  cases rr
  cases r
  obtain⟨its,rv,pl,hz⟩:=I1.list hq
  refine call_enumerate_list pl.isList fun h' e1 i1 sz k=>?_
  refine wpAny_pyIter_enum e1 ?_
  refine⟨s1.heap.objs.size+1,[s1.heap.objs.size+1,s1.heap.objs.size],_,_,H1,rfl,I1.kept (t':=s1.toks) k,fP l _ _ (Nat.succ_ne_self _),⟨⟨_,e1⟩,i1⟩,fun b hb=>?_,q⟩
  have hb':s1.heap.objs.size<=b:=by
   simp only[List.mem_cons,List.not_mem_nil,or_false] at hb
   rcases hb with rfl|rfl<;>omega
  exact I1.Vp hb' (I1.hok.fresh hb')
end
end L2
end
section
set_option maxRecDepth 100000
namespace HT
open PySem PySem.Spec PyProof.Rows
section
variable{prog:Program}{w:World}{A:Around}{E:Value->Shared->Prop}{s:Shared}
theorem nextT{it t:Addr}{i:Nat}{ws:Array Value}{x:Value}{Q:Value->Shared->Prop}(c:s.heap.IsTupleIter it t i)(ct:s.heap.IsTuple t ws)(ex:ws[i]?=some x)
  (q:∀h',h'.IsTupleIter it t (i+1)->Heap.SameBut it s.heap h'->Q x { s with heap:=h' }):wpAny (model prog w) A (Builtin.SmallTypes.nextOf (.ref it)) Q E s:=by
 obtain⟨o,e0,e1,e2⟩:=id c
 obtain⟨ot,f0,_,nt,f1⟩:=ct
 unfold Builtin.SmallTypes.nextOf
 refine wpAny_bind (wpAny_callSpecial?_slot (name:=Str.ofString "__next__") c.typeIs PySem.F.slot_tuple_iterator_next (wpAny_call_entry PySem.F.slot_tuple_iterator_next c.typeIs PySem.F.entry_tuple_iterator_next ?_ (PySem.F.args_tuple_iterator_next_1 _)))
 refine(show wpAny _ _ (field (.ref it) 0 >>= _) _ _ s from wpAny_bind (wpAny_field e0 e2 (x:=.ref t) rfl ?_))
 show wpAny _ _ (ite ((Value.ref t==Value.none)=true) _ _) _ _ s
 rw[if_neg (by exact Bool.false_ne_true)]
 refine(show wpAny _ _ (field (.ref it) 1 >>= _) _ _ s from wpAny_bind (wpAny_field e0 e2 (x:=.int i 0) rfl ?_))
 refine(show wpAny _ _ (seqItems? (.ref t) >>= _) _ _ s from wpAny_bind (wpAny_seqItems f0 f1 ?_))
 simp only[ex,Int.toNat_natCast]
 refine wpAny_bind (wpAny_setField e0 e2 (by simp) (wpAny_pure ⟨x,rfl,wpAny_pure (q _ ⟨_,Heap.get?_update_self _ e0 (Obj.isFreed_of_fields (Obj.data_mapFields e2 _)),(Obj.cls_mapFields ..).trans e1,?_⟩ (Heap.SameBut.update ..))⟩))
 rw[Obj.data_mapFields e2]
 simp[rawInt]
theorem uq{it t:Addr}{i:Nat}{ws:Array Value}{Q:Value->Shared->Prop}(ha:A.handled=none)(c:s.heap.IsTupleIter it t i)(ct:s.heap.IsTuple t ws)(ex:ws[i]?=none)
  (q:∀h' e,Heap.ExtBut it s.heap h'->(∃o,h'.get? e=some o/\o.cls=.type "StopIteration")->E (.ref e) { s with heap:=h' }):wpAny (model prog w) A (Builtin.SmallTypes.nextOf (.ref it)) Q E s:=by
 obtain⟨o,e0,e1,e2⟩:=id c
 obtain⟨ot,f0,_,nt,f1⟩:=ct
 unfold Builtin.SmallTypes.nextOf
 refine wpAny_bind (wpAny_callSpecial?_slot (name:=Str.ofString "__next__") c.typeIs PySem.F.slot_tuple_iterator_next (wpAny_call_entry PySem.F.slot_tuple_iterator_next c.typeIs PySem.F.entry_tuple_iterator_next ?_ (PySem.F.args_tuple_iterator_next_1 _)))
 refine(show wpAny _ _ (field (.ref it) 0 >>= _) _ _ s from wpAny_bind (wpAny_field e0 e2 (x:=.ref t) rfl ?_))
 show wpAny _ _ (ite ((Value.ref t==Value.none)=true) _ _) _ _ s
 rw[if_neg (by exact Bool.false_ne_true)]
 refine(show wpAny _ _ (field (.ref it) 1 >>= _) _ _ s from wpAny_bind (wpAny_field e0 e2 (x:=.int i 0) rfl ?_))
 refine(show wpAny _ _ (seqItems? (.ref t) >>= _) _ _ s from wpAny_bind (wpAny_seqItems f0 f1 ?_))
 simp only[ex,Int.toNat_natCast]
 refine wpAny_bind (wpAny_rule (wpAny_bind (wpAny_setField e0 e2 (by simp) (show wpAny _ _ (newExc (.type "StopIteration") [] >>= _) _ _ _ from wpAny_bind ?_))))
 simp only[newTuple,newExc]
 refine wpAny_bind (wpAny_newObj_type (wpAny_bind (m:=firstArgMember _ _) (wpAny_of_eq (a:=Value.none) (by first|rfl|(simp only[firstArgMember];rfl)) (wpAny_newObj_type ?_ (by size_fits)))) (by size_fits))
 simp only[raiseNew]
 refine wpAny_bind (wpAny_handled ?_)
 rw[show A.in1.handled=none from ha]
 exact wpAny_bind (wpAny_pure (wpAny_throw (q _ _ (((Heap.SameBut.update ..).extBut.push _).push _) ⟨_,Heap.get?_push_size _ rfl,rfl⟩)))
theorem vQ(ha:A.handled=none)(it t:Addr)(ne:t≠it)(ws:Array Value):Draws prog w A it [it,t] ws.size (fun i v=>ws[i]?=some v) (fun i h=>h.IsTupleIter it t i/\h.IsTuple t ws) where
 live:=fun _ _ st=>let ⟨o,e,_⟩:=st.1;⟨o,e⟩
 frame:=fun _ _ _ st k=>⟨st.1.at fun o e=>k it (by simp) o e,st.2.at fun o e=>k t (by simp) o e⟩
 item:=fun i s Q E hi st q=>nextT st.1 st.2 (x:=ws[i]) (by simp[hi]) fun h' c' sb=>q _ h' s.toks (by simp[hi]) ⟨c',st.2.extBut sb.extBut ne⟩ sb
 done:=fun s Q E st q=>uq ha st.1 st.2 (by simp) q
structure Apart(z TI TO i1 i2:Addr)(fp1 fp2:List Addr):Prop where
 a1:TI≠z
 a2:TO≠z
 a3:TI≠TO
 b1:∀b∈fp1,b≠z/\b≠TO/\b≠i2
 b2:∀b∈fp2,b≠z/\b≠TO/\b≠i1
 c1:i1≠z/\i1≠TO/\i1≠TI
 c2:i2≠z/\i2≠TO/\i2≠TI
 c3:i1≠i2
section
variable{z TI TO i1 i2:Addr}{fp1 fp2:List Addr}{n1 n2 k:Nat}{P1 P2:Nat->Value->Prop}{S1 S2:Nat->Heap->Prop}{a b:Value}
theorem yM{Q:Value->Shared->Prop}(D1:Draws prog w A i1 fp1 n1 P1 S1)(D2:Draws prog w A i2 fp2 n2 P2 S2)(D:Apart z TI TO i1 i2 fp1 fp2)(hZ:IsZip s.heap z TI TO .none)(hI:IsPair s.heap TI (.ref i1) (.ref i2))(hO:IsPair s.heap TO a b)
  (s1:S1 k s.heap) (s2:S2 k s.heap) (k1:k<n1) (k2:k<n2)
  (q:∀x y h' tk,P1 k x->P2 k y->IsZip h' z TI TO (rawInt s.heap.objs.size)->IsPair h' TO x y->S1 (k+1) h'->S2 (k+1) h'->IsPair h' s.heap.objs.size x y->h'.objs.size=s.heap.objs.size+1 ->
   (∀c o,c≠z->c≠TO->c≠i1->c≠i2->s.heap.get? c=some o->h'.get? c=some o)->Q (.ref s.heap.objs.size) { s with heap:=h',toks:=tk }) :
  wpAny (model prog w) A (Builtin.«zip.__next__» ⟨[.ref z],[]⟩) (fun fin s'=>∃v,fin=.done (.ret v)/\Q v s') E s:=by
 obtain⟨hp,g,d,tk0,os⟩:=s
 refine(show wpAny _ _ (field (.ref z) 2 >>= _) _ _ _ from wpAny_bind (wpAny_field hZ rfl (x:=.bool false) rfl ?_))
 refine(show wpAny _ _ (field (.ref z) 3 >>= _) _ _ _ from wpAny_bind (wpAny_field hZ rfl (x:=.ref TI) rfl (wpAny_bind (wpAny_seqItems hI rfl ?_))))
 refine(show wpAny _ _ (Builtin.SmallTypes.ownedTupleIsFree (.ref z) >>= _) _ _ _ from wpAny_bind ?_)
 unfold Builtin.SmallTypes.ownedTupleIsFree
 refine wpAny_bind (wpAny_field hZ rfl (x:=.none) rfl (wpAny_pure ?_))
 simp only[if_true]
 refine wpAny_bind (wpAny_rule (wpAny_bind (wpAny_field hZ rfl (x:=.ref TO) rfl (wpAny_bind (wpAny_setField_rec hZ (by simp) fun g1 z1 m1=>?_)))))
 replace z1:IsZip g1 z TI TO .ellipsis:=z1
 replace m1:Heap.SameBut z hp g1:=m1
 refine wpAny_bind ?_
 simp only[List.zipIdx_cons,List.zipIdx_nil,List.forIn_cons,List.forIn_nil]
 have t1:S1 k g1:=D1.frame _ _ _ s1 fun c hc o e=>m1.extBut _ _ (D.b1 c hc).1 e
 have u1:S2 k g1:=D2.frame _ _ _ s2 fun c hc o e=>m1.extBut _ _ (D.b2 c hc).1 e
 refine wpAny_bind (wpAny_bind (wpAny_onRaise (show wpAny _ _ (Builtin.SmallTypes.nextOf (.ref i1) >>= _) _ _ _ from wpAny_bind (D1.item k ⟨g1,g,d,tk0,os⟩ _ _ k1 t1 fun x g2 tk1 px t2 m2=>wpAny_pure ?_))))
 replace m2:Heap.SameBut i1 g1 g2:=m2
 have o2:IsPair g2 TO a b:=m2.extBut _ _ (Ne.symm D.c1.2.1) (m1.extBut _ _ D.a2 hO)
 refine wpAny_bind (wpAny_seqItems o2 rfl (wpAny_bind (wpAny_updateSeq_pair o2 fun g3 o3 m3=>?_)))
 replace o3:IsPair g3 TO x b:=o3
 replace m3:Heap.SameBut TO g2 g3:=m3
 have u3:S2 k g3:=D2.frame _ _ _ u1 fun c hc o e=>m3.extBut _ _ (D.b2 c hc).2.1 (m2.extBut _ _ (D.b2 c hc).2.2 e)
 refine wpAny_bind (wpAny_letGo (wpAny_pure ?_))
 refine wpAny_bind (wpAny_bind (wpAny_onRaise (show wpAny _ _ (Builtin.SmallTypes.nextOf (.ref i2) >>= _) _ _ _ from wpAny_bind (D2.item k ⟨g3,g,d,tk1,os⟩ _ _ k2 u3 fun y g4 tk2 py u4 m4=>wpAny_pure ?_))))
 replace m4:Heap.SameBut i2 g3 g4:=m4
 have o4:IsPair g4 TO x b:=m4.extBut _ _ (Ne.symm D.c2.2.1) o3
 refine wpAny_bind (wpAny_seqItems o4 rfl (wpAny_bind (wpAny_updateSeq_pair o4 fun g5 o5 m5=>?_)))
 replace o5:IsPair g5 TO x y:=o5
 replace m5:Heap.SameBut TO g4 g5:=m5
 refine wpAny_bind (wpAny_letGo (wpAny_pure (wpAny_pure (wpAny_bind (wpAny_seqItems o5 rfl (wpAny_bind (wpAny_newTuple ?_)))))))
 have sz:g5.objs.size=hp.objs.size:=by rw[m5.1,m4.1,m3.1,m2.1,m1.1]
 have z5:IsZip g5 z TI TO .ellipsis:=m5.extBut _ _ (Ne.symm D.a2) (m4.extBut _ _ (Ne.symm D.c2.1) (m3.extBut _ _ (Ne.symm D.a2) (m2.extBut _ _ (Ne.symm D.c1.1) z1)))
 have kk:∀c o,c≠z->c≠TO->c≠i1->c≠i2->hp.get? c=some o->g5.get? c=some o:=fun c o n1 n2 n3 n4 e=>m5.extBut _ _ n2 (m4.extBut _ _ n4 (m3.extBut _ _ n2 (m2.extBut _ _ n3 (m1.extBut _ _ n1 e))))
 have lz:z<g5.objs.size:=Heap.lt_size z5
 refine(show wpAny _ _ (Builtin.SmallTypes.ownedTupleHandOut (.ref z) (.ref g5.objs.size) >>= _) _ _ _ from wpAny_bind ?_)
 unfold Builtin.SmallTypes.ownedTupleHandOut
 have z6:IsZip (g5.push { cls:=.type "tuple",data:=.seq #[x,y] }) z TI TO .ellipsis:=Heap.get?_push_of_some _ z5
 refine wpAny_bind (wpAny_setField_rec z6 (by simp) fun g7 z7 m7=>?_)
 replace z7:IsZip g7 z TI TO (rawInt g5.objs.size):=z7
 refine wpAny_setField_rec z7 (by simp) fun g8 z8 m8=>?_
 replace z8:IsZip g8 z TI TO (rawInt g5.objs.size):=z8
 have up:∀c o,c≠z->g5.get? c=some o->g8.get? c=some o:=fun c o n e=>m8.extBut _ _ n (m7.extBut _ _ n (Heap.get?_push_of_some _ e))
 have p8:IsPair g8 g5.objs.size x y:=m8.extBut _ _ (Nat.ne_of_gt lz) (m7.extBut _ _ (Nat.ne_of_gt lz) (Heap.get?_push_size _ rfl))
 have w8:g8.objs.size=g5.objs.size+1:=by rw[m8.1,m7.1,Heap.size_push]
 rw[sz] at z8 p8 w8
 refine wpAny_pure ⟨_,rfl,?_⟩
 show Q (.ref g5.objs.size) _
 rw[sz]
 refine q x y g8 tk2 px py z8 (up _ _ D.a2 o5) ?_ ?_ p8 w8 fun c o n1 n2 n3 n4 e=>up c o n1 (kk c o n1 n2 n3 n4 e)
 .exact D1.frame _ _ _ t2 fun c hc o e=>up _ _ (D.b1 c hc).1 (m5.extBut _ _ (D.b1 c hc).2.1 (m4.extBut _ _ (D.b1 c hc).2.2 (m3.extBut _ _ (D.b1 c hc).2.1 e)))
 .exact D2.frame _ _ _ u4 fun c hc o e=>up _ _ (D.b2 c hc).1 (m5.extBut _ _ (D.b2 c hc).2.1 e)
theorem yN{Q:PySem.Fin->Shared->Prop}(D1:Draws prog w A i1 fp1 n1 P1 S1)(D2:Draws prog w A i2 fp2 n2 P2 S2)(D:Apart z TI TO i1 i2 fp1 fp2)(hZ:IsZip s.heap z TI TO .none)(hI:IsPair s.heap TI (.ref i1) (.ref i2))(hO:IsPair s.heap TO a b)
  (s1:S1 k s.heap) (s2:S2 k s.heap) (ke:k=n1∨(k<n1/\k=n2))
  (q:∀h' e tk,(∀c o,c≠z->c≠TO->c≠i1->c≠i2->s.heap.get? c=some o->h'.get? c=some o)->(∃o,h'.get? e=some o/\o.cls=.type "StopIteration")->E (.ref e) { s with heap:=h',toks:=tk }) :
  wpAny (model prog w) A (Builtin.«zip.__next__» ⟨[.ref z],[]⟩) Q E s:=by
 obtain⟨hp,g,d,tk0,os⟩:=s
 refine(show wpAny _ _ (field (.ref z) 2 >>= _) _ _ _ from wpAny_bind (wpAny_field hZ rfl (x:=.bool false) rfl ?_))
 refine(show wpAny _ _ (field (.ref z) 3 >>= _) _ _ _ from wpAny_bind (wpAny_field hZ rfl (x:=.ref TI) rfl (wpAny_bind (wpAny_seqItems hI rfl ?_))))
 refine(show wpAny _ _ (Builtin.SmallTypes.ownedTupleIsFree (.ref z) >>= _) _ _ _ from wpAny_bind ?_)
 unfold Builtin.SmallTypes.ownedTupleIsFree
 refine wpAny_bind (wpAny_field hZ rfl (x:=.none) rfl (wpAny_pure ?_))
 simp only[if_true]
 refine wpAny_bind (wpAny_rule (wpAny_bind (wpAny_field hZ rfl (x:=.ref TO) rfl (wpAny_bind (wpAny_setField_rec hZ (by simp) fun g1 z1 m1=>?_)))))
 replace z1:IsZip g1 z TI TO .ellipsis:=z1
 replace m1:Heap.SameBut z hp g1:=m1
 refine wpAny_bind ?_
 simp only[List.zipIdx_cons,List.zipIdx_nil,List.forIn_cons,List.forIn_nil]
 have t1:S1 k g1:=D1.frame _ _ _ s1 fun c hc o e=>m1.extBut _ _ (D.b1 c hc).1 e
 have u1:S2 k g1:=D2.frame _ _ _ s2 fun c hc o e=>m1.extBut _ _ (D.b2 c hc).1 e
 rcases ke with ke|⟨k1,ke⟩
 .subst ke
  refine wpAny_bind (wpAny_bind (wpAny_onRaise (show wpAny _ _ (Builtin.SmallTypes.nextOf (.ref i1) >>= _) _ _ _ from wpAny_bind (D1.done ⟨g1,g,d,tk0,os⟩ _ _ t1 fun g2 e m2 he=>?_))))
  obtain⟨oe,he1,he2⟩:=he
  replace m2:Heap.ExtBut i1 g1 g2:=m2
  have z2:IsZip g2 z TI TO .ellipsis:=m2 _ _ (Ne.symm D.c1.1) z1
  have ez:e≠z:=fun x=>by subst x;rw[z2] at he1;cases he1;simp at he2
  exact wpAny_setField_rec z2 (by simp) fun g3 _ m3=>q g3 e _ (fun c o n1 _ n3 _ x=>m3.extBut _ _ n1 (m2 _ _ n3 (m1.extBut _ _ n1 x))) ⟨oe,m3.extBut _ _ ez he1,he2⟩
 .refine wpAny_bind (wpAny_bind (wpAny_onRaise (show wpAny _ _ (Builtin.SmallTypes.nextOf (.ref i1) >>= _) _ _ _ from wpAny_bind (D1.item k ⟨g1,g,d,tk0,os⟩ _ _ k1 t1 fun x g2 tk1 px t2 m2=>wpAny_pure ?_))))
  replace m2:Heap.SameBut i1 g1 g2:=m2
  have o2:IsPair g2 TO a b:=m2.extBut _ _ (Ne.symm D.c1.2.1) (m1.extBut _ _ D.a2 hO)
  refine wpAny_bind (wpAny_seqItems o2 rfl (wpAny_bind (wpAny_updateSeq_pair o2 fun g3 o3 m3=>?_)))
  replace m3:Heap.SameBut TO g2 g3:=m3
  have u3:S2 k g3:=D2.frame _ _ _ u1 fun c hc o e=>m3.extBut _ _ (D.b2 c hc).2.1 (m2.extBut _ _ (D.b2 c hc).2.2 e)
  rw[ke] at u3
  refine wpAny_bind (wpAny_letGo (wpAny_pure ?_))
  refine wpAny_bind (wpAny_bind (wpAny_onRaise (show wpAny _ _ (Builtin.SmallTypes.nextOf (.ref i2) >>= _) _ _ _ from wpAny_bind (D2.done ⟨g3,g,d,tk1,os⟩ _ _ u3 fun g4 e m4 he=>?_))))
  obtain⟨oe,he1,he2⟩:=he
  replace m4:Heap.ExtBut i2 g3 g4:=m4
  have z4:IsZip g4 z TI TO .ellipsis:=m4 _ _ (Ne.symm D.c2.1) (m3.extBut _ _ (Ne.symm D.a2) (m2.extBut _ _ (Ne.symm D.c1.1) z1))
  have ez:e≠z:=fun x=>by subst x;rw[z4] at he1;cases he1;simp at he2
  exact wpAny_setField_rec z4 (by simp) fun g5 _ m5=>q g5 e _ (fun c o n1 n2 n3 n4 x=>m5.extBut _ _ n1 (m4 _ _ n4 (m3.extBut _ _ n2 (m2.extBut _ _ n3 (m1.extBut _ _ n1 x))))) ⟨oe,m5.extBut _ _ ez he1,he2⟩
theorem aH{Q:Option Value->Shared->Prop}(D1:Draws prog w A.in1 i1 fp1 n1 P1 S1)(D2:Draws prog w A.in1 i2 fp2 n2 P2 S2)(D:Apart z TI TO i1 i2 fp1 fp2)(hZ:IsZip s.heap z TI TO .none)(hI:IsPair s.heap TI (.ref i1) (.ref i2))(hO:IsPair s.heap TO a b)
  (s1:S1 k s.heap) (s2:S2 k s.heap) (k1:k<n1) (k2:k<n2)
  (q:∀x y h' tk,P1 k x->P2 k y->IsZip h' z TI TO (rawInt s.heap.objs.size)->IsPair h' TO x y->S1 (k+1) h'->S2 (k+1) h'->IsPair h' s.heap.objs.size x y->h'.objs.size=s.heap.objs.size+1 ->
   (∀c o,c≠z->c≠TO->c≠i1->c≠i2->s.heap.get? c=some o->h'.get? c=some o)->Q (some (.ref s.heap.objs.size)) { s with heap:=h',toks:=tk }) :
  wpAny (model prog w) A (pyNext (.ref z)) Q E s:=by
 have T:s.TypeIs (.ref z) "zip":=⟨_,hZ,rfl⟩
 unfold pyNext
 exact wpAny_bind (wpAny_attempt (wpAny_callSpecial?_slot (name:=Str.ofString "__next__") T PySem.F.slot_zip_next (wpAny_call_entry PySem.F.slot_zip_next T PySem.F.entry_zip_next (yM D1 D2 D hZ hI hO s1 s2 k1 k2 fun x y h' tk c1 c2 c3 c4 c5 c6 c7 c8 c9=>wpAny_pure (q x y h' tk c1 c2 c3 c4 c5 c6 c7 c8 c9)) (PySem.F.args_zip_next_1 _))))
theorem aG{Q:Option Value->Shared->Prop}(D1:Draws prog w A.in1 i1 fp1 n1 P1 S1)(D2:Draws prog w A.in1 i2 fp2 n2 P2 S2)(D:Apart z TI TO i1 i2 fp1 fp2)(hZ:IsZip s.heap z TI TO .none)(hI:IsPair s.heap TI (.ref i1) (.ref i2))(hO:IsPair s.heap TO a b)
  (s1:S1 k s.heap) (s2:S2 k s.heap) (ke:k=n1∨(k<n1/\k=n2))
  (q:∀h' tk,(∀c o,c≠z->c≠TO->c≠i1->c≠i2->s.heap.get? c=some o->h'.get? c=some o)->Q none { s with heap:=h',toks:=tk }):wpAny (model prog w) A (pyNext (.ref z)) Q E s:=by
 have T:s.TypeIs (.ref z) "zip":=⟨_,hZ,rfl⟩
 unfold pyNext
 refine wpAny_bind (wpAny_attempt (wpAny_callSpecial?_slot (name:=Str.ofString "__next__") T PySem.F.slot_zip_next (wpAny_call_entry PySem.F.slot_zip_next T PySem.F.entry_zip_next (yN D1 D2 D hZ hI hO s1 s2 ke fun h' e tk kk he=>?_) (PySem.F.args_zip_next_1 _))))
 obtain⟨o,e1,e2⟩:=he
 exact wpAny_bind (wpAny_isInstance (T:="StopIteration") (b:=true) ⟨o,e1,e2⟩ isSubtype_stop (wpAny_pure (q h' tk kk)))
end
abbrev itO(c:String)(l:Addr):Obj:={ cls:=.type c,data:=.fields #[.ref l,.int 0 0] }
abbrev zt1(c1:String)(h:Heap)(l1:Addr):Heap:=h.push (itO c1 l1)
abbrev zt2(c1 c2:String)(h:Heap)(l1 l2:Addr):Heap:=(zt1 c1 h l1).push (itO c2 l2)
abbrev zt3(c1 c2:String)(h:Heap)(l1 l2:Addr):Heap:=(zt2 c1 c2 h l1 l2).push { cls:=.type "tuple",data:=.seq #[.ref h.objs.size,.ref (zt1 c1 h l1).objs.size] }
abbrev zt4(c1 c2:String)(h:Heap)(l1 l2:Addr):Heap:=(zt3 c1 c2 h l1 l2).push { cls:=.type "tuple",data:=.seq #[.none,.none] }
abbrev zt5(c1 c2:String)(h:Heap)(l1 l2:Addr):Heap:=(zt4 c1 c2 h l1 l2).push { cls:=.type "zip",data:=.fields #[.none,.bool false,.bool false,.ref (zt2 c1 c2 h l1 l2).objs.size,.ref (zt3 c1 c2 h l1 l2).objs.size] }
theorem nR(l1 l2:Addr)(xs ys:Array Value):Meets (Builtin.«zip.__new__» ⟨[.type "zip",.ref l1,.ref l2],[]⟩) (fun _ R s=>s.heap.IsTuple l1 xs/\s.heap.IsTuple l2 ys/\R (.ok (.ret (.ref (zt4 "tuple_iterator" "tuple_iterator" s.heap l1 l2).objs.size))) { s with heap:=zt5 "tuple_iterator" "tuple_iterator" s.heap l1 l2 }) :=
 .of_wp fun prog w A R s h=>by
  obtain⟨hp,g,d,tk,os⟩:=s
  obtain⟨e1,e2,h⟩:=h
  have sub:=sub_zip
  have T1:Heap.IsTuple (Shared.heap ⟨hp,g,d,tk,os⟩) l1 xs:=e1
  have T2:Heap.IsTuple (Shared.heap ⟨hp.push { cls:=.type "tuple_iterator",data:=.fields #[.ref l1,.int 0 0] },g,d,tk,os⟩) l2 ys:=Heap.IsTuple.push e2 _
  wp_walk using wpAny_pyIter_tuple T1,wpAny_pyIter_tuple T2
  exact⟨_,rfl,h⟩
theorem nT(l1 l2:Addr)(xs ys:Array Value):Meets (Builtin.«zip.__new__» ⟨[.type "zip",.ref l1,.ref l2],[]⟩) (fun _ R s=>s.heap.IsList l1 xs/\s.heap.IsTuple l2 ys/\R (.ok (.ret (.ref (zt4 "list_iterator" "tuple_iterator" s.heap l1 l2).objs.size))) { s with heap:=zt5 "list_iterator" "tuple_iterator" s.heap l1 l2 }) :=
 .of_wp fun prog w A R s h=>by
  obtain⟨hp,g,d,tk,os⟩:=s
  obtain⟨e1,e2,h⟩:=h
  have sub:=sub_zip
  have T1:Heap.IsList (Shared.heap ⟨hp,g,d,tk,os⟩) l1 xs:=e1
  have T2:Heap.IsTuple (Shared.heap ⟨hp.push { cls:=.type "list_iterator",data:=.fields #[.ref l1,.int 0 0] },g,d,tk,os⟩) l2 ys:=Heap.IsTuple.push e2 _
  wp_walk using wpAny_pyIter_list T1,wpAny_pyIter_tuple T2
  exact⟨_,rfl,h⟩
theorem Z6{c1 c2:String}{l1 l2:Addr}{P1 P2:Heap->Prop}{Q:Value->Shared->Prop}(m:Meets (Builtin.«zip.__new__» ⟨[.type "zip",.ref l1,.ref l2],[]⟩) (fun _ R s=>P1 s.heap/\P2 s.heap/\R (.ok (.ret (.ref (zt4 c1 c2 s.heap l1 l2).objs.size))) { s with heap:=zt5 c1 c2 s.heap l1 l2 }))(e1:P1 s.heap)(e2:P2 s.heap)
  (q:∀h',IsZip h' (s.heap.objs.size+4) (s.heap.objs.size+2) (s.heap.objs.size+3) .none->IsPair h' (s.heap.objs.size+2) (.ref s.heap.objs.size) (.ref (s.heap.objs.size+1))->IsPair h' (s.heap.objs.size+3) .none .none ->
   h'.get? s.heap.objs.size=some (itO c1 l1)->h'.get? (s.heap.objs.size+1)=some (itO c2 l2)->(∀c o,s.heap.get? c=some o->h'.get? c=some o)->Q (.ref (s.heap.objs.size+4)) { s with heap:=h' }) :
  wpAny (model prog w) A (call (.type "zip") [.ref l1,.ref l2]) Q E s:=by
 refine callType_new PySem.F.called_zip (by decide) (PySem.F.typeCall_zip_2 _ _) (PySem.F.newCall_zip_2 _ _) (fun obj=>PySem.F.args_object_init_3 obj _ _) PySem.F.entry_zip_new m ⟨e1,e2,?_⟩
 have z1:(zt1 c1 s.heap l1).objs.size=s.heap.objs.size+1:=Heap.size_push ..
 have z2:(zt2 c1 c2 s.heap l1 l2).objs.size=s.heap.objs.size+2:=by rw[Heap.size_push,z1]
 have z3:(zt3 c1 c2 s.heap l1 l2).objs.size=s.heap.objs.size+3:=by rw[Heap.size_push,z2]
 have z4:(zt4 c1 c2 s.heap l1 l2).objs.size=s.heap.objs.size+4:=by rw[Heap.size_push,z3]
 have g5:(zt5 c1 c2 s.heap l1 l2).get? (zt4 c1 c2 s.heap l1 l2).objs.size=some _:=Heap.get?_push_size _ rfl
 have g4:(zt5 c1 c2 s.heap l1 l2).get? (zt3 c1 c2 s.heap l1 l2).objs.size=some _:=Heap.get?_push_of_some _ (Heap.get?_push_size _ rfl)
 have g3:(zt5 c1 c2 s.heap l1 l2).get? (zt2 c1 c2 s.heap l1 l2).objs.size=some _:=Heap.get?_push_of_some _ (Heap.get?_push_of_some _ (Heap.get?_push_size _ rfl))
 have g2:(zt5 c1 c2 s.heap l1 l2).get? (zt1 c1 s.heap l1).objs.size=some _:=Heap.get?_push_of_some _ (Heap.get?_push_of_some _ (Heap.get?_push_of_some _ (Heap.get?_push_size _ rfl)))
 have g1:(zt5 c1 c2 s.heap l1 l2).get? s.heap.objs.size=some _:=Heap.get?_push_of_some _ (Heap.get?_push_of_some _ (Heap.get?_push_of_some _ (Heap.get?_push_of_some _ (Heap.get?_push_size _ rfl))))
 have kk:∀c o,s.heap.get? c=some o->(zt5 c1 c2 s.heap l1 l2).get? c=some o:=fun c o e=>Heap.get?_push_of_some _ (Heap.get?_push_of_some _ (Heap.get?_push_of_some _ (Heap.get?_push_of_some _ (Heap.get?_push_of_some _ e))))
 show _/\_
 rw[z2,z3,z4] at g5
 rw[z1,z2] at g3
 rw[z3] at g4
 rw[z1] at g2
 have Z:IsZip (zt5 c1 c2 s.heap l1 l2) (s.heap.objs.size+4) (s.heap.objs.size+2) (s.heap.objs.size+3) .none:=g5
 rw[z4]
 exact⟨⟨_,Z,rfl⟩,q _ Z g3 g4 g1 g2 kk⟩
theorem Z5{l1 l2:Addr}{xs ys:Array Value}{Q:Value->Shared->Prop}(e1:s.heap.IsTuple l1 xs)(e2:s.heap.IsTuple l2 ys)
  (q:∀h',IsZip h' (s.heap.objs.size+4) (s.heap.objs.size+2) (s.heap.objs.size+3) .none->IsPair h' (s.heap.objs.size+2) (.ref s.heap.objs.size) (.ref (s.heap.objs.size+1))->IsPair h' (s.heap.objs.size+3) .none .none ->
   h'.IsTupleIter s.heap.objs.size l1 0->h'.IsTupleIter (s.heap.objs.size+1) l2 0->(∀c o,s.heap.get? c=some o->h'.get? c=some o)->Q (.ref (s.heap.objs.size+4)) { s with heap:=h' }) :
  wpAny (model prog w) A (call (.type "zip") [.ref l1,.ref l2]) Q E s :=
 Z6 (P1:=fun h=>h.IsTuple l1 xs) (P2:=fun h=>h.IsTuple l2 ys) (nR l1 l2 xs ys) e1 e2 fun h' c1 c2 c3 c4 c5 k=>q h' c1 c2 c3 ⟨_,c4,rfl,rfl⟩ ⟨_,c5,rfl,rfl⟩ k
theorem mR{l1 l2:Addr}{xs ys:Array Value}{Q:Value->Shared->Prop}(e1:s.heap.IsList l1 xs)(e2:s.heap.IsTuple l2 ys)
  (q:∀h',IsZip h' (s.heap.objs.size+4) (s.heap.objs.size+2) (s.heap.objs.size+3) .none->IsPair h' (s.heap.objs.size+2) (.ref s.heap.objs.size) (.ref (s.heap.objs.size+1))->IsPair h' (s.heap.objs.size+3) .none .none ->
   h'.IsListIter s.heap.objs.size l1 0->h'.IsTupleIter (s.heap.objs.size+1) l2 0->(∀c o,s.heap.get? c=some o->h'.get? c=some o)->Q (.ref (s.heap.objs.size+4)) { s with heap:=h' }) :
  wpAny (model prog w) A (call (.type "zip") [.ref l1,.ref l2]) Q E s :=
 Z6 (P1:=fun h=>h.IsList l1 xs) (P2:=fun h=>h.IsTuple l2 ys) (nT l1 l2 xs ys) e1 e2 fun h' c1 c2 c3 c4 c5 k=>q h' c1 c2 c3 ⟨_,c4,rfl,rfl⟩ ⟨_,c5,rfl,rfl⟩ k
end
end HT
end
section
namespace L2
open PySem PySem.Spec PyProof.Rows
def HB(L:Bool)(xs:List V):HO:=if L=true then .lst xs else .tup xs
theorem HB.inj{L:Bool}{xs ys:List V}(h:HB L xs=HB L ys):xs=ys:=by cases L<;>cases h<;>rfl
def Itz(L M:Bool)(a b:Addr):It :=
 ⟨fun i H=>∃xs ys x y,H a=some (HB L xs)/\H b=some (HB M ys)/\xs[i]?=some x/\ys[i]?=some y,
  fun i H v H'=>∃p x y,H p=none/\v=.ref p/\H'=upd H p (.tup [x,y])/\(∀xs,H a=some (HB L xs)->xs[i]?=some x)/\∀ys,H b=some (HB M ys)->ys[i]?=some y,
  fun i H=>∃xs ys,H a=some (HB L xs)/\H b=some (HB M ys)/\(i=xs.length∨(i<xs.length/\i=ys.length))⟩
def K5(L:Bool)(h:Heap)(it a:Addr)(i:Nat):Prop:=if L=true then h.IsListIter it a i else h.IsTupleIter it a i
def bw(L:Bool)(h:Heap)(a:Addr)(ws:Array Value):Prop:=if L=true then h.IsList a ws else h.IsTuple a ws
theorem Pz{prog:Program}{w:World}{A:Around}(L:Bool)(ha:A.handled=none)(it t:Addr)(ne:t≠it)(ws:Array Value):Draws prog w A it [it,t] ws.size (fun i v=>ws[i]?=some v) (fun i h=>K5 L h it t i/\bw L h t ws):=by
 cases L with
 |true=>exact Draws.list ha it t ne ws
 |false=>exact HT.vQ ha it t ne ws
theorem K5.at{L:Bool}{h h':Heap}{it a:Addr}{i:Nat}(x:K5 L h it a i)(k:∀o,h.get? it=some o->h'.get? it=some o):K5 L h' it a i:=by
 cases L with
 |true=>exact Heap.IsListIter.at x k
 |false=>exact Heap.IsTupleIter.at x k
theorem K5.obj{L:Bool}{h:Heap}{it a:Addr}{i:Nat}(x:K5 L h it a i):∃o vs,h.get? it=some o/\o.data=.fields vs:=by
 cases L with
 |true=>obtain⟨o,e,_,d⟩:=(show h.IsListIter it a i from x);exact⟨o,_,e,d⟩
 |false=>obtain⟨o,e,_,d⟩:=(show h.IsTupleIter it a i from x);exact⟨o,_,e,d⟩
theorem Inv.Qs{X:Cx}{pins:List (Addr×Obj)}{σ:St}{H:Hp}{s:Shared}{L:Bool}{a:Addr}{xs:List V}(I:Inv X pins σ H s)(h:H a=some (HB L xs)):∃its:List Value,Vals xs its/\bw L s.heap a its.toArray:=by
 cases L with
 |true=>obtain⟨its,rv,p,_⟩:=I.list (SqL.of h);exact⟨its,rv,p.isList⟩
 |false=>obtain⟨its,rv,p,_⟩:=I.tuple (SqT.of h);exact⟨its,rv,p⟩
def xr(L M:Bool)(a b z TI TO i1 i2:Addr)(i:Nat)(h:Heap):Prop:=IsZip h z TI TO .none/\IsPair h TI (.ref i1) (.ref i2)/\(∃c d,IsPair h TO c d)/\K5 L h i1 a i/\K5 M h i2 b i
theorem UW{z TI TO i1 i2 a b:Addr}(d1:TI≠z)(d2:TO≠z)(d3:TI≠TO)(d4:i1≠z/\i1≠TO/\i1≠TI)(d5:i2≠z/\i2≠TO/\i2≠TI)(d6:i1≠i2)(na:a ∉ [z,TI,TO,i1,i2])(nb:b ∉ [z,TI,TO,i1,i2]):HT.Apart z TI TO i1 i2 [i1,a] [i2,b] where
 a1:=d1
 a2:=d2
 a3:=d3
 b1:=fun c hc=>by
  simp only[List.mem_cons,List.not_mem_nil,or_false,not_or] at hc na
  rcases hc with rfl|rfl
  .exact⟨d4.1,d4.2.1,d6⟩
  .exact⟨na.1,na.2.2.1,na.2.2.2.2⟩
 b2:=fun c hc=>by
  simp only[List.mem_cons,List.not_mem_nil,or_false,not_or] at hc nb
  rcases hc with rfl|rfl
  .exact⟨d5.1,d5.2.1,Ne.symm d6⟩
  .exact⟨nb.1,nb.2.2.1,nb.2.2.2.1⟩
 c1:=d4
 c2:=d5
 c3:=d6
theorem jM{P:Program}{w:World}{K:PySem.W.Frag}{elts:List Expr}{x1:Nat}{pos:Pos}(L M:Bool)(a b z TI TO i1 i2:Addr)(d1:TI≠z)(d2:TO≠z)(d3:TI≠TO)(d4:i1≠z/\i1≠TO/\i1≠TI)(d5:i2≠z/\i2≠TO/\i2≠TI)(d6:i1≠i2) :
  Turn P w K (.Tuple elts x1 pos) (Itz L M a b) [z,TI,TO,i1,i2] z (xr L M a b z TI TO i1 i2) where
 mem:=by simp
 obj:=fun i h st c hc=>by
  obtain⟨h1,h2,⟨c',d',h3⟩,h4,h5⟩:=st
  simp only[List.mem_cons,List.not_mem_nil,or_false] at hc
  rcases hc with rfl|rfl|rfl|rfl|rfl
  .exact⟨_,h1,fun v q=>by cases q⟩
  .exact⟨_,h2,fun v q=>by cases q⟩
  .exact⟨_,h3,fun v q=>by cases q⟩
  .obtain⟨o,vs,e,d⟩:=h4.obj
   exact⟨o,e,fun v q=>by rw[d] at q;cases q⟩
  .obtain⟨o,vs,e,d⟩:=h5.obj
   exact⟨o,e,fun v q=>by rw[d] at q;cases q⟩
 keep:=fun i h h' st k=>by
  obtain⟨h1,h2,⟨c',d',h3⟩,h4,h5⟩:=st
  exact⟨k z (by simp) _ h1,k TI (by simp) _ h2,⟨c',d',k TO (by simp) _ h3⟩,h4.at fun o q=>k i1 (by simp) o q,h5.at fun o q=>k i2 (by simp) o q⟩
 item:=by
  intro X hP hw hK hc i pins s σ H E I hf st hg
  subst hP hw hK
  obtain⟨xs,ys,x,y,hq1,hq2,hx,hy⟩:=hg
  obtain⟨its1,rv1,p1⟩:=I.Qs hq1
  obtain⟨its2,rv2,p2⟩:=I.Qs hq2
  obtain⟨u,hu,ru⟩:=rv1.get hx
  obtain⟨v,hv,rv⟩:=rv2.get hy
  obtain⟨h1,h2,⟨c',d',h3⟩,h4,h5⟩:=st
  have lt:∀c∈[z,TI,TO,i1,i2],c<s.heap.objs.size:=fun c hc=>by
   simp only[List.mem_cons,List.not_mem_nil,or_false] at hc
   rcases hc with rfl|rfl|rfl|rfl|rfl
   .exact Heap.lt_size h1
   .exact Heap.lt_size h2
   .exact Heap.lt_size h3
   .obtain⟨o,vs,e,_⟩:=h4.obj;exact Heap.lt_size e
   .obtain⟨o,vs,e,_⟩:=h5.obj;exact Heap.lt_size e
  have na:a ∉ [z,TI,TO,i1,i2]:=fun q=>by rw[(hf a q).1] at hq1;cases hq1
  have nb:b ∉ [z,TI,TO,i1,i2]:=fun q=>by rw[(hf b q).1] at hq2;cases hq2
  have ap:=UW d1 d2 d3 d4 d5 d6 na nb
  have hh:X.A.in1.handled=none:=I.ok.hd hc
  refine HT.aH (Pz L hh i1 a (fun q=>na (by simp[q])) its1.toArray) (Pz M hh i2 b (fun q=>nb (by simp[q])) its2.toArray) ap h1 h2 h3 ⟨h4,p1⟩ ⟨h5,p2⟩ (by rw[List.size_toArray];exact(List.getElem?_eq_some_iff.mp hu).1) (by rw[List.size_toArray];exact(List.getElem?_eq_some_iff.mp hv).1)
   fun x' y' h' tk q1 q2 z' o' s1' s2' tp sz k=>⟨_,rfl,?_⟩
  have q1':its1[i]?=some x':=by simpa using q1
  have q2':its2[i]?=some y':=by simpa using q2
  rw[hu] at q1'
  rw[hv] at q2'
  cases q1'
  cases q2'
  refine wpAny_letOwnedTupleGo_zip z' fun h3' z2 sb=>?_
  have sb':Heap.SameBut z h' h3':=sb
  have nz:s.heap.objs.size≠z:=Nat.ne_of_gt (lt z (by simp))
  have J:=I.nA (h':=h3') (t':=tk) (fp:=[z,TI,TO,i1,i2]) (x:=x) (y:=y) ru rv (sb'.extBut _ _ nz tp) (fun c o hc q=>by
   simp only[List.mem_cons,List.not_mem_nil,or_false,not_or] at hc
   exact sb'.extBut _ _ hc.1 (k c o hc.1 hc.2.2.1 hc.2.2.2.1 hc.2.2.2.2 q)) hf lt
  refine⟨.ref s.heap.objs.size,_,J,rfl,⟨_,x,y,I.hok.fresh (Nat.le_refl _),rfl,rfl,fun zs hz=>?_,fun zs hz=>?_⟩,⟨z2,?_,⟨_,_,sb'.extBut _ _ d2 o'⟩,s1'.1.at fun o q=>sb'.extBut _ _ d4.1 q,s2'.1.at fun o q=>sb'.extBut _ _ d5.1 q⟩,fun c hc=>?_⟩
  .rw[hq1] at hz
   rw[←HB.inj (Option.some.inj hz)]
   exact hx
  .rw[hq2] at hz
   rw[←HB.inj (Option.some.inj hz)]
   exact hy
  .exact sb'.extBut _ _ d1 (k TI _ d1 d3 (Ne.symm d4.2.2) (Ne.symm d5.2.2) h2)
  .rw[Bo (Nat.ne_of_lt (lt c hc))]
   exact(hf c hc).1
 done:=by
  intro X hP hw hK hc i pins s σ H E I hf st hg
  subst hP hw hK
  obtain⟨xs,ys,hq1,hq2,ke⟩:=hg
  obtain⟨its1,rv1,p1⟩:=I.Qs hq1
  obtain⟨its2,rv2,p2⟩:=I.Qs hq2
  obtain⟨h1,h2,⟨c',d',h3⟩,h4,h5⟩:=st
  have na:a ∉ [z,TI,TO,i1,i2]:=fun q=>by rw[(hf a q).1] at hq1;cases hq1
  have nb:b ∉ [z,TI,TO,i1,i2]:=fun q=>by rw[(hf b q).1] at hq2;cases hq2
  have hh:X.A.in1.handled=none:=I.ok.hd hc
  refine HT.aG (Pz L hh i1 a (fun q=>na (by simp[q])) its1.toArray) (Pz M hh i2 b (fun q=>nb (by simp[q])) its2.toArray) (UW d1 d2 d3 d4 d5 d6 na nb) h1 h2 h3 ⟨h4,p1⟩ ⟨h5,p2⟩ (by rw[List.size_toArray,List.size_toArray,←rv1.length,←rv2.length];exact ke)
   fun h' tk k=>⟨rfl,I.Vs (t':=tk) (fp:=[z,TI,TO,i1,i2]) (fun c o hc q=>?_) hf⟩
  simp only[List.mem_cons,List.not_mem_nil,or_false,not_or] at hc
  exact k c o hc.1 hc.2.2.1 hc.2.2.2.1 hc.2.2.2.2 q
 self:=fun _ _ _ _ _ st h=>wpAny_pyIter_zip st.1 h
abbrev yj(L M:Bool)(ta:TA):TI:=fun σ H R=>ta σ H fun vs H1=>∃a b xs ys,vs=[.ref a,.ref b]/\H1 a=some (HB L xs)/\H1 b=some (HB M ys)/\R (Itz L M a b) H1
section
variable{X:Cx}
theorem Y0(L M:Bool)(hLM:L=M∨(L=true/\M=false)){a b:Expr}{ta:TA}{p pos:Pos}{elts:List Expr}{x1:Nat}{tpos:Pos}(hg:Gl X "zip")(hm:X.mg "zip"=none)(ha:PA X [a,b] ta)(hs:starEach [a,b] X.env=[(false,eval a X.env),(false,eval b X.env)]:=by rfl)(hs2:starEach [b] X.env=[(false,eval b X.env)]:=by rfl) :
  PI X (.Tuple elts x1 tpos) (.Call (.Name "zip" p) [a,b] [] pos) (yj L M ta):=by
 intro pins s σ H R I h
 refine Call_ (Jz I hg hm (by decide +kernel:bootBuiltins "zip"=some (.type "zip")) (PyProof.Rows.callWith_type1 (thn (ha pos pins s σ H _ I h) fun us s1 ⟨vs,H1,I1,r1,q1⟩=>?_) (by rw[hs,hs2]) (by rw[hs2];rfl)))
 obtain⟨l,m,xs,ys,e,e1,e2,q⟩:=q1
 subst e
 obtain⟨us1,us2⟩:us=[.ref l,.ref m]/\True:=by
  cases r1 with
  |cons r rr =>
   cases rr with
   |cons r' rr =>
    cases rr
    cases r
    cases r'
    exact⟨rfl,trivial⟩
 subst us1
 obtain⟨its1,rv1,p1⟩:=I1.Qs e1
 obtain⟨its2,rv2,p2⟩:=I1.Qs e2
 have fin:∀h',IsZip h' (s1.heap.objs.size+4) (s1.heap.objs.size+2) (s1.heap.objs.size+3) .none->IsPair h' (s1.heap.objs.size+2) (.ref s1.heap.objs.size) (.ref (s1.heap.objs.size+1))->IsPair h' (s1.heap.objs.size+3) .none .none ->
   K5 L h' s1.heap.objs.size l 0->K5 M h' (s1.heap.objs.size+1) m 0->(∀c o,s1.heap.get? c=some o->h'.get? c=some o)->wpAny (model X.prog X.w) X.A (pyIter (.ref (s1.heap.objs.size+4))) (PIE X pins σ (.Tuple elts x1 tpos) R) X.xe { s1 with heap:=h' }:=fun h' c1 c2 c3 c4 c5 k=>by
  refine wpAny_pyIter_zip c1 ?_
  refine⟨s1.heap.objs.size+4,[s1.heap.objs.size+4,s1.heap.objs.size+2,s1.heap.objs.size+3,s1.heap.objs.size,s1.heap.objs.size+1],_,_,H1,rfl,I1.kept (t':=s1.toks) k,
   jM L M l m _ _ _ _ _ (by simp) (by simp) (by simp) ⟨by simp,by simp,by simp⟩ ⟨by simp,by simp,by simp⟩ (by simp),⟨c1,c2,⟨_,_,c3⟩,c4,c5⟩,fun c hc=>?_,q⟩
  have hc':s1.heap.objs.size<=c:=by
   simp only[List.mem_cons,List.not_mem_nil,or_false] at hc
   rcases hc with rfl|rfl|rfl|rfl|rfl<;>first|exact Nat.le_add_right _ _|exact Nat.le_refl _
  exact I1.Vp hc' (I1.hok.fresh hc')
 cases L with
 |true =>
  cases M with
  |true=>exact call_zip_2 p1 p2 fun h' c1 c2 c3 c4 c5 _ k=>fin h' c1 c2 c3 c4 c5 k
  |false=>exact HT.mR p1 p2 fun h' c1 c2 c3 c4 c5 k=>fin h' c1 c2 c3 c4 c5 k
 |false =>
  cases M with
  |true=>rcases hLM with z|⟨z,_⟩<;>cases z
  |false=>exact HT.Z5 p1 p2 fun h' c1 c2 c3 c4 c5 k=>fin h' c1 c2 c3 c4 c5 k
end
end L2
end
section
namespace L2
open PySem PySem.Spec PyProof.Rows
section
variable{k:Nat}{caps:List Nat}{σ:St}{g:TG}{tt:TT}{te:TE}{Q:VK}{H:Hp}
end
end L2
end
section
set_option maxRecDepth 100000
namespace HT
open PySem PySem.Spec PyProof.Rows
section
variable{prog:Program}{w:World}{A:Around}{E:Value->Shared->Prop}{s:Shared}
theorem qQ{x:Value}{Tx:String}{tp:Addr}{cs:List Value}{vs:List Bool}{dd:Option Addr}{n:Nat}{sl:Array (Option Value)}(ha:AnswersAll (fun s=>s.TypeIs x Tx) x cs vs) :
  Meets (Builtin.«isinstance» ⟨[x,.ref tp],[]⟩) (fun _ R s=>s.TypeIs x Tx/\s.heap.get? tp=some { cls:=.type "tuple",dict:=dd,data:=.seq cs.toArray n,slots:=sl }/\∀tk,R (.ok (.ret (.bool (vs.any id)))) { s with toks:=tk }) :=
 fun prog w A R s hs=>isinstance_outer (by
  obtain⟨h,g,d,t,os⟩:=s
  obtain⟨hx,htp,hq⟩:=hs
  have T2:(⟨h,g,d,t,os⟩:Shared).TypeIs (.ref tp) "tuple":=⟨_,htp,rfl⟩
  have f1:=PySem.F.isi_sub_tuple
  repeat (any_goals first|assumption|wp_step)
  refine wpAny_arrayLoop ?_
  simp only[List.toList_toArray,Option.getD_some]
  refine isinstance_items (dep:=0) (fun _ tk q=>q.toks tk) cs vs _ _ ha hx fun tk'=>?_
  cases hv:vs.any id with
  |true =>
   simp only[if_true]
   repeat (any_goals first|assumption|wp_step)
   exact hv ▸ hq tk'
  |false =>
   simp only[if_false,Bool.false_eq_true]
   repeat (any_goals first|assumption|wp_step)
   exact hv ▸ hq tk') (Shared.TypeIs.not_mainsLoader hs.1)
end
end HT
namespace L2
open PySem PySem.Spec PyProof.Rows
def isSeq:PyData->Bool
 |.list _=>true
 |.tuple _=>true
 |_=>false
def noDict:PyData->Bool
 |.dict _=>false
 |_=>true
theorem mX(T:String)(h:T="tuple"∨T="list"):typeOf (.type T)=pure (.type "type"):=by rcases h with rfl|rfl<;>first|rfl|kernel_rfl
theorem Jw{a b:String}(h:(a,b)∈[("int","tuple"),("int","list"),("bool","tuple"),("bool","list"),("str","tuple"),("str","list"),("NoneType","tuple"),("NoneType","list"),("list","tuple"),("tuple","list")]):isSubtype (.type a) (.type b)=pure false:=by
 simp only[List.mem_cons,List.not_mem_nil,or_false,Prod.mk.injEq] at h
 rcases h with ⟨rfl,rfl⟩|⟨rfl,rfl⟩|⟨rfl,rfl⟩|⟨rfl,rfl⟩|⟨rfl,rfl⟩|⟨rfl,rfl⟩|⟨rfl,rfl⟩|⟨rfl,rfl⟩|⟨rfl,rfl⟩|⟨rfl,rfl⟩<;>(rw[isSubtype_type];kernel_rfl)
theorem aQ{a:String}(h:a="tuple"∨a="list"):isSubtype (.type a) (.type a)=pure true:=by rcases h with rfl|rfl<;>(rw[isSubtype_type];kernel_rfl)
section
variable{X:Cx}
theorem Xb:Dl X (.builtin "isinstance") (fun xs H Q=>∃(N:Addr->Prop)(x:V)(d:PyData)(p:Addr),xs=[x,.ref p]/\H p=some (.tup [.ty "tuple",.ty "list"])/\Tr N H x d/\noDict d=true/\Q (.bl (isSeq d)) H):=by
 intro pins s σ H xs us Q I r h
 obtain⟨N,x,d,p,rfl,hp,t,nd,q⟩:=h
 obtain⟨u,v,rfl,rx,rv⟩:=vals2 r
 cases (show v=Value.ref p from rv)
 obtain⟨its,rt,pt,_⟩:=I.tuple (SqT.of hp)
 have ei:its=[.type "tuple",.type "list"]:=by
  cases rt with
  |cons r1 rr =>
   cases rr with
   |cons r2 rn =>
    cases rn
    cases (show _=Value.type "tuple" from r1)
    cases (show _=Value.type "list" from r2)
    rfl
 subst ei
 obtain⟨⟨c1,d1,x1,sl1⟩,ho,hc,n,hd⟩:=id pt
 simp only at hc hd
 subst hc hd
 have fin:∀(Tx:String)(vs:List Bool),AnswersAll (fun s=>s.TypeIs u Tx) u [.type "tuple",.type "list"] vs->s.TypeIs u Tx->vs.any id=isSeq d->wpAny (model X.prog X.w) X.A (call (.builtin "isinstance") [u,.ref p]) (EP X pins σ Q) X.xe s:=fun Tx vs ha hx e =>
  call_isinstance (HT.qQ (cs:=[.type "tuple",.type "list"]) (dd:=d1) (n:=n) (sl:=sl1) ha) ⟨hx,ho,fun tk=>⟨.bl (isSeq d),H,I.tok tk,(by rw[e];rfl),q⟩⟩
 have y1:=mX "tuple" (.inl rfl)
 have y2:=mX "list" (.inr rfl)
 cases t with
 |non =>
  cases (show u=Value.none from rx)
  exact fin "NoneType" [false,false] (.cons (Answers.of_false_none (by decide) y1 (Jw (by decide))) (.cons (Answers.of_false_none (by decide) y2 (Jw (by decide))) .nil)) rfl rfl
 |bl b =>
  cases (show u=Value.bool b from rx)
  exact fin "bool" [false,false] (.cons (Answers.of_false_bool (by decide) y1 (Jw (by decide))) (.cons (Answers.of_false_bool (by decide) y2 (Jw (by decide))) .nil)) rfl rfl
 |int i =>
  obtain⟨t,rfl⟩:=rx
  exact fin "int" [false,false] (.cons (Answers.of_false_int (by decide) y1 (Jw (by decide))) (.cons (Answers.of_false_int (by decide) y2 (Jw (by decide))) .nil)) rfl rfl
 |str z =>
  obtain⟨t,rfl⟩:=rx
  exact fin "str" [false,false] (.cons (Answers.of_false_str (by decide) y1 (Jw (by decide))) (.cons (Answers.of_false_str (by decide) y2 (Jw (by decide))) .nil)) rfl rfl
 |lst n1 h1 t1 =>
  cases rx
  obtain⟨its,_,pl,_⟩:=I.list (SqL.of h1)
  exact fin "list" [false,true] (.cons (Answers.of_false_list (by decide) y1 (Jw (by decide))) (.cons (Answers.of_true y2 (aQ (.inr rfl))) .nil)) pl.isList.typeIs rfl
 |tup n1 h1 t1 =>
  cases rx
  obtain⟨its,_,pl,_⟩:=I.tuple (SqT.of h1)
  exact fin "tuple" [true,false] (.cons (Answers.of_true y1 (aQ (.inl rfl))) (.cons (Answers.of_false_tuple (by decide) y2 (Jw (by decide))) .nil)) pl.typeIs rfl
 |dct _ _=>cases nd
end
end L2
end
section
namespace L2
open PySem PySem.Spec PyProof.Rows
end L2
namespace Bc
open PySem PySem.Spec PyProof.Rows L2
def yg:PyData->Int
 |.tuple [.int a,.int b]=>b-a
 |_=>0
def wR(es:List PyData):Int:=es.foldl (fun acc d=>acc*yg d) 1
def Lp:PyData->Int
 |.tuple es=>wR es
 |_=>0
structure Good(n:Nat)(ds:List PyData):Prop where
 n1:1<=n
 n3:n<=3
 le:ds.length<=uw (.int n)
 all:ds.all (yq n)=true
end Bc
end
section
namespace L2
open PySem PySem.Spec PyProof.Rows
section
variable{X:Cx}{K:PySem.W.Frag}
end
end L2
namespace Bc
open PySem PySem.Spec PyProof.Rows L2
def mx(i j:Int):Int:=if j>i then j else i
def mn(i j:Int):Int:=if j<i then j else i
def GZ(w:Nat):PyData->Int
 |.tuple es=>(match es[w]? with|some (.tuple [.int a,.int _])=>a|_=>0)
 |_=>0
def Fo(w:Nat):PyData->Int
 |.tuple es=>(match es[w]? with|some (.tuple [.int _,.int b])=>b|_=>0)
 |_=>0
end Bc
end
section
namespace VS
open PySem PySem.Spec L2
inductive D where
 |non|bl (b:Bool)|int (i:Int)|str (x:Str)|ty (n:String)
 |tup (ds:List D)|lst (m:Bool) (ds:List D)|ref (i:Nat)|scr (ns:List Int)|emp
abbrev Mu:=List (Option Addr)
def DK(μ:Mu)(a:Addr):Prop:=some a∈μ
structure Fr where
 K:PySem.W.Frag
 H0:Hp
 N:Addr->Prop
 m0:List Addr
def Fr.Ok(Γ:Fr)(m:Bool)(a:Addr):Prop:=(m=true->Γ.H0 a=none)/\(Γ.N a∨Γ.H0 a=none)
mutual
inductive VR (Γ:Fr) (μ:Mu) (H:Hp):V->D->Prop
 |non:VR Γ μ H .non .non
 |bl (b:Bool):VR Γ μ H (.bl b) (.bl b)
 |int (i:Int):VR Γ μ H (.int i) (.int i)
 |str (x:Str):VR Γ μ H (.str x) (.str x)
 |ty (n:String):VR Γ μ H (.ty n) (.ty n)
 |tup {a:Addr} {xs:List V} {ds:List D}:H a=some (.tup xs)->VRs Γ μ H xs ds->VR Γ μ H (.ref a) (.tup ds)
 |lst {m:Bool} {a:Addr} {xs:List V} {ds:List D}:Γ.Ok m a->¬DK μ a->H a=some (.lst xs)->VRs Γ μ H xs ds->VR Γ μ H (.ref a) (.lst m ds)
 |ref {i:Nat} {v:V}:i<μ.length->(∀a,μ[i]?=some (some a)->v=.ref a)->VR Γ μ H v (.ref i)
 |scrK {a:Addr} {ns:List Int}:(∀H',SqL Γ.K H' a (ns.map V.int))->VR Γ μ H (.ref a) (.scr ns)
 |scrR {a:Addr} {ns:List Int} {o:Obj}:¬DK μ a->H a=some (.frz o (.lst (ns.map V.int)))->VR Γ μ H (.ref a) (.scr ns)
 |emp {a:Addr}:¬DK μ a->H a=some (.dK [])->VR Γ μ H (.ref a) .emp
inductive VRs (Γ:Fr) (μ:Mu) (H:Hp):List V->List D->Prop
 |nil:VRs Γ μ H [] []
 |cons {x:V} {d:D} {xs:List V} {ds:List D}:VR Γ μ H x d->VRs Γ μ H xs ds->VRs Γ μ H (x::xs) (d::ds)
end
structure Ext(μ:Mu)(H:Hp)(μ':Mu)(H':Hp):Prop where
 keep:∀a o,H a=some o->¬DK μ a->H' a=some o/\¬DK μ' a
 tups:∀a xs,H a=some (.tup xs)->H' a=some (.tup xs)
 none:∀a,H' a=none->H a=none
 ids:∀(i:Nat)(a:Addr),i<μ.length->μ'[i]?=some (some a)->μ[i]?=some (some a)
 len:μ.length<=μ'.length
theorem Ext.refl(μ:Mu)(H:Hp):Ext μ H μ H:=⟨fun _ _ h n=>⟨h,n⟩,fun _ _ h=>h,fun _ h=>h,fun _ _ _ h=>h,Nat.le_refl _⟩
theorem Ext.trans{μ μ1 μ2:Mu}{H H1 H2:Hp}(a:Ext μ H μ1 H1)(b:Ext μ1 H1 μ2 H2):Ext μ H μ2 H2 :=
 ⟨fun c o h n=>let ⟨x,y⟩:=a.keep c o h n;b.keep c o x y,fun c xs h=>b.tups c xs (a.tups c xs h),fun c h=>a.none c (b.none c h),fun i c hi h=>a.ids i c hi (b.ids i c (Nat.lt_of_lt_of_le hi a.len) h),Nat.le_trans a.len b.len⟩
section
variable{Γ:Fr}{μ μ':Mu}{H H':Hp}
mutual
theorem VR.ext(e:Ext μ H μ' H'):∀{v:V} {d:D},VR Γ μ H v d->VR Γ μ' H' v d
 |_,_,.non=>.non
 |_,_,.bl b=>.bl b
 |_,_,.int i=>.int i
 |_,_,.str x=>.str x
 |_,_,.ty n=>.ty n
 |_,_,.tup h t=>.tup (e.tups _ _ h) (VRs.ext e t)
 |_,_,.lst o n h t=>.lst o (e.keep _ _ h n).2 (e.keep _ _ h n).1 (VRs.ext e t)
 |_,_,.ref hi f=>.ref (Nat.lt_of_lt_of_le hi e.len) fun a q=>f a (e.ids _ _ hi q)
 |_,_,.scrK h=>.scrK h
 |_,_,.scrR n h=>.scrR (e.keep _ _ h n).2 (e.keep _ _ h n).1
 |_,_,.emp n h=>.emp (e.keep _ _ h n).2 (e.keep _ _ h n).1
theorem VRs.ext(e:Ext μ H μ' H'):∀{vs:List V} {ds:List D},VRs Γ μ H vs ds->VRs Γ μ' H' vs ds
 |_,_,.nil=>.nil
 |_,_,.cons r t=>.cons (VR.ext e r) (VRs.ext e t)
end
theorem VRs.length:∀{xs:List V} {ds:List D},VRs Γ μ H xs ds->xs.length=ds.length
 |_,_,.nil=>rfl
 |_,_,.cons _ t=>by rw[List.length_cons,List.length_cons,VRs.length t]
theorem VRs.append:∀{xs ys:List V} {ds es:List D},VRs Γ μ H xs ds->VRs Γ μ H ys es->VRs Γ μ H (xs++ys) (ds++es)
 |_,_,_,_,.nil,t=>t
 |_,_,_,_,.cons r s,t=>.cons r (VRs.append s t)
theorem VRs.take:∀{xs:List V} {ds:List D} (n:Nat),VRs Γ μ H xs ds->VRs Γ μ H (xs.take n) (ds.take n)
 |_,_,0,_=>.nil
 |_,_,_+1,.nil=>.nil
 |_,_,n+1,.cons r t=>.cons r (VRs.take n t)
theorem VRs.drop:∀{xs:List V} {ds:List D} (n:Nat),VRs Γ μ H xs ds->VRs Γ μ H (xs.drop n) (ds.drop n)
 |_,_,0,r=>r
 |_,_,_+1,.nil=>.nil
 |_,_,n+1,.cons _ t=>VRs.drop n t
theorem VRs.get:∀{xs:List V} {ds:List D} {i:Nat} {d:D},VRs Γ μ H xs ds->ds[i]?=some d->∃x,xs[i]?=some x/\VR Γ μ H x d
 |_,_,_,_,.nil,h=>by simp at h
 |_,_,0,_,.cons r _,h=>by simp at h;subst h;exact⟨_,rfl,r⟩
 |_,_,i+1,d,.cons _ t,h=>by
  obtain⟨x,h1,h2⟩:=VRs.get (i:=i) (d:=d) t (by simpa using h)
  exact⟨x,by simpa using h1,h2⟩
theorem VRs.set{x:V}{d:D}(r:VR Γ μ H x d):∀{xs:List V} {ds:List D} (i:Nat),VRs Γ μ H xs ds->VRs Γ μ H (xs.set i x) (ds.set i d)
 |_,_,_,.nil=>.nil
 |_,_,0,.cons _ t=>.cons r t
 |_,_,i+1,.cons q t=>.cons q (VRs.set r i t)
theorem VRs.eraseIdx:∀{xs:List V} {ds:List D} (i:Nat),VRs Γ μ H xs ds->VRs Γ μ H (xs.eraseIdx i) (ds.eraseIdx i)
 |_,_,_,.nil=>.nil
 |_,_,0,.cons _ t=>t
 |_,_,i+1,.cons q t=>.cons q (VRs.eraseIdx i t)
theorem VRs.rep{xs:List V}{ds:List D}(h:VRs Γ μ H xs ds):∀n:Nat,VRs Γ μ H (List.replicate n xs).flatten (List.replicate n ds).flatten
 |0=>.nil
 |n+1=>by rw[List.replicate_succ,List.replicate_succ,List.flatten_cons,List.flatten_cons];exact h.append (VRs.rep h n)
theorem VRs.ints:∀(ns:List Int),VRs Γ μ H (ns.map V.int) (ns.map D.int)
 |[]=>.nil
 |n::r=>.cons (.int n) (VRs.ints r)
theorem VRs.QM:∀{xs:List V} {ns:List Int},VRs Γ μ H xs (ns.map D.int)->xs=ns.map V.int
 |_,[],.nil=>rfl
 |_,n::r,.cons q t=>by cases q;rw[List.map_cons,VRs.QM t]
end
abbrev Env:=List (Option D)
abbrev Store:=List (Option (List D))
structure Rep(Γ:Fr)(μ:Mu)(σ:St)(H:Hp)(env:Env)(S:Store):Prop where
 vals:∀(i:Nat)(d:D),env[i]?=some (some d)->∃v,σ[i]?=some (some v)/\VR Γ μ H v d
 len:σ.length=env.length
 sto:∀(i:Nat)(ds:List D),S[i]?=some (some ds)->∃a xs,μ[i]?=some (some a)/\H a=some (.lst xs)/\VRs Γ μ H xs ds
 liv:∀(i:Nat)(a:Addr),μ[i]?=some (some a)->∃ds,S[i]?=some (some ds)
 inj:∀(i j:Nat)(a:Addr),μ[i]?=some (some a)->μ[j]?=some (some a)->i=j
 slen:S.length=μ.length
 ent:Ext (Γ.m0.map some) Γ.H0 μ H
 new:∀(i:Nat)(a:Addr),Γ.m0.length<=i->μ[i]?=some (some a)->Γ.H0 a=none
section
variable{Γ:Fr}{μ μ':Mu}{σ σ2:St}{H H':Hp}{env env2:Env}{S S':Store}
theorem Rep.live(R:Rep Γ μ σ H env S){a:Addr}(h:DK μ a):∃xs,H a=some (.lst xs):=by
 obtain⟨i,hi⟩:=List.mem_iff_getElem?.mp h
 obtain⟨ds,hs⟩:=R.liv i a hi
 obtain⟨b,xs,h1,h2,_⟩:=R.sto i ds hs
 rw[hi] at h1;cases h1
 exact⟨xs,h2⟩
theorem Rep.dead(R:Rep Γ μ σ H env S){p:Addr}(h:H p=none):¬DK μ p:=fun z=>by
 obtain⟨xs,e⟩:=R.live z
 rw[h] at e;cases e
theorem Rep.fresh(R:Rep Γ μ σ H env S){p:Addr}(h:H p=none):Γ.H0 p=none:=R.ent.none p h
theorem Rep.ok(R:Rep Γ μ σ H env S){p:Addr}(h:H p=none)(m:Bool):Γ.Ok m p:=⟨fun _=>R.fresh h,.inr (R.fresh h)⟩
theorem Rep.grow(R:Rep Γ μ σ H env S)(e:Same H H'):Rep Γ μ σ H' env S/\Ext μ H μ H':=by
 have x:Ext μ H μ H':=⟨fun a o h n=>⟨e a o h,n⟩,fun a xs h=>e a _ h,fun a h=>e.free h,fun _ _ _ h=>h,Nat.le_refl _⟩
 refine⟨⟨fun i d h=>?_,R.len,fun i ds h=>?_,R.liv,R.inj,R.slen,R.ent.trans x,R.new⟩,x⟩
 .obtain⟨v,h1,h2⟩:=R.vals i d h
  exact⟨v,h1,h2.ext x⟩
 .obtain⟨a,xs,h1,h2,h3⟩:=R.sto i ds h
  exact⟨a,xs,h1,e _ _ h2,h3.ext x⟩
theorem Rep.back(R:Rep Γ μ σ H env S)(x:Ext μ H μ' H')(R2:Rep Γ μ' σ2 H' env2 S'):Rep Γ μ' σ H' env S' :=
 ⟨fun i d h=>let ⟨v,h1,h2⟩:=R.vals i d h;⟨v,h1,h2.ext x⟩,R.len,R2.sto,R2.liv,R2.inj,R2.slen,R2.ent,R2.new⟩
theorem Rep.bR(R:Rep Γ μ σ H env S)(i:Nat){v:V}{d:D}(r:VR Γ μ H v d):Rep Γ μ (σ.set i (some v)) H (env.set i (some d)) S:=by
 refine⟨fun j e h=>?_,by rw[List.length_set,List.length_set];exact R.len,R.sto,R.liv,R.inj,R.slen,R.ent,R.new⟩
 by_cases hj:i=j
 .subst hj
  have hl:i<env.length:=by
   have:=(List.getElem?_eq_some_iff.mp h).1
   rw[List.length_set] at this;exact this
  rw[List.getElem?_set_self hl] at h
  cases h
  exact⟨v,List.getElem?_set_self (by rw[R.len];exact hl),r⟩
 .rw[List.getElem?_set_ne hj] at h ⊢
  exact R.vals j e h
theorem Rep.laid(R:Rep Γ μ σ H env S){p:Addr}{xs:List V}{ds:List D}(hp:H p=none)(r:VRs Γ μ H xs ds) :
  Rep Γ (μ++[some p]) σ (upd H p (.lst xs)) env (S++[some ds])/\Ext μ H (μ++[some p]) (upd H p (.lst xs)):=by
 have ne:∀a o,H a=some o->a≠p:=fun a o h z=>by rw[z,hp] at h;cases h
 have x:Ext μ H (μ++[some p]) (upd H p (.lst xs)):=by
  refine⟨fun a o h n=>⟨by rw[Bo (ne a o h)];exact h,fun z=>?_⟩,fun a ys h=>by rw[Bo (ne a _ h)];exact h,fun a h=>?_,fun i a hi h=>?_,by rw[List.length_append];omega⟩
  .rcases List.mem_append.mp z with z|z
   .exact n z
   .have z':a=p:=by simpa using z
    exact ne a o h z'
  .by_cases ha:a=p
   .rw[ha,CQ] at h;cases h
   .rw[Bo ha] at h;exact h
  .rw[List.getElem?_append_left hi] at h;exact h
 have idx:∀i a,(μ++[some p])[i]?=some (some a)->(i<μ.length/\μ[i]?=some (some a))∨(i=μ.length/\a=p):=fun i a h=>by
  by_cases hi:i<μ.length
  .rw[List.getElem?_append_left hi] at h;exact .inl ⟨hi,h⟩
  .rw[List.getElem?_append_right (by omega)] at h
   have hl:=(List.getElem?_eq_some_iff.mp h).1
   have hi':i=μ.length:=by simp at hl;omega
   subst hi'
   simp at h
   exact .inr ⟨rfl,h.symm⟩
 have no:∀a,μ[a]?=some (some p)->False:=fun i h=>R.dead hp (List.mem_of_getElem? h)
 refine⟨⟨fun i d h=>?_,R.len,fun i es h=>?_,fun i a h=>?_,fun i j a h1 h2=>?_,by rw[List.length_append,List.length_append,R.slen];rfl,R.ent.trans x,fun i a hi h=>?_⟩,x⟩
 .obtain⟨v,h1,h2⟩:=R.vals i d h
  exact⟨v,h1,h2.ext x⟩
 .by_cases hi:i<S.length
  .rw[List.getElem?_append_left hi] at h
   obtain⟨a,ys,h1,h2,h3⟩:=R.sto i es h
   exact⟨a,ys,by rw[List.getElem?_append_left (by rw[←R.slen];exact hi)];exact h1,by rw[Bo (ne a _ h2)];exact h2,h3.ext x⟩
  .rw[List.getElem?_append_right (by omega)] at h
   have hl:=(List.getElem?_eq_some_iff.mp h).1
   have hi':i=S.length:=by simp at hl;omega
   subst hi'
   simp at h
   subst h
   exact⟨p,xs,by rw[R.slen];simp,CQ,r.ext x⟩
 .rcases idx i a h with ⟨hi,h⟩|⟨rfl,rfl⟩
  .obtain⟨ds',q⟩:=R.liv i a h
   exact⟨ds',by rw[List.getElem?_append_left (by rw[R.slen];exact hi)];exact q⟩
  .exact⟨ds,by rw[←R.slen];simp⟩
 .rcases idx i a h1 with ⟨_,g1⟩|⟨e1,e2⟩
  .rcases idx j a h2 with ⟨_,g2⟩|⟨e3,e4⟩
   .exact R.inj i j a g1 g2
   .exact(no i (e4 ▸ g1)).elim
  .rcases idx j a h2 with ⟨_,g2⟩|⟨e3,_⟩
   .exact(no j (e2 ▸ g2)).elim
   .rw[e1,e3]
 .rcases idx i a h with ⟨_,h⟩|⟨rfl,rfl⟩
  .exact R.new i a hi h
  .exact R.fresh hp
theorem Rep.put(R:Rep Γ μ σ H env S){i:Nat}{a:Addr}{xs:List V}{ds:List D}(hi:μ[i]?=some (some a))(r:VRs Γ μ H xs ds) :
  Rep Γ μ σ (upd H a (.lst xs)) env (S.set i (some ds))/\Ext μ H μ (upd H a (.lst xs)):=by
 have hl:DK μ a:=List.mem_of_getElem? hi
 obtain⟨ys,hy⟩:=R.live hl
 have x:Ext μ H μ (upd H a (.lst xs)):=by
  refine⟨fun b o h n=>⟨?_,n⟩,fun b zs h=>?_,fun b h=>?_,fun _ _ _ h=>h,Nat.le_refl _⟩
  .rw[Bo (fun z=>n (by rw[z];exact hl))];exact h
  .rw[Bo (fun z=>by rw[z,hy] at h;cases h)];exact h
  .by_cases hb:b=a
   .rw[hb,CQ] at h;cases h
   .rw[Bo hb] at h;exact h
 have hiS:i<S.length:=by rw[R.slen];exact(List.getElem?_eq_some_iff.mp hi).1
 refine⟨⟨fun j d h=>?_,R.len,fun j es h=>?_,fun j b h=>?_,R.inj,by rw[List.length_set];exact R.slen,R.ent.trans x,R.new⟩,x⟩
 .obtain⟨v,h1,h2⟩:=R.vals j d h
  exact⟨v,h1,h2.ext x⟩
 .by_cases hj:i=j
  .subst hj
   rw[List.getElem?_set_self hiS] at h
   cases h
   exact⟨a,xs,hi,CQ,r.ext x⟩
  .rw[List.getElem?_set_ne hj] at h
   obtain⟨b,zs,h1,h2,h3⟩:=R.sto j es h
   refine⟨b,zs,h1,?_,h3.ext x⟩
   rw[Bo (fun z=>hj (R.inj i j a hi (by rw[←z];exact h1)))]
   exact h2
 .by_cases hj:i=j
  .subst hj;exact⟨ds,List.getElem?_set_self hiS⟩
  .rw[List.getElem?_set_ne hj];exact R.liv j b h
end
end VS
end
section
namespace VS
open PySem PySem.Spec L2
abbrev Az:=Env->Store->Option (D×Store)
abbrev Bb:=Env->Store->Option (List D×Store)
abbrev Ey:=Env->Store->Option (Bool×Store)
abbrev Tq:=Env->Store->Option (Option Int×Store)
inductive Fl where|nx|brk|cnt|ret (d:D)
abbrev Ay:=Env->Store->Option (Fl×Env×Store)
abbrev KZ:=Env->Store->Option ((List D×List (Nat×List D))×Store)
abbrev Ka:=D->Env->Option Env
def Ab(i:Nat):Az:=fun env S=>(env[i]?.join).map fun d=>(d,S)
def eC(d:D):Az:=fun _ S=>some (d,S)
def eOp(g:Store->D->D->Option D)(a b:Az):Az:=fun env S=>(a env S).bind fun p=>(b env p.2).bind fun q=>(g q.2 p.1 q.1).map fun d=>(d,q.2)
def eUn(g:Store->D->Option D)(a:Az):Az:=fun env S=>(a env S).bind fun p=>(g p.2 p.1).map fun d=>(d,p.2)
def Ae:Bb:=fun _ S=>some ([],S)
def Aa(a:Az)(r:Bb):Bb:=fun env S=>(a env S).bind fun p=>(r env p.2).bind fun q=>some (p.1::q.1,q.2)
def eCB(g:Store->List D->Option D)(a:Bb):Az:=fun env S=>(a env S).bind fun p=>(g p.2 p.1).map fun d=>(d,p.2)
def QK(a b:Az):Az:=fun env S=>(a env S).bind fun p=>match p.1 with|.bl true=>b env p.2|.bl false=>some (.bl false,p.2)|_=>none
def bZ(a:Az):Az:=fun env S=>(a env S).bind fun p=>match p.1 with|.bl c=>some (.bl (!c),p.2)|_=>none
def Uv(g g':Store->D->D->Option D)(a b c:Az):Az:=fun env S=>(a env S).bind fun p=>(b env p.2).bind fun q=>(g q.2 p.1 q.1).bind fun z=>match z with
 |.bl true=>(c env q.2).bind fun r=>(g' r.2 q.1 r.1).map fun d=>(d,r.2)
 |.bl false=>some (.bl false,q.2)
 |_=>none
def Bh(a:Az):Ey:=fun env S=>(a env S).bind fun p=>match p.1 with|.bl c=>some (c,p.2)|_=>none
def Jt(a b:Ey):Ey:=fun env S=>(a env S).bind fun p=>if p.1=true then b env p.2 else some (false,p.2)
def tOr(a b:Ey):Ey:=fun env S=>(a env S).bind fun p=>if p.1=true then some (true,p.2) else b env p.2
def Hx(a:Ey):Ey:=fun env S=>(a env S).bind fun p=>some (!p.1,p.2)
def Mx:Tq:=fun _ S=>some (none,S)
def Mw(a:Az):Tq:=fun env S=>(a env S).bind fun p=>match p.1 with|.int i=>some (some i,p.2)|_=>none
def eSl(g:Store->D->Option Int->Option Int->Option D)(a:Az)(l h:Tq):Az:=fun env S=>(a env S).bind fun p=>(l env p.2).bind fun q=>(h env q.2).bind fun r=>(g r.2 p.1 q.1 r.1).map fun d=>(d,r.2)
def Bj(a b:Ay):Ay:=fun env S=>(a env S).bind fun p=>match p.1 with|.nx=>b p.2.1 p.2.2|f=>some (f,p.2.1,p.2.2)
def En:Ay:=fun env S=>some (.nx,env,S)
def Xz:Ay:=fun _ _=>none
def Bf(i:Nat)(a:Az):Ay:=fun env S=>(a env S).bind fun p=>some (.nx,env.set i (some p.1),p.2)
def bU(a:Az)(g:Ka):Ay:=fun env S=>(a env S).bind fun p=>(g p.1 env).bind fun e=>some (.nx,e,p.2)
def JM(a:Az):Ay:=fun env S=>(a env S).bind fun p=>some (.nx,env,p.2)
def Cu(a:Az):Ay:=fun env S=>(a env S).bind fun p=>some (.ret p.1,env,p.2)
def sIf(c:Ey)(a b:Ay):Ay:=fun env S=>(c env S).bind fun p=>if p.1=true then a env p.2 else b env p.2
inductive Pat where
 |nm (i:Nat)|tp (ps:List Pat)
mutual
def Pat.sem:Pat->D->Env->Option Env
 |.nm i,d,env=>some (env.set i (some d))
 |.tp ps,.tup ds,env=>Ik ps ds env
 |.tp _,_,_=>none
def Ik:List Pat->List D->Env->Option Env
 |[],[],env=>some env
 |p::ps,d::ds,env=>(Pat.sem p d env).bind fun e=>Ik ps ds e
 |_,_,_=>none
end
mutual
def Pat.raw(K:PySem.W.Frag):Pat->TG
 |.nm i=>Xj i
 |.tp ps=>j9 K ps.length (KQ K ps)
def KQ(K:PySem.W.Frag):List Pat->TGs
 |[]=>jA
 |p::ps=>cO (Pat.raw K p) (KQ K ps)
end
mutual
def Pat.low(k:Nat):Pat->Bool
 |.nm i=>decide (i<k)
 |.tp ps=>bY k ps
def bY(k:Nat):List Pat->Bool
 |[]=>true
 |p::ps=>Pat.low k p&&bY k ps
end
mutual
theorem Pat.mono(K:PySem.W.Frag):∀(p:Pat)(x:V)(σ:St)(H:Hp)(Q Q':St->Hp->Prop),(∀σ' H',Q σ' H'->Q' σ' H')->p.raw K x σ H Q->p.raw K x σ H Q'
 |.nm i,x,σ,H,Q,Q',f,h=>by rw[Pat.raw] at h ⊢;exact f _ _ h
 |.tp ps,x,σ,H,Q,Q',f,h=>by rw[Pat.raw] at h ⊢;obtain⟨a,xs,e,hs,hl,q⟩:=h;exact⟨a,xs,e,hs,hl,cM K ps xs σ H Q Q' f q⟩
theorem cM(K:PySem.W.Frag):∀(ps:List Pat)(x:List V)(σ:St)(H:Hp)(Q Q':St->Hp->Prop),(∀σ' H',Q σ' H'->Q' σ' H')->KQ K ps x σ H Q->KQ K ps x σ H Q'
 |[],x,σ,H,Q,Q',f,h=>by rw[KQ] at h ⊢;exact⟨h.1,f _ _ h.2⟩
 |p::ps,x,σ,H,Q,Q',f,h=>by rw[KQ] at h ⊢;obtain⟨v,r,e,q⟩:=h;exact⟨v,r,e,Pat.mono K p v σ H _ _ (fun σ1 H1 z=>cM K ps r σ1 H1 Q Q' f z) q⟩
end
mutual
theorem Pat.Xh(K:PySem.W.Frag){k:Nat}:∀(p:Pat),p.low k=true->Low k (p.raw K)
 |.nm i,h=>by rw[Pat.raw];rw[Pat.low] at h;exact lE (of_decide_eq_true h)
 |.tp ps,h=>by rw[Pat.raw];rw[Pat.low] at h;exact pW (eU K ps h)
theorem eU(K:PySem.W.Frag){k:Nat}:∀(ps:List Pat),bY k ps=true->Xu k (KQ K ps)
 |[],_=>by rw[KQ];exact pX
 |p::ps,h=>by
  rw[KQ]
  rw[bY,Bool.and_eq_true] at h
  exact lG (Pat.Xh K p h.1) (eU K ps h.2) (Pat.mono K p) (cM K ps)
end
theorem YZ:∀{ps:List Pat} {ds:List D} {env env':Env},Ik ps ds env=some env'->ds.length=ps.length
 |[],[],_,_,_=>rfl
 |[],_::_,_,_,h=>by simp[Ik] at h
 |_::_,[],_,_,h=>by simp[Ik] at h
 |p::ps,d::ds,env,env',h=>by
  rw[Ik] at h
  cases e1:p.sem d env with
  |none=>rw[e1] at h;cases h
  |some env1 =>
   rw[e1] at h
   rw[List.length_cons,List.length_cons,YZ (show Ik ps ds env1=some env' from h)]
mutual
theorem Pat.run{Γ:Fr}{μ:Mu}{H:Hp}{S:Store}(K:PySem.W.Frag):∀(p:Pat){v:V}{d:D}{σ:St}{env env':Env}{Q:St->Hp->Prop},Rep Γ μ σ H env S->VR Γ μ H v d->p.sem d env=some env'->(∀σ',Rep Γ μ σ' H env' S->Q σ' H)->p.raw K v σ H Q
 |.nm i,v,d,σ,env,env',Q,R,r,e,q=>by
  rw[Pat.raw]
  rw[Pat.sem] at e
  cases e
  exact q _ (R.bR i r)
 |.tp ps,v,d,σ,env,env',Q,R,r,e,q=>by
  rw[Pat.raw]
  cases r with
  |@tup b xs ds hb rs =>
   rw[Pat.sem] at e
   obtain⟨hl,w⟩:=sU K ps R rs e q
   exact⟨b,xs,rfl,SqT.of hb,hl,w⟩
  |_=>simp[Pat.sem] at e
theorem sU{Γ:Fr}{μ:Mu}{H:Hp}{S:Store}(K:PySem.W.Frag):∀(ps:List Pat){vs:List V}{ds:List D}{σ:St}{env env':Env}{Q:St->Hp->Prop},Rep Γ μ σ H env S->VRs Γ μ H vs ds->Ik ps ds env=some env'->(∀σ',Rep Γ μ σ' H env' S->Q σ' H)->vs.length=ps.length/\KQ K ps vs σ H Q
 |[],vs,ds,σ,env,env',Q,R,r,e,q=>by
  rw[KQ]
  cases r with
  |nil=>rw[Ik] at e;cases e;exact⟨rfl,rfl,q σ R⟩
  |cons _ _=>simp[Ik] at e
 |p::ps,vs,ds,σ,env,env',Q,R,r,e,q=>by
  rw[KQ]
  cases r with
  |nil=>simp[Ik] at e
  |@cons y d ys ds' r1 r2 =>
   rw[Ik] at e
   cases e1:p.sem d env with
   |none=>rw[e1] at e;cases e
   |some env1 =>
    rw[e1] at e
    have e':Ik ps ds' env1=some env':=e
    have hl:ys.length=ps.length:=by rw[r2.length];exact YZ e'
    exact⟨by rw[List.length_cons,List.length_cons,hl],y,ys,rfl,Pat.run K p R r1 e1 fun σ1 R1=>(sU K ps R1 r2 e' q).2⟩
end
def calm(w:List (Nat×List D))(S:Store):Prop:=∀p∈w,S[p.1]?=some (some p.2)
open Classical in
noncomputable def loop(w:List (Nat×List D))(g:Ka)(b:Ay):List D->Ay
 |[],env,S=>if calm w S then some (.nx,env,S) else none
 |d::r,env,S=>if calm w S then (g d env).bind fun e=>(b e S).bind fun p=>match p.1 with
   |.nx=>loop w g b r p.2.1 p.2.2
   |.cnt=>loop w g b r p.2.1 p.2.2
   |.brk=>some (.nx,p.2.1,p.2.2)
   |.ret d=>some (.ret d,p.2.1,p.2.2)
  else none
noncomputable def Il(it:KZ)(g:Ka)(b:Ay):Ay:=fun env S=>(it env S).bind fun p=>loop p.1.2 g b p.1.1 env p.2
def Ky(c:Ey)(b:Ay):Nat->Ay
 |0,_,_=>none
 |n+1,env,S=>(c env S).bind fun p=>if p.1=true then (b env p.2).bind fun q=>match q.1 with
   |.nx=>Ky c b n q.2.1 q.2.2
   |.cnt=>Ky c b n q.2.1 q.2.2
   |.brk=>some (.nx,q.2.1,q.2.2)
   |.ret d=>some (.ret d,q.2.1,q.2.2)
  else some (.nx,env,p.2)
def HS(k:Nat)(caps:List Nat)(env:Env):Env:=List.replicate k none++caps.map fun j=>(env[j]?).join
open Classical in
noncomputable def G3(w:List (Nat×List D))(e0:Env)(g:Ka)(t:Ey)(e:Az):List D->List D->Store->Option (List D×Store)
 |[],ys,S=>if calm w S/\ys.length<=1000000 then some (ys,S) else none
 |d::r,ys,S=>if calm w S/\ys.length<=1000000 then (g d e0).bind fun e1=>(t e1 S).bind fun p =>
   if p.1=true then (e e1 p.2).bind fun q=>G3 w e0 g t e r (ys++[q.1]) q.2 else G3 w e0 g t e r ys p.2
  else none
noncomputable def Cj(k:Nat)(caps:List Nat)(it:KZ)(g:Ka)(t:Ey)(e:Az):Bb:=fun env S=>(it env S).bind fun p=>G3 p.1.2 (HS k caps env) g t e p.1.1 [] p.2
def Fz:Ey:=fun _ S=>some (true,S)
def Bm(a:Bb):Az:=fun env S=>(a env S).bind fun p=>some (.lst true p.1,p.2)
def Hj(a:Bb):Az:=fun env S=>(a env S).bind fun p=>some (.ref p.2.length,p.2++[some p.1])
def Bl(a:Bb):Az:=fun env S=>(a env S).bind fun p=>some (.tup p.1,p.2)
def wpE(K:PySem.W.Frag)(f:Az):TE:=fun σ H Q=>∃Γ μ env S d S',Γ.K=K/\Rep Γ μ σ H env S/\f env S=some (d,S')/\∀v μ' H',Ext μ H μ' H'->Rep Γ μ' σ H' env S'->VR Γ μ' H' v d->Q v H'
def wpA(K:PySem.W.Frag)(f:Bb):TA:=fun σ H Q=>∃Γ μ env S d S',Γ.K=K/\Rep Γ μ σ H env S/\f env S=some (d,S')/\∀v μ' H',Ext μ H μ' H'->Rep Γ μ' σ H' env S'->VRs Γ μ' H' v d->Q v H'
def wpT(K:PySem.W.Frag)(f:Ey):TT:=fun σ H Q=>∃Γ μ env S b S',Γ.K=K/\Rep Γ μ σ H env S/\f env S=some (b,S')/\∀μ' H',Ext μ H μ' H'->Rep Γ μ' σ H' env S'->Q b H'
def wpO(K:PySem.W.Frag)(f:Tq):TO:=fun σ H Q=>∃Γ μ env S b S',Γ.K=K/\Rep Γ μ σ H env S/\f env S=some (b,S')/\∀μ' H',Ext μ H μ' H'->Rep Γ μ' σ H' env S'->Q b H'
def FlQ(Γ:Fr)(μ:Mu)(E:Ends)(σ:St)(H:Hp):Fl->Prop
 |.nx=>E.nx σ H
 |.brk=>E.bk σ H
 |.cnt=>E.ct σ H
 |.ret d=>∀v,VR Γ μ H v d->E.rt v H
def wpS(K:PySem.W.Frag)(f:Ay):TS:=fun E σ H=>∃Γ μ env S fl env' S',Γ.K=K/\Rep Γ μ σ H env S/\f env S=some (fl,env',S')/\∀μ' σ' H',Ext μ H μ' H'->Rep Γ μ' σ' H' env' S'->FlQ Γ μ' E σ' H' fl
structure Vq(Γ:Fr)(μ:Mu)(H:Hp)(J:It)(ds:List D)(w:List (Nat×List D)):Prop where
 step:∀(i:Nat)(d:D)(μ':Mu)(H':Hp)(σ':St)(env':Env)(S':Store),ds[i]?=some d->Ext μ H μ' H'->Rep Γ μ' σ' H' env' S'->calm w S'->J.go i H'/\∀x H'',J.yld i H' x H''->Same H' H''/\VR Γ μ' H'' x d
 stop:∀(μ':Mu)(H':Hp)(σ':St)(env':Env)(S':Store),Ext μ H μ' H'->Rep Γ μ' σ' H' env' S'->calm w S'->J.stop ds.length H'
def wpI(K:PySem.W.Frag)(f:KZ):TI:=fun σ H R=>∃Γ μ env S ds w S',Γ.K=K/\Rep Γ μ σ H env S/\f env S=some ((ds,w),S')/\∀J μ' H',Ext μ H μ' H'->Rep Γ μ' σ H' env S'->Vq Γ μ' H' J ds w->R J H'
structure JE(X:Cx)(e:Expr)(f:Az):Prop where
 pe:PE X e (wpE X.K f)
structure JA(X:Cx)(es:List Expr)(f:Bb):Prop where
 pa:PA X es (wpA X.K f)
structure JT(X:Cx)(e:Expr)(f:Ey):Prop where
 pt:PT X e (wpT X.K f)
structure JW(X:Cx)(e:Expr)(f:Ey):Prop where
 pw:PW X e (wpT X.K f)
structure JO(X:Cx)(e:Option Expr)(f:Tq):Prop where
 po:PO X e (wpO X.K f)
structure JS(X:Cx)(st:Stmt)(f:Ay):Prop where
 ps:PS X st (wpS X.K f)
structure JSs(X:Cx)(sts:List Stmt)(f:Ay):Prop where
 ps:PSs X sts (wpS X.K f)
structure JI(X:Cx)(tg e:Expr)(f:KZ):Prop where
 pi:PI X tg e (wpI X.K f)
structure JG(X:Cx)(tg:Expr)(p:Pat):Prop where
 pg:PG X tg (p.raw X.K)
structure JGs(X:Cx)(tgs:List Expr)(ps:List Pat):Prop where
 pg:PGs X tgs (KQ X.K ps)
structure JTs(X:Cx)(es:List Expr)(f:Ey):Prop where
 pt:PTs X es (wpT X.K f)
section
variable{X:Cx}
theorem PE.imp{e:Expr}{t t':TE}(h:PE X e t)(k:∀σ H Q,t' σ H Q->t σ H Q):PE X e t':=fun pins s σ H Q I q=>h pins s σ H Q I (k σ H Q q)
theorem PT.imp{e:Expr}{t t':TT}(h:PT X e t)(k:∀σ H Q,t' σ H Q->t σ H Q):PT X e t':=fun pins s σ H Q I q=>h pins s σ H Q I (k σ H Q q)
theorem PW.imp{e:Expr}{t t':TT}(h:PW X e t)(k:∀σ H Q,t' σ H Q->t σ H Q):PW X e t':=fun w pins s σ H Q I q=>h w pins s σ H Q I (k σ H Q q)
theorem PTs.imp{e:List Expr}{t t':TT}(h:PTs X e t)(k:∀σ H Q,t' σ H Q->t σ H Q):PTs X e t':=fun pins s σ H Q I q=>h pins s σ H Q I (k σ H Q q)
theorem PA.imp{e:List Expr}{t t':TA}(h:PA X e t)(k:∀σ H Q,t' σ H Q->t σ H Q):PA X e t':=fun p pins s σ H Q I q=>h p pins s σ H Q I (k σ H Q q)
theorem PO.imp{e:Option Expr}{t t':TO}(h:PO X e t)(k:∀σ H Q,t' σ H Q->t σ H Q):PO X e t':=fun pins s σ H Q I q=>h pins s σ H Q I (k σ H Q q)
theorem PS.imp{e:Stmt}{t t':TS}(h:PS X e t)(k:∀E σ H,t' E σ H->t E σ H):PS X e t':=fun pins s σ H E I q=>h pins s σ H E I (k E σ H q)
theorem PSs.imp{e:List Stmt}{t t':TS}(h:PSs X e t)(k:∀E σ H,t' E σ H->t E σ H):PSs X e t':=fun pins s σ H E I q=>h pins s σ H E I (k E σ H q)
theorem PI.imp{tg e:Expr}{t t':TI}(h:PI X tg e t)(k:∀σ H R,t' σ H R->t σ H R):PI X tg e t':=fun pins s σ H R I q=>h pins s σ H R I (k σ H R q)
theorem bind_some{α β:Type}{a:Option α}{f:α->Option β}{b:β}(h:a.bind f=some b):∃x,a=some x/\f x=some b:=by
 cases a with
 |none=>cases h
 |some x=>exact⟨x,rfl,h⟩
theorem map_some{α β:Type}{a:Option α}{f:α->β}{b:β}(h:a.map f=some b):∃x,a=some x/\f x=b:=by
 cases a with
 |none=>cases h
 |some x=>exact⟨x,rfl,Option.some.inj h⟩
def GD(K:PySem.W.Frag)(r:R2)(g:Store->D->D->Option D):Prop:=∀(Γ:Fr)(μ:Mu)(σ:St)(H:Hp)(env:Env)(S:Store)(x y:V)(dx dy d:D),Γ.K=K->Rep Γ μ σ H env S->VR Γ μ H x dx->VR Γ μ H y dy->g S dx dy=some d ->
 ∀Q:VK,(∀v H',Same H H'->VR Γ μ H' v d->Q v H')->r x y H Q
def tU(K:PySem.W.Frag)(r:V->Hp->VK->Prop)(g:Store->D->Option D):Prop:=∀(Γ:Fr)(μ:Mu)(σ:St)(H:Hp)(env:Env)(S:Store)(x:V)(dx d:D),Γ.K=K->Rep Γ μ σ H env S->VR Γ μ H x dx->g S dx=some d ->
 ∀Q:VK,(∀v H',Same H H'->VR Γ μ H' v d->Q v H')->r x H Q
def Nt(K:PySem.W.Frag)(r:List V->Hp->VK->Prop)(g:Store->List D->Option D):Prop:=∀(Γ:Fr)(μ:Mu)(σ:St)(H:Hp)(env:Env)(S:Store)(xs:List V)(ds:List D)(d:D),Γ.K=K->Rep Γ μ σ H env S->VRs Γ μ H xs ds->g S ds=some d ->
 ∀Q:VK,(∀v H',Same H H'->VR Γ μ H' v d->Q v H')->r xs H Q
def nM(K:PySem.W.Frag)(r:V->Option Int->Option Int->Hp->VK->Prop)(g:Store->D->Option Int->Option Int->Option D):Prop:=∀(Γ:Fr)(μ:Mu)(σ:St)(H:Hp)(env:Env)(S:Store)(x:V)(dx d:D)(l h:Option Int),Γ.K=K->Rep Γ μ σ H env S->VR Γ μ H x dx->g S dx l h=some d ->
 ∀Q:VK,(∀v H',Same H H'->VR Γ μ H' v d->Q v H')->r x l h H Q
theorem Xd{K:PySem.W.Frag}{r:R2}{g:Store->D->D->Option D}{fa fb:Az}(hs:GD K r g){σ:St}{H:Hp}{Q:VK}(h:wpE K (eOp g fa fb) σ H Q):tOp r (wpE K fa) (wpE K fb) σ H Q:=by
 obtain⟨Γ,μ,env,S,d,S',hK,R,e,q⟩:=h
 obtain⟨⟨x,S1⟩,e1,e⟩:=bind_some e
 obtain⟨⟨y,S2⟩,e2,e⟩:=bind_some e
 obtain⟨z,e3,e⟩:=map_some e
 cases e
 refine⟨Γ,μ,env,S,x,S1,hK,R,e1,fun v1 μ1 H1 x1 R1 r1=>?_⟩
 refine⟨Γ,μ1,env,S1,y,S2,hK,R1,e2,fun v2 μ2 H2 x2 R2 r2=>?_⟩
 refine hs Γ μ2 σ H2 env S2 v1 v2 x y _ hK R2 (r1.ext x2) r2 e3 Q fun v H' sm rv=>?_
 obtain⟨R3,x3⟩:=R2.grow sm
 exact q v μ2 H' (x1.trans (x2.trans x3)) R3 rv
theorem BL{op:Operator}{r:R2}{g:Store->D->D->Option D}{a b:Expr}{fa fb:Az}{pos:Pos}(ho:OpR X (binaryOp op) r)(hs:GD X.K r g)(ha:JE X a fa)(hb:JE X b fb):JE X (.BinOp a op b pos) (eOp g fa fb) :=
 ⟨PE.imp (n8 ho ha.pe hb.pe) fun _ _ _ h=>Xd hs h⟩
theorem Nv{op:CmpOp}{r:R2}{g:Store->D->D->Option D}{a b:Expr}{fa fb:Az}{pos:Pos}(ho:OpR X (compareOp op) r)(hs:GD X.K r g)(ha:JE X a fa)(hb:JE X b fb)(hm:behindInMarks op b=false):JE X (.Compare a [op] [b] pos) (eOp g fa fb) :=
 ⟨PE.imp (aq ho ha.pe hb.pe hm) fun _ _ _ h=>Xd hs h⟩
theorem Cd{r:R2}{g:Store->D->D->Option D}{a b:Expr}{fa fb:Az}{pos:Pos}(ho:IxR X r)(hs:GD X.K r g)(ha:JE X a fa)(hb:JE X b fb)(hp:Sh b):JE X (.Subscript a b pos) (eOp g fa fb) :=
 ⟨PE.imp (wu ho ha.pe hb.pe hp) fun _ _ _ h=>Xd hs h⟩
theorem Xg{op:UnaryOp}{r:V->Hp->VK->Prop}{g:Store->D->Option D}{a:Expr}{fa:Az}{pos:Pos}(ho:UnR X (unaryOp op) r)(hs:tU X.K r g)(ha:JE X a fa):JE X (.UnaryOp op a pos) (eUn g fa) :=
 ⟨PE.imp (wj ho ha.pe) fun σ H Q h=>by
  obtain⟨Γ,μ,env,S,d,S',hK,R,e,q⟩:=h
  obtain⟨⟨x,S1⟩,e1,e⟩:=bind_some e
  obtain⟨z,e3,e⟩:=map_some e
  cases e
  refine⟨Γ,μ,env,S,x,S1,hK,R,e1,fun v1 μ1 H1 x1 R1 r1=>?_⟩
  refine hs Γ μ1 σ H1 env S1 v1 x _ hK R1 r1 e3 Q fun v H' sm rv=>?_
  obtain⟨R3,x3⟩:=R1.grow sm
  exact q v μ1 H' (x1.trans x3) R3 rv⟩
theorem Ad(i:Nat){x:Str}{pos:Pos}(hN:X.N[i]?=some x:=by rfl)(hv:Vis X.env.scope x:=by first|exact Or.inl rfl|exact Or.inr (Or.inl rfl)|exact Or.inr (Or.inr rfl))(hd:(x==("__debug__":Str))=false:=by decide)
  (hcd:(x==("__classdict__":Str))=false:=by decide):JE X (.Name x pos) (Ab i) :=
 ⟨PE.imp (eF hN hv hd hcd) fun σ H Q h=>by
  obtain⟨Γ,μ,env,S,d,S',hK,R,e,q⟩:=h
  obtain⟨d',e1,e⟩:=map_some e
  cases e
  have e1':env[i]?=some (some d):=by
   cases h:env[i]? with
   |none=>rw[h] at e1;cases e1
   |some o=>rw[h] at e1;exact congrArg some e1
  obtain⟨v,h1,h2⟩:=R.vals i d e1'
  exact⟨v,h1,q v μ H (Ext.refl _ _) R h2⟩⟩
theorem j4{K:PySem.W.Frag}{v:V}{d:D}(h:∀Γ μ H,VR Γ μ H v d){σ:St}{H:Hp}{Q:VK}(w:wpE K (eC d) σ H Q):tC v σ H Q:=by
 obtain⟨Γ,μ,env,S,d',S',hK,R,e,q⟩:=w
 cases e
 exact q v μ H (Ext.refl _ _) R (h Γ μ H)
theorem Ah{i j pos}:JE X (.Constant (.int i) j pos) (eC (.int i)):=⟨PE.imp R6 fun _ _ _=>j4 fun _ _ _=>.int i⟩
theorem QL{b j pos}:JE X (.Constant (.bool b) j pos) (eC (.bl b)):=⟨PE.imp xG fun _ _ _=>j4 fun _ _ _=>.bl b⟩
theorem Ks{n:String}{x:Str}{pos:Pos}(hg:Gl X x)(hm:X.mg x=none)(hv:bootBuiltins x=some (.type n))(hn:x≠"__name__":=by decide)(hd:(x==("__debug__":Str))=false:=by decide):JE X (.Name x pos) (eC (.ty n)) :=
 ⟨PE.imp (pJ (v:=.ty n) hg hm hv rfl hn hd) fun _ _ _=>j4 fun _ _ _=>.ty n⟩
theorem Ag:JA X [] Ae:=⟨PA.imp R7 fun σ H Q h=>by
 obtain⟨Γ,μ,env,S,d,S',hK,R,e,q⟩:=h
 cases e
 exact q [] μ H (Ext.refl _ _) R .nil⟩
theorem Ac{e:Expr}{es:List Expr}{f:Az}{r:Bb}(ha:JE X e f)(hr:JA X es r)(hs:starEach (e::es) X.env=(false,eval e X.env)::starEach es X.env:=by rfl):JA X (e::es) (Aa f r) :=
 ⟨PA.imp (Q8 ha.pe hr.pa hs) fun σ H Q h=>by
  obtain⟨Γ,μ,env,S,d,S',hK,R,e,q⟩:=h
  obtain⟨⟨x,S1⟩,e1,e⟩:=bind_some e
  obtain⟨⟨y,S2⟩,e2,e⟩:=bind_some e
  cases e
  refine⟨Γ,μ,env,S,x,S1,hK,R,e1,fun v1 μ1 H1 x1 R1 r1=>?_⟩
  refine⟨Γ,μ1,env,S1,y,S2,hK,R1,e2,fun v2 μ2 H2 x2 R2 r2=>?_⟩
  exact q _ μ2 H2 (x1.trans x2) R2 (.cons (r1.ext x2) r2)⟩
theorem big{n:Nat}(h:n<=1000000):n<sizeLine:=Nat.lt_of_le_of_lt h (by decide)
theorem tY{K:PySem.W.Frag}{f:Bb}{σ:St}{H:Hp}{Q:VK}(hl:∀env S p,f env S=some p->p.1.length<=1000000)(h:wpE K (Bl f) σ H Q):sH (wpA K f) σ H Q:=by
 obtain⟨Γ,μ,env,S,d,S',hK,R,e,q⟩:=h
 obtain⟨⟨x,S1⟩,e1,e⟩:=bind_some e
 cases e
 refine⟨Γ,μ,env,S,x,S1,hK,R,e1,fun vs μ1 H1 x1 R1 r1=>⟨by rw[r1.length];exact Nat.le_of_lt (big (hl _ _ _ e1)),fun p hp=>?_⟩⟩
 have sm:=Cw hp (.tup vs)
 obtain⟨R2,x2⟩:=R1.grow sm
 exact q _ μ1 _ (x1.trans x2) R2 (.tup CQ (r1.ext x2))
def Few(n:Nat)(f:Bb):Prop:=∀env S p,f env S=some p->p.1.length<=n
theorem Ax:Few 0 Ae:=fun env S p h=>by cases h;exact Nat.le_refl _
theorem Ai{n:Nat}{f:Az}{r:Bb}(h:Few n r):Few (n+1) (Aa f r):=fun env S p e=>by
 obtain⟨⟨x,S1⟩,e1,e⟩:=bind_some e
 obtain⟨⟨y,S2⟩,e2,e⟩:=bind_some e
 cases e
 have:=h _ _ _ e2
 show(x::y).length<=n+1
 rw[List.length_cons]
 exact Nat.succ_le_succ this
theorem Ca{es:List Expr}{f:Bb}{x1:Nat}{pos:Pos}{n:Nat}(h:JA X es f)(hf:Few n f)(hn:n<=1000000:=by decide):JE X (.Tuple es x1 pos) (Bl f):=⟨PE.imp (uW h.pa) fun _ _ _ w=>tY (fun env S p e=>Nat.le_trans (hf env S p e) hn) w⟩
theorem Eh{es:List Expr}{f:Bb}{pos:Pos}{n:Nat}(h:JA X es f)(hf:Few n f)(hn:n<=1000000:=by decide):JE X (.List es pos) (Bm f):=⟨PE.imp (eG h.pa) fun σ H Q w=>by
 obtain⟨Γ,μ,env,S,d,S',hK,R,e,q⟩:=w
 obtain⟨⟨x,S1⟩,e1,e⟩:=bind_some e
 cases e
 refine⟨Γ,μ,env,S,x,S1,hK,R,e1,fun vs μ1 H1 x1 R1 r1=>⟨by rw[r1.length];exact Nat.le_of_lt (big (Nat.le_trans (hf _ _ _ e1) hn)),fun p hp=>?_⟩⟩
 obtain⟨R2,x2⟩:=R1.grow (Cw hp (.lst vs))
 exact q _ μ1 _ (x1.trans x2) R2 (.lst (R1.ok hp true) (R1.dead hp) CQ (r1.ext x2))⟩
theorem Kg{es:List Expr}{f:Bb}{pos:Pos}{n:Nat}(h:JA X es f)(hf:Few n f)(hn:n<=1000000:=by decide):JE X (.List es pos) (Hj f):=⟨PE.imp (eG h.pa) fun σ H Q w=>by
 obtain⟨Γ,μ,env,S,d,S',hK,R,e,q⟩:=w
 obtain⟨⟨x,S1⟩,e1,e⟩:=bind_some e
 cases e
 refine⟨Γ,μ,env,S,x,S1,hK,R,e1,fun vs μ1 H1 x1 R1 r1=>⟨by rw[r1.length];exact Nat.le_of_lt (big (Nat.le_trans (hf _ _ _ e1) hn)),fun p hp=>?_⟩⟩
 obtain⟨R2,x2⟩:=R1.laid hp r1
 exact q _ _ _ (x1.trans x2) R2 (.ref (by rw[List.length_append,R1.slen];simp) fun a h=>by
  rw[R1.slen] at h
  simp at h
  rw[h])⟩
end
end VS
end
section
namespace VS
open PySem PySem.Spec L2
section
variable{X:Cx}{a b c:Expr}{fa fb fc:Az}{pos:Pos}{rest:List Expr}
theorem RB{op}(h:JE X a fa):JE X (.BoolOp op [a] pos) fa:=⟨uX h.pe⟩
theorem Ny(ha:JE X a fa)(hb:JE X (.BoolOp .And (b::rest) pos) fb):JE X (.BoolOp .And (a::b::rest) pos) (QK fa fb):=⟨PE.imp (uc ha.pe hb.pe) fun σ H Q h=>by
 obtain⟨Γ,μ,env,S,d,S',hK,R,e,q⟩:=h
 obtain⟨⟨x,S1⟩,e1,e⟩:=bind_some e
 refine⟨Γ,μ,env,S,x,S1,hK,R,e1,fun v1 μ1 H1 x1 R1 r1=>?_⟩
 dsimp only at e
 split at e
 .cases r1
  exact⟨true,rfl,by rw[if_pos rfl];exact⟨Γ,μ1,env,S1,d,S',hK,R1,e,fun v μ' H' x' R' r'=>q v μ' H' (x1.trans x') R' r'⟩⟩
 .cases r1
  cases e
  exact⟨false,rfl,by rw[if_neg Bool.false_ne_true];exact q _ μ1 H1 x1 R1 (.bl false)⟩
 .cases e⟩
theorem eN(ha:JE X a fa):JE X (.UnaryOp .Not a pos) (bZ fa):=⟨PE.imp (uY ha.pe) fun σ H Q h=>by
 obtain⟨Γ,μ,env,S,d,S',hK,R,e,q⟩:=h
 obtain⟨⟨x,S1⟩,e1,e⟩:=bind_some e
 refine⟨Γ,μ,env,S,x,S1,hK,R,e1,fun v1 μ1 H1 x1 R1 r1=>?_⟩
 dsimp only at e
 split at e
 .rename_i c
  cases r1
  cases e
  exact⟨c,rfl,q _ μ1 H1 x1 R1 (.bl _)⟩
 .cases e⟩
theorem Iv{e:Expr}(h:JE X e fa)(he:∀whole,isTrue e X.env whole=(do let v ←whole;standAt e.pos;holding [v] (truthy v)):=by intro _;rfl):JT X e (Bh fa):=⟨PT.imp (uM h.pe he) fun σ H Q h=>by
 obtain⟨Γ,μ,env,S,d,S',hK,R,e,q⟩:=h
 obtain⟨⟨x,S1⟩,e1,e⟩:=bind_some e
 refine⟨Γ,μ,env,S,x,S1,hK,R,e1,fun v1 μ1 H1 x1 R1 r1=>?_⟩
 dsimp only at e
 split at e
 .rename_i c
  cases r1
  cases e
  exact⟨_,rfl,q μ1 H1 x1 R1⟩
 .cases e⟩
theorem aK{K:PySem.W.Frag}{f:Az}{t:TE}(ht:∀σ H Q,wpE K f σ H Q->t σ H Q){σ:St}{H:Hp}{Q:Bool->Hp->Prop}(h:wpT K (Bh f) σ H Q):cG t σ H Q:=by
 obtain⟨Γ,μ,env,S,d,S',hK,R,e,q⟩:=h
 obtain⟨⟨x,S1⟩,e1,e⟩:=bind_some e
 refine ht σ H _ ⟨Γ,μ,env,S,x,S1,hK,R,e1,fun v1 μ1 H1 x1 R1 r1=>?_⟩
 dsimp only at e
 split at e
 .cases r1
  cases e
  exact⟨_,rfl,q μ1 H1 x1 R1⟩
 .cases e
theorem Ea{op:CmpOp}{r:R2}{g:Store->D->D->Option D}(ho:OpR X (compareOp op) r)(hs:GD X.K r g)(ha:JE X a fa)(hb:JE X b fb)(hm:behindInMarks op b=false):JT X (.Compare a [op] [b] pos) (Bh (eOp g fa fb)) :=
 ⟨PT.imp (oW ho ha.pe hb.pe hm) fun σ H Q h=>aK (fun _ _ _=>Xd hs) h⟩
theorem jJ{K:PySem.W.Frag}{r r':R2}{g g':Store->D->D->Option D}(hs:GD K r g)(hs':GD K r' g'){σ:St}{H:Hp}{Q:VK}(h:wpE K (Uv g g' fa fb fc) σ H Q):dh r r' (wpE K fa) (wpE K fb) (wpE K fc) σ H Q:=by
 obtain⟨Γ,μ,env,S,d,S',hK,R,e,q⟩:=h
 obtain⟨⟨x,S1⟩,e1,e⟩:=bind_some e
 obtain⟨⟨y,S2⟩,e2,e⟩:=bind_some e
 obtain⟨z,e3,e⟩:=bind_some e
 refine⟨Γ,μ,env,S,x,S1,hK,R,e1,fun v1 μ1 H1 x1 R1 r1=>?_⟩
 refine⟨Γ,μ1,env,S1,y,S2,hK,R1,e2,fun v2 μ2 H2 x2 R2 r2=>?_⟩
 refine hs Γ μ2 σ H2 env S2 v1 v2 x y _ hK R2 (r1.ext x2) r2 e3 _ fun v H3 sm rv=>?_
 obtain⟨R3,x3⟩:=R2.grow sm
 dsimp only at e
 split at e
 .cases rv
  refine⟨true,rfl,?_⟩
  rw[if_pos rfl]
  obtain⟨⟨u,S3⟩,e4,e⟩:=bind_some e
  obtain⟨w,e5,e⟩:=map_some e
  cases e
  refine⟨Γ,μ2,env,S2,u,S3,hK,R3,e4,fun v4 μ4 H4 x4 R4 r4=>?_⟩
  refine hs' Γ μ4 σ H4 env S3 v2 v4 y u _ hK R4 (r2.ext (x3.trans x4)) r4 e5 _ fun v5 H5 sm5 rv5=>?_
  obtain⟨R5,x5⟩:=R4.grow sm5
  exact q v5 μ4 H5 (x1.trans (x2.trans (x3.trans (x4.trans x5)))) R5 rv5
 .cases rv
  cases e
  refine⟨false,rfl,?_⟩
  rw[if_neg Bool.false_ne_true]
  exact q _ μ2 H3 (x1.trans (x2.trans x3)) R3 (.bl false)
 .cases e
theorem lQ{op op':CmpOp}{r r':R2}{g g':Store->D->D->Option D}(ho:OpR X (compareOp op) r)(hs:GD X.K r g)(ho':OpR X (compareOp op') r')(hs':GD X.K r' g')(ha:JE X a fa)(hb:JE X b fb)(hc:JE X c fc)
  (hm:lastMarks [op,op'] [b,c]=false:=by with_unfolding_all rfl):JT X (.Compare a [op,op'] [b,c] pos) (Bh (Uv g g' fa fb fc)):=⟨PT.imp (jw ho ho' ha.pe hb.pe hc.pe hm) fun _ _ _ h=>aK (fun _ _ _=>jJ hs hs') h⟩
variable{ta tb:Ey}
theorem Jf(h:JW X a ta):JT X a ta:=⟨h.pw.pt⟩
theorem Q9(ha:JT X a ta):JW X (.BoolOp .And [a] pos) ta:=⟨oR ha.pt⟩
theorem M7(ha:JT X a ta):JW X (.BoolOp .Or [a] pos) ta:=⟨uK ha.pt⟩
theorem R9(ha:JT X a ta)(hb:JW X (.BoolOp .And (b::rest) pos) tb):JW X (.BoolOp .And (a::b::rest) pos) (Jt ta tb):=⟨PW.imp (uL ha.pt hb.pw) fun σ H Q h=>by
 obtain⟨Γ,μ,env,S,d,S',hK,R,e,q⟩:=h
 obtain⟨⟨x,S1⟩,e1,e⟩:=bind_some e
 refine⟨Γ,μ,env,S,x,S1,hK,R,e1,fun μ1 H1 x1 R1=>?_⟩
 dsimp only at e
 by_cases hx:x=true
 .rw[if_pos hx] at e ⊢
  exact⟨Γ,μ1,env,S1,d,S',hK,R1,e,fun μ' H' x' R'=>q μ' H' (x1.trans x') R'⟩
 .rw[if_neg hx] at e ⊢
  cases e
  exact q μ1 H1 x1 R1⟩
theorem Lr(ha:JT X a ta)(hb:JW X (.BoolOp .Or (b::rest) pos) tb):JW X (.BoolOp .Or (a::b::rest) pos) (tOr ta tb):=⟨PW.imp (wZ ha.pt hb.pw) fun σ H Q h=>by
 obtain⟨Γ,μ,env,S,d,S',hK,R,e,q⟩:=h
 obtain⟨⟨x,S1⟩,e1,e⟩:=bind_some e
 refine⟨Γ,μ,env,S,x,S1,hK,R,e1,fun μ1 H1 x1 R1=>?_⟩
 dsimp only at e
 by_cases hx:x=true
 .rw[if_pos hx] at e ⊢
  cases e
  exact q μ1 H1 x1 R1
 .rw[if_neg hx] at e ⊢
  exact⟨Γ,μ1,env,S1,d,S',hK,R1,e,fun μ' H' x' R'=>q μ' H' (x1.trans x') R'⟩⟩
theorem JR(ha:JT X a ta):JT X (.UnaryOp .Not a pos) (Hx ta):=⟨PT.imp (uN ha.pt) fun σ H Q h=>by
 obtain⟨Γ,μ,env,S,d,S',hK,R,e,q⟩:=h
 obtain⟨⟨x,S1⟩,e1,e⟩:=bind_some e
 cases e
 exact⟨Γ,μ,env,S,x,S1,hK,R,e1,fun μ1 H1 x1 R1=>q μ1 H1 x1 R1⟩⟩
theorem G5:JTs X [] Fz:=⟨PTs.imp oV fun σ H Q h=>by
 obtain⟨Γ,μ,env,S,d,S',hK,R,e,q⟩:=h
 cases e
 exact q μ H (Ext.refl _ _) R⟩
theorem Vx(h:JT X c ta):JTs X [c] ta:=⟨oU h.pt⟩
variable{lo hi:Option Expr}{ol oh:Tq}{p2:Pos}
theorem Vz:JO X none Mx:=⟨PO.imp pA fun σ H Q h=>by
 obtain⟨Γ,μ,env,S,d,S',hK,R,e,q⟩:=h
 cases e
 exact q μ H (Ext.refl _ _) R⟩
theorem Vy(h:JE X a fa):JO X (some a) (Mw fa):=⟨PO.imp (ou h.pe) fun σ H Q h=>by
 obtain⟨Γ,μ,env,S,d,S',hK,R,e,q⟩:=h
 obtain⟨⟨x,S1⟩,e1,e⟩:=bind_some e
 refine⟨Γ,μ,env,S,x,S1,hK,R,e1,fun v1 μ1 H1 x1 R1 r1=>?_⟩
 dsimp only at e
 split at e
 .cases r1
  cases e
  exact⟨_,rfl,q μ1 H1 x1 R1⟩
 .cases e⟩
theorem U0{r:V->Option Int->Option Int->Hp->VK->Prop}{g:Store->D->Option Int->Option Int->Option D}(hr:SlR X r)(hs:nM X.K r g)(ha:JE X a fa)(hl:JO X lo ol)(hh:JO X hi oh) :
  JE X (.Subscript a (.Slice lo hi none p2) pos) (eSl g fa ol oh):=⟨PE.imp (kO hr ha.pe hl.po hh.po) fun σ H Q h=>by
 obtain⟨Γ,μ,env,S,d,S',hK,R,e,q⟩:=h
 obtain⟨⟨x,S1⟩,e1,e⟩:=bind_some e
 obtain⟨⟨l,S2⟩,e2,e⟩:=bind_some e
 obtain⟨⟨u,S3⟩,e3,e⟩:=bind_some e
 obtain⟨z,e4,e⟩:=map_some e
 cases e
 refine⟨Γ,μ,env,S,x,S1,hK,R,e1,fun v1 μ1 H1 x1 R1 r1=>?_⟩
 refine⟨Γ,μ1,env,S1,l,S2,hK,R1,e2,fun μ2 H2 x2 R2=>?_⟩
 refine⟨Γ,μ2,env,S2,u,S3,hK,R2,e3,fun μ3 H3 x3 R3=>?_⟩
 refine hs Γ μ3 σ H3 env S3 v1 x _ l u hK R3 (r1.ext (x2.trans x3)) e4 Q fun v H' sm rv=>?_
 obtain⟨R4,x4⟩:=R3.grow sm
 exact q v μ3 H' (x1.trans (x2.trans (x3.trans x4))) R4 rv⟩
theorem mW{K:PySem.W.Frag}{r:List V->Hp->VK->Prop}{g:Store->List D->Option D}{f:Bb}(hs:Nt K r g){σ:St}{H:Hp}{Q:VK}(h:wpE K (eCB g f) σ H Q):tCB r (wpA K f) σ H Q:=by
 obtain⟨Γ,μ,env,S,d,S',hK,R,e,q⟩:=h
 obtain⟨⟨x,S1⟩,e1,e⟩:=bind_some e
 obtain⟨z,e4,e⟩:=map_some e
 cases e
 refine⟨Γ,μ,env,S,x,S1,hK,R,e1,fun v1 μ1 H1 x1 R1 r1=>?_⟩
 refine hs Γ μ1 σ H1 env S1 v1 x _ hK R1 r1 e4 Q fun v H' sm rv=>?_
 obtain⟨R4,x4⟩:=R1.grow sm
 exact q v μ1 H' (x1.trans x4) R4 rv
variable{x:Str}{p:Pos}{e:Expr}{es:List Expr}{id T:String}{f:Bb}
theorem CK{r:List V->Hp->VK->Prop}{g:Store->List D->Option D}(hc:Dl X (.builtin id) r)(hsm:Nt X.K r g)(hg:Gl X x)(hm:X.mg x=none)(hv:bootBuiltins x=some (.builtin id))(ha:JA X (e::es) f)(hn:x≠"__name__":=by decide)(hdb:(x==("__debug__":Str))=false:=by decide)
  (he:starEach (e::es) X.env=(false,eval e X.env)::starEach es X.env:=by rfl) (hpl:(backTo pos (starEach es X.env)).any (·.1)=false:=by rfl):JE X (.Call (.Name x p) (e::es) [] pos) (eCB g f) :=
 ⟨PE.imp (Yd hc hg hm hv ha.pa hn hdb he hpl) fun _ _ _ h=>mW hsm h⟩
theorem M9{r:List V->Hp->VK->Prop}{g:Store->List D->Option D}(hc:Dl X (.type T) r)(hsm:Nt X.K r g)(hg:Gl X x)(hm:X.mg x=none)(hv:bootBuiltins x=some (.type T))(ha:JA X (e::es) f)(hn:x≠"__name__":=by decide)(hdb:(x==("__debug__":Str))=false:=by decide)
  (he:starEach (e::es) X.env=(false,eval e X.env)::starEach es X.env:=by rfl) (hpl:(backTo pos (starEach es X.env)).any (·.1)=false:=by rfl):JE X (.Call (.Name x p) (e::es) [] pos) (eCB g f) :=
 ⟨PE.imp (Km hc hg hm hv ha.pa hn hdb he hpl) fun _ _ _ h=>mW hsm h⟩
end
section
variable{X:Cx}{st:Stmt}{sts:List Stmt}{f g:Ay}{fa:Az}{a:Expr}{pos:Pos}{K:PySem.W.Frag}
theorem wH{E:Ends}{σ:St}{H:Hp}{fl:Fl}(h:wpS K (fun env S=>some (fl,env,S)) E σ H):∃Γ μ,FlQ Γ μ E σ H fl:=by
 obtain⟨Γ,μ,env,S,fl',env',S',hK,R,e,q⟩:=h
 cases e
 exact⟨Γ,μ,q μ σ H (Ext.refl _ _) R⟩
theorem Ep:JSs X [] En:=⟨PSs.imp oY fun E σ H h=>let ⟨_,_,q⟩:=wH (fl:=.nx) h;q⟩
theorem lU:JS X st Xz:=⟨PS.imp jz fun E σ H h=>by obtain⟨_,_,_,_,_,_,_,_,_,e,_⟩:=h;cases e⟩
theorem Am(h1:JS X st f)(h2:JSs X sts g):JSs X (st::sts) (Bj f g):=⟨PSs.imp (jx h1.ps h2.ps) fun E σ H h=>by
 obtain⟨Γ,μ,env,S,fl,env',S',hK,R,e,q⟩:=h
 obtain⟨⟨fl1,env1,S1⟩,e1,e⟩:=bind_some e
 refine⟨Γ,μ,env,S,fl1,env1,S1,hK,R,e1,fun μ1 σ1 H1 x1 R1=>?_⟩
 dsimp only at e
 cases fl1 with
 |nx=>exact⟨Γ,μ1,env1,S1,fl,env',S',hK,R1,e,fun μ' σ' H' x' R'=>q μ' σ' H' (x1.trans x') R'⟩
 |brk=>cases e;exact q μ1 σ1 H1 x1 R1
 |cnt=>cases e;exact q μ1 σ1 H1 x1 R1
 |ret d=>cases e;exact q μ1 σ1 H1 x1 R1⟩
theorem Aw(h1:JS X st f):JSs X [st] f:=⟨oX h1.ps⟩
theorem Iw(he:JE X a fa)(hs:swapsWith a none pos.line X.env=pure false:=by rfl):JS X (.Expr a pos) (JM fa):=⟨PS.imp (oZ he.pe hs) fun E σ H h=>by
 obtain⟨Γ,μ,env,S,fl,env',S',hK,R,e,q⟩:=h
 obtain⟨⟨x,S1⟩,e1,e⟩:=bind_some e
 cases e
 exact⟨Γ,μ,env,S,x,S1,hK,R,e1,fun v1 μ1 H1 x1 R1 r1=>q μ1 σ H1 x1 R1⟩⟩
theorem CT(he:JE X a fa):JS X (.Return (some a) pos) (Cu fa):=⟨PS.imp (uP he.pe) fun E σ H h=>by
 obtain⟨Γ,μ,env,S,fl,env',S',hK,R,e,q⟩:=h
 obtain⟨⟨x,S1⟩,e1,e⟩:=bind_some e
 cases e
 exact⟨Γ,μ,env,S,x,S1,hK,R,e1,fun v1 μ1 H1 x1 R1 r1=>q μ1 σ H1 x1 R1 v1 r1⟩⟩
theorem Gq{c:Expr}{A B:List Stmt}{tc:Ey}(hc:JT X c tc)(ha:JSs X A f)(hb:JSs X B g):JS X (.If c A B pos) (sIf tc f g):=⟨PS.imp (wg hc.pt ha.ps hb.ps) fun E σ H h=>by
 obtain⟨Γ,μ,env,S,fl,env',S',hK,R,e,q⟩:=h
 obtain⟨⟨x,S1⟩,e1,e⟩:=bind_some e
 refine⟨Γ,μ,env,S,x,S1,hK,R,e1,fun μ1 H1 x1 R1=>?_⟩
 dsimp only at e
 by_cases hx:x=true
 .rw[if_pos hx] at e ⊢
  exact⟨Γ,μ1,env,S1,fl,env',S',hK,R1,e,fun μ' σ' H' x' R'=>q μ' σ' H' (x1.trans x') R'⟩
 .rw[if_neg hx] at e ⊢
  exact⟨Γ,μ1,env,S1,fl,env',S',hK,R1,e,fun μ' σ' H' x' R'=>q μ' σ' H' (x1.trans x') R'⟩⟩
theorem Bx{i:Nat}{x:Str}{pos':Pos}(hN:X.N.Nodup)(he:JE X a fa)(hi:X.N[i]?=some x:=by rfl)(hx:Loc X.env.scope x:=by first|exact Or.inl rfl|exact Or.inr rfl)(hs:swapsWith a (some (.Name x pos')) pos.line X.env=pure false:=by rfl)
  (hf:X.fn x=true∨X.env.scope.names.lookup x=some .local:=by first|exact .inl rfl|exact .inr rfl|assumption):JS X (.Assign [.Name x pos'] a pos) (Bf i fa):=⟨PS.imp (uO hN hi hx he.pe hs hf) fun E σ H h=>by
 obtain⟨Γ,μ,env,S,fl,env',S',hK,R,e,q⟩:=h
 obtain⟨⟨y,S1⟩,e1,e⟩:=bind_some e
 cases e
 exact⟨Γ,μ,env,S,y,S1,hK,R,e1,fun v1 μ1 H1 x1 R1 r1=>q μ1 _ H1 x1 (R1.bR i r1)⟩⟩
theorem BX{i:Nat}{x:Str}(hN:X.N.Nodup)(hi:X.N[i]?=some x:=by rfl)(hx:Loc X.env.scope x:=by first|exact Or.inl rfl|exact Or.inr rfl)
  (hf:X.fn x=true∨X.env.scope.names.lookup x=some .local:=by first|exact .inl rfl|exact .inr rfl|assumption):JG X (.Name x pos) (.nm i):=⟨by rw[Pat.raw];exact pF hN hi hx hf⟩
theorem G6:JGs X [] []:=⟨by rw[KQ];exact pD⟩
theorem CG{e:Expr}{es:List Expr}{t:Pat}{u:List Pat}(h1:JG X e t)(h2:JGs X es u)
  (hs:(assignEach (e::es) X.env).map (·.2)=assign e X.env::(assignEach es X.env).map (·.2):=by rfl):JGs X (e::es) (t::u):=⟨by rw[KQ];exact kJ h1.pg h2.pg hs⟩
theorem HD{es:List Expr}{k:Nat}{gs:List Pat}(hc:X.calm=true)(h:JGs X es gs)(hn:(assignEach es X.env).length=gs.length:=by rfl)(hst:(assignEach es X.env).findIdx? (·.1)=none:=by rfl):JG X (.Tuple es k pos) (.tp gs) :=
 ⟨by rw[Pat.raw];exact uU hc h.pg hn hst⟩
theorem vJ{tg:Expr}{gg:Pat}(he:JE X a fa)(hg:JG X tg gg)(hs:swapsWithSole [tg] a pos.line X.env=pure false:=by rfl)(hw:swappedStores [tg] a X.env=pure none:=by rfl)
  (h1:(assignEach [tg] X.env).map (·.2)=[assign tg X.env]:=by rfl):JS X (.Assign [tg] a pos) (bU fa gg.sem):=⟨PS.imp (eE he.pe hg.pg hs hw h1) fun E σ H h=>by
 obtain⟨Γ,μ,env,S,fl,env',S',hK,R,e,q⟩:=h
 obtain⟨⟨y,S1⟩,e1,e⟩:=bind_some e
 obtain⟨env1,e2,e⟩:=bind_some e
 cases e
 exact⟨Γ,μ,env,S,y,S1,hK,R,e1,fun v1 μ1 H1 x1 R1 r1=>gg.run X.K R1 r1 e2 fun σ' R'=>q μ1 σ' H1 x1 R'⟩⟩
theorem GF{tg iter:Expr}{body:List Stmt}{it:KZ}{gg:Pat}(hc:X.calm=true)(hi:JI X tg iter it)(hg:JG X tg gg)(hb:JSs X body f)(hp:PassesOwn (model X.prog X.w) X.A X.env X.xe)
  (hs:∀x,foldedSetIterable iter X.env x=pure x:=by intro _;rfl):JS X (.For tg iter body [] pos) (Il it gg.sem f):=⟨PS.imp (uQ hp hc hi.pi hg.pg hb.ps hs) fun E σ H h=>by
 obtain⟨Γ,μ,env,S,fl,env',S',hK,R,e,q⟩:=h
 obtain⟨⟨⟨ds,w⟩,S1⟩,e1,e⟩:=bind_some e
 refine⟨Γ,μ,env,S,ds,w,S1,hK,R,e1,fun J μ1 H1 x1 R1 ok=>?_⟩
 refine⟨fun i m σ2 H2=>∃μ2 env2 S2,m=ds.length-i/\i<=ds.length/\Ext μ1 H1 μ2 H2/\Rep Γ μ2 σ2 H2 env2 S2/\loop w gg.sem f (ds.drop i) env2 S2=some (fl,env',S'),⟨ds.length,μ1,env,S1,rfl,Nat.zero_le _,Ext.refl _ _,R1,by rw[List.drop_zero];exact e⟩,?_⟩
 rintro i m σ2 H2 ⟨μ2,env2,S2,rfl,hi,x2,R2,el⟩
 by_cases hlt:i<ds.length
 .rw[List.drop_eq_getElem_cons hlt] at el
  unfold loop at el
  by_cases hcm:calm w S2
  .rw[if_pos hcm] at el
   obtain⟨env3,e3,el⟩:=bind_some el
   obtain⟨⟨fl4,env4,S4⟩,e4,el⟩:=bind_some el
   obtain⟨go,yl⟩:=ok.step i ds[i] μ2 H2 σ2 env2 S2 (List.getElem?_eq_getElem hlt) x2 R2 hcm
   refine .inr ⟨go,fun σ5 H5=>∃μ5 env5 S5,Ext μ1 H1 μ5 H5/\Rep Γ μ5 σ5 H5 env5 S5/\loop w gg.sem f (ds.drop (i+1)) env5 S5=some (fl,env',S'),fun σ5 H5 ⟨μ5,env5,S5,x5,R5,e5⟩=>⟨ds.length-(i+1),by omega,μ5,env5,S5,rfl,hlt,x5,R5,e5⟩,fun x H3 y=>?_⟩
   obtain⟨sm,rx⟩:=yl x H3 y
   obtain⟨R3,x3⟩:=R2.grow sm
   refine gg.run X.K R3 rx e3 fun σ3 R3'=>?_
   refine⟨Γ,μ2,env3,S2,fl4,env4,S4,hK,R3',e4,fun μ4 σ4 H4 x4 R4=>?_⟩
   have x14:=x2.trans (x3.trans x4)
   dsimp only at el
   cases fl4 with
   |nx=>exact⟨μ4,env4,S4,x14,R4,el⟩
   |cnt=>exact⟨μ4,env4,S4,x14,R4,el⟩
   |brk=>cases el;exact q μ4 σ4 H4 (x1.trans x14) R4
   |ret d=>cases el;exact q μ4 σ4 H4 (x1.trans x14) R4
  .rw[if_neg hcm] at el;cases el
 .have hi':i=ds.length:=by omega
  subst hi'
  rw[List.drop_length] at el
  unfold loop at el
  by_cases hcm:calm w S2
  .rw[if_pos hcm] at el
   cases el
   exact .inl ⟨ok.stop μ2 H2 σ2 _ _ x2 R2 hcm,q μ2 σ2 H2 (x1.trans x2) R2⟩
  .rw[if_neg hcm] at el;cases el⟩
theorem lR{c:Expr}{body:List Stmt}{tc:Ey}(n:Nat)(hp:PassesOwn (model X.prog X.w) X.A X.env X.xe)(hc:JT X c tc)(hb:JSs X body f):JS X (.While c body [] pos) (Ky tc f n):=⟨PS.imp (jy hp hc.pt hb.ps) fun E σ H h=>by
 obtain⟨Γ,μ,env,S,fl,env',S',hK,R,e,q⟩:=h
 refine⟨fun m σ2 H2=>∃μ2 env2 S2,Ext μ H μ2 H2/\Rep Γ μ2 σ2 H2 env2 S2/\Ky tc f m env2 S2=some (fl,env',S'),⟨n,μ,env,S,Ext.refl _ _,R,e⟩,?_⟩
 rintro m σ2 H2 ⟨μ2,env2,S2,x2,R2,el⟩
 cases m with
 |zero=>cases el
 |succ m =>
  unfold Ky at el
  obtain⟨⟨b,S3⟩,e3,el⟩:=bind_some el
  refine⟨Γ,μ2,env2,S2,b,S3,hK,R2,e3,fun μ3 H3 x3 R3=>?_⟩
  dsimp only at el
  by_cases hb':b=true
  .rw[if_pos hb'] at el ⊢
   obtain⟨⟨fl4,env4,S4⟩,e4,el⟩:=bind_some el
   refine⟨fun σ5 H5=>∃μ5 env5 S5,Ext μ H μ5 H5/\Rep Γ μ5 σ5 H5 env5 S5/\Ky tc f m env5 S5=some (fl,env',S'),fun σ5 H5 ⟨μ5,env5,S5,x5,R5,e5⟩=>⟨m,Nat.lt_succ_self m,μ5,env5,S5,x5,R5,e5⟩,?_⟩
   refine⟨Γ,μ3,env2,S3,fl4,env4,S4,hK,R3,e4,fun μ4 σ4 H4 x4 R4=>?_⟩
   have x14:=x2.trans (x3.trans x4)
   dsimp only at el
   cases fl4 with
   |nx=>exact⟨μ4,env4,S4,x14,R4,el⟩
   |cnt=>exact⟨μ4,env4,S4,x14,R4,el⟩
   |brk=>cases el;exact q μ4 σ4 H4 x14 R4
   |ret d=>cases el;exact q μ4 σ4 H4 x14 R4
  .rw[if_neg hb'] at el ⊢
   cases el
   exact q μ3 σ2 H3 (x2.trans x3) R3⟩
end
end VS
end
section
namespace VS
open PySem PySem.Spec L2
theorem Rep.cap{Γ:Fr}{μ:Mu}{σ:St}{H:Hp}{env:Env}{S:Store}(R:Rep Γ μ σ H env S)(k:Nat)(caps:List Nat):Rep Γ μ (Ju k caps σ) H (HS k caps env) S:=by
 refine⟨fun i d h=>?_,?_,R.sto,R.liv,R.inj,R.slen,R.ent,R.new⟩
 .unfold HS at h
  by_cases hi:i<k
  .rw[List.getElem?_append_left (by simpa using hi),List.getElem?_replicate,if_pos hi] at h
   cases h
  .rw[List.getElem?_append_right (by simpa using hi),List.length_replicate,List.getElem?_map] at h
   cases e:caps[i-k]? with
   |none=>rw[e] at h;cases h
   |some a =>
    rw[e] at h
    have h':(env[a]?).join=some d:=Option.some.inj h
    have h2:env[a]?=some (some d):=by
     cases q:env[a]? with
     |none=>rw[q] at h';cases h'
     |some o=>rw[q] at h';exact congrArg some h'
    obtain⟨v,h3,h4⟩:=R.vals a d h2
    refine⟨v,?_,h4⟩
    unfold Ju
    rw[List.getElem?_append_right (by simpa using hi),List.length_replicate,List.getElem?_map,e]
    show some (σ[a]?).join=some (some v)
    rw[h3];rfl
 .unfold Ju HS
  rw[List.length_append,List.length_append,List.length_map,List.length_map,List.length_replicate,List.length_replicate]
section
variable{X:Cx}
theorem Vr{K:PySem.W.Frag}{k:Nat}{caps:List Nat}{it:KZ}{p:Pat}{t:Ey}{f:Az}{σ:St}{H:Hp}{Q:VK} (h:∃Γ μ env S ys S',Γ.K=K/\Rep Γ μ σ H env S/\Cj k caps it p.sem t f env S=some (ys,S') /\
  ∀xs μ' H',Ext μ H μ' H'->Rep Γ μ' σ H' env S'->VRs Γ μ' H' xs ys->∀q,H' q=none->Q (.ref q) (upd H' q (.lst xs))):cI k caps (wpI K it) (p.raw K) (wpT K t) (wpE K f) σ H Q:=by
 obtain⟨Γ,μ,env,S,ys,S',hK,R,e,q⟩:=h
 obtain⟨⟨⟨ds,w⟩,S1⟩,e1,e⟩:=bind_some e
 refine⟨Γ,μ,env,S,ds,w,S1,hK,R,e1,fun J μ1 H1 x1 R1 ok=>?_⟩
 refine⟨fun i m zs H2=>∃μ2 S2 dzs,m=ds.length-i/\i<=ds.length/\Ext μ1 H1 μ2 H2/\Rep Γ μ2 σ H2 env S2/\VRs Γ μ2 H2 zs dzs/\G3 w (HS k caps env) p.sem t f (ds.drop i) dzs S2=some (ys,S'),
  ⟨ds.length,μ1,S1,[],rfl,Nat.zero_le _,Ext.refl _ _,R1,.nil,by rw[List.drop_zero];exact e⟩,?_⟩
 rintro i m zs H2 ⟨μ2,S2,dzs,rfl,hi,x2,R2,rz,el⟩
 by_cases hlt:i<ds.length
 .rw[List.drop_eq_getElem_cons hlt] at el
  unfold G3 at el
  by_cases hcm:calm w S2/\dzs.length<=1000000
  .rw[if_pos hcm] at el
   obtain⟨env3,e3,el⟩:=bind_some el
   obtain⟨⟨b,S4⟩,e4,el⟩:=bind_some el
   have R2c:=R2.cap k caps
   obtain⟨go,yl⟩:=ok.step i ds[i] μ2 H2 _ _ S2 (List.getElem?_eq_getElem hlt) x2 R2c hcm.1
   refine .inr ⟨go,by rw[rz.length];exact big hcm.2,fun x H3 y=>?_⟩
   obtain⟨sm,rx⟩:=yl x H3 y
   obtain⟨R3,x3⟩:=R2c.grow sm
   obtain⟨R3o,_⟩:=R2.grow sm
   refine p.run K R3 rx e3 fun σ3 R3'=>?_
   refine⟨Γ,μ2,env3,S2,b,S4,hK,R3',e4,fun μ4 H4 x4 R4=>?_⟩
   dsimp only at el
   by_cases hb:b=true
   .rw[if_pos hb] at el ⊢
    obtain⟨⟨d5,S5⟩,e5,el⟩:=bind_some el
    refine⟨Γ,μ4,env3,S4,d5,S5,hK,R4,e5,fun v μ5 H5 x5 R5 r5=>?_⟩
    exact⟨ds.length-(i+1),by omega,μ5,S5,dzs++[d5],rfl,hlt,x2.trans (x3.trans (x4.trans x5)),R3o.back (x4.trans x5) R5,((rz.ext (x3.trans (x4.trans x5)))).append (.cons r5 .nil),el⟩
   .rw[if_neg hb] at el ⊢
    exact⟨ds.length-(i+1),by omega,μ4,S4,dzs,rfl,hlt,x2.trans (x3.trans x4),R3o.back x4 R4,rz.ext (x3.trans x4),el⟩
  .rw[if_neg hcm] at el;cases el
 .have hi':i=ds.length:=by omega
  subst hi'
  rw[List.drop_length] at el
  unfold G3 at el
  by_cases hcm:calm w S2/\dzs.length<=1000000
  .rw[if_pos hcm] at el
   cases el
   exact .inl ⟨ok.stop μ2 H2 σ env _ x2 R2 hcm.1,fun p hp=>q zs μ2 H2 (x1.trans x2) R2 rz p hp⟩
  .rw[if_neg hcm] at el;cases el
structure JC(X:Cx)(N2:List Str)(scope:Scope)(tg:Expr)(ifs:List Expr)(elt:Expr)(p:Pat)(t:Ey)(f:Az):Prop where
 all:∀(cl:List (Str×Addr))(C:Addr)(s:Shared)(H:Hp)(ex:List Addr),JG (Dw X N2 scope cl C s H ex) tg p/\JTs (Dw X N2 scope cl C s H ex) ifs t/\JE (Dw X N2 scope cl C s H ex) elt f
theorem FT{elt tg iter:Expr}{ifs:List Expr}{scope:Scope}{pos:Pos}{N2:List Str}{k:Nat}{caps:List Nat}{it:KZ}{p:Pat}{t:Ey}{f:Az}
  (hc:X.calm=true) (hS:Dy X.env.scope X.N N2 k caps scope) (hlow:p.low k=true) (hi:JI X tg iter it) (hb:JC X N2 scope tg ifs elt p t f)
  (hs:∀x,foldedSetIterable iter X.env x=pure x:=by intro _;rfl):JE X (.ListComp elt [⟨tg,iter,ifs,0⟩] scope pos) (Bm (Cj k caps it p.sem t f)) :=
 ⟨PE.imp (pH hc hS (p.Xh X.K hlow) hi.pi (fun cl C s H ex=>let ⟨a,b,c⟩:=hb.all cl C s H ex;⟨a.pg,b.pt,c.pe⟩) hs) fun σ H Q h=>by
  obtain⟨Γ,μ,env,S,d,S',hK,R,e,q⟩:=h
  obtain⟨⟨ys,S1⟩,e1,e⟩:=bind_some e
  cases e
  refine Vr ⟨Γ,μ,env,S,ys,S1,hK,R,e1,fun xs μ1 H1 x1 R1 r1 z hz=>?_⟩
  obtain⟨R2,x2⟩:=R1.grow (Cw hz (.lst xs))
  exact q _ μ1 _ (x1.trans x2) R2 (.lst (R1.ok hz true) (R1.dead hz) CQ (r1.ext x2))⟩
theorem Vu{Γ:Fr}{μ:Mu}{H:Hp}{p:Addr}{n:Nat}(h:n=μ.length):VR Γ (μ++[some p]) H (.ref p) (.ref n):=by
 subst h
 refine .ref (by rw[List.length_append];simp) fun a h=>?_
 simp at h
 rw[h]
theorem T5{elt tg iter:Expr}{ifs:List Expr}{scope:Scope}{pos py spos:Pos}{N2:List Str}{k i:Nat}{y:Str}{caps:List Nat}{it:KZ}{p:Pat}{t:Ey}{f:Az}
  (hc:X.calm=true) (hN:X.N.Nodup) (hS:Dy X.env.scope X.N N2 k caps scope) (hlow:p.low k=true) (hi:JI X tg iter it) (hb:JC X N2 scope tg ifs elt p t f) (hi':X.N[i]?=some y:=by rfl)
  (hx:X.env.scope.names.lookup y=some .local:=by rfl) (hsw:swapsWith (.ListComp elt [⟨tg,iter,ifs,0⟩] scope pos) (some (.Name y py)) spos.line X.env=pure true:=by rfl)
  (hs:∀x,foldedSetIterable iter X.env x=pure x:=by intro _;rfl):JS X (.Assign [.Name y py] (.ListComp elt [⟨tg,iter,ifs,0⟩] scope pos) spos) (Bf i (Bm (Cj k caps it p.sem t f))) :=
 ⟨PS.imp (aj hc hN hi' hS (p.Xh X.K hlow) hi.pi (fun cl C s H ex=>let ⟨a,b,c⟩:=hb.all cl C s H ex;⟨a.pg,b.pt,c.pe⟩) hx hsw hs) fun E σ H h=>by
  obtain⟨Γ,μ,env,S,fl,env',S',hK,R,e,q⟩:=h
  obtain⟨⟨d,S1⟩,e1,e⟩:=bind_some e
  cases e
  obtain⟨⟨ys,S2⟩,e2,e1⟩:=bind_some e1
  cases e1
  refine Vr ⟨Γ,μ,env,S,ys,_,hK,R,e2,fun xs μ1 H1 x1 R1 r1 z hz=>?_⟩
  obtain⟨R2,x2⟩:=R1.grow (Cw hz (.lst xs))
  exact q μ1 _ _ (x1.trans x2) (R2.bR i (.lst (R1.ok hz true) (R1.dead hz) CQ (r1.ext x2)))⟩
theorem Zv{elt tg iter:Expr}{ifs:List Expr}{scope:Scope}{pos py spos:Pos}{N2:List Str}{k i:Nat}{y:Str}{caps:List Nat}{it:KZ}{p:Pat}{t:Ey}{f:Az}
  (hc:X.calm=true) (hN:X.N.Nodup) (hS:Dy X.env.scope X.N N2 k caps scope) (hlow:p.low k=true) (hi:JI X tg iter it) (hb:JC X N2 scope tg ifs elt p t f) (hi':X.N[i]?=some y:=by rfl)
  (hx:X.env.scope.names.lookup y=some .local:=by rfl) (hsw:swapsWith (.ListComp elt [⟨tg,iter,ifs,0⟩] scope pos) (some (.Name y py)) spos.line X.env=pure true:=by rfl)
  (hs:∀x,foldedSetIterable iter X.env x=pure x:=by intro _;rfl):JS X (.Assign [.Name y py] (.ListComp elt [⟨tg,iter,ifs,0⟩] scope pos) spos) (Bf i (Hj (Cj k caps it p.sem t f))) :=
 ⟨PS.imp (aj hc hN hi' hS (p.Xh X.K hlow) hi.pi (fun cl C s H ex=>let ⟨a,b,c⟩:=hb.all cl C s H ex;⟨a.pg,b.pt,c.pe⟩) hx hsw hs) fun E σ H h=>by
  obtain⟨Γ,μ,env,S,fl,env',S',hK,R,e,q⟩:=h
  obtain⟨⟨d,S1⟩,e1,e⟩:=bind_some e
  cases e
  obtain⟨⟨ys,S2⟩,e2,e1⟩:=bind_some e1
  cases e1
  refine Vr ⟨Γ,μ,env,S,ys,_,hK,R,e2,fun xs μ1 H1 x1 R1 r1 z hz=>?_⟩
  obtain⟨R2,x2⟩:=R1.laid hz r1
  exact q _ _ _ (x1.trans x2) (R2.bR i (Vu R1.slen))⟩
end
def listOf(S:Store):D->Option (List D)
 |.lst _ ds=>some ds
 |.ref i=>(S[i]?).join
 |_=>none
def CN(S:Store):D->Option (List D)
 |.tup ds=>some ds
 |.scr ns=>some (ns.map .int)
 |d=>listOf S d
def idOf(ds:List D):D->List (Nat×List D)
 |.ref i=>[(i,ds)]
 |_=>[]
section
variable{Γ:Fr}{μ:Mu}{σ:St}{H:Hp}{env:Env}{S:Store}{v:V}{d:D}{ds:List D}
theorem join_some{α:Type}{a:Option (Option α)}{b:α}(h:a.join=some b):a=some (some b):=by
 cases a with
 |none=>cases h
 |some o=>exact congrArg some h
theorem VR.list(R:Rep Γ μ σ H env S)(r:VR Γ μ H v d)(h:listOf S d=some ds):∃a xs,v=.ref a/\H a=some (.lst xs)/\VRs Γ μ H xs ds:=by
 cases r with
 |lst o n hb rs=>cases h;exact⟨_,_,rfl,hb,rs⟩
 |@ref i v hi f =>
  obtain⟨a,xs,h1,h2,h3⟩:=R.sto i ds (join_some h)
  exact⟨a,xs,f a h1,h2,h3⟩
 |_=>cases h
theorem VR.seq(hK:Γ.K=K)(R:Rep Γ μ σ H env S)(r:VR Γ μ H v d)(h:CN S d=some ds):∃a xs,v=.ref a/\(SqL K H a xs∨SqT K H a xs)/\VRs Γ μ H xs ds:=by
 subst hK
 cases d with
 |tup es=>cases r with|tup hb rs=>cases h;exact⟨_,_,rfl,.inr (SqT.of hb),rs⟩
 |scr ns =>
  cases h
  cases r with
  |scrK hk=>exact⟨_,_,rfl,.inl (hk H),VRs.ints ns⟩
  |scrR n hb=>exact⟨_,_,rfl,.inl (.inl (.inr ⟨_,hb⟩)),VRs.ints ns⟩
 |lst m es=>obtain⟨a,xs,e1,e2,e3⟩:=VR.list R r h;exact⟨a,xs,e1,.inl (SqL.of e2),e3⟩
 |ref i=>obtain⟨a,xs,e1,e2,e3⟩:=VR.list R r h;exact⟨a,xs,e1,.inl (SqL.of e2),e3⟩
 |_=>cases h
end
def Dc(a:Az):KZ:=fun env S=>(a env S).bind fun p=>(CN p.2 p.1).map fun ds=>((ds,idOf ds p.1),p.2)
section
variable{X:Cx}{tg:Expr}
def wJ(K:PySem.W.Frag)(tl:TE):TI:=fun σ H R=>tl σ H fun x H1=>∃a,x=.ref a/\(((∃xs,SqL K H1 a xs)/\R (Itl K a) H1)∨((∃xs,SqT K H1 a xs)/\R (Itt K a) H1))
theorem uT{l:Expr}{tl:TE}(hl:PE X l tl):PI X tg l (wJ X.K tl):=by
 intro pins s σ H R I h
 refine thn (hl pins s σ H _ I h) fun v s1 ⟨x,H1,I1,r1,q1⟩=>?_
 obtain⟨a,e,⟨⟨xs,hq⟩,q⟩|⟨⟨xs,hq⟩,q⟩⟩:=q1
 .subst e
  cases r1
  obtain⟨its,rv,p,hz⟩:=I1.list hq
  refine wpAny_pyIter_list p.isList ?_
  refine⟨s1.heap.objs.size,[s1.heap.objs.size],_,_,H1,rfl,I1.kept (t':=s1.toks) fun b o e=>Heap.get?_push_of_some _ e,fO a _,⟨_,Heap.get?_push_size _ rfl,rfl,rfl⟩,fun b hb=>?_,q⟩
  have e:b=s1.heap.objs.size:=by simpa using hb
  subst e
  exact I1.Vp (Nat.le_refl _) (I1.hok.fresh (Nat.le_refl _))
 .subst e
  cases r1
  obtain⟨its,rv,p,hz⟩:=I1.tuple hq
  refine wpAny_pyIter_tuple (show s1.heap.IsTuple a its.toArray from p) ?_
  refine⟨s1.heap.objs.size,[s1.heap.objs.size],_,_,H1,rfl,I1.kept (t':=s1.toks) fun b o e=>Heap.get?_push_of_some _ e,cP a _,⟨_,Heap.get?_push_size _ rfl,rfl,rfl⟩,fun b hb=>?_,q⟩
  have e:b=s1.heap.objs.size:=by simpa using hb
  subst e
  exact I1.Vp (Nat.le_refl _) (I1.hok.fresh (Nat.le_refl _))
theorem fZ{d:D}{ds:List D}{S S':Store}(h:CN S d=some ds)(c:calm (idOf ds d) S'):CN S' d=some ds:=by
 cases d with
 |ref i =>
  have c':S'[i]?=some (some ds):=c (i,ds) (List.mem_singleton.mpr rfl)
  show(S'[i]?).join=some ds
  rw[c'];rfl
 |_=>exact h
theorem VR.bT{K:PySem.W.Frag}{Γ:Fr}{μ:Mu}{σ:St}{H:Hp}{env:Env}{S:Store}{v:V}{d:D}{ds:List D}(hK:Γ.K=K)(R:Rep Γ μ σ H env S)(r:VR Γ μ H v d)(h:CN S d=some ds):(∃es,d=.tup es)∨∃a xs,v=.ref a/\SqL K H a xs/\VRs Γ μ H xs ds:=by
 subst hK
 cases d with
 |tup es=>exact .inl ⟨es,rfl⟩
 |scr ns =>
  cases h
  cases r with
  |scrK hk=>exact .inr ⟨_,_,rfl,hk H,VRs.ints ns⟩
  |scrR n hb=>exact .inr ⟨_,_,rfl,.inl (.inr ⟨_,hb⟩),VRs.ints ns⟩
 |lst m es=>obtain⟨a,xs,e1,e2,e3⟩:=VR.list R r h;exact .inr ⟨a,xs,e1,SqL.of e2,e3⟩
 |ref i=>obtain⟨a,xs,e1,e2,e3⟩:=VR.list R r h;exact .inr ⟨a,xs,e1,SqL.of e2,e3⟩
 |_=>cases h
theorem qP{Γ:Fr}{μ:Mu}{H:Hp}{a:Addr}{ds:List D}{K:PySem.W.Frag}{w:List (Nat×List D)}(hr:∀μ' H' σ' env' S',Ext μ H μ' H'->Rep Γ μ' σ' H' env' S'->calm w S'->∃xs,SqL K H' a xs/\VRs Γ μ' H' xs ds):Vq Γ μ H (Itl K a) ds w:=by
 refine⟨fun i d μ' H' σ' env' S' hi x R c=>?_,fun μ' H' σ' env' S' x R c=>?_⟩
 .obtain⟨xs,h1,h2⟩:=hr μ' H' σ' env' S' x R c
  obtain⟨y,e1,e2⟩:=h2.get hi
  refine⟨⟨xs,y,h1,e1⟩,fun z H'' yl=>?_⟩
  obtain⟨e,f⟩:=yl
  subst e
  have:=f xs h1
  rw[e1] at this;cases this
  exact⟨Same.refl _,e2⟩
 .obtain⟨xs,h1,h2⟩:=hr μ' H' σ' env' S' x R c
  exact⟨xs,h1,by rw[h2.length];exact Nat.le_refl _⟩
theorem eO{Γ:Fr}{μ:Mu}{H:Hp}{a:Addr}{ds:List D}{K:PySem.W.Frag}{w:List (Nat×List D)}(hr:∀μ' H' σ' env' S',Ext μ H μ' H'->Rep Γ μ' σ' H' env' S'->calm w S'->∃xs,SqT K H' a xs/\VRs Γ μ' H' xs ds):Vq Γ μ H (Itt K a) ds w:=by
 refine⟨fun i d μ' H' σ' env' S' hi x R c=>?_,fun μ' H' σ' env' S' x R c=>?_⟩
 .obtain⟨xs,h1,h2⟩:=hr μ' H' σ' env' S' x R c
  obtain⟨y,e1,e2⟩:=h2.get hi
  refine⟨⟨xs,y,h1,e1⟩,fun z H'' yl=>?_⟩
  obtain⟨e,f⟩:=yl
  subst e
  have:=f xs h1
  rw[e1] at this;cases this
  exact⟨Same.refl _,e2⟩
 .obtain⟨xs,h1,h2⟩:=hr μ' H' σ' env' S' x R c
  exact⟨xs,h1,by rw[h2.length];exact Nat.le_refl _⟩
theorem Eu{l:Expr}{f:Az}(hl:JE X l f):JI X tg l (Dc f):=⟨PI.imp (uT hl.pe) fun σ H Q h=>by
 obtain⟨Γ,μ,env,S,ds,w,S',hK,R,e,q⟩:=h
 obtain⟨⟨d,S1⟩,e1,e⟩:=bind_some e
 obtain⟨ds',e2,e⟩:=map_some e
 cases e
 refine⟨Γ,μ,env,S,d,S1,hK,R,e1,fun v μ1 H1 x1 R1 r1=>?_⟩
 rcases VR.bT hK R1 r1 e2 with ⟨es,rfl⟩|⟨a,xs,rfl,hq,rs⟩
 .cases r1 with
  |@tup a xs _ hb rs =>
   refine⟨a,rfl,.inr ⟨⟨xs,SqT.of hb⟩,q _ μ1 H1 x1 R1 (eO fun μ' H' σ' env' S' x' R' c=>?_)⟩⟩
   have e2':es=ds:=Option.some.inj e2
   subst e2'
   exact⟨xs,SqT.of (x'.tups _ _ hb),rs.ext x'⟩
 .by_cases ht:∃es,d=.tup es
  .obtain⟨es,rfl⟩:=ht
   cases r1 with
   |@tup b ys _ hb rs' =>
    refine⟨a,rfl,.inr ⟨⟨ys,SqT.of hb⟩,q _ μ1 H1 x1 R1 (eO fun μ' H' σ' env' S' x' R' c=>?_)⟩⟩
    have e2':es=ds:=Option.some.inj e2
    subst e2'
    exact⟨ys,SqT.of (x'.tups _ _ hb),rs'.ext x'⟩
  .refine⟨a,rfl,.inl ⟨⟨xs,hq⟩,q _ μ1 H1 x1 R1 (qP fun μ' H' σ' env' S' x' R' c=>?_)⟩⟩
   rcases VR.bT hK R' (r1.ext x') (fZ e2 c) with z|⟨b,ys,e,h1,h2⟩
   .exact absurd z ht
   .cases e
    exact⟨ys,h1,h2⟩⟩
def upD(lo:Int)(n:Nat):List D:=(List.range n).map fun(i:Nat)=>.int (lo+i)
theorem lq{Γ:Fr}{μ:Mu}{H:Hp}(lo:Int)(n:Nat):Vq Γ μ H (Itr lo n) (upD lo n) []:=by
 have len:(upD lo n).length=n:=by unfold upD;rw[List.length_map,List.length_range]
 refine⟨fun i d μ' H' σ' env' S' hi x R c=>?_,fun μ' H' σ' env' S' x R c=>?_⟩
 .have hi':i<n:=by rw[←len];exact(List.getElem?_eq_some_iff.mp hi).1
  refine⟨hi',fun y H'' yl=>?_⟩
  obtain⟨e1,e2⟩:=yl
  subst e1 e2
  unfold upD at hi
  rw[List.getElem?_map,List.getElem?_range hi'] at hi
  cases hi
  exact⟨Same.refl _,.int _⟩
 .show n<=(upD lo n).length
  rw[len];exact Nat.le_refl _
def r62(j:Int):Prop:=-(2^62)<=j/\j<2^62
instance(j:Int):Decidable (r62 j):=by unfold r62;infer_instance
def Et(a:Bb):KZ:=fun env S=>(a env S).bind fun p=>match p.1 with|[.int j]=>if r62 j then some ((upD 0 j.toNat,[]),p.2) else none|_=>none
theorem VRs.one{Γ:Fr}{μ:Mu}{H:Hp}{vs:List V}{d:D}(h:VRs Γ μ H vs [d]):∃v,vs=[v]/\VR Γ μ H v d:=by
 cases h with|cons r t=>cases t;exact⟨_,rfl,r⟩
theorem VRs.two{Γ:Fr}{μ:Mu}{H:Hp}{vs:List V}{d e:D}(h:VRs Γ μ H vs [d,e]):∃v u,vs=[v,u]/\VR Γ μ H v d/\VR Γ μ H u e:=by
 cases h with|cons r t=>cases t with|cons r' t=>cases t;exact⟨_,_,rfl,r,r'⟩
theorem Ih{a:Expr}{f:Bb}{p pos:Pos}(hg:Gl X "range")(hm:X.mg "range"=none)(ha:JA X [a] f)(hs:starEach [a] X.env=[(false,eval a X.env)]:=by rfl):JI X tg (.Call (.Name "range" p) [a] [] pos) (Et f) :=
 ⟨PI.imp (gR hg hm ha.pa hs) fun σ H Q h=>by
  obtain⟨Γ,μ,env,S,ds,w,S',hK,R,e,q⟩:=h
  obtain⟨⟨d,S1⟩,e1,e⟩:=bind_some e
  refine⟨Γ,μ,env,S,d,S1,hK,R,e1,fun v μ1 H1 x1 R1 r1=>?_⟩
  dsimp only at e
  split at e
  .rename_i j
   by_cases hj:r62 j
   .rw[if_pos hj] at e
    cases e
    obtain⟨v,rfl,r⟩:=r1.one
    cases r
    exact⟨j,rfl,hj.1,hj.2,q _ μ1 H1 x1 R1 (lq 0 _)⟩
   .rw[if_neg hj] at e;cases e
  .cases e⟩
end
end VS
end
section
namespace VS
open PySem PySem.Spec L2
section
variable{X:Cx}{tg:Expr}
def DX:List D->List D->List D
 |x::xs,y::ys=>.tup [x,y]::DX xs ys
 |_,_=>[]
theorem YG:∀{xs ys:List D} {i:Nat} {d:D},(DX xs ys)[i]?=some d->∃x y,xs[i]?=some x/\ys[i]?=some y/\d=.tup [x,y]
 |[],_,_,_,h=>by simp[DX] at h
 |_::_,[],_,_,h=>by simp[DX] at h
 |x::xs,y::ys,0,d,h=>by simp[DX] at h;exact⟨x,y,rfl,rfl,h.symm⟩
 |x::xs,y::ys,i+1,d,h=>by
  simp[DX] at h
  obtain⟨a,b,h1,h2,h3⟩:=YG h
  exact⟨a,b,by simpa using h1,by simpa using h2,h3⟩
theorem YF:∀(xs ys:List D),((DX xs ys).length=xs.length/\xs.length<=ys.length)∨((DX xs ys).length<xs.length/\(DX xs ys).length=ys.length)
 |[],_=>.inl ⟨rfl,Nat.zero_le _⟩
 |_::_,[]=>.inr ⟨by simp[DX],rfl⟩
 |x::xs,y::ys=>by
  rcases YF xs ys with ⟨h1,h2⟩|⟨h1,h2⟩
  .left;simp[DX];omega
  .right;simp[DX];omega
def Oi(a:Bb):KZ:=fun env S=>(a env S).bind fun p=>match p.1 with
 |[.tup xs,.tup ys]=>some ((DX xs ys,[]),p.2)
 |[x,.tup ys]=>(listOf p.2 x).bind fun xs=>some ((DX xs ys,idOf xs x),p.2)
 |[x,y]=>(listOf p.2 x).bind fun xs=>(listOf p.2 y).bind fun ys=>some ((DX xs ys,idOf xs x++idOf ys y),p.2)
 |_=>none
theorem LC{d:D}{ds:List D}{S S':Store}(h:listOf S d=some ds)(c:calm (idOf ds d) S'):listOf S' d=some ds:=by
 cases d with
 |ref i =>
  have c':S'[i]?=some (some ds):=c (i,ds) (List.mem_singleton.mpr rfl)
  show(S'[i]?).join=some ds
  rw[c'];rfl
 |_=>exact h
theorem Y9{Γ:Fr}{μ:Mu}{H:Hp}{L M:Bool}{a b:Addr}{xs ys:List D}{w:List (Nat×List D)}(hr:∀μ' H' σ' env' S',Ext μ H μ' H'->Rep Γ μ' σ' H' env' S'->calm w S'->∃us vs,H' a=some (HB L us)/\VRs Γ μ' H' us xs/\H' b=some (HB M vs)/\VRs Γ μ' H' vs ys) :
  Vq Γ μ H (Itz L M a b) (DX xs ys) w:=by
 refine⟨fun i d μ' H' σ' env' S' hi x R c=>?_,fun μ' H' σ' env' S' x R c=>?_⟩
 .obtain⟨us,vs,h1,h2,h3,h4⟩:=hr μ' H' σ' env' S' x R c
  obtain⟨p,q,e1,e2,e3⟩:=YG hi
  obtain⟨u,f1,f2⟩:=h2.get e1
  obtain⟨v,g1,g2⟩:=h4.get e2
  refine⟨⟨us,vs,u,v,h1,h3,f1,g1⟩,fun z H'' yl=>?_⟩
  obtain⟨t,u',v',ht,rfl,rfl,k1,k2⟩:=yl
  have k1':=k1 us h1
  have k2':=k2 vs h3
  rw[f1] at k1';cases k1'
  rw[g1] at k2';cases k2'
  subst e3
  have sm:=Cw ht (.tup [u,v])
  obtain⟨_,x2⟩:=R.grow sm
  exact⟨sm,.tup CQ (.cons (f2.ext x2) (.cons (g2.ext x2) .nil))⟩
 .obtain⟨us,vs,h1,h2,h3,h4⟩:=hr μ' H' σ' env' S' x R c
  refine⟨us,vs,h1,h3,?_⟩
  rw[h2.length,h4.length]
  rcases YF xs ys with z|z
  .exact .inl z.1
  .exact .inr z
theorem PI.or{e:Expr}{t u:TI}(h:PI X tg e t)(k:PI X tg e u):PI X tg e (fun σ H R=>t σ H R∨u σ H R):=fun pins s σ H R I q=>q.elim (fun z=>h pins s σ H R I z) fun z=>k pins s σ H R I z
theorem Y8{a b:Expr}{f:Bb}{p pos:Pos}{elts:List Expr}{x1:Nat}{tpos:Pos}(hg:Gl X "zip")(hm:X.mg "zip"=none)(ha:JA X [a,b] f)(hs:starEach [a,b] X.env=[(false,eval a X.env),(false,eval b X.env)]:=by rfl)(hs2:starEach [b] X.env=[(false,eval b X.env)]:=by rfl) :
  JI X (.Tuple elts x1 tpos) (.Call (.Name "zip" p) [a,b] [] pos) (Oi f) :=
 ⟨PI.imp (PI.or (Y0 true true (.inl rfl) hg hm ha.pa hs hs2) (PI.or (Y0 false false (.inl rfl) hg hm ha.pa hs hs2) (Y0 true false (.inr ⟨rfl,rfl⟩) hg hm ha.pa hs hs2))) fun σ H Q h=>by
  obtain⟨Γ,μ,env,S,ds,w,S',hK,R,e,q⟩:=h
  obtain⟨⟨d,S1⟩,e1,e⟩:=bind_some e
  dsimp only at e
  split at e
  .rename_i xs ys
   cases e
   refine .inr (.inl ⟨Γ,μ,env,S,_,_,hK,R,e1,fun v μ1 H1 x1 R1 r1=>?_⟩)
   obtain⟨u,v,rfl,r,r'⟩:=r1.two
   cases r with
   |@tup a us _ ha ra =>
    cases r' with
    |@tup b vs _ hb rb =>
     exact⟨a,b,us,vs,rfl,ha,hb,q _ μ1 H1 x1 R1 (Y9 fun μ' H' σ' env' S' x' R' c=>⟨us,vs,x'.tups _ _ ha,ra.ext x',x'.tups _ _ hb,rb.ext x'⟩)⟩
  .rename_i x ys _
   obtain⟨xs,e2,e⟩:=bind_some e
   cases e
   refine .inr (.inr ⟨Γ,μ,env,S,_,_,hK,R,e1,fun v μ1 H1 x1 R1 r1=>?_⟩)
   obtain⟨u,v,rfl,r,r'⟩:=r1.two
   obtain⟨a,us,rfl,ha,ra⟩:=VR.list R1 r e2
   cases r' with
   |@tup b vs _ hb rb =>
    refine⟨a,b,us,vs,rfl,ha,hb,q _ μ1 H1 x1 R1 (Y9 fun μ' H' σ' env' S' x' R' c=>?_)⟩
    obtain⟨a',us',e4,ha',ra'⟩:=VR.list R' (r.ext x') (LC e2 c)
    cases e4
    exact⟨us',vs,ha',ra',x'.tups _ _ hb,rb.ext x'⟩
  .rename_i x y _ _
   obtain⟨xs,e2,e⟩:=bind_some e
   obtain⟨ys,e3,e⟩:=bind_some e
   cases e
   refine .inl ⟨Γ,μ,env,S,_,_,hK,R,e1,fun v μ1 H1 x1 R1 r1=>?_⟩
   obtain⟨u,v,rfl,r,r'⟩:=r1.two
   obtain⟨a,us,rfl,ha,ra⟩:=VR.list R1 r e2
   obtain⟨b,vs,rfl,hb,rb⟩:=VR.list R1 r' e3
   refine⟨a,b,us,vs,rfl,ha,hb,q _ μ1 H1 x1 R1 (Y9 fun μ' H' σ' env' S' x' R' c=>?_)⟩
   obtain⟨a',us',e4,ha',ra'⟩:=VR.list R' (r.ext x') (LC e2 fun p hp=>c p (List.mem_append_left _ hp))
   obtain⟨b',vs',e5,hb',rb'⟩:=VR.list R' (r'.ext x') (LC e3 fun p hp=>c p (List.mem_append_right _ hp))
   cases e4
   cases e5
   exact⟨us',vs',ha',ra',hb',rb'⟩
  .cases e⟩
def Kv(n:Nat):List D->List D
 |[]=>[]
 |x::xs=>.tup [.int n,x]::Kv (n+1) xs
theorem Ws:∀{xs:List D} {n i:Nat} {d:D},(Kv n xs)[i]?=some d->∃x,xs[i]?=some x/\d=.tup [.int ((n+i:Nat):Int),x]
 |[],_,_,_,h=>by simp[Kv] at h
 |x::xs,n,0,d,h=>by simp[Kv] at h;exact⟨x,rfl,h.symm⟩
 |x::xs,n,i+1,d,h=>by
  simp[Kv] at h
  obtain⟨y,h1,h2⟩:=Ws h
  exact⟨y,by simpa using h1,by rw[h2,show n+1+i=n+(i+1) by omega]⟩
theorem Wr:∀(xs:List D)(n:Nat),(Kv n xs).length=xs.length
 |[],_=>rfl
 |_::xs,n=>by rw[Kv,List.length_cons,List.length_cons,Wr xs]
def YB(a:Bb):KZ:=fun env S=>(a env S).bind fun p=>match p.1 with
 |[x]=>(listOf p.2 x).bind fun xs=>some ((Kv 0 xs,idOf xs x),p.2)
 |_=>none
theorem qJ{a:Expr}{f:Bb}{p pos:Pos}{elts:List Expr}{x1:Nat}{tpos:Pos}(hg:Gl X "enumerate")(hm:X.mg "enumerate"=none)(ha:JA X [a] f)(hs:starEach [a] X.env=[(false,eval a X.env)]:=by rfl) :
  JI X (.Tuple elts x1 tpos) (.Call (.Name "enumerate" p) [a] [] pos) (YB f) :=
 ⟨PI.imp (pC hg hm ha.pa hs) fun σ H Q h=>by
  obtain⟨Γ,μ,env,S,ds,w,S',hK,R,e,q⟩:=h
  obtain⟨⟨d,S1⟩,e1,e⟩:=bind_some e
  dsimp only at e
  split at e
  .rename_i x
   obtain⟨xs,e2,e⟩:=bind_some e
   cases e
   refine⟨Γ,μ,env,S,_,_,hK,R,e1,fun v μ1 H1 x1 R1 r1=>?_⟩
   obtain⟨u,rfl,r⟩:=r1.one
   obtain⟨a,us,rfl,ha,ra⟩:=VR.list R1 r e2
   refine⟨a,rfl,⟨us,SqL.of ha⟩,q _ μ1 H1 x1 R1 ⟨fun i d μ' H' σ' env' S' hi x' R' c=>?_,fun μ' H' σ' env' S' x' R' c=>?_⟩⟩
   .obtain⟨a',us',e4,ha',ra'⟩:=VR.list R' (r.ext x') (LC e2 c)
    cases e4
    obtain⟨y,f1,rfl⟩:=Ws hi
    obtain⟨z,g1,g2⟩:=ra'.get f1
    refine⟨⟨us',z,SqL.of ha',g1⟩,fun y' H'' yl=>?_⟩
    obtain⟨t,z',ht,rfl,rfl,k⟩:=yl
    have k':=k us' (SqL.of ha')
    rw[g1] at k';cases k'
    have sm:=Cw ht (.tup [.int i,z])
    obtain⟨_,x2⟩:=R'.grow sm
    refine⟨sm,.tup CQ (.cons ?_ (.cons (g2.ext x2) .nil))⟩
    rw[Nat.zero_add]
    exact .int _
   .obtain⟨a',us',e4,ha',ra'⟩:=VR.list R' (r.ext x') (LC e2 c)
    cases e4
    exact⟨us',SqL.of ha',by rw[ra'.length,Wr];exact Nat.le_refl _⟩
  .cases e⟩
def Qy(K:PySem.W.Frag)(r:V->List V->Hp->VK->Prop)(g:Store->D->List D->Option (D×Store)):Prop:=∀(Γ:Fr)(μ:Mu)(σ:St)(H:Hp)(env:Env)(S:Store)(x:V)(xs:List V)(dx:D)(ds:List D)(d:D)(S':Store),Γ.K=K->Rep Γ μ σ H env S->VR Γ μ H x dx->VRs Γ μ H xs ds->g S dx ds=some (d,S') ->
 ∀Q:VK,(∀v μ' H',Ext μ H μ' H'->Rep Γ μ' σ H' env S'->VR Γ μ' H' v d->Q v H')->r x xs H Q
def Ga(g:Store->D->List D->Option (D×Store))(o:Az)(a:Bb):Az:=fun env S=>(o env S).bind fun p=>if (listOf p.2 p.1).isSome then (a env p.2).bind fun q=>g q.2 p.1 q.1 else none
theorem nZ{K:PySem.W.Frag}{r:V->List V->Hp->VK->Prop}{g:Store->D->List D->Option (D×Store)}{o:Az}{a:Bb}(hs:Qy K r g){σ:St}{H:Hp}{Q:VK}(h:wpE K (Ga g o a) σ H Q):tBM K "list" r (wpE K o) (wpA K a) σ H Q:=by
 obtain⟨Γ,μ,env,S,d,S',hK,R,e,q⟩:=h
 obtain⟨⟨x,S1⟩,e1,e⟩:=bind_some e
 refine⟨Γ,μ,env,S,x,S1,hK,R,e1,fun v1 μ1 H1 x1 R1 r1=>?_⟩
 dsimp only at e
 by_cases hl:(listOf S1 x).isSome=true
 .rw[if_pos hl] at e
  obtain⟨⟨ds,S2⟩,e2,e⟩:=bind_some e
  obtain⟨xs,hx⟩:=Option.isSome_iff_exists.mp hl
  obtain⟨b,us,rfl,hb,rb⟩:=VR.list R1 r1 hx
  refine⟨.inl ⟨rfl,us,SqL.of hb⟩,Γ,μ1,env,S1,ds,S2,hK,R1,e2,fun vs μ2 H2 x2 R2 r2=>?_⟩
  exact hs Γ μ2 σ H2 env S2 _ vs x ds d S' hK R2 (r1.ext x2) r2 e Q fun v μ' H' x' R' rv=>q v μ' H' (x1.trans (x2.trans x')) R' rv
 .rw[if_neg hl] at e;cases e
theorem jH{K:PySem.W.Frag}{r:V->List V->Hp->VK->Prop}{g:Store->D->List D->Option (D×Store)}{o:Az}(hs:Qy K r g){σ:St}{H:Hp}{Q:VK}(h:wpE K (Ga g o Ae) σ H Q):sJ K "list" r (wpE K o) σ H Q:=by
 obtain⟨Γ,μ,env,S,d,S',hK,R,e,q⟩:=h
 obtain⟨⟨x,S1⟩,e1,e⟩:=bind_some e
 refine⟨Γ,μ,env,S,x,S1,hK,R,e1,fun v1 μ1 H1 x1 R1 r1=>?_⟩
 dsimp only at e
 by_cases hl:(listOf S1 x).isSome=true
 .rw[if_pos hl] at e
  obtain⟨⟨ds,S2⟩,e2,e⟩:=bind_some e
  cases e2
  obtain⟨xs,hx⟩:=Option.isSome_iff_exists.mp hl
  obtain⟨b,us,rfl,hb,rb⟩:=VR.list R1 r1 hx
  refine⟨.inl ⟨rfl,us,SqL.of hb⟩,?_⟩
  exact hs Γ μ1 σ H1 env _ _ [] x [] d S' hK R1 r1 .nil e Q fun v μ' H' x' R' rv=>q v μ' H' (x1.trans x') R' rv
 .rw[if_neg hl] at e;cases e
variable{o e:Expr}{es:List Expr}{fo:Az}{fa:Bb}{name:Str}{apos cpos:Pos}{id:String}{r:V->List V->Hp->VK->Prop}{g:Store->D->List D->Option (D×Store)}
theorem lW(pa:PlainAttrs "list")(slot:Slot "list" name id)(hty:typeOf (.builtin id)=pure (.type "method_descriptor"))(hm:MtR X id r)(hsm:Qy X.K r g)(ho:JE X o fo)
  (hbase:attributeBase o name X.env (eval o X.env)=eval o X.env:=by rfl) (hline:(apos.endLine==cpos.line)=true:=by rfl):JE X (.Call (.Attribute o name apos) [] [] cpos) (Ga g fo Ae) :=
 ⟨PE.imp (uZ pa slot hty hm ho.pe hbase hline) fun _ _ _ h=>jH hsm h⟩
theorem J6(pa:PlainAttrs "list")(slot:Slot "list" name id)(hty:typeOf (.builtin id)=pure (.type "method_descriptor"))(hm:MtR X id r)(hsm:Qy X.K r g)(ho:JE X o fo)(ha:JA X (e::es) fa)
  (hbase:attributeBase o name X.env (eval o X.env)=eval o X.env:=by rfl)
  (hfew:((backTo cpos (starEach (e::es) X.env)).all (fun x=>!x.1)&&(backToKw cpos (keywordEach [] X.env)).all (fun x=>x.1.isSome)
   && decide ((e::es).length+([]:List Keyword).length+(if ([]:List Keyword).isEmpty then 0 else 1)<30))=true:=by rfl)
  (hline:(apos.endLine==cpos.line)=true:=by rfl) (hs:starEach (e::es) X.env=(false,eval e X.env)::starEach es X.env:=by rfl) (hplain:(backTo cpos (starEach es X.env)).any (·.1)=false:=by rfl) :
  JE X (.Call (.Attribute o name apos) (e::es) [] cpos) (Ga g fo fa) :=
 ⟨PE.imp (wz pa slot hty hm ho.pe ha.pa hbase hfew hline hs hplain) fun _ _ _ h=>nZ hsm h⟩
theorem VR.Tg{Γ:Fr}{μ:Mu}{σ:St}{H:Hp}{env:Env}{S:Store}{v:V}{i:Nat}{ds:List D}(R:Rep Γ μ σ H env S)(r:VR Γ μ H v (.ref i))(h:S[i]?=some (some ds)):∃a xs,v=.ref a/\μ[i]?=some (some a)/\H a=some (.lst xs)/\VRs Γ μ H xs ds:=by
 cases r with
 |ref hi f =>
  obtain⟨a,xs,h1,h2,h3⟩:=R.sto i ds h
  exact⟨a,xs,f a h1,h1,h2,h3⟩
def Gd(S:Store):D->List D->Option (D×Store)
 |.ref i,[d]=>match S[i]? with
  |some (some ds)=>if ds.length<1000000 then some (.non,S.set i (some (ds++[d]))) else none
  |_=>none
 |_,_=>none
theorem Ie{K:PySem.W.Frag}:Qy K aZ Gd:=by
 intro Γ μ σ H env S x xs dx ds d S' hK R rx rs e Q q
 unfold Gd at e
 split at e
 .rename_i i d1
  split at e
  .rename_i es he
   by_cases hl:es.length<1000000
   .rw[if_pos hl] at e
    cases e
    obtain⟨a,us,rfl,h1,h2,h3⟩:=VR.Tg R rx he
    obtain⟨y,rfl,ry⟩:=rs.one
    obtain⟨R2,x2⟩:=R.put h1 (h3.append (.cons ry .nil))
    exact⟨a,us,y,rfl,rfl,h2,by rw[h3.length];exact big (Nat.le_of_lt hl),q _ μ _ x2 R2 .non⟩
   .rw[if_neg hl] at e;cases e
  .cases e
 .cases e
def SQ(S:Store):D->List D->Option (D×Store)
 |.ref i,[y]=>match S[i]?,listOf S y with
  |some (some ds),some es=>if ds.length+es.length<=1000000 then some (.non,S.set i (some (ds++es))) else none
  |_,_=>none
 |_,_=>none
theorem fY{K:PySem.W.Frag}:Qy K aY SQ:=by
 intro Γ μ σ H env S x xs dx ds d S' hK R rx rs e Q q
 unfold SQ at e
 split at e
 .rename_i i y
  split at e
  .rename_i es gs he hg
   by_cases hl:es.length+gs.length<=1000000
   .rw[if_pos hl] at e
    cases e
    obtain⟨a,us,rfl,h1,h2,h3⟩:=VR.Tg R rx he
    obtain⟨y,rfl,ry⟩:=rs.one
    obtain⟨b,vs,rfl,hb,rb⟩:=VR.list R ry hg
    obtain⟨R2,x2⟩:=R.put h1 (h3.append rb)
    exact⟨a,b,us,vs,rfl,rfl,h2,hb,by rw[h3.length,rb.length];exact Nat.le_of_lt (big hl),q _ μ _ x2 R2 .non⟩
   .rw[if_neg hl] at e;cases e
  .cases e
 .cases e
def zV(S:Store):D->List D->Option (D×Store)
 |.ref i,[]=>match S[i]? with
  |some (some _)=>some (.non,S.set i (some []))
  |_=>none
 |_,_=>none
def Nu(S:Store):D->List D->Option (D×Store)
 |.ref i,[.int k]=>match S[i]? with
  |some (some ds)=>if -(2^63)<=k/\k<2^63 then (PySem.seqIndex? k ds.length).bind fun j=>(ds[j]?).bind fun d=>some (d,S.set i (some (ds.eraseIdx j))) else none
  |_=>none
 |_,_=>none
theorem jm{K:PySem.W.Frag}:Qy K dz Nu:=by
 intro Γ μ σ H env S x xs dx ds d S' hK R rx rs e Q q
 unfold Nu at e
 split at e
 .rename_i i k
  split at e
  .rename_i es he
   by_cases hl:-(2^63)<=k/\k<2^63
   .rw[if_pos hl] at e
    obtain⟨j,e2,e⟩:=bind_some e
    obtain⟨d',e3,e⟩:=bind_some e
    cases e
    obtain⟨a,us,rfl,h1,h2,h3⟩:=VR.Tg R rx he
    obtain⟨y,rfl,ry⟩:=rs.one
    cases ry
    obtain⟨u,f1,f2⟩:=h3.get e3
    obtain⟨R2,x2⟩:=R.put h1 (h3.eraseIdx j)
    exact⟨a,us,k,j,u,rfl,rfl,h2,hl.1,hl.2,by rw[h3.length];exact e2,f1,q _ μ _ x2 R2 (f2.ext x2)⟩
   .rw[if_neg hl] at e;cases e
  .cases e
 .cases e
def j8(S:Store):D->List D->Option (D×Store)
 |.ref i,[]=>match S[i]? with
  |some (some ds)=>(ds[ds.length-1]?).bind fun d=>some (d,S.set i (some ds.dropLast))
  |_=>none
 |_,_=>none
theorem VRs.dropLast{Γ:Fr}{μ:Mu}{H:Hp}{xs:List V}{ds:List D}(h:VRs Γ μ H xs ds):VRs Γ μ H xs.dropLast ds.dropLast:=by
 rw[List.dropLast_eq_take,List.dropLast_eq_take,h.length]
 exact h.take _
theorem u6{K:PySem.W.Frag}:Qy K su j8:=by
 intro Γ μ σ H env S x xs dx ds d S' hK R rx rs e Q q
 unfold j8 at e
 split at e
 .rename_i i
  split at e
  .rename_i es he
   obtain⟨d',e3,e⟩:=bind_some e
   cases e
   obtain⟨a,us,rfl,h1,h2,h3⟩:=VR.Tg R rx he
   cases rs
   obtain⟨u,f1,f2⟩:=h3.get e3
   obtain⟨R2,x2⟩:=R.put h1 h3.dropLast
   exact⟨a,us,u,rfl,rfl,h2,by rw[h3.length];exact f1,q _ μ _ x2 R2 (f2.ext x2)⟩
  .cases e
 .cases e
def Iu(v o i:Az):Ay:=fun env S=>(v env S).bind fun p=>(o env p.2).bind fun q=>(i env q.2).bind fun r=>match q.1,r.1 with
 |.ref j,.int k=>(match r.2[j]? with
  |some (some ds)=>(ixN ds.length k).bind fun n=>some (.nx,env,r.2.set j (some (ds.set n p.1)))
  |_=>none)
 |_,_=>none
theorem Kd{a i:Expr}{fv fi:Az}{pos tpos:Pos}(he:JE X a fv)(ho:JE X o fo)(hi:JE X i fi)
  (ha:∀v,assign (.Subscript o i tpos) X.env v=(do
   let ov ←holding [v] (eval o X.env)
   let iv ←holding [v,ov] (eval i X.env)
   standAt tpos
   holding [v,ov,iv] (setItem ov iv v)
   release [v,ov,iv] []):=by intro _;rfl)
  (hs:swapsWithSole [.Subscript o i tpos] a pos.line X.env=pure false:=by rfl) (hw:swappedStores [.Subscript o i tpos] a X.env=pure none:=by rfl)
  (h1:(assignEach [.Subscript o i tpos] X.env).map (·.2)=[assign (.Subscript o i tpos) X.env]:=by rfl):JS X (.Assign [.Subscript o i tpos] a pos) (Iu fv fo fi) :=
 ⟨PS.imp (eE he.pe (uV ho.pe hi.pe set_list ha) hs hw h1) fun E σ H h=>by
  obtain⟨Γ,μ,env,S,fl,env',S',hK,R,e,q⟩:=h
  obtain⟨⟨x,S1⟩,e1,e⟩:=bind_some e
  obtain⟨⟨y,S2⟩,e2,e⟩:=bind_some e
  obtain⟨⟨z,S3⟩,e3,e⟩:=bind_some e
  refine⟨Γ,μ,env,S,x,S1,hK,R,e1,fun v1 μ1 H1 x1 R1 r1=>?_⟩
  refine⟨Γ,μ1,env,S1,y,S2,hK,R1,e2,fun v2 μ2 H2 x2 R2 r2=>?_⟩
  refine⟨Γ,μ2,env,S2,z,S3,hK,R2,e3,fun v3 μ3 H3 x3 R3 r3=>?_⟩
  dsimp only at e
  split at e
  .rename_i j k
   split at e
   .rename_i ds hd
    obtain⟨n,e4,e⟩:=bind_some e
    cases e
    obtain⟨b,us,rfl,g1,g2,g3⟩:=VR.Tg R3 (r2.ext x3) hd
    cases r3
    have r1':=r1.ext (x2.trans x3)
    obtain⟨R4,x4⟩:=R3.put g1 (g3.set r1' n)
    exact⟨b,us,_,n,rfl,rfl,g2,by rw[g3.length];exact e4,q μ3 σ _ (x1.trans (x2.trans (x3.trans x4))) R4⟩
   .cases e
  .cases e⟩
end
end VS
end
section
namespace VS
open PySem PySem.Spec L2
mutual
def BZ:D->Bool
 |.ref _=>false
 |.tup ds=>Aq ds
 |.lst _ ds=>Aq ds
 |_=>true
def Aq:List D->Bool
 |[]=>true
 |d::r=>BZ d&&Aq r
end
mutual
def Dk:D->Bool
 |.ref _=>false
 |.lst _ _=>false
 |.scr _=>false
 |.emp=>false
 |.tup ds=>Eo ds
 |_=>true
def Eo:List D->Bool
 |[]=>true
 |d::r=>Dk d&&Eo r
end
mutual
def newD:D->Bool
 |.ref _=>false
 |.lst m ds=>m&&newL ds
 |.scr _=>false
 |.emp=>false
 |.tup ds=>newL ds
 |_=>true
def newL:List D->Bool
 |[]=>true
 |d::r=>newD d&&newL r
end
mutual
def den(k:Nat)(S:Store):D->Option D
 |.tup ds=>(Ck k S ds).map .tup
 |.lst m ds=>(Ck k S ds).map (.lst m)
 |.ref i=>if i<k then none else match S[i]? with|some (some ds)=>if Aq ds=true then some (.lst true ds) else none|_=>none
 |.non=>some .non
 |.bl b=>some (.bl b)
 |.int i=>some (.int i)
 |.str x=>some (.str x)
 |.ty n=>some (.ty n)
 |.scr ns=>some (.scr ns)
 |.emp=>some .emp
def Ck(k:Nat)(S:Store):List D->Option (List D)
 |[]=>some []
 |d::r=>(den k S d).bind fun x=>(Ck k S r).bind fun xs=>some (x::xs)
end
mutual
def age:D->D
 |.tup ds=>.tup (Bg ds)
 |.lst _ ds=>.lst false (Bg ds)
 |.ref i=>.ref i
 |.non=>.non
 |.bl b=>.bl b
 |.int i=>.int i
 |.str x=>.str x
 |.ty n=>.ty n
 |.scr ns=>.scr ns
 |.emp=>.emp
def Bg:List D->List D
 |[]=>[]
 |d::r=>age d::Bg r
end
mutual
theorem Jb:∀{d:D},Dk d=true->BZ d=true
 |.ref _,h=>by simp[Dk] at h
 |.lst _ _,h=>by simp[Dk] at h
 |.scr _,h=>by simp[Dk] at h
 |.emp,h=>by simp[Dk] at h
 |.tup ds,h=>by rw[Dk] at h;rw[BZ];exact Di h
 |.non,_=>rfl
 |.bl _,_=>rfl
 |.int _,_=>rfl
 |.str _,_=>rfl
 |.ty _,_=>rfl
theorem Di:∀{ds:List D},Eo ds=true->Aq ds=true
 |[],_=>rfl
 |d::r,h=>by
  rw[Eo,Bool.and_eq_true] at h
  rw[Aq,Jb h.1,Di h.2];rfl
end
mutual
theorem U7:∀{d:D},Dk d=true->newD d=true
 |.ref _,h=>by simp[Dk] at h
 |.lst _ _,h=>by simp[Dk] at h
 |.scr _,h=>by simp[Dk] at h
 |.emp,h=>by simp[Dk] at h
 |.tup ds,h=>by rw[Dk] at h;rw[newD];exact Ot h
 |.non,_=>rfl
 |.bl _,_=>rfl
 |.int _,_=>rfl
 |.str _,_=>rfl
 |.ty _,_=>rfl
theorem Ot:∀{ds:List D},Eo ds=true->newL ds=true
 |[],_=>rfl
 |d::r,h=>by
  rw[Eo,Bool.and_eq_true] at h
  rw[newL,U7 h.1,Ot h.2];rfl
end
mutual
theorem Lk(k:Nat)(S:Store):∀{d:D},BZ d=true->den k S d=some d
 |.ref _,h=>by simp[BZ] at h
 |.lst m ds,h=>by rw[BZ] at h;rw[den,Cz k S h];rfl
 |.tup ds,h=>by rw[BZ] at h;rw[den,Cz k S h];rfl
 |.non,_=>by rw[den]
 |.bl _,_=>by rw[den]
 |.int _,_=>by rw[den]
 |.str _,_=>by rw[den]
 |.ty _,_=>by rw[den]
 |.scr _,_=>by rw[den]
 |.emp,_=>by rw[den]
theorem Cz(k:Nat)(S:Store):∀{ds:List D},Aq ds=true->Ck k S ds=some ds
 |[],_=>by rw[Ck]
 |d::r,h=>by
  rw[Aq,Bool.and_eq_true] at h
  rw[Ck,Lk k S h.1,Cz k S h.2];rfl
end
mutual
theorem Qa:∀{d:D},Dk d=true->age d=d
 |.ref _,h=>by simp[Dk] at h
 |.lst _ _,h=>by simp[Dk] at h
 |.scr _,h=>by simp[Dk] at h
 |.emp,h=>by simp[Dk] at h
 |.tup ds,h=>by rw[Dk] at h;rw[age,Jd h]
 |.non,_=>by rw[age]
 |.bl _,_=>by rw[age]
 |.int _,_=>by rw[age]
 |.str _,_=>by rw[age]
 |.ty _,_=>by rw[age]
theorem Jd:∀{ds:List D},Eo ds=true->Bg ds=ds
 |[],_=>by rw[Bg]
 |d::r,h=>by
  rw[Eo,Bool.and_eq_true] at h
  rw[Bg,Qa h.1,Jd h.2]
end
section
variable{Γ Γ':Fr}{μ μ':Mu}{H:Hp}
mutual
theorem VR.age(hK:Γ'.K=Γ.K)(hN:∀a,¬DK μ a->Γ.N a∨Γ.H0 a=none->Γ'.N a)(hl:∀a o,H a=some o->¬DK μ a->¬DK μ' a):∀{v:V} {d:D},BZ d=true->VR Γ μ H v d->VR Γ' μ' H v (VS.age d)
 |_,_,_,.non=>by rw[VS.age];exact .non
 |_,_,_,.bl b=>by rw[VS.age];exact .bl b
 |_,_,_,.int i=>by rw[VS.age];exact .int i
 |_,_,_,.str x=>by rw[VS.age];exact .str x
 |_,_,_,.ty n=>by rw[VS.age];exact .ty n
 |_,_,h,.tup hb t=>by rw[BZ] at h;rw[VS.age];exact .tup hb (VRs.age hK hN hl h t)
 |_,_,h,.lst o n hb t=>by rw[BZ] at h;rw[VS.age];exact .lst ⟨fun z=>(by cases z),.inl (hN _ n o.2)⟩ (hl _ _ hb n) hb (VRs.age hK hN hl h t)
 |_,_,h,.ref _ _=>by simp[BZ] at h
 |_,_,_,.scrK k=>by rw[VS.age];exact .scrK (by rw[hK];exact k)
 |_,_,_,.scrR n hb=>by rw[VS.age];exact .scrR (hl _ _ hb n) hb
 |_,_,_,.emp n hb=>by rw[VS.age];exact .emp (hl _ _ hb n) hb
theorem VRs.age(hK:Γ'.K=Γ.K)(hN:∀a,¬DK μ a->Γ.N a∨Γ.H0 a=none->Γ'.N a)(hl:∀a o,H a=some o->¬DK μ a->¬DK μ' a):∀{v:List V} {d:List D},Aq d=true->VRs Γ μ H v d->VRs Γ' μ' H v (Bg d)
 |_,_,_,.nil=>by rw[Bg];exact .nil
 |_,_,h,.cons r t=>by
  rw[Aq,Bool.and_eq_true] at h
  rw[Bg];exact .cons (VR.age hK hN hl h.1 r) (VRs.age hK hN hl h.2 t)
end
mutual
theorem VR.pure(hK:Γ'.K=Γ.K)(hN:∀m a xs,¬DK μ a->Γ.Ok m a->H a=some (.lst xs)->Γ'.Ok m a/\¬DK μ' a)(ho:∀a o,H a=some o->¬DK μ a->(∀xs,o≠.lst xs)->¬DK μ' a):∀{v:V} {d:D},BZ d=true->VR Γ μ H v d->VR Γ' μ' H v d
 |_,_,_,.non=>.non
 |_,_,_,.bl b=>.bl b
 |_,_,_,.int i=>.int i
 |_,_,_,.str x=>.str x
 |_,_,_,.ty n=>.ty n
 |_,_,h,.tup hb t=>by rw[BZ] at h;exact .tup hb (VRs.pure hK hN ho h t)
 |_,_,h,.lst o n hb t=>by rw[BZ] at h;exact .lst (hN _ _ _ n o hb).1 (hN _ _ _ n o hb).2 hb (VRs.pure hK hN ho h t)
 |_,_,h,.ref _ _=>by simp[BZ] at h
 |_,_,_,.scrK k=>.scrK (by rw[hK];exact k)
 |_,_,_,.scrR n hb=>.scrR (ho _ _ hb n fun _ z=>by cases z) hb
 |_,_,_,.emp n hb=>.emp (ho _ _ hb n fun _ z=>by cases z) hb
theorem VRs.pure(hK:Γ'.K=Γ.K)(hN:∀m a xs,¬DK μ a->Γ.Ok m a->H a=some (.lst xs)->Γ'.Ok m a/\¬DK μ' a)(ho:∀a o,H a=some o->¬DK μ a->(∀xs,o≠.lst xs)->¬DK μ' a):∀{v:List V} {d:List D},Aq d=true->VRs Γ μ H v d->VRs Γ' μ' H v d
 |_,_,_,.nil=>.nil
 |_,_,h,.cons r t=>by
  rw[Aq,Bool.and_eq_true] at h
  exact .cons (VR.pure hK hN ho h.1 r) (VRs.pure hK hN ho h.2 t)
end
mutual
theorem VR.den{σ:St}{env:Env}{S S0:Store}{k:Nat}(R:Rep Γ μ σ H env S)(hK:Γ'.K=Γ.K)(h0:∀(i:Nat)(ds:List D)(a:Addr),k<=i->S0[i]?=some (some ds)->S[i]?=some (some ds)/\(μ[i]?=some (some a)->¬DK μ' a/\Γ'.Ok true a))
  (hN:∀m a,¬DK μ a->Γ.Ok m a->Γ'.Ok m a) (hl:∀a o,H a=some o->¬DK μ a->¬DK μ' a):∀{v:V} {d e:D},VR Γ μ H v d->VS.den k S0 d=some e->VR Γ' μ' H v e
 |_,_,_,.non,h=>by rw[VS.den] at h;cases h;exact .non
 |_,_,_,.bl b,h=>by rw[VS.den] at h;cases h;exact .bl b
 |_,_,_,.int i,h=>by rw[VS.den] at h;cases h;exact .int i
 |_,_,_,.str x,h=>by rw[VS.den] at h;cases h;exact .str x
 |_,_,_,.ty n,h=>by rw[VS.den] at h;cases h;exact .ty n
 |_,_,_,.tup hb t,h=>by
  rw[VS.den] at h
  obtain⟨es,e1,e2⟩:=map_some h
  subst e2
  exact .tup hb (VRs.den R hK h0 hN hl t e1)
 |_,_,_,.lst o n hb t,h=>by
  rw[VS.den] at h
  obtain⟨es,e1,e2⟩:=map_some h
  subst e2
  exact .lst (hN _ _ n o) (hl _ _ hb n) hb (VRs.den R hK h0 hN hl t e1)
 |_,.ref i,_,.ref hi f,h=>by
  rw[VS.den] at h
  by_cases hk:i<k
  .rw[if_pos hk] at h;cases h
  .rw[if_neg hk] at h
   split at h
   .rename_i ds hd
    by_cases hp:Aq ds=true
    .rw[if_pos hp] at h
     cases h
     have hS:=(h0 i ds 0 (by omega) hd).1
     obtain⟨a,xs,h1,h2,h3⟩:=R.sto i ds hS
     have hv:=f a h1
     subst hv
     obtain⟨z1,z2⟩:=(h0 i ds a (by omega) hd).2 h1
     exact .lst z2 z1 h2 (VRs.pure hK (fun m b ys n o hb=>⟨hN m b n o,hl b _ hb n⟩) (fun b o hb n _=>hl b o hb n) hp h3)
    .rw[if_neg hp] at h;cases h
   .cases h
 |_,_,_,.scrK k,h=>by rw[VS.den] at h;cases h;exact .scrK (by rw[hK];exact k)
 |_,_,_,.scrR n hb,h=>by rw[VS.den] at h;cases h;exact .scrR (hl _ _ hb n) hb
 |_,_,_,.emp n hb,h=>by rw[VS.den] at h;cases h;exact .emp (hl _ _ hb n) hb
theorem VRs.den{σ:St}{env:Env}{S S0:Store}{k:Nat}(R:Rep Γ μ σ H env S)(hK:Γ'.K=Γ.K)(h0:∀(i:Nat)(ds:List D)(a:Addr),k<=i->S0[i]?=some (some ds)->S[i]?=some (some ds)/\(μ[i]?=some (some a)->¬DK μ' a/\Γ'.Ok true a))
  (hN:∀m a,¬DK μ a->Γ.Ok m a->Γ'.Ok m a) (hl:∀a o,H a=some o->¬DK μ a->¬DK μ' a):∀{v:List V} {d e:List D},VRs Γ μ H v d->VS.Ck k S0 d=some e->VRs Γ' μ' H v e
 |_,_,_,.nil,h=>by rw[Ck] at h;cases h;exact .nil
 |_,_,_,.cons r t,h=>by
  rw[Ck] at h
  obtain⟨x,e1,h⟩:=bind_some h
  obtain⟨xs,e2,h⟩:=bind_some h
  cases h
  exact .cons (VR.den R hK h0 hN hl r e1) (VRs.den R hK h0 hN hl t e2)
end
mutual
theorem VR.new(hN:∀a xs,¬DK μ a->Γ.Ok true a->H a=some (.lst xs)->Γ'.Ok true a/\¬DK μ' a):∀{v:V} {d:D},newD d=true->VR Γ μ H v d->VR Γ' μ' H v d
 |_,_,_,.non=>.non
 |_,_,_,.bl b=>.bl b
 |_,_,_,.int i=>.int i
 |_,_,_,.str x=>.str x
 |_,_,_,.ty n=>.ty n
 |_,_,h,.tup hb t=>by rw[newD] at h;exact .tup hb (VRs.new hN h t)
 |_,.lst m ds,h,.lst o n hb t=>by
  rw[newD,Bool.and_eq_true] at h
  obtain⟨rfl,h⟩:=h
  exact .lst (hN _ _ n o hb).1 (hN _ _ n o hb).2 hb (VRs.new hN h t)
 |_,_,h,.ref _ _=>by simp[newD] at h
 |_,_,h,.scrK _=>by simp[newD] at h
 |_,_,h,.scrR _ _=>by simp[newD] at h
 |_,_,h,.emp _ _=>by simp[newD] at h
theorem VRs.new(hN:∀a xs,¬DK μ a->Γ.Ok true a->H a=some (.lst xs)->Γ'.Ok true a/\¬DK μ' a):∀{v:List V} {d:List D},newL d=true->VRs Γ μ H v d->VRs Γ' μ' H v d
 |_,_,_,.nil=>.nil
 |_,_,h,.cons r t=>by
  rw[newL,Bool.and_eq_true] at h
  exact .cons (VR.new hN h.1 r) (VRs.new hN h.2 t)
end
mutual
theorem VR.flat:∀{v:V} {d:D},Dk d=true->VR Γ μ H v d->VR Γ' μ' H v d
 |_,_,_,.non=>.non
 |_,_,_,.bl b=>.bl b
 |_,_,_,.int i=>.int i
 |_,_,_,.str x=>.str x
 |_,_,_,.ty n=>.ty n
 |_,_,h,.tup hb t=>by rw[Dk] at h;exact .tup hb (VRs.flat h t)
 |_,_,h,.lst _ _ _ _=>by simp[Dk] at h
 |_,_,h,.ref _ _=>by simp[Dk] at h
 |_,_,h,.scrK _=>by simp[Dk] at h
 |_,_,h,.scrR _ _=>by simp[Dk] at h
 |_,_,h,.emp _ _=>by simp[Dk] at h
theorem VRs.flat:∀{v:List V} {d:List D},Eo d=true->VRs Γ μ H v d->VRs Γ' μ' H v d
 |_,_,_,.nil=>.nil
 |_,_,h,.cons r t=>by
  rw[Eo,Bool.and_eq_true] at h
  exact .cons (VR.flat h.1 r) (VRs.flat h.2 t)
end
mutual
theorem UG{k:Nat}{S:Store}:∀{d e:D},den k S d=some e->BZ e=true
 |.tup ds,e,h=>by
  rw[den] at h
  obtain⟨es,e1,e2⟩:=map_some h
  subst e2
  rw[BZ];exact Ou e1
 |.lst m ds,e,h=>by
  rw[den] at h
  obtain⟨es,e1,e2⟩:=map_some h
  subst e2
  rw[BZ];exact Ou e1
 |.ref i,e,h=>by
  rw[den] at h
  by_cases hk:i<k
  .rw[if_pos hk] at h;cases h
  .rw[if_neg hk] at h
   split at h
   .rename_i ds hd
    by_cases hp:Aq ds=true
    .rw[if_pos hp] at h;cases h;rw[BZ];exact hp
    .rw[if_neg hp] at h;cases h
   .cases h
 |.non,e,h=>by rw[den] at h;cases h;rfl
 |.bl _,e,h=>by rw[den] at h;cases h;rfl
 |.int _,e,h=>by rw[den] at h;cases h;rfl
 |.str _,e,h=>by rw[den] at h;cases h;rfl
 |.ty _,e,h=>by rw[den] at h;cases h;rfl
 |.scr _,e,h=>by rw[den] at h;cases h;rfl
 |.emp,e,h=>by rw[den] at h;cases h;rfl
theorem Ou{k:Nat}{S:Store}:∀{d e:List D},Ck k S d=some e->Aq e=true
 |[],e,h=>by rw[Ck] at h;cases h;rfl
 |d::r,e,h=>by
  rw[Ck] at h
  obtain⟨x,e1,h⟩:=bind_some h
  obtain⟨xs,e2,h⟩:=bind_some h
  cases h
  rw[Aq,UG e1,Ou e2];rfl
end
end
end VS
end
section
namespace VS
open PySem PySem.Spec L2
abbrev Cm:=List D->Option D
abbrev JN:=List Int->List D->Option (D×List Int)
def intsOf:List D->Option (List Int)
 |[]=>some []
 |.int i::r=>(intsOf r).map (i::·)
 |_=>none
theorem Hs:∀{ds:List D} {ns:List Int},intsOf ds=some ns->ds=ns.map D.int
 |[],_,h=>by cases h;rfl
 |.int i::r,ns,h=>by
  obtain⟨ms,e1,e2⟩:=map_some h
  subst e2
  rw[List.map_cons,Hs e1]
 |.non::_,_,h=>by cases h
 |.bl _::_,_,h=>by cases h
 |.str _::_,_,h=>by cases h
 |.ty _::_,_,h=>by cases h
 |.tup _::_,_,h=>by cases h
 |.lst _ _::_,_,h=>by cases h
 |.ref _::_,_,h=>by cases h
 |.scr _::_,_,h=>by cases h
 |.emp::_,_,h=>by cases h
@[simp] theorem Ip(ns:List Int):intsOf (ns.map D.int)=some ns:=by
 induction ns with
 |nil=>rfl
 |cons n r ih=>rw[List.map_cons,intsOf,ih];rfl
def FN(np n:Nat)(f:Ay):Cm:=fun ds=>if ds.length=np then (f (ds.map some++List.replicate (n-ds.length) none) []).bind fun p=>match p.1 with|.ret d=>den 0 p.2.2 d|.nx=>some .non|_=>none else none
def runM(np n:Nat)(f:Ay):JN:=fun ns ds=>if ds.length+1=np then (f (some (.ref 0)::(ds.map some++List.replicate (n-1-ds.length) none)) [some (ns.map D.int)]).bind fun p=>match p.2.2[0]? with
 |some (some cs)=>(intsOf cs).bind fun ms=>(match p.1 with|.ret d=>(den 1 p.2.2 d).map fun r=>(r,ms)|.nx=>some (.non,ms)|_=>none)
 |_=>none
 else none
def spP(K:PySem.W.Frag)(sem:Cm)(n:Nat):Sp:=fun vs H Q _=>∃(N:Addr->Prop)(ds:List D)(r:D),vs.length=n/\VRs ⟨K,H,N,[]⟩ [] H vs ds/\sem ds=some r/\∀v H',Same H H'->VR ⟨K,H,N,[]⟩ [] H' v r->Q v H'
def spM(K:PySem.W.Frag)(sem:JN)(n:Nat):Sp:=fun vs H Q _=>∃(N:Addr->Prop)(a:Addr)(us:List V)(ns:List Int)(ds:List D)(r:D)(ms:List Int),vs=.ref a::us/\vs.length=n/\H a=some (.lst (ns.map V.int))/\VRs ⟨K,H,N,[a]⟩ [some a] H us ds/\sem ns ds=some (r,ms) /\
 ∀v H',(∀b o,b≠a->H b=some o->H' b=some o)->H' a=some (.lst (ms.map V.int))->VR ⟨K,H,N,[a]⟩ [some a] H' v r->Q v H'
section
variable{P:Program}{w:World}{K:PySem.W.Frag}{mg:Str->Option Value}{base:Heap}
theorem WQ{N:List Str}{vs:List V}{ds:List D}{Γ:Fr}{μ:Mu}{H:Hp}(r:VRs Γ μ H vs ds){i:Nat}{d:D}{n:Nat}(h:(ds.map some++List.replicate n none:Env)[i]?=some (some d)):∃v,(vs.map some++List.replicate (N.length-vs.length) none:St)[i]?=some (some v)/\VR Γ μ H v d:=by
 have hi:i<ds.length:=by
  by_cases hi:i<ds.length
  .exact hi
  .rw[List.getElem?_append_right (by simpa using hi),List.getElem?_replicate] at h
   split at h<;>cases h
 rw[List.getElem?_append_left (by simpa using hi),List.getElem?_map] at h
 have h2:ds[i]?=some d:=by
  cases q:ds[i]? with
  |none=>rw[q] at h;cases h
  |some e=>rw[q] at h;cases h;rfl
 obtain⟨v,e1,e2⟩:=r.get h2
 refine⟨v,?_,e2⟩
 rw[List.getElem?_append_left (by rw[List.length_map,r.length];exact hi),List.getElem?_map,e1]
 rfl
theorem JV{a:Addr}:¬DK [] a:=fun z=>by simp[DK] at z
theorem O6{a b:Addr}:DK [some b] a↔a=b:=by simp[DK]
theorem fnP{x qual:Str}{st:Stmt}{f:Addr}{fd:FuncData}{N ps:List Str}{k:Nat}{fs:Ay}(F:Fun K x qual st f fd)(Sc:Bw N ps (Aj st))
  (hb:∀(cdv:Value)(A:Around)(outer:List PySem.Env)(s:Shared)(H:Hp)(E:XK),Fj k (A.deeper (PyProof.Rows.envOfC qual (Aj st) s.heap.objs.size f cdv))->JSs (Qu CX0 P w K mg base N qual (Aj st) f cdv A outer s H E).nox (Bq st) fs) :
  Cp P w K mg base CX0 (k+1) f fd ps (spP K (FN ps.length N.length fs) ps.length):=by
 refine F.ok Sc (fun vs H Q E h=>?_) (fun cdv A outer s H vs Q E hr h=>?_)
 .obtain⟨_,_,_,hl,_⟩:=h;exact hl
 obtain⟨Nn,ds,r,hl,rs,e,q⟩:=h
 refine⟨_,(hb cdv A outer s H E hr).ps,?_⟩
 have hdl:=rs.length
 unfold FN at e
 rw[if_pos (by omega)] at e
 obtain⟨⟨fl,env',S'⟩,e1,e⟩:=bind_some e
 have hpl:ps.length<=N.length:=by have:=congrArg List.length Sc.pre;rw[List.length_take] at this;omega
 refine⟨⟨K,H,Nn,[]⟩,[],_,[],fl,env',S',rfl,⟨fun i d h=>WQ rs h,?_,fun i ds h=>by simp at h,fun i a h=>by simp at h,fun i j a h=>by simp at h,rfl,Ext.refl _ _,fun i a _ h=>by simp at h⟩,e1,fun μ' σ' H' x' R'=>?_⟩
 .unfold L2.start
  rw[List.length_append,List.length_map,List.length_replicate,List.length_append,List.length_map,List.length_replicate,hdl]
 have sm:Same H H':=fun b o hb=>(x'.keep b o hb JV).1
 dsimp only at e
 cases fl with
 |nx=>cases e;exact q _ H' sm .non
 |brk=>cases e
 |cnt=>cases e
 |ret d =>
  intro v rv
  refine q v H' sm (VR.den R' rfl (fun i ds a _ hs=>⟨hs,fun hm=>⟨JV,?_⟩⟩) (fun m a _ o=>o) (fun a o _ _=>JV) rv e)
  have hn:=R'.new i a (Nat.zero_le _) hm
  exact⟨fun _=>hn,.inr hn⟩
theorem fnM{x qual:Str}{st:Stmt}{f:Addr}{fd:FuncData}{N ps:List Str}{k:Nat}{fs:Ay}(F:Fun K x qual st f fd)(Sc:Bw N ps (Aj st))
  (hb:∀(cdv:Value)(A:Around)(outer:List PySem.Env)(s:Shared)(H:Hp)(E:XK),Fj k (A.deeper (PyProof.Rows.envOfC qual (Aj st) s.heap.objs.size f cdv))->JSs (Qu CX0 P w K mg base N qual (Aj st) f cdv A outer s H E).nox (Bq st) fs) :
  Cp P w K mg base CX0 (k+1) f fd ps (spM K (runM ps.length N.length fs) ps.length):=by
 refine F.ok Sc (fun vs H Q E h=>?_) (fun cdv A outer s H vs Q E hr h=>?_)
 .obtain⟨_,_,_,_,_,_,_,_,hl,_⟩:=h;exact hl
 obtain⟨Nn,a,us,ns,ds,r,ms,rfl,hl,ha,rs,e,q⟩:=h
 refine⟨_,(hb cdv A outer s H E hr).ps,?_⟩
 have hdl:=rs.length
 rw[List.length_cons] at hl
 unfold runM at e
 rw[if_pos (by omega)] at e
 obtain⟨⟨fl,env',S'⟩,e1,e⟩:=bind_some e
 have hpl:ps.length<=N.length:=by have:=congrArg List.length Sc.pre;rw[List.length_take] at this;omega
 refine⟨⟨K,H,Nn,[a]⟩,[some a],_,[some (ns.map D.int)],fl,env',S',rfl,⟨fun i d h=>?_,?_,fun i es h=>?_,fun i b h=>?_,fun i j b h1 h2=>?_,rfl,Ext.refl _ _,fun i b hi h=>?_⟩,e1,fun μ' σ' H' x' R'=>?_⟩
 .cases i with
  |zero =>
   simp at h
   subst h
   refine⟨.ref a,by simp[L2.start],.ref (by simp) fun b hb=>?_⟩
   simp at hb;rw[hb]
  |succ i =>
   rw[List.getElem?_cons_succ] at h
   obtain⟨v,e1,e2⟩:=WQ (N:=List.replicate (N.length-1) "") rs h
   refine⟨v,?_,e2⟩
   unfold L2.start
   rw[List.map_cons,List.cons_append,List.getElem?_cons_succ,List.length_cons]
   rw[List.length_replicate] at e1
   rw[show N.length-(us.length+1)=N.length-1-us.length by omega]
   exact e1
 .unfold L2.start
  rw[List.length_append,List.length_map,List.length_replicate,List.length_cons,List.length_cons,List.length_append,List.length_map,List.length_replicate,hdl]
  omega
 .cases i with
  |zero=>simp at h;subst h;exact⟨a,_,by simp,ha,VRs.ints ns⟩
  |succ i=>simp at h
 .cases i with
  |zero=>exact⟨_,rfl⟩
  |succ i=>simp at h
 .cases i with
  |zero=>cases j with
   |zero=>rfl
   |succ j=>simp at h2
  |succ i=>simp at h1
 .cases i with
  |zero=>simp at hi
  |succ i=>simp at h
 have sm:∀b o,b≠a->H b=some o->H' b=some o:=fun b o hb h=>(x'.keep b o h fun z=>hb (O6.mp z)).1
 dsimp only at e
 split at e
 .rename_i cs hc
  obtain⟨ms',e3,e5⟩:=bind_some e
  clear e
  obtain⟨a',xs',g1,g2,g3⟩:=R'.sto 0 cs hc
  have ea:a'=a:=by
   have:=x'.ids 0 a' (by simp) g1
   simp at this;exact this.symm
  subst ea
  have ec:=Hs e3
  subst ec
  have ex:=g3.QM
  subst ex
  cases fl with
  |nx=>cases e5;exact q _ H' sm g2 .non
  |brk=>cases e5
  |cnt=>cases e5
  |ret d =>
   intro v rv
   dsimp only at e5
   obtain⟨r',e4,e6⟩:=map_some e5
   cases e6
   refine q v H' sm g2 (VR.den R' rfl (fun i es b hi hs=>⟨hs,fun hm=>⟨fun z=>?_,?_⟩⟩) (fun m b _ o=>o) (fun b o _ n z=>n ?_) rv e4)
   .have:b=a':=O6.mp z
    subst this
    have:=R'.inj 0 i b g1 hm
    omega
   .have hn:=R'.new i b hi hm
    exact⟨fun _=>hn,.inr hn⟩
   .have:b=a':=O6.mp z
    subst this
    exact List.mem_of_getElem? g1
 .cases e
end
theorem DN{np n:Nat}{f:Ay}{ds:List D}{r:D}(h:FN np n f ds=some r):ds.length=np/\BZ r=true:=by
 unfold FN at h
 by_cases hl:ds.length=np
 .rw[if_pos hl] at h
  obtain⟨⟨fl,env',S'⟩,e1,e⟩:=bind_some h
  refine⟨hl,?_⟩
  dsimp only at e
  cases fl with
  |nx=>cases e;rfl
  |brk=>cases e
  |cnt=>cases e
  |ret d=>exact UG e
 .rw[if_neg hl] at h;cases h
theorem Nb{np n:Nat}{f:Ay}{ns:List Int}{ds:List D}{r:D×List Int}(h:runM np n f ns ds=some r):ds.length+1=np/\BZ r.1=true:=by
 unfold runM at h
 by_cases hl:ds.length+1=np
 .rw[if_pos hl] at h
  obtain⟨⟨fl,env',S'⟩,e1,e⟩:=bind_some h
  refine⟨hl,?_⟩
  dsimp only at e
  split at e
  .rename_i cs hc
   obtain⟨ms',e3,e⟩:=bind_some e
   cases fl with
   |nx=>cases e;rfl
   |brk=>cases e
   |cnt=>cases e
   |ret d =>
    dsimp only at e
    obtain⟨r',e4,e⟩:=map_some e
    cases e
    exact UG e4
  .cases e
 .rw[if_neg hl] at h;cases h
end VS
end
section
namespace VS
open PySem PySem.Spec L2
structure CW(P:Program)(w:World)(K:PySem.W.Frag)(mg:Str->Option Value)(base:Heap)(x:Str)(k:Nat)(sem:Cm):Prop where
 cal:∃ps,Cal P w K mg base x k ps (spP K sem ps.length)/\∀ds r,sem ds=some r->ds.length=ps.length/\BZ r=true
structure JQ(P:Program)(w:World)(K:PySem.W.Frag)(mg:Str->Option Value)(base:Heap)(x:Str)(k:Nat)(sem:JN):Prop where
 cal:∃ps,Cal P w K mg base x k ps (spM K sem ps.length)/\∀ns ds r,sem ns ds=some r->ds.length+1=ps.length/\BZ r.1=true
def BJ(sem:Cm)(a:Bb):Az:=fun env S=>(a env S).bind fun p=>(Ck 0 p.2 p.1).bind fun ds=>(sem (Bg ds)).bind fun r=>if (Aq p.1||newD r)=true then some (r,p.2) else none
def BW(sem:JN)(a:Bb):Az:=fun env S=>(a env S).bind fun p=>match p.1 with
 |.ref i::rest=>(match p.2[i]? with
  |some (some cs)=>(intsOf cs).bind fun ns=>(Ck 0 (p.2.set i none) rest).bind fun ds=>(sem ns (Bg ds)).bind fun r=>if (Aq rest||newD r.1)=true then some (r.1,p.2.set i (some (r.2.map D.int))) else none
  |_=>none)
 |_=>none
def Xe(n:Nat):List D->Option (List D×List D)
 |[]=>none
 |d::r=>if Dk d=true then (Xe n r).map fun p=>(d::p.1,p.2) else match d with
  |.lst true ds=>if (Eo ds&&Eo r)=true then some (.ref n::r,ds) else none
  |_=>none
def MJ(n:Nat):D->Option (D×List D)
 |.lst true ds=>if Eo ds=true then some (.ref n,ds) else none
 |.tup es=>(Xe n es).map fun p=>(.tup p.1,p.2)
 |_=>none
def Nz(sem:Cm)(a:Bb):Az:=fun env S=>(BJ sem a env S).bind fun p=>(MJ p.2.length p.1).bind fun q=>some (q.1,p.2++[some q.2])
def RD(sem:JN)(a:Bb):Az:=fun env S=>(BW sem a env S).bind fun p=>(MJ p.2.length p.1).bind fun q=>some (q.1,p.2++[some q.2])
section
variable{Γ:Fr}{μ:Mu}{σ:St}{H H':Hp}{env:Env}{S:Store}
theorem lend{K:PySem.W.Frag}(hK:Γ.K=K)(R:Rep Γ μ σ H env S){S0:Store}{m0:List Addr}{vs:List V}{ds es:List D}(r:VRs Γ μ H vs ds)(e:Ck 0 S0 ds=some es)(h0:∀(i:Nat)(ds:List D)(a:Addr),S0[i]?=some (some ds)->S[i]?=some (some ds)/\(μ[i]?=some (some a)->¬DK (m0.map some) a))(hm:∀a∈m0,DK μ a)
  (c:Bool) (hc:(Aq ds||c)=true):∃N:Addr->Prop,VRs ⟨K,H,N,m0⟩ (m0.map some) H vs (Bg es)/\(c=true∨∀a,N a->¬DK μ a/\(Γ.N a∨Γ.H0 a=none)):=by
 subst hK
 have hl:∀a o,H a=some o->¬DK μ a->¬DK (m0.map some) a:=fun a o _ n z=>n (hm a (by simpa [DK] using z))
 by_cases hp:Aq ds=true
 .rw[Cz 0 S0 hp] at e
  cases e
  exact⟨fun a=>¬DK μ a/\(Γ.N a∨Γ.H0 a=none),VRs.age (Γ:=Γ) (Γ':=⟨Γ.K,H,fun a=>¬DK μ a/\(Γ.N a∨Γ.H0 a=none),m0⟩) rfl (fun a n o=>⟨n,o⟩) hl hp r,.inr fun a z=>z⟩
 .have hc':c=true:=by simpa [hp] using hc
  refine⟨fun _=>True,?_,.inl hc'⟩
  have r1:VRs ⟨Γ.K,fun _=>none,fun _=>True,m0⟩ (m0.map some) H vs es:=VRs.den (Γ':=⟨Γ.K,fun _=>none,fun _=>True,m0⟩) R rfl (fun i ds a _ hs=>⟨(h0 i ds a hs).1,fun z=>⟨(h0 i ds a hs).2 z,⟨fun _=>rfl,.inl trivial⟩⟩⟩) (fun m a _ _=>⟨fun _=>rfl,.inl trivial⟩) hl r e
  exact VRs.age (Γ:=⟨Γ.K,fun _=>none,fun _=>True,m0⟩) (Γ':=⟨Γ.K,H,fun _=>True,m0⟩) (μ:=m0.map some) rfl (fun a _ _=>trivial) (fun a o _ n=>n) (Ou e) r1
theorem home{K:PySem.W.Frag}(hK:Γ.K=K)(R:Rep Γ μ σ H env S){N:Addr->Prop}{m0:List Addr}{v:V}{r:D}(lv:∀a,DK μ a->∃xs,H' a=some (.lst xs))(hp:BZ r=true)(c:newD r=true∨∀a,N a->¬DK μ a/\(Γ.N a∨Γ.H0 a=none))
  (rv:VR ⟨K,H,N,m0⟩ (m0.map some) H' v r):VR Γ μ H' v r:=by
 subst hK
 rcases c with c|c
 .exact VR.new (fun a xs n o hb=>⟨R.ok (o.1 rfl) true,R.dead (o.1 rfl)⟩) c rv
 .refine VR.pure (Γ:=⟨Γ.K,H,N,m0⟩) (Γ':=Γ) rfl (fun m a xs n o hb=>?_) (fun a o hb n hx z=>?_) hp rv
  .rcases o.2 with z|z
   .refine⟨⟨fun hm=>R.fresh (o.1 hm),(c a z).2⟩,(c a z).1⟩
   .exact⟨R.ok z m,R.dead z⟩
  .obtain⟨xs,q⟩:=lv a z
   rw[q] at hb
   exact hx xs (Option.some.inj hb).symm
theorem Rep.adopt(R:Rep Γ μ σ H env S)(sm:Same H H'){a:Addr}{xs:List V}{ds:List D}(hn:H a=none)(ha:H' a=some (.lst xs))(hf:Eo ds=true){Γ':Fr}{μ':Mu}(rs:VRs Γ' μ' H' xs ds) :
  Rep Γ (μ++[some a]) σ H' env (S++[some ds])/\Ext μ H (μ++[some a]) H':=by
 have ne:∀b o,H b=some o->b≠a:=fun b o h z=>by rw[z,hn] at h;cases h
 have x:Ext μ H (μ++[some a]) H':=by
  refine⟨fun b o h n=>⟨sm b o h,fun z=>?_⟩,fun b ys h=>sm b _ h,fun b h=>sm.free h,fun i b hi h=>?_,by rw[List.length_append];omega⟩
  .rcases List.mem_append.mp z with z|z
   .exact n z
   .have z':b=a:=by simpa using z
    exact ne b o h z'
  .rw[List.getElem?_append_left hi] at h;exact h
 have idx:∀i b,(μ++[some a])[i]?=some (some b)->(i<μ.length/\μ[i]?=some (some b))∨(i=μ.length/\b=a):=fun i b h=>by
  by_cases hi:i<μ.length
  .rw[List.getElem?_append_left hi] at h;exact .inl ⟨hi,h⟩
  .rw[List.getElem?_append_right (by omega)] at h
   have hl:=(List.getElem?_eq_some_iff.mp h).1
   have hi':i=μ.length:=by simp at hl;omega
   subst hi'
   simp at h
   exact .inr ⟨rfl,h.symm⟩
 have no:∀i,μ[i]?=some (some a)->False:=fun i h=>R.dead hn (List.mem_of_getElem? h)
 refine⟨⟨fun i d h=>?_,R.len,fun i es h=>?_,fun i b h=>?_,fun i j b h1 h2=>?_,by rw[List.length_append,List.length_append,R.slen];rfl,R.ent.trans x,fun i b hi h=>?_⟩,x⟩
 .obtain⟨v,h1,h2⟩:=R.vals i d h
  exact⟨v,h1,h2.ext x⟩
 .by_cases hi:i<S.length
  .rw[List.getElem?_append_left hi] at h
   obtain⟨b,ys,h1,h2,h3⟩:=R.sto i es h
   exact⟨b,ys,by rw[List.getElem?_append_left (by rw[←R.slen];exact hi)];exact h1,sm _ _ h2,h3.ext x⟩
  .rw[List.getElem?_append_right (by omega)] at h
   have hl:=(List.getElem?_eq_some_iff.mp h).1
   have hi':i=S.length:=by simp at hl;omega
   subst hi'
   simp at h
   subst h
   exact⟨a,xs,by rw[R.slen];simp,ha,VRs.flat hf rs⟩
 .rcases idx i b h with ⟨hi,h⟩|⟨rfl,rfl⟩
  .obtain⟨ds',q⟩:=R.liv i b h
   exact⟨ds',by rw[List.getElem?_append_left (by rw[R.slen];exact hi)];exact q⟩
  .exact⟨ds,by rw[←R.slen];simp⟩
 .rcases idx i b h1 with ⟨_,g1⟩|⟨e1,e2⟩
  .rcases idx j b h2 with ⟨_,g2⟩|⟨e3,e4⟩
   .exact R.inj i j b g1 g2
   .exact(no i (e4 ▸ g1)).elim
  .rcases idx j b h2 with ⟨_,g2⟩|⟨e3,_⟩
   .exact(no j (e2 ▸ g2)).elim
   .rw[e1,e3]
 .rcases idx i b h with ⟨_,h⟩|⟨rfl,rfl⟩
  .exact R.new i b hi h
  .exact R.fresh hn
end
theorem YS{Γ:Fr}{μ:Mu}{H:Hp}{n:Nat}:∀{vs:List V} {ds:List D} {p:List D×List D},Xe n ds=some p->VRs Γ μ H vs ds ->
  ∃a xs,Γ.Ok true a/\H a=some (.lst xs)/\VRs Γ μ H xs p.2/\Eo p.2=true/\∀(Γ':Fr)(μ':Mu),μ'[n]?=some (some a)->VRs Γ' μ' H vs p.1
 |_,[],_,h,_=>by cases h
 |_,d::r,p,h,.cons (xs:=vr) rd rr=>by
  unfold Xe at h
  by_cases hf:Dk d=true
  .rw[if_pos hf] at h
   obtain⟨q,e1,e2⟩:=map_some h
   subst e2
   obtain⟨a,xs,h1,h2,h3,h4,h5⟩:=YS e1 rr
   exact⟨a,xs,h1,h2,h3,h4,fun Γ' μ' z=>.cons (VR.flat hf rd) (h5 Γ' μ' z)⟩
  .rw[if_neg hf] at h
   split at h
   .rename_i ds
    by_cases hg:(Eo ds&&Eo r)=true
    .rw[if_pos hg] at h
     cases h
     rw[Bool.and_eq_true] at hg
     cases rd with
     |@lst _ a xs _ o nl hb t =>
      refine⟨a,xs,o,hb,t,hg.1,fun Γ' μ' z=>.cons (.ref (List.getElem?_eq_some_iff.mp z).1 fun b hb'=>?_) (VRs.flat hg.2 rr)⟩
      rw[z] at hb';cases hb';rfl
    .rw[if_neg hg] at h;cases h
   .cases h
theorem aO{Γ:Fr}{μ:Mu}{H:Hp}{n:Nat}{v:V}{d:D}{p:D×List D}(h:MJ n d=some p)(r:VR Γ μ H v d) :
  ∃a xs,Γ.Ok true a/\H a=some (.lst xs)/\VRs Γ μ H xs p.2/\Eo p.2=true/\∀(Γ':Fr)(μ':Mu),μ'[n]?=some (some a)->VR Γ' μ' H v p.1:=by
 unfold MJ at h
 split at h
 .rename_i ds
  by_cases hg:Eo ds=true
  .rw[if_pos hg] at h
   cases h
   cases r with
   |@lst _ a xs _ o nl hb t =>
    refine⟨a,xs,o,hb,t,hg,fun Γ' μ' z=>.ref (List.getElem?_eq_some_iff.mp z).1 fun b hb'=>?_⟩
    rw[z] at hb';cases hb';rfl
  .rw[if_neg hg] at h;cases h
 .rename_i es
  obtain⟨q,e1,e2⟩:=map_some h
  subst e2
  cases r with
  |@tup b xs _ hb t =>
   obtain⟨a,ys,h1,h2,h3,h4,h5⟩:=YS e1 t
   exact⟨a,ys,h1,h2,h3,h4,fun Γ' μ' z=>.tup hb (h5 Γ' μ' z)⟩
 .cases h
section
variable{X:Cx}{x:Str}{k k':Nat}{e:Expr}{es:List Expr}{f:Bb}{p pos:Pos}
theorem CJ{sem:Cm}(c:CW X.prog X.w X.K X.mg X.base x k sem)(hr:Fj k' X.A)(hk:k<=k')(hg:Gl X x)(ha:JA X (e::es) f)
  (hdb:(x==("__debug__":Str))=false:=by decide) (he:starEach (e::es) X.env=(false,eval e X.env)::starEach es X.env:=by rfl) (hpl:(backTo pos (starEach es X.env)).any (·.1)=false:=by rfl) :
  JE X (.Call (.Name x p) (e::es) [] pos) (BJ sem f):=by
 obtain⟨ps,c,hok⟩:=c.cal
 refine⟨PE.imp (QZ c hr hk hg ha.pa hdb he hpl) fun σ H Q h=>?_⟩
 obtain⟨Γ,μ,env,S,d,S',hK,R,e,q⟩:=h
 obtain⟨⟨as,S1⟩,e1,e⟩:=bind_some e
 obtain⟨ds,e2,e⟩:=bind_some e
 obtain⟨r,e3,e⟩:=bind_some e
 refine⟨Γ,μ,env,S,as,S1,hK,R,e1,fun vs μ1 H1 x1 R1 r1=>?_⟩
 show spP X.K sem ps.length (vs++[]) H1 Q E0
 rw[List.append_nil]
 dsimp only at e e2
 by_cases hc:(Aq as||newD r)=true
 .rw[if_pos hc] at e
  cases e
  obtain⟨hl,hp⟩:=hok _ _ e3
  obtain⟨N,rs,cN⟩:=lend hK R1 (m0:=[]) r1 e2 (fun i ds a hs=>⟨hs,fun _=>JV⟩) (fun a z=>by simp at z) (newD d) hc
  refine⟨N,_,d,?_,rs,e3,fun v H' sm rv=>?_⟩
  .rw[rs.length,hl]
  obtain⟨R2,x2⟩:=R1.grow sm
  exact q v μ1 H' (x1.trans x2) R2 (home hK R1 (fun a z=>R2.live z) hp cN rv)
 .rw[if_neg hc] at e;cases e
theorem Yl{sem:Cm}(c:CW X.prog X.w X.K X.mg X.base x k sem)(hr:Fj k' X.A)(hk:k<=k')(hg:Gl X x)(ha:JA X (e::es) f)
  (hdb:(x==("__debug__":Str))=false:=by decide) (he:starEach (e::es) X.env=(false,eval e X.env)::starEach es X.env:=by rfl) (hpl:(backTo pos (starEach es X.env)).any (·.1)=false:=by rfl) :
  JE X (.Call (.Name x p) (e::es) [] pos) (Nz sem f):=by
 obtain⟨ps,c,hok⟩:=c.cal
 refine⟨PE.imp (QZ c hr hk hg ha.pa hdb he hpl) fun σ H Q h=>?_⟩
 obtain⟨Γ,μ,env,S,d,S',hK,R,e,q⟩:=h
 obtain⟨⟨d0,S0⟩,e0,e⟩:=bind_some e
 obtain⟨t,et,e⟩:=bind_some e
 cases e
 obtain⟨⟨as,S1⟩,e1,e⟩:=bind_some e0
 obtain⟨ds,e2,e⟩:=bind_some e
 obtain⟨r,e3,e⟩:=bind_some e
 refine⟨Γ,μ,env,S,as,S1,hK,R,e1,fun vs μ1 H1 x1 R1 r1=>?_⟩
 show spP X.K sem ps.length (vs++[]) H1 Q E0
 rw[List.append_nil]
 dsimp only at e e2
 by_cases hc:(Aq as||newD r)=true
 .rw[if_pos hc] at e
  cases e
  obtain⟨hl,hp⟩:=hok _ _ e3
  obtain⟨N,rs,cN⟩:=lend hK R1 (m0:=[]) r1 e2 (fun i ds a hs=>⟨hs,fun _=>JV⟩) (fun a z=>by simp at z) (newD d0) hc
  refine⟨N,_,d0,?_,rs,e3,fun v H' sm rv=>?_⟩
  .rw[rs.length,hl]
  obtain⟨a,xs,h1,h2,h3,h4,h5⟩:=aO et rv
  obtain⟨R2,x2⟩:=R1.adopt sm (h1.1 rfl) h2 h4 h3
  exact q v _ H' (x1.trans x2) R2 (h5 _ _ (by rw[R1.slen];simp))
 .rw[if_neg hc] at e;cases e
theorem Dd{sem:JN}(c:JQ X.prog X.w X.K X.mg X.base x k sem)(hr:Fj k' X.A)(hk:k<=k')(hg:Gl X x)(ha:JA X (e::es) f)
  (hdb:(x==("__debug__":Str))=false:=by decide) (he:starEach (e::es) X.env=(false,eval e X.env)::starEach es X.env:=by rfl) (hpl:(backTo pos (starEach es X.env)).any (·.1)=false:=by rfl) :
  JE X (.Call (.Name x p) (e::es) [] pos) (BW sem f):=by
 obtain⟨ps,c,hok⟩:=c.cal
 refine⟨PE.imp (QZ c hr hk hg ha.pa hdb he hpl) fun σ H Q h=>?_⟩
 obtain⟨Γ,μ,env,S,d,S',hK,R,e,q⟩:=h
 obtain⟨⟨as,S1⟩,e1,e⟩:=bind_some e
 refine⟨Γ,μ,env,S,as,S1,hK,R,e1,fun vs μ1 H1 x1 R1 r1=>?_⟩
 show spM X.K sem ps.length (vs++[]) H1 Q E0
 rw[List.append_nil]
 dsimp only at e
 split at e
 .rename_i i rest
  split at e
  .rename_i cs hcs
   obtain⟨ns,e4,e⟩:=bind_some e
   obtain⟨ds,e2,e⟩:=bind_some e
   obtain⟨⟨r,ms⟩,e3,e⟩:=bind_some e
   dsimp only at e
   by_cases hc:(Aq rest||newD r)=true
   .rw[if_pos hc] at e
    cases e
    obtain⟨hl,hp⟩:=hok _ _ _ e3
    have ecs:=Hs e4
    subst ecs
    cases r1 with
    |@cons v0 _ us _ r0 rr =>
     obtain⟨a,xs,rfl,h1,h2,h3⟩:=VR.Tg R1 r0 hcs
     have ex:=h3.QM
     subst ex
     have hi:i<S1.length:=(List.getElem?_eq_some_iff.mp hcs).1
     obtain⟨N,rs,cN⟩:=lend hK R1 (S0:=S1.set i none) (m0:=[a]) rr e2 (fun j es b hs=>by
      have hj:i≠j:=fun z=>by
       subst z
       rw[List.getElem?_set_self hi] at hs;cases hs
      rw[List.getElem?_set_ne hj] at hs
      exact⟨hs,fun hm z=>hj (R1.inj i j a h1 (by rw[show a=b from (O6.mp z).symm];exact hm))⟩) (fun b z=>by
       have:b=a:=by simpa using z
       rw[this];exact List.mem_of_getElem? h1) (newD d) hc
     refine⟨N,a,us,ns,_,d,ms,rfl,?_,h2,rs,e3,fun v H' sm ha' rv=>?_⟩
     .rw[List.length_cons,rs.length,hl]
     obtain⟨R2,x2⟩:=R1.put h1 (VRs.ints ms)
     have sm2:Same (upd H1 a (.lst (ms.map V.int))) H':=fun b o hb=>by
      by_cases z:b=a
      .rw[z,CQ] at hb;cases hb;rw[z];exact ha'
      .rw[Bo z] at hb;exact sm b o z hb
     obtain⟨R3,x3⟩:=R2.grow sm2
     exact q v μ1 H' (x1.trans (x2.trans x3)) R3 (home hK R1 (fun a z=>R3.live z) hp cN rv)
   .rw[if_neg hc] at e;cases e
  .cases e
 .cases e
theorem lV{sem:JN}(c:JQ X.prog X.w X.K X.mg X.base x k sem)(hr:Fj k' X.A)(hk:k<=k')(hg:Gl X x)(ha:JA X (e::es) f)
  (hdb:(x==("__debug__":Str))=false:=by decide) (he:starEach (e::es) X.env=(false,eval e X.env)::starEach es X.env:=by rfl) (hpl:(backTo pos (starEach es X.env)).any (·.1)=false:=by rfl) :
  JE X (.Call (.Name x p) (e::es) [] pos) (RD sem f):=by
 obtain⟨ps,c,hok⟩:=c.cal
 refine⟨PE.imp (QZ c hr hk hg ha.pa hdb he hpl) fun σ H Q h=>?_⟩
 obtain⟨Γ,μ,env,S,d,S',hK,R,e,q⟩:=h
 obtain⟨⟨d0,S0⟩,e0,e⟩:=bind_some e
 obtain⟨t,et,e⟩:=bind_some e
 cases e
 obtain⟨⟨as,S1⟩,e1,e⟩:=bind_some e0
 refine⟨Γ,μ,env,S,as,S1,hK,R,e1,fun vs μ1 H1 x1 R1 r1=>?_⟩
 show spM X.K sem ps.length (vs++[]) H1 Q E0
 rw[List.append_nil]
 dsimp only at e
 split at e
 .rename_i i rest
  split at e
  .rename_i cs hcs
   obtain⟨ns,e4,e⟩:=bind_some e
   obtain⟨ds,e2,e⟩:=bind_some e
   obtain⟨⟨r,ms⟩,e3,e⟩:=bind_some e
   dsimp only at e
   by_cases hc:(Aq rest||newD r)=true
   .rw[if_pos hc] at e
    cases e
    obtain⟨hl,hp⟩:=hok _ _ _ e3
    have ecs:=Hs e4
    subst ecs
    cases r1 with
    |@cons v0 _ us _ r0 rr =>
     obtain⟨a,xs,rfl,h1,h2,h3⟩:=VR.Tg R1 r0 hcs
     have ex:=h3.QM
     subst ex
     have hi:i<S1.length:=(List.getElem?_eq_some_iff.mp hcs).1
     obtain⟨N,rs,cN⟩:=lend hK R1 (S0:=S1.set i none) (m0:=[a]) rr e2 (fun j es b hs=>by
      have hj:i≠j:=fun z=>by
       subst z
       rw[List.getElem?_set_self hi] at hs;cases hs
      rw[List.getElem?_set_ne hj] at hs
      exact⟨hs,fun hm z=>hj (R1.inj i j a h1 (by rw[show a=b from (O6.mp z).symm];exact hm))⟩) (fun b z=>by
       have:b=a:=by simpa using z
       rw[this];exact List.mem_of_getElem? h1) (newD d0) hc
     refine⟨N,a,us,ns,_,d0,ms,rfl,?_,h2,rs,e3,fun v H' sm ha' rv=>?_⟩
     .rw[List.length_cons,rs.length,hl]
     obtain⟨R2,x2⟩:=R1.put h1 (VRs.ints ms)
     have sm2:Same (upd H1 a (.lst (ms.map V.int))) H':=fun b o hb=>by
      by_cases z:b=a
      .rw[z,CQ] at hb;cases hb;rw[z];exact ha'
      .rw[Bo z] at hb;exact sm b o z hb
     obtain⟨b,ys,g1,g2,g3,g4,g5⟩:=aO et rv
     have hb:upd H1 a (.lst (ms.map V.int)) b=none:=by
      have hn:H1 b=none:=g1.1 rfl
      rw[Bo (fun z=>by rw[z,h2] at hn;cases hn)];exact hn
     obtain⟨R3,x3⟩:=R2.adopt sm2 hb g2 g4 g3
     exact q v _ H' (x1.trans (x2.trans x3)) R3 (g5 _ _ (by rw[List.length_set,R1.slen];simp))
   .rw[if_neg hc] at e;cases e
  .cases e
 .cases e
end
end VS
end
section
namespace VS
open PySem PySem.Spec L2
theorem OpR.or{X:Cx}{f:Value->Value->Sem Value}{r r':R2}(h:OpR X f r)(h':OpR X f r'):OpR X f (fun x y H Q=>r x y H Q∨r' x y H Q):=fun pins s σ H x y v u Q I rx ry q=>q.elim (fun z=>h pins s σ H x y v u Q I rx ry z) fun z=>h' pins s σ H x y v u Q I rx ry z
theorem Dl.or{X:Cx}{f:Value}{r r':List V->Hp->VK->Prop}(h:Dl X f r)(h':Dl X f r'):Dl X f (fun xs H Q=>r xs H Q∨r' xs H Q):=fun pins s σ H xs us Q I rs q=>q.elim (fun z=>h pins s σ H xs us Q I rs z) fun z=>h' pins s σ H xs us Q I rs z
def oI(c:Int->Int->Bool)(g:Int->Int->D)(_:Store):D->D->Option D
 |.int i,.int j=>if c i j=true then some (g i j) else none
 |_,_=>none
def Hw(_ _:Int):Bool:=true
theorem Xf{K:PySem.W.Frag}{C:Int->Int->Prop}{c:Int->Int->Bool}(g:Int->Int->Int)(hc:∀i j,c i j=true->C i j):GD K (rI C fun i j=>.int (g i j)) (oI c fun i j=>.int (g i j)):=by
 intro Γ μ σ H env S x y dx dy d hK R rx ry e Q q
 unfold oI at e
 split at e
 .rename_i i j
  by_cases h:c i j=true
  .rw[if_pos h] at e;cases e;cases rx;cases ry
   exact⟨i,j,rfl,rfl,hc i j h,q _ H (Same.refl H) (.int _)⟩
  .rw[if_neg h] at e;cases e
 .cases e
theorem uE{K:PySem.W.Frag}(g:Int->Int->Int):GD K (rI0 fun i j=>.int (g i j)) (oI Hw fun i j=>.int (g i j)):=by
 intro Γ μ σ H env S x y dx dy d hK R rx ry e Q q
 unfold oI at e
 split at e
 .rename_i i j
  rw[if_pos (show Hw i j=true from rfl)] at e;cases e;cases rx;cases ry
  exact⟨i,j,rfl,rfl,q _ H (Same.refl H) (.int _)⟩
 .cases e
theorem Uo{K:PySem.W.Frag}(g:Int->Int->Bool):GD K (rI0 fun i j=>.bl (g i j)) (oI Hw fun i j=>.bl (g i j)):=by
 intro Γ μ σ H env S x y dx dy d hK R rx ry e Q q
 unfold oI at e
 split at e
 .rename_i i j
  rw[if_pos (show Hw i j=true from rfl)] at e;cases e;cases rx;cases ry
  exact⟨i,j,rfl,rfl,q _ H (Same.refl H) (.bl _)⟩
 .cases e
def EY:=oI Hw fun i j=>.int (i-j)
def Nq(i j:Int):Bool:=(decide (-(2^64)<i)&&decide (i<2^64))||(decide (-(2^64)<j)&&decide (j<2^64))
def Tn(_ j:Int):Bool:=decide (0<j)&&decide (j<2^64)
def Qw(_ j:Int):Bool:=decide (0<j)
def Np(i j:Int):Bool:=decide (0<=j)&&decide (j<=1000000)&&decide (i.natAbs<2^64)
def oDiv:=oI Tn fun i j=>.int (i/j)
def oMod:=oI Qw fun i j=>.int (i%j)
def Fi:=oI Np fun i j=>.int (i^j.toNat)
def oLt:=oI Hw fun i j=>.bl (decide (i<j))
def oLe:=oI Hw fun i j=>.bl (decide (i<=j))
def oGt:=oI Hw fun i j=>.bl (decide (j<i))
def oGe:=oI Hw fun i j=>.bl (decide (j<=i))
theorem G4{K:PySem.W.Frag}:GD K (rI0 fun i j=>.int (i-j)) EY:=uE _
theorem Q6{K:PySem.W.Frag}:GD K (rI (fun _ j=>0<j/\j<2^64) fun i j=>.int (i/j)) oDiv:=Xf _ fun i j h=>by simpa [Tn] using h
theorem Jh{K:PySem.W.Frag}:GD K (rI (fun _ j=>0<j) fun i j=>.int (i%j)) oMod:=Xf _ fun i j h=>by simpa [Qw] using h
theorem J4{K:PySem.W.Frag}:GD K (rI jF fun i j=>.int (i^j.toNat)) Fi:=Xf _ fun i j h=>by simpa [Np,jF,and_assoc] using h
theorem Xy{K:PySem.W.Frag}:GD K (rI0 fun i j=>.bl (decide (i<j))) oLt:=Uo _
theorem uD{K:PySem.W.Frag}:GD K (rI0 fun i j=>.bl (decide (i<=j))) oLe:=Uo _
theorem Pu{K:PySem.W.Frag}:GD K (rI0 fun i j=>.bl (decide (j<i))) oGt:=Uo _
theorem dj{K:PySem.W.Frag}:GD K (rI0 fun i j=>.bl (decide (j<=i))) oGe:=Uo _
def MK(_:Store):D->Option D
 |.int i=>some (.int (-i))
 |_=>none
theorem S7{K:PySem.W.Frag}:tU K (rU fun i=>.int (-i)) MK:=by
 intro Γ μ σ H env S x dx d hK R rx e Q q
 unfold MK at e
 split at e
 .cases e;cases rx;exact⟨_,rfl,q _ H (Same.refl H) (.int _)⟩
 .cases e
def Dh(S:Store):D->D->Option D
 |.int i,.int j=>some (.int (i+j))
 |.tup a,.tup b=>if a.length+b.length<=1000000 then some (.tup (a++b)) else none
 |.str x,.str y=>if x.length+y.length<=1000000 then some (.str (x++y)) else none
 |x,y=>(listOf S x).bind fun a=>(listOf S y).bind fun b=>if a.length+b.length<=1000000 then some (.lst true (a++b)) else none
def mz:R2:=fun x y H Q=>∃(a b:Addr)(xs ys:List V),x=.ref a/\y=.ref b/\H a=some (.tup xs)/\H b=some (.tup ys)/\xs.length+ys.length<=sizeLine/\∀p H',Same H H'->H' p=some (.tup (xs++ys))->Q (.ref p) H'
def wY:R2:=fun x y H Q=>∃i j,x=.str i/\y=.str j/\i.length+j.length<=sizeLine/\Q (.str (i++j)) H
def n6:R2:=fun x y H Q=>(rI0 fun i j=>.int (i+j)) x y H Q∨mz x y H Q∨wY x y H Q∨tL x y H Q
theorem Dp{X:Cx}:OpR X (binaryOp .Add) n6:=OpR.or um (OpR.or pN (OpR.or cg uh))
theorem Dn{K:PySem.W.Frag}:GD K n6 Dh:=by
 intro Γ μ σ H env S x y dx dy d hK R rx ry e Q q
 unfold Dh at e
 split at e
 .cases e;cases rx;cases ry;exact .inl ⟨_,_,rfl,rfl,q _ H (Same.refl H) (.int _)⟩
 .rename_i a b
  by_cases h:a.length+b.length<=1000000
  .rw[if_pos h] at e;cases e
   cases rx with
   |@tup p xs _ hp rp =>
    cases ry with
    |@tup p2 ys _ hp2 rp2 =>
     refine .inr (.inl ⟨p,p2,xs,ys,rfl,rfl,hp,hp2,by rw[rp.length,rp2.length];exact Nat.le_of_lt (big h),fun t H' sm ht=>?_⟩)
     obtain⟨R2,x2⟩:=R.grow sm
     exact q _ H' sm (.tup ht ((rp.append rp2).ext x2))
  .rw[if_neg h] at e;cases e
 .rename_i a b
  by_cases h:a.length+b.length<=1000000
  .rw[if_pos h] at e;cases e;cases rx;cases ry
   exact .inr (.inr (.inl ⟨_,_,rfl,rfl,Nat.le_of_lt (big h),q _ H (Same.refl H) (.str _)⟩))
  .rw[if_neg h] at e;cases e
 .obtain⟨a,e1,e⟩:=bind_some e
  obtain⟨b,e2,e⟩:=bind_some e
  by_cases h:a.length+b.length<=1000000
  .rw[if_pos h] at e;cases e
   obtain⟨p,xs,rfl,hp,rp⟩:=VR.list R rx e1
   obtain⟨p2,ys,rfl,hp2,rp2⟩:=VR.list R ry e2
   refine .inr (.inr (.inr ⟨p,p2,xs,ys,rfl,rfl,hp,hp2,by rw[rp.length,rp2.length];exact Nat.le_of_lt (big h),fun t ht=>?_⟩))
   obtain⟨R2,x2⟩:=R.grow (Cw ht (.lst (xs++ys)))
   exact q _ _ (Cw ht _) (.lst (R.ok ht true) (R.dead ht) CQ ((rp.append rp2).ext x2))
  .rw[if_neg h] at e;cases e
def Gp(S:Store):D->D->Option D
 |.int i,.int j=>if Nq i j=true then some (.int (i*j)) else none
 |.tup a,.int k=>if a≠[]/\1<=k/\k<2^60/\a.length*k.toNat<=1000000 then some (.tup (List.replicate k.toNat a).flatten) else none
 |x,.int k=>(listOf S x).bind fun a=>if -(2^63)<=k/\k<2^63/\a.length*k.toNat<=1000000 then some (.lst true (List.replicate k.toNat a).flatten) else none
 |_,_=>none
def mq:R2:=fun x y H Q=>(rI Xv fun i j=>.int (i*j)) x y H Q∨mj x y H Q∨sZ x y H Q
theorem IW{X:Cx}:OpR X (binaryOp .Mult) mq:=OpR.or uf (OpR.or pK eH)
theorem IK{K:PySem.W.Frag}:GD K mq Gp:=by
 intro Γ μ σ H env S x y dx dy d hK R rx ry e Q q
 unfold Gp at e
 split at e
 .rename_i i j
  by_cases h:Nq i j=true
  .rw[if_pos h] at e;cases e;cases rx;cases ry
   exact .inl ⟨_,_,rfl,rfl,by simpa [Nq,Xv] using h,q _ H (Same.refl H) (.int _)⟩
  .rw[if_neg h] at e;cases e
 .rename_i a k
  by_cases h:a≠[]/\1<=k/\k<2^60/\a.length*k.toNat<=1000000
  .rw[if_pos h] at e;cases e
   cases ry
   cases rx with
   |@tup p xs _ hp rp =>
    have hl:=rp.length
    refine .inr (.inl ⟨p,k,xs,rfl,rfl,hp,fun z=>h.1 (List.length_eq_zero_iff.mp (by rw[←hl,z];rfl)),h.2.1,h.2.2.1,by rw[hl];exact Nat.le_of_lt (big h.2.2.2),fun t H' sm ht=>?_⟩)
    obtain⟨R2,x2⟩:=R.grow sm
    exact q _ H' sm (.tup ht ((rp.rep _).ext x2))
  .rw[if_neg h] at e;cases e
 .rename_i k _ _
  obtain⟨a,e1,e⟩:=bind_some e
  by_cases h:-(2^63)<=k/\k<2^63/\a.length*k.toNat<=1000000
  .rw[if_pos h] at e;cases e
   cases ry
   obtain⟨p,xs,rfl,hp,rp⟩:=VR.list R rx e1
   refine .inr (.inr ⟨p,k,xs,rfl,rfl,hp,h.1,h.2.1,by rw[rp.length];exact Nat.le_of_lt (big h.2.2),fun t ht=>?_⟩)
   obtain⟨R2,x2⟩:=R.grow (Cw ht (.lst (List.replicate k.toNat xs).flatten))
   exact q _ _ (Cw ht _) (.lst (R.ok ht true) (R.dead ht) CQ ((rp.rep _).ext x2))
  .rw[if_neg h] at e;cases e
 .cases e
def oIx(S:Store):D->D->Option D
 |x,.int i=>(CN S x).bind fun ds=>atI ds i
 |_,_=>none
theorem rA{Γ:Fr}{μ:Mu}{H:Hp}{xs:List V}{ds:List D}{i:Int}{d:D}(r:VRs Γ μ H xs ds)(h:atI ds i=some d):∃x,atI xs i=some x/\VR Γ μ H x d:=by
 unfold atI at h ⊢
 obtain⟨j,e1,e2⟩:=bind_some h
 obtain⟨x,f1,f2⟩:=r.get e2
 exact⟨x,by rw[r.length,e1];exact f1,f2⟩
theorem Br{K:PySem.W.Frag}:GD K (rIx K) oIx:=by
 intro Γ μ σ H env S x y dx dy d hK R rx ry e Q q
 unfold oIx at e
 split at e
 .rename_i i
  obtain⟨ds,e1,e⟩:=bind_some e
  cases ry
  obtain⟨a,xs,rfl,hq,rs⟩:=VR.seq hK R rx e1
  obtain⟨v,f1,f2⟩:=rA rs e
  rcases hq with hq|hq
  .exact .inl ⟨a,xs,i,v,rfl,rfl,hq,f1,q _ H (Same.refl H) f2⟩
  .exact .inr (.inl ⟨a,xs,i,v,rfl,rfl,hq,f1,q _ H (Same.refl H) f2⟩)
 .cases e
def cut(xs:List D)(lo hi:Option Int):List D:=(xs.drop (HT.sIx xs.length 0 lo)).take (HT.sIx xs.length xs.length hi-HT.sIx xs.length 0 lo)
def oSl(S:Store)(x:D)(lo hi:Option Int):Option D:=match x with
 |.tup ds=>some (.tup (cut ds lo hi))
 |x=>(CN S x).map fun ds=>.lst true (cut ds lo hi)
def sX:V->Option Int->Option Int->Hp->VK->Prop:=fun x lo hi H Q=>∃(a:Addr)(xs:List V),x=.ref a/\H a=some (.tup xs)/\∀p H',Same H H'->H' p=some (.tup (Kr xs lo hi))->Q (.ref p) H'
def sY(K:PySem.W.Frag):V->Option Int->Option Int->Hp->VK->Prop:=fun x lo hi H Q=>sX x lo hi H Q∨sW K x lo hi H Q
theorem Xw{X:Cx}:SlR X (sY X.K):=SlR.or oA oE
theorem Xx{K:PySem.W.Frag}:nM K (sY K) oSl:=by
 intro Γ μ σ H env S x dx d l h hK R rx e Q q
 have key:∀{xs:List V} {ds:List D} {H':Hp},VRs Γ μ H' xs ds->VRs Γ μ H' (Kr xs l h) (cut ds l h):=fun r=>by
  unfold Kr cut
  rw[r.length]
  exact(r.drop _).take _
 unfold oSl at e
 split at e
 .cases e
  cases rx with
  |@tup p xs _ hp rp =>
   refine .inl ⟨p,xs,rfl,hp,fun t H' sm ht=>?_⟩
   obtain⟨R2,x2⟩:=R.grow sm
   exact q _ H' sm (.tup ht (key (rp.ext x2)))
 .rename_i ht
  obtain⟨ds,e1,e2⟩:=map_some e
  subst e2
  rcases VR.bT hK R rx e1 with ⟨es,z⟩|⟨a,xs,rfl,hq,rs⟩
  .exact absurd z (ht es)
  .refine .inr ⟨a,xs,rfl,hq,fun t htt=>?_⟩
   obtain⟨R2,x2⟩:=R.grow (Cw htt (.lst (Kr xs l h)))
   exact q _ _ (Cw htt _) (.lst (R.ok htt true) (R.dead htt) CQ (key (rs.ext x2)))
def Dt(S:Store):List D->Option D
 |[x]=>(CN S x).map fun ds=>.int ds.length
 |_=>none
theorem Gu{K:PySem.W.Frag}:Nt K (yW K) Dt:=by
 intro Γ μ σ H env S xs ds d hK R rs e Q q
 unfold Dt at e
 split at e
 .obtain⟨es,e1,e2⟩:=map_some e
  subst e2
  obtain⟨v,rfl,r⟩:=rs.one
  obtain⟨a,xs,rfl,hq,rx⟩:=VR.seq hK R r e1
  refine⟨a,xs,rfl,hq,?_⟩
  rw[rx.length]
  exact q _ H (Same.refl H) (.int _)
 .cases e
def Tp(S:Store):List D->Option D
 |[x]=>(CN S x).map fun ds=>.tup ds
 |_=>none
theorem RQ{K:PySem.W.Frag}:Nt K (ju K) Tp:=by
 intro Γ μ σ H env S xs ds d hK R rs e Q q
 unfold Tp at e
 split at e
 .rename_i x
  obtain⟨es,e1,e2⟩:=map_some e
  subst e2
  obtain⟨v,rfl,r⟩:=rs.one
  rcases VR.bT hK R r e1 with ⟨fs,rfl⟩|⟨a,xs,rfl,hq,rx⟩
  .cases r with
   |@tup p xs _ hp rp=>cases e1;exact⟨p,xs,rfl,.inr ⟨SqT.of hp,q _ H (Same.refl H) (.tup hp rp)⟩⟩
  .refine⟨a,xs,rfl,.inl ⟨hq,fun l hl=>?_⟩⟩
   obtain⟨R2,x2⟩:=R.grow (Cw hl (.tup xs))
   exact q _ _ (Cw hl _) (.tup CQ (rx.ext x2))
 .cases e
def Nr(S:Store):List D->Option D
 |[x]=>(listOf S x).bind fun ds=>(boolsOf ds).map fun bs=>.bl (bs.all id)
 |_=>none
where boolsOf:List D->Option (List Bool)
 |[]=>some []
 |.bl b::r=>(boolsOf r).map (b::·)
 |_=>none
@[simp] theorem aC(bs:List Bool):Nr.boolsOf (bs.map D.bl)=some bs:=by
 induction bs with
 |nil=>rfl
 |cons b r ih=>rw[List.map_cons,Nr.boolsOf,ih];rfl
theorem Te{Γ:Fr}{μ:Mu}{H:Hp}:∀{xs:List V} {ds:List D} {bs:List Bool},VRs Γ μ H xs ds->Nr.boolsOf ds=some bs->xs=bs.map V.bl
 |_,[],_,.nil,h=>by cases h;rfl
 |_,.bl b::r,bs,.cons q t,h=>by
  rw[Nr.boolsOf] at h
  obtain⟨cs,e1,e2⟩:=map_some h
  subst e2
  cases q
  rw[List.map_cons,Te t e1]
 |_,.non::_,_,_,h=>by cases h
 |_,.int _::_,_,_,h=>by cases h
 |_,.str _::_,_,_,h=>by cases h
 |_,.ty _::_,_,_,h=>by cases h
 |_,.tup _::_,_,_,h=>by cases h
 |_,.lst _ _::_,_,_,h=>by cases h
 |_,.ref _::_,_,_,h=>by cases h
 |_,.scr _::_,_,_,h=>by cases h
 |_,.emp::_,_,_,h=>by cases h
def yc(K:PySem.W.Frag):List V->Hp->VK->Prop:=fun xs H Q=>∃(p:Addr)(bs:List Bool),xs=[.ref p]/\SqL K H p (bs.map V.bl)/\Q (.bl (bs.all id)) H
theorem aX{K:PySem.W.Frag}:Nt K (yc K) Nr:=by
 intro Γ μ σ H env S xs ds d hK R rs e Q q
 unfold Nr at e
 split at e
 .obtain⟨es,e1,e⟩:=bind_some e
  obtain⟨bs,e2,e3⟩:=map_some e
  subst e3
  obtain⟨v,rfl,r⟩:=rs.one
  obtain⟨a,xs,rfl,ha,rx⟩:=VR.list R r e1
  have:=Te rx e2
  subst this
  exact⟨a,bs,rfl,SqL.of ha,q _ H (Same.refl H) (.bl _)⟩
 .cases e
def Xm(_:Store):List D->Option D
 |[.int i,.int j]=>some (.int (if j>i then j else i))
 |_=>none
def Uk(_:Store):List D->Option D
 |[.int i,.int j]=>some (.int (if j<i then j else i))
 |_=>none
def PK(_:Store):List D->Option D
 |[.int i]=>some (.int i)
 |[.bl k]=>some (.int (if k then 1 else 0))
 |_=>none
theorem jo{K:PySem.W.Frag}:Nt K (fun xs H Q=>∃i j,xs=[.int i,.int j]/\Q (.int (if j>i then j else i)) H) Xm:=by
 intro Γ μ σ H env S xs ds d hK R rs e Q q
 unfold Xm at e
 split at e
 .cases e
  obtain⟨v,u,rfl,r1,r2⟩:=rs.two
  cases r1;cases r2
  exact⟨_,_,rfl,q _ H (Same.refl H) (.int _)⟩
 .cases e
theorem YW{K:PySem.W.Frag}:Nt K (fun xs H Q=>∃i j,xs=[.int i,.int j]/\Q (.int (if j<i then j else i)) H) Uk:=by
 intro Γ μ σ H env S xs ds d hK R rs e Q q
 unfold Uk at e
 split at e
 .cases e
  obtain⟨v,u,rfl,r1,r2⟩:=rs.two
  cases r1;cases r2
  exact⟨_,_,rfl,q _ H (Same.refl H) (.int _)⟩
 .cases e
theorem aW{K:PySem.W.Frag}:Nt K (fun xs H Q=>(∃i,xs=[.int i]/\Q (.int i) H)∨∃k,xs=[.bl k]/\Q (.int (if k then 1 else 0)) H) PK:=by
 intro Γ μ σ H env S xs ds d hK R rs e Q q
 unfold PK at e
 split at e
 .cases e
  obtain⟨v,rfl,r1⟩:=rs.one
  cases r1
  exact .inl ⟨_,rfl,q _ H (Same.refl H) (.int _)⟩
 .cases e
  obtain⟨v,rfl,r1⟩:=rs.one
  cases r1
  exact .inr ⟨_,rfl,q _ H (Same.refl H) (.int _)⟩
 .cases e
def MN:List Int->Option Int
 |[]=>none
 |n::r=>some (r.foldl (fun a b=>if a<b then b else a) n)
theorem qu(r:List Int):∀n:Int,(r.foldl (fun a b=>if a<b then b else a) n=n∨r.foldl (fun a b=>if a<b then b else a) n∈r)/\n<=r.foldl (fun a b=>if a<b then b else a) n/\∀m∈r,m<=r.foldl (fun a b=>if a<b then b else a) n:=by
 induction r with
 |nil=>intro n;exact⟨.inl rfl,Int.le_refl _,fun m h=>by simp at h⟩
 |cons x r ih =>
  intro n
  rw[List.foldl_cons]
  by_cases h:n<x
  .rw[if_pos h]
   obtain⟨h1,h2,h3⟩:=ih x
   refine⟨.inr (by rcases h1 with z|z;(rw[z];exact List.mem_cons_self);exact List.mem_cons_of_mem _ z),by omega,fun m hm=>?_⟩
   rcases List.mem_cons.mp hm with z|z
   .rw[z];exact h2
   .exact h3 m z
  .rw[if_neg h]
   obtain⟨h1,h2,h3⟩:=ih n
   refine⟨by rcases h1 with z|z;exact .inl z;exact .inr (List.mem_cons_of_mem _ z),h2,fun m hm=>?_⟩
   rcases List.mem_cons.mp hm with z|z
   .rw[z];omega
   .exact h3 m z
theorem bA{ns:List Int}{m:Int}(h:MN ns=some m):m∈ns/\∀n∈ns,n<=m:=by
 cases ns with
 |nil=>cases h
 |cons x r =>
  cases h
  obtain⟨h1,h2,h3⟩:=qu r x
  refine⟨by rcases h1 with z|z;(rw[z];exact List.mem_cons_self);exact List.mem_cons_of_mem _ z,fun n hn=>?_⟩
  rcases List.mem_cons.mp hn with z|z
  .rw[z];exact h2
  .exact h3 n z
def Xr(K:PySem.W.Frag)(r:List V->Hp->VK->Prop)(g:Store->List D->Option (List D)):Prop:=∀(Γ:Fr)(μ:Mu)(σ:St)(H:Hp)(env:Env)(S:Store)(xs:List V)(ds es:List D),Γ.K=K->Rep Γ μ σ H env S->VRs Γ μ H xs ds->g S ds=some es ->
 ∀Q:VK,(∀l ys,H l=none->VRs Γ μ H ys es->Q (.ref l) (upd H l (.lst ys)))->r xs H Q
def Xl(g:Store->List D->Option (List D))(a:Bb):Az:=fun env S=>(a env S).bind fun p=>(g p.2 p.1).map fun es=>(.lst true es,p.2)
def Xk(g:Store->List D->Option (List D))(a:Bb):Az:=fun env S=>(a env S).bind fun p=>(g p.2 p.1).map fun es=>(.ref p.2.length,p.2++[some es])
theorem nY{K:PySem.W.Frag}{r:List V->Hp->VK->Prop}{g:Store->List D->Option (List D)}{f:Bb}(hs:Xr K r g){σ:St}{H:Hp}{Q:VK}(h:wpE K (Xl g f) σ H Q):tCB r (wpA K f) σ H Q:=by
 obtain⟨Γ,μ,env,S,d,S',hK,R,e,q⟩:=h
 obtain⟨⟨x,S1⟩,e1,e⟩:=bind_some e
 obtain⟨z,e4,e⟩:=map_some e
 cases e
 refine⟨Γ,μ,env,S,x,S1,hK,R,e1,fun v1 μ1 H1 x1 R1 r1=>?_⟩
 refine hs Γ μ1 σ H1 env S1 v1 x _ hK R1 r1 e4 Q fun l ys hl ry=>?_
 obtain⟨R4,x4⟩:=R1.grow (Cw hl (.lst ys))
 exact q _ μ1 _ (x1.trans x4) R4 (.lst (R1.ok hl true) (R1.dead hl) CQ (ry.ext x4))
theorem nW{K:PySem.W.Frag}{r:List V->Hp->VK->Prop}{g:Store->List D->Option (List D)}{f:Bb}(hs:Xr K r g){σ:St}{H:Hp}{Q:VK}(h:wpE K (Xk g f) σ H Q):tCB r (wpA K f) σ H Q:=by
 obtain⟨Γ,μ,env,S,d,S',hK,R,e,q⟩:=h
 obtain⟨⟨x,S1⟩,e1,e⟩:=bind_some e
 obtain⟨z,e4,e⟩:=map_some e
 cases e
 refine⟨Γ,μ,env,S,x,S1,hK,R,e1,fun v1 μ1 H1 x1 R1 r1=>?_⟩
 refine hs Γ μ1 σ H1 env S1 v1 x _ hK R1 r1 e4 Q fun l ys hl ry=>?_
 obtain⟨R4,x4⟩:=R1.laid hl ry
 exact q _ _ _ (x1.trans x4) R4 (Vu R1.slen)
section
variable{X:Cx}{x:Str}{p pos:Pos}{e:Expr}{es:List Expr}{T:String}{f:Bb}{r:List V->Hp->VK->Prop}{g:Store->List D->Option (List D)}
theorem qL(hc:Dl X (.type T) r)(hsm:Xr X.K r g)(hg:Gl X x)(hm:X.mg x=none)(hv:bootBuiltins x=some (.type T))(ha:JA X (e::es) f)(hn:x≠"__name__":=by decide)(hdb:(x==("__debug__":Str))=false:=by decide)
  (he:starEach (e::es) X.env=(false,eval e X.env)::starEach es X.env:=by rfl) (hpl:(backTo pos (starEach es X.env)).any (·.1)=false:=by rfl):JE X (.Call (.Name x p) (e::es) [] pos) (Xl g f) :=
 ⟨PE.imp (Km hc hg hm hv ha.pa hn hdb he hpl) fun _ _ _ h=>nY hsm h⟩
theorem qK(hc:Dl X (.type T) r)(hsm:Xr X.K r g)(hg:Gl X x)(hm:X.mg x=none)(hv:bootBuiltins x=some (.type T))(ha:JA X (e::es) f)(hn:x≠"__name__":=by decide)(hdb:(x==("__debug__":Str))=false:=by decide)
  (he:starEach (e::es) X.env=(false,eval e X.env)::starEach es X.env:=by rfl) (hpl:(backTo pos (starEach es X.env)).any (·.1)=false:=by rfl):JE X (.Call (.Name x p) (e::es) [] pos) (Xk g f) :=
 ⟨PE.imp (Km hc hg hm hv ha.pa hn hdb he hpl) fun _ _ _ h=>nW hsm h⟩
end
def nList(S:Store):List D->Option (List D)
 |[x]=>CN S x
 |_=>none
theorem YX{K:PySem.W.Frag}:Xr K (oO K) nList:=by
 intro Γ μ σ H env S xs ds es hK R rs e Q q
 unfold nList at e
 split at e
 .obtain⟨v,rfl,r⟩:=rs.one
  obtain⟨a,ys,rfl,hq,ry⟩:=VR.seq hK R r e
  exact⟨a,ys,rfl,hq,fun l hl=>q l ys hl ry⟩
 .cases e
end VS
end
section
namespace VS
open PySem PySem.Spec L2
mutual
def toP:D->Option PyData
 |.non=>some .none
 |.bl b=>some (.bool b)
 |.int i=>some (.int i)
 |.str x=>some (.str x)
 |.tup ds=>(Ij ds).map .tuple
 |.lst _ ds=>(Ij ds).map .list
 |.emp=>some (.dict [])
 |.ref _=>none
 |.scr _=>none
 |.ty _=>none
def Ij:List D->Option (List PyData)
 |[]=>some []
 |d::r=>(toP d).bind fun x=>(Ij r).bind fun xs=>some (x::xs)
end
mutual
theorem VR.tr{Γ:Fr}{μ:Mu}{H:Hp}:∀{v:V} {d:D} {p:PyData},VR Γ μ H v d->toP d=some p->Tr (fun _=>True) H v p
 |_,_,_,.non,h=>by rw[toP] at h;cases h;exact .non
 |_,_,_,.bl b,h=>by rw[toP] at h;cases h;exact .bl b
 |_,_,_,.int i,h=>by rw[toP] at h;cases h;exact .int i
 |_,_,_,.str x,h=>by rw[toP] at h;cases h;exact .str x
 |_,_,_,.ty _,h=>by rw[toP] at h;cases h
 |_,_,_,.tup hb t,h=>by
  rw[toP] at h
  obtain⟨ps,e1,e2⟩:=map_some h
  subst e2
  exact .tup trivial hb (VRs.tr t e1)
 |_,_,_,.lst _ _ hb t,h=>by
  rw[toP] at h
  obtain⟨ps,e1,e2⟩:=map_some h
  subst e2
  exact .lst trivial hb (VRs.tr t e1)
 |_,_,_,.ref _ _,h=>by rw[toP] at h;cases h
 |_,_,_,.scrK _,h=>by rw[toP] at h;cases h
 |_,_,_,.scrR _ _,h=>by rw[toP] at h;cases h
 |_,_,_,.emp _ hb,h=>by rw[toP] at h;cases h;exact .dct trivial hb
theorem VRs.tr{Γ:Fr}{μ:Mu}{H:Hp}:∀{v:List V} {d:List D} {p:List PyData},VRs Γ μ H v d->Ij d=some p->Kw (fun _=>True) H v p
 |_,_,_,.nil,h=>by rw[Ij] at h;cases h;exact .nil
 |_,_,_,.cons r t,h=>by
  rw[Ij] at h
  obtain⟨x,e1,h⟩:=bind_some h
  obtain⟨xs,e2,h⟩:=bind_some h
  cases h
  exact .cons (VR.tr r e1) (VRs.tr t e2)
end
def DG(S:Store)(d:D):Option PyData:=(den 0 S d).bind toP
theorem VR.see{Γ:Fr}{μ:Mu}{σ:St}{H:Hp}{env:Env}{S:Store}{v:V}{d:D}{p:PyData}(R:Rep Γ μ σ H env S)(r:VR Γ μ H v d)(h:DG S d=some p):Tr (fun _=>True) H v p:=by
 obtain⟨e,e1,e2⟩:=bind_some h
 have r1:VR ⟨Γ.K,fun _=>none,fun _=>True,[]⟩ [] H v e:=VR.den (Γ':=⟨Γ.K,fun _=>none,fun _=>True,[]⟩) R rfl (fun i ds a _ hs=>⟨hs,fun z=>⟨JV,⟨fun _=>rfl,.inl trivial⟩⟩⟩) (fun m a _ _=>⟨fun _=>rfl,.inl trivial⟩) (fun a o _ _=>JV) r e1
 exact r1.tr e2
def eqP(neg:Bool)(S:Store)(x y:D):Option D:=(DG S x).bind fun p=>(DG S y).bind fun q=>if (SeqAt.shaped p&&SeqAt.shaped q)=true then some (.bl (neg ^^ PyData.eqv p q)) else none
def oEq(neg:Bool)(S:Store):D->D->Option D
 |.int i,.int j=>some (.bl (neg ^^ decide (i=j)))
 |x,y=>eqP neg S x y
def yZ:R2:=fun x y H Q=>∃(N N':Addr->Prop)(d e:PyData),Tr N H x d/\Tr N' H y e/\SeqAt.shaped d=true/\SeqAt.shaped e=true/\Q (.bl (PyData.eqv d e)) H
def yV:R2:=fun x y H Q=>∃(N N':Addr->Prop)(d e:PyData),Tr N H x d/\Tr N' H y e/\SeqAt.shaped d=true/\SeqAt.shaped e=true/\Q (.bl (!PyData.eqv d e)) H
def tK:R2:=fun x y H Q=>rEq x y H Q∨yZ x y H Q
def tD:R2:=fun x y H Q=>rNe x y H Q∨yV x y H Q
theorem Gk{X:Cx}{k:Nat}(hr:Fj k X.A):OpR X (compareOp .Eq) tK:=OpR.or xM (ug hr)
theorem Px{X:Cx}{k:Nat}(hr:Fj k X.A):OpR X (compareOp .NotEq) tD:=OpR.or xJ (ud hr)
theorem Gj{K:PySem.W.Frag}:GD K tK (oEq false):=by
 intro Γ μ σ H env S x y dx dy d hK R rx ry e Q q
 unfold oEq at e
 split at e
 .rename_i i j
  cases e;cases rx;cases ry
  refine .inl ⟨rfl,?_⟩
  have:decide (V.int i=V.int j)=decide (i=j):=by simp
  rw[this]
  exact q _ H (Same.refl H) (by simpa using VR.bl (decide (i=j)))
 .unfold eqP at e
  obtain⟨p,e1,e⟩:=bind_some e
  obtain⟨p2,e2,e⟩:=bind_some e
  by_cases h:(SeqAt.shaped p&&SeqAt.shaped p2)=true
  .rw[if_pos h] at e
   cases e
   rw[Bool.and_eq_true] at h
   exact .inr ⟨_,_,p,p2,rx.see R e1,ry.see R e2,h.1,h.2,q _ H (Same.refl H) (by simpa using VR.bl (PyData.eqv p p2))⟩
  .rw[if_neg h] at e;cases e
theorem Pr{K:PySem.W.Frag}:GD K tD (oEq true):=by
 intro Γ μ σ H env S x y dx dy d hK R rx ry e Q q
 unfold oEq at e
 split at e
 .rename_i i j
  cases e;cases rx;cases ry
  refine .inl ⟨rfl,?_⟩
  have:decide (V.int i=V.int j)=decide (i=j):=by simp
  rw[this]
  exact q _ H (Same.refl H) (by simpa using VR.bl (!decide (i=j)))
 .unfold eqP at e
  obtain⟨p,e1,e⟩:=bind_some e
  obtain⟨p2,e2,e⟩:=bind_some e
  by_cases h:(SeqAt.shaped p&&SeqAt.shaped p2)=true
  .rw[if_pos h] at e
   cases e
   rw[Bool.and_eq_true] at h
   exact .inr ⟨_,_,p,p2,rx.see R e1,ry.see R e2,h.1,h.2,q _ H (Same.refl H) (by simpa using VR.bl (!PyData.eqv p p2))⟩
  .rw[if_neg h] at e;cases e
def Xo(D:List (PyData×PyData))(_:Store):VS.D->Option VS.D
 |.int i=>some (.bl (lookup (.int i) D).isSome)
 |_=>none
def Uq(D:List (PyData×PyData))(_:Store):VS.D->Option VS.D
 |.int i=>match lookup (.int i) D with|some (.int j)=>some (.int j)|_=>none
 |_=>none
section
variable{X:Cx}{a:Expr}{fa:Az}{x:Str}{p pos:Pos}{dM:Addr}{D:List (PyData×PyData)}
theorem tZ{K:PySem.W.Frag}{σ:St}{H:Hp}{Q:VK}(h:wpE K (eUn (Xo D) fa) σ H Q):tOp (fun x y H Q=>∃(i:Int),x=.int i/\y=.ref dM/\Q (.bl (lookup (.int i) D).isSome) H) (wpE K fa) (tC (.ref dM)) σ H Q:=by
 obtain⟨Γ,μ,env,S,d,S',hK,R,e,q⟩:=h
 obtain⟨⟨y,S1⟩,e1,e⟩:=bind_some e
 obtain⟨z,e3,e⟩:=map_some e
 cases e
 refine⟨Γ,μ,env,S,y,S1,hK,R,e1,fun v1 μ1 H1 x1 R1 r1=>?_⟩
 dsimp only at e3
 unfold Xo at e3
 split at e3
 .cases e3;cases r1;exact⟨_,rfl,rfl,q _ μ1 H1 x1 R1 (.bl _)⟩
 .cases e3
theorem lY(hT:∀h,X.K.In h->PyProof.Rows.IntTab X.prog X.w h dM D)(ha:JE X a fa)(hg:Gl X x)(hm:X.mg x=some (.ref dM))(hk:behindInMarks .In (.Name x p)=false:=by with_unfolding_all rfl)(hd:(x==("__debug__":Str))=false:=by decide):JE X (.Compare a [.In] [.Name x p] pos) (eUn (Xo D) fa) :=
 ⟨PE.imp (aq (kh hT) ha.pe (ao (v:=.ref dM) hg hm rfl hd) hk) fun _ _ _ h=>tZ h⟩
theorem lX(hT:∀h,X.K.In h->PyProof.Rows.IntTab X.prog X.w h dM D)(hb:JE X a fa)(hg:Gl X x)(hm:X.mg x=some (.ref dM))(hs:Sh a)(hd:(x==("__debug__":Str))=false:=by decide)
  (hgo:∀r,letTemporaryGo (.Name x p) (.ref dM) r=pure ():=by intro _;with_unfolding_all rfl):JE X (.Subscript (.Name x p) a pos) (eUn (Uq D) fa) :=
 ⟨PE.imp (kW hT (ao (v:=.ref dM) hg hm rfl hd) hb.pe hs hgo) fun σ H Q h=>by
  obtain⟨Γ,μ,env,S,d,S',hK,R,e,q⟩:=h
  obtain⟨⟨y,S1⟩,e1,e⟩:=bind_some e
  obtain⟨z,e3,e⟩:=map_some e
  cases e
  refine⟨Γ,μ,env,S,y,S1,hK,R,e1,fun v1 μ1 H1 x1 R1 r1=>?_⟩
  dsimp only at e3
  unfold Uq at e3
  split at e3
  .split at e3
   .rename_i hl
    cases e3;cases r1;exact⟨_,_,rfl,rfl,hl,q _ μ1 H1 x1 R1 (.int _)⟩
   .cases e3
  .cases e3⟩
end
def isT(T:String)(d:PyData):Bool:=match T with
 |"str"=>(match d with|.str _=>true|_=>false)
 |T=>Xp T d
theorem qH{K:PySem.W.Frag}(d:PyData):PySem.W.kitOne K (.type (tyName d)) (.type "str")=some (isT "str" d):=by
 cases d with
 |none=>exact Ce (a:="NoneType") (r:=false) (by decide +kernel)
 |bool _=>exact Ce (a:="bool") (r:=false) (by decide +kernel)
 |int _=>exact Ce (a:="int") (r:=false) (by decide +kernel)
 |str _=>exact Ce (a:="str") (r:=true) (by decide +kernel)
 |list _=>exact Ce (a:="list") (r:=false) (by decide +kernel)
 |tuple _=>exact Ce (a:="tuple") (r:=false) (by decide +kernel)
 |dict _=>exact Ce (a:="dict") (r:=false) (by decide +kernel)
def Hl(S:Store):List D->Option D
 |[x,.ty "int"]=>(DG S x).map fun p=>.bl (isT "int" p)
 |[x,.ty "bool"]=>(DG S x).map fun p=>.bl (isT "bool" p)
 |[x,.ty "tuple"]=>(DG S x).map fun p=>.bl (isT "tuple" p)
 |[x,.ty "list"]=>(DG S x).map fun p=>.bl (isT "list" p)
 |[x,.ty "str"]=>(DG S x).map fun p=>.bl (isT "str" p)
 |[x,.tup [.ty "tuple",.ty "list"]]=>(DG S x).bind fun p=>if noDict p=true then some (.bl (isSeq p)) else none
 |_=>none
def yX(K:PySem.W.Frag):List V->Hp->VK->Prop:=fun xs H Q=>∃(x:V)(T:String)(t:Value)(b:Bool),xs=[x,.ty T]/\KR K H x t/\PySem.W.kitOne K t (.type T)=some b/\Q (.bl b) H
def wW:List V->Hp->VK->Prop:=fun xs H Q=>∃(N:Addr->Prop)(x:V)(d:PyData)(p:Addr),xs=[x,.ref p]/\H p=some (.tup [.ty "tuple",.ty "list"])/\Tr N H x d/\noDict d=true/\Q (.bl (isSeq d)) H
def cJ(K:PySem.W.Frag):List V->Hp->VK->Prop:=fun xs H Q=>yX K xs H Q∨wW xs H Q
theorem HF{X:Cx}:Dl X (.builtin "isinstance") (cJ X.K):=Dl.or aA Xb
theorem IV{K:PySem.W.Frag}:Nt K (cJ K) Hl:=by
 intro Γ μ σ H env S xs ds d hK R rs e Q q
 have go:∀(T:String)(x:D),(∀p:PyData,PySem.W.kitOne K (.type (tyName p)) (.type T)=some (isT T p))->ds=[x,.ty T]->((DG S x).map fun p=>D.bl (isT T p))=some d->cJ K xs H Q:=fun T x hk hd e'=>by
  subst hd
  obtain⟨p,e1,e2⟩:=map_some e'
  subst e2
  obtain⟨v,u,rfl,r1,r2⟩:=rs.two
  cases r2
  exact .inl ⟨v,T,_,_,rfl,(r1.see R e1).ty,hk p,q _ H (Same.refl H) (.bl _)⟩
 unfold Hl at e
 split at e
 .exact go "int" _ qI rfl e
 .exact go "bool" _ lO rfl e
 .exact go "tuple" _ kit_tuple rfl e
 .exact go "list" _ lN rfl e
 .exact go "str" _ qH rfl e
 .obtain⟨p,e1,e⟩:=bind_some e
  by_cases h:noDict p=true
  .rw[if_pos h] at e
   cases e
   obtain⟨v,u,rfl,r1,r2⟩:=rs.two
   cases r2 with
   |@tup a ys _ ha ry =>
    cases ry with
    |cons q1 t1 =>
     cases t1 with
     |cons q2 t2 =>
      cases t2;cases q1;cases q2
      exact .inr ⟨_,v,p,a,rfl,ha,r1.see R e1,h,q _ H (Same.refl H) (.bl _)⟩
  .rw[if_neg h] at e;cases e
 .cases e
def GX(ns:List Int):List Int:=(SetP.once ns).mergeSort fun a b=>decide (a<=b)
theorem Uw{ns ms:List Int}(h:ms.Perm (SetP.once ns))(s:ms.Pairwise (·<=·)):ms=GX ns:=by
 have h2:(GX ns).Perm (SetP.once ns):=List.mergeSort_perm _ _
 have s2:(GX ns).Pairwise (·<=·):=by
  have:=List.pairwise_mergeSort (le:=fun a b:Int=>decide (a<=b)) (by intro a b c h1 h2;simp at *;omega) (by intro a b;simp;omega) (SetP.once ns)
  exact this.imp fun h=>by simpa using h
 exact List.Perm.eq_of_pairwise (fun a b _ _ h1 h2=>Int.le_antisymm h1 h2) s s2 (h.trans h2.symm)
def U9(a:Az):Az:=fun env S=>(a env S).bind fun p=>(listOf p.2 p.1).bind fun ds=>(intsOf ds).bind fun ns=>if ns.length<1000/\(SetP.once ns).length<64 then some (.lst true ((GX ns).map .int),p.2) else none
theorem dI{X:Cx}{a:Expr}{f:Az}{p p2 pos pos2:Pos}(hc:X.calm=true)(ha:JE X a f)(hg:Gl X "sorted")(hm:X.mg "sorted"=none)(hg2:Gl X "set")(hm2:X.mg "set"=none) 
  (he:starEach [a] X.env=[(false,eval a X.env)]:=by rfl) (he2:starEach [.Call (.Name "set" p2) [a] [] pos2] X.env=[(false,eval (.Call (.Name "set" p2) [a] [] pos2) X.env)]:=by rfl):JE X (.Call (.Name "sorted" p) [.Call (.Name "set" p2) [a] [] pos2] [] pos) (U9 f) :=
 ⟨PE.imp (Yd (W9 hc) hg hm iw (Q8 (Km (mQ hc) hg2 hm2 vR (Q8 ha.pe R7 he) (he:=he) (hpl:=rfl)) R7 he2) (he:=he2) (hpl:=rfl)) fun σ H Q h=>by
  obtain⟨Γ,μ,env,S,d,S',hK,R,e,q⟩:=h
  obtain⟨⟨y,S1⟩,e1,e⟩:=bind_some e
  obtain⟨ds,e2,e⟩:=bind_some e
  obtain⟨ns,e3,e⟩:=bind_some e
  by_cases hl:ns.length<1000/\(SetP.once ns).length<64
  .rw[if_pos hl] at e
   cases e
   refine⟨Γ,μ,env,S,y,_,hK,R,e1,fun v1 μ1 H1 x1 R1 r1=>?_⟩
   obtain⟨b,xs,rfl,hb,rb⟩:=VR.list R1 r1 e2
   have:=Hs e3
   subst this
   have:=rb.QM
   subst this
   refine⟨b,ns,rfl,SqL.of hb,hl.1,fun s hs=>?_⟩
   obtain⟨R2,x2⟩:=R1.grow (Cw hs (Xn X.prog X.w s (SetP.once ns)))
   refine⟨s,_,rfl,CQ,hl.2,fun l ms hl' hp hsrt=>?_⟩
   have:=Uw hp hsrt
   subst this
   obtain⟨R3,x3⟩:=R2.grow (Cw hl' (.lst ((GX ns).map V.int)))
   exact q _ μ1 _ (x1.trans (x2.trans x3)) R3 (.lst (R2.ok hl' true) (R2.dead hl') CQ (VRs.ints _))
  .rw[if_neg hl] at e;cases e⟩
def Hi(a:Bb):Az:=fun env S=>(a env S).bind fun p=>match p.1 with
 |[.int j]=>if r62 j/\j.toNat<=1000 then some (.lst true (upD 0 j.toNat),p.2) else none
 |[.int i,.int j]=>if r62 i/\r62 j/\(j-i).toNat<=1000 then some (.lst true (upD i (j-i).toNat),p.2) else none
 |_=>none
theorem nj{Γ:Fr}{μ:Mu}{H:Hp}(lo:Int)(n:Nat):VRs Γ μ H ((upTo lo n).map V.int) (upD lo n):=by
 have:upD lo n=(upTo lo n).map D.int:=by unfold upD L2.upTo;rw[List.map_map];rfl
 rw[this];exact VRs.ints _
def Yc:List V->Hp->VK->Prop:=fun xs H Q=>(∃(n:Int),xs=[.int n]/\∀p,H p=none->Q (.ref p) (upd H p (.rng 0 n)))∨∃(a b:Int),xs=[.int a,.int b]/\∀p,H p=none->Q (.ref p) (upd H p (.rng a b))
theorem ZV{X:Cx}:Dl X (.type "range") Yc:=Dl.or Zz Zy
theorem Z8{K:PySem.W.Frag}{f:Bb}{σ:St}{H:Hp}{Q:VK} (h:∃Γ μ env S ds S',Γ.K=K/\Rep Γ μ σ H env S/\f env S=some (ds,S')/\∃lo n,((∃j,ds=[.int j]/\r62 j/\j.toNat<=1000/\lo=0/\n=j.toNat)∨∃i j,ds=[.int i,.int j]/\r62 i/\r62 j/\(j-i).toNat<=1000/\lo=i/\n=(j-i).toNat) /\
   ∀μ' H',Ext μ H μ' H'->Rep Γ μ' σ H' env S'->∀l,H' l=none->Q (.ref l) (upd H' l (.lst ((upTo lo n).map V.int)))) :
  tCB (fun xs H Q=>∃(r:Addr)(lo hi:Int),xs=[.ref r]/\H r=some (.rng lo hi)/\-(2^62)<=lo/\lo<2^62/\-(2^62)<=hi/\hi<2^62/\(hi-lo).toNat<=1000/\∀l,H l=none->Q (.ref l) (upd H l (.lst ((upTo lo (hi-lo).toNat).map V.int)))) (mY (tCB Yc (wpA K f)) sI) σ H Q:=by
 obtain⟨Γ,μ,env,S,ds,S',hK,R,e1,lo,n,hc,q⟩:=h
 refine⟨Γ,μ,env,S,ds,S',hK,R,e1,fun vs μ1 H1 x1 R1 r1=>?_⟩
 rcases hc with ⟨j,rfl,h1,h2,rfl,rfl⟩|⟨i,j,rfl,h1,h2,h3,rfl,rfl⟩
 .obtain⟨v,rfl,r⟩:=r1.one
  cases r
  refine .inl ⟨j,rfl,fun p hp=>⟨p,0,j,rfl,CQ,by decide,by decide,h1.1,h1.2,by simpa using h2,fun l hl=>?_⟩⟩
  obtain⟨R2,x2⟩:=R1.grow (Cw hp (.rng 0 j))
  have:=q μ1 _ (x1.trans x2) R2 l hl
  simpa using this
 .obtain⟨v,u,rfl,r,r'⟩:=r1.two
  cases r
  cases r'
  refine .inr ⟨lo,j,rfl,fun p hp=>⟨p,lo,j,rfl,CQ,h1.1,h1.2,h2.1,h2.2,h3,fun l hl=>?_⟩⟩
  obtain⟨R2,x2⟩:=R1.grow (Cw hp (.rng lo j))
  exact q μ1 _ (x1.trans x2) R2 l hl
section
variable{X:Cx}{a:Expr}{as:List Expr}{f:Bb}{p p2 pos pos2:Pos}
theorem Rq(hc:X.calm=true)(ha:JA X (a::as) f)(hg:Gl X "list")(hm:X.mg "list"=none)(hg2:Gl X "range")(hm2:X.mg "range"=none)
  (he:starEach (a::as) X.env=(false,eval a X.env)::starEach as X.env:=by rfl) (hpl:(backTo pos2 (starEach as X.env)).any (·.1)=false:=by rfl) (he2:starEach [.Call (.Name "range" p2) (a::as) [] pos2] X.env=[(false,eval (.Call (.Name "range" p2) (a::as) [] pos2) X.env)]:=by rfl) :
  JE X (.Call (.Name "list" p) [.Call (.Name "range" p2) (a::as) [] pos2] [] pos) (Hi f) :=
 ⟨PE.imp (Km (WD hc) hg hm QC (Q8 (Km ZV hg2 hm2 mU ha.pa (he:=he) (hpl:=hpl)) R7 he2) (he:=he2) (hpl:=rfl)) fun σ H Q h=>by
  obtain⟨Γ,μ,env,S,d,S',hK,R,e,q⟩:=h
  obtain⟨⟨ds,S1⟩,e1,e⟩:=bind_some e
  refine Z8 ⟨Γ,μ,env,S,ds,S1,hK,R,e1,?_⟩
  have fin:∀lo n,d=.lst true (upD lo n)->S1=S'->∀μ' H',Ext μ H μ' H'->Rep Γ μ' σ H' env S1->∀l,H' l=none->Q (.ref l) (upd H' l (.lst ((upTo lo n).map V.int))):=fun lo n hd hs μ' H' x' R' l hl=>by
   subst hd hs
   obtain⟨R2,x2⟩:=R'.grow (Cw hl (.lst ((upTo lo n).map V.int)))
   exact q _ μ' _ (x'.trans x2) R2 (.lst (R'.ok hl true) (R'.dead hl) CQ (nj lo n))
  dsimp only at e
  split at e
  .rename_i j
   by_cases hj:r62 j/\j.toNat<=1000
   .rw[if_pos hj] at e;cases e
    exact⟨0,_,.inl ⟨j,rfl,hj.1,hj.2,rfl,rfl⟩,fin _ _ rfl rfl⟩
   .rw[if_neg hj] at e;cases e
  .rename_i i j
   by_cases hj:r62 i/\r62 j/\(j-i).toNat<=1000
   .rw[if_pos hj] at e;cases e
    exact⟨i,_,.inr ⟨i,j,rfl,hj.1,hj.2.1,hj.2.2,rfl,rfl⟩,fin _ _ rfl rfl⟩
   .rw[if_neg hj] at e;cases e
  .cases e⟩
end
end VS
end
section
namespace VS
open PySem PySem.Spec L2
def Um(K:PySem.W.Frag):Sp:=fun vs H Q _=>∃(l:Addr)(ns:List Int),vs=[.ref l]/\Only H/\ns.length<=63/\SqL K H l (ns.map V.int)/\∀H',Q (.bl true) H'
theorem v9{K:PySem.W.Frag}{sem:Cm}(h:∀ns:List Int,ns.length<=63->sem [.scr ns]=some (.bl true)):∀vs H Q E,Um K vs H Q E->spP K sem 1 vs H Q E:=by
 intro vs H Q E ⟨l,ns,e,hO,hl,hq,q⟩
 subst e
 refine⟨fun _=>False,[.scr ns],.bl true,rfl,.cons ?_ .nil,h ns hl,fun v H' sm rv=>?_⟩
 .rcases hq with hq|hq
  .rcases hq with hq|⟨o,hq⟩
   .rcases hO l with z|⟨o,xs,z⟩
    .rw[z] at hq;cases hq
    .rw[z] at hq;cases hq
   .exact .scrR JV hq
  .exact .scrK fun H'=>.inr hq
 .cases rv;exact q H'
theorem qw{P:Program}{w:World}{K:PySem.W.Frag}{mg:Str->Option Value}{base:Heap}{k:Nat}{f:Addr}{fd:FuncData}{ps:List Str}{n:Nat}(hn:n=ps.length):Cp P w K mg base CX0 k f fd ps (spP K (fun _=>none) n) :=
 ⟨fun vs H Q E ⟨_,_,_,hl,_⟩=>hl.trans hn,fun A outer s H args us vs Q E hr e0 hb hv ⟨_,_,_,_,_,e,_⟩=>by cases e⟩
end VS
end
section
namespace VS
open PySem L2
theorem Ji(a b:Ay)(env:VS.Env)(S:Store):VS.Bj a b env S=(a env S).bind fun p=>match p.1 with|.nx=>b p.2.1 p.2.2|f=>some (f,p.2.1,p.2.2):=rfl
theorem Bu(i:Nat)(a:Az)(env:VS.Env)(S:Store):VS.Bf i a env S=(a env S).bind fun p=>some (.nx,env.set i (some p.1),p.2):=rfl
theorem Cq(a:Az)(env:VS.Env)(S:Store):VS.Cu a env S=(a env S).bind fun p=>some (.ret p.1,env,p.2):=rfl
theorem Jx(c:Ey)(a b:Ay)(env:VS.Env)(S:Store):VS.sIf c a b env S=(c env S).bind fun p=>if p.1=true then a env p.2 else b env p.2:=rfl
theorem oM(a:Az)(g:Ka)(env:VS.Env)(S:Store):VS.bU a g env S=(a env S).bind fun p=>(g p.1 env).bind fun e=>some (.nx,e,p.2):=rfl
theorem HW(a:Az)(env:VS.Env)(S:Store):VS.JM a env S=(a env S).bind fun p=>some (.nx,env,p.2):=rfl
theorem Kf(env:VS.Env)(S:Store):VS.En  env S=some (.nx,env,S):=rfl
theorem gF(env:VS.Env)(S:Store):VS.Xz  env S=none:=rfl
theorem Fd(it:KZ)(g:Ka)(b:Ay)(env:VS.Env)(S:Store):VS.Il it g b env S=(it env S).bind fun p=>loop p.1.2 g b p.1.1 env p.2:=rfl
theorem Ja(v o i:Az)(env:VS.Env)(S:Store):VS.Iu v o i env S=(v env S).bind fun p=>(o env p.2).bind fun q=>(i env q.2).bind fun r=>match q.1,r.1 with
 |.ref j,.int k=>(match r.2[j]? with
  |some (some ds)=>(ixN ds.length k).bind fun n=>some (.nx,env,r.2.set j (some (ds.set n p.1)))
  |_=>none)
 |_,_=>none:=rfl
theorem Ao(i:Nat)(env:VS.Env)(S:Store):VS.Ab i env S=(env[i]?.join).map fun d=>(d,S):=rfl
theorem CV(d:D)(env:VS.Env)(S:Store):VS.eC d env S=some (d,S):=rfl
theorem BK(g:Store->D->D->Option D)(a b:Az)(env:VS.Env)(S:Store):VS.eOp g a b env S=(a env S).bind fun p=>(b env p.2).bind fun q=>(g q.2 p.1 q.1).map fun d=>(d,q.2):=rfl
theorem vP(g:Store->D->Option D)(a:Az)(env:VS.Env)(S:Store):VS.eUn g a env S=(a env S).bind fun p=>(g p.2 p.1).map fun d=>(d,p.2):=rfl
theorem BR(env:VS.Env)(S:Store):VS.Ae  env S=some ([],S):=rfl
theorem Ak(a:Az)(r:Bb)(env:VS.Env)(S:Store):VS.Aa a r env S=(a env S).bind fun p=>(r env p.2).bind fun q=>some (p.1::q.1,q.2):=rfl
theorem Ew(g:Store->List D->Option D)(a:Bb)(env:VS.Env)(S:Store):VS.eCB g a env S=(a env S).bind fun p=>(g p.2 p.1).map fun d=>(d,p.2):=rfl
theorem QB(a b:Az)(env:VS.Env)(S:Store):VS.QK a b env S=(a env S).bind fun p=>match p.1 with|.bl true=>b env p.2|.bl false=>some (.bl false,p.2)|_=>none:=rfl
theorem bH(a:Az)(env:VS.Env)(S:Store):VS.bZ a env S=(a env S).bind fun p=>match p.1 with|.bl c=>some (.bl (!c),p.2)|_=>none:=rfl
theorem iU(g g':Store->D->D->Option D)(a b c:Az)(env:VS.Env)(S:Store):VS.Uv g g' a b c env S=(a env S).bind fun p=>(b env p.2).bind fun q=>(g q.2 p.1 q.1).bind fun z=>match z with
 |.bl true=>(c env q.2).bind fun r=>(g' r.2 q.1 r.1).map fun d=>(d,r.2)
 |.bl false=>some (.bl false,q.2)
 |_=>none:=rfl
theorem Ef(a:Az)(env:VS.Env)(S:Store):VS.Bh a env S=(a env S).bind fun p=>match p.1 with|.bl c=>some (c,p.2)|_=>none:=rfl
theorem aP(a b:Ey)(env:VS.Env)(S:Store):VS.Jt a b env S=(a env S).bind fun p=>if p.1=true then b env p.2 else some (false,p.2):=rfl
theorem Qz(a b:Ey)(env:VS.Env)(S:Store):VS.tOr a b env S=(a env S).bind fun p=>if p.1=true then some (true,p.2) else b env p.2:=rfl
theorem NZ(a:Ey)(env:VS.Env)(S:Store):VS.Hx a env S=(a env S).bind fun p=>some (!p.1,p.2):=rfl
theorem Yh(env:VS.Env)(S:Store):VS.Mx  env S=some (none,S):=rfl
theorem Yg(a:Az)(env:VS.Env)(S:Store):VS.Mw a env S=(a env S).bind fun p=>match p.1 with|.int i=>some (some i,p.2)|_=>none:=rfl
theorem eX(g:Store->D->Option Int->Option Int->Option D)(a:Az)(l h:Tq)(env:VS.Env)(S:Store):VS.eSl g a l h env S=(a env S).bind fun p=>(l env p.2).bind fun q=>(h env q.2).bind fun r=>(g r.2 p.1 q.1 r.1).map fun d=>(d,r.2):=rfl
theorem Cr(a:Bb)(env:VS.Env)(S:Store):VS.Bm a env S=(a env S).bind fun p=>some (.lst true p.1,p.2):=rfl
theorem Nh(a:Bb)(env:VS.Env)(S:Store):VS.Hj a env S=(a env S).bind fun p=>some (.ref p.2.length,p.2++[some p.1]):=rfl
theorem Ia(a:Bb)(env:VS.Env)(S:Store):VS.Bl a env S=(a env S).bind fun p=>some (.tup p.1,p.2):=rfl
theorem Gs(sem:Cm)(a:Bb)(env:VS.Env)(S:Store):VS.BJ sem a env S=(a env S).bind fun p=>(Ck 0 p.2 p.1).bind fun ds=>(sem (Bg ds)).bind fun r=>if (Aq p.1||newD r)=true then some (r,p.2) else none:=rfl
theorem MF(sem:JN)(a:Bb)(env:VS.Env)(S:Store):VS.BW sem a env S=(a env S).bind fun p=>match p.1 with
 |.ref i::rest=>(match p.2[i]? with
  |some (some cs)=>(intsOf cs).bind fun ns=>(Ck 0 (p.2.set i none) rest).bind fun ds=>(sem ns (Bg ds)).bind fun r=>if (Aq rest||newD r.1)=true then some (r.1,p.2.set i (some (r.2.map D.int))) else none
  |_=>none)
 |_=>none:=rfl
theorem iR(sem:Cm)(a:Bb)(env:VS.Env)(S:Store):VS.Nz sem a env S=(BJ sem a env S).bind fun p=>(MJ p.2.length p.1).bind fun q=>some (q.1,p.2++[some q.2]):=rfl
theorem iT(sem:JN)(a:Bb)(env:VS.Env)(S:Store):VS.RD sem a env S=(BW sem a env S).bind fun p=>(MJ p.2.length p.1).bind fun q=>some (q.1,p.2++[some q.2]):=rfl
theorem Yu(g:Store->D->List D->Option (D×Store))(o:Az)(a:Bb)(env:VS.Env)(S:Store):VS.Ga g o a env S=(o env S).bind fun p=>if (listOf p.2 p.1).isSome then (a env p.2).bind fun q=>g q.2 p.1 q.1 else none:=rfl
theorem mH(g:Store->List D->Option (List D))(a:Bb)(env:VS.Env)(S:Store):VS.Xl g a env S=(a env S).bind fun p=>(g p.2 p.1).map fun es=>(.lst true es,p.2):=rfl
theorem mG(g:Store->List D->Option (List D))(a:Bb)(env:VS.Env)(S:Store):VS.Xk g a env S=(a env S).bind fun p=>(g p.2 p.1).map fun es=>(.ref p.2.length,p.2++[some es]):=rfl
theorem Qo(a:Bb)(env:VS.Env)(S:Store):VS.Hi a env S=(a env S).bind fun p=>match p.1 with
 |[.int j]=>if r62 j/\j.toNat<=1000 then some (.lst true (upD 0 j.toNat),p.2) else none
 |[.int i,.int j]=>if r62 i/\r62 j/\(j-i).toNat<=1000 then some (.lst true (upD i (j-i).toNat),p.2) else none
 |_=>none:=rfl
theorem Zx(a:Az)(env:VS.Env)(S:Store):VS.U9 a env S=(a env S).bind fun p=>(listOf p.2 p.1).bind fun ds=>(intsOf ds).bind fun ns=>if ns.length<1000/\(SetP.once ns).length<64 then some (.lst true ((GX ns).map .int),p.2) else none:=rfl
theorem Ge(a:Az)(env:VS.Env)(S:Store):VS.Dc a env S=(a env S).bind fun p=>(CN p.2 p.1).map fun ds=>((ds,idOf ds p.1),p.2):=rfl
theorem Yn(a:Bb)(env:VS.Env)(S:Store):VS.Oi a env S=(a env S).bind fun p=>match p.1 with
 |[.tup xs,.tup ys]=>some ((DX xs ys,[]),p.2)
 |[x,.tup ys]=>(VS.listOf p.2 x).bind fun xs=>some ((DX xs ys,VS.idOf xs x),p.2)
 |[x,y]=>(listOf p.2 x).bind fun xs=>(listOf p.2 y).bind fun ys=>some ((DX xs ys,idOf xs x++idOf ys y),p.2)
 |_=>none:=rfl
theorem Dg(np n:Nat)(f:Ay)(ds:List D):VS.FN np n f ds=if ds.length=np then (f (ds.map some++List.replicate (n-ds.length) none) []).bind fun p=>match p.1 with|.ret d=>den 0 p.2.2 d|.nx=>some .non|_=>none else none:=rfl
theorem Lj(np n:Nat)(f:Ay)(ns:List Int)(ds:List D):VS.runM np n f ns ds=if ds.length+1=np then (f (some (.ref 0)::(ds.map some++List.replicate (n-1-ds.length) none)) [some (ns.map D.int)]).bind fun p=>match p.2.2[0]? with
 |some (some cs)=>(intsOf cs).bind fun ms=>(match p.1 with|.ret d=>(den 1 p.2.2 d).map fun r=>(r,ms)|.nx=>some (.non,ms)|_=>none)
 |_=>none
 else none:=rfl
theorem Cg(i:Nat)(d:D)(env:VS.Env):Pat.sem (.nm i) d env=some (env.set i (some d)):=by rw[Pat.sem]
theorem Hy(ps:List Pat)(ds:List D)(env:VS.Env):Pat.sem (.tp ps) (.tup ds) env=Ik ps ds env:=by rw[Pat.sem]
theorem G7(env:VS.Env):Ik [] [] env=some env:=by rw[Ik]
theorem Fe(p:Pat)(ps:List Pat)(d:D)(ds:List D)(env:VS.Env):Ik (p::ps) (d::ds) env=(Pat.sem p d env).bind fun e=>Ik ps ds e:=by rw[Ik]
@[simp] theorem zK(S:Store):calm [] S=True:=by simp[calm]
@[simp] theorem zJ(i:Nat)(ds:List D)(S:Store):calm [(i,ds)] S=(S[i]?=some (some ds)):=by simp[calm]
@[simp] theorem zW{α:Type}(S:List α)(a:α):(S++[a])[S.length]?=some a:=by simp
@[simp] theorem zR{α:Type}(S:List α)(a b:α):(S++[a]).set S.length b=S++[b]:=by simp
theorem Ng{n k:Nat}(h:k<n):ixN n (k:Int)=some k:=by
 unfold ixN
 rw[if_pos (by omega),if_pos (by omega)];simp
@[simp] theorem nH{n:Nat}:ixN (n+1) 0=some 0:=Ng (k:=0) (by omega)
@[simp] theorem xU{n:Nat}:ixN (n+2) 1=some 1:=Ng (k:=1) (by omega)
@[simp] theorem xT{n:Nat}:ixN (n+3) 2=some 2:=Ng (k:=2) (by omega)
@[simp] theorem xR{n:Nat}:ixN (n+4) 3=some 3:=Ng (k:=3) (by omega)
@[simp] theorem xq{α:Type}(a:α)(l:List α):atI (a::l) 0=some a:=by unfold atI;rw[List.length_cons,nH];rfl
@[simp] theorem zZ{α:Type}(a b:α)(l:List α):atI (a::b::l) 1=some b:=by unfold atI;rw[List.length_cons,List.length_cons,xU];rfl
@[simp] theorem xg{α:Type}(a b c:α)(l:List α):atI (a::b::c::l) 2=some c:=by unfold atI;rw[List.length_cons,List.length_cons,List.length_cons,xT];rfl
@[simp] theorem zY{α:Type}(a b c d:α)(l:List α):atI (a::b::c::d::l) 3=some d:=by unfold atI;rw[List.length_cons,List.length_cons,List.length_cons,List.length_cons,xR];rfl
theorem pY{w:List (Nat×List D)}{g:Ka}{b:Ay}(I:Nat->Env->Store->Prop)(R:D->Store->Prop){ds:List D}{env:Env}{S:Store}(h0:I 0 env S)(hc:∀i env S,I i env S->calm w S)
  (step:∀i d env S,ds[i]?=some d->I i env S->∃env1,g d env=some env1/\((∃env2 S2,(b env1 S=some (.nx,env2,S2)∨b env1 S=some (.cnt,env2,S2))/\I (i+1) env2 S2)∨∃r env2 S2,b env1 S=some (.ret r,env2,S2)/\R r S2)) :
  (∃env' S',loop w g b ds env S=some (.nx,env',S')/\I ds.length env' S')∨∃r env' S',loop w g b ds env S=some (.ret r,env',S')/\R r S':=by
 have key:∀(l:List D)(i:Nat)(env:Env)(S:Store),ds.drop i=l->i<=ds.length->I i env S->(∃env' S',loop w g b l env S=some (.nx,env',S')/\I ds.length env' S')∨∃r env' S',loop w g b l env S=some (.ret r,env',S')/\R r S':=by
  intro l
  induction l with
  |nil =>
   intro i env S hd hi h
   have:i=ds.length:=by
    have:=congrArg List.length hd
    simp at this;omega
   subst this
   exact .inl ⟨env,S,by unfold loop;rw[if_pos (hc _ _ _ h)],h⟩
  |cons d r ih =>
   intro i env S hd hi h
   have hlt:i<ds.length:=by
    have:=congrArg List.length hd
    simp at this;omega
   have e:ds[i]?=some d:=by
    rw[List.drop_eq_getElem_cons hlt] at hd
    rw[List.getElem?_eq_getElem hlt,(List.cons.inj hd).1]
   have hr:ds.drop (i+1)=r:=by
    rw[List.drop_eq_getElem_cons hlt] at hd
    exact(List.cons.inj hd).2
   obtain⟨env1,e1,q⟩:=step i d env S e h
   rcases q with ⟨env2,S2,e2,q⟩|⟨v,env2,S2,e2,q⟩
   .have e3:loop w g b (d::r) env S=loop w g b r env2 S2:=by
     rcases e2 with e2|e2<;>(rw[loop,if_pos (hc _ _ _ h),e1];show(b env1 S).bind _=_;rw[e2];rfl)
    rw[e3]
    exact ih (i+1) env2 S2 hr hlt q
   .refine .inr ⟨v,env2,S2,?_,q⟩
    rw[loop,if_pos (hc _ _ _ h),e1]
    show(b env1 S).bind _=_
    rw[e2];rfl
 exact key ds 0 env S (by simp) (Nat.zero_le _) h0
theorem Ej{w:List (Nat×List D)}{g:Ka}{b:Ay}(I:Nat->Env->Store->Prop){ds:List D}{env:Env}{S:Store}(h0:I 0 env S)(hc:∀i env S,I i env S->calm w S)
  (step:∀i d env S,ds[i]?=some d->I i env S->∃env1,g d env=some env1/\∃env2 S2,b env1 S=some (.nx,env2,S2)/\I (i+1) env2 S2) :
  ∃env' S',loop w g b ds env S=some (.nx,env',S')/\I ds.length env' S':=by
 rcases pY I (fun _ _=>False) h0 hc (fun i d env S e h=>by
  obtain⟨env1,e1,env2,S2,e2,q⟩:=step i d env S e h
  exact⟨env1,e1,.inl ⟨env2,S2,.inl e2,q⟩⟩) with h|⟨_,_,_,_,h⟩
 .exact h
 .exact h.elim
theorem comp_map{w:List (Nat×List D)}{e0:Env}{g:Ka}{t:Ey}{f:Az}{S:Store}(hc:calm w S)(p:D->Bool)(F:D->D):∀(ds ys:List D),ys.length+ds.length<=1000000 ->
  (∀d∈ds,∃e1,g d e0=some e1/\t e1 S=some (p d,S)/\(p d=true->f e1 S=some (F d,S)))->G3 w e0 g t f ds ys S=some (ys++(ds.filter p).map F,S)
 |[],ys,hl,_=>by unfold G3;rw[if_pos ⟨hc,by simpa using hl⟩];simp
 |d::r,ys,hl,h=>by
  rw[List.length_cons] at hl
  obtain⟨e1,h1,h2,h3⟩:=h d List.mem_cons_self
  unfold G3
  rw[if_pos ⟨hc,by omega⟩,h1]
  show(t e1 S).bind _=_
  rw[h2]
  show(if p d=true then _ else _)=_
  have hr:∀x∈r,_:=fun x hx=>h x (List.mem_cons_of_mem _ hx)
  by_cases hp:p d=true
  .rw[if_pos hp,h3 hp]
   show G3 w e0 g t f r (ys++[F d]) S=_
   rw[comp_map hc p F r (ys++[F d]) (by rw[List.length_append];simp;omega) hr,List.filter_cons_of_pos hp]
   simp
  .rw[if_neg hp,List.filter_cons_of_neg hp]
   exact comp_map hc p F r ys (by omega) hr
theorem Yz{w:List (Nat×List D)}{e0:Env}{g:Ka}{f:Az}{S:Store}(hc:calm w S)(F:D->D)(ds:List D)(hl:ds.length<=1000000)(h:∀d∈ds,∃e1,g d e0=some e1/\f e1 S=some (F d,S)):G3 w e0 g Fz f ds [] S=some (ds.map F,S):=by
 have:=comp_map (t:=Fz) hc (fun _=>true) F ds [] (by simpa using hl) (fun d hd=>let ⟨e1,h1,h2⟩:=h d hd;⟨e1,h1,rfl,fun _=>h2⟩)
 rw[this,List.nil_append,List.filter_eq_self.mpr (by simp)]
theorem Yy{w:List (Nat×List D)}{e0:Env}{g:Ka}{f:Az}(I:Nat->List D->Store->Prop){ds:List D}{S:Store}(h0:I 0 [] S)(hc:∀i ys S,I i ys S->calm w S/\ys.length<=1000000)
  (step:∀i d ys S,ds[i]?=some d->I i ys S->∃e1 y S2,g d e0=some e1/\f e1 S=some (y,S2)/\I (i+1) (ys++[y]) S2):∃ys S',G3 w e0 g Fz f ds [] S=some (ys,S')/\I ds.length ys S':=by
 have key:∀(l:List D)(i:Nat)(ys:List D)(S:Store),ds.drop i=l->i<=ds.length->I i ys S->∃ys' S',G3 w e0 g Fz f l ys S=some (ys',S')/\I ds.length ys' S':=by
  intro l
  induction l with
  |nil =>
   intro i ys S hd hi h
   have:i=ds.length:=by
    have:=congrArg List.length hd
    simp at this;omega
   subst this
   exact⟨ys,S,by unfold G3;rw[if_pos (hc _ _ _ h)],h⟩
  |cons d r ih =>
   intro i ys S hd hi h
   have hlt:i<ds.length:=by
    have:=congrArg List.length hd
    simp at this;omega
   have e:ds[i]?=some d:=by
    rw[List.drop_eq_getElem_cons hlt] at hd
    rw[List.getElem?_eq_getElem hlt,(List.cons.inj hd).1]
   have hr:ds.drop (i+1)=r:=by
    rw[List.drop_eq_getElem_cons hlt] at hd
    exact(List.cons.inj hd).2
   obtain⟨e1,y,S2,h1,h2,h3⟩:=step i d ys S e h
   obtain⟨ys',S',h4,h5⟩:=ih (i+1) (ys++[y]) S2 hr hlt h3
   refine⟨ys',S',?_,h5⟩
   unfold G3
   rw[if_pos (hc _ _ _ h),h1]
   simp only[Option.bind_some,Fz,if_true,h2]
   exact h4
 exact key ds 0 [] S (by simp) (Nat.zero_le _) h0
theorem Ni{α:Type}{w:List (Nat×List D)}{e0:VS.Env}{g:Ka}{t:Ey}{f:Az}{S:Store}(hc:calm w S)(enc:α->D)(p:α->Bool)(F:α->D):∀(l:List α)(ys:List D),ys.length+l.length<=1000000 ->
  (∀a∈l,∃e1,g (enc a) e0=some e1/\t e1 S=some (p a,S)/\(p a=true->f e1 S=some (F a,S)))->G3 w e0 g t f (l.map enc) ys S=some (ys++(l.filter p).map F,S)
 |[],ys,hl,_=>by rw[List.map_nil,G3,if_pos ⟨hc,by simpa using hl⟩];simp
 |d::r,ys,hl,h=>by
  rw[List.length_cons] at hl
  obtain⟨e1,h1,h2,h3⟩:=h d List.mem_cons_self
  have hr:∀x∈r,_:=fun x hx=>h x (List.mem_cons_of_mem _ hx)
  rw[List.map_cons,G3,if_pos ⟨hc,by omega⟩,h1]
  simp only[Option.bind_some,h2]
  by_cases hp:p d=true
  .simp only[hp,if_true,h3 hp,Option.bind_some]
   rw[Ni hc enc p F r (ys++[F d]) (by rw[List.length_append];simp;omega) hr,List.filter_cons_of_pos hp]
   simp
  .rw[if_neg hp,List.filter_cons_of_neg hp]
   exact Ni hc enc p F r ys (by omega) hr
theorem J7{α:Type}{w:List (Nat×List D)}{e0:VS.Env}{g:Ka}{f:Az}{S:Store}(hc:calm w S)(enc F:α->D)(l:List α)(hl:l.length<=1000000)(h:∀a∈l,∃e1,g (enc a) e0=some e1/\f e1 S=some (F a,S)):G3 w e0 g VS.Fz f (l.map enc) [] S=some (l.map F,S):=by
 have:=Ni (t:=VS.Fz) hc enc (fun _=>true) F l [] (by simpa using hl) (fun d hd=>let ⟨e1,h1,h2⟩:=h d hd;⟨e1,h1,rfl,fun _=>h2⟩)
 rw[this,List.nil_append,List.filter_eq_self.mpr (by simp)]
theorem bM{w:List (Nat×List D)}{e0:VS.Env}{g:Ka}{f:Az}{S:Store}(hc:calm w S)(n:Nat)(F:Nat->D)(hl:n<=1000000)(h:∀i<n,∃e1,g (.int i) e0=some e1/\f e1 S=some (F i,S)):G3 w e0 g VS.Fz f (upD 0 n) [] S=some ((List.range n).map F,S):=by
 have e:upD 0 n=(List.range n).map fun(i:Nat)=>D.int i:=by unfold upD;simp
 rw[e]
 exact J7 hc (fun(i:Nat)=>D.int i) F (List.range n) (by simpa using hl) fun i hi=>h i (List.mem_range.mp hi)
theorem NT(lo:Int)(n:Nat):(upD lo n).length=n:=by unfold upD;rw[List.length_map,List.length_range]
theorem Q5{lo:Int}{n i:Nat}{d:D}(h:(upD lo n)[i]?=some d):i<n/\d=.int (lo+i):=by
 have hi:i<n:=by rw[←NT lo n];exact(List.getElem?_eq_some_iff.mp h).1
 unfold upD at h
 rw[List.getElem?_map,List.getElem?_range hi] at h
 cases h
 exact⟨hi,rfl⟩
theorem WX{j:Int}(h0:-1000000<=j)(h1:j<=1000000):r62 j:=⟨Int.le_trans (by decide) h0,Int.lt_of_le_of_lt h1 (by decide)⟩
theorem M5{f:Bb}{env:VS.Env}{S S':Store}{j:Int}(n:Nat)(hf:f env S=some ([.int j],S'))(hn:j.toNat=n)(h0:-1000000<=j)(h1:j<=1000000):Et f env S=some ((upD 0 n,[]),S'):=by
 unfold Et
 rw[hf,Option.bind_some]
 show(if r62 j then some ((upD 0 j.toNat,([]:List (Nat×List D))),S') else none)=_
 rw[if_pos (WX h0 h1),hn]
theorem Rf{S:Store}{ds:List D}(h:Eo ds=true):Ck 0 S ds=some ds:=Cz 0 S (Di h)
theorem Ko{α:Type}{F:α->D}(l:List α)(h:∀a∈l,Dk (F a)=true):Eo (l.map F)=true:=by
 induction l with
 |nil=>rfl
 |cons a r ih=>rw[List.map_cons,Eo,h a List.mem_cons_self,ih fun b hb=>h b (List.mem_cons_of_mem _ hb)];rfl
theorem YM{α:Type}{F:α->D}{G:α->PyData}(l:List α)(h:∀a∈l,toP (F a)=some (G a)):Ij (l.map F)=some (l.map G):=by
 induction l with
 |nil=>rw[List.map_nil,Ij];rfl
 |cons a r ih=>rw[List.map_cons,Ij,h a List.mem_cons_self,ih fun b hb=>h b (List.mem_cons_of_mem _ hb)];rfl
abbrev St2:=Int×Int
def Ba(p:St2):D:=.tup [.int p.1,.int p.2]
def Af(b:List St2):D:=.tup (b.map Ba)
def Av(m:Bool)(n:Nat)(bs:List (List St2)):D:=.tup [.int n,.lst m (bs.map Af)]
@[simp] theorem Jc(p:St2):Dk (Ba p)=true:=rfl
@[simp] theorem Ii(b:List St2):Dk (Af b)=true:=by rw[Af,Dk];exact Ko b fun p _=>Jc p
theorem Ci(bs:List (List St2)):Eo (bs.map Af)=true:=Ko bs fun b _=>Ii b
def pS(p:St2):PyData:=.tuple [.int p.1,.int p.2]
def pB(b:List St2):PyData:=.tuple (b.map pS)
theorem YK(p:St2):toP (Ba p)=some (pS p):=by simp[Ba,toP,Ij,pS]
theorem YL(b:List St2):toP (Af b)=some (pB b):=by rw[Af,toP,YM b fun p _=>YK p];rfl
theorem cR(bs:List (List St2)):Ij (bs.map Af)=some (bs.map pB):=YM bs fun b _=>YL b
@[simp] theorem zN(S:Store)(x:D):Hl S [x,.ty "int"]=(DG S x).map fun p=>.bl (isT "int" p):=rfl
@[simp] theorem vf:isT "int" (.none)=false:=rfl
@[simp] theorem vm(b:Bool):isT "int" (.bool b)=true:=rfl
@[simp] theorem wD(i:Int):isT "int" (.int i)=true:=rfl
@[simp] theorem wC(s:Str):isT "int" (.str s)=false:=rfl
@[simp] theorem vg(l:List PyData):isT "int" (.list l)=false:=rfl
@[simp] theorem rR(l:List PyData):isT "int" (.tuple l)=false:=rfl
@[simp] theorem vh(l:List (PyData×PyData)):isT "int" (.dict l)=false:=rfl
@[simp] theorem yK(S:Store)(x:D):Hl S [x,.ty "bool"]=(DG S x).map fun p=>.bl (isT "bool" p):=rfl
@[simp] theorem rT:isT "bool" (.none)=false:=rfl
@[simp] theorem rZ(b:Bool):isT "bool" (.bool b)=true:=rfl
@[simp] theorem vp(i:Int):isT "bool" (.int i)=false:=rfl
@[simp] theorem vo(s:Str):isT "bool" (.str s)=false:=rfl
@[simp] theorem rW(l:List PyData):isT "bool" (.list l)=false:=rfl
@[simp] theorem rH(l:List PyData):isT "bool" (.tuple l)=false:=rfl
@[simp] theorem rY(l:List (PyData×PyData)):isT "bool" (.dict l)=false:=rfl
@[simp] theorem yE(S:Store)(x:D):Hl S [x,.ty "tuple"]=(DG S x).map fun p=>.bl (isT "tuple" p):=rfl
@[simp] theorem rC:isT "tuple" (.none)=false:=rfl
@[simp] theorem rF(b:Bool):isT "tuple" (.bool b)=false:=rfl
@[simp] theorem rK(i:Int):isT "tuple" (.int i)=false:=rfl
@[simp] theorem rJ(s:Str):isT "tuple" (.str s)=false:=rfl
@[simp] theorem rD(l:List PyData):isT "tuple" (.list l)=false:=rfl
@[simp] theorem nP(l:List PyData):isT "tuple" (.tuple l)=true:=rfl
@[simp] theorem rE(l:List (PyData×PyData)):isT "tuple" (.dict l)=false:=rfl
@[simp] theorem yJ(S:Store)(x:D):Hl S [x,.ty "list"]=(DG S x).map fun p=>.bl (isT "list" p):=rfl
@[simp] theorem rN:isT "list" (.none)=false:=rfl
@[simp] theorem rQ(b:Bool):isT "list" (.bool b)=false:=rfl
@[simp] theorem vd(i:Int):isT "list" (.int i)=false:=rfl
@[simp] theorem vZ(s:Str):isT "list" (.str s)=false:=rfl
@[simp] theorem rO(l:List PyData):isT "list" (.list l)=true:=rfl
@[simp] theorem rG(l:List PyData):isT "list" (.tuple l)=false:=rfl
@[simp] theorem rP(l:List (PyData×PyData)):isT "list" (.dict l)=false:=rfl
@[simp] theorem zL(S:Store)(x:D):Hl S [x,.ty "str"]=(DG S x).map fun p=>.bl (isT "str" p):=rfl
@[simp] theorem vV:isT "str" (.none)=false:=rfl
@[simp] theorem vY(b:Bool):isT "str" (.bool b)=false:=rfl
@[simp] theorem wA(i:Int):isT "str" (.int i)=false:=rfl
@[simp] theorem vq(s:Str):isT "str" (.str s)=true:=rfl
@[simp] theorem vW(l:List PyData):isT "str" (.list l)=false:=rfl
@[simp] theorem rM(l:List PyData):isT "str" (.tuple l)=false:=rfl
@[simp] theorem vX(l:List (PyData×PyData)):isT "str" (.dict l)=false:=rfl
@[simp] theorem zM(S:Store)(x:D):Hl S [x,.tup [.ty "tuple",.ty "list"]]=(DG S x).bind fun p=>if noDict p=true then some (.bl (isSeq p)) else none:=rfl
@[simp] theorem yw(S:Store)(i:Int):DG S (.int i)=some (.int i):=by simp[DG,den,toP]
@[simp] theorem zT(S:Store)(b:Bool):DG S (.bl b)=some (.bool b):=by simp[DG,den,toP]
@[simp] theorem yu(S:Store):DG S .non=some .none:=by simp[DG,den,toP]
@[simp] theorem yt(S:Store)(x:Str):DG S (.str x)=some (.str x):=by simp[DG,den,toP]
@[simp] theorem fj(S:Store)(p:St2):DG S (Ba p)=some (pS p):=by rw[DG,Lk 0 S (Jb (Jc p))];exact YK p
@[simp] theorem fu(S:Store)(b:List St2):DG S (Af b)=some (pB b):=by rw[DG,Lk 0 S (Jb (Ii b))];exact YL b
theorem V0(S:Store)(m:Bool)(bs:List (List St2)):DG S (.lst m (bs.map Af))=some (.list (bs.map pB)):=by
 rw[DG,den,Rf (Ci bs)]
 show toP (.lst m (bs.map Af))=_
 rw[toP,cR];rfl
theorem RT(S:Store)(m:Bool)(n:Nat)(bs:List (List St2)):DG S (Av m n bs)=some (.tuple [.int n,.list (bs.map pB)]):=by
 have h:=V0 S m bs
 rw[DG,den,Rf (Ci bs)] at h
 have h':toP (.lst m (bs.map Af))=some (.list (bs.map pB)):=h
 simp[DG,Av,den,Ck,Rf (Ci bs),toP,Ij]
 rw[toP] at h'
 obtain⟨ps,e1,e2⟩:=map_some h'
 rw[e1]
 cases e2
 rfl
@[simp] theorem NP(ns:List Int):Eo (ns.map D.int)=true:=Ko ns fun _ _=>rfl
@[simp] theorem iV(k:Nat)(S:Store)(ns:List Int):Ck k S (ns.map D.int)=some (ns.map D.int):=Cz k S (Di (NP ns))
@[simp] theorem Kp(ns:List Int):Bg (ns.map D.int)=ns.map D.int:=Jd (NP ns)
@[simp] theorem FQ(ns:List Int):Aq (ns.map D.int)=true:=Di (NP ns)
@[simp] theorem yI(ns:List Int):newL (ns.map D.int)=true:=Ot (NP ns)
theorem YJ(lo:Int)(n:Nat):upD lo n=((List.range n).map fun(i:Nat)=>lo+(i:Int)).map D.int:=by unfold upD;rw[List.map_map];rfl
@[simp] theorem zH(k:Nat)(S:Store)(lo:Int)(n:Nat):Ck k S (upD lo n)=some (upD lo n):=by rw[YJ];exact iV ..
@[simp] theorem yH(lo:Int)(n:Nat):Aq (upD lo n)=true:=by rw[YJ];exact FQ _
@[simp] theorem yD(k:Nat)(S:Store)(bs:List (List St2)):Ck k S (bs.map Af)=some (bs.map Af):=Cz k S (Di (Ci bs))
@[simp] theorem dY(bs:List (List St2)):Bg (bs.map Af)=bs.map Af:=Jd (Ci bs)
@[simp] theorem Zh(bs:List (List St2)):Aq (bs.map Af)=true:=Di (Ci bs)
@[simp] theorem yC(bs:List (List St2)):newL (bs.map Af)=true:=Ot (Ci bs)
@[simp] theorem wF(bs:List (List St2)):Eo (bs.map Af)=true:=Ci bs
@[simp] theorem zE(k:Nat)(S:Store)(p:St2):den k S (Ba p)=some (Ba p):=Lk k S (Jb (Jc p))
@[simp] theorem zG(k:Nat)(S:Store)(b:List St2):den k S (Af b)=some (Af b):=Lk k S (Jb (Ii b))
@[simp] theorem zO(p:St2):age (Ba p)=Ba p:=Qa (Jc p)
@[simp] theorem zQ(b:List St2):age (Af b)=Af b:=Qa (Ii b)
@[simp] theorem yF(p:St2):BZ (Ba p)=true:=Jb (Jc p)
@[simp] theorem RW(b:List St2):BZ (Af b)=true:=Jb (Ii b)
@[simp] theorem zA(p:St2):newD (Ba p)=true:=U7 (Jc p)
@[simp] theorem zB(b:List St2):newD (Af b)=true:=U7 (Ii b)
@[simp] theorem zF(k:Nat)(S:Store)(m:Bool)(n:Nat)(bs:List (List St2)):den k S (Av m n bs)=some (Av m n bs):=by simp[Av,den,Ck,Cz k S (Di (Ci bs))]
@[simp] theorem zP(m:Bool)(n:Nat)(bs:List (List St2)):age (Av m n bs)=Av false n bs:=by simp[Av,age,Bg,Jd (Ci bs)]
@[simp] theorem yG(m:Bool)(n:Nat)(bs:List (List St2)):BZ (Av m n bs)=true:=by simp[Av,BZ,Aq,Di (Ci bs)]
structure Good(n:Nat)(bs:List (List St2)):Prop where
 ways:n=1∨n=2∨n=3
 most:bs.length<=[0,20,10,6].getD n 0
 box:∀b∈bs,b.length=n/\∀p∈b,p.1<p.2/\-1000000000<=p.1/\p.2<=1000000000
theorem Good.n3{n:Nat}{bs:List (List St2)}(g:Good n bs):1<=n/\n<=3:=by have:=g.ways;omega
theorem Good.few{n:Nat}{bs:List (List St2)}(g:Good n bs):bs.length<=20:=by
 have:=g.most
 rcases g.ways with h|h|h<;>subst h<;>simp at this<;>omega
theorem fG{α:Type}{l:List α}{i:Int}{j:Nat}(e:i=(j:Int))(h:j<l.length):atI l i=some l[j]:=by
 subst e
 exact Nj (List.getElem?_eq_getElem h)
theorem jq{n d:Nat}{a:Int}(h0:0<=a)(h1:a<=n):HT.sIx n d (some a)=a.toNat:=by
 show(if a<0 then (a+(n:Int)).toNat else min a.toNat n)=a.toNat
 rw[if_neg (by omega)]
 omega
theorem mL{xs:List D}{a:Int}(h0:0<=a)(h1:a<=xs.length):cut xs (some a) none=xs.drop a.toNat:=by
 unfold cut
 rw[jq h0 h1]
 simp only[HT.sIx]
 rw[List.take_of_length_le]
 simp
def lev:Nat->PyData->Bool
 |_,.none=>true
 |_,.bool _=>true
 |_,.int _=>true
 |k+1,.list xs=>xs.all (lev k)
 |k+1,.tuple xs=>xs.all (lev k)
 |_,_=>false
theorem Vw{k:Nat}(ih:∀d,lev k d=true->PyData.canLay0 d=true/\d.depth<=k):∀xs:List PyData,xs.all (lev k)=true->PyData.canLayAll0 xs=true/\PyData.depthAll xs<=k
 |[],_=>⟨by rw[PyData.canLayAll0],by rw[PyData.depthAll];omega⟩
 |x::xs,h=>by
  rw[List.all_cons,Bool.and_eq_true] at h
  obtain⟨h1,h2⟩:=ih x h.1
  obtain⟨h3,h4⟩:=Vw ih xs h.2
  exact⟨by rw[PyData.canLayAll0,h1,h3];rfl,by rw[PyData.depthAll];omega⟩
theorem Ur:∀(k:Nat)(d:PyData),lev k d=true->PyData.canLay0 d=true/\d.depth<=k
 |k,.none,_=>⟨by rw[PyData.canLay0],by rw[PyData.depth];omega⟩
 |k,.bool _,_=>⟨by rw[PyData.canLay0],by rw[PyData.depth];omega⟩
 |k,.int _,_=>⟨by rw[PyData.canLay0],by rw[PyData.depth];omega⟩
 |0,.list _,h=>by simp[lev] at h
 |0,.tuple _,h=>by simp[lev] at h
 |k,.str _,h=>by cases k<;>simp[lev] at h
 |k,.dict _,h=>by cases k<;>simp[lev] at h
 |k+1,.list xs,h=>by
  rw[lev] at h
  obtain⟨h1,h2⟩:=Vw (Ur k) xs h
  exact⟨by rw[PyData.canLay0];exact h1,by rw[PyData.depth];omega⟩
 |k+1,.tuple xs,h=>by
  rw[lev] at h
  obtain⟨h1,h2⟩:=Vw (Ur k) xs h
  exact⟨by rw[PyData.canLay0];exact h1,by rw[PyData.depth];omega⟩
theorem V1{k:Nat}{d:PyData}(h:lev k d=true)(hk:k<=60):SeqAt.shaped d=true:=by
 obtain⟨h1,h2⟩:=Ur k d h
 unfold SeqAt.shaped
 rw[h1,Bool.true_and]
 exact decide_eq_true (by omega)
theorem U8{neg:Bool}{S:Store}{x y:D}{p:PyData}(k:Nat)(hx:DG S x=some p)(hy:DG S y=some p)(h:lev k p=true)(hk:k<=60):eqP neg S x y=some (.bl (neg ^^ true)):=by
 unfold eqP
 rw[hx,hy]
 simp only[Option.bind_some]
 rw[V1 h hk,SeqAt.eqv_refl _ (Ur k p h).1];rfl
theorem W2{neg:Bool}{S:Store}{x:D}{m:Bool}{l:List PyData}(k:Nat)(hx:DG S x=some (.list l))(h:lev k (.list l)=true)(hk:k<=60):eqP neg S x (.lst m [])=some (.bl (neg ^^ l.isEmpty)):=by
 unfold eqP
 have hy:DG S (.lst m [])=some (.list []):=by simp[DG,den,Ck,toP,Ij]
 rw[hx,hy]
 simp only[Option.bind_some]
 rw[V1 h hk]
 cases l with
 |nil=>rfl
 |cons a r=>rfl
theorem uy(k:Nat)(p:St2):lev (k+1) (pS p)=true:=by simp[pS,lev]
theorem uz(k:Nat)(b:List St2):lev (k+2) (pB b)=true:=by
 rw[pB,lev,List.all_map,List.all_eq_true]
 exact fun p _=>uy k p
theorem gn(k:Nat)(bs:List (List St2)):lev (k+3) (.list (bs.map pB))=true:=by
 rw[lev,List.all_map,List.all_eq_true]
 exact fun p _=>uz k p
theorem lH(k:Nat)(n:Nat)(bs:List (List St2)):lev (k+4) (.tuple [.int n,.list (bs.map pB)])=true:=by
 rw[lev,List.all_cons,List.all_cons,gn k bs]
 rfl
theorem BP{a b:Ay}{env env1:VS.Env}{S S1:Store}(h:a env S=some (.nx,env1,S1)):Bj a b env S=b env1 S1:=by rw[Ji,h];rfl
theorem M8{c:Ey}{a b:Ay}{env:VS.Env}{S S1:Store}(h:c env S=some (true,S1)):sIf c a b env S=a env S1:=by rw[Jx,h];rfl
theorem Ku{c:Ey}{a b:Ay}{env:VS.Env}{S S1:Store}(h:c env S=some (false,S1)):sIf c a b env S=b env S1:=by rw[Jx,h];rfl
end VS
end
section
namespace VS
open PySem PySem.Spec L2
end VS
namespace HT
open PySem PySem.Spec PyProof PyProof.Rows
end HT
namespace L2
open PySem PySem.Spec PyProof PyProof.Rows
end L2
namespace VS
open PySem PySem.Spec L2
end VS
end
section
set_option maxRecDepth 100000
namespace HT
open PySem PySem.Spec PyProof.Rows
section
variable{prog:Program}{w:World}{A:Around}{E:Value->Shared->Prop}{s:Shared}
theorem ZW{a:Addr}{o:Obj}{Q:Option Obj->Shared->Prop}(e:s.heap.get? a=some o)(q:Q (some o) s):wpAny (model prog w) A (loadIfAlive a) Q E s:=by
 intro Γ p _
 unfold loadIfAlive
 rw[Sem.wp_loadIfAlive,e]
 exact(Sem.wp_pure ..).mpr q
abbrev O2(h:Heap)(z TI TO T:Addr)(c:Bool):Prop:=h.get? z=some { cls:=.type "zip",dict:=none,data:=.fields #[rawInt T,.bool c,.bool false,.ref TI,.ref TO],slots:=#[] }
variable{z TI TO i1 i2 T:Addr}{fp1 fp2:List Addr}{n1 n2 k:Nat}{P1 P2:Nat->Value->Prop}{S1 S2:Nat->Heap->Prop}{c:Bool}
theorem aJ{Q:Bool->Shared->Prop}(hZ:O2 s.heap z TI TO T c)(hT:∃o,s.heap.get? T=some o)(q:∀h',O2 h' z TI TO T true->Heap.SameBut z s.heap h'->Q false { s with heap:=h' }) :
  wpAny (model prog w) A (Builtin.SmallTypes.ownedTupleIsFree (.ref z)) Q E s:=by
 obtain⟨o,hT⟩:=hT
 unfold Builtin.SmallTypes.ownedTupleIsFree
 refine wpAny_bind (wpAny_field hZ rfl (x:=rawInt T) rfl ?_)
 show wpAny _ _ (loadIfAlive (Int.toNat (T:Int)) >>= _) _ _ _
 rw[Int.toNat_natCast]
 refine wpAny_bind (ZW hT ?_)
 simp only[Option.isNone_some,Bool.false_eq_true,if_false]
 refine wpAny_bind (wpAny_field hZ rfl (x:=.bool c) rfl ?_)
 cases c with
 |false =>
  rw[if_pos (by decide)]
  refine wpAny_bind (wpAny_setField_rec hZ (by simp) fun g z' m=>?_)
  exact wpAny_pure (q g z' m)
 |true =>
  rw[if_neg (by decide)]
  exact wpAny_pure (q s.heap hZ (Heap.SameBut.refl ..))
theorem yL{Q:Value->Shared->Prop}(D1:Draws prog w A i1 fp1 n1 P1 S1)(D2:Draws prog w A i2 fp2 n2 P2 S2)(D:Apart z TI TO i1 i2 fp1 fp2)(hZ:O2 s.heap z TI TO T c)(hI:IsPair s.heap TI (.ref i1) (.ref i2))(hT:∃o,s.heap.get? T=some o)
  (s1:S1 k s.heap) (s2:S2 k s.heap) (k1:k<n1) (k2:k<n2)
  (q:∀x y h' tk,P1 k x->P2 k y->O2 h' z TI TO T true->S1 (k+1) h'->S2 (k+1) h'->IsPair h' s.heap.objs.size x y->h'.objs.size=s.heap.objs.size+1 ->
   (∀c o,c≠z->c≠i1->c≠i2->s.heap.get? c=some o->h'.get? c=some o)->Q (.ref s.heap.objs.size) { s with heap:=h',toks:=tk }) :
  wpAny (model prog w) A (Builtin.«zip.__next__» ⟨[.ref z],[]⟩) (fun fin s'=>∃v,fin=.done (.ret v)/\Q v s') E s:=by
 obtain⟨hp,g,d,tk0,os⟩:=s
 refine(show wpAny _ _ (field (.ref z) 2 >>= _) _ _ _ from wpAny_bind (wpAny_field hZ rfl (x:=.bool false) rfl ?_))
 refine(show wpAny _ _ (field (.ref z) 3 >>= _) _ _ _ from wpAny_bind (wpAny_field hZ rfl (x:=.ref TI) rfl (wpAny_bind (wpAny_seqItems hI rfl ?_))))
 refine(show wpAny _ _ (Builtin.SmallTypes.ownedTupleIsFree (.ref z) >>= _) _ _ _ from wpAny_bind (aJ hZ hT fun g1 z1 m1=>?_))
 replace m1:Heap.SameBut z hp g1:=m1
 simp only[Bool.false_eq_true,if_false]
 have t1:S1 k g1:=D1.frame _ _ _ s1 fun c hc o e=>m1.extBut _ _ (D.b1 c hc).1 e
 have u1:S2 k g1:=D2.frame _ _ _ s2 fun c hc o e=>m1.extBut _ _ (D.b2 c hc).1 e
 refine wpAny_bind ?_
 simp only[List.forIn_toArray,List.forIn_cons,List.forIn_nil]
 refine wpAny_bind (wpAny_bind (wpAny_holding (show wpAny _ _ (Builtin.SmallTypes.nextOf (.ref i1) >>= _) _ _ _ from wpAny_bind (D1.item k ⟨g1,g,d,tk0,os⟩ _ _ k1 t1 fun x g2 tk1 px t2 m2=>wpAny_pure ?_))))
 replace m2:Heap.SameBut i1 g1 g2:=m2
 have u2:S2 k g2:=D2.frame _ _ _ u1 fun c hc o e=>m2.extBut _ _ (D.b2 c hc).2.2 e
 refine wpAny_pure ?_
 refine wpAny_bind (wpAny_bind (wpAny_holding (show wpAny _ _ (Builtin.SmallTypes.nextOf (.ref i2) >>= _) _ _ _ from wpAny_bind (D2.item k ⟨g2,g,d,tk1,os⟩ _ _ k2 u2 fun y g3 tk2 py u3 m3=>wpAny_pure ?_))))
 replace m3:Heap.SameBut i2 g2 g3:=m3
 refine wpAny_pure (wpAny_pure ?_)
 refine wpAny_bind (wpAny_newTuple ?_ (by simp[sizeLine]))
 have sz:g3.objs.size=hp.objs.size:=by rw[m3.1,m2.1,m1.1]
 refine wpAny_pure ⟨_,rfl,?_⟩
 show Q (.ref g3.objs.size) _
 have z3:O2 g3 z TI TO T true:=m3.extBut _ _ (Ne.symm D.c2.1) (m2.extBut _ _ (Ne.symm D.c1.1) z1)
 have q3:=q x y (g3.push { cls:=.type "tuple",data:=.seq #[x,y] }) tk2 px py (Heap.get?_push_of_some _ z3)
  (D1.frame _ _ _ t2 fun c hc o e=>Heap.get?_push_of_some _ (m3.extBut _ _ (D.b1 c hc).2.2 e)) (D2.frame _ _ _ u3 fun c hc o e=>Heap.get?_push_of_some _ e)
  (by show IsPair _ hp.objs.size x y;rw[←sz];exact Heap.get?_push_size _ rfl) (by rw[Heap.size_push,sz])
  fun c o n1 n3 n4 e=>Heap.get?_push_of_some _ (m3.extBut _ _ n4 (m2.extBut _ _ n3 (m1.extBut _ _ n1 e)))
 rw[sz]
 exact q3
theorem wG{Q:PySem.Fin->Shared->Prop}(D1:Draws prog w A i1 fp1 n1 P1 S1)(D2:Draws prog w A i2 fp2 n2 P2 S2)(D:Apart z TI TO i1 i2 fp1 fp2)(hZ:O2 s.heap z TI TO T c)(hI:IsPair s.heap TI (.ref i1) (.ref i2))(hT:∃o,s.heap.get? T=some o)
  (s1:S1 k s.heap) (s2:S2 k s.heap) (ke:k=n1∨(k<n1/\k=n2))
  (q:∀h' e tk,(∀c o,c≠z->c≠i1->c≠i2->s.heap.get? c=some o->h'.get? c=some o)->(∃o,h'.get? e=some o/\o.cls=.type "StopIteration")->E (.ref e) { s with heap:=h',toks:=tk }) :
  wpAny (model prog w) A (Builtin.«zip.__next__» ⟨[.ref z],[]⟩) Q E s:=by
 obtain⟨hp,g,d,tk0,os⟩:=s
 refine(show wpAny _ _ (field (.ref z) 2 >>= _) _ _ _ from wpAny_bind (wpAny_field hZ rfl (x:=.bool false) rfl ?_))
 refine(show wpAny _ _ (field (.ref z) 3 >>= _) _ _ _ from wpAny_bind (wpAny_field hZ rfl (x:=.ref TI) rfl (wpAny_bind (wpAny_seqItems hI rfl ?_))))
 refine(show wpAny _ _ (Builtin.SmallTypes.ownedTupleIsFree (.ref z) >>= _) _ _ _ from wpAny_bind (aJ hZ hT fun g1 z1 m1=>?_))
 replace m1:Heap.SameBut z hp g1:=m1
 simp only[Bool.false_eq_true,if_false]
 have t1:S1 k g1:=D1.frame _ _ _ s1 fun c hc o e=>m1.extBut _ _ (D.b1 c hc).1 e
 have u1:S2 k g1:=D2.frame _ _ _ s2 fun c hc o e=>m1.extBut _ _ (D.b2 c hc).1 e
 refine wpAny_bind ?_
 simp only[List.forIn_toArray,List.forIn_cons,List.forIn_nil]
 rcases ke with ke|⟨k1,ke⟩
 .subst ke
  refine wpAny_bind (wpAny_bind (wpAny_holding (show wpAny _ _ (Builtin.SmallTypes.nextOf (.ref i1) >>= _) _ _ _ from wpAny_bind (D1.done ⟨g1,g,d,tk0,os⟩ _ _ t1 fun g2 e m2 he=>?_))))
  replace m2:Heap.ExtBut i1 g1 g2:=m2
  exact q g2 e tk0 (fun c o n1 n3 _ x=>m2 _ _ n3 (m1.extBut _ _ n1 x)) he
 .refine wpAny_bind (wpAny_bind (wpAny_holding (show wpAny _ _ (Builtin.SmallTypes.nextOf (.ref i1) >>= _) _ _ _ from wpAny_bind (D1.item k ⟨g1,g,d,tk0,os⟩ _ _ k1 t1 fun x g2 tk1 px t2 m2=>wpAny_pure ?_))))
  replace m2:Heap.SameBut i1 g1 g2:=m2
  have u2:S2 k g2:=D2.frame _ _ _ u1 fun c hc o e=>m2.extBut _ _ (D.b2 c hc).2.2 e
  rw[ke] at u2
  refine wpAny_pure ?_
  refine wpAny_bind (wpAny_bind (wpAny_holding (show wpAny _ _ (Builtin.SmallTypes.nextOf (.ref i2) >>= _) _ _ _ from wpAny_bind (D2.done ⟨g2,g,d,tk1,os⟩ _ _ u2 fun g3 e m3 he=>?_))))
  replace m3:Heap.ExtBut i2 g2 g3:=m3
  exact q g3 e tk1 (fun c o n1 n3 n4 x=>m3 _ _ n4 (m2.extBut _ _ n3 (m1.extBut _ _ n1 x))) he
def ZS(z TI TO i1 i2:Addr)(S1 S2:Nat->Heap->Prop)(k:Nat)(h:Heap):Prop :=
 IsPair h TI (.ref i1) (.ref i2)/\S1 k h/\S2 k h/\((∃a b,IsZip h z TI TO .none/\IsPair h TO a b)∨∃T c o,O2 h z TI TO T c/\h.get? T=some o/\T≠z/\T≠i1/\T≠i2)
theorem ZS.type(st:ZS z TI TO i1 i2 S1 S2 k s.heap):s.TypeIs (.ref z) "zip":=by
 obtain⟨_,_,_,⟨_,_,h,_⟩|⟨_,_,_,h,_⟩⟩:=st
 .exact⟨_,h,rfl⟩
 .exact⟨_,h,rfl⟩
theorem ZS.lt{h:Heap}(st:ZS z TI TO i1 i2 S1 S2 k h):z<h.objs.size:=by
 obtain⟨_,_,_,⟨_,_,h,_⟩|⟨_,_,_,h,_⟩⟩:=st
 .exact Heap.lt_size h
 .exact Heap.lt_size h
theorem ZS.frame{h h':Heap}(D1:Draws prog w A i1 fp1 n1 P1 S1)(D2:Draws prog w A i2 fp2 n2 P2 S2)(st:ZS z TI TO i1 i2 S1 S2 k h){S:Addr}(f1:S ∉ fp1)(f2:S ∉ fp2)(n1:S≠z)(n2:S≠TI)(n3:S≠TO)(lv:∃o,h'.get? S=some o)(m:∀c o,c≠S->h.get? c=some o->h'.get? c=some o):ZS z TI TO i1 i2 S1 S2 k h':=by
 obtain⟨a1,a2,a3,a4⟩:=st
 refine⟨m _ _ (Ne.symm n2) a1,D1.frame _ _ _ a2 fun c hc o e=>m c o (fun q=>f1 (q ▸ hc)) e,D2.frame _ _ _ a3 fun c hc o e=>m c o (fun q=>f2 (q ▸ hc)) e,?_⟩
 rcases a4 with ⟨a,b,b1,b2⟩|⟨T,c,o,b1,b2,b3⟩
 .exact .inl ⟨a,b,m _ _ (Ne.symm n1) b1,m _ _ (Ne.symm n3) b2⟩
 .by_cases q:T=S
  .obtain⟨o',e⟩:=lv
   exact .inr ⟨T,c,o',m _ _ (Ne.symm n1) b1,q ▸ e,b3⟩
  .exact .inr ⟨T,c,o,m _ _ (Ne.symm n1) b1,m _ _ q b2,b3⟩
theorem tX{Q:Option Value->Shared->Prop}(D1:Draws prog w A.in1 i1 fp1 n1 P1 S1)(D2:Draws prog w A.in1 i2 fp2 n2 P2 S2)(D:Apart z TI TO i1 i2 fp1 fp2)(st:ZS z TI TO i1 i2 S1 S2 k s.heap)(k1:k<n1)(k2:k<n2)
  (q:∀x y h' tk,P1 k x->P2 k y->ZS z TI TO i1 i2 S1 S2 (k+1) h'->IsPair h' s.heap.objs.size x y->h'.objs.size=s.heap.objs.size+1->(∀c o,c≠z->c≠TO->c≠i1->c≠i2->s.heap.get? c=some o->h'.get? c=some o)->Q (some (.ref s.heap.objs.size)) { s with heap:=h',toks:=tk }) :
  wpAny (model prog w) A (pyNext (.ref z)) Q E s:=by
 have T:=st.type
 have lz:=st.lt
 obtain⟨a1,a2,a3,a4⟩:=st
 obtain⟨_,l1⟩:=D1.live _ _ a2
 obtain⟨_,l2⟩:=D2.live _ _ a3
 rcases a4 with ⟨a,b,b1,b2⟩|⟨T',c,o,b1,b2,b3,b4,b5⟩
 .refine aH D1 D2 D b1 a1 b2 a2 a3 k1 k2 fun x y h' tk p1 p2 c1 c2 c3 c4 c5 c6 c7=>q x y h' tk p1 p2 ⟨c7 _ _ D.a1 D.a3 (Ne.symm D.c1.2.2) (Ne.symm D.c2.2.2) a1,c3,c4,.inr ⟨_,false,_,c1,c5,Nat.ne_of_gt lz,Nat.ne_of_gt (Heap.lt_size l1),Nat.ne_of_gt (Heap.lt_size l2)⟩⟩ c5 c6 c7
 .unfold pyNext
  refine wpAny_bind (wpAny_attempt (wpAny_callSpecial?_slot (name:=Str.ofString "__next__") T PySem.F.slot_zip_next (wpAny_call_entry PySem.F.slot_zip_next T PySem.F.entry_zip_next (yL D1 D2 D b1 a1 ⟨o,b2⟩ a2 a3 k1 k2 fun x y h' tk p1 p2 c1 c3 c4 c5 c6 c7=>wpAny_pure (q x y h' tk p1 p2 ?_ c5 c6 fun c o n1 _ n3 n4 e=>c7 c o n1 n3 n4 e)) (PySem.F.args_zip_next_1 _))))
  exact⟨c7 _ _ D.a1 (Ne.symm D.c1.2.2) (Ne.symm D.c2.2.2) a1,c3,c4,.inr ⟨T',true,o,c1,c7 _ _ b3 b4 b5 b2,b3,b4,b5⟩⟩
theorem nQ{Q:Option Value->Shared->Prop}(D1:Draws prog w A.in1 i1 fp1 n1 P1 S1)(D2:Draws prog w A.in1 i2 fp2 n2 P2 S2)(D:Apart z TI TO i1 i2 fp1 fp2)(st:ZS z TI TO i1 i2 S1 S2 k s.heap)(ke:k=n1∨(k<n1/\k=n2))
  (q:∀h' tk,(∀c o,c≠z->c≠TO->c≠i1->c≠i2->s.heap.get? c=some o->h'.get? c=some o)->Q none { s with heap:=h',toks:=tk }):wpAny (model prog w) A (pyNext (.ref z)) Q E s:=by
 have T:=st.type
 obtain⟨a1,a2,a3,a4⟩:=st
 rcases a4 with ⟨a,b,b1,b2⟩|⟨T',c,o,b1,b2,b3,b4,b5⟩
 .exact aG D1 D2 D b1 a1 b2 a2 a3 ke q
 .unfold pyNext
  refine wpAny_bind (wpAny_attempt (wpAny_callSpecial?_slot (name:=Str.ofString "__next__") T PySem.F.slot_zip_next (wpAny_call_entry PySem.F.slot_zip_next T PySem.F.entry_zip_next (wG D1 D2 D b1 a1 ⟨o,b2⟩ a2 a3 ke fun h' e tk kk he=>?_) (PySem.F.args_zip_next_1 _))))
  obtain⟨o,e1,e2⟩:=he
  exact wpAny_bind (wpAny_isInstance (T:="StopIteration") (b:=true) ⟨o,e1,e2⟩ isSubtype_stop (wpAny_pure (q h' tk fun c o n1 _ n3 n4 e=>kk c o n1 n3 n4 e)))
def Laid(P1 P2:Nat->Value->Prop)(t0 k:Nat)(h:Heap):Prop:=∀j,j<k->∃x y,P1 j x/\P2 j y/\IsPair h (t0+j) x y
theorem nU{R:Result->Shared->Prop}(D1:Draws prog w A.in1.in1 i1 fp1 n1 P1 S1)(D2:Draws prog w A.in1.in1 i2 fp2 n2 P2 S2)(D:Apart z TI TO i1 i2 fp1 fp2){m t0:Nat}(hm:∀k,k<m->k<n1/\k<n2)(he:m=n1∨(m<n1/\m=n2))(hs:m<=1000000)(S:Addr)(f1:S ∉ fp1)(f2:S ∉ fp2)(e1:S≠z)(e2:S≠TI)(e3:S≠TO)(e4:S≠i1)(e5:S≠i2)(e6:S<t0)
  (far:z<t0/\TO<t0/\i1<t0/\i2<t0) (res:Value) :
  ∀(j k:Nat)(s:Shared)(acc:Array Value)(c:Nat),m-k=j->k<=m->ZS z TI TO i1 i2 S1 S2 k s.heap->s.heap.get? S=some { cls:=.type "list",dict:=none,data:=.seq acc c,slots:=#[] }->acc=((List.range k).map fun j=>Value.ref (t0+j)).toArray->s.heap.objs.size=t0+k->Laid P1 P2 t0 k s.heap ->
  (∀h' tk c',(∀b o,b≠z->b≠TO->b≠i1->b≠i2->b≠S->s.heap.get? b=some o->h'.get? b=some o)->h'.get? S=some { cls:=.type "list",dict:=none,data:=.seq ((List.range m).map fun j=>Value.ref (t0+j)).toArray c',slots:=#[] }->Laid P1 P2 t0 m h'->R (.ok (.ret res)) { s with heap:=h',toks:=tk }) ->
  codeAny (model prog w) A (.builtin "list.extend.loop" ⟨[.ref S,.ref z,res],[]⟩) R s:=by
 have aw:∀j:Nat,t0+j≠z/\t0+j≠TO/\t0+j≠i1/\t0+j≠i2/\t0+j≠S:=fun j=>⟨Nat.ne_of_gt (Nat.lt_of_lt_of_le far.1 (Nat.le_add_right _ _)),Nat.ne_of_gt (Nat.lt_of_lt_of_le far.2.1 (Nat.le_add_right _ _)),Nat.ne_of_gt (Nat.lt_of_lt_of_le far.2.2.1 (Nat.le_add_right _ _)),Nat.ne_of_gt (Nat.lt_of_lt_of_le far.2.2.2 (Nat.le_add_right _ _)),Nat.ne_of_gt (Nat.lt_of_lt_of_le e6 (Nat.le_add_right _ _))⟩
 have hs2:m<=sizeLine:=Nat.le_trans hs (by decide)
 intro j
 induction j with
 |zero =>
  intro k s acc c hj hk st hS ha hz hl q
  have hkm:k=m:=by omega
  subst hkm
  refine codeAny_builtin PySem.F.entry_extend_loop ?_
  rw[Around.under_plainId PySem.F.plain_extend_loop _]
  show wpAny _ A.in1 (pyNext (.ref z) >>= _) _ _ s
  refine wpAny_bind (nQ D1 D2 D st he fun h' tk kk=>wpAny_pure (q h' tk c (fun b o n1 n2 n3 n4 _ e=>kk b o n1 n2 n3 n4 e) ?_ ?_))
  .rw[←ha];exact kk _ _ e1 e3 e4 e5 hS
  .intro j hj
   obtain⟨x,y,p1,p2,t⟩:=hl j hj
   exact⟨x,y,p1,p2,kk _ _ (aw j).1 (aw j).2.1 (aw j).2.2.1 (aw j).2.2.2.1 t⟩
 |succ j ih =>
  intro k s acc c hj hk st hS ha hz hl q
  have hlt:k<m:=by omega
  refine codeAny_builtin PySem.F.entry_extend_loop ?_
  rw[Around.under_plainId PySem.F.plain_extend_loop _]
  show wpAny _ A.in1 (pyNext (.ref z) >>= _) _ _ s
  refine wpAny_bind (tX D1 D2 D st (hm k hlt).1 (hm k hlt).2 fun x y h' tk p1 p2 st' tp sz kk=>?_)
  have hS':=kk _ _ e1 e3 e4 e5 hS
  have hlen:acc.size=k:=by rw[ha];simp
  show wpAny _ A.in1 (updateSeq S (·.push (.ref s.heap.objs.size)) >>= _) _ _ _
  refine wpAny_bind ?_
  have oth:∀b o,b≠S->h'.get? b=some o->(h'.update S (Obj.mapSeq (·.push (Value.ref s.heap.objs.size)))).get? b=some o:=fun b o n e=>(Heap.get?_update_other _ _ (Ne.symm n)).trans e
  have hS2:=Heap.get?_update_self (Obj.mapSeq (·.push (Value.ref s.heap.objs.size))) hS' rfl
  have szu:(h'.update S (Obj.mapSeq (·.push (Value.ref s.heap.objs.size)))).objs.size=h'.objs.size:=(Heap.SameBut.update ..).1
  refine wpAny_updateSeq hS' rfl (wpAny_pure ⟨plainId_quiet PySem.F.plain_extend_loop _,ih (k+1) _ (acc.push (.ref s.heap.objs.size)) _ (by omega) hlt (ZS.frame D1 D2 st' f1 f2 e1 e2 e3 ⟨_,hS2⟩ oth) hS2 ?_ ?_ ?_ fun h'' tk'' c'' kk2 hS3 hl3=>?_⟩)
   (by rw[hlen];omega) (by show(acc.push _).size<=sizeLine+1;rw[Array.size_push,hlen];omega)
  .rw[ha,hz,List.range_succ];simp
  .rw[show(Shared.heap _).objs.size=_ from szu,sz,hz];omega
  .intro j hj
   by_cases q':j=k
   .subst q'
    refine⟨x,y,p1,p2,oth _ _ (aw _).2.2.2.2 ?_⟩
    rw[←hz];exact tp
   .obtain⟨x',y',r1,r2,t⟩:=hl j (by omega)
    exact⟨x',y',r1,r2,oth _ _ (aw j).2.2.2.2 (kk _ _ (aw j).1 (aw j).2.1 (aw j).2.2.1 (aw j).2.2.2.1 t)⟩
  .exact q h'' tk'' c'' (fun b o n1 n2 n3 n4 n5 e=>kk2 b o n1 n2 n3 n4 n5 (oth b o n5 (kk b o n1 n2 n3 n4 e))) hS3 hl3
theorem jG:typeLookup (.type "zip") "__len__"=pure none:=by rw[typeLookup_type,builtinLookup_eq_fast];kernel_rfl
theorem fH:typeLookup (.type "zip") "__length_hint__"=pure none:=by rw[typeLookup_type,builtinLookup_eq_fast];kernel_rfl
theorem ZS.push{h:Heap}(D1:Draws prog w A i1 fp1 n1 P1 S1)(D2:Draws prog w A i2 fp2 n2 P2 S2)(st:ZS z TI TO i1 i2 S1 S2 k h)(o:Obj):ZS z TI TO i1 i2 S1 S2 k (h.push o):=by
 obtain⟨a1,a2,a3,a4⟩:=st
 refine⟨Heap.get?_push_of_some _ a1,D1.frame _ _ _ a2 fun c hc o e=>Heap.get?_push_of_some _ e,D2.frame _ _ _ a3 fun c hc o e=>Heap.get?_push_of_some _ e,?_⟩
 rcases a4 with ⟨a,b,b1,b2⟩|⟨T,c,o,b1,b2,b3⟩
 .exact .inl ⟨a,b,Heap.get?_push_of_some _ b1,Heap.get?_push_of_some _ b2⟩
 .exact .inr ⟨T,c,o,Heap.get?_push_of_some _ b1,Heap.get?_push_of_some _ b2,b3⟩
theorem qO{Q:Value->Shared->Prop}(T:s.TypeIs (.ref z) "zip")(q:Q (.ref z) s):wpAny (model prog w) A (pyIter (.ref z)) Q E s :=
 wpAny_pyIter_slot T PySem.F.slot_zip_iter (wpAny_call_entry PySem.F.slot_zip_iter T PySem.F.entry_zip_iter (show wpAny _ _ (ret (.ref z)) _ _ s from wpAny_pure ⟨_,rfl,"zip",_,T,PySem.F.slot_zip_next.lookup,q⟩) (PySem.F.args_zip_iter_1 _))
theorem qF{Q:Value->Shared->Prop}(D1:Draws prog w A.in1.in1.in1 i1 fp1 n1 P1 S1)(D2:Draws prog w A.in1.in1.in1 i2 fp2 n2 P2 S2)(D:Apart z TI TO i1 i2 fp1 fp2){m:Nat}(hm:∀k,k<m->k<n1/\k<n2)(he:m=n1∨(m<n1/\m=n2))(hs:m<=1000000)(st:ZS z TI TO i1 i2 S1 S2 0 s.heap)
  (l1:∀b∈fp1,b<s.heap.objs.size) (l2:∀b∈fp2,b<s.heap.objs.size) (l3:z<s.heap.objs.size/\TI<s.heap.objs.size/\TO<s.heap.objs.size/\i1<s.heap.objs.size/\i2<s.heap.objs.size)
  (q:∀h' tk c',(∀b o,b≠z->b≠TO->b≠i1->b≠i2->s.heap.get? b=some o->h'.get? b=some o)->h'.get? s.heap.objs.size=some { cls:=.type "list",dict:=none,data:=.seq ((List.range m).map fun j=>Value.ref (s.heap.objs.size+1+j)).toArray c',slots:=#[] } ->
   Laid P1 P2 (s.heap.objs.size+1) m h'->Q (.ref s.heap.objs.size) { s with heap:=h',toks:=tk }):wpAny (model prog w) A (call (.type "list") [.ref z]) Q E s:=by
 refine callType_codes (Q₁:=fun obj s₁=>obj=.ref s.heap.objs.size/\s₁={ s with heap:=s.heap.push { cls:=.type "list",data:=.seq #[] } }) PySem.F.called_list (PySem.F.typeCall_list_1 _) PySem.F.entry_list_init (code_list_new _ ⟨rfl,rfl⟩) fun obj s₁ h₁=>?_
 obtain⟨rfl,rfl⟩:=h₁
 have g0:(s.heap.push { cls:=.type "list",data:=.seq #[] }).get? s.heap.objs.size=some { cls:=.type "list",data:=.seq #[] }:=Heap.get?_push_size _ rfl
 refine⟨⟨_,g0,rfl⟩,PySem.F.args_list_init_2 _ _,?_⟩
 generalize hS:s.heap.objs.size=S at *
 have st0:=ZS.push D1 D2 st { cls:=.type "list",data:=.seq #[] }
 have sz0:(s.heap.push { cls:=.type "list",data:=.seq #[] }).objs.size=S+1:=by rw[Heap.size_push,hS]
 have k0:∀b o,s.heap.get? b=some o->(s.heap.push { cls:=.type "list",data:=.seq #[] }).get? b=some o:=fun b o e=>Heap.get?_push_of_some _ e
 generalize s.heap.push { cls:=.type "list",data:=.seq #[] }=h0 at *
 have ne1:S≠z:=Nat.ne_of_gt l3.1
 have ne2:S≠TI:=Nat.ne_of_gt l3.2.1
 have ne3:S≠TO:=Nat.ne_of_gt l3.2.2.1
 have ne4:S≠i1:=Nat.ne_of_gt l3.2.2.2.1
 have ne5:S≠i2:=Nat.ne_of_gt l3.2.2.2.2
 have nf1:S ∉ fp1:=fun z=>Nat.lt_irrefl _ (l1 _ z)
 have nf2:S ∉ fp2:=fun z=>Nat.lt_irrefl _ (l2 _ z)
 -- one write of the new list after the other
 have wr:∀(h:Heap)(f:Array Value->Array Value)(xs:Array Value)(c:Nat),h.get? S=some { cls:=.type "list",data:=.seq xs c }->(∀b o,b≠S->h.get? b=some o->(h.update S (Obj.mapSeq f)).get? b=some o)/\(h.update S (Obj.mapSeq f)).objs.size=h.objs.size:=fun h f xs c e=>⟨fun b o n e=>(Heap.get?_update_other _ _ (Ne.symm n)).trans e,(Heap.SameBut.update ..).1⟩
 refine(show wpAny _ _ (do let old ←Builtin.List.listItems (.ref S);Builtin.List.listUpdate (.ref S) (fun _=>#[]);letGo old.toList.reverse;Builtin.List.listExtendWith (.ref S) (.ref z) .none) _ _ _ from wpAny_bind ?_)
 unfold Builtin.List.listItems
 refine wpAny_bind (wpAny_seqItems g0 rfl (wpAny_pure (show wpAny _ _ (updateSeq S (fun _=>#[]) >>= fun _=>letGo (#[]:Array Value).toList.reverse >>= fun _=>Builtin.List.listExtendWith (.ref S) (.ref z) .none) _ _ _ from wpAny_bind (wpAny_updateSeq g0 rfl (wpAny_bind (wpAny_letGo ?_))))))
 have g1:=Heap.get?_update_self (Obj.mapSeq (fun _=>(#[]:Array Value))) g0 rfl
 obtain⟨o1,z1⟩:=wr h0 (fun _=>#[]) _ _ g0
 have st1:=ZS.frame D1 D2 st0 nf1 nf2 ne1 ne2 ne3 ⟨_,g1⟩ o1
 unfold Builtin.List.listExtendWith
 refine wpAny_bind (wpAny_typeOf (st1.type (s:={ s with heap:=_ })) ?_)
 have b1:Builtin.List.listSameRef (.ref S) (.ref z)=false:=by simp[Builtin.List.listSameRef,ne1]
 rw[if_neg (by rw[b1];decide)]
 have ty1:Shared.TypeIs { s with heap:=h0.update S (Obj.mapSeq (fun _=>(#[]:Array Value))) } (.ref z) "zip":=st1.type (s:={ s with heap:=_ })
 refine wpAny_bind (qO ty1 ?_)
 refine wpAny_bind (wpAny_holding ?_)
 unfold Builtin.List.listLengthHint
 refine wpAny_bind (wpAny_specialOf ty1 jG ?_)
 refine(show wpAny _ _ (specialOf (Value.ref z) (Str.ofString "__length_hint__") >>= _) _ _ _ from wpAny_bind (wpAny_specialOf ty1 fH (wpAny_pure ?_)))
 refine(show wpAny _ _ (rule "list.extend.makes-room" >>= fun _=>Builtin.List.listTouch (.ref S) >>= fun _=>again (.builtin "list.extend.loop" ⟨[.ref S,.ref z,.none],[]⟩)) _ _ _ from wpAny_bind (wpAny_rule (wpAny_bind ?_)))
 refine(show wpAny _ _ (updateSeq S (·.push .none) >>= fun _=>updateSeq S (·.pop)) _ _ _ from wpAny_bind (wpAny_updateSeq g1 rfl ?_))
 have g2:=Heap.get?_update_self (Obj.mapSeq (·.push Value.none)) g1 rfl
 obtain⟨o2,z2⟩:=wr _ (·.push Value.none) _ _ g1
 have g3:=Heap.get?_update_self (Obj.mapSeq (·.pop)) g2 rfl
 obtain⟨o3,z3⟩:=wr _ (·.pop) _ _ g2
 refine wpAny_updateSeq (hz:=by seq_fits) g2 rfl ?_
 have st3:=ZS.frame D1 D2 (ZS.frame D1 D2 st1 nf1 nf2 ne1 ne2 ne3 ⟨_,g2⟩ o2) nf1 nf2 ne1 ne2 ne3 ⟨_,g3⟩ o3
 refine wpAny_pure ⟨plainId_quiet PySem.F.plain_extend_loop _,nU D1 D2 D (t0:=S+1) hm he hs S nf1 nf2 ne1 ne2 ne3 ne4 ne5 (Nat.lt_succ_self _) ⟨Nat.lt_succ_of_lt l3.1,Nat.lt_succ_of_lt l3.2.2.1,Nat.lt_succ_of_lt l3.2.2.2.1,Nat.lt_succ_of_lt l3.2.2.2.2⟩ _ m 0 _ _ _ rfl (Nat.zero_le _) st3 g3 ?_ ?_ (fun j hj=>absurd hj (Nat.not_lt_zero _)) fun h' tk c' kk hS' hl=>⟨rfl,q h' tk c' (fun b o n1 n2 n3 n4 e=>?_) hS' hl⟩⟩
 .simp
 .show(Heap.update _ _ _).objs.size=_
  rw[z3,z2,z1,sz0]
 .have nb:b≠S:=Nat.ne_of_lt (hS ▸ Heap.lt_size e)
  exact kk b o n1 n2 n3 n4 nb (o3 b o nb (o2 b o nb (o1 b o nb (k0 b o e))))
end
end HT
end
section
namespace L2
open PySem PySem.Spec PyProof.Rows
section
variable{X:Cx}{pins:List (Addr×Obj)}{σ:St}{H:Hp}{s:Shared}
theorem Inv.xQ{H':Hp}{h':Heap}{d':Drawn}{t':Nat}(I:Inv X pins σ H s)(k:∀b u,s.heap.get? b=some u->h'.get? b=some u)(old:∀b,b<s.heap.objs.size->H' b=H b)(ext:∀b o,H b=some o->H' b=some o)
  (new:∀b o,H' b=some o->H b=none->Ed X.prog X.w H' h' b o):Inv X pins σ H' { s with heap:=h',drawn:=d',toks:=t' }:=by
 refine I.step (g':=s.gens) (ch:=[]) (fun _ z=>nomatch z) (fun b u _ _ _ e _=>k b u e) (fun b u _ _ _ e _=>⟨u.slots,k b u e⟩) (fun b u _ e n=>by rw[old b (Heap.lt_size e)];exact n) (fun b u _ e=>⟨u,k b u e⟩)
  (fun b xs e=>ext _ _ e) (fun b u xs e=>ext _ _ e) (fun b ps e=>⟨#[],by rw[ext _ _ e];simp⟩) (fun m hm=>?_) (fun b u e=>?_) I.bare (fun n=>by rw[old _ I.bh];exact n)
 .obtain⟨ob,es,ep,e,r⟩:=hm
  exact⟨ob,es,ep,k _ _ e,r⟩
 .cases q:H b with
  |none=>exact new b u e q
  |some o =>
   have:=ext b o q
   rw[this] at e
   cases e
   exact(I.hok b _ q).stay (fun c v _ q=>k c v q) (fun c q=>ext _ _ q) fun c xs q=>ext _ _ q
end
def jV(L:Bool)(ta:TA):TE:=fun σ H Q=>ta σ H fun vs H1=>∃a b xs ys,vs=[.ref a,.ref b]/\H1 a=some (HB L xs)/\H1 b=some (HB L ys)/\(xs.zip ys).length<=1000000 /\
 ∀l t0 H2,H1 l=none->(∀c o,H1 c=some o->H2 c=some o)->H2 l=some (.lst ((List.range (xs.zip ys).length).map fun j=>V.ref (t0+j)))->(∀j p,(xs.zip ys)[j]?=some p->H2 (t0+j)=some (.tup [p.1,p.2]))->Q (.ref l) H2
section
variable{X:Cx}
theorem cY(L:Bool){a b:Expr}{ta:TA}{p p2 pos pos2:Pos}(hc:X.calm=true)(hg:Gl X "list")(hm:X.mg "list"=none)(hg2:Gl X "zip")(hm2:X.mg "zip"=none)(ha:PA X [a,b] ta)(hs:starEach [a,b] X.env=[(false,eval a X.env),(false,eval b X.env)]:=by rfl)(hs2:starEach [b] X.env=[(false,eval b X.env)]:=by rfl)
  (he2:starEach [.Call (.Name "zip" p2) [a,b] [] pos2] X.env=[(false,eval (.Call (.Name "zip" p2) [a,b] [] pos2) X.env)]:=by rfl):PE X (.Call (.Name "list" p) [.Call (.Name "zip" p2) [a,b] [] pos2] [] pos) (jV L ta):=by
 intro pins s σ H Q I h
 refine wpAny_Call_Name_kw (Jz I hg hm (by decide +kernel:bootBuiltins "list"=some (.type "list")) (PyProof.Rows.callWith_type1 ?_ he2 rfl))
 rw[he2]
 refine(show wpAny _ _ (spliced ((false,eval (.Call (.Name "zip" p2) [a,b] [] pos2) X.env)::backTo pos (starEach [] X.env))) _ _ s from Calls.spliced_cons ?_)
 refine Call_ (Jz I hg2 hm2 (by decide +kernel:bootBuiltins "zip"=some (.type "zip")) (PyProof.Rows.callWith_type1 (thn (ha pos2 pins s σ H _ I h) fun us s1 ⟨vs,H1,I1,r1,q1⟩=>?_) (by rw[hs,hs2]) (by rw[hs2];rfl)))
 obtain⟨l,m,xs,ys,e,e1,e2,hl,q⟩:=q1
 subst e
 obtain⟨us1,us2⟩:us=[.ref l,.ref m]/\True:=by
  cases r1 with
  |cons r rr =>
   cases rr with
   |cons r' rr =>
    cases rr
    cases r
    cases r'
    exact⟨rfl,trivial⟩
 subst us1
 obtain⟨its1,rv1,p1⟩:=I1.Qs e1
 obtain⟨its2,rv2,p2⟩:=I1.Qs e2
 have fin:∀h',IsZip h' (s1.heap.objs.size+4) (s1.heap.objs.size+2) (s1.heap.objs.size+3) .none->IsPair h' (s1.heap.objs.size+2) (.ref s1.heap.objs.size) (.ref (s1.heap.objs.size+1))->IsPair h' (s1.heap.objs.size+3) .none .none ->
   K5 L h' s1.heap.objs.size l 0->K5 L h' (s1.heap.objs.size+1) m 0->(∀c o,s1.heap.get? c=some o->h'.get? c=some o)->wpAny (model X.prog X.w) X.A (spliced (backTo pos (starEach [] X.env))) (fun us s2=>wpAny (model X.prog X.w) X.A (call (.type "list") (.ref (s1.heap.objs.size+4)::us)) (fun v s3=>∃x H',Inv X pins σ H' s3/\RelV x v/\Q x H') X.xe s2) X.xe { s1 with heap:=h' }:=fun h' c1 c2 c3 c4 c5 k=>by
  refine Calls.spliced_nil ?_
  generalize hn:s1.heap.objs.size=n at *
  have seqAt:∀(t:Addr)(ws:Array Value),bw L s1.heap t ws->bw L h' t ws/\t<n:=fun t ws x=>by
   cases L with
   |true =>
    refine⟨Heap.IsList.at x fun o e=>k _ _ e,?_⟩
    obtain⟨o,e,_⟩:=(show s1.heap.IsList t ws from x)
    exact hn ▸ Heap.lt_size e
   |false =>
    refine⟨Heap.IsTuple.at x fun o e=>k _ _ e,?_⟩
    obtain⟨o,e,_⟩:=(show s1.heap.IsTuple t ws from x)
    exact hn ▸ Heap.lt_size e
  obtain⟨q1,ll⟩:=seqAt _ _ p1
  obtain⟨q2,lm⟩:=seqAt _ _ p2
  have lz:n+4<h'.objs.size:=Heap.lt_size c1
  have lz0:n<h'.objs.size:=Nat.lt_trans (Nat.lt_add_of_pos_right (by decide)) lz
  have lz1:n+1<h'.objs.size:=Nat.lt_trans (Nat.add_lt_add_left (by decide) n) lz
  have lz2:n+2<h'.objs.size:=Nat.lt_trans (Nat.add_lt_add_left (by decide) n) lz
  have lz3:n+3<h'.objs.size:=Nat.lt_trans (Nat.add_lt_add_left (by decide) n) lz
  have hh:X.A.in1.in1.in1.handled=none:=I1.ok.hd hc
  have sl1:=rv1.length
  have sl2:=rv2.length
  have hlen:(xs.zip ys).length=min its1.length its2.length:=by rw[List.length_zip,sl1,sl2]
  refine HT.qF (z:=n+4) (TI:=n+2) (TO:=n+3) (i1:=n) (i2:=n+1) (m:=(xs.zip ys).length) (Pz L hh n l (Nat.ne_of_lt ll) its1.toArray) (Pz L hh (n+1) m (Nat.ne_of_lt (Nat.lt_succ_of_lt lm)) its2.toArray)
   (UW (by simp) (by simp) (by simp) ⟨by simp,by simp,by simp⟩ ⟨by simp,by simp,by simp⟩ (by simp) (by simp only[List.mem_cons,List.not_mem_nil,or_false,not_or];exact⟨Nat.ne_of_lt (Nat.lt_of_lt_of_le ll (Nat.le_add_right _ _)),Nat.ne_of_lt (Nat.lt_of_lt_of_le ll (Nat.le_add_right _ _)),Nat.ne_of_lt (Nat.lt_of_lt_of_le ll (Nat.le_add_right _ _)),Nat.ne_of_lt ll,Nat.ne_of_lt (Nat.lt_of_lt_of_le ll (Nat.le_add_right _ _))⟩)
    (by simp only[List.mem_cons,List.not_mem_nil,or_false,not_or];exact⟨Nat.ne_of_lt (Nat.lt_of_lt_of_le lm (Nat.le_add_right _ _)),Nat.ne_of_lt (Nat.lt_of_lt_of_le lm (Nat.le_add_right _ _)),Nat.ne_of_lt (Nat.lt_of_lt_of_le lm (Nat.le_add_right _ _)),Nat.ne_of_lt lm,Nat.ne_of_lt (Nat.lt_of_lt_of_le lm (Nat.le_add_right _ _))⟩))
   (fun j hj=>by rw[hlen] at hj;simp;omega) (by rw[hlen];simp;omega) hl ⟨c2,⟨c4,q1⟩,⟨c5,q2⟩,.inl ⟨_,_,c1,c3⟩⟩ ?_ ?_ ⟨lz,lz2,lz3,lz0,lz1⟩ fun h2 tk c' kk hS hL=>?_
  .intro b hb
   simp only[List.mem_cons,List.not_mem_nil,or_false] at hb
   show b<h'.objs.size
   rcases hb with rfl|rfl
   .exact lz0
   .exact Nat.lt_trans ll lz0
  .intro b hb
   simp only[List.mem_cons,List.not_mem_nil,or_false] at hb
   show b<h'.objs.size
   rcases hb with rfl|rfl
   .exact lz1
   .exact Nat.lt_trans lm lz0
  .generalize hS':h'.objs.size=S at *
   have up:∀b u,s1.heap.get? b=some u->b<n:=fun b u e=>hn ▸ Heap.lt_size e
   have k2:∀b u,s1.heap.get? b=some u->h2.get? b=some u:=fun b u e=>by
    have:=up b u e
    exact kk b u (Nat.ne_of_lt (Nat.lt_of_lt_of_le this (Nat.le_add_right _ _))) (Nat.ne_of_lt (Nat.lt_of_lt_of_le this (Nat.le_add_right _ _))) (Nat.ne_of_lt this) (Nat.ne_of_lt (Nat.lt_of_lt_of_le this (Nat.le_add_right _ _))) (k b u e)
   let refs:List V:=(List.range (xs.zip ys).length).map fun j=>V.ref (S+1+j)
   let H2:Hp:=fun b=>if b=S then some (.lst refs) else match (if S+1<=b then (xs.zip ys)[b-(S+1)]? else none) with|some p=>some (.tup [p.1,p.2])|none=>H1 b
   have old:∀b,b<n->H2 b=H1 b:=fun b hb=>by
    have h1:b≠S:=Nat.ne_of_lt (Nat.lt_trans hb lz0)
    have h2:¬S+1<=b:=Nat.not_le_of_lt (Nat.lt_trans hb (Nat.lt_succ_of_lt lz0))
    show(if b=S then _ else _)=_
    rw[if_neg h1,if_neg h2]
   have ext:∀b o,H1 b=some o->H2 b=some o:=fun b o e=>by
    obtain⟨ob,e'⟩:=(I1.hok b o e).obj
    rw[old b (up b ob e')];exact e
   have hpair:∀j p,(xs.zip ys)[j]?=some p->H2 (S+1+j)=some (.tup [p.1,p.2]):=fun j p e=>by
    show(if S+1+j=S then _ else _)=_
    rw[if_neg (by omega),if_pos (by omega),show S+1+j-(S+1)=j by omega,e]
   have hlst:H2 S=some (.lst refs):=by show(if S=S then _ else _)=_;rw[if_pos rfl]
   have fresh:∀b,n<=b->H1 b=none:=fun b hb=>I1.hok.fresh (hn ▸ hb)
   refine⟨.ref S,H2,I1.xQ (h':=h2) (d':=s1.drawn) (t':=tk) k2 (hn ▸ old) ext fun b o e e'=>?_,rfl,q S (S+1) H2 (fresh S (Nat.le_of_lt lz0)) ext hlst hpair⟩
   by_cases hb:b=S
   .subst hb
    rw[hlst] at e
    cases e
    refine⟨?_,(List.range (xs.zip ys).length).map (fun j=>Value.ref (b+1+j)),c',?_,hS⟩
    .show((List.range (xs.zip ys).length).map _).length<=_
     rw[List.length_map,List.length_range];exact Nat.le_trans hl (by decide)
    .show Vals ((List.range (xs.zip ys).length).map _) _
     generalize List.range (xs.zip ys).length=r
     induction r with
     |nil=>exact .nil
     |cons j r ih=>exact .cons rfl ih
   .by_cases hb2:S+1<=b
    .obtain⟨j,rfl⟩:∃j,b=S+1+j:=⟨b-(S+1),(Nat.add_sub_cancel' hb2).symm⟩
     cases hz:(xs.zip ys)[j]? with
     |none =>
      have:H2 (S+1+j)=H1 (S+1+j):=by
       show(if S+1+j=S then _ else _)=_
       rw[if_neg hb,if_pos hb2,show S+1+j-(S+1)=j by omega,hz]
      rw[this,e'] at e;cases e
     |some p =>
      rw[hpair j p hz] at e
      cases e
      obtain⟨hj,_⟩:=List.getElem?_eq_some_iff.mp hz
      obtain⟨x,y,r1,r2,t⟩:=hL j hj
      have z1:=List.getElem?_zip_eq_some.mp hz
      obtain⟨u,hu,ru⟩:=rv1.get z1.1
      obtain⟨v,hv,rv⟩:=rv2.get z1.2
      have g1:its1[j]?=some x:=by simpa using r1
      have g2:its2[j]?=some y:=by simpa using r2
      rw[hu] at g1
      rw[hv] at g2
      have g1':=Option.some.inj g1
      have g2':=Option.some.inj g2
      rw[g1'] at ru
      rw[g2'] at rv
      exact⟨(by decide:2<=sizeLine),[x,y],.cons ru (.cons rv .nil),⟨_,t,rfl,_,rfl⟩⟩
    .have:H2 b=H1 b:=by
      show(if b=S then _ else _)=_
      rw[if_neg hb,if_neg hb2]
     rw[this,e'] at e;cases e
 cases L with
 |true=>exact call_zip_2 p1 p2 fun h' c1 c2 c3 c4 c5 _ k=>fin h' c1 c2 c3 c4 c5 k
 |false=>exact HT.Z5 p1 p2 fun h' c1 c2 c3 c4 c5 k=>fin h' c1 c2 c3 c4 c5 k
end
end L2
end
section
namespace VS
open PySem PySem.Spec L2 PyProof.Rows
theorem Wc{Γ:Fr}{μ:Mu}{H:Hp}:∀{as bs:List V} {xs ys:List D} (t0:Nat),VRs Γ μ H as xs->VRs Γ μ H bs ys->(∀j p,(as.zip bs)[j]?=some p->H (t0+j)=some (.tup [p.1,p.2]))->VRs Γ μ H ((List.range' t0 (as.zip bs).length).map V.ref) (DX xs ys)
 |[],_,_,_,_,.nil,_,_=>by simp[DX];exact .nil
 |_::_,[],_,_,_,.cons _ _,.nil,_=>by simp[DX];exact .nil
 |a::as,b::bs,_,_,t0,.cons ra rs,.cons rb rt,h=>by
  rw[List.zip_cons_cons,List.length_cons,List.range'_succ,List.map_cons,DX]
  refine .cons (.tup (h 0 (a,b) rfl) (.cons ra (.cons rb .nil))) (Wc (t0+1) rs rt fun j p hp=>?_)
  have:=h (j+1) p (by simpa using hp)
  rw[show t0+1+j=t0+(j+1) by omega]
  exact this
theorem WK:∀(xs ys:List D),(DX xs ys).length=(xs.zip ys).length
 |[],_=>by simp[DX]
 |_::_,[]=>by simp[DX]
 |_::xs,_::ys=>by simp[DX,WK xs ys]
def O7(a:Bb):Az:=fun env S=>(a env S).bind fun p=>match p.1 with
 |[x,y]=>(listOf p.2 x).bind fun xs=>(listOf p.2 y).bind fun ys=>if (DX xs ys).length<=1000000 then some (.lst true (DX xs ys),p.2) else none
 |_=>none
theorem V2{X:Cx}{a b:Expr}{f:Bb}{p p2 pos pos2:Pos}(hc:X.calm=true)(ha:JA X [a,b] f)(hg:Gl X "list")(hm:X.mg "list"=none)(hg2:Gl X "zip")(hm2:X.mg "zip"=none)(hs:starEach [a,b] X.env=[(false,eval a X.env),(false,eval b X.env)]:=by rfl)(hs2:starEach [b] X.env=[(false,eval b X.env)]:=by rfl)
  (he2:starEach [.Call (.Name "zip" p2) [a,b] [] pos2] X.env=[(false,eval (.Call (.Name "zip" p2) [a,b] [] pos2) X.env)]:=by rfl):JE X (.Call (.Name "list" p) [.Call (.Name "zip" p2) [a,b] [] pos2] [] pos) (O7 f) :=
 ⟨PE.imp (cY true hc hg hm hg2 hm2 ha.pa hs hs2 he2) fun σ H Q h=>by
  obtain⟨Γ,μ,env,S,d,S',hK,R,e,q⟩:=h
  obtain⟨⟨ds,S1⟩,e1,e⟩:=bind_some e
  dsimp only at e
  split at e
  .rename_i x y
   obtain⟨xs,e2,e⟩:=bind_some e
   obtain⟨ys,e3,e⟩:=bind_some e
   by_cases hl:(DX xs ys).length<=1000000
   .rw[if_pos hl] at e;cases e
    refine⟨Γ,μ,env,S,[x,y],_,hK,R,e1,fun vs μ1 H1 x1 R1 r1=>?_⟩
    obtain⟨v,u,rfl,ra,rb⟩:=r1.two
    obtain⟨pa,as,rfl,ha',rx⟩:=VR.list R1 ra e2
    obtain⟨pb,bs,rfl,hb',ry⟩:=VR.list R1 rb e3
    refine⟨pa,pb,as,bs,rfl,ha',hb',?_,fun l t0 H2 hn hx hl2 hp=>?_⟩
    .rw[WK,List.length_zip,←rx.length,←ry.length] at hl
     rw[List.length_zip];exact hl
    .obtain⟨R2,x2⟩:=R1.grow (show Same H1 H2 from hx)
     have hr:(List.range (as.zip bs).length).map (fun j=>V.ref (t0+j))=(List.range' t0 (as.zip bs).length).map V.ref:=by
      rw[List.range'_eq_map_range,List.map_map];rfl
     exact q _ μ1 H2 (x1.trans x2) R2 (.lst (R1.ok hn true) (R1.dead hn) hl2 (by rw[hr];exact Wc t0 (rx.ext x2) (ry.ext x2) hp))
   .rw[if_neg hl] at e;cases e
  .cases e⟩
def QT(a b:Az):Az:=fun env S=>(a env S).bind fun p=>(b env p.2).bind fun q=>match q.1 with
 |.int k=>(listOf q.2 p.1).bind fun ds=>if -(2^63)<=k/\k<2^63/\ds.length*k.toNat<=1000000 then some (.ref q.2.length,q.2++[some (List.replicate k.toNat ds).flatten]) else none
 |_=>none
theorem bD{X:Cx}{a b:Expr}{fa fb:Az}{pos:Pos}(ha:JE X a fa)(hb:JE X b fb):JE X (.BinOp a .Mult b pos) (QT fa fb) :=
 ⟨PE.imp (n8 eH ha.pe hb.pe) fun σ H Q h=>by
  obtain⟨Γ,μ,env,S,d,S',hK,R,e,q⟩:=h
  obtain⟨⟨x,S1⟩,e1,e⟩:=bind_some e
  obtain⟨⟨y,S2⟩,e2,e⟩:=bind_some e
  dsimp only at e
  split at e
  .rename_i k
   obtain⟨ds,e3,e⟩:=bind_some e
   by_cases hl:-(2^63)<=k/\k<2^63/\ds.length*k.toNat<=1000000
   .rw[if_pos hl] at e;cases e
    refine⟨Γ,μ,env,S,x,S1,hK,R,e1,fun v1 μ1 H1 x1 R1 r1=>?_⟩
    refine⟨Γ,μ1,env,S1,.int k,S2,hK,R1,e2,fun v2 μ2 H2 x2 R2 r2=>?_⟩
    cases r2
    obtain⟨p,xs,rfl,hp,rp⟩:=VR.list R2 (r1.ext x2) e3
    refine⟨p,k,xs,rfl,rfl,hp,hl.1,hl.2.1,by rw[rp.length];exact Nat.le_of_lt (big hl.2.2),fun t ht=>?_⟩
    obtain⟨R3,x3⟩:=R2.laid ht (rp.rep k.toNat)
    exact q _ _ _ (x1.trans (x2.trans x3)) R3 (Vu R2.slen)
   .rw[if_neg hl] at e;cases e
  .cases e⟩
theorem TX(a:Bb)(env:VS.Env)(S:Store):VS.O7 a env S=(a env S).bind fun p=>match p.1 with
 |[x,y]=>(listOf p.2 x).bind fun xs=>(listOf p.2 y).bind fun ys=>if (DX xs ys).length<=1000000 then some (.lst true (DX xs ys),p.2) else none
 |_=>none:=rfl
theorem mF(a b:Az)(env:VS.Env)(S:Store):VS.QT a b env S=(a env S).bind fun p=>(b env p.2).bind fun q=>match q.1 with
 |.int k=>(listOf q.2 p.1).bind fun ds=>if -(2^63)<=k/\k<2^63/\ds.length*k.toNat<=1000000 then some (.ref q.2.length,q.2++[some (List.replicate k.toNat ds).flatten]) else none
 |_=>none:=rfl
end VS
end
section
namespace VS
open PySem PySem.Spec L2
end VS
end
section
namespace HT
open PySem PySem.Spec PyProof PyProof.Rows
def half{α:Type}(a:Nat)(l:List α):List α:=(List.range ((l.length+1-a)/2)).filterMap fun k=>l[a+2*k]?
theorem Yo{α:Type}(a:Nat)(l:List α):(half a l).length<=l.length:=by
 refine Nat.le_trans (List.length_filterMap_le ..) ?_
 rw[List.length_range]
 omega
theorem Vg(xs:Array Value):slicePick xs none none (some 2)=(half 0 xs.toList).toArray:=by
 have b:sliceBounds none none (some 2) xs.size=(0,(xs.size:Int),2):=by simp[sliceBounds]
 unfold slicePick
 rw[b]
 unfold sliceRange half
 simp only[show((2:Int)>0) by decide,if_true]
 have e:(if (0:Int)<(xs.size:Int) then ((xs.size:Int)-0+2-1)/2 else 0).toNat=(xs.toList.length+1-0)/2:=by
  rw[Array.length_toList]
  split<;>omega
 rw[e,List.filterMap_map]
 refine congrArg List.toArray (congrArg (fun f=>List.filterMap f _) (funext fun k=>?_))
 show xs[((0:Int)+2*(k:Int)).toNat]?=_
 rw[show((0:Int)+2*(k:Int)).toNat=0+2*k by omega,Array.getElem?_toList]
theorem Vf(xs:Array Value):slicePick xs (some 1) none (some 2)=(half 1 xs.toList).toArray:=by
 have b:sliceBounds (some 1) none (some 2) xs.size=(min 1 (xs.size:Int),(xs.size:Int),2):=by
  simp[sliceBounds]
  omega
 unfold slicePick
 rw[b]
 unfold sliceRange half
 simp only[show((2:Int)>0) by decide,if_true]
 have e:(if min 1 (xs.size:Int)<(xs.size:Int) then ((xs.size:Int)-min 1 (xs.size:Int)+2-1)/2 else 0).toNat=(xs.toList.length+1-1)/2:=by
  rw[Array.length_toList]
  split<;>omega
 rw[e,List.filterMap_map]
 by_cases hn:xs.size=0
 .have:xs.toList.length=0:=by rw[Array.length_toList];exact hn
  rw[this];rfl
 refine congrArg List.toArray (congrArg (fun f=>List.filterMap f _) (funext fun k=>?_))
 show xs[(min 1 (xs.size:Int)+2*(k:Int)).toNat]?=_
 rw[show(min 1 (xs.size:Int)+2*(k:Int)).toNat=1+2*k by omega,Array.getElem?_toList]
end HT
namespace L2
open PySem PySem.Spec PyProof PyProof.Rows
theorem Vals.pick{xs:List V}{us:List Value}(r:Vals xs us):∀ks:List Nat,Vals (ks.filterMap (xs[·]?)) (ks.filterMap (us[·]?))
 |[]=>.nil
 |k::ks=>by
  have hl:=r.length
  cases h:xs[k]? with
  |none =>
   have h':us[k]?=none:=by rw[List.getElem?_eq_none_iff] at h ⊢;omega
   rw[List.filterMap_cons_none h,List.filterMap_cons_none h']
   exact r.pick ks
  |some x =>
   obtain⟨u,hu,ru⟩:=r.get h
   rw[List.filterMap_cons_some h,List.filterMap_cons_some hu]
   exact .cons ru (r.pick ks)
theorem Oq{α:Type}(a:Nat)(l:List α):HT.half a l=((List.range ((l.length+1-a)/2)).map fun k=>a+2*k).filterMap (l[·]?):=by
 unfold HT.half
 rw[List.filterMap_map];rfl
theorem Vals.half{xs:List V}{us:List Value}(r:Vals xs us)(a:Nat):Vals (HT.half a xs) (HT.half a us):=by
 rw[Oq,Oq,←r.length]
 exact r.pick _
def cH(K:PySem.W.Frag)(k:Nat)(te:TE):TE:=fun σ H Q=>te σ H fun x H1=>∃(a:Addr)(xs:List V),x=.ref a/\SqL K H1 a xs/\∀p,H1 p=none->Q (.ref p) (upd H1 p (.lst (HT.half k xs)))
theorem kZ{X:Cx}{e:Expr}{te:TE}{j:Nat}{p0 p2 pos:Pos}(he:PE X e te):PE X (.Subscript e (.Slice none none (some (.Constant (.int 2) j p0)) p2) pos) (cH X.K 0 te):=by
 intro pins s σ H Q I h
 refine Subscript_ (thn (he pins s σ H _ I h) fun v s1 ⟨x,H1,I1,r1,q1⟩=>?_)
 obtain⟨a,xs,rfl,ha,q⟩:=q1
 cases r1
 refine wpAny_Slice ?_
 rw[evalPart_none]
 refine wpAny_pure (wpAny_pure ?_)
 rw[evalPart_some]
 refine thn (R6 pins s1 σ H1 (fun x H2=>x=.int 2/\H2=H1) I1 ⟨rfl,rfl⟩) fun u s2 ⟨y,H2,I2,r2,e1,e2⟩=>?_
 subst e1 e2
 obtain⟨t0,rfl⟩:=(show ∃t,u=Value.int 2 t from r2)
 have I4:Inv X pins σ H2 { s2 with heap:=s2.heap.push { cls:=.type "slice",data:=.fields #[.none,.none,.int 2 t0] } }:=I2.kept (t':=s2.toks) fun b ob q=>Heap.get?_push_of_some _ q
 obtain⟨its,rv,ht,hz⟩:=I4.list ha
 have hlen:=rv.length
 show wpAny (model X.prog X.w) X.A (subscriptTail e (.Slice none none (some (.Constant (.int 2) j p0)) p2) (.ref a) (.ref s2.heap.objs.size)) (EP X pins σ Q) X.xe { s2 with heap:=s2.heap.push { cls:=.type "slice",data:=.fields #[.none,.none,.int 2 t0] } }
 refine tail_any (ops:=[.ref a,.ref s2.heap.objs.size]) ht.isList.typeIs slot_list_getitem.lookup ?_ (by with_unfolding_all rfl)
 refine wpAny_getItem_list_slice ht.isList (Heap.IsSliceOf.new ..) .none .none (.int 2 t0) (by simp) ?_ (by rw[List.size_toArray,←hlen];exact hz)
 rw[HT.Vg]
 refine⟨.ref _,_,I4.laid (t':=s2.toks) (o:=.lst (HT.half 0 xs)) (fun b ob q=>Heap.get?_push_of_some _ q) (Nat.le_refl _) ?_,rfl,q _ (I4.hok.fresh (Nat.le_refl _))⟩
 exact⟨Nat.le_trans (HT.Yo 0 xs) hz,HT.half 0 its,0,rv.half 0,Heap.get?_push_size _ rfl⟩
theorem kY{X:Cx}{e:Expr}{te:TE}{i j:Nat}{p0 p1 p2 pos:Pos}(he:PE X e te):PE X (.Subscript e (.Slice (some (.Constant (.int 1) i p1)) none (some (.Constant (.int 2) j p0)) p2) pos) (cH X.K 1 te):=by
 intro pins s σ H Q I h
 refine Subscript_ (thn (he pins s σ H _ I h) fun v s1 ⟨x,H1,I1,r1,q1⟩=>?_)
 obtain⟨a,xs,rfl,ha,q⟩:=q1
 cases r1
 refine wpAny_Slice ?_
 rw[evalPart_some]
 refine thn (R6 pins s1 σ H1 (fun x H2=>x=.int 1/\H2=H1) I1 ⟨rfl,rfl⟩) fun u s2 ⟨y,H2,I2,r2,e1,e2⟩=>?_
 subst e1 e2
 obtain⟨t0,rfl⟩:=(show ∃t,u=Value.int 1 t from r2)
 rw[evalPart_none]
 refine wpAny_pure ?_
 rw[evalPart_some]
 refine thn (R6 pins s2 σ H2 (fun x H3=>x=.int 2/\H3=H2) I2 ⟨rfl,rfl⟩) fun u s3 ⟨y,H3,I3,r3,e1,e2⟩=>?_
 subst e1 e2
 obtain⟨t1,rfl⟩:=(show ∃t,u=Value.int 2 t from r3)
 have I4:Inv X pins σ H3 { s3 with heap:=s3.heap.push { cls:=.type "slice",data:=.fields #[.int 1 t0,.none,.int 2 t1] } }:=I3.kept (t':=s3.toks) fun b ob q=>Heap.get?_push_of_some _ q
 obtain⟨its,rv,ht,hz⟩:=I4.list ha
 have hlen:=rv.length
 show wpAny (model X.prog X.w) X.A (subscriptTail e (.Slice (some (.Constant (.int 1) i p1)) none (some (.Constant (.int 2) j p0)) p2) (.ref a) (.ref s3.heap.objs.size)) (EP X pins σ Q) X.xe { s3 with heap:=s3.heap.push { cls:=.type "slice",data:=.fields #[.int 1 t0,.none,.int 2 t1] } }
 refine tail_any (ops:=[.ref a,.ref s3.heap.objs.size]) ht.isList.typeIs slot_list_getitem.lookup ?_ (by with_unfolding_all rfl)
 refine wpAny_getItem_list_slice ht.isList (Heap.IsSliceOf.new ..) (.int 1 t0) .none (.int 2 t1) (by simp) ?_ (by rw[List.size_toArray,←hlen];exact hz)
 rw[HT.Vf]
 refine⟨.ref _,_,I4.laid (t':=s3.toks) (o:=.lst (HT.half 1 xs)) (fun b ob q=>Heap.get?_push_of_some _ q) (Nat.le_refl _) ?_,rfl,q _ (I4.hok.fresh (Nat.le_refl _))⟩
 exact⟨Nat.le_trans (HT.Yo 1 xs) hz,HT.half 1 its,0,rv.half 1,Heap.get?_push_size _ rfl⟩
def Itw(lo:Int)(n:Nat):It:=⟨fun i _=>i<n,fun i H x H'=>H'=H/\x=.int (lo+i*2),fun i _=>n<=i⟩
theorem jN{P:Program}{w:World}{K:PySem.W.Frag}{tg:Expr}(it:Addr)(lo:Int)(n:Nat):Turn P w K tg (Itw lo n) [it] it (fun i h=>IsRangeIter h it (lo+(i:Nat)*2) ((n:Int)-(i:Nat)) 2) where
 mem:=by simp
 obj:=fun i h st b hb=>by
  obtain rfl:b=it:=by simpa using hb
  exact⟨_,st,fun v z=>by
   have z':Data.fields _=Data.cell v:=z
   cases z'⟩
 keep:=fun i h h' st k=>k it (by simp) _ st
 item:=by
  intro X hP hw hK hc i pins s σ H E I hf st hg
  subst hP hw hK
  obtain⟨f0,f1,f2,f3,f4,f5⟩:=hf it (by simp)
  refine(Walks.range (prog:=X.prog) (w:=X.w) (I.ok.hd hc) it lo 2 n).item i s _ _ hg st fun v h' tk hv st' kk=>?_
  obtain⟨t,rfl⟩:=hv
  have I1:Inv X pins σ H { s with heap:=h',toks:=tk }:=I.turned (fun b o hb e=>kk b o (by simpa using hb) e) f0 f1 f3 f4 f5
  exact⟨_,rfl,Xi (s:={ s with heap:=h',toks:=tk }) (n:="range_iterator") st' rfl rfl (by decide) ⟨.int (lo+i*2),H,I1,⟨t,rfl⟩,⟨rfl,rfl⟩,st',fun b hb=>(hf b hb).1⟩⟩
 done:=by
  intro X hP hw hK hc i pins s σ H E I hf st hg
  subst hP hw hK
  obtain⟨f0,f1,f2,f3,f4,f5⟩:=hf it (by simp)
  exact wpAny_pyNext_range_end (I.ok.hd hc) st (by have:n<=i:=hg;omega) fun h' eb=>⟨rfl,I.turned (t':=s.toks) (fun b o hb e=>eb b o hb e) f0 f1 f3 f4 f5⟩
 self:=fun _ _ _ _ _ st h=>wpAny_pyIter_rangeiter st h
theorem fX{a b:Int}(h1:-1000000<=a)(h2:a<=1000000)(h3:-1000000<=b)(h4:b<=1000000):Builtin.Range.small a b 2=true:=by
 unfold Builtin.Range.small
 unfold Builtin.Range.rangeSize
 simp only[Builtin.Range.rangeFitsLong,Bool.and_eq_true,Bool.or_eq_true,decide_eq_true_eq,beq_iff_eq,show(2:Int)>0 by decide,if_true]
 split<;>omega
def Lq(lo hi:Int):Nat:=((hi-lo+1)/2).toNat
def xW(ta:TA):TI:=fun σ H R=>ta σ H fun vs H1=>∃i j:Int,vs=[.int i,.int j,.int 2]/\(-1000000<=i/\i<=1000000/\-1000000<=j/\j<=1000000)/\R (Itw i (Lq i j)) H1
theorem gQ{X:Cx}{tg:Expr}{a b c:Expr}{ta:TA}{p pos:Pos}(hg:Gl X "range")(hm:X.mg "range"=none)(ha:PA X [a,b,c] ta)(hs:starEach [a,b,c] X.env=[(false,eval a X.env),(false,eval b X.env),(false,eval c X.env)]:=by rfl)(hs2:starEach [b,c] X.env=[(false,eval b X.env),(false,eval c X.env)]:=by rfl) :
  PI X tg (.Call (.Name "range" p) [a,b,c] [] pos) (xW ta):=by
 intro pins s σ H R I h
 refine Call_ (Jz I hg hm boot_range (PyProof.Rows.callWith_type1 (thn (ha pos pins s σ H _ I h) fun us s1 ⟨vs,H1,I1,r1,q1⟩=>?_) (by rw[hs,hs2]) (by rw[hs2];rfl)))
 obtain⟨i,j,e,⟨q1,q2,q3,q4⟩,q⟩:=q1
 subst e
 cases r1 with
 |cons r rr =>
  cases rr with
  |cons r' rr =>
   cases rr with
   |cons r'' rr =>
    cases rr
    obtain⟨t,rfl⟩:=r
    obtain⟨t',rfl⟩:=r'
    obtain⟨t'',rfl⟩:=r''
    refine PySem.call_range_3 (by decide) ?_ (.inl (PyProof.noPylong_small (by decide)))
    refine wpAny_pyIter_range (IsRange.new ..) (fX q1 q2 q3 q4) ?_
    have I2:Inv X pins σ H1 { s1 with heap:=s1.heap.push { cls:=.type "range",data:=.fields #[.int i t,.int j t',.int 2 t''] } }:=I1.kept (t':=s1.toks) fun b o e=>Heap.get?_push_of_some _ e
    refine⟨_,[_],_,_,H1,rfl,I2.kept (t':=s1.toks) fun b o e=>Heap.get?_push_of_some _ e,jN _ i (Lq i j),?_,fun b hb=>?_,q⟩
    .have e1:i+((0:Nat):Int)*2=i:=by simp
     have e2:((Lq i j:Nat):Int)-((0:Nat):Int)=Builtin.Range.rangeSize i j 2:=by
      unfold Lq Builtin.Range.rangeSize
      simp only[show(2:Int)>0 by decide,if_true]
      split<;>omega
     show IsRangeIter _ _ (i+((0:Nat):Int)*2) (((Lq i j:Nat):Int)-((0:Nat):Int)) 2
     rw[e1,e2]
     exact Heap.get?_push_size _ rfl
    .obtain rfl:=List.mem_singleton.mp hb
     exact I2.Vp (Nat.le_refl _) (I2.hok.fresh (Nat.le_refl _))
end L2
end
section
namespace VS
open PySem PySem.Spec L2
theorem VRs.pick{Γ:Fr}{μ:Mu}{H:Hp}{xs:List V}{ds:List D}(r:VRs Γ μ H xs ds):∀ks:List Nat,VRs Γ μ H (ks.filterMap (xs[·]?)) (ks.filterMap (ds[·]?))
 |[]=>.nil
 |k::ks=>by
  have hl:=r.length
  cases h:ds[k]? with
  |none =>
   have h':xs[k]?=none:=by rw[List.getElem?_eq_none_iff] at h ⊢;omega
   rw[List.filterMap_cons_none h,List.filterMap_cons_none h']
   exact r.pick ks
  |some d =>
   obtain⟨u,hu,ru⟩:=r.get h
   rw[List.filterMap_cons_some h,List.filterMap_cons_some hu]
   exact .cons ru (r.pick ks)
theorem VRs.half{Γ:Fr}{μ:Mu}{H:Hp}{xs:List V}{ds:List D}(r:VRs Γ μ H xs ds)(a:Nat):VRs Γ μ H (HT.half a xs) (HT.half a ds):=by
 rw[Oq,Oq,r.length]
 exact r.pick _
def Og(k:Nat)(S:Store)(x:D):Option D:=(listOf S x).map fun ds=>.lst true (HT.half k ds)
theorem aL{K:PySem.W.Frag}{k:Nat}{f:Az}{σ:St}{H:Hp}{Q:VK}(h:wpE K (eUn (Og k) f) σ H Q):cH K k (wpE K f) σ H Q:=by
 obtain⟨Γ,μ,env,S,d,S',hK,R,e,q⟩:=h
 obtain⟨⟨x,S1⟩,e1,e⟩:=bind_some e
 obtain⟨z,e3,e⟩:=map_some e
 cases e
 refine⟨Γ,μ,env,S,x,S1,hK,R,e1,fun v1 μ1 H1 x1 R1 r1=>?_⟩
 obtain⟨ds,e4,e5⟩:=map_some e3
 subst e5
 obtain⟨a,xs,rfl,ha,rs⟩:=VR.list R1 r1 e4
 refine⟨a,xs,rfl,SqL.of ha,fun t ht=>?_⟩
 obtain⟨R2,x2⟩:=R1.grow (Cw ht (.lst (HT.half k xs)))
 exact q _ μ1 _ (x1.trans x2) R2 (.lst (R1.ok ht true) (R1.dead ht) CQ ((rs.half k).ext x2))
theorem lg{X:Cx}{e:Expr}{f:Az}{j:Nat}{p0 p2 pos:Pos}(he:JE X e f):JE X (.Subscript e (.Slice none none (some (.Constant (.int 2) j p0)) p2) pos) (eUn (Og 0) f):=⟨PE.imp (kZ he.pe) fun σ H Q h=>aL h⟩
theorem lZ{X:Cx}{e:Expr}{f:Az}{i j:Nat}{p0 p1 p2 pos:Pos}(he:JE X e f):JE X (.Subscript e (.Slice (some (.Constant (.int 1) i p1)) none (some (.Constant (.int 2) j p0)) p2) pos) (eUn (Og 1) f):=⟨PE.imp (kY he.pe) fun σ H Q h=>aL h⟩
def upW(lo:Int)(n:Nat):List D:=(List.range n).map fun i=>D.int (lo+(i:Nat)*2)
theorem vN{Γ:Fr}{μ:Mu}{H:Hp}(lo:Int)(n:Nat):Vq Γ μ H (Itw lo n) (upW lo n) []:=by
 have len:(upW lo n).length=n:=by unfold upW;rw[List.length_map,List.length_range]
 refine⟨fun i d μ' H' σ' env' S' hi x R c=>?_,fun μ' H' σ' env' S' x R c=>?_⟩
 .have hi':i<n:=by rw[←len];exact(List.getElem?_eq_some_iff.mp hi).1
  refine⟨hi',fun y H'' yl=>?_⟩
  obtain⟨e1,e2⟩:=yl
  subst e1 e2
  unfold upW at hi
  rw[List.getElem?_map,List.getElem?_range hi'] at hi
  cases hi
  exact⟨Same.refl _,.int _⟩
 .show n<=(upW lo n).length
  rw[len];exact Nat.le_refl _
def Sd(a:Bb):KZ:=fun env S=>(a env S).bind fun p=>match p.1 with|[.int i,.int j,.int 2]=>if (-1000000<=i/\i<=1000000)/\-1000000<=j/\j<=1000000 then some ((upW i (Lq i j),[]),p.2) else none|_=>none
theorem dO(a:Bb)(env:VS.Env)(S:Store):Sd a env S=(a env S).bind fun p=>match p.1 with|[.int i,.int j,.int 2]=>if (-1000000<=i/\i<=1000000)/\-1000000<=j/\j<=1000000 then some ((upW i (Lq i j),[]),p.2) else none|_=>none:=rfl
theorem VRs.three{Γ:Fr}{μ:Mu}{H:Hp}{vs:List V}{d e f:D}(h:VRs Γ μ H vs [d,e,f]):∃v u t,vs=[v,u,t]/\VR Γ μ H v d/\VR Γ μ H u e/\VR Γ μ H t f:=by
 cases h with|cons r t=>cases t with|cons r' t=>cases t with|cons r'' t=>cases t;exact⟨_,_,_,rfl,r,r',r''⟩
theorem iC{X:Cx}{tg:Expr}{a b c:Expr}{f:Bb}{p pos:Pos}(hg:Gl X "range")(hm:X.mg "range"=none)(ha:JA X [a,b,c] f)(hs:starEach [a,b,c] X.env=[(false,eval a X.env),(false,eval b X.env),(false,eval c X.env)]:=by rfl)(hs2:starEach [b,c] X.env=[(false,eval b X.env),(false,eval c X.env)]:=by rfl) :
  JI X tg (.Call (.Name "range" p) [a,b,c] [] pos) (Sd f) :=
 ⟨PI.imp (gQ hg hm ha.pa hs hs2) fun σ H Q h=>by
  obtain⟨Γ,μ,env,S,ds,w,S',hK,R,e,q⟩:=h
  obtain⟨⟨d,S1⟩,e1,e⟩:=bind_some e
  refine⟨Γ,μ,env,S,d,S1,hK,R,e1,fun v μ1 H1 x1 R1 r1=>?_⟩
  dsimp only at e
  split at e
  .rename_i i j
   by_cases hj:(-1000000<=i/\i<=1000000)/\-1000000<=j/\j<=1000000
   .rw[if_pos hj] at e
    cases e
    obtain⟨v,u,t,rfl,r,r',r''⟩:=r1.three
    cases r
    cases r'
    cases r''
    exact⟨i,j,rfl,⟨hj.1.1,hj.1.2,hj.2.1,hj.2.2⟩,q _ μ1 H1 x1 R1 (vN i _)⟩
   .rw[if_neg hj] at e;cases e
  .cases e⟩
def cF(i j:Int):Prop:=i.natAbs<2^1024/\j.natAbs<2^1024
theorem cF.ok{i j:Int}(h:cF i j):IntMulOk i j:=by
 have h1:=PyProof.Rows.intBits_le h.1
 have h2:=PyProof.Rows.intBits_le h.2
 have h3:Builtin.Int.intTooBig (Builtin.Int.intBits i+Builtin.Int.intBits j)=false:=by
  unfold Builtin.Int.intTooBig
  refine decide_eq_false ?_
  have:(4096:Int)<=bitsLine:=by decide
  omega
 unfold IntMulOk
 rw[h3]
 simp
theorem S9{X:Cx}:OpR X (binaryOp .Mult) (rI cF fun i j=>.int (i*j)):=opI fun _ _ _ _ _ _ _ hc q=>PyProof.Rows.mul_int q hc.ok
def Xq(i j:Int):Bool:=decide (i.natAbs<2^1024)&&decide (j.natAbs<2^1024)
def Mz:=oI Xq fun i j=>.int (i*j)
theorem QX{K:PySem.W.Frag}:GD K (rI cF fun i j=>.int (i*j)) Mz:=Xf _ fun i j h=>by
 unfold Xq at h
 rw[Bool.and_eq_true,decide_eq_true_eq,decide_eq_true_eq] at h
 exact h
end VS
end
section
namespace L2
open PySem PySem.Spec PyProof PyProof.Rows
section
variable{X:Cx}
def sV(K:PySem.W.Frag):List V->Hp->VK->Prop:=fun xs H Q=>∃(p:Addr)(ns:List Int),xs=[.ref p]/\SqL K H p (ns.map V.int)/\Q (.int ns.sum) H
theorem Wy(hc:X.calm=true):Dl X (.builtin "sum") (sV X.K):=by
 intro pins s σ H xs us Q I r h
 obtain⟨p,ns,rfl,hq,q⟩:=h
 obtain⟨u,rfl,rx⟩:=vals1 r
 cases rx
 obtain⟨its,rv,pl,hz⟩:=I.list hq
 have hi:IntsAre its ns:=intsAre_of rv
 obtain⟨ys,hy⟩:=hi.allInts.items
 have hn:=hi.numsOf
 have hl:=pl.isList
 rw[hy] at hl
 refine sum_intListG (I.ok.hd hc) hl fun h' tk t' hk=>⟨.int ns.sum,H,I.kept (h':=h') (t':=tk) hk,⟨t',?_⟩,q⟩
 have e:its=(intItems ys).toList:=by rw[←hy]
 rw[e,nums_intItems] at hn
 rw[preSum_eq,List.take_of_length_le (by simp),hn]
end
end L2
end
section
namespace HT
open PySem PySem.Spec PyProof PyProof.Rows
section
variable{P0:Program}{wd:World}{Ar:Around}{Er:Value->Shared->Prop}{sh:Shared}
theorem ig{nm:String}{bi:Builtin}{xs:List Value}{kv:List (Str×Value)}{Qv:Value->Shared->Prop}(k1:builtinKind nm=none)(k2:plainId nm=true)(k3:entryFor table nm=some bi)(k4:argsOk nm ⟨xs,kv⟩)
  (k5:wpAny (model P0 wd) Ar.in1 (bi ⟨xs,kv⟩) (fun fin t=>match fin with
   |.done f=>(match (Except.ok f:Result) with|.ok (.ret v)=>Qv v t|.ok _=>False|.error e=>Er e t)
   |.again c=>c.quiet=true/\codeAny (model P0 wd) Ar c (fun r t'=>match r with|.ok (.ret v)=>Qv v t'|.ok _=>False|.error e=>Er e t') t) Er sh):wpAny (model P0 wd) Ar (call (.builtin nm) xs kv) Qv Er sh:=by
 apply wpAny_call;apply codeAny_call_builtin k2 k3
 simp only[checkBuiltinCall,k1]
 cases g:Manifest.signature? nm with
 |none=>exact wpAny_pure k5
 |some sg =>
  have e:Bind.checkArgs nm sg ⟨xs,kv⟩=pure ():=by simpa only[argsOk,g] using k4
  simp only[e];exact wpAny_pure k5
theorem SN:(toString "max"++toString ".loop":String)="max.loop":=by decide
variable{J:Addr}{fp wr:List Addr}{n:Nat}{P:Nat->Value->Prop}{St:Nat->Heap->Prop}{Rr:Result->Shared->Prop}{dv:Value}
theorem gj(W:Walks P0 wd Ar.in1 J fp wr n P St)(bt:Nat->Nat->Bool)(hG:CmpOf P0 wd Ar.in1 .Gt P bt)(B:Addr)(nB:B ∉ fp) :
  ∀(k j:Nat)(t:Shared)(vb:Value)(c:Nat),n-(j+1)=k->j+1<=n->St (j+1) t.heap->P (argBest bt j) vb->t.heap.get? B=some { cls:=.type "list",dict:=none,data:=.seq #[vb,vb] c,slots:=#[] } ->
  (∀v h' tk,P (argBest bt (n-1)) v->(∀b o,b ∉ wr->b≠B->t.heap.get? b=some o->h'.get? b=some o)->Rr (.ok (.ret v)) { t with heap:=h',toks:=tk }) ->
  codeAny (model P0 wd) Ar (.builtin "max.loop" ⟨[.ref J,.none,.ref B],[("default",dv)]⟩) Rr t:=by
 have wB:B ∉ wr:=fun h=>nB (W.sub _ h)
 intro k
 induction k with
 |zero =>
  intro j t vb c q1 q2 q3 q4 q5 q6
  have jn:j+1=n:=by omega
  apply codeAny_builtin F.entry_max_loop;rw[Around.under_plainId F.plain_max_loop _]
  show wpAny _ Ar.in1 (seqItems? (.ref B) >>= _) _ _ t
  apply wpAny_bind;apply wpAny_seqItems q5 rfl
  show wpAny _ Ar.in1 (tryCatch (pyNext (.ref J)) _ >>= _) _ _ t
  refine wpAny_bind (wpAny_tryCatch (W.done t _ _ (jn ▸ q3) fun h1 tk1 kp=>?_))
  have q5':=kp B _ wB q5
  show wpAny _ Ar.in1 (updateSeq B (fun _=>#[]) >>= _) _ _ _
  apply wpAny_bind;apply wpAny_updateSeq q5' rfl
  refine wpAny_bind (wpAny_letGo (wpAny_pure (q6 vb _ tk1 (by rw[←jn];exact q4) fun b o n1 n2 e=>(Heap.get?_update_other _ _ (Ne.symm n2)).trans (kp b o n1 e))))
 |succ k ih =>
  intro j t vb c q1 q2 q3 q4 q5 q6
  have jn:j+1<n:=by omega
  apply codeAny_builtin F.entry_max_loop;rw[Around.under_plainId F.plain_max_loop _]
  show wpAny _ Ar.in1 (seqItems? (.ref B) >>= _) _ _ t
  apply wpAny_bind;apply wpAny_seqItems q5 rfl
  show wpAny _ Ar.in1 (tryCatch (pyNext (.ref J)) _ >>= _) _ _ t
  refine wpAny_bind (wpAny_tryCatch (W.item (j+1) t _ _ jn q3 fun v h1 tk1 pv st1 kp=>?_))
  have q5':=kp B _ wB q5
  show wpAny _ Ar.in1 (tryCatch (holding [v,v] (richCompare .Gt v vb >>= _)) _ >>= _) _ _ _
  refine wpAny_bind (wpAny_tryCatch (wpAny_holding (wpAny_bind (hG (j+1) (argBest bt j) v vb _ _ _ pv q4 (wpAny_bind (wpAny_holding (wpAny_truthy_bool (wpAny_bind (wpAny_letGo (wpAny_pure ?_))))))))))
  cases hb:bt (j+1) (argBest bt j) with
  |true =>
   simp only[if_true]
   apply wpAny_bind;apply wpAny_updateSeq q5' rfl
   refine wpAny_bind (wpAny_letGo ?_)
   rw[SN]
   refine wpAny_pure ⟨plainId_quiet F.plain_max_loop _,ih (j+1) _ v _ (by omega) jn (W.frame _ _ _ st1 fun b hbf o e=>(Heap.get?_update_other _ _ (fun h:B=b=>nB (by rw[h];exact hbf))).trans e) (by simp only[argBest,hb,if_true];exact pv) (Heap.get?_update_self _ q5' rfl) fun v' h2 tk2 pv' kp2=>?_⟩
   exact q6 v' h2 tk2 pv' fun b o n1 n2 e=>kp2 b o n1 n2 ((Heap.get?_update_other _ _ (Ne.symm n2)).trans (kp b o n1 e))
  |false =>
   simp only[Bool.false_eq_true,if_false]
   refine wpAny_bind (wpAny_letGo ?_)
   rw[SN]
   exact wpAny_pure ⟨plainId_quiet F.plain_max_loop _,ih (j+1) _ vb c (by omega) jn st1 (by simp only[argBest,hb,Bool.false_eq_true,if_false];exact q4) q5' fun v' h2 tk2 pv' kp2=>q6 v' h2 tk2 pv' fun b o n1 n2 e=>kp2 b o n1 n2 (kp b o n1 e)⟩
theorem pR(W:Walks P0 wd Ar.in1 J fp wr n P St)(bt:Nat->Nat->Bool)(hG:CmpOf P0 wd Ar.in1 .Gt P bt)(B:Addr)(nB:B ∉ fp){t:Shared}{c:Nat}(st:St 0 t.heap)(q5:t.heap.get? B=some { cls:=.type "list",dict:=none,data:=.seq #[] c,slots:=#[] })
  (q6:∀v h' tk,(n=0/\v=dv∨0<n/\P (argBest bt (n-1)) v)->(∀b o,b ∉ wr->b≠B->t.heap.get? b=some o->h'.get? b=some o)->Rr (.ok (.ret v)) { t with heap:=h',toks:=tk }) :
  codeAny (model P0 wd) Ar (.builtin "max.loop" ⟨[.ref J,.none,.ref B],[("default",dv)]⟩) Rr t:=by
 have wB:B ∉ wr:=fun h=>nB (W.sub _ h)
 apply codeAny_builtin F.entry_max_loop;rw[Around.under_plainId F.plain_max_loop _]
 show wpAny _ Ar.in1 (seqItems? (.ref B) >>= _) _ _ t
 apply wpAny_bind;apply wpAny_seqItems q5 rfl
 show wpAny _ Ar.in1 (tryCatch (pyNext (.ref J)) _ >>= _) _ _ t
 by_cases h0:n=0
 .refine wpAny_bind (wpAny_tryCatch (W.done t _ _ (h0 ▸ st) fun h1 tk1 kp=>?_))
  show wpAny _ Ar.in1 (rule _ >>= _) _ _ _
  exact wpAny_bind (wpAny_rule (wpAny_pure (q6 dv _ tk1 (.inl ⟨h0,rfl⟩) fun b o n1 n2 e=>kp b o n1 e)))
 .have hn:0<n:=by omega
  refine wpAny_bind (wpAny_tryCatch (W.item 0 t _ _ hn st fun v h1 tk1 pv st1 kp=>?_))
  have q5':=kp B _ wB q5
  show wpAny _ Ar.in1 (updateSeq B (fun _=>#[v,v]) >>= _) _ _ _
  apply wpAny_bind;apply wpAny_updateSeq q5' rfl
  rw[SN]
  refine wpAny_pure ⟨plainId_quiet F.plain_max_loop _,gj W bt hG B nB _ 0 _ v _ rfl hn (W.frame _ _ _ st1 fun b hbf o e=>(Heap.get?_update_other _ _ (fun h:B=b=>nB (by rw[h];exact hbf))).trans e) pv (Heap.get?_update_self _ q5' rfl) fun v' h2 tk2 pv' kp2=>?_⟩
  exact q6 v' h2 tk2 (.inr ⟨hn,pv'⟩) fun b o n1 n2 e=>kp2 b o n1 n2 ((Heap.get?_update_other _ _ (Ne.symm n2)).trans (kp b o n1 e))
theorem iy(a d:Value):argsOk "max" ⟨[a],[("default",d)]⟩:=by unfold argsOk;kernel_rfl
end
end HT
namespace L2
open PySem PySem.Spec PyProof PyProof.Rows
section
variable{X:Cx}
theorem iY(hc:X.calm=true){pins:List (Addr×Obj)}{σ:St}{H:Hp}{s:Shared}(I:Inv X pins σ H s){p:Addr}{ns:List Int}{d:Int}{t:Tok}(hq:SqL X.K H p (ns.map V.int)){Q:VK}(q0:ns=[]->Q (.int d) H)(q1:ns≠[]->∀m∈ns,(∀n∈ns,n<=m)->Q (.int m) H) :
  wpAny (model X.prog X.w) X.A (call (.builtin "max") [.ref p] [("default",.int d t)]) (EP X pins σ Q) X.xe s:=by
 obtain⟨its,rv,pl,hz⟩:=I.list hq
 have hlen:=rv.length
 rw[List.length_map] at hlen
 have hl:=pl.isList
 have hlt:p<s.heap.objs.size:=by obtain⟨o,ho,_⟩:=hl;exact Heap.lt_size ho
 have hval:∀i v,its.toArray[i]?=some v->∃t,v=Value.int (ns.getD i 0) t:=fun i v e=>by
  rw[List.getElem?_toArray] at e
  have hi:i<ns.length:=by rw[hlen];exact(List.getElem?_eq_some_iff.mp e).1
  obtain⟨u,e1,ru⟩:=rv.get (i:=i) (x:=.int ns[i]) (by rw[List.getElem?_map,List.getElem?_eq_getElem hi];rfl)
  rw[e] at e1;cases e1
  rw[show ns.getD i 0=ns[i] by rw[List.getD_eq_getElem?_getD,List.getElem?_eq_getElem hi];rfl]
  exact ru
 refine HT.ig F.kind_max F.plain_max F.entry_max (HT.iy _ _) ?_
 show wpAny _ X.A.in1 (Builtin.Builtins.bindParams "max" ["key","default"] 0 ⟨[],[("default",.int d t)]⟩ >>= _) _ _ s
 refine wpAny_bind (wpAny_of_eq (show Builtin.Builtins.bindParams "max" ["key","default"] 0 ⟨[],[("default",.int d t)]⟩=pure [none,some (.int d t)] by kernel_rfl) ?_)
 refine wpAny_bind (wpAny_pure (wpAny_bind (wpAny_pyIter_list hl (wpAny_bind (wpAny_newObj_type ?_)))))
 rw[HT.SN]
 have W:=Walks.list (prog:=X.prog) (w:=X.w) (A:=X.A.in1) (by simpa using I.ok.hd hc) s.heap.objs.size p (Nat.ne_of_lt hlt) its.toArray
 refine wpAny_pure ⟨plainId_quiet F.plain_max_loop _,HT.pR W _ (CmpOf.ints_gt (fun i=>ns.getD i 0) hval) _ ?_ ⟨⟨_,Heap.get?_push_of_some _ (Heap.get?_push_size _ rfl),rfl,rfl⟩,(hl.push _).push _⟩ (Heap.get?_push_size _ rfl) fun v h' tk hv hk=>?_⟩
 .intro hm
  rw[Heap.size_push] at hm
  rcases List.mem_cons.mp hm with z|z
  .exact absurd z (Nat.ne_of_gt (Nat.lt_succ_self _))
  .exact absurd (List.mem_singleton.mp z) (Nat.ne_of_gt (Nat.lt_succ_of_lt hlt))
 .have J:Inv X pins σ H { s with heap:=h',toks:=tk }:=I.kept (h':=h') (t':=tk) fun b o e=>hk b o (fun z=>absurd (List.mem_singleton.mp z) (Nat.ne_of_lt (Heap.lt_size e))) (fun z=>absurd (Heap.lt_size e) (by rw[z,Heap.size_push];exact Nat.not_lt.mpr (Nat.le_succ _))) (Heap.get?_push_of_some _ (Heap.get?_push_of_some _ e))
  rcases hv with ⟨h0,rfl⟩|⟨h0,hP⟩
  .exact⟨.int d,H,J,⟨t,rfl⟩,q0 (List.length_eq_zero_iff.mp (by rw[hlen];simpa using h0))⟩
  .obtain⟨g1,g2⟩:=argBest_gt (fun i=>ns.getD i 0) (its.toArray.size-1)
   obtain⟨t',rfl⟩:=hval _ _ hP
   rw[List.size_toArray,←hlen] at g1 g2 h0
   have hb:argBest (fun i j=>decide (ns.getD i 0>ns.getD j 0)) (ns.length-1)<ns.length:=by omega
   rw[List.size_toArray,←hlen]
   refine⟨.int _,H,J,⟨t',rfl⟩,q1 (fun z=>by rw[z] at h0;simp at h0) _ ?_ fun n hn=>?_⟩
   .rw[List.getD_eq_getElem?_getD,List.getElem?_eq_getElem hb]
    exact List.getElem_mem hb
   .obtain⟨j,hj,rfl⟩:=List.getElem_of_mem hn
    have:=g2 j (by omega)
    rw[List.getD_eq_getElem?_getD,List.getElem?_eq_getElem hj] at this
    exact this
def wN(K:PySem.W.Frag)(d:Int)(te:TE):TE:=fun σ H Q=>te σ H fun x H1=>∃(p:Addr)(ns:List Int),x=.ref p/\SqL K H1 p (ns.map V.int)/\(ns=[]->Q (.int d) H1)/\(ns≠[]->∀m∈ns,(∀n∈ns,n<=m)->Q (.int m) H1)
theorem pG{e:Expr}{te:TE}{d:Int}{j:Nat}{p pos kp kp0:Pos}(hc:X.calm=true)(hg:Gl X "max")(hm:X.mg "max"=none)(he:PE X e te)(hs:starEach [e] X.env=[(false,eval e X.env)]:=by rfl) :
  PE X (.Call (.Name "max" p) [e] [⟨some "default",.Constant (.int d) j kp0,kp⟩] pos) (wN X.K d te):=by
 intro pins s σ H Q I h
 refine wpAny_Call_Name_kw (Jz I hg hm (by decide +kernel:bootBuiltins "max"=some (.builtin "max")) ?_)
 refine PyProof.Rows.callWith_kw ?_ (by rw[hs];rfl) (by rw[hs];rfl) rfl rfl
 refine thn (Q8 he R7 hs pos pins s σ H (fun vs H1=>match vs with
  |[x]=>∃(p:Addr)(ns:List Int),x=.ref p/\SqL X.K H1 p (ns.map V.int)/\(ns=[]->Q (.int d) H1)/\(ns≠[]->∀m∈ns,(∀n∈ns,n<=m)->Q (.int m) H1)
  |_=>False) I h) fun us s1 ⟨vs,H1,I1,r1,q1⟩=>?_
 cases r1 with
 |nil=>exact q1.elim
 |cons rx rr =>
  cases rr with
  |cons _ _=>exact q1.elim
  |nil =>
   obtain⟨a,ns,rfl,hq,q0,q2⟩:=q1
   cases rx
   refine PyProof.Rows.kws_cons (thn (R6 pins s1 σ H1 (fun y H2=>y=.int d/\H2=H1) I1 ⟨rfl,rfl⟩) fun u s2 ⟨y,H2,I2,r2,e1,e2⟩=>PyProof.Rows.kws_nil ?_)
   subst e1 e2
   obtain⟨t0,rfl⟩:=(show ∃t,u=Value.int d t from r2)
   exact iY hc I2 hq q0 q2
end
end L2
end
section
namespace VS
open PySem PySem.Spec L2
theorem eZ:bootBuiltins "sum"=some (.builtin "sum"):=by decide +kernel
def Qx(S:Store):List D->Option D
 |[x]=>(listOf S x).bind fun ds=>(intsOf ds).map fun ns=>.int ns.sum
 |_=>none
theorem aV{K:PySem.W.Frag}:Nt K (sV K) Qx:=by
 intro Γ μ σ H env S xs ds d hK R rs e Q q
 unfold Qx at e
 split at e
 .obtain⟨es,e1,e⟩:=bind_some e
  obtain⟨ns,e2,e4⟩:=map_some e
  subst e4
  obtain⟨v,rfl,r⟩:=rs.one
  obtain⟨a,ys,rfl,ha,rx⟩:=VR.list R r e1
  have:=Hs e2
  subst this
  have:=rx.QM
  subst this
  exact⟨a,ns,rfl,SqL.of ha,q _ H (Same.refl H) (.int _)⟩
 .cases e
def Uj(d:Int)(a:Az):Az:=fun env S=>(a env S).bind fun p=>(listOf p.2 p.1).bind fun ds=>(intsOf ds).map fun ns=>(.int ((MN ns).getD d),p.2)
theorem mJ(d:Int)(a:Az)(env:VS.Env)(S:Store):Uj d a env S=(a env S).bind fun p=>(listOf p.2 p.1).bind fun ds=>(intsOf ds).map fun ns=>(.int ((MN ns).getD d),p.2):=rfl
theorem qM{X:Cx}{e:Expr}{f:Az}{d:Int}{j:Nat}{p pos kp kp0:Pos}(hc:X.calm=true)(hg:Gl X "max")(hm:X.mg "max"=none)(he:JE X e f)(hs:starEach [e] X.env=[(false,eval e X.env)]:=by rfl) :
  JE X (.Call (.Name "max" p) [e] [⟨some "default",.Constant (.int d) j kp0,kp⟩] pos) (Uj d f) :=
 ⟨PE.imp (pG hc hg hm he.pe hs) fun σ H Q h=>by
  obtain⟨Γ,μ,env,S,y,S',hK,R,e,q⟩:=h
  obtain⟨⟨x,S1⟩,e1,e⟩:=bind_some e
  obtain⟨ds,e2,e⟩:=bind_some e
  obtain⟨ns,e3,e⟩:=map_some e
  cases e
  refine⟨Γ,μ,env,S,x,S1,hK,R,e1,fun v1 μ1 H1 x1 R1 r1=>?_⟩
  obtain⟨a,xs,rfl,ha,rs⟩:=VR.list R1 r1 e2
  have:=Hs e3
  subst this
  have:=rs.QM
  subst this
  refine⟨a,ns,rfl,SqL.of ha,fun z=>?_,fun z m h1 h2=>?_⟩
  .have:=q (.int ((MN ns).getD d)) μ1 H1 x1 R1 (.int _)
   rw[z] at this
   exact this
  .cases hm:MN ns with
   |none =>
    cases ns with
    |nil=>exact absurd rfl z
    |cons a r=>simp[MN] at hm
   |some m' =>
    obtain⟨g1,g2⟩:=bA hm
    have e:m=m':=Int.le_antisymm (g2 _ h1) (h2 _ g1)
    have:=q (.int ((MN ns).getD d)) μ1 H1 x1 R1 (.int _)
    rw[hm] at this
    rw[e]
    exact this⟩
end VS
end
section
namespace VS
def at1(bs:List (List St2))(i w:Nat):St2:=(bs.getD i []).getD w (0,0)
def inS(p:St2)(x:Int):Bool:=decide (p.1<=x)&&decide (x<p.2)
def Gf(bs:List (List St2))(w:Nat)(x:Int)(ns:List Nat):List Nat:=ns.filter fun i=>inS (at1 bs i w) x
def steps(E:List Int):List St2:=E.zip E.tail
def Dv(bs:List (List St2))(w:Nat)(ns:List Nat):List Int:=GX (ns.map (fun i=>(at1 bs i w).1)++ns.map (fun i=>(at1 bs i w).2))
def Bk(bs:List (List St2)):Nat->Nat->List Nat->List (List St2×List Nat)
 |0,_,ns=>if ns=[] then [] else [([],ns)]
 |k+1,w,ns=>if ns=[] then [] else (steps (Dv bs w ns)).flatMap fun p=>(Bk bs k (w+1) (Gf bs w p.1 ns)).map fun c=>(p::c.1,c.2)
def JK(g:Int->Int)(a:Int):Nat->Int
 |0=>0
 |n+1=>JK g a n+g (a+n)
def canon(bs:List (List St2))(F:List Nat->Int)(A:Int)(N:Nat):Nat->Nat->List Nat->Int
 |0,_,ns=>F ns
 |k+1,w,ns=>JK (fun x=>canon bs F A N k (w+1) (Gf bs w x ns)) A N
def Cv:List St2->Int
 |[]=>1
 |p::r=>(p.2-p.1)*Cv r
def csum(F:List Nat->Int)(cs:List (List St2×List Nat)):Int:=(cs.map fun c=>Cv c.1*F c.2).sum
theorem U4(g:Int->Int)(a:Int)(m:Nat):∀n:Nat,JK g a (m+n)=JK g a m+JK g (a+m) n
 |0=>by simp[JK]
 |n+1=>by
  rw[show m+(n+1)=m+n+1 by omega,JK,U4 g a m n,JK,show a+((m+n:Nat):Int)=a+m+n by omega]
  omega
theorem Js(g:Int->Int)(a v:Int):∀n:Nat,(∀x,a<=x->x<a+n->g x=v)->JK g a n=n*v
 |0,_=>by simp[JK]
 |n+1,h=>by
  rw[JK,Js g a v n (fun x h1 h2=>h x h1 (by omega)),h (a+n) (by omega) (by omega)]
  rw[show((n+1:Nat):Int)=n+1 by omega,Int.add_mul,Int.one_mul]
theorem N8(a b:Int)(r:List Int):steps (a::b::r)=(a,b)::steps (b::r):=rfl
theorem RN:∀{E:List Int},E.Pairwise (·<·)->∀p∈steps E,p.1<p.2/\p.1∈E/\p.2∈E/\∀e∈E,e<=p.1∨p.2<=e
 |[],_,p,h=>by simp[steps] at h
 |[a],_,p,h=>by simp[steps] at h
 |a::b::r,hp,p,h=>by
  have hab:=(List.pairwise_cons.mp hp).1
  have ht:=(List.pairwise_cons.mp hp).2
  rw[N8] at h
  rcases List.mem_cons.mp h with z|z
  .subst z
   refine⟨hab b List.mem_cons_self,by simp,by simp,fun e he=>?_⟩
   rcases List.mem_cons.mp he with q|q
   .left;show e<=a;omega
   .right
    show b<=e
    rcases List.mem_cons.mp q with q|q
    .omega
    .exact Int.le_of_lt ((List.pairwise_cons.mp ht).1 e q)
  .obtain⟨h1,h2,h3,h4⟩:=RN ht p z
   refine⟨h1,List.mem_cons_of_mem _ h2,List.mem_cons_of_mem _ h3,fun e he=>?_⟩
   rcases List.mem_cons.mp he with q|q
   .left;rw[q];exact Int.le_of_lt (hab _ h2)
   .exact h4 e q
def Qq(E:List Int)(g:Int->Int):Int:=((steps E).map fun p=>(p.2-p.1)*g p.1).sum
theorem WR(g:Int->Int)(B:Int):∀(r:List Int)(a:Int),(a::r).Pairwise (·<·)->(∀p∈steps (a::r),∀x,p.1<=x->x<p.2->g x=g p.1)->(∀x,(∀e∈a::r,e<=x)->g x=0)->(∀e∈a::r,e<=B)->Qq (a::r) g=JK g a (B-a).toNat
 |[],a,hp,hc,ho,hB=>by
  have:JK g a (B-a).toNat=(B-a).toNat*0:=Js g a 0 _ fun x h1 _=>ho x (by simpa using h1)
  rw[this];simp[Qq,steps]
 |b::r,a,hp,hc,ho,hB=>by
  have hab:=(List.pairwise_cons.mp hp).1 b List.mem_cons_self
  have ht:=(List.pairwise_cons.mp hp).2
  have hb:=hB b (by simp)
  have ih:=WR g B r b ht (fun p h=>hc p (by rw[N8];exact List.mem_cons_of_mem _ h)) (fun x h=>ho x fun e he=>by
   rcases List.mem_cons.mp he with q|q
   .have:=h b List.mem_cons_self;omega
   .exact h e q) fun e he=>hB e (List.mem_cons_of_mem _ he)
  have e1:(B-a).toNat=(b-a).toNat+(B-b).toNat:=by omega
  have e2:JK g a (b-a).toNat=(b-a).toNat*g a:=Js g a (g a) _ fun x h1 h2=>hc (a,b) (by rw[N8];exact List.mem_cons_self) x h1 (by show x<b;omega)
  have e3:(((b-a).toNat:Nat):Int)=b-a:=by omega
  rw[e1,U4,e2,e3,show a+(b-a)=b by omega,←ih]
  simp[Qq,N8]
theorem fW{E:List Int}{g:Int->Int}{A:Int}{N:Nat}(hp:E.Pairwise (·<·))(hc:∀p∈steps E,∀x,p.1<=x->x<p.2->g x=g p.1)(h0:∀x,(∀e∈E,x<e)->g x=0)(h1:∀x,(∀e∈E,e<=x)->g x=0)(hb:∀e∈E,A<=e/\e<=A+N):Qq E g=JK g A N:=by
 cases E with
 |nil =>
  have:JK g A N=N*0:=Js g A 0 _ fun x _ _=>h0 x fun e he=>by simp at he
  rw[this];simp[Qq,steps]
 |cons a r =>
  have ha:=hb a List.mem_cons_self
  rw[WR g (A+N) r a hp hc h1 fun e he=>(hb e he).2]
  have e1:N=(a-A).toNat+(A+N-a).toNat:=by omega
  have e2:JK g A (a-A).toNat=(a-A).toNat*0:=Js g A 0 _ fun x _ h2=>h0 x fun e he=>by
   rcases List.mem_cons.mp he with q|q
   .omega
   .have:=(List.pairwise_cons.mp hp).1 e q;omega
  have e3:A+(((a-A).toNat:Nat):Int)=a:=by omega
  conv=>rhs;rw[e1,U4,e2,e3]
  simp
theorem Tv{α:Type}(F:List Nat->Int)(f:α->List (List St2×List Nat)):∀l:List α,csum F (l.flatMap f)=(l.map fun p=>csum F (f p)).sum
 |[]=>rfl
 |a::l=>by
  rw[List.flatMap_cons,csum,List.map_append,List.sum_append_int,List.map_cons,List.sum_cons,←Tv F f l];rfl
theorem Rg(F:List Nat->Int)(p:St2):∀cs:List (List St2×List Nat),csum F (cs.map fun c=>(p::c.1,c.2))=(p.2-p.1)*csum F cs
 |[]=>by simp[csum]
 |c::cs=>by
  have:=Rg F p cs
  simp only[csum,List.map_cons,List.sum_cons] at this ⊢
  rw[this,Cv,Int.mul_add,Int.mul_assoc]
theorem Oj{ns:List Int}{x:Int}:x∈GX ns↔x∈ns:=(List.mergeSort_perm _ _).mem_iff.trans ((SetP.O5 ns).2.2 x)
theorem Ux(ns:List Int):(GX ns).Pairwise (·<·):=by
 obtain⟨o1,o2,o3⟩:=SetP.O5 ns
 have hp:(GX ns).Perm (SetP.once ns):=List.mergeSort_perm _ _
 have hs:(GX ns).Pairwise (·<=·):=by
  have:=List.pairwise_mergeSort (le:=fun a b:Int=>decide (a<=b)) (by intro a b c h1 h2;simp at *;omega) (by intro a b;simp;omega) (SetP.once ns)
  exact this.imp fun h=>by simpa using h
 exact(hs.and (hp.nodup_iff.mpr o1)).imp fun⟨h,n⟩=>by omega
theorem RP(ns:List Int):(GX ns).length<=ns.length:=by
 obtain⟨o1,o2,o3⟩:=SetP.O5 ns
 have hp:(GX ns).Perm (SetP.once ns):=List.mergeSort_perm _ _
 rw[hp.length_eq];omega
theorem SX{p:St2}{x:Int}:inS p x=true↔p.1<=x/\x<p.2:=by simp[inS]
theorem ZR{bs:List (List St2)}{w:Nat}{ns:List Nat}{E:List Int}(hp:E.Pairwise (·<·))(hE:∀i∈ns,(at1 bs i w).1∈E/\(at1 bs i w).2∈E):∀p∈steps E,∀x,p.1<=x->x<p.2->Gf bs w x ns=Gf bs w p.1 ns:=fun p h x h1 h2=>by
 obtain⟨g1,g2,g3,g4⟩:=RN hp p h
 unfold Gf
 refine List.filter_congr fun i hi=>?_
 rw[Bool.eq_iff_iff,SX,SX]
 have a1:=g4 _ (hE i hi).1
 have a2:=g4 _ (hE i hi).2
 omega
theorem Yq{bs:List (List St2)}{w:Nat}{ns:List Nat}{x:Int}(h:∀i∈ns,x<(at1 bs i w).1∨(at1 bs i w).2<=x):Gf bs w x ns=[]:=by
 unfold Gf
 rw[List.filter_eq_nil_iff]
 intro i hi
 rw[SX]
 have:=h i hi
 omega
theorem Ov{bs:List (List St2)}{F:List Nat->Int}{A:Int}{N:Nat}(hF:F []=0):∀k w,canon bs F A N k w []=0
 |0,_=>hF
 |k+1,w=>by
  have:JK (fun x=>canon bs F A N k (w+1) (Gf bs w x [])) A N=N*0:=Js _ A 0 N fun x _ _=>Ov hF k (w+1)
  rw[canon,this];simp
def Wide(bs:List (List St2))(A:Int)(N:Nat)(w k:Nat)(ns:List Nat):Prop:=∀i∈ns,∀v,w<=v->v<w+k->(at1 bs i v).1<(at1 bs i v).2/\A<=(at1 bs i v).1/\(at1 bs i v).2<=A+N
theorem Wide.sub{bs:List (List St2)}{A:Int}{N w k:Nat}{ns ms:List Nat}(h:Wide bs A N w (k+1) ns)(hs:∀i∈ms,i∈ns):Wide bs A N (w+1) k ms:=fun i hi v h1 h2=>h i (hs i hi) v (by omega) (by omega)
theorem Va{bs:List (List St2)}{F:List Nat->Int}{A:Int}{N k w:Nat}{ns:List Nat}(hF:F []=0)(hw:Wide bs A N w (k+1) ns){E:List Int}(hp:E.Pairwise (·<·))(hE:∀i∈ns,(at1 bs i w).1∈E/\(at1 bs i w).2∈E)(hb:∀e∈E,A<=e/\e<=A+N) :
  Qq E (fun x=>canon bs F A N k (w+1) (Gf bs w x ns))=canon bs F A N (k+1) w ns:=by
 rw[canon]
 refine fW hp (fun p h x h1 h2=>by rw[ZR hp hE p h x h1 h2]) (fun x h=>?_) (fun x h=>?_) hb
 .rw[Yq fun i hi=>.inl (h _ (hE i hi).1),Ov hF]
 .rw[Yq fun i hi=>.inr (h _ (hE i hi).2),Ov hF]
theorem dU{bs:List (List St2)}{w:Nat}{ns:List Nat}:∀i∈ns,(at1 bs i w).1∈Dv bs w ns/\(at1 bs i w).2∈Dv bs w ns:=fun i hi =>
 ⟨Oj.mpr (List.mem_append_left _ (List.mem_map_of_mem hi)),Oj.mpr (List.mem_append_right _ (List.mem_map_of_mem hi))⟩
theorem iQ{bs:List (List St2)}{w:Nat}{ns:List Nat}{e:Int}(h:e∈Dv bs w ns):∃i∈ns,e=(at1 bs i w).1∨e=(at1 bs i w).2:=by
 rcases List.mem_append.mp (Oj.mp h) with z|z
 .obtain⟨i,hi,e⟩:=List.mem_map.mp z;exact⟨i,hi,.inl e.symm⟩
 .obtain⟨i,hi,e⟩:=List.mem_map.mp z;exact⟨i,hi,.inr e.symm⟩
theorem Pk{bs:List (List St2)}{A:Int}{N w k:Nat}{ns:List Nat}(hw:Wide bs A N w (k+1) ns):∀e∈Dv bs w ns,A<=e/\e<=A+N:=fun e he=>by
 obtain⟨i,hi,q⟩:=iQ he
 have:=hw i hi w (Nat.le_refl _) (by omega)
 omega
theorem VN{bs:List (List St2)}{F:List Nat->Int}{A:Int}{N:Nat}(hF:F []=0):∀(k w:Nat)(ns:List Nat),Wide bs A N w k ns->csum F (Bk bs k w ns)=canon bs F A N k w ns
 |0,w,ns,_=>by
  rw[Bk,canon]
  by_cases h:ns=[]
  .rw[if_pos h,h,hF];rfl
  .rw[if_neg h];simp[csum,Cv]
 |k+1,w,ns,hw=>by
  rw[Bk]
  by_cases h:ns=[]
  .rw[if_pos h,h,Ov hF];rfl
  .rw[if_neg h,Tv,←Va hF hw (Ux _) dU (Pk hw),Qq]
   refine congrArg List.sum (List.map_congr_left fun p _=>?_)
   rw[Rg,VN hF k (w+1) (Gf bs w p.1 ns) (hw.sub fun i hi=>(List.mem_filter.mp hi).1)]
def QS(bs:List (List St2)):Nat->List Int->List Nat->List Nat
 |_,[],ns=>ns
 |w,x::xs,ns=>QS bs (w+1) xs (Gf bs w x ns)
def lows(c:List St2):List Int:=c.map fun p=>p.1
def PJ(bs:List (List St2))(w:Nat)(ns:List Nat)(cs:List (List St2)):List (List St2×List Nat):=cs.map fun c=>(c,QS bs w (lows c) ns)
theorem iB(bs:List (List St2))(F:List Nat->Int)(w:Nat)(ns:List Nat)(p:St2)(cs:List (List St2)):csum F (PJ bs w ns (cs.map (p::·)))=(p.2-p.1)*csum F (PJ bs (w+1) (Gf bs w p.1 ns) cs):=by
 rw[←Rg]
 unfold PJ
 rw[List.map_map,List.map_map]
 rfl
def own1(i:Nat)(ns:List Nat):Int:=if ns=[i] then 1 else 0
def ownStep(acc:List Int)(c:List St2×List Nat):List Int:=match c.2 with|[i]=>acc.set i (acc.getD i 0+Cv c.1)|_=>acc
theorem T3(acc:List Int)(c:List St2×List Nat):(ownStep acc c).length=acc.length:=by
 unfold ownStep;split<;>simp
theorem cZ(acc:List Int)(c:List St2×List Nat)(j:Nat)(hj:j<acc.length):(ownStep acc c).getD j 0=acc.getD j 0+Cv c.1*own1 j c.2:=by
 unfold ownStep own1
 split
 .rename_i i e
  rw[e]
  by_cases q:i=j
  .subst q
   simp[hj]
  .have:¬([i]=[j]):=fun z=>q (by simpa using z)
   rw[if_neg this]
   simp[List.getD_eq_getElem?_getD,List.getElem?_set_ne q]
 .rename_i h
  have:¬(c.2=[j]):=fun z=>h j z
  rw[if_neg this];simp
theorem Y4:∀(cs:List (List St2×List Nat))(acc:List Int)(j:Nat),j<acc.length->(cs.foldl ownStep acc).getD j 0=acc.getD j 0+csum (own1 j) cs
 |[],acc,j,_=>by simp[csum]
 |c::cs,acc,j,hj=>by
  rw[List.foldl_cons,Y4 cs _ j (by rw[T3];exact hj),cZ acc c j hj]
  simp only[csum,List.map_cons,List.sum_cons]
  omega
theorem Nf:∀(cs:List (List St2×List Nat))(acc:List Int),(cs.foldl ownStep acc).length=acc.length
 |[],_=>rfl
 |c::cs,acc=>by rw[List.foldl_cons,Nf cs,T3]
theorem yx{cs ds:List (List St2×List Nat)}(acc:List Int)(h:∀j,csum (own1 j) cs=csum (own1 j) ds):cs.foldl ownStep acc=ds.foldl ownStep acc:=by
 refine List.ext_getElem (by rw[Nf,Nf]) fun j h1 h2=>?_
 rw[Nf] at h1
 have:=Y4 cs acc j h1
 have q:=Y4 ds acc j h1
 rw[h j,←q] at this
 rw[List.getD_eq_getElem?_getD,List.getD_eq_getElem?_getD,List.getElem?_eq_getElem (by rw[Nf];exact h1),List.getElem?_eq_getElem (by rw[Nf];exact h1)] at this
 exact this
theorem Tc{F:List Nat->Int}(hF:F []=0):∀cs:List (List St2×List Nat),csum F (cs.filter fun c=>decide (c.2≠[]))=csum F cs
 |[]=>rfl
 |c::cs=>by
  have:=Tc hF cs
  by_cases h:c.2=[]
  .rw[List.filter_cons_of_neg (by simp[h]),this]
   simp[csum,h,hF]
  .rw[List.filter_cons_of_pos (by simp[h])]
   simp only[csum,List.map_cons,List.sum_cons] at this ⊢
   rw[this]
end VS
end
section
namespace VS
def Ft(t:Nat)(ns:List Nat):Int:=if ns.length=t+1 then 1 else 0
theorem YC(t:Nat):Ft t []=0:=rfl
def Bp(acc:List Int)(c:List St2×List Nat):List Int:=acc.set (c.2.length-1) (acc.getD (c.2.length-1) 0+Cv c.1)
theorem K6(acc:List Int)(c:List St2×List Nat):(Bp acc c).length=acc.length:=by unfold Bp;simp
theorem JX:∀(cs:List (List St2×List Nat))(acc:List Int),(cs.foldl Bp acc).length=acc.length
 |[],_=>rfl
 |c::r,acc=>by rw[List.foldl_cons,JX r,K6]
theorem Z9(acc:List Int)(c:List St2×List Nat)(h:1<=c.2.length){t:Nat}(ht:t<acc.length):(Bp acc c).getD t 0=acc.getD t 0+Cv c.1*Ft t c.2:=by
 unfold Bp Ft
 by_cases e:c.2.length=t+1
 .rw[if_pos e,Int.mul_one,e,Nat.add_sub_cancel]
  rw[List.getD_eq_getElem?_getD,List.getElem?_set_self ht];rfl
 .rw[if_neg e,Int.mul_zero,Int.add_zero,List.getD_eq_getElem?_getD,List.getElem?_set_ne (by omega),←List.getD_eq_getElem?_getD]
theorem Tt{t:Nat}:∀(cs:List (List St2×List Nat))(acc:List Int),(∀c∈cs,1<=c.2.length)->t<acc.length->(cs.foldl Bp acc).getD t 0=acc.getD t 0+csum (Ft t) cs
 |[],acc,_,_=>by simp[csum]
 |c::r,acc,h,ht=>by
  rw[List.foldl_cons,Tt r _ (fun d hd=>h d (List.mem_cons_of_mem _ hd)) (by rw[K6];exact ht),Z9 acc c (h c List.mem_cons_self) ht]
  unfold csum
  rw[List.map_cons,List.sum_cons,Int.add_assoc]
theorem sum_set:∀(l:List Int)(i:Nat)(v:Int),i<l.length->(l.set i (l.getD i 0+v)).sum=l.sum+v
 |a::r,0,v,_=>by
  show(a+v)+r.sum=a+r.sum+v
  omega
 |a::r,i+1,v,h=>by
  have:=sum_set r i v (by simpa using h)
  show a+(r.set i (r.getD i 0+v)).sum=a+r.sum+v
  rw[this];omega
theorem WL:∀(cs:List (List St2×List Nat))(acc:List Int),(∀c∈cs,1<=c.2.length/\c.2.length<=acc.length)->(cs.foldl Bp acc).sum=acc.sum+(cs.map fun c=>Cv c.1).sum
 |[],acc,_=>by simp
 |c::r,acc,h=>by
  have hc:=h c List.mem_cons_self
  rw[List.foldl_cons,WL r _ (fun d hd=>by rw[K6];exact h d (List.mem_cons_of_mem _ hd))]
  unfold Bp
  rw[sum_set _ _ _ (by omega),List.map_cons,List.sum_cons]
  omega
def Tj{α:Type}:List (List α)->List (List α)
 |[]=>[[]]
 |l::r=>l.flatMap fun x=>(Tj r).map (x::·)
theorem Wx{α β:Type}(f:β->List α):∀(Es:List β)(acc:List (List α)),Es.foldl (fun acc E=>acc.flatMap fun s=>(f E).map fun x=>s++[x]) acc=acc.flatMap fun s=>(Tj (Es.map f)).map (s++·)
 |[],acc=>by
  show acc=acc.flatMap fun s=>[s++[]]
  simp
 |E::r,acc=>by
  rw[List.foldl_cons,Wx f r,List.flatMap_assoc,List.map_cons]
  refine congrArg (fun g=>List.flatMap g acc) (funext fun s=>?_)
  rw[List.flatMap_map,Tj,List.map_flatMap]
  refine congrArg (fun g=>List.flatMap g (f E)) (funext fun x=>?_)
  rw[List.map_map]
  refine List.map_congr_left fun t _=>?_
  simp
def N6:List (List Int)->List (List St2)
 |[]=>[[]]
 |E::r=>(steps E).flatMap fun p=>(N6 r).map (p::·)
def Cov(bs:List (List St2))(A:Int)(N:Nat):Nat->List (List Int)->List Nat->Prop
 |_,[],_=>True
 |w,E::r,ns=>(E.Pairwise (·<·)/\(∀i∈ns,(at1 bs i w).1∈E/\(at1 bs i w).2∈E)/\∀e∈E,A<=e/\e<=A+N)/\Cov bs A N (w+1) r ns
theorem Cov.sub{bs:List (List St2)}{A:Int}{N:Nat}{ns ms:List Nat}(h:∀i∈ms,i∈ns):∀{w:Nat} {Es:List (List Int)},Cov bs A N w Es ns->Cov bs A N w Es ms
 |_,[],_=>trivial
 |_,_::_,⟨⟨a,b,c⟩,d⟩=>⟨⟨a,fun i hi=>b i (h i hi),c⟩,d.sub h⟩
theorem Wi{bs:List (List St2)}{F:List Nat->Int}{A:Int}{N:Nat}(hF:F []=0):∀(Es:List (List Int))(w:Nat)(ns:List Nat),Wide bs A N w Es.length ns->Cov bs A N w Es ns->csum F (PJ bs w ns (N6 Es))=canon bs F A N Es.length w ns
 |[],w,ns,_,_=>by simp[N6,PJ,csum,canon,QS,lows,Cv]
 |E::r,w,ns,hw,hc=>by
  obtain⟨⟨h1,h2,h3⟩,h4⟩:=hc
  rw[List.length_cons,N6,←Va hF hw h1 h2 h3,Qq]
  have e:PJ bs w ns ((steps E).flatMap fun p=>(N6 r).map (p::·))=(steps E).flatMap fun p=>PJ bs w ns ((N6 r).map (p::·)):=by
   unfold PJ;rw[List.map_flatMap]
  rw[e,Tv]
  refine congrArg List.sum (List.map_congr_left fun p _=>?_)
  have hs:∀i∈Gf bs w p.1 ns,i∈ns:=fun i hi=>(List.mem_filter.mp hi).1
  rw[iB,Wi hF r (w+1) (Gf bs w p.1 ns) (hw.sub hs) (h4.sub hs)]
def Jg:Nat->List Int->List Int
 |0,l=>l
 |k+1,l=>if l≠[]/\l.getLast?=some 0 then Jg k l.dropLast else l
theorem Yv:∀(k:Nat)(P:List Int),(∀x,P.getLast?=some x->x≠0)->∀j≤k,Jg k (P++List.replicate j 0)=P
 |0,P,hP,j,hj=>by
  have:j=0:=by omega
  subst this
  simp[Jg]
 |k+1,P,hP,0,_=>by
  rw[List.replicate_zero,List.append_nil,Jg]
  split
  .rename_i h;exact absurd rfl (hP 0 h.2)
  .rfl
 |k+1,P,hP,j+1,hj=>by
  have e:P++List.replicate (j+1) (0:Int)=(P++List.replicate j 0)++[0]:=by
   rw[List.replicate_succ',List.append_assoc]
  rw[e,Jg,if_pos ⟨by simp,by simp⟩,List.dropLast_concat]
  exact Yv k P hP j (by omega)
theorem WW:∀(c:List St2),(∀p∈c,p.1<p.2)->0<Cv c
 |[],_=>by decide
 |p::r,h=>by
  have h1:=h p List.mem_cons_self
  exact Int.mul_pos (by omega) (WW r fun q hq=>h q (List.mem_cons_of_mem _ hq))
theorem bL{t:Nat}:∀(cs:List (List St2×List Nat)),(∀c∈cs,0<Cv c.1)->0<=csum (Ft t) cs
 |[],_=>by simp[csum]
 |c::r,h=>by
  have:=bL (t:=t) r fun d hd=>h d (List.mem_cons_of_mem _ hd)
  have h1:=h c List.mem_cons_self
  unfold csum at this ⊢
  rw[List.map_cons,List.sum_cons]
  have:0<=Cv c.1*Ft t c.2:=Int.mul_nonneg (by omega) (by unfold Ft;split<;>decide)
  omega
theorem Yx{t:Nat}:∀(cs:List (List St2×List Nat)),(∀c∈cs,0<Cv c.1)->(∃c∈cs,c.2.length=t+1)->0<csum (Ft t) cs
 |[],_,h=>by obtain⟨c,hc,_⟩:=h;cases hc
 |c::r,h,hx=>by
  have h1:=h c List.mem_cons_self
  have h2:=bL (t:=t) r fun d hd=>h d (List.mem_cons_of_mem _ hd)
  have h3:0<=Cv c.1*Ft t c.2:=Int.mul_nonneg (by omega) (by unfold Ft;split<;>decide)
  obtain⟨d,hd,e⟩:=hx
  rcases List.mem_cons.mp hd with z|z
  .subst z
   unfold csum at h2 ⊢
   rw[List.map_cons,List.sum_cons]
   have:Cv d.1*Ft t d.2=Cv d.1:=by unfold Ft;rw[if_pos e,Int.mul_one]
   omega
  .have:=Yx r (fun d hd=>h d (List.mem_cons_of_mem _ hd)) ⟨d,z,e⟩
   unfold csum at this ⊢
   rw[List.map_cons,List.sum_cons]
   omega
theorem Wu{t:Nat}:∀(cs:List (List St2×List Nat)),(∀c∈cs,c.2.length≠t+1)->csum (Ft t) cs=0
 |[],_=>by simp[csum]
 |c::r,h=>by
  have:=Wu (t:=t) r fun d hd=>h d (List.mem_cons_of_mem _ hd)
  unfold csum at this ⊢
  rw[List.map_cons,List.sum_cons,this]
  unfold Ft
  rw[if_neg (h c List.mem_cons_self),Int.mul_zero];rfl
theorem mD{l m:List Int}(hl:l.length=m.length)(h:∀t<l.length,l.getD t 0=m.getD t 0):l=m:=by
 refine List.ext_getElem hl fun t h1 h2=>?_
 have:=h t h1
 rw[List.getD_eq_getElem?_getD,List.getD_eq_getElem?_getD,List.getElem?_eq_getElem h1,List.getElem?_eq_getElem h2] at this
 exact this
theorem U6(n t:Nat):(List.replicate n (0:Int)).getD t 0=0:=by
 rw[List.getD_eq_getElem?_getD,List.getElem?_replicate]
 split<;>rfl
theorem d8{cs ls:List (List St2×List Nat)}{K M:Nat}(h1:∀c∈cs,1<=c.2.length/\c.2.length<=K/\0<Cv c.1)(hx:K=0∨∃c∈cs,c.2.length=K)(hl:∀c∈ls,1<=c.2.length)(hs:∀t,csum (Ft t) ls=csum (Ft t) cs)(hKM:K<=M) :
  Jg M (ls.foldl Bp (List.replicate M 0))=cs.foldl Bp (List.replicate K 0):=by
 have eP:∀t<K,(cs.foldl Bp (List.replicate K 0)).getD t 0=csum (Ft t) cs:=fun t ht=>by
  rw[Tt cs _ (fun c hc=>(h1 c hc).1) (by simpa using ht),U6,Int.zero_add]
 have lP:(cs.foldl Bp (List.replicate K 0)).length=K:=by rw[JX,List.length_replicate]
 have eL:ls.foldl Bp (List.replicate M 0)=cs.foldl Bp (List.replicate K 0)++List.replicate (M-K) 0:=by
  refine mD (by rw[JX,List.length_replicate,List.length_append,lP,List.length_replicate];omega) fun t ht=>?_
  rw[JX,List.length_replicate] at ht
  rw[Tt ls _ hl (by simpa using ht),U6,Int.zero_add,hs]
  by_cases hk:t<K
  .rw[←eP t hk,List.getD_eq_getElem?_getD,List.getD_eq_getElem?_getD,List.getElem?_append_left (by rw[lP];exact hk)]
  .rw[Wu cs fun c hc=>by have:=h1 c hc;omega,List.getD_eq_getElem?_getD,List.getElem?_append_right (by rw[lP];omega),←List.getD_eq_getElem?_getD,U6]
 rw[eL]
 refine Yv M _ (fun x hx' e=>?_) (M-K) (by omega)
 subst e
 rcases hx with h0|⟨c,hc,e⟩
 .rw[h0] at hx'
  have:(cs.foldl Bp (List.replicate 0 0))=[]:=List.length_eq_zero_iff.mp (by rw[JX];rfl)
  rw[this] at hx'
  cases hx'
 .have hK:=(h1 c hc).1
  have hp:=Yx (t:=K-1) cs (fun d hd=>(h1 d hd).2.2) ⟨c,hc,by omega⟩
  rw[←eP (K-1) (by omega)] at hp
  rw[List.getLast?_eq_getElem?,lP] at hx'
  rw[List.getD_eq_getElem?_getD,hx'] at hp
  exact absurd hp (by decide)
end VS
end
section
namespace W17
open PySem L2 VS
noncomputable def VB:Ay :=
 (Cu (QK (eCB Hl (Aa (Ab 0) (Aa (eC (.ty "int")) Ae))) (bZ (eCB Hl (Aa (Ab 0) (Aa (eC (.ty "bool")) Ae))))))
noncomputable def Fp:Cm:=FN 1 1 VB
noncomputable def VG:Ay :=
 (Cu (QK (BJ Fp (Aa (Ab 0) Ae)) (eUn (Xo Bc.D3) (Ab 0))))
noncomputable def FP:Cm:=FN 1 1 VG
noncomputable def Rw:Ay :=
 (Bj (sIf (tOr (Hx (Bh (eCB Hl (Aa (Ab 0) (Aa (eC (.ty "tuple")) Ae))))) (Bh (eOp (oEq true) (eCB Dt (Aa (Ab 0) Ae)) (eC (.int 2)))))
  (Cu (eC (.bl false)))
  En)
  (Cu (QK (BJ Fp (Aa (eOp oIx (Ab 0) (eC (.int 0))) Ae)) (QK (BJ Fp (Aa (eOp oIx (Ab 0) (eC (.int 1))) Ae)) (eOp oLt (eOp oIx (Ab 0) (eC (.int 0))) (eOp oIx (Ab 0) (eC (.int 1))))))))
noncomputable def Gv:Cm:=FN 1 1 Rw
noncomputable def Rb:Bb :=
 Cj 1 [] (Dc (Ab 1)) (Pat.sem (.nm 0)) Fz (BJ Gv (Aa (Ab 0) Ae))
noncomputable def Yr:Ay :=
 (Bj (sIf (tOr (Hx (Bh (BJ FP (Aa (Ab 0) Ae)))) (tOr (Hx (Bh (eCB Hl (Aa (Ab 1) (Aa (eC (.ty "tuple")) Ae))))) (Bh (eOp (oEq true) (eCB Dt (Aa (Ab 1) Ae)) (Ab 0)))))
  (Cu (eC (.bl false)))
  En)
  (Cu (eCB Nr (Aa (Bm Rb) Ae))))
noncomputable def Jj:Cm:=FN 2 2 Yr
noncomputable def Qh:Bb :=
 Cj 1 [1] (Dc (Ab 2)) (Pat.sem (.nm 0)) Fz (BJ Jj (Aa (Ab 1) (Aa (Ab 0) Ae)))
noncomputable def Wo:Ay :=
 (Bj (sIf (tOr (Hx (Bh (eCB Hl (Aa (Ab 0) (Aa (eC (.ty "tuple")) Ae))))) (Bh (eOp (oEq true) (eCB Dt (Aa (Ab 0) Ae)) (eC (.int 2)))))
  (Cu (eC (.bl false)))
  En)
  (Bj (Bf 1 (eOp oIx (Ab 0) (eC (.int 0))))
  (Bj (Bf 2 (eOp oIx (Ab 0) (eC (.int 1))))
  (Bj (sIf (tOr (Hx (Bh (BJ FP (Aa (Ab 1) Ae)))) (tOr (Hx (Bh (eCB Hl (Aa (Ab 2) (Aa (eC (.ty "list")) Ae))))) (Bh (eOp oGt (eCB Dt (Aa (Ab 2) Ae)) (eUn (Uq Bc.D3) (Ab 1))))))
  (Cu (eC (.bl false)))
  En)
  (Cu (eCB Nr (Aa (Bm Qh) Ae)))))))
noncomputable def J8:Cm:=FN 1 3 Wo
noncomputable def T9:Ay :=
 (sIf (Hx (Bh (BJ J8 (Aa (Ab 0) Ae))))
  Xz
  En)
noncomputable def Em:Cm:=FN 1 1 T9
noncomputable def Pq:Ay :=
 (Bf 1 (eOp Gp (Ab 1) (eOp EY (Ab 3) (Ab 2))))
noncomputable def Pn:Ay :=
 Il (Dc (Ab 0)) (Pat.sem (.tp [(.nm 2),(.nm 3)]))
  Pq
noncomputable def VF:Ay :=
 (Bj (Bf 1 (eC (.int 1)))
  (Bj Pn
  (Cu (Ab 1))))
noncomputable def Fq:Cm:=FN 1 4 VF
noncomputable def Mp:Bb :=
 Cj 1 [1] (Dc (Ab 0)) (Pat.sem (.nm 0)) Fz (eOp oIx (eOp oIx (Ab 0) (Ab 1)) (eC (.int 0)))
noncomputable def Ml:Bb :=
 Cj 1 [1] (Dc (Ab 0)) (Pat.sem (.nm 0)) Fz (eOp oIx (eOp oIx (Ab 0) (Ab 1)) (eC (.int 1)))
noncomputable def Rx:Ay :=
 (Cu (U9 (eOp Dh (Bm Mp) (Bm Ml))))
noncomputable def Gw:Cm:=FN 2 2 Rx
noncomputable def Qm:Ay :=
 (Bj (Bf 2 (BJ Gw (Aa (Ab 0) (Aa (Ab 1) Ae))))
  (Cu (O7 (Aa (Ab 2) (Aa (eSl oSl (Ab 2) (Mw (eC (.int 1))) Mx) Ae)))))
noncomputable def Fw:Cm:=FN 2 3 Qm
noncomputable def KH(rec:Cm):Bb :=
 Cj 1 [0] (Dc (Ab 1)) (Pat.sem (.nm 0)) Fz (eOp oIx (Ab 1) (Ab 0))
noncomputable def KD(rec:Cm):Bb :=
 Cj 1 [0,2,5] (Dc (Ab 1)) (Pat.sem (.nm 0)) (Bh (Uv oLe oLt (eOp oIx (eOp oIx (eOp oIx (Ab 1) (Ab 0)) (Ab 2)) (eC (.int 0))) (Ab 3) (eOp oIx (eOp oIx (eOp oIx (Ab 1) (Ab 0)) (Ab 2)) (eC (.int 1))))) (Ab 0)
noncomputable def KN(rec:Cm):Ay :=
 (JM (Ga Gd (Ab 4) (Aa (Bl (Aa (eOp Dh (Bl (Aa (Bl (Aa (Ab 5) (Aa (Ab 6) Ae))) Ae)) (Ab 8)) (Aa (Ab 9) Ae))) Ae)))
noncomputable def Mr(rec:Cm):Ay :=
 Il (Dc (BJ rec (Aa (Ab 0) (Aa (Ab 7) (Aa (eOp Dh (Ab 2) (eC (.int 1))) (Aa (Ab 3) Ae)))))) (Pat.sem (.tp [(.nm 8),(.nm 9)]))
  (KN rec)
noncomputable def KJ(rec:Cm):Ay :=
 (Bj (Bf 7 (Bm (KD rec)))
  (Mr rec))
noncomputable def Mq(rec:Cm):Ay :=
 Il (Dc (BJ Fw (Aa (Bm (KH rec)) (Aa (Ab 2) Ae)))) (Pat.sem (.tp [(.nm 5),(.nm 6)]))
  (KJ rec)
noncomputable def Lg(rec:Cm):Ay :=
 (Bj (sIf (Bh (eOp (oEq false) (eCB Dt (Aa (Ab 1) Ae)) (eC (.int 0))))
  (Cu (Bm Ae))
  En)
  (Bj (sIf (Bh (eOp (oEq false) (Ab 2) (Ab 3)))
  (Cu (Bm (Aa (Bl (Aa (Bl Ae) (Aa (Ab 1) Ae))) Ae)))
  En)
  (Bj (Bf 4 (Hj Ae))
  (Bj (Mq rec)
  (Cu (Ab 4))))))
noncomputable def CP:Nat->Cm
 |0=>fun _=>none
 |n+1=>FN 4 10 (Lg (CP n))
noncomputable def VD:Ay :=
 (Cu (BJ (CP 4) (Aa (eOp oIx (Ab 0) (eC (.int 1))) (Aa (Hi (Aa (eCB Dt (Aa (eOp oIx (Ab 0) (eC (.int 1))) Ae)) Ae)) (Aa (eC (.int 0)) (Aa (eOp oIx (Ab 0) (eC (.int 0))) Ae))))))
noncomputable def Eb:Cm:=FN 1 1 VD
noncomputable def Ke:Bb :=
 Cj 2 [] (Dc (Ab 0)) (Pat.sem (.tp [(.nm 0),(.nm 1)])) Fz (BJ Fq (Aa (Ab 0) Ae))
noncomputable def Oz:Ay :=
 (Cu (eCB Qx (Aa (Bm Ke) Ae)))
noncomputable def Ez:Cm:=FN 1 1 Oz
noncomputable def Gm:Bb :=
 Cj 2 [] (Dc (Ab 0)) (Pat.sem (.tp [(.nm 0),(.nm 1)])) Fz (eCB Dt (Aa (Ab 1) Ae))
noncomputable def Hu:Ay :=
 (Bj (Bf 4 (eCB Dt (Aa (Ab 3) Ae)))
  (Iu (eOp Dh (eOp oIx (Ab 1) (eOp EY (Ab 4) (eC (.int 1)))) (BJ Fq (Aa (Ab 2) Ae))) (Ab 1) (eOp EY (Ab 4) (eC (.int 1)))))
noncomputable def Jv:Ay :=
 Il (Dc (Ab 0)) (Pat.sem (.tp [(.nm 2),(.nm 3)]))
  Hu
noncomputable def Oc:Ay :=
 (Bj (Bf 1 (QT (Bm (Aa (eC (.int 0)) Ae)) (Uj 0 (Bm Gm))))
  (Bj Jv
  (Cu (Ab 1))))
noncomputable def El:Cm:=FN 1 5 Oc
noncomputable def QH:Ay :=
 (Bj (JM (BJ Em (Aa (Ab 0) Ae)))
  (Cu (BJ Ez (Aa (BJ Eb (Aa (Ab 0) Ae)) Ae))))
noncomputable def DR:Cm:=FN 1 1 QH
noncomputable def Qn:Ay :=
 (Bj (JM (BJ Em (Aa (Ab 0) Ae)))
  (Cu (BJ El (Aa (BJ Eb (Aa (Ab 0) Ae)) Ae))))
noncomputable def Ei:Cm:=FN 1 1 Qn
noncomputable def TQ:Ay :=
 (Bj (Bf 2 (eOp oMod (eOp Gp (eOp Dh (eOp Dh (eOp oMod (Ab 0) (eC (.int 2147483647))) (eOp Gp (eC (.int 7919)) (Ab 1))) (eC (.int 1))) (eC (.int 48271))) (eC (.int 2147483647))))
  (Bj (Bf 2 (eOp oMod (eOp Gp (Ab 2) (Ab 2)) (eC (.int 2147483629))))
  (Cu (eOp oDiv (eOp oMod (eOp Gp (eOp Dh (Ab 2) (eOp Gp (eC (.int 40692)) (eOp Dh (Ab 1) (eC (.int 3))))) (eC (.int 69621))) (eC (.int 2147483579))) (eC (.int 8))))))
noncomputable def HX:Cm:=FN 2 3 TQ
noncomputable def Wm:Ay :=
 (Cu (Bm (Aa (eOp Mz (eOp oMod (Ab 0) (eOp Mz (eOp Mz (eOp Mz (eOp Fi (eC (.int 10)) (eC (.int 50))) (eOp Fi (eC (.int 10)) (eC (.int 50)))) (eOp Fi (eC (.int 10)) (eC (.int 50)))) (eOp Fi (eC (.int 10)) (eC (.int 50))))) (eCB PK (Aa (eOp oGe (Ab 0) (eOp Fi (eC (.int 10)) (eC (.int 18)))) Ae))) (Aa (Ab 0) (Aa (eC (.int 0)) Ae)))))
noncomputable def Ho:Cm:=FN 1 1 Wm
noncomputable def Qi:Ay :=
 (Bj (Iu (eOp Dh (eOp oIx (Ab 0) (eC (.int 2))) (eC (.int 1))) (Ab 0) (eC (.int 2)))
  (Bj (sIf (Bh (eOp oGt (eOp oIx (Ab 0) (eC (.int 0))) (eC (.int 0))))
  (Bj (Bf 2 (eOp oMod (eOp oIx (Ab 0) (eC (.int 0))) (Ab 1)))
  (Bj (Iu (eOp oDiv (eOp oIx (Ab 0) (eC (.int 0))) (Ab 1)) (Ab 0) (eC (.int 0)))
  (Cu (Ab 2))))
  En)
  (Cu (eOp oMod (BJ HX (Aa (eOp oIx (Ab 0) (eC (.int 1))) (Aa (eOp oIx (Ab 0) (eC (.int 2))) Ae))) (Ab 1)))))
noncomputable def Al:JN:=runM 2 3 Qi
noncomputable def Lh:Bb :=
 Cj 1 [2,0] (Dc (Ab 1)) (Pat.sem (.nm 0)) Fz (Ga Nu (Ab 1) (Aa (BW Al (Aa (Ab 2) (Aa (eCB Dt (Aa (Ab 1) Ae)) Ae))) Ae))
noncomputable def QF:Ay :=
 (Bj (Bf 2 (Xk nList (Aa (Ab 1) Ae)))
  (Cu (Bm Lh)))
noncomputable def FW:JN:=runM 2 3 QF
noncomputable def Mf:Bb :=
 Cj 2 [] (Dc (Ab 6)) (Pat.sem (.tp [(.nm 0),(.nm 1)])) Fz (Bl (Aa (eCB Uk (Aa (Ab 0) (Aa (Ab 1) Ae))) (Aa (eCB Xm (Aa (Ab 0) (Aa (Ab 1) Ae))) Ae)))
noncomputable def K9:Ay :=
 (Bj (Bf 5 (BW FW (Aa (Ab 0) (Aa (Hi (Aa (eOp Gp (eC (.int 2)) (Ab 2)) Ae)) Ae))))
  (Bj (Bf 6 (O7 (Aa (eUn (Og 0) (Ab 5)) (Aa (eUn (Og 1) (Ab 5)) Ae))))
  (JM (Ga Gd (Ab 3) (Aa (Bm Mf) Ae)))))
noncomputable def MP:Ay :=
 Il (Et (Aa (Ab 1) Ae)) (Pat.sem (.nm 4))
  K9
noncomputable def K8:Bb :=
 Cj 1 [0] (Dc (Ab 1)) (Pat.sem (.nm 0)) Fz (eOp oIx (Ab 0) (Ab 1))
noncomputable def Ma:Bb :=
 Cj 1 [3] (Et (Aa (Ab 2) Ae)) (Pat.sem (.nm 0)) Fz (eCB Tp (Aa (Bm K8) Ae))
noncomputable def Ru:Ay :=
 (Bj (Bf 3 (Hj Ae))
  (Bj MP
  (Cu (Bm Ma))))
noncomputable def G8:JN:=runM 3 7 Ru
noncomputable def Lb:Ay :=
 (Bj (Bf 10 (BW Al (Aa (Ab 0) (Aa (Ab 5) Ae))))
  (JM (Ga Gd (Ab 8) (Aa (Bl (Aa (Ab 10) (Aa (eOp Dh (eOp Dh (Ab 10) (eC (.int 1))) (eOp oIx (Bm (Aa (eC (.int 0)) (Aa (BW Al (Aa (Ab 0) (Aa (eOp EY (Ab 5) (Ab 10)) Ae))) Ae))) (BW Al (Aa (Ab 0) (Aa (eC (.int 2)) Ae))))) Ae))) Ae))))
noncomputable def OD:Ay :=
 Il (Et (Aa (Ab 1) Ae)) (Pat.sem (.nm 9))
  Lb
noncomputable def La:Ay :=
 (Bj (Bf 8 (Hj Ae))
  (Bj OD
  (JM (Ga Gd (Ab 6) (Aa (eCB Tp (Aa (Ab 8) Ae)) Ae)))))
noncomputable def O9:Ay :=
 Il (Et (Aa (Ab 4) Ae)) (Pat.sem (.nm 7))
  La
noncomputable def LR:Bb :=
 Cj 1 [] (Sd (Aa (eC (.int 0)) (Aa (eOp Gp (eC (.int 2)) (Ab 2)) (Aa (eC (.int 2)) Ae)))) (Pat.sem (.nm 0)) Fz (Bl (Aa (Bl (Aa (eOp oMod (Ab 0) (eC (.int 3))) (Aa (eOp Dh (eOp oMod (Ab 0) (eC (.int 3))) (eC (.int 1))) Ae))) (Aa (Bl (Aa (eOp oDiv (Ab 0) (eC (.int 3))) (Aa (eOp Dh (eOp oDiv (Ab 0) (eC (.int 3))) (eC (.int 1))) Ae))) Ae)))
noncomputable def TF:Ay :=
 (Bj (Bf 4 (eOp oIx (Bm (Aa (BW Al (Aa (Ab 0) (Aa (eOp Dh (Ab 2) (eC (.int 1))) Ae))) (Aa (Ab 2) (Aa (eOp Dh (eC (.int 1)) (BW Al (Aa (Ab 0) (Aa (Ab 2) Ae)))) Ae)))) (BW Al (Aa (Ab 0) (Aa (eC (.int 3)) Ae)))))
  (Bj (Bf 5 (eOp oIx (Bm (Aa (eC (.int 2)) (Aa (eC (.int 3)) (Aa (eC (.int 5)) (Aa (Ab 3) Ae))))) (BW Al (Aa (Ab 0) (Aa (eC (.int 4)) Ae)))))
  (Bj (Bf 6 (Hj Ae))
  (Bj O9
  (Bj (Bf 11 (BW Al (Aa (Ab 0) (Aa (eC (.int 8)) Ae))))
  (Bj (sIf (Jt (Bh (eOp (oEq false) (Ab 11) (eC (.int 1)))) (Bh (eOp oGt (Ab 4) (eC (.int 1)))))
  (Iu (eOp oIx (Ab 6) (BW Al (Aa (Ab 0) (Aa (eOp EY (Ab 4) (eC (.int 1))) Ae)))) (Ab 6) (eUn MK (eC (.int 1))))
  En)
  (Bj (sIf (Jt (Bh (eOp (oEq false) (Ab 1) (eC (.int 2)))) (Bh (eOp (oEq false) (Ab 11) (eC (.int 2)))))
  (Bj (Bf 12 (Bm (Aa (Bl (Aa (Bl (Aa (eC (.int 0)) (Aa (eC (.int 3)) Ae))) (Aa (Bl (Aa (eC (.int 0)) (Aa (eC (.int 1)) Ae))) Ae))) (Aa (Bl (Aa (Bl (Aa (eC (.int 0)) (Aa (eC (.int 3)) Ae))) (Aa (Bl (Aa (eC (.int 2)) (Aa (eC (.int 3)) Ae))) Ae))) (Aa (Bl (Aa (Bl (Aa (eC (.int 0)) (Aa (eC (.int 1)) Ae))) (Aa (Bl (Aa (eC (.int 0)) (Aa (eC (.int 3)) Ae))) Ae))) (Aa (Bl (Aa (Bl (Aa (eC (.int 2)) (Aa (eC (.int 3)) Ae))) (Aa (Bl (Aa (eC (.int 0)) (Aa (eC (.int 3)) Ae))) Ae))) Ae))))))
  (Bf 6 (eOp Dh (Ab 12) (eSl oSl (Ab 6) Mx (Mw (BW Al (Aa (Ab 0) (Aa (eOp EY (Ab 2) (eC (.int 3))) Ae))))))))
  En)
  (Bj (sIf (Jt (Bh (eOp (oEq false) (Ab 1) (eC (.int 2)))) (Bh (eOp (oEq false) (Ab 11) (eC (.int 3)))))
  (Bf 6 (Hj LR))
  En)
  (Bj (sIf (Jt (Bh (eOp oGt (Ab 11) (eC (.int 5)))) (Bh (eOp oGt (Ab 3) (eC (.int 8)))))
  (Bf 6 (RD G8 (Aa (Ab 0) (Aa (Ab 1) (Aa (Ab 4) Ae)))))
  En)
  (Cu (Ab 6)))))))))))
noncomputable def Gg:JN:=runM 4 13 TF
noncomputable def Lf:Ay :=
 (JM (Ga Gd (Ab 4) (Aa (eCB Uk (Aa (eOp Dh (eOp Dh (eOp oIx (Ab 4) (eUn MK (eC (.int 1)))) (eC (.int 1))) (BW Al (Aa (Ab 0) (Aa (Ab 2) Ae)))) (Aa (eOp Dh (eOp EY (eOp EY (eOp Fi (eC (.int 10)) (eC (.int 9))) (eC (.int 200))) (Ab 1)) (Ab 5)) Ae))) Ae)))
noncomputable def Oa:Ay :=
 Il (Et (Aa (Ab 1) Ae)) (Pat.sem (.nm 5))
  Lf
noncomputable def TV:Ay :=
 (Bj (Bf 2 (eOp oIx (Bm (Aa (eC (.int 1)) (Aa (eC (.int 3)) (Aa (eOp oDiv (eOp Fi (eC (.int 10)) (eC (.int 9))) (Ab 1)) Ae)))) (BW Al (Aa (Ab 0) (Aa (eC (.int 3)) Ae)))))
  (Bj (Bf 3 (eOp oIx (Bm (Aa (eC (.int 0)) (Aa (eOp EY (eC (.int 0)) (BW Al (Aa (Ab 0) (Aa (eC (.int 10)) Ae)))) (Aa (eOp EY (eC (.int 0)) (eOp Fi (eC (.int 10)) (eC (.int 9)))) Ae)))) (BW Al (Aa (Ab 0) (Aa (eC (.int 3)) Ae)))))
  (Bj (Bf 4 (Hj (Aa (Ab 3) Ae)))
  (Bj Oa
  (Bj (sIf (Bh (eOp (oEq false) (BW Al (Aa (Ab 0) (Aa (eC (.int 3)) Ae))) (eC (.int 0))))
  (Iu (eOp Fi (eC (.int 10)) (eC (.int 9))) (Ab 4) (eUn MK (eC (.int 1))))
  En)
  (Bj (sIf (Bh (eOp (oEq false) (BW Al (Aa (Ab 0) (Aa (eC (.int 6)) Ae))) (eC (.int 0))))
  (Iu (eOp EY (eC (.int 0)) (eOp Fi (eC (.int 10)) (eC (.int 9)))) (Ab 4) (eC (.int 0)))
  En)
  (Cu (Ab 4))))))))
noncomputable def Gh:JN:=runM 2 6 TV
noncomputable def Ly:Bb :=
 Cj 1 [0,3] (Et (Aa (Ab 1) Ae)) (Pat.sem (.nm 0)) Fz (BW Gh (Aa (Ab 1) (Aa (Ab 2) Ae)))
noncomputable def Ph:Bb :=
 Cj 3 [] (Oi (Aa (Ab 5) (Aa (Ab 7) Ae))) (Pat.sem (.tp [(.nm 0),(.tp [(.nm 1),(.nm 2)])])) Fz (Bl (Aa (eOp oIx (Ab 0) (Ab 1)) (Aa (eOp oIx (Ab 0) (Ab 2)) Ae)))
noncomputable def Pj:Ay :=
 (JM (Ga Gd (Ab 6) (Aa (eCB Tp (Aa (Bm Ph) Ae)) Ae)))
noncomputable def Pg:Ay :=
 Il (Dc (Ab 4)) (Pat.sem (.nm 7))
  Pj
noncomputable def V9:Ay :=
 (Bj (Bf 3 (eOp oIx (Bm (Aa (eC (.int 8)) (Aa (eOp oIx (Bm (Aa (eC (.int 0)) (Aa (eC (.int 40)) (Aa (eC (.int 20)) (Aa (eC (.int 12)) Ae))))) (Ab 1)) Ae))) (eCB PK (Aa (eOp (oEq false) (BW Al (Aa (Ab 0) (Aa (eC (.int 3)) Ae))) (eC (.int 0))) Ae))))
  (Bj (Bf 4 (BW Gg (Aa (Ab 0) (Aa (Ab 1) (Aa (Ab 2) (Aa (Ab 3) Ae))))))
  (Bj (Bf 5 (Bm Ly))
  (Bj (Bf 6 (Hj Ae))
  (Bj Pg
  (Cu (Bl (Aa (Ab 4) (Aa (Ab 5) (Aa (Bl (Aa (Ab 1) (Aa (Ab 6) Ae))) Ae))))))))))
noncomputable def GK:JN:=runM 3 8 V9
noncomputable def Wn:Ay :=
 (Cu (Bl (Aa (eOp oIx (Ab 0) (eC (.int 0))) (Aa (Xl nList (Aa (eOp oIx (Ab 0) (eC (.int 1))) Ae)) Ae))))
noncomputable def Hq:Cm:=FN 1 1 Wn
noncomputable def Mh:Bb :=
 Cj 1 [4] (Et (Aa (eOp EY (eCB Dt (Aa (Ab 2) Ae)) (eC (.int 1))) Ae)) (Pat.sem (.nm 0)) Fz (eOp Dh (Ab 1) (Bl (Aa (Ab 0) Ae)))
noncomputable def Mj:Ay :=
 (JM (Ga SQ (Ab 3) (Aa (Bm Mh) Ae)))
noncomputable def KC:Ay :=
 Il (Dc (Ab 1)) (Pat.sem (.nm 4))
  Mj
noncomputable def Mi:Ay :=
 (Bj (Bf 3 (Hj Ae))
  (Bj KC
  (Bf 1 (Ab 3))))
noncomputable def Mg:Ay :=
 Il (Dc (Ab 0)) (Pat.sem (.nm 2))
  Mi
noncomputable def Rv:Ay :=
 (Bj (Bf 1 (Bm (Aa (Bl Ae) Ae)))
  (Bj Mg
  (Cu (Ab 1))))
noncomputable def Fg:Cm:=FN 1 5 Rv
noncomputable def Lx:Bb :=
 Cj 3 [] (Oi (Aa (Ab 4) (Aa (Ab 1) Ae))) (Pat.sem (.tp [(.tp [(.nm 1),(.nm 2)]),(.nm 0)])) (tOr (Bh (eOp oLt (Ab 0) (Ab 1))) (Bh (eOp oGe (Ab 0) (Ab 2)))) (eC (.int 1))
noncomputable def Pb:Ay :=
 (sIf (Bh (eOp (oEq false) (Bm Lx) (Bm Ae)))
  (JM (Ga Gd (Ab 2) (Aa (Ab 3) Ae)))
  En)
noncomputable def Pa:Ay :=
 Il (YB (Aa (Ab 0) Ae)) (Pat.sem (.tp [(.nm 3),(.nm 4)]))
  Pb
noncomputable def V8:Ay :=
 (Bj (Bf 2 (Hj Ae))
  (Bj Pa
  (Cu (Ab 2))))
noncomputable def GJ:Cm:=FN 2 5 V8
noncomputable def PX:Ay :=
 (Bf 2 (eOp Gp (Ab 2) (eOp EY (eOp oIx (Ab 3) (eOp Dh (Ab 4) (eC (.int 1)))) (eOp oIx (Ab 3) (Ab 4)))))
noncomputable def PN:Ay :=
 Il (Oi (Aa (Ab 0) (Aa (Ab 1) Ae))) (Pat.sem (.tp [(.nm 3),(.nm 4)]))
  PX
noncomputable def V7:Ay :=
 (Bj (Bf 2 (eC (.int 1)))
  (Bj PN
  (Cu (Ab 2))))
noncomputable def HJ:Cm:=FN 2 5 V7
noncomputable def Le:Ay :=
 (Bj (Bf 5 (eCB Dt (Aa (BJ GJ (Aa (Ab 0) (Aa (Ab 4) Ae))) Ae)))
  (sIf (Bh (eOp oGt (Ab 5) (eC (.int 0))))
  (Iu (eOp Dh (eOp oIx (Ab 3) (eOp EY (Ab 5) (eC (.int 1)))) (BJ HJ (Aa (Ab 1) (Aa (Ab 4) Ae)))) (Ab 3) (eOp EY (Ab 5) (eC (.int 1))))
  En))
noncomputable def OJ:Ay :=
 Il (Dc (BJ Fg (Aa (Ab 1) Ae))) (Pat.sem (.nm 4))
  Le
noncomputable def Ld:Ay :=
 (JM (Ga j8 (Ab 3) Ae))
noncomputable def Rp:Ay :=
 Ky (Jt (Bh (eOp (oEq true) (Ab 3) (Bm Ae))) (Bh (eOp (oEq false) (eOp oIx (Ab 3) (eUn MK (eC (.int 1)))) (eC (.int 0))))) Ld 100000
noncomputable def TJ:Ay :=
 (Bj (Bf 3 (QT (Bm (Aa (eC (.int 0)) Ae)) (eCB Dt (Aa (Ab 0) Ae))))
  (Bj OJ
  (Bj Rp
  (Cu (Ab 3)))))
noncomputable def Fy:Cm:=FN 3 6 TJ
noncomputable def QG:Ay :=
 (Cu (QK (eCB Hl (Aa (Ab 0) (Aa (eC (.ty "int")) Ae))) (QK (bZ (eCB Hl (Aa (Ab 0) (Aa (eC (.ty "bool")) Ae)))) (eOp (oEq false) (Ab 0) (Ab 1)))))
noncomputable def Ek:Cm:=FN 2 2 QG
noncomputable def Hv:Bb :=
 Cj 1 [] (Dc (Ab 0)) (Pat.sem (.nm 0)) (tOr (Bh (eCB Hl (Aa (Ab 0) (Aa (eC (.ty "bool")) Ae)))) (Hx (Bh (eCB Hl (Aa (Ab 0) (Aa (eC (.ty "int")) Ae)))))) (Ab 0)
noncomputable def Od:Ay :=
 (Bj (sIf (tOr (Hx (Bh (eCB Hl (Aa (Ab 0) (Aa (eC (.ty "list")) Ae))))) (Bh (eOp (oEq true) (Ab 0) (Ab 1))))
  (Cu (eC (.bl false)))
  En)
  (Cu (eOp (oEq false) (Bm Hv) (Bm Ae))))
noncomputable def Dz:Cm:=FN 2 2 Od
noncomputable def Uu:Ay :=
 (Bj (Bf 11 (Nz Ei (Aa (Ab 9) Ae)))
  (Bj (sIf (tOr (Hx (Bh (BJ Dz (Aa (Ab 11) (Aa (Ab 8) Ae))))) (Bh (eOp (oEq true) (Ab 9) (Ab 7))))
  (Cu (eC (.bl false)))
  En)
  (Bj (sIf (Hx (Bh (BJ Ek (Aa (BJ DR (Aa (Ab 9) Ae)) (Aa (eCB Qx (Aa (Ab 8) Ae)) Ae)))))
  (Cu (eC (.bl false)))
  En)
  (JM (Ga Gd (Ab 11) (Aa (eC (.int 0)) Ae))))))
noncomputable def Y7:Ay :=
 Il (Et (Aa (eC (.int 2)) Ae)) (Pat.sem (.nm 10))
  Uu
noncomputable def Ut:Ay :=
 (Bj (bU (BW GK (Aa (Ab 2) (Aa (Ab 3) (Aa (Ab 4) Ae)))) (Pat.sem (.tp [(.nm 5),(.nm 6),(.nm 7)])))
  (Bj (Bf 8 (BJ Fy (Aa (Ab 5) (Aa (Ab 6) (Aa (Ab 3) Ae)))))
  (Bj (Bf 9 (BJ Hq (Aa (Ab 7) Ae)))
  Y7)))
noncomputable def Y6:Ay :=
 Il (Dc (Bl (Aa (Bl (Aa (eC (.int 1)) (Aa (eC (.int 20)) Ae))) (Aa (Bl (Aa (eC (.int 2)) (Aa (eC (.int 10)) Ae))) (Aa (Bl (Aa (eC (.int 3)) (Aa (eC (.int 6)) Ae))) Ae))))) (Pat.sem (.tp [(.nm 3),(.nm 4)]))
  Ut
noncomputable def Us:Ay :=
 (Bj (Bf 2 (Nz Ho (Aa (Ab 1) Ae)))
  Y6)
noncomputable def Y5:Ay :=
 Il (Dc (eOp Dh (eSl oSl (Ab 0) Mx (Mw (eC (.int 4)))) (Bm (Aa (eCB Dt (Aa (Ab 0) Ae)) Ae)))) (Pat.sem (.nm 1))
  Us
noncomputable def nJ:Ay :=
 (Bj Y5
  (Cu (QK (eOp (oEq false) (BJ DR (Aa (Bl (Aa (eC (.int 1)) (Aa (Bm Ae) Ae))) Ae)) (eC (.int 0))) (eOp (oEq false) (BJ Ei (Aa (Bl (Aa (eC (.int 3)) (Aa (Bm (Aa (eOp Gp (Bl (Aa (Bl (Aa (eC (.int 0)) (Aa (eC (.int 2)) Ae))) Ae)) (eC (.int 3))) (Aa (eOp Gp (Bl (Aa (Bl (Aa (eC (.int 1)) (Aa (eC (.int 3)) Ae))) Ae)) (eC (.int 3))) Ae))) Ae))) Ae)) (Bm (Aa (eC (.int 14)) (Aa (eC (.int 1)) Ae)))))))
noncomputable def Vt:Cm:=FN 1 12 nJ
end W17
end
section
namespace W17
open PySem PySem.Spec L2 VS
def top (i : Nat) : Stmt := PySem.Challenge.pw_boxcover_k17_sizes_told.main.body.getD i (.Pass ⟨0, 0, 0, 0⟩)
abbrev Jm:Stmt:=top 5
abbrev Jq:Stmt:=top 6
abbrev Ib:Stmt:=top 7
abbrev Kc:Stmt:=top 8
abbrev JZ:Stmt:=top 9
abbrev JB:Stmt:=top 10
abbrev Jp:Stmt:=top 11
abbrev GQ:Stmt:=top 13
abbrev Hf:Stmt:=top 14
abbrev GR:Stmt:=top 15
abbrev Jo:Stmt:=top 16
abbrev Fx:Stmt:=top 17
abbrev FZ:Stmt:=top 18
abbrev Gy:Stmt:=top 20
abbrev Hg:Stmt:=top 21
abbrev JF:Stmt:=top 23
abbrev Kh:Stmt:=top 24
abbrev Jk:Stmt:=top 25
abbrev G9:Stmt:=top 26
abbrev GP:Stmt:=top 27
abbrev Hr:Stmt:=top 28
abbrev JH:Stmt:=top 29
abbrev Hh:Stmt:=top 30
abbrev Kl:Stmt:=top 31
abbrev HN:Stmt:=top 32
abbrev Io:Stmt:=top 33
abbrev Jl:Stmt:=top 34
abbrev JD:Stmt:=top 35
abbrev Gx:Stmt:=top 36
abbrev Fb:Stmt:=top 37
abbrev Mv:Stmt:=top 38
theorem Zd:Bw ["thing"] ["thing"] (Aj Jm):=⟨rfl,rfl,rfl,by decide +kernel,rfl,by decide +kernel,by decide +kernel⟩
theorem Zf:Bw ["thing"] ["thing"] (Aj Jq):=⟨rfl,rfl,rfl,by decide +kernel,rfl,by decide +kernel,by decide +kernel⟩
theorem XF:Bw ["thing"] ["thing"] (Aj Ib):=⟨rfl,rfl,rfl,by decide +kernel,rfl,by decide +kernel,by decide +kernel⟩
theorem gD:Bw ["ways","thing"] ["ways","thing"] (Aj Kc):=⟨rfl,rfl,rfl,by decide +kernel,rfl,by decide +kernel,by decide +kernel⟩
theorem Qc:Bw ["thing","ways","boxes"] ["thing"] (Aj JZ):=⟨rfl,rfl,rfl,by decide +kernel,rfl,by decide +kernel,by decide +kernel⟩
theorem ZD:Bw ["heap"] ["heap"] (Aj JB):=⟨rfl,rfl,rfl,by decide +kernel,rfl,by decide +kernel,by decide +kernel⟩
theorem K3:Bw ["box","size","low","high"] ["box"] (Aj Jp):=⟨rfl,rfl,rfl,by decide +kernel,rfl,by decide +kernel,by decide +kernel⟩
theorem XH:Bw ["boxes","way"] ["boxes","way"] (Aj GQ):=⟨rfl,rfl,rfl,by decide +kernel,rfl,by decide +kernel,by decide +kernel⟩
theorem QD:Bw ["boxes","way","ends"] ["boxes","way"] (Aj Hf):=⟨rfl,rfl,rfl,by decide +kernel,rfl,by decide +kernel,by decide +kernel⟩
theorem Gi:Bw ["boxes","numbers","way","ways","cells","low","high","there","rest","held_by"] ["boxes","numbers","way","ways"] (Aj GR):=⟨rfl,rfl,rfl,by decide +kernel,rfl,by decide +kernel,by decide +kernel⟩
theorem Ze:Bw ["heap"] ["heap"] (Aj Jo):=⟨rfl,rfl,rfl,by decide +kernel,rfl,by decide +kernel,by decide +kernel⟩
theorem Ud:Bw ["cells"] ["cells"] (Aj Fx):=⟨rfl,rfl,rfl,by decide +kernel,rfl,by decide +kernel,by decide +kernel⟩
theorem Gn:Bw ["cells","sizes","cell","numbers","times"] ["cells"] (Aj FZ):=⟨rfl,rfl,rfl,by decide +kernel,rfl,by decide +kernel,by decide +kernel⟩
theorem Vi:Bw ["heap"] ["heap"] (Aj Gy):=⟨rfl,rfl,rfl,by decide +kernel,rfl,by decide +kernel,by decide +kernel⟩
theorem W5:Bw ["heap"] ["heap"] (Aj Hg):=⟨rfl,rfl,rfl,by decide +kernel,rfl,by decide +kernel,by decide +kernel⟩
theorem O8:Bw ["cell","k","number"] ["cell","k"] (Aj JF):=⟨rfl,rfl,rfl,by decide +kernel,rfl,by decide +kernel,by decide +kernel⟩
theorem cT:Bw ["cell"] ["cell"] (Aj Kh):=⟨rfl,rfl,rfl,by decide +kernel,rfl,by decide +kernel,by decide +kernel⟩
theorem Sx:Bw ["pot","many","told"] ["pot","many"] (Aj Jk):=⟨rfl,rfl,rfl,by decide +kernel,rfl,by decide +kernel,by decide +kernel⟩
theorem Ox:Bw ["pot","things","left"] ["pot","things"] (Aj G9):=⟨rfl,rfl,rfl,by decide +kernel,rfl,by decide +kernel,by decide +kernel⟩
theorem Iz:Bw ["pot","ways","count","sides","way","ends","two"] ["pot","ways","count"] (Aj GP):=⟨rfl,rfl,rfl,by decide +kernel,rfl,by decide +kernel,by decide +kernel⟩
theorem Dq:Bw ["pot","ways","most","many","count","wide","found","k","box","way","low","kind","ring"] ["pot","ways","most","many"] (Aj Hr):=⟨rfl,rfl,rfl,by decide +kernel,rfl,by decide +kernel,by decide +kernel⟩
theorem Je:Bw ["pot","many","step","here","found","k"] ["pot","many"] (Aj JH):=⟨rfl,rfl,rfl,by decide +kernel,rfl,by decide +kernel,by decide +kernel⟩
theorem J9:Bw ["pot","ways","most","many","small","marks","boxes","box"] ["pot","ways","most"] (Aj Hh):=⟨rfl,rfl,rfl,by decide +kernel,rfl,by decide +kernel,by decide +kernel⟩
theorem cU:Bw ["heap"] ["heap"] (Aj Kl):=⟨rfl,rfl,rfl,by decide +kernel,rfl,by decide +kernel,by decide +kernel⟩
theorem HY:Bw ["marks","found","some","longer","spot"] ["marks"] (Aj HN):=⟨rfl,rfl,rfl,by decide +kernel,rfl,by decide +kernel,by decide +kernel⟩
theorem Lw:Bw ["small","spot","found","number","box"] ["small","spot"] (Aj Io):=⟨rfl,rfl,rfl,by decide +kernel,rfl,by decide +kernel,by decide +kernel⟩
theorem K1:Bw ["marks","spot","found","some","one"] ["marks","spot"] (Aj Jl):=⟨rfl,rfl,rfl,by decide +kernel,rfl,by decide +kernel,by decide +kernel⟩
theorem LQ:Bw ["small","marks","ways","found","spot","many"] ["small","marks","ways"] (Aj JD):=⟨rfl,rfl,rfl,by decide +kernel,rfl,by decide +kernel,by decide +kernel⟩
theorem Vh:Bw ["found","due"] ["found","due"] (Aj Gx):=⟨rfl,rfl,rfl,by decide +kernel,rfl,by decide +kernel,by decide +kernel⟩
theorem Sq:Bw ["found","due"] ["found","due"] (Aj Fb):=⟨rfl,rfl,rfl,by decide +kernel,rfl,by decide +kernel,by decide +kernel⟩
theorem Ir:Bw ["script","cell","pot","ways","most","small","marks","heap","due","handed","turn","found"] ["script"] (Aj Mv):=⟨rfl,rfl,rfl,by decide +kernel,rfl,by decide +kernel,by decide +kernel⟩
section
variable{P:Program}{w:World}{K:PySem.W.Frag}{mg:Str->Option Value}{base:Heap}
set_option maxHeartbeats 4000000 in
theorem Zn{f:Addr}{fd:FuncData}(F:Fun K "is_whole" "is_whole" Jm f fd)(B:Blt mg):Cp P w K mg base CX0 1 f fd ["thing"] (spP K Fp 1) :=
 fnP F Zd fun cdv A outer s H E hr =>
  (Aw (CT (Ny (CK HF IV rfl (B.is "isinstance") Ec (Ac (Ad 0) (Ac (Ks (n:="int") rfl (B.is "int") RG) Ag))) (RB (eN (CK HF IV rfl (B.is "isinstance") Ec (Ac (Ad 0) (Ac (Ks (n:="bool") rfl (B.is "bool") W3) Ag))))))))
set_option maxHeartbeats 4000000 in
theorem Zr{f:Addr}{fd:FuncData}(F:Fun K "are_ways" "are_ways" Jq f fd)(B:Blt mg){d_MOST_BOXES:Addr}(M_MOST_BOXES:mg "MOST_BOXES"=some (.ref d_MOST_BOXES))(T_MOST_BOXES:∀h,K.In h->PyProof.Rows.IntTab P w h d_MOST_BOXES Bc.D3)(c_is_whole:CW P w K mg base "is_whole" 1 Fp):Cp P w K mg base CX0 2 f fd ["thing"] (spP K FP 1) :=
 fnP F Zf fun cdv A outer s H E hr =>
  (Aw (CT (Ny (CJ c_is_whole hr (by omega) rfl (Ac (Ad 0) Ag)) (RB (lY T_MOST_BOXES (Ad 0) rfl M_MOST_BOXES)))))
set_option maxHeartbeats 4000000 in
theorem XQ{f:Addr}{fd:FuncData}(F:Fun K "is_stretch" "is_stretch" Ib f fd)(B:Blt mg)(c_is_whole:CW P w K mg base "is_whole" 1 Fp):Cp P w K mg base CX0 2 f fd ["thing"] (spP K Gv 1) :=
 fnP F XF fun cdv A outer s H E hr =>
  (Am (Gq (Jf (Lr (JR (Iv (CK HF IV rfl (B.is "isinstance") Ec (Ac (Ad 0) (Ac (Ks (n:="tuple") rfl (B.is "tuple") Ln) Ag))))) (M7 (Ea (Px hr) Pr (CK Dr Gu rfl (B.is "len") Hz (Ac (Ad 0) Ag)) Ah (Cy _)))))
   (Aw (CT QL))
   Ep)
   (Aw (CT (Ny (CJ c_is_whole hr (by omega) rfl (Ac (Cd Bt Br (Ad 0) Ah (fun _ _=>rfl)) Ag)) (Ny (CJ c_is_whole hr (by omega) rfl (Ac (Cd Bt Br (Ad 0) Ah (fun _ _=>rfl)) Ag)) (RB (Nv cL Xy (Cd Bt Br (Ad 0) Ah (fun _ _=>rfl)) (Cd Bt Br (Ad 0) Ah (fun _ _=>rfl)) (Cy _))))))))
set_option maxHeartbeats 4000000 in
theorem gY{f:Addr}{fd:FuncData}(F:Fun K "is_box" "is_box" Kc f fd)(B:Blt mg)(c_are_ways:CW P w K mg base "are_ways" 2 FP)(c_is_stretch:CW P w K mg base "is_stretch" 2 Gv):Cp P w K mg base CX0 3 f fd ["ways","thing"] (spP K Jj 2) :=
 fnP F gD fun cdv A outer s H E hr =>
  (Am (Gq (Jf (Lr (JR (Iv (CJ c_are_ways hr (by omega) rfl (Ac (Ad 0) Ag)))) (Lr (JR (Iv (CK HF IV rfl (B.is "isinstance") Ec (Ac (Ad 1) (Ac (Ks (n:="tuple") rfl (B.is "tuple") Ln) Ag))))) (M7 (Ea (Px hr) Pr (CK Dr Gu rfl (B.is "len") Hz (Ac (Ad 1) Ag)) (Ad 0) (Cy _))))))
   (Aw (CT QL))
   Ep)
   (Aw (CT (CK (Z4 rfl) aX rfl (B.is "all") fC (Ac (FT rfl (Dy.of (sc:=Aj Kc) (N:=["ways","thing"]) (N2:=["part"]) (k:=1) (caps:=[]) (by decide +kernel)) rfl (Eu (Ad 1)) ⟨fun _ _ _ _ _=>⟨(BX (i:=0) (show List.Nodup (["part"]:List Str) by decide +kernel)),G5,(CJ c_is_stretch hr (by omega) rfl (Ac (Ad 0) Ag))⟩⟩) Ag)))))
set_option maxHeartbeats 4000000 in
theorem d7{f:Addr}{fd:FuncData}(F:Fun K "is_heap" "is_heap" JZ f fd)(B:Blt mg){d_MOST_BOXES:Addr}(M_MOST_BOXES:mg "MOST_BOXES"=some (.ref d_MOST_BOXES))(T_MOST_BOXES:∀h,K.In h->PyProof.Rows.IntTab P w h d_MOST_BOXES Bc.D3)(c_are_ways:CW P w K mg base "are_ways" 2 FP)(c_is_box:CW P w K mg base "is_box" 3 Jj):Cp P w K mg base CX0 4 f fd ["thing"] (spP K J8 1) :=
 fnP F Qc fun cdv A outer s H E hr =>
  (Am (Gq (Jf (Lr (JR (Iv (CK HF IV rfl (B.is "isinstance") Ec (Ac (Ad 0) (Ac (Ks (n:="tuple") rfl (B.is "tuple") Ln) Ag))))) (M7 (Ea (Px hr) Pr (CK Dr Gu rfl (B.is "len") Hz (Ac (Ad 0) Ag)) Ah (Cy _)))))
   (Aw (CT QL))
   Ep)
   (Am (Bx (i:=1) Qc.nd (Cd Bt Br (Ad 0) Ah (fun _ _=>rfl)))
   (Am (Bx (i:=2) Qc.nd (Cd Bt Br (Ad 0) Ah (fun _ _=>rfl)))
   (Am (Gq (Jf (Lr (JR (Iv (CJ c_are_ways hr (by omega) rfl (Ac (Ad 1) Ag)))) (Lr (JR (Iv (CK HF IV rfl (B.is "isinstance") Ec (Ac (Ad 2) (Ac (Ks (n:="list") rfl (B.is "list") QC) Ag))))) (M7 (Ea Rz Pu (CK Dr Gu rfl (B.is "len") Hz (Ac (Ad 2) Ag)) (lX T_MOST_BOXES (Ad 1) rfl M_MOST_BOXES (fun _ _=>rfl)) (Cy _))))))
   (Aw (CT QL))
   Ep)
   (Aw (CT (CK (Z4 rfl) aX rfl (B.is "all") fC (Ac (FT rfl (Dy.of (sc:=Aj JZ) (N:=["thing","ways","boxes"]) (N2:=["box","ways"]) (k:=1) (caps:=[1]) (by decide +kernel)) rfl (Eu (Ad 2)) ⟨fun _ _ _ _ _=>⟨(BX (i:=0) (show List.Nodup (["box","ways"]:List Str) by decide +kernel)),G5,(CJ c_is_box hr (by omega) rfl (Ac (Ad 1) (Ac (Ad 0) Ag)))⟩⟩) Ag))))))))
set_option maxHeartbeats 4000000 in
theorem ZG{f:Addr}{fd:FuncData}(F:Fun K "need_heap" "need_heap" JB f fd)(B:Blt mg)(c_is_heap:CW P w K mg base "is_heap" 4 J8):Cp P w K mg base CX0 5 f fd ["heap"] (spP K Em 1) :=
 fnP F ZD fun cdv A outer s H E hr =>
  (Aw (Gq (JR (Iv (CJ c_is_heap hr (by omega) rfl (Ac (Ad 0) Ag))))
   (Aw lU)
   Ep))
set_option maxHeartbeats 4000000 in
theorem Zq{f:Addr}{fd:FuncData}(F:Fun K "box_size" "box_size" Jp f fd)(B:Blt mg):Cp P w K mg base CX0 1 f fd ["box"] (spP K Fq 1) :=
 fnP F K3 fun cdv A outer s H E hr =>
  (Am (Bx (i:=1) K3.nd Ah)
   (Am (GF rfl (Eu (Ad 0)) (HD rfl (CG (BX (i:=2) K3.nd) (CG (BX (i:=3) K3.nd) G6)))
   (Aw (Bx (i:=1) K3.nd (BL IW IK (Ad 1) (BL Gz G4 (Ad 3) (Ad 2))))) PassesOwn.never)
   (Aw (CT (Ad 1)))))
set_option maxHeartbeats 4000000 in
theorem XR{f:Addr}{fd:FuncData}(F:Fun K "ends_along" "ends_along" GQ f fd)(B:Blt mg):Cp P w K mg base CX0 1 f fd ["boxes","way"] (spP K Gw 2) :=
 fnP F XH fun cdv A outer s H E hr =>
  (Aw (CT (dI rfl (BL Dp Dn (FT rfl (Dy.of (sc:=Aj GQ) (N:=["boxes","way"]) (N2:=["box","way"]) (k:=1) (caps:=[1]) (by decide +kernel)) rfl (Eu (Ad 0)) ⟨fun _ _ _ _ _=>⟨(BX (i:=0) (show List.Nodup (["box","way"]:List Str) by decide +kernel)),G5,(Cd Bt Br (Cd Bt Br (Ad 0) (Ad 1) (fun _ _=>rfl)) Ah (fun _ _=>rfl))⟩⟩) (FT rfl (Dy.of (sc:=Aj GQ) (N:=["boxes","way"]) (N2:=["box","way"]) (k:=1) (caps:=[1]) (by decide +kernel)) rfl (Eu (Ad 0)) ⟨fun _ _ _ _ _=>⟨(BX (i:=0) (show List.Nodup (["box","way"]:List Str) by decide +kernel)),G5,(Cd Bt Br (Cd Bt Br (Ad 0) (Ad 1) (fun _ _=>rfl)) Ah (fun _ _=>rfl))⟩⟩)) rfl (B.is "sorted") rfl (B.is "set"))))
set_option maxHeartbeats 4000000 in
theorem W6{f:Addr}{fd:FuncData}(F:Fun K "steps_along" "steps_along" Hf f fd)(B:Blt mg)(Bz:mg "zip"=none)(c_ends_along:CW P w K mg base "ends_along" 1 Gw):Cp P w K mg base CX0 2 f fd ["boxes","way"] (spP K Fw 2) :=
 fnP F QD fun cdv A outer s H E hr =>
  (Am (Bx (i:=2) QD.nd (CJ c_ends_along hr (by omega) rfl (Ac (Ad 0) (Ac (Ad 1) Ag))))
   (Aw (CT (V2 rfl (Ac (Ad 2) (Ac (U0 Xw Xx (Ad 2) (Vy Ah) Vz) Ag)) rfl (B.is "list") rfl Bz))))
set_option maxHeartbeats 4000000 in
theorem K7{f:Addr}{fd:FuncData}(F:Fun K "cells_from" "cells_from" GR f fd)(B:Blt mg)(c_steps_along:CW P w K mg base "steps_along" 2 Fw){n k:Nat}(hk:2<=k)(c_cells_from:CW P w K mg base "cells_from" k (CP n)):Cp P w K mg base CX0 (k+1) f fd ["boxes","numbers","way","ways"] (spP K (CP (n+1)) 4) :=
 fnP F Gi fun cdv A outer s H E hr =>
  (Am (Gq (Ea (Gk hr) Gj (CK Dr Gu rfl (B.is "len") Hz (Ac (Ad 1) Ag)) Ah (Cy _))
   (Aw (CT (Eh Ag Ax)))
   Ep)
   (Am (Gq (Ea (Gk hr) Gj (Ad 2) (Ad 3) (Cy _))
   (Aw (CT (Eh (Ac (Ca (Ac (Ca Ag Ax) (Ac (Ad 1) Ag)) (Ai (Ai Ax))) Ag) (Ai Ax))))
   Ep)
   (Am (Bx (i:=4) Gi.nd (Kg Ag Ax))
   (Am (GF rfl (Eu (CJ c_steps_along hr (by omega) rfl (Ac (FT rfl (Dy.of (sc:=Aj GR) (N:=["boxes","numbers","way","ways","cells","low","high","there","rest","held_by"]) (N2:=["number","boxes"]) (k:=1) (caps:=[0]) (by decide +kernel)) rfl (Eu (Ad 1)) ⟨fun _ _ _ _ _=>⟨(BX (i:=0) (show List.Nodup (["number","boxes"]:List Str) by decide +kernel)),G5,(Cd Bt Br (Ad 1) (Ad 0) (fun _ _=>rfl))⟩⟩) (Ac (Ad 2) Ag)))) (HD rfl (CG (BX (i:=5) Gi.nd) (CG (BX (i:=6) Gi.nd) G6)))
   (Am (T5 (i:=7) rfl Gi.nd (Dy.of (sc:=Aj GR) (N:=["boxes","numbers","way","ways","cells","low","high","there","rest","held_by"]) (N2:=["number","boxes","way","low"]) (k:=1) (caps:=[0,2,5]) (by decide +kernel)) rfl (Eu (Ad 1)) ⟨fun _ _ _ _ _=>⟨(BX (i:=0) (show List.Nodup (["number","boxes","way","low"]:List Str) by decide +kernel)),(Vx (lQ xK uD cL Xy (Cd Bt Br (Cd Bt Br (Cd Bt Br (Ad 1) (Ad 0) (fun _ _=>rfl)) (Ad 2) (fun _ _=>rfl)) Ah (fun _ _=>rfl)) (Ad 3) (Cd Bt Br (Cd Bt Br (Cd Bt Br (Ad 1) (Ad 0) (fun _ _=>rfl)) (Ad 2) (fun _ _=>rfl)) Ah (fun _ _=>rfl)))),(Ad 0)⟩⟩)
   (Aw (GF rfl (Eu (CJ c_cells_from hr (by omega) rfl (Ac (Ad 0) (Ac (Ad 7) (Ac (BL Dp Dn (Ad 2) Ah) (Ac (Ad 3) Ag)))))) (HD rfl (CG (BX (i:=8) Gi.nd) (CG (BX (i:=9) Gi.nd) G6)))
   (Aw (Iw (J6 PySem.F.plainAttrs_list PySem.F.slot_list_append PySem.F.type_list_append Ig Ie (Ad 4) (Ac (Ca (Ac (BL Dp Dn (Ca (Ac (Ca (Ac (Ad 5) (Ac (Ad 6) Ag)) (Ai (Ai Ax))) Ag) (Ai Ax)) (Ad 8)) (Ac (Ad 9) Ag)) (Ai (Ai Ax))) Ag)))) PassesOwn.never))) PassesOwn.never)
   (Aw (CT (Ad 4)))))))
set_option maxHeartbeats 4000000 in
theorem Zo{f:Addr}{fd:FuncData}(F:Fun K "cells_of" "cells_of" Jo f fd)(B:Blt mg)(c_cells_from:CW P w K mg base "cells_from" 6 (CP 4)):Cp P w K mg base CX0 7 f fd ["heap"] (spP K Eb 1) :=
 fnP F Ze fun cdv A outer s H E hr =>
  (Aw (CT (CJ c_cells_from hr (by omega) rfl (Ac (Cd Bt Br (Ad 0) Ah (fun _ _=>rfl)) (Ac (Rq rfl (Ac (CK Dr Gu rfl (B.is "len") Hz (Ac (Cd Bt Br (Ad 0) Ah (fun _ _=>rfl)) Ag)) Ag) rfl (B.is "list") rfl (B.is "range")) (Ac Ah (Ac (Cd Bt Br (Ad 0) Ah (fun _ _=>rfl)) Ag)))))))
set_option maxHeartbeats 4000000 in
theorem Ue{f:Addr}{fd:FuncData}(F:Fun K "size_together" "size_together" Fx f fd)(B:Blt mg)(Bs:mg "sum"=none)(c_box_size:CW P w K mg base "box_size" 1 Fq):Cp P w K mg base CX0 2 f fd ["cells"] (spP K Ez 1) :=
 fnP F Ud fun cdv A outer s H E hr =>
  (Aw (CT (CK (Wy rfl) aV rfl Bs eZ (Ac (FT rfl (Dy.of (sc:=Aj Fx) (N:=["cells"]) (N2:=["cell","numbers"]) (k:=2) (caps:=[]) (by decide +kernel)) rfl (Eu (Ad 0)) ⟨fun _ _ _ _ _=>⟨(HD rfl (CG (BX (i:=0) (show List.Nodup (["cell","numbers"]:List Str) by decide +kernel)) (CG (BX (i:=1) (show List.Nodup (["cell","numbers"]:List Str) by decide +kernel)) G6))),G5,(CJ c_box_size hr (by omega) rfl (Ac (Ad 0) Ag))⟩⟩) Ag))))
set_option maxHeartbeats 4000000 in
theorem Ss{f:Addr}{fd:FuncData}(F:Fun K "sizes_by_times" "sizes_by_times" FZ f fd)(B:Blt mg)(c_box_size:CW P w K mg base "box_size" 1 Fq):Cp P w K mg base CX0 2 f fd ["cells"] (spP K El 1) :=
 fnP F Gn fun cdv A outer s H E hr =>
  (Am (Bx (i:=1) Gn.nd (bD (Eh (Ac Ah Ag) (Ai Ax)) (qM rfl rfl (B.is "max") (FT rfl (Dy.of (sc:=Aj FZ) (N:=["cells","sizes","cell","numbers","times"]) (N2:=["cell","numbers"]) (k:=2) (caps:=[]) (by decide +kernel)) rfl (Eu (Ad 0)) ⟨fun _ _ _ _ _=>⟨(HD rfl (CG (BX (i:=0) (show List.Nodup (["cell","numbers"]:List Str) by decide +kernel)) (CG (BX (i:=1) (show List.Nodup (["cell","numbers"]:List Str) by decide +kernel)) G6))),G5,(CK Dr Gu rfl (B.is "len") Hz (Ac (Ad 1) Ag))⟩⟩))))
   (Am (GF rfl (Eu (Ad 0)) (HD rfl (CG (BX (i:=2) Gn.nd) (CG (BX (i:=3) Gn.nd) G6)))
   (Am (Bx (i:=4) Gn.nd (CK Dr Gu rfl (B.is "len") Hz (Ac (Ad 3) Ag)))
   (Aw (Kd (BL Dp Dn (Cd Bt Br (Ad 1) (BL Gz G4 (Ad 4) Ah) (fun _ _=>rfl)) (CJ c_box_size hr (by omega) rfl (Ac (Ad 2) Ag))) (Ad 1) (BL Gz G4 (Ad 4) Ah)))) PassesOwn.never)
   (Aw (CT (Ad 1)))))
set_option maxHeartbeats 4000000 in
theorem Vl{f:Addr}{fd:FuncData}(F:Fun K "covered_size" "covered_size" Gy f fd)(B:Blt mg)(c_need_heap:CW P w K mg base "need_heap" 5 Em)(c_size_together:CW P w K mg base "size_together" 2 Ez)(c_cells_of:CW P w K mg base "cells_of" 7 Eb):Cp P w K mg base CX0 8 f fd ["heap"] (spP K DR 1) :=
 fnP F Vi fun cdv A outer s H E hr =>
  (Am (Iw (CJ c_need_heap hr (by omega) rfl (Ac (Ad 0) Ag)))
   (Aw (CT (CJ c_size_together hr (by omega) rfl (Ac (CJ c_cells_of hr (by omega) rfl (Ac (Ad 0) Ag)) Ag)))))
set_option maxHeartbeats 4000000 in
theorem W7{f:Addr}{fd:FuncData}(F:Fun K "sizes_often" "sizes_often" Hg f fd)(B:Blt mg)(c_need_heap:CW P w K mg base "need_heap" 5 Em)(c_sizes_by_times:CW P w K mg base "sizes_by_times" 2 El)(c_cells_of:CW P w K mg base "cells_of" 7 Eb):Cp P w K mg base CX0 8 f fd ["heap"] (spP K Ei 1) :=
 fnP F W5 fun cdv A outer s H E hr =>
  (Am (Iw (CJ c_need_heap hr (by omega) rfl (Ac (Ad 0) Ag)))
   (Aw (CT (CJ c_sizes_by_times hr (by omega) rfl (Ac (CJ c_cells_of hr (by omega) rfl (Ac (Ad 0) Ag)) Ag)))))
set_option maxHeartbeats 4000000 in
theorem ZL{f:Addr}{fd:FuncData}(F:Fun K "_law_mixed" "_law_mixed" JF f fd)(B:Blt mg):Cp P w K mg base CX0 1 f fd ["cell","k"] (spP K HX 2) :=
 fnP F O8 fun cdv A outer s H E hr =>
  (Am (Bx (i:=2) O8.nd (BL Kz Jh (BL IW IK (BL Dp Dn (BL Dp Dn (BL Kz Jh (Ad 0) Ah) (BL IW IK Ah (Ad 1))) Ah) Ah) Ah))
   (Am (Bx (i:=2) O8.nd (BL Kz Jh (BL IW IK (Ad 2) (Ad 2)) Ah))
   (Aw (CT (BL O4 Q6 (BL Kz Jh (BL IW IK (BL Dp Dn (Ad 2) (BL IW IK Ah (BL Dp Dn (Ad 1) Ah))) Ah) Ah) Ah)))))
set_option maxHeartbeats 4000000 in
theorem cj{f:Addr}{fd:FuncData}(F:Fun K "_law_pot" "_law_pot" Kh f fd)(B:Blt mg):Cp P w K mg base CX0 1 f fd ["cell"] (spP K Ho 1) :=
 fnP F cT fun cdv A outer s H E hr =>
  (Aw (CT (Eh (Ac (BL S9 QX (BL Kz Jh (Ad 0) (BL S9 QX (BL S9 QX (BL S9 QX (BL Jy J4 Ah Ah) (BL Jy J4 Ah Ah)) (BL Jy J4 Ah Ah)) (BL Jy J4 Ah Ah))) (M9 X3 aW rfl (B.is "int") RG (Ac (Nv nF dj (Ad 0) (BL Jy J4 Ah Ah) (Cy _)) Ag))) (Ac (Ad 0) (Ac Ah Ag))) (Ai (Ai (Ai Ax))))))
set_option maxHeartbeats 4000000 in
theorem Zi{f:Addr}{fd:FuncData}(F:Fun K "_law_take" "_law_take" Jk f fd)(B:Blt mg)(c_law_mixed:CW P w K mg base "_law_mixed" 1 HX):Cp P w K mg base CX0 2 f fd ["pot","many"] (spM K Al 2) :=
 fnM F Sx fun cdv A outer s H E hr =>
  (Am (Kd (BL Dp Dn (Cd Bt Br (Ad 0) Ah (fun _ _=>rfl)) Ah) (Ad 0) Ah)
   (Am (Gq (Ea Rz Pu (Cd Bt Br (Ad 0) Ah (fun _ _=>rfl)) Ah (Cy _))
   (Am (Bx (i:=2) Sx.nd (BL Kz Jh (Cd Bt Br (Ad 0) Ah (fun _ _=>rfl)) (Ad 1)))
   (Am (Kd (BL O4 Q6 (Cd Bt Br (Ad 0) Ah (fun _ _=>rfl)) (Ad 1)) (Ad 0) Ah)
   (Aw (CT (Ad 2)))))
   Ep)
   (Aw (CT (BL Kz Jh (CJ c_law_mixed hr (by omega) rfl (Ac (Cd Bt Br (Ad 0) Ah (fun _ _=>rfl)) (Ac (Cd Bt Br (Ad 0) Ah (fun _ _=>rfl)) Ag))) (Ad 1))))))
set_option maxHeartbeats 4000000 in
theorem Vj{f:Addr}{fd:FuncData}(F:Fun K "_law_mixed_up" "_law_mixed_up" G9 f fd)(B:Blt mg)(c_law_take:JQ P w K mg base "_law_take" 2 Al):Cp P w K mg base CX0 3 f fd ["pot","things"] (spM K FW 2) :=
 fnM F Ox fun cdv A outer s H E hr =>
  (Am (Bx (i:=2) Ox.nd (qK Ry YX rfl (B.is "list") QC (Ac (Ad 1) Ag)))
   (Aw (CT (FT rfl (Dy.of (sc:=Aj G9) (N:=["pot","things","left"]) (N2:=["thing","left","pot"]) (k:=1) (caps:=[2,0]) (by decide +kernel)) rfl (Eu (Ad 1)) ⟨fun _ _ _ _ _=>⟨(BX (i:=0) (show List.Nodup (["thing","left","pot"]:List Str) by decide +kernel)),G5,(J6 PySem.F.plainAttrs_list PySem.F.slot_list_pop PySem.F.type_list_pop lA jm (Ad 1) (Ac (Dd c_law_take hr (by omega) rfl (Ac (Ad 2) (Ac (CK Dr Gu rfl (B.is "len") Hz (Ac (Ad 1) Ag)) Ag))) Ag))⟩⟩))))
set_option maxHeartbeats 4000000 in
theorem XJ{f:Addr}{fd:FuncData}(F:Fun K "_law_unlike" "_law_unlike" GP f fd)(B:Blt mg)(Bz:mg "zip"=none)(c_law_mixed_up:JQ P w K mg base "_law_mixed_up" 3 FW):Cp P w K mg base CX0 4 f fd ["pot","ways","count"] (spM K G8 3) :=
 fnM F Iz fun cdv A outer s H E hr =>
  (Am (Bx (i:=3) Iz.nd (Kg Ag Ax))
   (Am (GF rfl (Ih rfl (B.is "range") (Ac (Ad 1) Ag)) (BX (i:=4) Iz.nd)
   (Am (Bx (i:=5) Iz.nd (Dd c_law_mixed_up hr (by omega) rfl (Ac (Ad 0) (Ac (Rq rfl (Ac (BL IW IK Ah (Ad 2)) Ag) rfl (B.is "list") rfl (B.is "range")) Ag))))
   (Am (Bx (i:=6) Iz.nd (V2 rfl (Ac (lg (Ad 5)) (Ac (lZ (Ad 5)) Ag)) rfl (B.is "list") rfl Bz))
   (Aw (Iw (J6 PySem.F.plainAttrs_list PySem.F.slot_list_append PySem.F.type_list_append Ig Ie (Ad 3) (Ac (FT rfl (Dy.of (sc:=Aj GP) (N:=["pot","ways","count","sides","way","ends","two"]) (N2:=["one","other"]) (k:=2) (caps:=[]) (by decide +kernel)) rfl (Eu (Ad 6)) ⟨fun _ _ _ _ _=>⟨(HD rfl (CG (BX (i:=0) (show List.Nodup (["one","other"]:List Str) by decide +kernel)) (CG (BX (i:=1) (show List.Nodup (["one","other"]:List Str) by decide +kernel)) G6))),G5,(Ca (Ac (CK (Wz rfl) YW rfl (B.is "min") fB (Ac (Ad 0) (Ac (Ad 1) Ag))) (Ac (CK (iZ rfl) jo rfl (B.is "max") vU (Ac (Ad 0) (Ac (Ad 1) Ag))) Ag)) (Ai (Ai Ax)))⟩⟩) Ag)))))) PassesOwn.never)
   (Aw (CT (FT rfl (Dy.of (sc:=Aj GP) (N:=["pot","ways","count","sides","way","ends","two"]) (N2:=["k","sides"]) (k:=1) (caps:=[3]) (by decide +kernel)) rfl (Ih rfl (B.is "range") (Ac (Ad 2) Ag)) ⟨fun _ _ _ _ _=>⟨(BX (i:=0) (show List.Nodup (["k","sides"]:List Str) by decide +kernel)),G5,(M9 Mt RQ rfl (B.is "tuple") Ln (Ac (FT rfl (Dy.of (N:=["k","sides"]) (N2:=["side","k"]) (k:=1) (caps:=[0]) (by kernel_rfl)) rfl (Eu (Ad 1)) ⟨fun _ _ _ _ _=>⟨(BX (i:=0) (show List.Nodup (["side","k"]:List Str) by decide +kernel)),G5,(Cd Bt Br (Ad 0) (Ad 1) (fun _ _=>rfl))⟩⟩) Ag))⟩⟩)))))
set_option maxHeartbeats 4000000 in
theorem ZJ{f:Addr}{fd:FuncData}(F:Fun K "_law_small" "_law_small" Hr f fd)(B:Blt mg)(c_law_take:JQ P w K mg base "_law_take" 2 Al)(c_law_unlike:JQ P w K mg base "_law_unlike" 4 G8):Cp P w K mg base CX0 5 f fd ["pot","ways","most","many"] (spM K Gg 4) :=
 fnM F Dq fun cdv A outer s H E hr =>
  (Am (Bx (i:=4) Dq.nd (Cd Bt Br (Eh (Ac (Dd c_law_take hr (by omega) rfl (Ac (Ad 0) (Ac (BL Dp Dn (Ad 2) Ah) Ag))) (Ac (Ad 2) (Ac (BL Dp Dn Ah (Dd c_law_take hr (by omega) rfl (Ac (Ad 0) (Ac (Ad 2) Ag)))) Ag))) (Ai (Ai (Ai Ax)))) (Dd c_law_take hr (by omega) rfl (Ac (Ad 0) (Ac Ah Ag))) (fun _ _=>rfl)))
   (Am (Bx (i:=5) Dq.nd (Cd Bt Br (Eh (Ac Ah (Ac Ah (Ac Ah (Ac (Ad 3) Ag)))) (Ai (Ai (Ai (Ai Ax))))) (Dd c_law_take hr (by omega) rfl (Ac (Ad 0) (Ac Ah Ag))) (fun _ _=>rfl)))
   (Am (Bx (i:=6) Dq.nd (Kg Ag Ax))
   (Am (GF rfl (Ih rfl (B.is "range") (Ac (Ad 4) Ag)) (BX (i:=7) Dq.nd)
   (Am (Bx (i:=8) Dq.nd (Kg Ag Ax))
   (Am (GF rfl (Ih rfl (B.is "range") (Ac (Ad 1) Ag)) (BX (i:=9) Dq.nd)
   (Am (Bx (i:=10) Dq.nd (Dd c_law_take hr (by omega) rfl (Ac (Ad 0) (Ac (Ad 5) Ag))))
   (Aw (Iw (J6 PySem.F.plainAttrs_list PySem.F.slot_list_append PySem.F.type_list_append Ig Ie (Ad 8) (Ac (Ca (Ac (Ad 10) (Ac (BL Dp Dn (BL Dp Dn (Ad 10) Ah) (Cd Bt Br (Eh (Ac Ah (Ac (Dd c_law_take hr (by omega) rfl (Ac (Ad 0) (Ac (BL Gz G4 (Ad 5) (Ad 10)) Ag))) Ag)) (Ai (Ai Ax))) (Dd c_law_take hr (by omega) rfl (Ac (Ad 0) (Ac Ah Ag))) (fun _ _=>rfl))) Ag)) (Ai (Ai Ax))) Ag))))) PassesOwn.never)
   (Aw (Iw (J6 PySem.F.plainAttrs_list PySem.F.slot_list_append PySem.F.type_list_append Ig Ie (Ad 6) (Ac (M9 Mt RQ rfl (B.is "tuple") Ln (Ac (Ad 8) Ag)) Ag)))))) PassesOwn.never)
   (Am (Bx (i:=11) Dq.nd (Dd c_law_take hr (by omega) rfl (Ac (Ad 0) (Ac Ah Ag))))
   (Am (Gq (Jf (R9 (Ea (Gk hr) Gj (Ad 11) Ah (Cy _)) (Q9 (Ea Rz Pu (Ad 4) Ah (Cy _)))))
   (Aw (Kd (Cd Bt Br (Ad 6) (Dd c_law_take hr (by omega) rfl (Ac (Ad 0) (Ac (BL Gz G4 (Ad 4) Ah) Ag))) (fun _ _=>rfl)) (Ad 6) (Xg Ul S7 Ah)))
   Ep)
   (Am (Gq (Jf (R9 (Ea (Gk hr) Gj (Ad 1) Ah (Cy _)) (Q9 (Ea (Gk hr) Gj (Ad 11) Ah (Cy _)))))
   (Am (Bx (i:=12) Dq.nd (Eh (Ac (Ca (Ac (Ca (Ac Ah (Ac Ah Ag)) (Ai (Ai Ax))) (Ac (Ca (Ac Ah (Ac Ah Ag)) (Ai (Ai Ax))) Ag)) (Ai (Ai Ax))) (Ac (Ca (Ac (Ca (Ac Ah (Ac Ah Ag)) (Ai (Ai Ax))) (Ac (Ca (Ac Ah (Ac Ah Ag)) (Ai (Ai Ax))) Ag)) (Ai (Ai Ax))) (Ac (Ca (Ac (Ca (Ac Ah (Ac Ah Ag)) (Ai (Ai Ax))) (Ac (Ca (Ac Ah (Ac Ah Ag)) (Ai (Ai Ax))) Ag)) (Ai (Ai Ax))) (Ac (Ca (Ac (Ca (Ac Ah (Ac Ah Ag)) (Ai (Ai Ax))) (Ac (Ca (Ac Ah (Ac Ah Ag)) (Ai (Ai Ax))) Ag)) (Ai (Ai Ax))) Ag)))) (Ai (Ai (Ai (Ai Ax))))))
   (Aw (Bx (i:=6) Dq.nd (BL Dp Dn (Ad 12) (U0 Xw Xx (Ad 6) Vz (Vy (Dd c_law_take hr (by omega) rfl (Ac (Ad 0) (Ac (BL Gz G4 (Ad 2) Ah) Ag)))))))))
   Ep)
   (Am (Gq (Jf (R9 (Ea (Gk hr) Gj (Ad 1) Ah (Cy _)) (Q9 (Ea (Gk hr) Gj (Ad 11) Ah (Cy _)))))
   (Aw (Zv (i:=6) rfl Dq.nd (Dy.of (sc:=Aj Hr) (N:=["pot","ways","most","many","count","wide","found","k","box","way","low","kind","ring"]) (N2:=["k"]) (k:=1) (caps:=[]) (by decide +kernel)) rfl (iC rfl (B.is "range") (Ac Ah (Ac (BL IW IK Ah (Ad 2)) (Ac Ah Ag)))) ⟨fun _ _ _ _ _=>⟨(BX (i:=0) (show List.Nodup (["k"]:List Str) by decide +kernel)),G5,(Ca (Ac (Ca (Ac (BL Kz Jh (Ad 0) Ah) (Ac (BL Dp Dn (BL Kz Jh (Ad 0) Ah) Ah) Ag)) (Ai (Ai Ax))) (Ac (Ca (Ac (BL O4 Q6 (Ad 0) Ah) (Ac (BL Dp Dn (BL O4 Q6 (Ad 0) Ah) Ah) Ag)) (Ai (Ai Ax))) Ag)) (Ai (Ai Ax)))⟩⟩))
   Ep)
   (Am (Gq (Jf (R9 (Ea Rz Pu (Ad 11) Ah (Cy _)) (Q9 (Ea Rz Pu (Ad 3) Ah (Cy _)))))
   (Aw (Bx (i:=6) Dq.nd (lV c_law_unlike hr (by omega) rfl (Ac (Ad 0) (Ac (Ad 1) (Ac (Ad 4) Ag))))))
   Ep)
   (Aw (CT (Ad 6))))))))))))
set_option maxHeartbeats 4000000 in
theorem ZM{f:Addr}{fd:FuncData}(F:Fun K "_law_marks" "_law_marks" JH f fd)(B:Blt mg)(c_law_take:JQ P w K mg base "_law_take" 2 Al):Cp P w K mg base CX0 3 f fd ["pot","many"] (spM K Gh 2) :=
 fnM F Je fun cdv A outer s H E hr =>
  (Am (Bx (i:=2) Je.nd (Cd Bt Br (Eh (Ac Ah (Ac Ah (Ac (BL O4 Q6 (BL Jy J4 Ah Ah) (Ad 1)) Ag))) (Ai (Ai (Ai Ax)))) (Dd c_law_take hr (by omega) rfl (Ac (Ad 0) (Ac Ah Ag))) (fun _ _=>rfl)))
   (Am (Bx (i:=3) Je.nd (Cd Bt Br (Eh (Ac Ah (Ac (BL Gz G4 Ah (Dd c_law_take hr (by omega) rfl (Ac (Ad 0) (Ac Ah Ag)))) (Ac (BL Gz G4 Ah (BL Jy J4 Ah Ah)) Ag))) (Ai (Ai (Ai Ax)))) (Dd c_law_take hr (by omega) rfl (Ac (Ad 0) (Ac Ah Ag))) (fun _ _=>rfl)))
   (Am (Bx (i:=4) Je.nd (Kg (Ac (Ad 3) Ag) (Ai Ax)))
   (Am (GF rfl (Ih rfl (B.is "range") (Ac (Ad 1) Ag)) (BX (i:=5) Je.nd)
   (Aw (Iw (J6 PySem.F.plainAttrs_list PySem.F.slot_list_append PySem.F.type_list_append Ig Ie (Ad 4) (Ac (CK (Wz rfl) YW rfl (B.is "min") fB (Ac (BL Dp Dn (BL Dp Dn (Cd Bt Br (Ad 4) (Xg Ul S7 Ah) (fun _ _=>rfl)) Ah) (Dd c_law_take hr (by omega) rfl (Ac (Ad 0) (Ac (Ad 2) Ag)))) (Ac (BL Dp Dn (BL Gz G4 (BL Gz G4 (BL Jy J4 Ah Ah) Ah) (Ad 1)) (Ad 5)) Ag))) Ag)))) PassesOwn.never)
   (Am (Gq (Ea (Gk hr) Gj (Dd c_law_take hr (by omega) rfl (Ac (Ad 0) (Ac Ah Ag))) Ah (Cy _))
   (Aw (Kd (BL Jy J4 Ah Ah) (Ad 4) (Xg Ul S7 Ah)))
   Ep)
   (Am (Gq (Ea (Gk hr) Gj (Dd c_law_take hr (by omega) rfl (Ac (Ad 0) (Ac Ah Ag))) Ah (Cy _))
   (Aw (Kd (BL Gz G4 Ah (BL Jy J4 Ah Ah)) (Ad 4) Ah))
   Ep)
   (Aw (CT (Ad 4)))))))))
set_option maxHeartbeats 4000000 in
theorem Zm{f:Addr}{fd:FuncData}(F:Fun K "_law_heap" "_law_heap" Hh f fd)(B:Blt mg)(Bz:mg "zip"=none)(c_law_take:JQ P w K mg base "_law_take" 2 Al)(c_law_small:JQ P w K mg base "_law_small" 5 Gg)(c_law_marks:JQ P w K mg base "_law_marks" 3 Gh):Cp P w K mg base CX0 6 f fd ["pot","ways","most"] (spM K GK 3) :=
 fnM F J9 fun cdv A outer s H E hr =>
  (Am (Bx (i:=3) J9.nd (Cd Bt Br (Eh (Ac Ah (Ac (Cd Bt Br (Eh (Ac Ah (Ac Ah (Ac Ah (Ac Ah Ag)))) (Ai (Ai (Ai (Ai Ax))))) (Ad 1) (fun _ _=>rfl)) Ag)) (Ai (Ai Ax))) (M9 X3 aW rfl (B.is "int") RG (Ac (Nv (Gk hr) Gj (Dd c_law_take hr (by omega) rfl (Ac (Ad 0) (Ac Ah Ag))) Ah (Cy _)) Ag)) (fun _ _=>rfl)))
   (Am (Bx (i:=4) J9.nd (Dd c_law_small hr (by omega) rfl (Ac (Ad 0) (Ac (Ad 1) (Ac (Ad 2) (Ac (Ad 3) Ag))))))
   (Am (T5 (i:=5) rfl J9.nd (Dy.of (sc:=Aj Hh) (N:=["pot","ways","most","many","small","marks","boxes","box"]) (N2:=["way","pot","many"]) (k:=1) (caps:=[0,3]) (by decide +kernel)) rfl (Ih rfl (B.is "range") (Ac (Ad 1) Ag)) ⟨fun _ _ _ _ _=>⟨(BX (i:=0) (show List.Nodup (["way","pot","many"]:List Str) by decide +kernel)),G5,(Dd c_law_marks hr (by omega) rfl (Ac (Ad 1) (Ac (Ad 2) Ag)))⟩⟩)
   (Am (Bx (i:=6) J9.nd (Kg Ag Ax))
   (Am (GF rfl (Eu (Ad 4)) (BX (i:=7) J9.nd)
   (Aw (Iw (J6 PySem.F.plainAttrs_list PySem.F.slot_list_append PySem.F.type_list_append Ig Ie (Ad 6) (Ac (M9 Mt RQ rfl (B.is "tuple") Ln (Ac (FT rfl (Dy.of (sc:=Aj Hh) (N:=["pot","ways","most","many","small","marks","boxes","box"]) (N2:=["some","low","high"]) (k:=3) (caps:=[]) (by decide +kernel)) rfl (Y8 rfl Bz (Ac (Ad 5) (Ac (Ad 7) Ag))) ⟨fun _ _ _ _ _=>⟨(HD rfl (CG (BX (i:=0) (show List.Nodup (["some","low","high"]:List Str) by decide +kernel)) (CG (HD rfl (CG (BX (i:=1) (show List.Nodup (["some","low","high"]:List Str) by decide +kernel)) (CG (BX (i:=2) (show List.Nodup (["some","low","high"]:List Str) by decide +kernel)) G6))) G6))),G5,(Ca (Ac (Cd Bt Br (Ad 0) (Ad 1) (fun _ _=>rfl)) (Ac (Cd Bt Br (Ad 0) (Ad 2) (fun _ _=>rfl)) Ag)) (Ai (Ai Ax)))⟩⟩) Ag)) Ag)))) PassesOwn.never)
   (Aw (CT (Ca (Ac (Ad 4) (Ac (Ad 5) (Ac (Ca (Ac (Ad 1) (Ac (Ad 6) Ag)) (Ai (Ai Ax))) Ag))) (Ai (Ai (Ai Ax)))))))))))
set_option maxHeartbeats 4000000 in
theorem cu{f:Addr}{fd:FuncData}(F:Fun K "_law_own" "_law_own" Kl f fd)(B:Blt mg):Cp P w K mg base CX0 1 f fd ["heap"] (spP K Hq 1) :=
 fnP F cU fun cdv A outer s H E hr =>
  (Aw (CT (Ca (Ac (Cd Bt Br (Ad 0) Ah (fun _ _=>rfl)) (Ac (qL Ry YX rfl (B.is "list") QC (Ac (Cd Bt Br (Ad 0) Ah (fun _ _=>rfl)) Ag)) Ag)) (Ai (Ai Ax)))))
set_option maxHeartbeats 4000000 in
theorem XM{f:Addr}{fd:FuncData}(F:Fun K "_law_places" "_law_places" HN f fd)(B:Blt mg):Cp P w K mg base CX0 1 f fd ["marks"] (spP K Fg 1) :=
 fnP F HY fun cdv A outer s H E hr =>
  (Am (Bx (i:=1) HY.nd (Eh (Ac (Ca Ag Ax) Ag) (Ai Ax)))
   (Am (GF rfl (Eu (Ad 0)) (BX (i:=2) HY.nd)
   (Am (Bx (i:=3) HY.nd (Kg Ag Ax))
   (Am (GF rfl (Eu (Ad 1)) (BX (i:=4) HY.nd)
   (Aw (Iw (J6 PySem.F.plainAttrs_list PySem.F.slot_list_extend PySem.F.type_list_extend gb fY (Ad 3) (Ac (FT rfl (Dy.of (sc:=Aj HN) (N:=["marks","found","some","longer","spot"]) (N2:=["k","spot"]) (k:=1) (caps:=[4]) (by decide +kernel)) rfl (Ih rfl (B.is "range") (Ac (BL Gz G4 (CK Dr Gu rfl (B.is "len") Hz (Ac (Ad 2) Ag)) Ah) Ag)) ⟨fun _ _ _ _ _=>⟨(BX (i:=0) (show List.Nodup (["k","spot"]:List Str) by decide +kernel)),G5,(BL Dp Dn (Ad 1) (Ca (Ac (Ad 0) Ag) (Ai Ax)))⟩⟩) Ag)))) PassesOwn.never)
   (Aw (Bx (i:=1) HY.nd (Ad 3))))) PassesOwn.never)
   (Aw (CT (Ad 1)))))
set_option maxHeartbeats 4000000 in
theorem Zk{f:Addr}{fd:FuncData}(F:Fun K "_law_held" "_law_held" Io f fd)(B:Blt mg)(Bz:mg "zip"=none)(Be:mg "enumerate"=none):Cp P w K mg base CX0 1 f fd ["small","spot"] (spP K GJ 2) :=
 fnP F Lw fun cdv A outer s H E hr =>
  (Am (Bx (i:=2) Lw.nd (Kg Ag Ax))
   (Am (GF rfl (qJ rfl Be (Ac (Ad 0) Ag)) (HD rfl (CG (BX (i:=3) Lw.nd) (CG (BX (i:=4) Lw.nd) G6)))
   (Aw (Gq (Ea (Gk hr) Gj (FT rfl (Dy.of (sc:=Aj Io) (N:=["small","spot","found","number","box"]) (N2:=["one","low","high"]) (k:=3) (caps:=[]) (by decide +kernel)) rfl (Y8 rfl Bz (Ac (Ad 4) (Ac (Ad 1) Ag))) ⟨fun _ _ _ _ _=>⟨(HD rfl (CG (HD rfl (CG (BX (i:=1) (show List.Nodup (["one","low","high"]:List Str) by decide +kernel)) (CG (BX (i:=2) (show List.Nodup (["one","low","high"]:List Str) by decide +kernel)) G6))) (CG (BX (i:=0) (show List.Nodup (["one","low","high"]:List Str) by decide +kernel)) G6))),(Vx (Jf (Lr (Ea cL Xy (Ad 0) (Ad 1) (Cy _)) (M7 (Ea nF dj (Ad 0) (Ad 2) (Cy _)))))),Ah⟩⟩) (Eh Ag Ax) (Cy _))
   (Aw (Iw (J6 PySem.F.plainAttrs_list PySem.F.slot_list_append PySem.F.type_list_append Ig Ie (Ad 2) (Ac (Ad 3) Ag))))
   Ep)) PassesOwn.never)
   (Aw (CT (Ad 2)))))
set_option maxHeartbeats 4000000 in
theorem Zj{f:Addr}{fd:FuncData}(F:Fun K "_law_size" "_law_size" Jl f fd)(B:Blt mg)(Bz:mg "zip"=none):Cp P w K mg base CX0 1 f fd ["marks","spot"] (spP K HJ 2) :=
 fnP F K1 fun cdv A outer s H E hr =>
  (Am (Bx (i:=2) K1.nd Ah)
   (Am (GF rfl (Y8 rfl Bz (Ac (Ad 0) (Ac (Ad 1) Ag))) (HD rfl (CG (BX (i:=3) K1.nd) (CG (BX (i:=4) K1.nd) G6)))
   (Aw (Bx (i:=2) K1.nd (BL IW IK (Ad 2) (BL Gz G4 (Cd Bt Br (Ad 3) (BL Dp Dn (Ad 4) Ah) (fun _ _=>rfl)) (Cd Bt Br (Ad 3) (Ad 4) (fun _ _=>rfl)))))) PassesOwn.never)
   (Aw (CT (Ad 2)))))
set_option maxHeartbeats 4000000 in
theorem ZK{f:Addr}{fd:FuncData}(F:Fun K "_law_often" "_law_often" JD f fd)(B:Blt mg)(c_law_places:CW P w K mg base "_law_places" 1 Fg)(c_law_held:CW P w K mg base "_law_held" 1 GJ)(c_law_size:CW P w K mg base "_law_size" 1 HJ):Cp P w K mg base CX0 2 f fd ["small","marks","ways"] (spP K Fy 3) :=
 fnP F LQ fun cdv A outer s H E hr =>
  (Am (Bx (i:=3) LQ.nd (bD (Eh (Ac Ah Ag) (Ai Ax)) (CK Dr Gu rfl (B.is "len") Hz (Ac (Ad 0) Ag))))
   (Am (GF rfl (Eu (CJ c_law_places hr (by omega) rfl (Ac (Ad 1) Ag))) (BX (i:=4) LQ.nd)
   (Am (Bx (i:=5) LQ.nd (CK Dr Gu rfl (B.is "len") Hz (Ac (CJ c_law_held hr (by omega) rfl (Ac (Ad 0) (Ac (Ad 4) Ag))) Ag)))
   (Aw (Gq (Ea Rz Pu (Ad 5) Ah (Cy _))
   (Aw (Kd (BL Dp Dn (Cd Bt Br (Ad 3) (BL Gz G4 (Ad 5) Ah) (fun _ _=>rfl)) (CJ c_law_size hr (by omega) rfl (Ac (Ad 1) (Ac (Ad 4) Ag)))) (Ad 3) (BL Gz G4 (Ad 5) Ah)))
   Ep))) PassesOwn.never)
   (Am (lR 100000 PassesOwn.never (Jf (R9 (Ea (Px hr) Pr (Ad 3) (Eh Ag Ax) (Cy _)) (Q9 (Ea (Gk hr) Gj (Cd Bt Br (Ad 3) (Xg Ul S7 Ah) (fun _ _=>rfl)) Ah (Cy _))))) (Aw (Iw (lW PySem.F.plainAttrs_list PySem.F.slot_list_pop PySem.F.type_list_pop ur u6 (Ad 3)))))
   (Aw (CT (Ad 3))))))
set_option maxHeartbeats 4000000 in
theorem Vk{f:Addr}{fd:FuncData}(F:Fun K "_law_is_whole" "_law_is_whole" Gx f fd)(B:Blt mg):Cp P w K mg base CX0 1 f fd ["found","due"] (spP K Ek 2) :=
 fnP F Vh fun cdv A outer s H E hr =>
  (Aw (CT (Ny (CK HF IV rfl (B.is "isinstance") Ec (Ac (Ad 0) (Ac (Ks (n:="int") rfl (B.is "int") RG) Ag))) (Ny (eN (CK HF IV rfl (B.is "isinstance") Ec (Ac (Ad 0) (Ac (Ks (n:="bool") rfl (B.is "bool") W3) Ag)))) (RB (Nv (Gk hr) Gj (Ad 0) (Ad 1) (Cy _)))))))
set_option maxHeartbeats 4000000 in
theorem Sv{f:Addr}{fd:FuncData}(F:Fun K "_law_are_wholes" "_law_are_wholes" Fb f fd)(B:Blt mg):Cp P w K mg base CX0 1 f fd ["found","due"] (spP K Dz 2) :=
 fnP F Sq fun cdv A outer s H E hr =>
  (Am (Gq (Jf (Lr (JR (Iv (CK HF IV rfl (B.is "isinstance") Ec (Ac (Ad 0) (Ac (Ks (n:="list") rfl (B.is "list") QC) Ag))))) (M7 (Ea (Px hr) Pr (Ad 0) (Ad 1) (Cy _)))))
   (Aw (CT QL))
   Ep)
   (Aw (CT (Nv (Gk hr) Gj (FT rfl (Dy.of (sc:=Aj Fb) (N:=["found","due"]) (N2:=["one"]) (k:=1) (caps:=[]) (by decide +kernel)) rfl (Eu (Ad 0)) ⟨fun _ _ _ _ _=>⟨(BX (i:=0) (show List.Nodup (["one"]:List Str) by decide +kernel)),(Vx (Jf (Lr (Iv (CK HF IV rfl (B.is "isinstance") Ec (Ac (Ad 0) (Ac (Ks (n:="bool") rfl (B.is "bool") W3) Ag)))) (M7 (JR (Iv (CK HF IV rfl (B.is "isinstance") Ec (Ac (Ad 0) (Ac (Ks (n:="int") rfl (B.is "int") RG) Ag))))))))),(Ad 0)⟩⟩) (Eh Ag Ax) (Cy _)))))
set_option maxHeartbeats 4000000 in
theorem uo{f:Addr}{fd:FuncData}(F:Fun K "law" "law" Mv f fd)(B:Blt mg)(Bs:mg "sum"=none)(c_law_pot:CW P w K mg base "_law_pot" 1 Ho)(c_law_heap:JQ P w K mg base "_law_heap" 6 GK)(c_law_often:CW P w K mg base "_law_often" 2 Fy)(c_law_own:CW P w K mg base "_law_own" 1 Hq)(c_sizes_often:CW P w K mg base "sizes_often" 8 Ei)(c_law_are_wholes:CW P w K mg base "_law_are_wholes" 1 Dz)(c_law_is_whole:CW P w K mg base "_law_is_whole" 1 Ek)(c_covered_size:CW P w K mg base "covered_size" 8 DR):Cp P w K mg base CX0 9 f fd ["script"] (spP K Vt 1) :=
 fnP F Ir fun cdv A outer s H E hr =>
  (Am (GF rfl (Eu (BL Dp Dn (U0 Xw Xx (Ad 0) Vz (Vy Ah)) (Eh (Ac (CK Dr Gu rfl (B.is "len") Hz (Ac (Ad 0) Ag)) Ag) (Ai Ax)))) (BX (i:=1) Ir.nd)
   (Am (Bx (i:=2) Ir.nd (Yl c_law_pot hr (by omega) rfl (Ac (Ad 1) Ag)))
   (Aw (GF rfl (Eu (Ca (Ac (Ca (Ac Ah (Ac Ah Ag)) (Ai (Ai Ax))) (Ac (Ca (Ac Ah (Ac Ah Ag)) (Ai (Ai Ax))) (Ac (Ca (Ac Ah (Ac Ah Ag)) (Ai (Ai Ax))) Ag))) (Ai (Ai (Ai Ax))))) (HD rfl (CG (BX (i:=3) Ir.nd) (CG (BX (i:=4) Ir.nd) G6)))
   (Am (vJ (Dd c_law_heap hr (by omega) rfl (Ac (Ad 2) (Ac (Ad 3) (Ac (Ad 4) Ag)))) (HD rfl (CG (BX (i:=5) Ir.nd) (CG (BX (i:=6) Ir.nd) (CG (BX (i:=7) Ir.nd) G6)))))
   (Am (Bx (i:=8) Ir.nd (CJ c_law_often hr (by omega) rfl (Ac (Ad 5) (Ac (Ad 6) (Ac (Ad 3) Ag)))))
   (Am (Bx (i:=9) Ir.nd (CJ c_law_own hr (by omega) rfl (Ac (Ad 7) Ag)))
   (Aw (GF rfl (Ih rfl (B.is "range") (Ac Ah Ag)) (BX (i:=10) Ir.nd)
   (Am (Bx (i:=11) Ir.nd (Yl c_sizes_often hr (by omega) rfl (Ac (Ad 9) Ag)))
   (Am (Gq (Jf (Lr (JR (Iv (CJ c_law_are_wholes hr (by omega) rfl (Ac (Ad 11) (Ac (Ad 8) Ag))))) (M7 (Ea (Px hr) Pr (Ad 9) (Ad 7) (Cy _)))))
   (Aw (CT QL))
   Ep)
   (Am (Gq (JR (Iv (CJ c_law_is_whole hr (by omega) rfl (Ac (CJ c_covered_size hr (by omega) rfl (Ac (Ad 9) Ag)) (Ac (CK (Wy rfl) aV rfl Bs eZ (Ac (Ad 8) Ag)) Ag)))))
   (Aw (CT QL))
   Ep)
   (Aw (Iw (J6 PySem.F.plainAttrs_list PySem.F.slot_list_append PySem.F.type_list_append Ig Ie (Ad 11) (Ac Ah Ag))))))) PassesOwn.never))))) PassesOwn.never))) PassesOwn.never)
   (Aw (CT (Ny (Nv (Gk hr) Gj (CJ c_covered_size hr (by omega) rfl (Ac (Ca (Ac Ah (Ac (Eh Ag Ax) Ag)) (Ai (Ai Ax))) Ag)) Ah (Cy _)) (RB (Nv (Gk hr) Gj (CJ c_sizes_often hr (by omega) rfl (Ac (Ca (Ac Ah (Ac (Eh (Ac (BL IW IK (Ca (Ac (Ca (Ac Ah (Ac Ah Ag)) (Ai (Ai Ax))) Ag) (Ai Ax)) Ah) (Ac (BL IW IK (Ca (Ac (Ca (Ac Ah (Ac Ah Ag)) (Ai (Ai Ax))) Ag) (Ai Ax)) Ah) Ag)) (Ai (Ai Ax))) Ag)) (Ai (Ai Ax))) Ag)) (Eh (Ac Ah (Ac Ah Ag)) (Ai (Ai Ax))) (Cy _)))))))
end
end W17
end
section
namespace W17
open PySem L2 VS
theorem Rt(i:Int):Fp [.int i]=some (.bl true):=by
 simp[Fp,VB,Cq,Ao,CV,BR,Ak,Ew,QB,bH,Dg,den,-List.map_map,-Option.map_bind]
theorem Tf{n:Int}(h:n=1∨n=2∨n=3):FP [.int n]=some (.bl true):=by
 have e:(Spec.lookup (.int n) Bc.D3).isSome=true:=by rw[Bc.xV];exact decide_eq_true h
 simp[FP,VG,Cq,Ao,vP,BR,Ak,QB,Gs,Dg,den,Ck,age,Bg,BZ,Aq,-List.map_map,-Option.map_bind,Rt,Xo,e]
theorem Xa(p:St2):Gv [Ba p]=some (.bl (decide (p.1<p.2))):=by
 have h:DG [] (Ba p)=some (pS p):=fj [] p
 simp only[Ba] at h ⊢
 simp[Gv,Rw,Ji,Cq,Jx,Kf,Ao,CV,BK,BR,Ak,Ew,QB,Ef,Qz,NZ,Gs,oI,Hw,oLt,oEq,oIx,Dt,VS.listOf,CN,Dg,den,Ck,age,Bg,BZ,Aq,-List.map_map,-Option.map_bind,Rt,h,pS]
theorem lu(n:Nat)(b:List St2)(hb:∀p∈b,p.1<p.2)(hl:b.length<=1000):Rb [some (.int n),some (Af b)] []=some (b.map (fun _=>D.bl true),[]):=by
 unfold Rb Cj
 have e:Dc (Ab 1) [some (.int n),some (Af b)] []=some ((b.map Ba,[]),[]):=by simp[Ao,VS.listOf,CN,VS.idOf,Ge,-List.map_map,-Option.map_bind,Af]
 rw[e]
 simp only[Option.bind_some]
 rw[Yz (by simp) (fun _=>.bl true) _ (by simp;omega)]
 .simp[Function.comp_def]
 .intro d hd
  obtain⟨p,hp,rfl⟩:=List.mem_map.mp hd
  refine⟨_,rfl,?_⟩
  have h1:=Xa p
  rw[decide_eq_true (hb p hp)] at h1
  simp[Ao,BR,Ak,HS,Gs,Ck,Bg,Aq,List.replicate_succ,-List.map_map,-Option.map_bind,h1]
theorem Vb{α:Type}(l:List α):Nr.boolsOf (l.map fun _=>D.bl true)=some (l.map fun _=>true):=by
 have:=aC (l.map fun _=>true)
 rw[List.map_map] at this
 exact this
theorem iH{n:Nat}{b:List St2}(hn:n=1∨n=2∨n=3)(hb:∀p∈b,p.1<p.2)(hl:b.length=n):Jj [.int n,Af b]=some (.bl true):=by
 have hw:FP [.int n]=some (.bl true):=Tf (by omega)
 have hc:=lu n b hb (by omega)
 have h:DG [] (Af b)=some (pB b):=fu [] b
 have hlen:Dt [] [Af b]=some (.int n):=by simp[Dt,Af,CN,hl]
 simp[Jj,Yr,Bj,sIf,Cu,En,VS.tOr,VS.Hx,Bh,BJ,eCB,Aa,Ae,Ab,eC,eOp,Bm,FN,den,Ck,age,Bg,BZ,Aq,hw,h,pB,hlen,oEq,hc,Nr,VS.listOf,Vb]
theorem pQ{n:Nat}(h:n=1∨n=2∨n=3):Uq Bc.D3 [] (.int n)=some (.int ([0,20,10,6].getD n 0:Nat)):=by
 rcases h with h|h|h<;>subst h<;>rfl
theorem iG{n:Nat}{m:Bool}{bs:List (List St2)}(g:Good n bs):Qh [some (Av m n bs),some (.int n),some (.lst m (bs.map Af))] []=some (bs.map (fun _=>D.bl true),[]):=by
 have few:=g.few
 unfold Qh Cj
 have e:Dc (Ab 2) [some (Av m n bs),some (.int n),some (.lst m (bs.map Af))] []=some ((bs.map Af,[]),[]):=by simp[Ao,VS.listOf,CN,VS.idOf,Ge,-List.map_map,-Option.map_bind]
 rw[e]
 simp only[Option.bind_some]
 rw[Yz (by simp) (fun _=>.bl true) _ (by simp;omega)]
 .simp[Function.comp_def]
 .intro d hd
  obtain⟨b,hb,rfl⟩:=List.mem_map.mp hd
  refine⟨_,rfl,?_⟩
  have h1:=iH g.ways (fun p hp=>((g.box b hb).2 p hp).1) (g.box b hb).1
  simp[Ao,BR,Ak,HS,Gs,den,Ck,age,Bg,BZ,Aq,List.replicate_succ,-List.map_map,-Option.map_bind,h1]
theorem dN{n:Nat}{m:Bool}{bs:List (List St2)}(g:Good n bs):J8 [Av m n bs]=some (.bl true):=by
 have hw:FP [.int n]=some (.bl true):=Tf (by have:=g.ways;omega)
 have hc:=iG (m:=m) g
 have h:=RT [] m n bs
 have h2:=V0 [] m bs
 have hm:=pQ g.ways
 have hle:¬(([0,20,10,6].getD n 0:Nat):Int)<(bs.length:Int):=by have:=g.most;omega
 unfold Av at h hc ⊢
 simp only[List.getD_eq_getElem?_getD] at hm hle
 simp[J8,Wo,Bj,sIf,Cu,En,Bf,VS.tOr,VS.Hx,Bh,BJ,eCB,Aa,Ae,Ab,eC,eOp,eUn,Bm,FN,den,Ck,age,Bg,BZ,Aq,hw,h,h2,hc,oEq,oIx,oGt,oI,Hw,Dt,VS.CN,VS.listOf,Nr,Vb,hm,hle]
theorem Ro{n:Nat}{m:Bool}{bs:List (List St2)}(g:Good n bs):Em [Av m n bs]=some .non:=by
 have h:=dN (m:=false) g
 simp[Em,T9,Jx,Kf,gF,Ao,BR,Ak,Ef,NZ,Gs,Dg,Ck,Bg,Aq,-List.map_map,-Option.map_bind,h]
end W17
end
section
namespace W17
open PySem L2 VS
theorem Df{sem:Cm}{a:Bb}{env:VS.Env}{S S':Store}{ds es:List D}{r:D}(h:a env S=some (ds,S'))(hp:Aq ds=true)(ha:Bg ds=es)(hr:sem es=some r):BJ sem a env S=some (r,S'):=by
 rw[Gs,h]
 simp only[Option.bind_some,Cz 0 S' hp,ha,hr,hp,Bool.true_or,if_true]
def Lp(b:List St2):Int:=b.foldl (fun z p=>z*(p.2-p.1)) 1
def GZ(bs:List (List St2))(w:Nat):List Int:=bs.map fun b=>(b.getD w (0,0)).1
def Fo(bs:List (List St2))(w:Nat):List Int:=bs.map fun b=>(b.getD w (0,0)).2
theorem col{bs:List (List St2)}{w:Nat}(hw:∀b∈bs,w<b.length)(hl:bs.length<=1000)(S:Store)(e0:VS.Env)(h0:∀d:D,(e0.set 0 (some d))[0]?=some (some d)/\(e0.set 0 (some d))[1]?=some (some (.int w))) :
  G3 [] e0 (Pat.sem (.nm 0)) Fz (eOp oIx (eOp oIx (Ab 0) (Ab 1)) (eC (.int 0))) (bs.map Af) [] S=some ((GZ bs w).map .int,S) /\
  G3 [] e0 (Pat.sem (.nm 0)) Fz (eOp oIx (eOp oIx (Ab 0) (Ab 1)) (eC (.int 1))) (bs.map Af) [] S=some ((Fo bs w).map .int,S):=by
 have key:∀b∈bs,atI (b.map Ba) (w:Int)=some (Ba (b.getD w (0,0))):=fun b hb=>by
  have h:=hw b hb
  refine Nj ?_
  rw[List.getElem?_map,List.getElem?_eq_getElem h]
  simp[h]
 constructor
 .rw[J7 (by simp) Af (fun b=>.int (b.getD w (0,0)).1) bs (by omega)]
  .rw[GZ,List.map_map];rfl
  .intro b hb
   refine⟨_,Cg _ _ _,?_⟩
   have ha:=key b hb
   simp only[Ba] at ha
   simp[Ao,CV,BK,oIx,VS.listOf,CN,-List.map_map,-Option.map_bind,h0,Af,ha]
 .rw[J7 (by simp) Af (fun b=>.int (b.getD w (0,0)).2) bs (by omega)]
  .rw[Fo,List.map_map];rfl
  .intro b hb
   refine⟨_,Cg _ _ _,?_⟩
   have ha:=key b hb
   simp only[Ba] at ha
   simp[Ao,CV,BK,oIx,VS.listOf,CN,-List.map_map,-Option.map_bind,h0,Af,ha]
theorem Uz:∀(b:List St2)(z:Int),b.foldl (fun z p=>z*(p.2-p.1)) z=z*Cv b
 |[],z=>by simp[Cv]
 |p::b,z=>by rw[List.foldl_cons,Uz b,Cv,Int.mul_assoc]
theorem aU(b:List St2):Lp b=Cv b:=by rw[Lp,Uz,Int.one_mul]
theorem Yt{cs:List (List St2)}{w:Nat}(hl:cs.length<=20):(SetP.once (GZ cs w++Fo cs w)).length<64/\(GZ cs w++Fo cs w).length<1000:=by
 have h1:=(SetP.O5 (GZ cs w++Fo cs w)).2.1
 have h2:(GZ cs w++Fo cs w).length=cs.length+cs.length:=by simp[GZ,Fo]
 omega
theorem iM(a b:List Int):intsOf (a.map D.int++b.map D.int)=some (a++b):=by rw[←List.map_append];exact Ip _
theorem qx{m:Bool}{cs:List (List St2)}{w:Nat}(hw:∀b∈cs,w<b.length)(hl:cs.length<=20):Gw [.lst m (cs.map Af),.int w]=some (.lst true ((GX (GZ cs w++Fo cs w)).map .int)):=by
 obtain⟨c1,c2⟩:=col hw (by omega) [] [none,some (.int w)] fun d=>⟨rfl,rfl⟩
 have e:Dc (Ab 0) [some (.lst m (cs.map Af)),some (.int w)] []=some ((cs.map Af,[]),[]):=by simp[Ao,VS.listOf,CN,VS.idOf,Ge,-List.map_map,-Option.map_bind]
 have e1:Mp [some (.lst m (cs.map Af)),some (.int w)] []=some ((GZ cs w).map .int,[]):=by
  unfold Mp Cj
  rw[e]
  exact c1
 have e2:Ml [some (.lst m (cs.map Af)),some (.int w)] []=some ((Fo cs w).map .int,[]):=by
  unfold Ml Cj
  rw[e]
  exact c2
 obtain⟨h1,h2⟩:=Yt (w:=w) hl
 have h3:(GZ cs w).length+(Fo cs w).length<=1000000:=by simp at h2;omega
 have h4:(GZ cs w).length+(Fo cs w).length<1000:=by simpa using h2
 simp[Gw,Rx,Cq,BK,Cr,Zx,Dh,VS.listOf,Dg,den,-List.map_map,-Option.map_bind,e1,e2,iM,h1,h3,h4]
theorem YD:∀a b:List Int,DX (a.map D.int) (b.map D.int)=(a.zip b).map Ba
 |[],_=>by simp[DX]
 |_::_,[]=>by simp[DX]
 |p::a,q::b=>by simp[DX,YD a b,Ba]
theorem fU(E:List Int):DX (E.map D.int) (E.map D.int).tail=(steps E).map Ba:=by
 rw[←List.map_tail,YD];rfl
theorem RM(E:List Int):(steps E).length<=E.length:=by simp[steps]
theorem jX{m:Bool}{cs:List (List St2)}{w:Nat}(hw:∀b∈cs,w<b.length)(hl:cs.length<=20)(hne:cs≠[]):Fw [.lst m (cs.map Af),.int w]=some (.lst true ((steps (GX (GZ cs w++Fo cs w))).map Ba)):=by
 have h0:=qx (m:=false) hw hl
 have hl1:=RP (GZ cs w++Fo cs w)
 obtain⟨_,h2⟩:=Yt (w:=w) hl
 have pos:1<=(GX (GZ cs w++Fo cs w)).length:=by
  cases cs with
  |nil=>exact absurd rfl hne
  |cons b r =>
   have:(b.getD w (0,0)).1∈GX (GZ (b::r) w++Fo (b::r) w):=Oj.mpr (by simp[GZ])
   exact List.length_pos_of_mem this
 generalize GX (GZ cs w++Fo cs w)=E at *
 have c:=mL (xs:=E.map D.int) (a:=1) (by decide) (by simp;omega)
 have z:=fU E
 have hz:(steps E).length<=1000000:=by have:=RM E;omega
 have c':cut (E.map D.int) (some 1) none=(E.map D.int).drop 1:=c
 have hd:∀(k:Nat)(S:Store),Ck k S ((steps E).map Ba)=some ((steps E).map Ba):=fun k S=>Cz k S (Di (Ko _ fun p _=>Jc p))
 simp[Fw,Qm,Ji,Bu,Cq,Ao,CV,BR,Ak,Yh,Yg,eX,Gs,TX,oSl,VS.listOf,CN,Dg,den,Ck,age,Bg,BZ,Aq,List.replicate_succ,-List.map_map,-Option.map_bind,h0,c',z,hz,hd]
def CZ(m:Bool)(ns:List Nat):D:=.lst m (ns.map fun(i:Nat)=>D.int i)
def encC(c:List St2×List Nat):D:=.tup [Af c.1,CZ false c.2]
theorem Om(m:Bool)(ns:List Nat):BZ (CZ m ns)=true:=by
 have:=FQ (ns.map fun(i:Nat)=>(i:Int))
 rw[List.map_map] at this
 rw[CZ,BZ];exact this
theorem Ua(m:Bool)(ns:List Nat):age (CZ m ns)=CZ false ns:=by
 have:=Kp (ns.map fun(i:Nat)=>(i:Int))
 rw[List.map_map] at this
 rw[CZ,age]
 exact congrArg (D.lst false) this
theorem gH(c:List St2×List Nat):BZ (encC c)=true:=by
 rw[encC,BZ,Aq,Aq,Aq,RW,Om];rfl
theorem mV(c:List St2×List Nat):age (encC c)=encC c:=by
 rw[encC,age,Bg,Bg,Bg,Qa (Ii c.1),Ua]
theorem Jr:∀cs:List (List St2×List Nat),Aq (cs.map encC)=true
 |[]=>rfl
 |c::r=>by rw[List.map_cons,Aq,gH,Jr r];rfl
theorem fD{n:Nat}{bs:List (List St2)}(hb:∀b∈bs,b.length=n){i w:Nat}(hi:i<bs.length)(hw:w<n):atI (bs.map Af) (i:Int)=some (Af (bs.getD i []))/\atI ((bs.getD i []).map Ba) (w:Int)=some (Ba (at1 bs i w)):=by
 have h1:bs[i]?=some bs[i]:=List.getElem?_eq_getElem hi
 have h2:bs.getD i []=bs[i]:=by rw[List.getD_eq_getElem?_getD,h1];rfl
 have h3:w<bs[i].length:=by rw[hb _ (List.getElem_mem hi)];exact hw
 refine⟨Nj (by rw[List.getElem?_map,h1,h2];rfl),Nj ?_⟩
 rw[at1,h2,List.getElem?_map,List.getElem?_eq_getElem h3,List.getD_eq_getElem?_getD,List.getElem?_eq_getElem h3]
 rfl
theorem qp(rec:Cm){n:Nat}{m m':Bool}{bs:List (List St2)}(hb:∀b∈bs,b.length=n)(hn:0<n){ns:List Nat}(hi:∀i∈ns,i<bs.length)(hl:ns.length<=20)(r:VS.Env)(S:Store) :
  KH rec (some (.lst m (bs.map Af))::some (CZ m' ns)::r) S=some ((ns.map fun i=>bs.getD i []).map Af,S):=by
 unfold KH Cj
 have e:Dc (Ab 1) (some (.lst m (bs.map Af))::some (CZ m' ns)::r) S=some ((ns.map fun(i:Nat)=>D.int i,[]),S):=by simp[Ao,VS.listOf,CN,VS.idOf,Ge,-List.map_map,-Option.map_bind,CZ]
 rw[e]
 simp only[Option.bind_some]
 rw[J7 (by simp) (fun(i:Nat)=>D.int i) (fun i=>Af (bs.getD i [])) ns (by omega)]
 .rw[List.map_map];rfl
 .intro i hi'
  obtain⟨h1,_⟩:=fD hb (hi i hi') hn
  exact⟨_,Cg _ _ _,by simp[Ao,BK,HS,oIx,VS.listOf,CN,List.replicate_succ,-List.map_map,-Option.map_bind,h1]⟩
theorem qm(rec:Cm){n:Nat}{m m':Bool}{bs:List (List St2)}(hb:∀b∈bs,b.length=n){ns:List Nat}(hi:∀i∈ns,i<bs.length)(hl:ns.length<=20){w:Nat}(hw:w<n)(x:Int)(z3 z4:Option D)(r:VS.Env)(S:Store) :
  KD rec (some (.lst m (bs.map Af))::some (CZ m' ns)::some (.int w)::z3::z4::some (.int x)::r) S=some ((Gf bs w x ns).map (fun(i:Nat)=>D.int i),S):=by
 unfold KD Cj
 have e:Dc (Ab 1) (some (.lst m (bs.map Af))::some (CZ m' ns)::some (.int w)::z3::z4::some (.int x)::r) S=some ((ns.map fun(i:Nat)=>D.int i,[]),S):=by simp[Ao,VS.listOf,CN,VS.idOf,Ge,-List.map_map,-Option.map_bind,CZ]
 rw[e]
 simp only[Option.bind_some]
 rw[Ni (by simp) (fun(i:Nat)=>D.int i) (fun i=>inS (at1 bs i w) x) (fun i=>.int i) _ _ (by simp;omega)]
 .rfl
 .intro i hi'
  obtain⟨h1,h2⟩:=fD hb (hi i hi') hw
  refine⟨_,Cg _ _ _,?_,fun _=>by simp[Ao,HS,List.replicate_succ,-List.map_map,-Option.map_bind]⟩
  simp only[Ba] at h2
  generalize bs.getD i []=B at *
  generalize ((w:Nat):Int)=w' at *
  generalize ((i:Nat):Int)=i' at *
  by_cases g:(at1 bs i w).1<=x<;>simp[Ao,CV,BK,iU,Ef,HS,oI,Hw,oLt,oLe,oIx,VS.listOf,CN,List.replicate_succ,-List.map_map,-Option.map_bind,h1,h2,Af,inS,g]
theorem NQ{bs:List (List St2)}:∀(k w:Nat)(ns:List Nat),ns.length<=20->(Bk bs k w ns).length<=40^k
 |0,w,ns,_=>by rw[Bk];split<;>simp
 |k+1,w,ns,hl=>by
  rw[Bk]
  split
  .simp
  .have h1:(steps (Dv bs w ns)).length<=40:=by
    have:=RM (Dv bs w ns)
    have h2:=RP (ns.map (fun i=>(at1 bs i w).1)++ns.map (fun i=>(at1 bs i w).2))
    rw[List.length_append,List.length_map,List.length_map] at h2
    unfold Dv at this ⊢
    omega
   have h2:∀l:List St2,(l.flatMap fun p=>(Bk bs k (w+1) (Gf bs w p.1 ns)).map fun c=>(p::c.1,c.2)).length<=l.length*40^k:=fun l=>by
    induction l with
    |nil=>simp
    |cons p l ih =>
     rw[List.flatMap_cons,List.length_append,List.length_map,List.length_cons,Nat.add_mul,Nat.one_mul]
     have:=NQ (bs:=bs) k (w+1) (Gf bs w p.1 ns) (Nat.le_trans (List.length_filter_le _ _) hl)
     omega
   have h3:=h2 (steps (Dv bs w ns))
   have h4:=Nat.mul_le_mul_right (40^k) h1
   rw[Nat.pow_succ,Nat.mul_comm]
   omega
end W17
end
section
namespace W17
open PySem L2 VS
theorem Td(b:List St2)(hb:∀p∈b,p.1<p.2/\-1000000000<=p.1/\p.2<=1000000000):Fq [Af b]=some (.int (Lp b)):=by
 have e:Dc (Ab 0) [some (Af b),some (.int 1),none,none] []=some ((b.map Ba,[]),[]):=by simp[Ao,VS.listOf,CN,VS.idOf,Ge,-List.map_map,-Option.map_bind,Af]
 obtain⟨env',S',e2,hS,z2,z3,he⟩:=Ej (w:=[]) (g:=Pat.sem (.tp [(.nm 2),(.nm 3)])) (b:=Pq) (ds:=b.map Ba) (env:=[some (Af b),some (.int 1),none,none]) (S:=[])
  (fun i env S=>S=[]/\∃z2 z3,env=[some (Af b),some (.int (Lp (b.take i))),z2,z3]) ⟨rfl,none,none,by rw[List.take_zero];rfl⟩ (fun i env S _=>by simp) (fun i d env S hd ⟨hS,z2,z3,he⟩=>by
   rw[List.getElem?_map] at hd
   obtain⟨p,hp,rfl⟩:=Option.map_eq_some_iff.mp hd
   subst hS he
   have hm:-18446744073709551616<p.2-p.1/\p.2-p.1<18446744073709551616:=by have:=hb p (List.mem_of_getElem? hp);omega
   refine⟨[some (Af b),some (.int (Lp (b.take i))),some (.int p.1),some (.int p.2)],by simp[Cg,Hy,G7,Fe,-List.map_map,-Option.map_bind,Ba],[some (Af b),some (.int (Lp (b.take i)*(p.2-p.1))),some (.int p.1),some (.int p.2)],[],by simp[Pq,Bu,Ao,BK,oI,Hw,Nq,EY,Gp,VS.listOf,-List.map_map,-Option.map_bind,hm],rfl,some (.int p.1),some (.int p.2),?_⟩
   rw[List.take_succ,hp,Lp,Lp,Option.toList_some,List.foldl_append]
   rfl)
 subst hS he
 have hlen:(b.map Ba).length=b.length:=by simp
 rw[hlen,List.take_length] at e2
 have s1:(Bf 1 (eC (.int 1))) [some (Af b),none,none,none] []=some (.nx,[some (Af b),some (.int 1),none,none],[]):=by simp[Bu,CV,-List.map_map,-Option.map_bind]
 have l1:Pn [some (Af b),some (.int 1),none,none] []=some (.nx,[some (Af b),some (.int (Lp b)),z2,z3],[]):=by
  unfold Pn
  rw[Fd,e]
  exact e2
 unfold Fq
 rw[Dg]
 simp only[List.length_cons,List.length_nil,List.map_cons,List.map_nil,Nat.reduceAdd,Nat.reduceSub,List.replicate_succ,List.replicate_zero,List.cons_append,List.nil_append,if_true]
 unfold VF
 rw[BP s1,BP l1]
 simp[Cq,Ao,den,-List.map_map,-Option.map_bind]
end W17
end
section
namespace W17
open PySem L2 VS
theorem qt(rec:Cm)(e0 e1 e2 e3 z7:Option D)(p:St2)(c:List St2×List Nat)(acc:List D)(hl:acc.length<1000000)(hc:c.1.length<=3) :
  KN rec [e0,e1,e2,e3,some (.ref 0),some (.int p.1),some (.int p.2),z7,some (Af c.1),some (CZ false c.2)] [some acc]=some (.nx,[e0,e1,e2,e3,some (.ref 0),some (.int p.1),some (.int p.2),z7,some (Af c.1),some (CZ false c.2)],[some (acc++[encC (p::c.1,c.2)])]):=by
 have h1:1+c.1.length<=1000000:=by omega
 have h2:c.1.length+1<=1000000:=by omega
 have h3:c.1.length<=999999:=by omega
 simp[KN,HW,Ao,BK,BR,Ak,Ia,Yu,Dh,VS.listOf,Gd,-List.map_map,-Option.map_bind,hl,h1,h2,h3,Af,encC,Ba]
theorem qj(rec:Cm){n w:Nat}{bs:List (List St2)}{there:List Nat}{cs:List (List St2×List Nat)}(hrec:rec [.lst false (bs.map Af),CZ false there,.int ((w:Int)+1),.int n]=some (.lst true (cs.map encC)))(hcs:∀c∈cs,c.1.length<=3)(NS:D)(p:St2)(z8 z9:Option D)(acc:List D)(hl:acc.length+cs.length<=999999) :
  ∃z8' z9',Mr rec [some (.lst false (bs.map Af)),some NS,some (.int w),some (.int n),some (.ref 0),some (.int p.1),some (.int p.2),some (CZ true there),z8,z9] [some acc] =
   some (.nx,[some (.lst false (bs.map Af)),some NS,some (.int w),some (.int n),some (.ref 0),some (.int p.1),some (.int p.2),some (CZ true there),z8',z9'],[some (acc++(cs.map fun c=>(p::c.1,c.2)).map encC)]):=by
 have e:Dc (BJ rec (Aa (Ab 0) (Aa (Ab 7) (Aa (eOp Dh (Ab 2) (eC (.int 1))) (Aa (Ab 3) Ae))))) [some (.lst false (bs.map Af)),some NS,some (.int w),some (.int n),some (.ref 0),some (.int p.1),some (.int p.2),some (CZ true there),z8,z9] [some acc]=some ((cs.map encC,[]),[some acc]):=by
  rw[Ge,Df (ds:=[.lst false (bs.map Af),CZ true there,.int ((w:Int)+1),.int n]) (S':=[some acc]) (by simp[Ao,CV,BK,BR,Ak,Dh,VS.listOf,-List.map_map,-Option.map_bind]) (by simp[Aq,BZ,Om]) (by simp[Bg,age,Ua]) hrec]
  simp[CN,VS.listOf,VS.idOf]
 unfold Mr
 rw[Fd,e]
 obtain⟨env',S',e2,z8',z9',he,hS⟩:=Ej (w:=[]) (g:=Pat.sem (.tp [(.nm 8),(.nm 9)])) (b:=KN rec) (ds:=cs.map encC) (env:=[some (.lst false (bs.map Af)),some NS,some (.int w),some (.int n),some (.ref 0),some (.int p.1),some (.int p.2),some (CZ true there),z8,z9]) (S:=[some acc])
  (fun i env S=>∃z8 z9,env=[some (.lst false (bs.map Af)),some NS,some (.int w),some (.int n),some (.ref 0),some (.int p.1),some (.int p.2),some (CZ true there),z8,z9]/\S=[some (acc++((cs.take i).map fun c=>(p::c.1,c.2)).map encC)])
  ⟨z8,z9,rfl,by simp⟩ (fun i env S _=>by simp) (fun i d env S hd q=>by
   obtain⟨z8,z9,he,hS⟩:=q
   subst he hS
   rw[List.getElem?_map] at hd
   obtain⟨c,hc,rfl⟩:=Option.map_eq_some_iff.mp hd
   have hi:=(List.getElem?_eq_some_iff.mp hc).1
   refine⟨_,by simp[Cg,Hy,G7,Fe,-List.map_map,-Option.map_bind,encC],_,_,qt rec _ _ _ _ _ p c _ (by simp;omega) (hcs c (List.mem_of_getElem? hc)),_,_,rfl,?_⟩
   rw[List.take_succ,hc]
   simp)
 subst he hS
 refine⟨z8',z9',e2.trans ?_⟩
 have:(cs.map encC).length=cs.length:=by simp
 rw[this,List.take_length]
theorem Ww{bs:List (List St2)}:∀(k w:Nat)(ns:List Nat)(c:List St2×List Nat),c∈Bk bs k w ns->c.1.length=k
 |0,w,ns,c,h=>by
  rw[Bk] at h
  split at h
  .simp at h
  .have:c=([],ns):=by simpa using h
   rw[this];rfl
 |k+1,w,ns,c,h=>by
  rw[Bk] at h
  split at h
  .simp at h
  .obtain⟨p,_,h2⟩:=List.mem_flatMap.mp h
   obtain⟨d,h3,rfl⟩:=List.mem_map.mp h2
   rw[List.length_cons,Ww k (w+1) _ d h3]
theorem lF(bs:List (List St2))(w:Nat)(ns:List Nat):GX (GZ (ns.map fun i=>bs.getD i []) w++Fo (ns.map fun i=>bs.getD i []) w)=Dv bs w ns:=by
 unfold GZ Fo Dv at1
 rw[List.map_map,List.map_map];rfl
theorem qg(rec:Cm){n w k:Nat}{bs:List (List St2)}{ns:List Nat}(hb:∀b∈bs,b.length=n)(hi:∀i∈ns,i<bs.length)(hl:ns.length<=20)(hne:ns≠[])(hw:w<n)(hk:k<=2)
  (ih:∀ms:List Nat,(∀i∈ms,i<bs.length)->ms.length<=20->rec [.lst false (bs.map Af),CZ false ms,.int ((w:Int)+1),.int n]=some (.lst true ((Bk bs k (w+1) ms).map encC))) :
  ∃z5 z6 z7 z8 z9,Mq rec [some (.lst false (bs.map Af)),some (CZ false ns),some (.int w),some (.int n),some (.ref 0),none,none,none,none,none] [some []] =
   some (.nx,[some (.lst false (bs.map Af)),some (CZ false ns),some (.int w),some (.int n),some (.ref 0),z5,z6,z7,z8,z9],[some ((Bk bs (k+1) w ns).map encC)]):=by
 have c1:=qp rec (m:=false) (m':=false) hb (by omega) hi hl [some (.int w),some (.int n),some (.ref 0),none,none,none,none,none] [some []]
 have h1:=jX (m:=false) (cs:=ns.map fun i=>bs.getD i []) (w:=w) (fun b hb'=>by
  obtain⟨i,hi',rfl⟩:=List.mem_map.mp hb'
  have h:=hi i hi'
  rw[List.getD_eq_getElem?_getD,List.getElem?_eq_getElem h]
  show w<bs[i].length
  rw[hb _ (List.getElem_mem h)];exact hw) (by rw[List.length_map];exact hl) (by simpa using hne)
 rw[lF] at h1
 have e:Dc (BJ Fw (Aa (Bm (KH rec)) (Aa (Ab 2) Ae))) [some (.lst false (bs.map Af)),some (CZ false ns),some (.int w),some (.int n),some (.ref 0),none,none,none,none,none] [some []]=some (((steps (Dv bs w ns)).map Ba,[]),[some []]):=by
  rw[Ge,Df (ds:=[.lst true ((ns.map fun i=>bs.getD i []).map Af),.int w]) (S':=[some []]) (by simp only[Ak,BR,Cr,Ao,c1,Option.bind_some];rfl) (by rw[Aq,BZ,Zh];rfl) (by rw[Bg,age,dY,Bg,Bg];rfl) h1]
  simp[CN,VS.listOf,VS.idOf]
 have hst:(steps (Dv bs w ns)).length<=40:=by
  have:=RM (Dv bs w ns)
  have h2:=RP (ns.map (fun i=>(at1 bs i w).1)++ns.map (fun i=>(at1 bs i w).2))
  rw[List.length_append,List.length_map,List.length_map] at h2
  unfold Dv at this ⊢
  omega
 have hcl:∀x,(Bk bs k (w+1) (Gf bs w x ns)).length<=1600:=fun x=>by
  have:=NQ (bs:=bs) k (w+1) (Gf bs w x ns) (Nat.le_trans (List.length_filter_le _ _) hl)
  have h2:40^k<=40^2:=Nat.pow_le_pow_right (by decide) hk
  omega
 let f:St2->List (List St2×List Nat):=fun p=>(Bk bs k (w+1) (Gf bs w p.1 ns)).map fun c=>(p::c.1,c.2)
 have hf:∀l:List St2,(l.flatMap f).length<=l.length*1600:=fun l=>by
  induction l with
  |nil=>simp
  |cons p l ih =>
   rw[List.flatMap_cons,List.length_append,List.length_cons,Nat.add_mul,Nat.one_mul]
   have:(f p).length<=1600:=by rw[List.length_map];exact hcl p.1
   omega
 unfold Mq
 rw[Fd,e]
 obtain⟨env',S',e2,z5,z6,z7,z8,z9,he,hS⟩:=Ej (w:=[]) (g:=Pat.sem (.tp [(.nm 5),(.nm 6)])) (b:=KJ rec) (ds:=(steps (Dv bs w ns)).map Ba) (env:=[some (.lst false (bs.map Af)),some (CZ false ns),some (.int w),some (.int n),some (.ref 0),none,none,none,none,none]) (S:=[some []])
  (fun i env S=>∃z5 z6 z7 z8 z9,env=[some (.lst false (bs.map Af)),some (CZ false ns),some (.int w),some (.int n),some (.ref 0),z5,z6,z7,z8,z9]/\S=[some ((((steps (Dv bs w ns)).take i).flatMap f).map encC)])
  ⟨none,none,none,none,none,rfl,by simp⟩ (fun i env S _=>by simp) (fun i d env S hd q=>by
   obtain⟨z5,z6,z7,z8,z9,he,hS⟩:=q
   subst he hS
   rw[List.getElem?_map] at hd
   obtain⟨p,hp,rfl⟩:=Option.map_eq_some_iff.mp hd
   have hi':=(List.getElem?_eq_some_iff.mp hp).1
   have h2:=hf ((steps (Dv bs w ns)).take i)
   rw[List.length_take] at h2
   obtain⟨z8',z9',l1⟩:=qj rec (n:=n) (w:=w) (bs:=bs) (there:=Gf bs w p.1 ns) (cs:=Bk bs k (w+1) (Gf bs w p.1 ns)) (ih _ (fun i hi'=>hi i (List.mem_filter.mp hi').1) (Nat.le_trans (List.length_filter_le _ _) hl)) (fun c hc=>by rw[Ww _ _ _ _ hc];omega) (CZ false ns) p z8 z9 ((((steps (Dv bs w ns)).take i).flatMap f).map encC) (by
    have h3:=hcl p.1
    rw[List.length_map]
    have h4:min i (steps (Dv bs w ns)).length<=40:=by omega
    have h5:=Nat.mul_le_mul_right 1600 h4
    omega)
   have c2:=qm rec (m:=false) (m':=false) hb hi hl hw p.1 (some (.int n)) (some (.ref 0)) [some (.int p.2),z7,z8,z9] [some ((((steps (Dv bs w ns)).take i).flatMap f).map encC)]
   have s1:(Bf 7 (Bm (KD rec))) [some (.lst false (bs.map Af)),some (CZ false ns),some (.int w),some (.int n),some (.ref 0),some (.int p.1),some (.int p.2),z7,z8,z9] [some ((((steps (Dv bs w ns)).take i).flatMap f).map encC)]=some (.nx,[some (.lst false (bs.map Af)),some (CZ false ns),some (.int w),some (.int n),some (.ref 0),some (.int p.1),some (.int p.2),some (CZ true (Gf bs w p.1 ns)),z8,z9],[some ((((steps (Dv bs w ns)).take i).flatMap f).map encC)]):=by
    rw[Bu,Cr,c2];rfl
   refine⟨_,by simp[Cg,Hy,G7,Fe,-List.map_map,-Option.map_bind,Ba];rfl,_,_,(show KJ rec _ _=_ by unfold KJ;rw[BP s1];exact l1),_,_,_,_,_,rfl,?_⟩
   rw[List.take_succ,hp]
   simp[f])
 subst he hS
 refine⟨z5,z6,z7,z8,z9,e2.trans ?_⟩
 have:((steps (Dv bs w ns)).map Ba).length=(steps (Dv bs w ns)).length:=by simp
 rw[this,List.take_length,Bk,if_neg hne]
theorem qe{n:Nat}{bs:List (List St2)}(hb:∀b∈bs,b.length=n)(hn:n<=3):∀(k d w:Nat)(ns:List Nat),w+k=n->(∀i∈ns,i<bs.length)->ns.length<=20->CP (d+k+1) [.lst false (bs.map Af),CZ false ns,.int w,.int n]=some (.lst true ((Bk bs k w ns).map encC)):=by
 have hlen:∀(ns:List Nat)(r:VS.Env)(S:Store),eCB Dt (Aa (Ab 1) Ae) (some (.lst false (bs.map Af))::some (CZ false ns)::r) S=some (.int ns.length,S):=fun ns r S=>by simp[Ao,BR,Ak,Ew,Dt,VS.listOf,CN,-List.map_map,-Option.map_bind,CZ]
 have first:∀(ns:List Nat)(r:VS.Env),ns≠[]->(sIf (Bh (eOp (oEq false) (eCB Dt (Aa (Ab 1) Ae)) (eC (.int 0)))) (Cu (Bm Ae)) En) (some (.lst false (bs.map Af))::some (CZ false ns)::r) []=some (.nx,some (.lst false (bs.map Af))::some (CZ false ns)::r,[]):=fun ns r h=>by
  have h0:¬((ns.length:Int)=0):=by have:=List.length_pos_iff.mpr h;omega
  simp only[Jx,Ef,BK,hlen,Option.bind_some,CV]
  simp[Cq,Kf,BR,Cr,oEq,-List.map_map,-Option.map_bind,h0]
  exact h
 have nil:∀(k w:Nat),CP (k+1) [.lst false (bs.map Af),CZ false [],.int w,.int n]=some (.lst true []):=fun k w=>by
  simp[CP,Lg,Ji,Bu,Cq,Jx,Kf,Ao,CV,BK,BR,Ak,Ew,Ef,Cr,Nh,Ia,oEq,Dt,VS.listOf,CN,Dg,den,Ck,List.replicate_succ,-List.map_map,-Option.map_bind,CZ]
 intro k
 induction k with
 |zero =>
  intro d w ns hw hi hl
  by_cases h:ns=[]
  .subst h
   rw[nil,Bk,if_pos rfl];rfl
  .rw[Bk,if_neg h]
   have hwn:w=n:=by omega
   subst hwn
   have f1:=first ns [some (.int w),some (.int w),none,none,none,none,none,none] h
   unfold CP
   rw[Dg]
   simp only[List.length_cons,List.length_nil,List.map_cons,List.map_nil,Nat.reduceAdd,Nat.reduceSub,List.replicate_succ,List.replicate_zero,List.cons_append,List.nil_append,if_true]
   unfold Lg
   rw[BP f1]
   have hd:=Lk 0 [] (Om false ns)
   simp[Ji,Bu,Cq,Jx,Kf,Ao,BK,BR,Ak,Ef,Cr,Nh,Ia,oEq,den,Ck,-List.map_map,-Option.map_bind,hd,encC,Af]
 |succ k ih =>
  intro d w ns hw hi hl
  by_cases h:ns=[]
  .subst h
   rw[nil,Bk,if_pos rfl];rfl
  .have hwn:¬((w:Int)=(n:Int)):=by omega
   have f1:=first ns [some (.int w),some (.int n),none,none,none,none,none,none] h
   have f2:(sIf (Bh (eOp (oEq false) (Ab 2) (Ab 3))) (Cu (Bm (Aa (Bl (Aa (Bl Ae) (Aa (Ab 1) Ae))) Ae))) En) [some (.lst false (bs.map Af)),some (CZ false ns),some (.int w),some (.int n),none,none,none,none,none,none] []=some (.nx,[some (.lst false (bs.map Af)),some (CZ false ns),some (.int w),some (.int n),none,none,none,none,none,none],[]):=by
    simp[Cq,Jx,Kf,Ao,BK,BR,Ak,Ef,Cr,Ia,oEq,-List.map_map,-Option.map_bind,hwn]
   have f3:(Bf 4 (Hj Ae)) [some (.lst false (bs.map Af)),some (CZ false ns),some (.int w),some (.int n),none,none,none,none,none,none] []=some (.nx,[some (.lst false (bs.map Af)),some (CZ false ns),some (.int w),some (.int n),some (.ref 0),none,none,none,none,none],[some []]):=by
    simp[Bu,BR,Nh,-List.map_map,-Option.map_bind]
   obtain⟨z5,z6,z7,z8,z9,f4⟩:=qg (CP (d+(k+1))) (w:=w) (k:=k) hb hi hl h (by omega) (by omega) fun ms h1 h2=>by
    have:=ih d (w+1) ms (by omega) h1 h2
    rw[show((w+1:Nat):Int)=(w:Int)+1 by omega] at this
    exact this
   rw[CP,Dg]
   simp only[List.length_cons,List.length_nil,List.map_cons,List.map_nil,Nat.reduceAdd,Nat.reduceSub,List.replicate_succ,List.replicate_zero,List.cons_append,List.nil_append,if_true]
   unfold Lg
   rw[BP f1,BP f2,BP f3,BP f4]
   have hd:∀(j:Nat)(S:Store),Ck j S ((Bk bs (k+1) w ns).map encC)=some ((Bk bs (k+1) w ns).map encC):=fun j S=>Cz j S (Jr (Bk bs (k+1) w ns))
   simp[Cq,Ao,den,-List.map_map,-Option.map_bind,hd,Jr]
theorem list_range{a:Bb}{env:VS.Env}{S S':Store}{n:Nat}(h:a env S=some ([.int n],S'))(hn:n<=1000):Hi a env S=some (CZ true (List.range n),S'):=by
 have hr:r62 (n:Int):=by unfold r62;omega
 have up:upD 0 n=(List.range n).map fun(i:Nat)=>D.int i:=by unfold upD;simp
 rw[Qo,h,Option.bind_some]
 show(if r62 (n:Int)/\(n:Int).toNat<=1000 then _ else _)=_
 rw[if_pos ⟨hr,by omega⟩,Int.toNat_natCast,up,CZ]
theorem Z0{n:Nat}{bs:List (List St2)}(g:Good n bs):Eb [Av false n bs]=some (.lst true ((Bk bs n 0 (List.range bs.length)).map encC)):=by
 have n3:=g.n3
 have few:=g.few
 have h:=qe (bs:=bs) (fun b hb=>(g.box b hb).1) n3.2 n (3-n) 0 (List.range bs.length) (by omega) (fun i hi=>List.mem_range.mp hi) (by simpa using few)
 rw[show 3-n+n+1=4 by omega] at h
 have hd:=fun(j:Nat) (S:Store)=>Cz j S (Jr (Bk bs n 0 (List.range bs.length)))
 have t1:(eOp oIx (Ab 0) (eC (.int 1))) [some (Av false n bs)] []=some (.lst false (bs.map Af),[]):=by simp[Ao,CV,BK,oIx,VS.listOf,CN,-List.map_map,-Option.map_bind,Av]
 have t0:(eOp oIx (Ab 0) (eC (.int 0))) [some (Av false n bs)] []=some (.int n,[]):=by simp[Ao,CV,BK,oIx,VS.listOf,CN,-List.map_map,-Option.map_bind,Av]
 have t2:(Aa (eCB Dt (Aa (eOp oIx (Ab 0) (eC (.int 1))) Ae)) Ae) [some (Av false n bs)] []=some ([.int bs.length],[]):=by
  simp only[Ak,BR,Ew,t1,Option.bind_some]
  simp[Dt,CN,VS.listOf]
 have t3:=list_range t2 (by omega)
 have a1:(Aa (eOp oIx (Ab 0) (eC (.int 1))) (Aa (Hi (Aa (eCB Dt (Aa (eOp oIx (Ab 0) (eC (.int 1))) Ae)) Ae)) (Aa (eC (.int 0)) (Aa (eOp oIx (Ab 0) (eC (.int 0))) Ae)))) [some (Av false n bs)] []=some ([.lst false (bs.map Af),CZ true (List.range bs.length),.int 0,.int n],[]):=by
  rw[Ak,t1,Option.bind_some,Ak,t3,Option.bind_some,Ak,CV,Option.bind_some,Ak,t0]
  rfl
 have c:=Df (sem:=CP 4) a1 (by simp[Aq,BZ,Om]) (es:=[.lst false (bs.map Af),CZ false (List.range bs.length),.int 0,.int n]) (by simp[Bg,age,Ua]) h
 unfold Eb
 rw[Dg]
 simp only[List.length_cons,List.length_nil,List.map_cons,List.map_nil,Nat.reduceAdd,Nat.reduceSub,List.replicate_zero,List.cons_append,List.nil_append,if_true]
 unfold VD
 rw[Cq,c]
 show den 0 [] (.lst true _)=_
 rw[den,hd];rfl
end W17
end
section
namespace W17
open PySem L2 VS
theorem lB(c k:Int):∃v,HX [.int c,.int k]=some (.int v):=by
 have hc:∀t:Int,-18446744073709551616<t%2147483647/\t%2147483647<18446744073709551616:=fun t=>by omega
 simp[HX,TQ,Ji,Bu,Cq,Ao,CV,BK,oI,Nq,Tn,Qw,Dh,Gp,oDiv,oMod,VS.listOf,Dg,den,List.replicate_succ,-List.map_map,-Option.map_bind,hc]
theorem FJ(x y z m:Int)(h0:0<m)(h1:m<2^63):∃r x' z',Al [x,y,z] [.int m]=some (.int r,[x',y,z'])/\0<=r/\r<m:=by
 have hm:m<18446744073709551616:=by omega
 by_cases h:0<x
 .simp[Al,Qi,Ji,Bu,Cq,Jx,Kf,Ja,Ao,CV,BK,BR,Ak,Ef,Gs,oI,Hw,Tn,Qw,Dh,oDiv,oMod,oGt,oIx,VS.listOf,CN,Lj,intsOf,den,List.replicate_succ,-List.map_map,-Option.map_bind,h,h0,hm]
  exact⟨Int.emod_nonneg _ (by omega),Int.emod_lt_of_pos _ h0⟩
 .obtain⟨v,hv⟩:=lB y (z+1)
  simp[Al,Qi,Ji,Bu,Cq,Jx,Kf,Ja,Ao,CV,BK,BR,Ak,Ef,Gs,oI,Hw,Tn,Qw,Dh,oDiv,oMod,oGt,oIx,VS.listOf,CN,Lj,intsOf,den,Ck,age,Bg,BZ,Aq,List.replicate_succ,-List.map_map,-Option.map_bind,h,h0,hm,hv]
  exact⟨Int.emod_nonneg _ (by omega),Int.emod_lt_of_pos _ h0⟩
theorem O1{k:Nat}(hk:k<=300):((10:Int)^k).natAbs<2^1024:=by
 rw[Int.natAbs_pow]
 refine Nat.lt_of_le_of_lt (Nat.pow_le_pow_right (by decide) hk) ?_
 decide +kernel
theorem pow10(k:Nat)(hk:k<=1000)(env:VS.Env)(S:Store):eOp Fi (eC (.int 10)) (eC (.int k)) env S=some (.int (10^k),S):=by
 have h:Np 10 (k:Int)=true:=by
  unfold Np
  simp
  omega
 rw[BK,CV,Option.bind_some,CV,Option.bind_some]
 show(if Np 10 (k:Int)=true then some (D.int (10^(k:Int).toNat)) else none).map _=_
 rw[if_pos h,Int.toNat_natCast];rfl
theorem SM{a b:Az}{env:VS.Env}{S S1 S2:Store}{i j:Int}(ha:a env S=some (.int i,S1))(hb:b env S1=some (.int j,S2))(hi:i.natAbs<2^1024)(hj:j.natAbs<2^1024):eOp Mz a b env S=some (.int (i*j),S2):=by
 have h:Xq i j=true:=by
  unfold Xq
  rw[Bool.and_eq_true]
  exact⟨decide_eq_true hi,decide_eq_true hj⟩
 rw[BK,ha,Option.bind_some,hb,Option.bind_some]
 show(if Xq i j=true then some (D.int (i*j)) else none).map _=_
 rw[if_pos h];rfl
theorem uR(c:Int):∃x,Ho [.int c]=some (.lst true [.int x,.int c,.int 0]):=by
 have p:=pow10 50 (by decide) [some (.int c)] []
 have q1:=SM p p (O1 (by decide)) (O1 (by decide))
 rw[←Int.pow_add] at q1
 have q2:=SM q1 p (O1 (by decide)) (O1 (by decide))
 rw[←Int.pow_add] at q2
 have q3:=SM q2 p (O1 (by decide)) (O1 (by decide))
 rw[←Int.pow_add] at q3
 have hp:(0:Int)<10^(50+50+50+50):=Int.pow_pos (by decide)
 have m1:eOp oMod (Ab 0) (eOp Mz (eOp Mz (eOp Mz (eOp Fi (eC (.int 10)) (eC (.int 50))) (eOp Fi (eC (.int 10)) (eC (.int 50)))) (eOp Fi (eC (.int 10)) (eC (.int 50)))) (eOp Fi (eC (.int 10)) (eC (.int 50)))) [some (.int c)] []=some (.int (c%10^(50+50+50+50)),[]):=by
  have v:Ab 0 [some (.int c)] []=some (.int c,[]):=rfl
  have h:Qw c (10^(50+50+50+50))=true:=decide_eq_true hp
  rw[BK,v,Option.bind_some]
  refine(congrArg (fun z=>Option.bind z _) q3).trans ?_
  rw[Option.bind_some]
  show(if Qw c (10^(50+50+50+50))=true then some (D.int (c%10^(50+50+50+50))) else none).map _=_
  rw[if_pos h];rfl
 have hb:(c%10^(50+50+50+50)).natAbs<2^1024 :=
  Nat.lt_trans (Int.natAbs_lt_natAbs_of_nonneg_of_lt (Int.emod_nonneg _ (Int.ne_of_gt hp)) (Int.emod_lt_of_pos _ hp)) (O1 (by decide))
 obtain⟨b,hb1,hb2⟩:∃b:Int,eCB PK (Aa (eOp oGe (Ab 0) (eOp Fi (eC (.int 10)) (eC (.int 18)))) Ae) [some (.int c)] []=some (.int b,[])/\b.natAbs<2^1024:=by
  by_cases h:(1000000000000000000:Int)<=c
  .exact⟨1,by simp[Ao,CV,BK,BR,Ak,Ew,oI,Hw,Np,Fi,oGe,PK,-List.map_map,-Option.map_bind,h],by decide +kernel⟩
  .exact⟨0,by simp[Ao,CV,BK,BR,Ak,Ew,oI,Hw,Np,Fi,oGe,PK,-List.map_map,-Option.map_bind,h],by decide +kernel⟩
 have q4:=SM m1 hb1 hb hb2
 refine⟨c%10^(50+50+50+50)*b,?_⟩
 have v:∀S,Ab 0 [some (.int c)] S=some (.int c,S):=fun _=>rfl
 unfold Ho
 rw[Dg]
 simp only[List.length_cons,List.length_nil,List.map_cons,List.map_nil,Nat.reduceAdd,Nat.reduceSub,List.replicate_zero,List.append_nil,if_true]
 unfold Wm
 rw[Cq,Cr,Ak,q4]
 generalize c%10^(50+50+50+50)*b=x
 simp[Ao,CV,BR,Ak,den,Ck,-List.map_map,-Option.map_bind]
end W17
end
section
namespace W17
open PySem L2 VS
theorem YQ{sem:Cm}{a:Bb}{env:VS.Env}{S S':Store}{d d':D}{cs:List D}(h:BJ sem a env S=some (d,S'))(ht:MJ S'.length d=some (d',cs)):Nz sem a env S=some (d',S'++[some cs]):=by
 rw[iR,h,Option.bind_some]
 show(MJ S'.length d).bind _=_
 rw[ht];rfl
theorem Im{sem:JN}{a:Bb}{env:VS.Env}{S S':Store}{i:Nat}{rest es:List D}{ns ms:List Int}{r:D}(h:a env S=some (.ref i::rest,S'))(hi:S'[i]?=some (some (ns.map D.int)))(hp:Aq rest=true)(ha:Bg rest=es)(hr:sem ns es=some (r,ms)):BW sem a env S=some (r,S'.set i (some (ms.map D.int))):=by
 rw[MF,h]
 simp only[Option.bind_some,hi,Ip,Cz 0 _ hp,ha,hr,hp,Bool.true_or,if_true]
theorem jU{sem:JN}{a:Bb}{env:VS.Env}{S S':Store}{d d':D}{cs:List D}(h:BW sem a env S=some (d,S'))(ht:MJ S'.length d=some (d',cs)):RD sem a env S=some (d',S'++[some cs]):=by
 rw[iT,h,Option.bind_some]
 show(MJ S'.length d).bind _=_
 rw[ht];rfl
theorem iu{sem:Cm}{a:Bb}{env:VS.Env}{S S':Store}{ds es fs:List D}{r:D}(h:a env S=some (ds,S'))(hd:Ck 0 S' ds=some es)(ha:Bg es=fs)(hr:sem fs=some r)(hn:newD r=true):BJ sem a env S=some (r,S'):=by
 rw[Gs,h]
 simp only[Option.bind_some,hd,ha,hr,hn,Bool.or_true,if_true]
theorem J5{g:Store->D->List D->Option (D×Store)}{o:Az}{a:Bb}{env:VS.Env}{S S1 S2 S3:Store}{d r:D}{cs ds:List D}(h:o env S=some (d,S1))(hl:VS.listOf S1 d=some cs)(h2:a env S1=some (ds,S2))(h3:g S2 d ds=some (r,S3)):Ga g o a env S=some (r,S3):=by
 rw[Yu,h,Option.bind_some]
 show(if (VS.listOf S1 d).isSome=true then _ else _)=_
 rw[hl]
 show(a env S1).bind _=_
 rw[h2]
 exact h3
theorem Ti(S:Store)(a:Option (List D))(l:List (Option (List D))):(S++a::l)[S.length]?=some a:=by simp
theorem j6(S:Store)(a c:Option (List D))(l:List (Option (List D))):(S++a::l).set S.length c=S++c::l:=by
 rw[List.set_append_right _ _ (by omega)]
 simp
end W17
end
section
namespace W17
open PySem L2 VS
theorem kE{S:Store}{i:Nat}{l:List D}{r:Int}(h:S[i]?=some (some l))(h0:0<=r)(h1:r<l.length)(h2:r<2^63)(hn:r.toNat<l.length):Nu S (.ref i) [.int r]=some (l[r.toNat],S.set i (some (l.eraseIdx r.toNat))):=by
 have hix:seqIndex? r l.length=some r.toNat:=PySem.StrLaws.seqIndex_nonneg h0 h1
 rw[Nu,h]
 show(if -(2^63)<=r/\r<2^63 then (seqIndex? r l.length).bind _ else _)=_
 rw[if_pos ⟨by omega,h2⟩,hix,Option.bind_some,List.getElem?_eq_getElem hn]
 rfl
theorem WY{α:Type}:∀(l:List α)(i:Nat)(h:i<l.length),(l[i]::l.eraseIdx i).Perm l
 |a::r,0,_=>by simp
 |a::r,i+1,h=>by
  have h':i<r.length:=by simpa using h
  show(r[i]::a::r.eraseIdx i).Perm (a::r)
  exact(List.Perm.swap ..).trans ((WY r i h').cons a)
def toI:D->Option Int
 |.int i=>some i
 |_=>none
theorem aN:∀{es:List D},(∀e∈es,∃n,e=.int n)->(es.filterMap toI).map .int=es
 |[],_=>rfl
 |e::r,h=>by
  obtain⟨n,rfl⟩:=h e List.mem_cons_self
  rw[List.filterMap_cons_some (show toI (.int n)=some n from rfl),List.map_cons,aN fun e he=>h e (List.mem_cons_of_mem _ he)]
theorem iJ{es:List D}{ns:List Int}(hp:es.Perm (ns.map .int)):∃ms:List Int,es=ms.map .int/\ms.Perm ns:=by
 refine⟨es.filterMap toI,(aN fun e he=>?_).symm,?_⟩
 .obtain⟨n,_,q⟩:=List.mem_map.mp (hp.mem_iff.mp he)
  exact⟨n,q.symm⟩
 .have:=hp.filterMap toI
  rw[List.filterMap_map] at this
  have e:(fun n:Int=>toI (.int n))=some:=rfl
  rw[show(toI∘D.int)=some from rfl,List.filterMap_some] at this
  exact this
theorem xP(x y z:Int)(ds:List D)(hl:ds.length<=1000):∃(es:List D)(x' z':Int),Lh [some (.ref 0),some (.lst false ds),some (.ref 1)] [some [.int x,.int y,.int z],some ds]=some (es,[some [.int x',.int y,.int z'],some []])/\es.Perm ds:=by
 have e:Dc (Ab 1) [some (.ref 0),some (.lst false ds),some (.ref 1)] [some [.int x,.int y,.int z],some ds]=some ((ds,[]),[some [.int x,.int y,.int z],some ds]):=by simp[Ao,VS.listOf,CN,VS.idOf,Ge,-List.map_map,-Option.map_bind]
 unfold Lh Cj
 rw[e]
 simp only[Option.bind_some]
 obtain⟨ys,S',e2,left,x',z',hS,hi,hp⟩:=Yy (w:=[]) (e0:=HS 1 [2,0] [some (.ref 0),some (.lst false ds),some (.ref 1)]) (g:=Pat.sem (.nm 0)) (ds:=ds) (S:=[some [.int x,.int y,.int z],some ds])
  (f:=Ga Nu (Ab 1) (Aa (BW Al (Aa (Ab 2) (Aa (eCB Dt (Aa (Ab 1) Ae)) Ae))) Ae))
  (fun i ys S=>∃(left:List D)(x' z':Int),S=[some [.int x',.int y,.int z'],some left]/\ys.length=min i ds.length/\(ys++left).Perm ds)
  ⟨ds,x,z,rfl,by simp,.refl _⟩ (fun i ys S q=>by obtain⟨left,x',z',h1,h2,h3⟩:=q;exact⟨by simp,by omega⟩)
  (fun i d ys S hd q=>by
   obtain⟨left,x',z',h1,h2,h3⟩:=q
   subst h1
   have hi:i<ds.length:=(List.getElem?_eq_some_iff.mp hd).1
   have hlen:=h3.length_eq
   rw[List.length_append] at hlen
   obtain⟨r,x2,z2,e3,r0,r1⟩:=FJ x' y z' left.length (by omega) (by omega)
   have hrn:r.toNat<left.length:=by omega
   have v1:∀a:List D,Ab 1 [some d,some (.ref 1),some (.ref 0)] [some a,some left]=some (.ref 1,[some a,some left]):=fun a=>rfl
   have v2:∀a:List D,Ab 2 [some d,some (.ref 1),some (.ref 0)] [some a,some left]=some (.ref 0,[some a,some left]):=fun a=>rfl
   have hL:eCB Dt (Aa (Ab 1) Ae) [some d,some (.ref 1),some (.ref 0)] [some [.int x',.int y,.int z'],some left]=some (.int left.length,[some [.int x',.int y,.int z'],some left]):=by
    rw[Ew,Ak,v1]
    simp[BR,Dt,CN,VS.listOf]
   have ht:BW Al (Aa (Ab 2) (Aa (eCB Dt (Aa (Ab 1) Ae)) Ae)) [some d,some (.ref 1),some (.ref 0)] [some [.int x',.int y,.int z'],some left]=some (.int r,[some [.int x2,.int y,.int z2],some left]) :=
    Im (ns:=[x',y,z']) (rest:=[.int left.length]) (es:=[.int left.length]) (i:=0) (S':=[some [.int x',.int y,.int z'],some left]) (by rw[Ak,v2];simp[Ak,BR,hL]) rfl (by simp[Aq,BZ]) (by simp[Bg,age]) e3
   have hpop:Ga Nu (Ab 1) (Aa (BW Al (Aa (Ab 2) (Aa (eCB Dt (Aa (Ab 1) Ae)) Ae))) Ae) [some d,some (.ref 1),some (.ref 0)] [some [.int x',.int y,.int z'],some left]=some (left[r.toNat],[some [.int x2,.int y,.int z2],some (left.eraseIdx r.toNat)]) :=
    J5 (v1 _) (cs:=left) rfl (ds:=[.int r]) (S2:=[some [.int x2,.int y,.int z2],some left]) (by rw[Ak,ht];rfl) (kE (i:=1) rfl r0 r1 (by omega) hrn)
   refine⟨[some d,some (.ref 1),some (.ref 0)],left[r.toNat],_,by rw[Cg];rfl,hpop,left.eraseIdx r.toNat,x2,z2,rfl,by simp;omega,?_⟩
   rw[List.append_assoc]
   exact((WY left r.toNat hrn).append_left ys).trans h3)
 subst hS
 have hl:=hp.length_eq
 rw[List.length_append,hi,Nat.min_self] at hl
 have:left=[]:=List.length_eq_zero_iff.mp (by omega)
 subst this
 rw[List.append_nil] at hp
 exact⟨ys,x',z',e2,hp⟩
theorem Zu(x y z:Int)(ns:List Int)(hl:ns.length<=1000):∃(ms:List Int)(x' z':Int),FW [x,y,z] [.lst false (ns.map .int)]=some (.lst true (ms.map .int),[x',y,z'])/\ms.Perm ns:=by
 obtain⟨es,x',z',e,hp⟩:=xP x y z (ns.map .int) (by simpa using hl)
 obtain⟨ms,rfl,hm⟩:=iJ hp
 refine⟨ms,x',z',?_,hm⟩
 simp[FW,QF,Ji,Bu,Cq,Ao,BR,Ak,Cr,mG,nList,VS.listOf,CN,Lj,intsOf,den,List.replicate_succ,-List.map_map,-Option.map_bind,e]
end W17
end
section
namespace W17
open PySem L2 VS
def mn(i j:Int):Int:=if j<i then j else i
def mx(i j:Int):Int:=if j>i then j else i
theorem eV{α β:Type}{f:α->Option β}{g:α->β}:∀{l:List α},(∀a∈l,f a=some (g a))->l.filterMap f=l.map g
 |[],_=>rfl
 |a::r,h=>by rw[List.filterMap_cons_some (h a List.mem_cons_self),List.map_cons,eV fun b hb=>h b (List.mem_cons_of_mem _ hb)]
theorem bG(a:Nat)(ms:List Int)(ha:a<=1):HT.half a (ms.map D.int)=(List.range ((ms.length+1-a)/2)).map fun k=>D.int (ms.getD (a+2*k) 0):=by
 unfold HT.half
 rw[List.length_map]
 refine eV fun k hk=>?_
 have h:=List.mem_range.mp hk
 have h2:a+2*k<ms.length:=by omega
 rw[List.getElem?_map,List.getElem?_eq_getElem h2,List.getD_eq_getElem?_getD,List.getElem?_eq_getElem h2]
 rfl
def M4(ms:List Int)(c:Nat):List St2:=(List.range c).map fun k=>(mn (ms.getD (0+2*k) 0) (ms.getD (1+2*k) 0),mx (ms.getD (0+2*k) 0) (ms.getD (1+2*k) 0))
structure jC(c:Nat)(m:Int)(s:List St2):Prop where
 len:s.length=c
 all:∀p∈s,0<=p.1/\p.1<p.2/\p.2<=m
theorem oG{ms:List Int}{c:Nat}(hp:ms.Perm ((List.range (2*c)).map fun(i:Nat)=>(i:Int))):jC c (2*c-1) (M4 ms c):=by
 have hlen:ms.length=2*c:=by rw[hp.length_eq];simp
 have hn:ms.Nodup:=hp.nodup_iff.mpr (by
  show List.Pairwise (·≠·) _
  rw[List.pairwise_map]
  exact List.nodup_range.imp fun h e=>h (by omega))
 refine⟨by unfold M4;simp,fun p hq=>?_⟩
 obtain⟨k,hk,rfl⟩:=List.mem_map.mp hq
 have h:=List.mem_range.mp hk
 have a0:0+2*k<ms.length:=by omega
 have a1:1+2*k<ms.length:=by omega
 rw[List.getD_eq_getElem?_getD,List.getElem?_eq_getElem a0,List.getD_eq_getElem?_getD,List.getElem?_eq_getElem a1,Option.getD_some,Option.getD_some]
 have ne:ms[0+2*k]≠ms[1+2*k]:=fun e=>by
  have:=(List.getElem_inj hn).mp e
  omega
 have b:∀x∈ms,0<=x/\x<=2*c-1:=fun x hx=>by
  obtain⟨i,hi,rfl⟩:=List.mem_map.mp (hp.mem_iff.mp hx)
  have:=List.mem_range.mp hi
  omega
 have b0:=b _ (List.getElem_mem a0)
 have b1:=b _ (List.getElem_mem a1)
 unfold mn mx
 simp only
 split<;>split<;>omega
theorem tW(n:Nat)(F G:Nat->D):DX ((List.range n).map F) ((List.range n).map G)=(List.range n).map fun k=>D.tup [F k,G k]:=by
 generalize List.range n=l
 induction l with
 |nil=>rfl
 |cons a r ih=>rw[List.map_cons,List.map_cons,DX,ih,List.map_cons]
theorem fL(r:VS.Env)(S:Store)(ms:List Int)(c:Nat)(hc:c<=1000)(h:r[6]?=some (some (.lst true ((List.range c).map fun k=>D.tup [.int (ms.getD (0+2*k) 0),.int (ms.getD (1+2*k) 0)])))):Mf r S=some ((M4 ms c).map Ba,S):=by
 have e:Dc (Ab 6) r S=some (((List.range c).map fun k=>D.tup [.int (ms.getD (0+2*k) 0),.int (ms.getD (1+2*k) 0)],[]),S):=by simp[Ao,VS.listOf,CN,VS.idOf,Ge,-List.map_map,-Option.map_bind,h]
 unfold Mf Cj
 rw[e]
 simp only[Option.bind_some]
 rw[J7 (by simp) (fun k=>D.tup [.int (ms.getD (0+2*k) 0),.int (ms.getD (1+2*k) 0)]) (fun k=>Ba (mn (ms.getD (0+2*k) 0) (ms.getD (1+2*k) 0),mx (ms.getD (0+2*k) 0) (ms.getD (1+2*k) 0))) (List.range c) (by simp;omega)]
 .unfold M4;rw[List.map_map];rfl
 .intro k _
  generalize ms.getD (0+2*k) 0=a
  generalize ms.getD (1+2*k) 0=b
  exact⟨_,by simp[HS,Cg,Hy,G7,Fe,List.replicate_succ,-List.map_map,-Option.map_bind];rfl,by simp[Ao,BR,Ak,Ew,Ia,Xm,Uk,-List.map_map,-Option.map_bind,Ba,mn,mx]⟩
def Ds(ss:List (List St2)):List D:=ss.map fun s=>.lst true (s.map Ba)
theorem range_list{a:Bb}{env:VS.Env}{S S':Store}{j:Int}(n:Nat)(h:a env S=some ([.int j],S'))(hn:j.toNat=n)(h0:-1000000<=j)(h1:j<=1000000)(h2:n<=1000):Hi a env S=some (.lst true (upD 0 n),S'):=by
 rw[Qo,h,Option.bind_some]
 show(if r62 j/\j.toNat<=1000 then some (D.lst true (upD 0 j.toNat),S') else none)=_
 rw[hn,if_pos ⟨WX h0 h1,h2⟩]
theorem fM(x y z:Int)(w c:Nat)(hc:c<=20)(ss:List (List St2))(hs:ss.length<=3)(z5 z6:Option D)(k:D):∃(s:List St2)(x' z':Int)(d5 d6:Option D),jC c (2*c-1) s /\
  K9 [some (.ref 0),some (.int w),some (.int c),some (.ref 1),some k,z5,z6] [some [.int x,.int y,.int z],some (Ds ss)]=some (.nx,[some (.ref 0),some (.int w),some (.int c),some (.ref 1),some k,d5,d6],[some [.int x',.int y,.int z'],some (Ds (ss++[s]))]):=by
 obtain⟨ms,x',z',e1,hp⟩:=Zu x y z ((List.range (2*c)).map fun(i:Nat)=>(i:Int)) (by simp;omega)
 have hlen:ms.length=2*c:=by rw[hp.length_eq];simp
 have hU:upD 0 (2*c)=((List.range (2*c)).map fun(i:Nat)=>(i:Int)).map D.int:=by
  unfold upD
  rw[List.map_map]
  simp only[Int.zero_add];rfl
 have s1:(Bf 5 (BW FW (Aa (Ab 0) (Aa (Hi (Aa (eOp Gp (eC (.int 2)) (Ab 2)) Ae)) Ae)))) [some (.ref 0),some (.int w),some (.int c),some (.ref 1),some k,z5,z6] [some [.int x,.int y,.int z],some (Ds ss)]=some (.nx,[some (.ref 0),some (.int w),some (.int c),some (.ref 1),some k,some (.lst true (ms.map .int)),z6],[some [.int x',.int y,.int z'],some (Ds ss)]):=by
  have l1:=range_list (a:=Aa (eOp Gp (eC (.int 2)) (Ab 2)) Ae) (env:=[some (.ref 0),some (.int w),some (.int c),some (.ref 1),some k,z5,z6]) (S:=[some [.int x,.int y,.int z],some (Ds ss)]) (S':=[some [.int x,.int y,.int z],some (Ds ss)]) (j:=2*(c:Int)) (2*c) (by simp[Ao,CV,BK,BR,Ak,Nq,Gp,VS.listOf,-List.map_map,-Option.map_bind]) (by omega) (by omega) (by omega) (by omega)
  rw[hU] at l1
  have v0:Ab 0 [some (.ref 0),some (.int w),some (.int c),some (.ref 1),some k,z5,z6] [some [.int x,.int y,.int z],some (Ds ss)]=some (.ref 0,[some [.int x,.int y,.int z],some (Ds ss)]):=rfl
  rw[Bu,Im (ns:=[x,y,z]) (rest:=[.lst true (((List.range (2*c)).map fun(i:Nat)=>(i:Int)).map D.int)]) (es:=[.lst false (((List.range (2*c)).map fun(i:Nat)=>(i:Int)).map D.int)]) (i:=0) (S':=[some [.int x,.int y,.int z],some (Ds ss)]) (by rw[Ak,v0,Option.bind_some,Ak,l1];rfl) rfl (by rw[Aq,BZ,FQ,Aq];rfl) (by rw[Bg,age,Kp,Bg]) e1]
  rfl
 have s2:(Bf 6 (O7 (Aa (eUn (Og 0) (Ab 5)) (Aa (eUn (Og 1) (Ab 5)) Ae)))) [some (.ref 0),some (.int w),some (.int c),some (.ref 1),some k,some (.lst true (ms.map .int)),z6] [some [.int x',.int y,.int z'],some (Ds ss)]=some (.nx,[some (.ref 0),some (.int w),some (.int c),some (.ref 1),some k,some (.lst true (ms.map .int)),some (.lst true ((List.range c).map fun k=>D.tup [.int (ms.getD (0+2*k) 0),.int (ms.getD (1+2*k) 0)]))],[some [.int x',.int y,.int z'],some (Ds ss)]):=by
  have u0:∀a:Nat,eUn (Og a) (Ab 5) [some (.ref 0),some (.int w),some (.int c),some (.ref 1),some k,some (.lst true (ms.map .int)),z6] [some [.int x',.int y,.int z'],some (Ds ss)]=some (.lst true (HT.half a (ms.map .int)),[some [.int x',.int y,.int z'],some (Ds ss)]):=fun a=>rfl
  have c0:(ms.length+1-0)/2=c:=by omega
  have c1:(ms.length+1-1)/2=c:=by omega
  rw[Bu,TX,Ak,u0,Option.bind_some,Ak,u0,bG 0 ms (by decide),bG 1 ms (by decide),c0,c1]
  show((if (DX ((List.range c).map fun k=>D.int (ms.getD (0+2*k) 0)) ((List.range c).map fun k=>D.int (ms.getD (1+2*k) 0))).length<=1000000 then some (D.lst true (DX ((List.range c).map fun k=>D.int (ms.getD (0+2*k) 0)) ((List.range c).map fun k=>D.int (ms.getD (1+2*k) 0))),_) else none):Option (D×Store)).bind _=_
  rw[tW,if_pos (by rw[List.length_map,List.length_range];omega)]
  rfl
 have c1:=fL [some (.ref 0),some (.int w),some (.int c),some (.ref 1),some k,some (.lst true (ms.map .int)),some (.lst true ((List.range c).map fun k=>D.tup [.int (ms.getD (0+2*k) 0),.int (ms.getD (1+2*k) 0)]))] [some [.int x',.int y,.int z'],some (Ds ss)] ms c (by omega) rfl
 refine⟨M4 ms c,x',z',some (.lst true (ms.map .int)),some (.lst true ((List.range c).map fun k=>D.tup [.int (ms.getD (0+2*k) 0),.int (ms.getD (1+2*k) 0)])),oG hp,?_⟩
 unfold K9
 rw[BP s1,BP s2,HW,J5 (d:=.ref 1) (cs:=Ds ss) (ds:=[.lst true ((M4 ms c).map Ba)]) (r:=.non) (S1:=[some [.int x',.int y,.int z'],some (Ds ss)]) (S2:=[some [.int x',.int y,.int z'],some (Ds ss)]) (S3:=[some [.int x',.int y,.int z'],some (Ds (ss++[M4 ms c]))]) rfl rfl (by rw[Ak,Cr,c1];rfl) (by
  show(if (Ds ss).length<1000000 then some (D.non,[some [.int x',.int y,.int z'],some (Ds ss++[.lst true ((M4 ms c).map Ba)])]) else none)=_
  rw[if_pos (by unfold Ds;rw[List.length_map];omega)]
  unfold Ds
  rw[List.map_append];rfl)]
 rfl
theorem fK(ss:List (List St2))(k c:Nat)(hk:k<c)(hs:ss.length<=3)(hS:∀s∈ss,s.length=c)(S:Store)(hSt:S[1]?=some (some (Ds ss))):K8 [some (.int k),some (.ref 1)] S=some ((ss.map fun s=>s.getD k (0,0)).map Ba,S):=by
 have e:Dc (Ab 1) [some (.int k),some (.ref 1)] S=some ((Ds ss,[(1,Ds ss)]),S):=by
  simp[Ao,VS.listOf,CN,VS.idOf,Ge,-List.map_map,-Option.map_bind,hSt]
 unfold K8 Cj
 rw[e]
 simp only[Option.bind_some]
 rw[show Ds ss=ss.map fun s=>.lst true (s.map Ba) from rfl,J7 (by intro p hp;rw[List.mem_singleton.mp hp];exact hSt) (fun s=>.lst true (s.map Ba)) (fun s=>Ba (s.getD k (0,0))) ss (by omega)]
 .rw[List.map_map];rfl
 .intro s hs
  have hl:=hS s hs
  have ha:atI (s.map Ba) (k:Int)=some (Ba (s.getD k (0,0))):=Nj (by
   rw[List.getElem?_map,List.getD_eq_getElem?_getD,List.getElem?_eq_getElem (show k<s.length by omega)];rfl)
  exact⟨_,by rw[Cg],by simp[Ao,BK,HS,oIx,VS.listOf,CN,List.replicate_succ,-List.map_map,-Option.map_bind,ha]⟩
end W17
end
section
namespace W17
open PySem L2 VS
structure Sm(n:Nat)(m:Int)(b:List St2):Prop where
 len:b.length=n
 all:∀p∈b,0<=p.1/\p.1<p.2/\p.2<=m
theorem fJ(x y z:Int)(n c:Nat)(hn:n<=3)(hc:c<=20):∃(bs:List (List St2))(x' z':Int),G8 [x,y,z] [.int n,.int c]=some (.lst true (bs.map Af),[x',y,z'])/\bs.length=c/\∀b∈bs,Sm n (2*c-1) b:=by
 have s1:(Bf 3 (Hj Ae)) [some (.ref 0),some (.int n),some (.int c),none,none,none,none] [some [.int x,.int y,.int z]]=some (.nx,[some (.ref 0),some (.int n),some (.int c),some (.ref 1),none,none,none],[some [.int x,.int y,.int z],some (Ds [])]):=by simp[Bu,BR,Nh,-List.map_map,-Option.map_bind,Ds]
 have e:Et (Aa (Ab 1) Ae) [some (.ref 0),some (.int n),some (.int c),some (.ref 1),none,none,none] [some [.int x,.int y,.int z],some (Ds [])]=some ((upD 0 n,[]),[some [.int x,.int y,.int z],some (Ds [])]):=M5 _ (by simp[Ao,BR,Ak,-List.map_map,-Option.map_bind];rfl) (by simp) (by omega) (by omega)
 obtain⟨env',S',e2,ss,x',z',z4,z5,z6,he,hS,hl,hs⟩:=Ej (w:=[]) (g:=Pat.sem (.nm 4)) (b:=K9) (ds:=upD 0 n) (env:=[some (.ref 0),some (.int n),some (.int c),some (.ref 1),none,none,none]) (S:=[some [.int x,.int y,.int z],some (Ds [])])
  (fun i env S=>∃(ss:List (List St2))(x' z':Int)(z4 z5 z6:Option D),env=[some (.ref 0),some (.int n),some (.int c),some (.ref 1),z4,z5,z6]/\S=[some [.int x',.int y,.int z'],some (Ds ss)]/\ss.length=min i n/\∀s∈ss,jC c (2*c-1) s)
  ⟨[],x,z,none,none,none,rfl,rfl,by simp,fun s h=>by cases h⟩ (fun i env S _=>by simp) (fun i d env S hd q=>by
   obtain⟨ss,x',z',z4,z5,z6,he,hS,hl,hs⟩:=q
   obtain⟨hi,rfl⟩:=Q5 hd
   subst he hS
   obtain⟨s,x2,z2,d5,d6,hs1,e3⟩:=fM x' y z' n c hc ss (by omega) z5 z6 (.int (0+i))
   refine⟨_,Cg _ _ _,_,_,e3,ss++[s],x2,z2,_,_,_,rfl,rfl,by simp;omega,fun t ht=>?_⟩
   rcases List.mem_append.mp ht with q|q
   .exact hs t q
   .rw[List.mem_singleton.mp q];exact hs1)
 rw[NT,Nat.min_self] at hl
 subst he hS
 have l1:MP [some (.ref 0),some (.int n),some (.int c),some (.ref 1),none,none,none] [some [.int x,.int y,.int z],some (Ds [])]=some (.nx,[some (.ref 0),some (.int n),some (.int c),some (.ref 1),z4,z5,z6],[some [.int x',.int y,.int z'],some (Ds ss)]):=by
  unfold MP
  rw[Fd,e]
  exact e2
 have c3:Ma [some (.ref 0),some (.int n),some (.int c),some (.ref 1),z4,z5,z6] [some [.int x',.int y,.int z'],some (Ds ss)]=some ((List.range c).map (fun k=>Af (ss.map fun s=>s.getD k (0,0))),[some [.int x',.int y,.int z'],some (Ds ss)]):=by
  have e:Et (Aa (Ab 2) Ae) [some (.ref 0),some (.int n),some (.int c),some (.ref 1),z4,z5,z6] [some [.int x',.int y,.int z'],some (Ds ss)]=some ((upD 0 c,[]),[some [.int x',.int y,.int z'],some (Ds ss)]):=M5 _ (by simp[Ao,BR,Ak,-List.map_map,-Option.map_bind];rfl) (by simp) (by omega) (by omega)
  unfold Ma Cj
  rw[e]
  simp only[Option.bind_some]
  exact bM (by simp) c _ (by omega) fun k hk=>⟨_,Cg _ _ _,by
   have:=fK ss k c hk (by omega) (fun s h=>(hs s h).len) [some [.int x',.int y,.int z'],some (Ds ss)] rfl
   rw[Ew,Ak,Cr]
   show(((K8 [some (.int k),some (.ref 1)] [some [.int x',.int y,.int z'],some (Ds ss)]).bind _).bind _).bind _=_
   rw[this]
   simp[BR,HS,Tp,VS.listOf,CN,List.replicate_succ,-List.map_map,-Option.map_bind,Af]⟩
 refine⟨(List.range c).map (fun k=>ss.map fun s=>s.getD k (0,0)),x',z',?_,by simp,fun b hb=>?_⟩
 .unfold G8
  rw[Lj]
  simp only[List.length_cons,List.length_nil,List.map_cons,List.map_nil,Nat.reduceAdd,Nat.reduceSub,List.replicate_succ,List.replicate_zero,List.cons_append,List.nil_append,if_true]
  unfold Ru
  rw[BP s1,BP l1,Cq,Cr,c3]
  have hf:Aq ((List.range c).map fun k=>Af (ss.map fun s=>s.getD k (0,0)))=true:=Di (Ko _ fun k _=>Ii _)
  simp only[Option.bind_some,List.getElem?_cons_zero]
  rw[show([D.int x',.int y,.int z']:List D)=([x',y,z'].map D.int) from rfl,Ip]
  show Option.map _ (den 1 _ (.lst true _))=_
  rw[den,Cz 1 _ hf,List.map_map];rfl
 .obtain⟨k,hk,rfl⟩:=List.mem_map.mp hb
  have hk':=List.mem_range.mp hk
  refine⟨by simpa using hl,fun p hp=>?_⟩
  obtain⟨s,h1,rfl⟩:=List.mem_map.mp hp
  have hs1:=hs s h1
  have hlt:k<s.length:=by rw[hs1.len];exact hk'
  rw[List.getD_eq_getElem?_getD,List.getElem?_eq_getElem hlt]
  exact hs1.all _ (List.getElem_mem hlt)
end W17
end
section
namespace W17
open PySem L2 VS
structure Mk(m:Nat)(ms:List Int):Prop where
 rise:ms.Pairwise (·<·)
 len:ms.length=m+1
 near:∀x∈ms,-1000000000<=x/\x<=1000000000
theorem U3{n:Nat}:ixN (n+1) (-1)=some n:=by
 unfold ixN
 rw[if_neg (by omega),if_pos (by omega)]
 congr 1
 omega
theorem UL{α:Type}(l:List α)(a:α):atI (l++[a]) (-1)=some a:=by
 unfold atI
 rw[List.length_append,List.length_cons,List.length_nil,U3,Option.bind_some]
 simp
theorem lD(x y z:Int)(m:Nat)(st hr:Int)(hm:m<=40)(h0:0<st)(h1:st<=1000000000)(pre:List Int)(l:Int)(i:Nat)(hi:pre.length=i)(hl2:i<=100)(hl:l<=1000000000-200-m+i-1):∃(v x' z':Int),l<v/\v<=1000000000-200-m+i /\
  Lf [some (.ref 0),some (.int m),some (.int st),some (.int hr),some (.ref 1),some (.int i)] [some [.int x,.int y,.int z],some ((pre++[l]).map .int)]=some (.nx,[some (.ref 0),some (.int m),some (.int st),some (.int hr),some (.ref 1),some (.int i)],[some [.int x',.int y,.int z'],some ((pre++[l]++[v]).map .int)]):=by
 obtain⟨t,x',z',e1,t0,t1⟩:=FJ x y z st h0 (by omega)
 obtain⟨v,hv⟩:∃v:Int,v=(if (1000000000:Int)-200-m+i<l+1+t then (1000000000:Int)-200-m+i else l+1+t):=⟨_,rfl⟩
 refine⟨v,x',z',by rw[hv];split<;>omega,by rw[hv];split<;>omega,?_⟩
 have ha:atI ((pre++[l]).map D.int) (-1)=some (.int l):=by
  rw[List.map_append];exact UL _ _
 have i1:eOp oIx (Ab 4) (eUn MK (eC (.int 1))) [some (.ref 0),some (.int m),some (.int st),some (.int hr),some (.ref 1),some (.int i)] [some [.int x,.int y,.int z],some ((pre++[l]).map .int)]=some (.int l,[some [.int x,.int y,.int z],some ((pre++[l]).map .int)]):=by
  have v4:Ab 4 [some (.ref 0),some (.int m),some (.int st),some (.int hr),some (.ref 1),some (.int i)] [some [.int x,.int y,.int z],some ((pre++[l]).map .int)]=some (.ref 1,[some [.int x,.int y,.int z],some ((pre++[l]).map .int)]):=rfl
  rw[BK,v4,Option.bind_some]
  show((some (oIx [some [.int x,.int y,.int z],some ((pre++[l]).map .int)] (.ref 1) (.int (-1)))).bind _)=_
  show Option.map _ (atI ((pre++[l]).map D.int) (-1))=_
  rw[ha];rfl
 have t2:BW Al (Aa (Ab 0) (Aa (Ab 2) Ae)) [some (.ref 0),some (.int m),some (.int st),some (.int hr),some (.ref 1),some (.int i)] [some [.int x,.int y,.int z],some ((pre++[l]).map .int)]=some (.int t,[some [.int x',.int y,.int z'],some ((pre++[l]).map .int)]) :=
  Im (ns:=[x,y,z]) (rest:=[.int st]) (es:=[.int st]) (i:=0) (S':=[some [.int x,.int y,.int z],some ((pre++[l]).map .int)]) rfl rfl (by simp[Aq,BZ]) (by simp[Bg,age]) e1
 have k1:eOp Dh (eOp EY (eOp EY (eOp Fi (eC (.int 10)) (eC (.int 9))) (eC (.int 200))) (Ab 1)) (Ab 5) [some (.ref 0),some (.int m),some (.int st),some (.int hr),some (.ref 1),some (.int i)] [some [.int x',.int y,.int z'],some ((pre++[l]).map .int)]=some (.int (1000000000-200-m+i),[some [.int x',.int y,.int z'],some ((pre++[l]).map .int)]):=by simp[Ao,CV,BK,oI,Hw,Np,Dh,EY,Fi,VS.listOf,-List.map_map,-Option.map_bind]
 unfold Lf
 rw[HW,J5 (d:=.ref 1) (cs:=(pre++[l]).map .int) (ds:=[.int v]) (r:=.non) (S1:=[some [.int x,.int y,.int z],some ((pre++[l]).map .int)]) (S2:=[some [.int x',.int y,.int z'],some ((pre++[l]).map .int)]) (S3:=[some [.int x',.int y,.int z'],some ((pre++[l]++[v]).map .int)]) rfl rfl (by
  rw[Ak,Ew,Ak,BK,BK,i1,Option.bind_some,CV,Option.bind_some]
  show((((some (D.int (l+1),_):Option (D×Store)).bind _).bind _).bind _).bind _=_
  rw[Option.bind_some,t2,Option.bind_some]
  show(((some (D.int (l+1+t),_):Option (D×Store)).bind _).bind _).bind _=_
  rw[Option.bind_some,Ak,k1,hv]
  rfl) (by
  show(if ((pre++[l]).map D.int).length<1000000 then some (D.non,[some [.int x',.int y,.int z'],some ((pre++[l]).map D.int++[D.int v])]) else none)=_
  rw[if_pos (by simp;omega),List.map_append (l₁:=pre++[l])]
  rfl)]
 rfl
end W17
end
section
namespace W17
open PySem L2 VS
theorem pU(x y z:Int)(m:Nat)(st hr:Int)(hm:m<=40)(h0:0<st)(h1:st<=1000000000)(hr0:-1000000000<=hr)(hr1:hr<=0):∃(pre:List Int)(l x' z':Int)(z5:Option D),
  Oa [some (.ref 0),some (.int m),some (.int st),some (.int hr),some (.ref 1),none] [some [.int x,.int y,.int z],some [.int hr]]=some (.nx,[some (.ref 0),some (.int m),some (.int st),some (.int hr),some (.ref 1),z5],[some [.int x',.int y,.int z'],some ((pre++[l]).map .int)]) /\
  pre.length=m/\(pre++[l]).Pairwise (·<·)/\(∀e∈pre++[l],-1000000000<=e)/\l<=1000000000-201:=by
 have e:Et (Aa (Ab 1) Ae) [some (.ref 0),some (.int m),some (.int st),some (.int hr),some (.ref 1),none] [some [.int x,.int y,.int z],some [.int hr]]=some ((upD 0 m,[]),[some [.int x,.int y,.int z],some [.int hr]]):=M5 _ (by simp[Ao,BR,Ak,-List.map_map,-Option.map_bind];rfl) (by simp) (by omega) (by omega)
 obtain⟨env',S',e2,pre,l,x',z',z5,he,hS,hl,hp,hb,hq⟩:=Ej (w:=[]) (g:=Pat.sem (.nm 5)) (b:=Lf) (ds:=upD 0 m) (env:=[some (.ref 0),some (.int m),some (.int st),some (.int hr),some (.ref 1),none]) (S:=[some [.int x,.int y,.int z],some [.int hr]])
  (fun i env S=>∃(pre:List Int)(l x' z':Int)(z5:Option D),env=[some (.ref 0),some (.int m),some (.int st),some (.int hr),some (.ref 1),z5]/\S=[some [.int x',.int y,.int z'],some ((pre++[l]).map .int)]/\pre.length=min i m/\(pre++[l]).Pairwise (·<·)/\(∀e∈pre++[l],-1000000000<=e)/\l<=1000000000-200-m+(min i m:Nat)-1)
  ⟨[],hr,x,z,none,rfl,rfl,by simp,by simp,by simpa using hr0,by simp;omega⟩ (fun i env S _=>by simp) (fun i d env S hd q=>by
   obtain⟨pre,l,x',z',z5,he,hS,hl,hp,hb,hq⟩:=q
   obtain⟨hi,rfl⟩:=Q5 hd
   subst he hS
   have hi':min i m=i:=by omega
   rw[hi'] at hl hq
   obtain⟨v,x2,z2,v1,v2,e3⟩:=lD x' y z' m st hr hm h0 h1 pre l i hl (by omega) hq
   rw[Int.zero_add]
   refine⟨_,Cg _ _ _,_,_,e3,pre++[l],v,x2,z2,_,rfl,rfl,by simp;omega,?_,?_,?_⟩
   .refine List.pairwise_append.mpr ⟨hp,by simp,fun a ha b hb'=>?_⟩
    rw[List.mem_singleton.mp hb']
    rcases List.mem_append.mp ha with q|q
    .have:=(List.pairwise_append.mp hp).2.2 a q l (by simp);omega
    .rw[List.mem_singleton.mp q];exact v1
   .intro e he
    rcases List.mem_append.mp he with q|q
    .exact hb e q
    .rw[List.mem_singleton.mp q]
     have:=hb l (by simp);omega
   .have:min (i+1) m=i+1:=by omega
    rw[this];omega)
 rw[NT,Nat.min_self] at hl hq
 subst he hS
 refine⟨pre,l,x',z',z5,?_,hl,hp,hb,by omega⟩
 unfold Oa
 rw[Fd,e]
 exact e2
theorem lC(x y z:Int)(m:Nat)(h1:8<=m)(h2:m<=40):∃(ms:List Int)(x' z':Int),Gh [x,y,z] [.int m]=some (.lst true (ms.map .int),[x',y,z'])/\Mk m ms:=by
 obtain⟨r1,x1,z1,e1,p1,p2⟩:=FJ x y z 3 (by decide) (by decide)
 obtain⟨st,f1,st0,st1⟩:∃st:Int,atI [D.int 1,D.int 3,D.int (1000000000/(m:Int))] r1=some (.int st)/\0<st/\st<=1000000000:=by
  have:r1=0∨r1=1∨r1=2:=by omega
  rcases this with rfl|rfl|rfl
  .exact⟨1,by simp,by decide,by decide⟩
  .exact⟨3,by simp,by decide,by decide⟩
  .refine⟨1000000000/(m:Int),by simp,?_,Int.ediv_le_self _ (by decide)⟩
   have:(1:Int)<=1000000000/(m:Int):=(Int.le_ediv_iff_mul_le (by omega)).mpr (by omega)
   omega
 obtain⟨r2,x2,z2,e2,q1,q2⟩:=FJ x1 y z1 10 (by decide) (by decide)
 obtain⟨r3,x3,z3,e3,q3,q4⟩:=FJ x2 y z2 3 (by decide) (by decide)
 obtain⟨hr,f2,hr0,hr1⟩:∃hr:Int,atI [D.int 0,D.int (0-r2),D.int (-1000000000)] r3=some (.int hr)/\-1000000000<=hr/\hr<=0:=by
  have:r3=0∨r3=1∨r3=2:=by omega
  rcases this with rfl|rfl|rfl
  .exact⟨0,by simp,by decide,by decide⟩
  .exact⟨0-r2,by simp,by omega,by omega⟩
  .exact⟨-1000000000,by simp,by decide,by decide⟩
 obtain⟨pre,l,x4,z4,z5,e4,hl,hp,hb,hq⟩:=pU x3 y z3 m st hr h2 st0 st1 hr0 hr1
 obtain⟨r5,x5,z5',e5,_,_⟩:=FJ x4 y z4 3 (by decide) (by decide)
 have hm0:(0:Int)<m:=by omega
 have hm1:(m:Int)<18446744073709551616:=by omega
 have hmN:0<m:=by omega
 have s1:(Bf 2 (eOp oIx (Bm (Aa (eC (.int 1)) (Aa (eC (.int 3)) (Aa (eOp oDiv (eOp Fi (eC (.int 10)) (eC (.int 9))) (Ab 1)) Ae)))) (BW Al (Aa (Ab 0) (Aa (eC (.int 3)) Ae))))) [some (.ref 0),some (.int m),none,none,none,none] [some [.int x,.int y,.int z]]=some (.nx,[some (.ref 0),some (.int m),some (.int st),none,none,none],[some [.int x1,.int y,.int z1]]):=by
  simp[Bu,Ao,CV,BK,BR,Ak,Cr,MF,oI,Tn,Np,oDiv,Fi,oIx,VS.listOf,CN,intsOf,den,Ck,age,Bg,BZ,Aq,-List.map_map,-Option.map_bind,e1,f1,hmN,hm1]
 have s2:(Bf 3 (eOp oIx (Bm (Aa (eC (.int 0)) (Aa (eOp EY (eC (.int 0)) (BW Al (Aa (Ab 0) (Aa (eC (.int 10)) Ae)))) (Aa (eOp EY (eC (.int 0)) (eOp Fi (eC (.int 10)) (eC (.int 9)))) Ae)))) (BW Al (Aa (Ab 0) (Aa (eC (.int 3)) Ae))))) [some (.ref 0),some (.int m),some (.int st),none,none,none] [some [.int x1,.int y,.int z1]]=some (.nx,[some (.ref 0),some (.int m),some (.int st),some (.int hr),none,none],[some [.int x3,.int y,.int z3]]):=by
  rw[Int.zero_sub] at f2
  simp[Bu,Ao,CV,BK,BR,Ak,Cr,MF,oI,Hw,Np,EY,Fi,oIx,VS.listOf,CN,intsOf,den,Ck,age,Bg,BZ,Aq,-List.map_map,-Option.map_bind,e2,e3,f2]
 have s3:(Bf 4 (Hj (Aa (Ab 3) Ae))) [some (.ref 0),some (.int m),some (.int st),some (.int hr),none,none] [some [.int x3,.int y,.int z3]]=some (.nx,[some (.ref 0),some (.int m),some (.int st),some (.int hr),some (.ref 1),none],[some [.int x3,.int y,.int z3],some [.int hr]]):=by simp[Bu,Ao,BR,Ak,Nh,-List.map_map,-Option.map_bind]
 have t5:∀(a:List D)(c:Int)(x y z x' z' r:Int),Al [x,y,z] [.int c]=some (.int r,[x',y,z'])->Bh (eOp (oEq false) (BW Al (Aa (Ab 0) (Aa (eC (.int c)) Ae))) (eC (.int 0))) [some (.ref 0),some (.int m),some (.int st),some (.int hr),some (.ref 1),z5] [some [.int x,.int y,.int z],some a]=some (decide (r=0),[some [.int x',.int y,.int z'],some a]):=fun a c x y z x' z' r h=>by
  have t2:BW Al (Aa (Ab 0) (Aa (eC (.int c)) Ae)) [some (.ref 0),some (.int m),some (.int st),some (.int hr),some (.ref 1),z5] [some [.int x,.int y,.int z],some a]=some (.int r,[some [.int x',.int y,.int z'],some a]) :=
   Im (ns:=[x,y,z]) (rest:=[.int c]) (es:=[.int c]) (i:=0) (S':=[some [.int x,.int y,.int z],some a]) rfl rfl (by simp[Aq,BZ]) (by simp[Bg,age]) h
  rw[Ef,BK,t2,Option.bind_some]
  simp[CV,oEq,-List.map_map,-Option.map_bind]
 obtain⟨l',hl',s4⟩:∃l':Int,(l'=l∨l'=1000000000)/\(sIf (Bh (eOp (oEq false) (BW Al (Aa (Ab 0) (Aa (eC (.int 3)) Ae))) (eC (.int 0)))) (Iu (eOp Fi (eC (.int 10)) (eC (.int 9))) (Ab 4) (eUn MK (eC (.int 1)))) En) [some (.ref 0),some (.int m),some (.int st),some (.int hr),some (.ref 1),z5] [some [.int x4,.int y,.int z4],some ((pre++[l]).map .int)]=some (.nx,[some (.ref 0),some (.int m),some (.int st),some (.int hr),some (.ref 1),z5],[some [.int x5,.int y,.int z5'],some ((pre++[l']).map .int)]):=by
  have ts:=t5 ((pre++[l]).map .int) 3 x4 y z4 x5 z5' r5 e5
  by_cases h:r5=0
  .rw[decide_eq_true h] at ts
   refine⟨1000000000,.inr rfl,?_⟩
   rw[M8 ts,Ja]
   have p9:=pow10 9 (by decide) [some (.ref 0),some (.int m),some (.int st),some (.int hr),some (.ref 1),z5] [some [.int x5,.int y,.int z5'],some ((pre++[l]).map .int)]
   have hx:ixN ((pre++[l]).map D.int).length (-1)=some pre.length:=by
    rw[List.length_map,List.length_append];exact U3
   refine(congrArg (fun z=>Option.bind z _) p9).trans ?_
   show(ixN ((pre++[l]).map D.int).length (-1)).bind _=_
   rw[hx]
   show some (Fl.nx,_,[some [.int x5,.int y,.int z5'],some (((pre++[l]).map D.int).set pre.length (.int (10^9)))])=_
   rw[List.map_append,List.map_append,List.set_append_right _ _ (by simp)]
   simp
  .rw[decide_eq_false h] at ts
   exact⟨l,.inl rfl,by rw[Ku ts];rfl⟩
 have hp':(pre++[l']).Pairwise (·<·):=by
  obtain⟨a1,_,a3⟩:=List.pairwise_append.mp hp
  refine List.pairwise_append.mpr ⟨a1,by simp,fun a ha b hb'=>?_⟩
  rw[List.mem_singleton.mp hb']
  have:=a3 a ha l (by simp)
  rcases hl' with h|h<;>omega
 have hn':∀e∈pre++[l'],-1000000000<=e/\e<=1000000000:=fun e he=>by
  rcases List.mem_append.mp he with q|q
  .have:=hb e (List.mem_append_left _ q)
   have:=(List.pairwise_append.mp hp).2.2 e q l (by simp)
   omega
  .rw[List.mem_singleton.mp q]
   have:=hb l (by simp)
   rcases hl' with h|h<;>omega
 have len':(pre++[l']).length=m+1:=by simp[hl]
 generalize pre++[l']=ms at *
 obtain⟨r6,x6,z6,e6,_,_⟩:=FJ x5 y z5' 6 (by decide) (by decide)
 obtain⟨ns,hns,s5⟩:∃ns:List Int,Mk m ns/\(sIf (Bh (eOp (oEq false) (BW Al (Aa (Ab 0) (Aa (eC (.int 6)) Ae))) (eC (.int 0)))) (Iu (eOp EY (eC (.int 0)) (eOp Fi (eC (.int 10)) (eC (.int 9)))) (Ab 4) (eC (.int 0))) En) [some (.ref 0),some (.int m),some (.int st),some (.int hr),some (.ref 1),z5] [some [.int x5,.int y,.int z5'],some (ms.map .int)]=some (.nx,[some (.ref 0),some (.int m),some (.int st),some (.int hr),some (.ref 1),z5],[some [.int x6,.int y,.int z6],some (ns.map .int)]):=by
  have ts:=t5 (ms.map .int) 6 x5 y z5' x6 z6 r6 e6
  by_cases h:r6=0
  .rw[decide_eq_true h] at ts
   cases ms with
   |nil=>simp at len'
   |cons a r =>
    refine⟨-1000000000::r,⟨?_,by simpa using len',fun e he=>?_⟩,?_⟩
    .obtain⟨a1,a2⟩:=List.pairwise_cons.mp hp'
     refine List.pairwise_cons.mpr ⟨fun b hb'=>?_,a2⟩
     have:=a1 b hb'
     have:=hn' a List.mem_cons_self
     omega
    .rcases List.mem_cons.mp he with q|q
     .omega
     .exact hn' e (List.mem_cons_of_mem _ q)
    .have w1:eOp EY (eC (.int 0)) (eOp Fi (eC (.int 10)) (eC (.int 9))) [some (.ref 0),some (.int m),some (.int st),some (.int hr),some (.ref 1),z5] [some [.int x6,.int y,.int z6],some ((a::r).map .int)]=some (.int (-1000000000),[some [.int x6,.int y,.int z6],some ((a::r).map .int)]):=by simp[CV,BK,oI,Hw,Np,EY,Fi,-List.map_map,-Option.map_bind]
     rw[M8 ts,Ja,w1]
     show(ixN ((a::r).map D.int).length 0).bind _=_
     rw[List.map_cons,List.length_cons,nH]
     rfl
  .rw[decide_eq_false h] at ts
   exact⟨ms,⟨hp',len',hn'⟩,by rw[Ku ts];rfl⟩
 refine⟨ns,x6,z6,?_,hns⟩
 unfold Gh
 rw[Lj]
 simp only[List.length_cons,List.length_nil,List.map_cons,List.map_nil,Nat.reduceAdd,Nat.reduceSub,List.replicate_succ,List.replicate_zero,List.cons_append,List.nil_append,if_true]
 unfold TV
 rw[BP s1,BP s2,BP s3,BP e4,BP s4,BP s5]
 simp[Cq,Ao,intsOf,den,-List.map_map,-Option.map_bind]
end W17
end
section
namespace W17
open PySem L2 VS
theorem at2(a b c:Option (List D))(R:Store):(a::b::(R++[c]))[R.length+2]?=some c:=by
 show(R++[c])[R.length]?=some c
 exact Ti R c []
theorem put2(a b c d:Option (List D))(R:Store):(a::b::(R++[c])).set (R.length+2) d=a::b::(R++[d]):=by
 show a::b::(R++[c]).set R.length d=_
 rw[j6 R c d []]
theorem Li{x y z c r x' z':Int}{a:Az}{env:VS.Env}{S:Store}(h:Al [x,y,z] [.int c]=some (.int r,[x',y,z']))(h0:env[0]?=some (some (.ref 0)))(ha:a env (some [.int x,.int y,.int z]::S)=some (.int c,some [.int x,.int y,.int z]::S)):BW Al (Aa (Ab 0) (Aa a Ae)) env (some [.int x,.int y,.int z]::S)=some (.int r,some [.int x',.int y,.int z']::S):=by
 have v0:Ab 0 env (some [.int x,.int y,.int z]::S)=some (.ref 0,some [.int x,.int y,.int z]::S):=by rw[Ao,h0];rfl
 exact Im (ns:=[x,y,z]) (rest:=[.int c]) (es:=[.int c]) (i:=0) (S':=some [.int x,.int y,.int z]::S) (by rw[Ak,v0,Option.bind_some,Ak,ha];rfl) rfl (by simp[Aq,BZ]) (by simp[Bg,age]) h
theorem jl(x y z:Int)(e1 e2 e3 e4 z7 z9 z10 z11 z12:Option D)(wd:Int)(h0:0<wd)(h1:wd<=40)(f:List D)(R:Store)(bx:List St2)(hb:bx.length<=3):∃(p:St2)(x' z':Int),(0<=p.1/\p.1<p.2/\p.2<=wd) /\
  Lb [some (.ref 0),e1,e2,e3,e4,some (.int wd),some (.ref 1),z7,some (.ref (R.length+2)),z9,z10,z11,z12] (some [.int x,.int y,.int z]::some f::(R++[some (bx.map Ba)]))=some (.nx,[some (.ref 0),e1,e2,e3,e4,some (.int wd),some (.ref 1),z7,some (.ref (R.length+2)),z9,some (.int p.1),z11,z12],some [.int x',.int y,.int z']::some f::(R++[some ((bx++[p]).map Ba)])):=by
 obtain⟨lo,x1,z1,t1,l0,l1⟩:=FJ x y z wd h0 (by omega)
 obtain⟨u,x2,z2,t2,u0,u1⟩:=FJ x1 y z1 (wd-lo) (by omega) (by omega)
 obtain⟨r,x3,z3,t3,r0,r1⟩:=FJ x2 y z2 2 (by decide) (by decide)
 obtain⟨k,f1,k0,k1⟩:∃k:Int,atI [D.int 0,D.int u] r=some (.int k)/\0<=k/\k<wd-lo:=by
  have:r=0∨r=1:=by omega
  rcases this with rfl|rfl
  .exact⟨0,by simp,by decide,by omega⟩
  .exact⟨u,by simp,u0,u1⟩
 refine⟨(lo,lo+1+k),x3,z3,⟨l0,by show lo<lo+1+k;omega,by show lo+1+k<=wd;omega⟩,?_⟩
 have s1:(Bf 10 (BW Al (Aa (Ab 0) (Aa (Ab 5) Ae)))) [some (.ref 0),e1,e2,e3,e4,some (.int wd),some (.ref 1),z7,some (.ref (R.length+2)),z9,z10,z11,z12] (some [.int x,.int y,.int z]::some f::(R++[some (bx.map Ba)]))=some (.nx,[some (.ref 0),e1,e2,e3,e4,some (.int wd),some (.ref 1),z7,some (.ref (R.length+2)),z9,some (.int lo),z11,z12],some [.int x1,.int y,.int z1]::some f::(R++[some (bx.map Ba)])):=by
  rw[Bu,Li t1 rfl rfl];rfl
 have q2:BW Al (Aa (Ab 0) (Aa (eOp EY (Ab 5) (Ab 10)) Ae)) [some (.ref 0),e1,e2,e3,e4,some (.int wd),some (.ref 1),z7,some (.ref (R.length+2)),z9,some (.int lo),z11,z12] (some [.int x1,.int y,.int z1]::some f::(R++[some (bx.map Ba)]))=some (.int u,some [.int x2,.int y,.int z2]::some f::(R++[some (bx.map Ba)])):=Li t2 rfl rfl
 have q3:BW Al (Aa (Ab 0) (Aa (eC (.int 2)) Ae)) [some (.ref 0),e1,e2,e3,e4,some (.int wd),some (.ref 1),z7,some (.ref (R.length+2)),z9,some (.int lo),z11,z12] (some [.int x2,.int y,.int z2]::some f::(R++[some (bx.map Ba)]))=some (.int r,some [.int x3,.int y,.int z3]::some f::(R++[some (bx.map Ba)])):=Li t3 rfl rfl
 have q4:eOp oIx (Bm (Aa (eC (.int 0)) (Aa (BW Al (Aa (Ab 0) (Aa (eOp EY (Ab 5) (Ab 10)) Ae))) Ae))) (BW Al (Aa (Ab 0) (Aa (eC (.int 2)) Ae))) [some (.ref 0),e1,e2,e3,e4,some (.int wd),some (.ref 1),z7,some (.ref (R.length+2)),z9,some (.int lo),z11,z12] (some [.int x1,.int y,.int z1]::some f::(R++[some (bx.map Ba)]))=some (.int k,some [.int x3,.int y,.int z3]::some f::(R++[some (bx.map Ba)])):=by
  rw[BK,Cr,Ak,CV,Option.bind_some,Ak,q2,Option.bind_some,BR,Option.bind_some]
  simp only[Option.bind_some]
  rw[q3,Option.bind_some]
  show Option.map _ (atI [D.int 0,D.int u] r)=_
  rw[f1];rfl
 have v10:∀S:Store,Ab 10 [some (.ref 0),e1,e2,e3,e4,some (.int wd),some (.ref 1),z7,some (.ref (R.length+2)),z9,some (.int lo),z11,z12] S=some (.int lo,S):=fun S=>rfl
 unfold Lb
 rw[BP s1,HW,J5 (d:=.ref (R.length+2)) (cs:=bx.map Ba) (ds:=[Ba (lo,lo+1+k)]) (r:=.non) (S1:=some [.int x1,.int y,.int z1]::some f::(R++[some (bx.map Ba)])) (S2:=some [.int x3,.int y,.int z3]::some f::(R++[some (bx.map Ba)])) (S3:=some [.int x3,.int y,.int z3]::some f::(R++[some ((bx++[(lo,lo+1+k)]).map Ba)])) (by rw[Ao];simp[at2]) (by rw[VS.listOf,at2];rfl) (by
  rw[Ak,Ia,Ak,v10,Option.bind_some,Ak,BK,BK,v10,Option.bind_some,CV,Option.bind_some]
  show(((((some (D.int (lo+1),_):Option (D×Store)).bind _).bind _).bind _).bind _).bind _=_
  rw[Option.bind_some,q4]
  rfl) (by
  unfold Gd
  simp only[at2]
  rw[if_pos (by rw[List.length_map];omega),put2,List.map_append]
  rfl)]
 rfl
end W17
end
section
namespace W17
open PySem L2 VS
theorem jk(x y z:Int)(n:Nat)(hn:n<=3)(e2 e3 e4 z7 z8 z9 z10 z11 z12:Option D)(wd:Int)(h0:0<wd)(h1:wd<=40)(bs:List (List St2))(hbs:bs.length<=100)(R:Store):∃(b:List St2)(x' z':Int)(R':Store)(y8 y9 y10:Option D),Sm n wd b /\
  La [some (.ref 0),some (.int n),e2,e3,e4,some (.int wd),some (.ref 1),z7,z8,z9,z10,z11,z12] (some [.int x,.int y,.int z]::some (bs.map Af)::R)=some (.nx,[some (.ref 0),some (.int n),e2,e3,e4,some (.int wd),some (.ref 1),z7,y8,y9,y10,z11,z12],some [.int x',.int y,.int z']::some ((bs++[b]).map Af)::R'):=by
 have s1:(Bf 8 (Hj Ae)) [some (.ref 0),some (.int n),e2,e3,e4,some (.int wd),some (.ref 1),z7,z8,z9,z10,z11,z12] (some [.int x,.int y,.int z]::some (bs.map Af)::R)=some (.nx,[some (.ref 0),some (.int n),e2,e3,e4,some (.int wd),some (.ref 1),z7,some (.ref (R.length+2)),z9,z10,z11,z12],some [.int x,.int y,.int z]::some (bs.map Af)::(R++[some (([]:List St2).map Ba)])):=rfl
 have e:Et (Aa (Ab 1) Ae) [some (.ref 0),some (.int n),e2,e3,e4,some (.int wd),some (.ref 1),z7,some (.ref (R.length+2)),z9,z10,z11,z12] (some [.int x,.int y,.int z]::some (bs.map Af)::(R++[some (([]:List St2).map Ba)]))=some ((upD 0 n,[]),some [.int x,.int y,.int z]::some (bs.map Af)::(R++[some (([]:List St2).map Ba)])):=M5 _ rfl (by simp) (by omega) (by omega)
 obtain⟨env',S',e5,bx,x',z',y9,y10,he,hS,hl,hb⟩:=Ej (w:=[]) (g:=Pat.sem (.nm 9)) (b:=Lb) (ds:=upD 0 n) (env:=[some (.ref 0),some (.int n),e2,e3,e4,some (.int wd),some (.ref 1),z7,some (.ref (R.length+2)),z9,z10,z11,z12]) (S:=some [.int x,.int y,.int z]::some (bs.map Af)::(R++[some (([]:List St2).map Ba)]))
  (fun i env S=>∃(bx:List St2)(x' z':Int)(y9 y10:Option D),env=[some (.ref 0),some (.int n),e2,e3,e4,some (.int wd),some (.ref 1),z7,some (.ref (R.length+2)),y9,y10,z11,z12]/\S=some [.int x',.int y,.int z']::some (bs.map Af)::(R++[some (bx.map Ba)])/\bx.length=min i n/\∀p∈bx,0<=p.1/\p.1<p.2/\p.2<=wd)
  ⟨[],x,z,z9,z10,rfl,rfl,by simp,fun p h=>by cases h⟩ (fun i env S _=>by simp) (fun i d env S hd q=>by
   obtain⟨bx,x',z',y9,y10,he,hS,hl,hb⟩:=q
   obtain⟨hi,rfl⟩:=Q5 hd
   subst he hS
   obtain⟨p,x2,z2,hp,e6⟩:=jl x' y z' (some (.int n)) e2 e3 e4 z7 (some (.int (0+i))) y10 z11 z12 wd h0 h1 (bs.map Af) R bx (by omega)
   refine⟨_,Cg _ _ _,_,_,e6,bx++[p],x2,z2,_,_,rfl,rfl,by simp;omega,fun q hq=>?_⟩
   rcases List.mem_append.mp hq with h|h
   .exact hb q h
   .rw[List.mem_singleton.mp h];exact hp)
 rw[NT,Nat.min_self] at hl
 subst he hS
 have l1:OD [some (.ref 0),some (.int n),e2,e3,e4,some (.int wd),some (.ref 1),z7,some (.ref (R.length+2)),z9,z10,z11,z12] (some [.int x,.int y,.int z]::some (bs.map Af)::(R++[some (([]:List St2).map Ba)]))=some (.nx,[some (.ref 0),some (.int n),e2,e3,e4,some (.int wd),some (.ref 1),z7,some (.ref (R.length+2)),y9,y10,z11,z12],some [.int x',.int y,.int z']::some (bs.map Af)::(R++[some (bx.map Ba)])):=by
  unfold OD
  rw[Fd,e]
  exact e5
 refine⟨bx,x',z',R++[some (bx.map Ba)],some (.ref (R.length+2)),y9,y10,⟨hl,hb⟩,?_⟩
 unfold La
 rw[BP s1,BP l1,HW,J5 (d:=.ref 1) (cs:=bs.map Af) (ds:=[Af bx]) (r:=.non) (S1:=some [.int x',.int y,.int z']::some (bs.map Af)::(R++[some (bx.map Ba)])) (S2:=some [.int x',.int y,.int z']::some (bs.map Af)::(R++[some (bx.map Ba)])) (S3:=some [.int x',.int y,.int z']::some ((bs++[bx]).map Af)::(R++[some (bx.map Ba)])) rfl rfl (by
  have v8:Ab 8 [some (.ref 0),some (.int n),e2,e3,e4,some (.int wd),some (.ref 1),z7,some (.ref (R.length+2)),y9,y10,z11,z12] (some [.int x',.int y,.int z']::some (bs.map Af)::(R++[some (bx.map Ba)]))=some (.ref (R.length+2),some [.int x',.int y,.int z']::some (bs.map Af)::(R++[some (bx.map Ba)])):=by rw[Ao];simp[at2]
  rw[Ak,Ew,Ak,v8]
  simp[BR,Tp,CN,VS.listOf,at2,Af]) (by
  show(if (bs.map Af).length<1000000 then some (D.non,some [.int x',.int y,.int z']::some (bs.map Af++[Af bx])::(R++[some (bx.map Ba)])) else none)=_
  rw[if_pos (by rw[List.length_map];omega),List.map_append]
  rfl)]
 rfl
theorem ji(x y z:Int)(n c:Nat)(hn:n<=3)(hc:c<=20)(e2 e3:Option D)(wd:Int)(h0:0<wd)(h1:wd<=40):∃(bs:List (List St2))(x' z':Int)(R':Store)(y7 y8 y9 y10:Option D),bs.length=c/\(∀b∈bs,Sm n wd b) /\
  O9 [some (.ref 0),some (.int n),e2,e3,some (.int c),some (.int wd),some (.ref 1),none,none,none,none,none,none] [some [.int x,.int y,.int z],some []]=some (.nx,[some (.ref 0),some (.int n),e2,e3,some (.int c),some (.int wd),some (.ref 1),y7,y8,y9,y10,none,none],some [.int x',.int y,.int z']::some (bs.map Af)::R'):=by
 have e:Et (Aa (Ab 4) Ae) [some (.ref 0),some (.int n),e2,e3,some (.int c),some (.int wd),some (.ref 1),none,none,none,none,none,none] [some [.int x,.int y,.int z],some []]=some ((upD 0 c,[]),[some [.int x,.int y,.int z],some []]):=M5 _ rfl (by simp) (by omega) (by omega)
 obtain⟨env',S',e5,bs,x',z',R',y7,y8,y9,y10,he,hS,hl,hb⟩:=Ej (w:=[]) (g:=Pat.sem (.nm 7)) (b:=La) (ds:=upD 0 c) (env:=[some (.ref 0),some (.int n),e2,e3,some (.int c),some (.int wd),some (.ref 1),none,none,none,none,none,none]) (S:=[some [.int x,.int y,.int z],some []])
  (fun i env S=>∃(bs:List (List St2))(x' z':Int)(R':Store)(y7 y8 y9 y10:Option D),env=[some (.ref 0),some (.int n),e2,e3,some (.int c),some (.int wd),some (.ref 1),y7,y8,y9,y10,none,none]/\S=some [.int x',.int y,.int z']::some (bs.map Af)::R'/\bs.length=min i c/\∀b∈bs,Sm n wd b)
  ⟨[],x,z,[],none,none,none,none,rfl,rfl,by simp,fun p h=>by cases h⟩ (fun i env S _=>by simp) (fun i d env S hd q=>by
   obtain⟨bs,x',z',R',y7,y8,y9,y10,he,hS,hl,hb⟩:=q
   obtain⟨hi,rfl⟩:=Q5 hd
   subst he hS
   obtain⟨b,x2,z2,R2,w8,w9,w10,hb2,e6⟩:=jk x' y z' n hn e2 e3 (some (.int c)) (some (.int (0+i))) y8 y9 y10 none none wd h0 h1 bs (by omega) R'
   refine⟨_,Cg _ _ _,_,_,e6,bs++[b],x2,z2,R2,_,_,_,_,rfl,rfl,by simp;omega,fun q hq=>?_⟩
   rcases List.mem_append.mp hq with h|h
   .exact hb q h
   .rw[List.mem_singleton.mp h];exact hb2)
 rw[NT,Nat.min_self] at hl
 subst he hS
 refine⟨bs,x',z',R',y7,y8,y9,y10,hl,hb,?_⟩
 unfold O9
 rw[Fd,e]
 exact e5
end W17
end
section
namespace W17
open PySem L2 VS
theorem qy{α:Type}{F:α->D}(bs:List α){r:Int}(h0:0<=r):∃cs:List α,cut (bs.map F) none (some r)=cs.map F/\(cs.length:Int)<=r/\∀c∈cs,c∈bs:=by
 unfold cut
 rw[←List.map_drop,←List.map_take]
 refine⟨_,rfl,?_,fun c hc=>List.mem_of_mem_drop (List.mem_of_mem_take hc)⟩
 rw[List.length_take,List.length_map]
 have h1:HT.sIx bs.length 0 none=0:=rfl
 have h2:HT.sIx bs.length bs.length (some r)<=r.toNat:=by
  unfold HT.sIx
  simp only
  split<;>omega
 omega
def Hold(F:D)(T:Store)(bs:List (List St2)):Prop:=F=.lst true (bs.map Af)∨∃j,F=.ref (j+1)/\T[j]?=some (some (bs.map Af))
theorem QW{a b:Ey}{env:VS.Env}{S:Store}{p q:Prop}[Decidable p][Decidable q](h1:a env S=some (decide p,S))(h2:b env S=some (decide q,S)):Jt a b env S=some (decide (p/\q),S):=by
 rw[aP,h1,Option.bind_some]
 by_cases h:p
 .simp[h,h2]
 .simp[h]
theorem jg(x y z:Int)(n:Nat)(e2 e3 y7 y8 y9 y10 y12:Option D)(c:Nat)(hc:c<=20)(wd kind:Int)(bs:List (List St2))(hl:bs.length=c)(R:Store)(P:List St2->Prop)(hP:∀b∈bs,P b):∃(bs':List (List St2))(x' z':Int),bs'.length=c/\(∀b∈bs',P b) /\
  (sIf (Jt (Bh (eOp (oEq false) (Ab 11) (eC (.int 1)))) (Bh (eOp oGt (Ab 4) (eC (.int 1))))) (Iu (eOp oIx (Ab 6) (BW Al (Aa (Ab 0) (Aa (eOp EY (Ab 4) (eC (.int 1))) Ae)))) (Ab 6) (eUn MK (eC (.int 1)))) En) [some (.ref 0),some (.int n),e2,e3,some (.int c),some (.int wd),some (.ref 1),y7,y8,y9,y10,some (.int kind),y12] (some [.int x,.int y,.int z]::some (bs.map Af)::R) =
  some (.nx,[some (.ref 0),some (.int n),e2,e3,some (.int c),some (.int wd),some (.ref 1),y7,y8,y9,y10,some (.int kind),y12],some [.int x',.int y,.int z']::some (bs'.map Af)::R):=by
 have k1:Bh (eOp (oEq false) (Ab 11) (eC (.int 1))) [some (.ref 0),some (.int n),e2,e3,some (.int c),some (.int wd),some (.ref 1),y7,y8,y9,y10,some (.int kind),y12] (some [.int x,.int y,.int z]::some (bs.map Af)::R)=some (decide (kind=1),some [.int x,.int y,.int z]::some (bs.map Af)::R):=by simp[Ao,CV,BK,Ef,oEq,-List.map_map,-Option.map_bind]
 have k2:Bh (eOp oGt (Ab 4) (eC (.int 1))) [some (.ref 0),some (.int n),e2,e3,some (.int c),some (.int wd),some (.ref 1),y7,y8,y9,y10,some (.int kind),y12] (some [.int x,.int y,.int z]::some (bs.map Af)::R)=some (decide (1<(c:Int)),some [.int x,.int y,.int z]::some (bs.map Af)::R):=rfl
 have ts:Jt (Bh (eOp (oEq false) (Ab 11) (eC (.int 1)))) (Bh (eOp oGt (Ab 4) (eC (.int 1)))) [some (.ref 0),some (.int n),e2,e3,some (.int c),some (.int wd),some (.ref 1),y7,y8,y9,y10,some (.int kind),y12] (some [.int x,.int y,.int z]::some (bs.map Af)::R)=some (decide (kind=1/\1<(c:Int)),some [.int x,.int y,.int z]::some (bs.map Af)::R):=QW k1 k2
 by_cases h:kind=1/\1<(c:Int)
 .rw[decide_eq_true h] at ts
  obtain⟨r,x',z',t1,r0,r1⟩:=FJ x y z ((c:Int)-1) (by omega) (by omega)
  have hr:r.toNat<bs.length:=by omega
  refine⟨bs.set (c-1) bs[r.toNat],x',z',by rw[List.length_set];exact hl,fun b hb=>?_,?_⟩
  .rcases List.mem_or_eq_of_mem_set hb with q|q
   .exact hP b q
   .rw[q];exact hP _ (List.getElem_mem hr)
  .have q1:eOp oIx (Ab 6) (BW Al (Aa (Ab 0) (Aa (eOp EY (Ab 4) (eC (.int 1))) Ae))) [some (.ref 0),some (.int n),e2,e3,some (.int c),some (.int wd),some (.ref 1),y7,y8,y9,y10,some (.int kind),y12] (some [.int x,.int y,.int z]::some (bs.map Af)::R)=some (Af bs[r.toNat],some [.int x',.int y,.int z']::some (bs.map Af)::R):=by
    have v6:Ab 6 [some (.ref 0),some (.int n),e2,e3,some (.int c),some (.int wd),some (.ref 1),y7,y8,y9,y10,some (.int kind),y12] (some [.int x,.int y,.int z]::some (bs.map Af)::R)=some (.ref 1,some [.int x,.int y,.int z]::some (bs.map Af)::R):=rfl
    rw[BK,v6,Option.bind_some,Li t1 rfl rfl,Option.bind_some]
    show Option.map _ (atI (bs.map Af) r)=_
    rw[fG (j:=r.toNat) (by omega) (by simpa using hr)]
    simp
   rw[M8 ts,Ja,q1]
   show(ixN (bs.map Af).length (-1)).bind _=_
   have hx:ixN (bs.map Af).length (-1)=some (c-1):=by
    rw[List.length_map,hl,show c=(c-1)+1 by omega];exact U3
   rw[hx]
   show some (Fl.nx,_,some [.int x',.int y,.int z']::some ((bs.map Af).set (c-1) (Af bs[r.toNat]))::R)=_
   rw[←List.map_set]
 .rw[decide_eq_false h] at ts
  exact⟨bs,x,z,hl,hP,by rw[Ku ts];rfl⟩
theorem oN:∀b∈[[((0:Int),(3:Int)),(0,1)],[(0,3),(2,3)],[(0,1),(0,3)],[(2,3),(0,3)]],Sm 2 3 b:=by
 intro b hb
 simp only[List.mem_cons,List.not_mem_nil,or_false] at hb
 rcases hb with rfl|rfl|rfl|rfl<;>exact⟨rfl,by decide⟩
theorem jf(x y z:Int)(n most:Nat)(h4:4<=most)(h20:most<=20)(e3 y7 y8 y9 y10 y12:Option D)(c:Nat)(wd kind:Int)(bs:List (List St2))(hl:bs.length<=most)(R:Store)(m:Int)(hm:3<=m)(hP:∀b∈bs,Sm n m b):∃(bs':List (List St2))(x' z':Int)(F:D)(w12:Option D),Hold F (some (bs.map Af)::R) bs'/\bs'.length<=most/\(∀b∈bs',Sm n m b) /\
  (sIf (Jt (Bh (eOp (oEq false) (Ab 1) (eC (.int 2)))) (Bh (eOp (oEq false) (Ab 11) (eC (.int 2)))))
  (Bj (Bf 12 (Bm (Aa (Bl (Aa (Bl (Aa (eC (.int 0)) (Aa (eC (.int 3)) Ae))) (Aa (Bl (Aa (eC (.int 0)) (Aa (eC (.int 1)) Ae))) Ae))) (Aa (Bl (Aa (Bl (Aa (eC (.int 0)) (Aa (eC (.int 3)) Ae))) (Aa (Bl (Aa (eC (.int 2)) (Aa (eC (.int 3)) Ae))) Ae))) (Aa (Bl (Aa (Bl (Aa (eC (.int 0)) (Aa (eC (.int 1)) Ae))) (Aa (Bl (Aa (eC (.int 0)) (Aa (eC (.int 3)) Ae))) Ae))) (Aa (Bl (Aa (Bl (Aa (eC (.int 2)) (Aa (eC (.int 3)) Ae))) (Aa (Bl (Aa (eC (.int 0)) (Aa (eC (.int 3)) Ae))) Ae))) Ae))))))
  (Bf 6 (eOp Dh (Ab 12) (eSl oSl (Ab 6) Mx (Mw (BW Al (Aa (Ab 0) (Aa (eOp EY (Ab 2) (eC (.int 3))) Ae))))))))
  En) [some (.ref 0),some (.int n),some (.int most),e3,some (.int c),some (.int wd),some (.ref 1),y7,y8,y9,y10,some (.int kind),y12] (some [.int x,.int y,.int z]::some (bs.map Af)::R) =
  some (.nx,[some (.ref 0),some (.int n),some (.int most),e3,some (.int c),some (.int wd),some F,y7,y8,y9,y10,some (.int kind),w12],some [.int x',.int y,.int z']::some (bs.map Af)::R):=by
 have k1:Bh (eOp (oEq false) (Ab 1) (eC (.int 2))) [some (.ref 0),some (.int n),some (.int most),e3,some (.int c),some (.int wd),some (.ref 1),y7,y8,y9,y10,some (.int kind),y12] (some [.int x,.int y,.int z]::some (bs.map Af)::R)=some (decide ((n:Int)=2),some [.int x,.int y,.int z]::some (bs.map Af)::R):=by simp[Ao,CV,BK,Ef,oEq,-List.map_map,-Option.map_bind]
 have k2:Bh (eOp (oEq false) (Ab 11) (eC (.int 2))) [some (.ref 0),some (.int n),some (.int most),e3,some (.int c),some (.int wd),some (.ref 1),y7,y8,y9,y10,some (.int kind),y12] (some [.int x,.int y,.int z]::some (bs.map Af)::R)=some (decide (kind=2),some [.int x,.int y,.int z]::some (bs.map Af)::R):=by simp[Ao,CV,BK,Ef,oEq,-List.map_map,-Option.map_bind]
 have ts:=QW k1 k2
 by_cases h:(n:Int)=2/\kind=2
 .rw[decide_eq_true h] at ts
  have hn:n=2:=by omega
  obtain⟨r,x',z',t1,r0,r1⟩:=FJ x y z ((most:Int)-3) (by omega) (by omega)
  obtain⟨cs,c1,c2,c3⟩:=qy (F:=Af) bs r0
  refine⟨[[((0:Int),(3:Int)),(0,1)],[(0,3),(2,3)],[(0,1),(0,3)],[(2,3),(0,3)]]++cs,x',z',.lst true (([[((0:Int),(3:Int)),(0,1)],[(0,3),(2,3)],[(0,1),(0,3)],[(2,3),(0,3)]]++cs).map Af),some (.lst true ([[((0:Int),(3:Int)),(0,1)],[(0,3),(2,3)],[(0,1),(0,3)],[(2,3),(0,3)]].map Af)),.inl rfl,by simp;omega,fun b hb=>?_,?_⟩
  .rcases List.mem_append.mp hb with q|q
   .have:=oN b q
    exact⟨by rw[hn];exact this.len,fun p hp=>by have:=this.all p hp;omega⟩
   .exact hP b (c3 b q)
  .rw[M8 ts]
   have s1:∀a:Bb,(a=(Aa (Bl (Aa (Bl (Aa (eC (.int 0)) (Aa (eC (.int 3)) Ae))) (Aa (Bl (Aa (eC (.int 0)) (Aa (eC (.int 1)) Ae))) Ae))) (Aa (Bl (Aa (Bl (Aa (eC (.int 0)) (Aa (eC (.int 3)) Ae))) (Aa (Bl (Aa (eC (.int 2)) (Aa (eC (.int 3)) Ae))) Ae))) (Aa (Bl (Aa (Bl (Aa (eC (.int 0)) (Aa (eC (.int 1)) Ae))) (Aa (Bl (Aa (eC (.int 0)) (Aa (eC (.int 3)) Ae))) Ae))) (Aa (Bl (Aa (Bl (Aa (eC (.int 2)) (Aa (eC (.int 3)) Ae))) (Aa (Bl (Aa (eC (.int 0)) (Aa (eC (.int 3)) Ae))) Ae))) Ae)))))->(Bf 12 (Bm a)) [some (.ref 0),some (.int n),some (.int most),e3,some (.int c),some (.int wd),some (.ref 1),y7,y8,y9,y10,some (.int kind),y12] (some [.int x,.int y,.int z]::some (bs.map Af)::R)=some (.nx,[some (.ref 0),some (.int n),some (.int most),e3,some (.int c),some (.int wd),some (.ref 1),y7,y8,y9,y10,some (.int kind),some (.lst true ([[((0:Int),(3:Int)),(0,1)],[(0,3),(2,3)],[(0,1),(0,3)],[(2,3),(0,3)]].map Af))],some [.int x,.int y,.int z]::some (bs.map Af)::R):=fun a ha=>by rw[ha];rfl
   rw[BP (s1 _ rfl),Bu,BK]
   have v12:∀(g:Option D)(S:Store),Ab 12 [some (.ref 0),some (.int n),some (.int most),e3,some (.int c),some (.int wd),some (.ref 1),y7,y8,y9,y10,some (.int kind),some (.lst true ([[((0:Int),(3:Int)),(0,1)],[(0,3),(2,3)],[(0,1),(0,3)],[(2,3),(0,3)]].map Af))] S=some (.lst true ([[((0:Int),(3:Int)),(0,1)],[(0,3),(2,3)],[(0,1),(0,3)],[(2,3),(0,3)]].map Af),S):=fun _ S=>rfl
   have v6:∀(S:Store),S[1]?=some (some (bs.map Af))->Ab 6 [some (.ref 0),some (.int n),some (.int most),e3,some (.int c),some (.int wd),some (.ref 1),y7,y8,y9,y10,some (.int kind),some (.lst true ([[((0:Int),(3:Int)),(0,1)],[(0,3),(2,3)],[(0,1),(0,3)],[(2,3),(0,3)]].map Af))] S=some (.ref 1,S):=fun S _=>rfl
   have q1:eSl oSl (Ab 6) Mx (Mw (BW Al (Aa (Ab 0) (Aa (eOp EY (Ab 2) (eC (.int 3))) Ae)))) [some (.ref 0),some (.int n),some (.int most),e3,some (.int c),some (.int wd),some (.ref 1),y7,y8,y9,y10,some (.int kind),some (.lst true ([[((0:Int),(3:Int)),(0,1)],[(0,3),(2,3)],[(0,1),(0,3)],[(2,3),(0,3)]].map Af))] (some [.int x,.int y,.int z]::some (bs.map Af)::R)=some (.lst true (cs.map Af),some [.int x',.int y,.int z']::some (bs.map Af)::R):=by
    rw[eX,v6 _ rfl,Option.bind_some,Yh,Option.bind_some,Yg,Li t1 rfl rfl]
    show(some (D.lst true (cut (bs.map Af) none (some r)),some [.int x',.int y,.int z']::some (bs.map Af)::R):Option (D×Store))=_
    rw[c1]
   rw[v12 none,Option.bind_some,q1,Option.bind_some]
   show(Option.map _ (if ([[((0:Int),(3:Int)),(0,1)],[(0,3),(2,3)],[(0,1),(0,3)],[(2,3),(0,3)]].map Af).length+(cs.map Af).length<=1000000 then some (D.lst true ([[((0:Int),(3:Int)),(0,1)],[(0,3),(2,3)],[(0,1),(0,3)],[(2,3),(0,3)]].map Af++cs.map Af)) else none)).bind _=_
   rw[if_pos (by simp;omega),←List.map_append]
   rfl
 .rw[decide_eq_false h] at ts
  exact⟨bs,x,z,.ref 1,y12,.inr ⟨0,rfl,rfl⟩,hl,hP,by rw[Ku ts];rfl⟩
end W17
end
section
namespace W17
open PySem L2 VS
def lat(i:Nat):List St2:=[(((i:Int)*2)%3,((i:Int)*2)%3+1),(((i:Int)*2)/3,((i:Int)*2)/3+1)]
theorem vC{i:Nat}{m:Int}(hi:i<10)(hm:8<=m):Sm 2 m (lat i):=by
 refine⟨rfl,fun p hp=>?_⟩
 unfold lat at hp
 simp only[List.mem_cons,List.not_mem_nil,or_false] at hp
 rcases hp with rfl|rfl
 .simp only;omega
 .simp only;omega
theorem jj(r:VS.Env)(S:Store)(most:Nat)(hm:most<=20)(h:r[2]?=some (some (.int most))):LR r S=some ((List.range most).map (fun i=>Af (lat i)),S):=by
 have e:Sd (Aa (eC (.int 0)) (Aa (eOp Gp (eC (.int 2)) (Ab 2)) (Aa (eC (.int 2)) Ae))) r S=some ((upW 0 most,[]),S):=by
  have a1:Aa (eC (.int 0)) (Aa (eOp Gp (eC (.int 2)) (Ab 2)) (Aa (eC (.int 2)) Ae)) r S=some ([.int 0,.int (2*most),.int 2],S):=by simp[Ao,CV,BK,BR,Ak,Nq,Gp,VS.listOf,-List.map_map,-Option.map_bind,h]
  have e2:Lq 0 (2*(most:Int))=most:=by unfold Lq;omega
  rw[dO,a1,Option.bind_some]
  show(if (-1000000<=(0:Int)/\(0:Int)<=1000000)/\-1000000<=2*(most:Int)/\2*(most:Int)<=1000000 then some ((upW 0 (Lq 0 (2*(most:Int))),([]:List (Nat×List D))),S) else none)=_
  rw[if_pos ⟨⟨by decide,by decide⟩,by omega,by omega⟩,e2]
 unfold LR Cj
 rw[e]
 simp only[Option.bind_some]
 unfold upW
 rw[J7 (by simp) (fun i:Nat=>D.int (0+(i:Nat)*2)) (fun i=>Af (lat i)) (List.range most) (by simp;omega)]
 intro i _
 exact⟨_,Cg _ _ _,by simp[Ao,CV,BK,BR,Ak,Ia,HS,oI,Tn,Qw,Dh,oDiv,oMod,VS.listOf,List.replicate_succ,-List.map_map,-Option.map_bind,Af,Ba,lat]⟩
theorem je(p:List D)(n most:Nat)(h20:most<=20)(h2:n=2->most<=10)(e3 y7 y8 y9 y10 y12:Option D)(c:Nat)(wd kind:Int)(F:D)(T:Store)(bs:List (List St2))(hF:Hold F T bs)(hl:bs.length<=most)(m:Int)(hm:8<=m)(hP:∀b∈bs,Sm n m b):∃(bs':List (List St2))(F':D)(T':Store),Hold F' T' bs'/\bs'.length<=most/\(∀b∈bs',Sm n m b) /\
  (sIf (Jt (Bh (eOp (oEq false) (Ab 1) (eC (.int 2)))) (Bh (eOp (oEq false) (Ab 11) (eC (.int 3))))) (Bf 6 (Hj LR)) En) [some (.ref 0),some (.int n),some (.int most),e3,some (.int c),some (.int wd),some F,y7,y8,y9,y10,some (.int kind),y12] (some p::T) =
  some (.nx,[some (.ref 0),some (.int n),some (.int most),e3,some (.int c),some (.int wd),some F',y7,y8,y9,y10,some (.int kind),y12],some p::T'):=by
 have k1:Bh (eOp (oEq false) (Ab 1) (eC (.int 2))) [some (.ref 0),some (.int n),some (.int most),e3,some (.int c),some (.int wd),some F,y7,y8,y9,y10,some (.int kind),y12] (some p::T)=some (decide ((n:Int)=2),some p::T):=by simp[Ao,CV,BK,Ef,oEq,-List.map_map,-Option.map_bind]
 have k2:Bh (eOp (oEq false) (Ab 11) (eC (.int 3))) [some (.ref 0),some (.int n),some (.int most),e3,some (.int c),some (.int wd),some F,y7,y8,y9,y10,some (.int kind),y12] (some p::T)=some (decide (kind=3),some p::T):=by simp[Ao,CV,BK,Ef,oEq,-List.map_map,-Option.map_bind]
 have ts:=QW k1 k2
 by_cases h:(n:Int)=2/\kind=3
 .rw[decide_eq_true h] at ts
  have hn:n=2:=by omega
  have c1:=jj [some (.ref 0),some (.int n),some (.int most),e3,some (.int c),some (.int wd),some F,y7,y8,y9,y10,some (.int kind),y12] (some p::T) most h20 rfl
  refine⟨(List.range most).map lat,.ref (T.length+1),T++[some (((List.range most).map lat).map Af)],.inr ⟨T.length,rfl,Ti T _ []⟩,by simp,fun b hb=>?_,?_⟩
  .obtain⟨i,hi,rfl⟩:=List.mem_map.mp hb
   have:=List.mem_range.mp hi
   have:=h2 hn
   rw[hn]
   exact vC (by omega) hm
  .rw[M8 ts,Bu,Nh,c1,List.map_map]
   rfl
 .rw[decide_eq_false h] at ts
  exact⟨bs,F,T,hF,hl,hP,by rw[Ku ts];rfl⟩
theorem jd(x y z:Int)(n most many:Nat)(hn:n<=3)(h20:most<=20)(hM:8<many->2*most<=many)(y7 y8 y9 y10 y12:Option D)(c:Nat)(hc:c<=most)(wd kind:Int)(F:D)(T:Store)(bs:List (List St2))(hF:Hold F T bs)(hl:bs.length<=most)(hP:∀b∈bs,Sm n many b):∃(bs':List (List St2))(F':D)(T':Store)(x' z':Int),Hold F' T' bs'/\bs'.length<=most/\(∀b∈bs',Sm n many b) /\
  (sIf (Jt (Bh (eOp oGt (Ab 11) (eC (.int 5)))) (Bh (eOp oGt (Ab 3) (eC (.int 8))))) (Bf 6 (RD G8 (Aa (Ab 0) (Aa (Ab 1) (Aa (Ab 4) Ae))))) En) [some (.ref 0),some (.int n),some (.int most),some (.int many),some (.int c),some (.int wd),some F,y7,y8,y9,y10,some (.int kind),y12] (some [.int x,.int y,.int z]::T) =
  some (.nx,[some (.ref 0),some (.int n),some (.int most),some (.int many),some (.int c),some (.int wd),some F',y7,y8,y9,y10,some (.int kind),y12],some [.int x',.int y,.int z']::T'):=by
 have k1:Bh (eOp oGt (Ab 11) (eC (.int 5))) [some (.ref 0),some (.int n),some (.int most),some (.int many),some (.int c),some (.int wd),some F,y7,y8,y9,y10,some (.int kind),y12] (some [.int x,.int y,.int z]::T)=some (decide (5<kind),some [.int x,.int y,.int z]::T):=rfl
 have k2:Bh (eOp oGt (Ab 3) (eC (.int 8))) [some (.ref 0),some (.int n),some (.int most),some (.int many),some (.int c),some (.int wd),some F,y7,y8,y9,y10,some (.int kind),y12] (some [.int x,.int y,.int z]::T)=some (decide (8<(many:Int)),some [.int x,.int y,.int z]::T):=rfl
 have ts:=QW k1 k2
 by_cases h:5<kind/\8<(many:Int)
 .rw[decide_eq_true h] at ts
  have hm:=hM (by omega)
  obtain⟨bs',x',z',u1,u2,u3⟩:=fJ x y z n c hn (by omega)
  refine⟨bs',.ref (T.length+1),T++[some (bs'.map Af)],x',z',.inr ⟨T.length,rfl,Ti T _ []⟩,by omega,fun b hb=>?_,?_⟩
  .have:=u3 b hb
   exact⟨this.len,fun p hp=>by have:=this.all p hp;omega⟩
  .have v0:Ab 0 [some (.ref 0),some (.int n),some (.int most),some (.int many),some (.int c),some (.int wd),some F,y7,y8,y9,y10,some (.int kind),y12] (some [.int x,.int y,.int z]::T)=some (.ref 0,some [.int x,.int y,.int z]::T):=rfl
   rw[M8 ts,Bu,jU (d':=.ref (T.length+1)) (cs:=bs'.map Af) (Im (ns:=[x,y,z]) (rest:=[.int n,.int c]) (es:=[.int n,.int c]) (i:=0) (S':=some [.int x,.int y,.int z]::T) (by rw[Ak,v0];rfl) rfl (by simp[Aq,BZ]) (by simp[Bg,age]) u1) (by
    show(if Eo (bs'.map Af)=true then some (D.ref (T.length+1),bs'.map Af) else none)=_
    rw[if_pos (Ci bs')])]
   rfl
 .rw[decide_eq_false h] at ts
  exact⟨bs,F,T,x,z,hF,hl,hP,by rw[Ku ts];rfl⟩
end W17
end
section
namespace W17
open PySem L2 VS
theorem Yw{F:D}{T:Store}{bs:List (List St2)}(h:Hold F T bs)(p:Option (List D)):den 1 (p::T) F=some (.lst true (bs.map Af)):=by
 have hp:Aq (bs.map Af)=true:=Di (Ci bs)
 rcases h with rfl|⟨j,rfl,h⟩
 .rw[den,Cz 1 _ hp];rfl
 .rw[den,if_neg (by omega)]
  show(match T[j]? with|some (some ds)=>if Aq ds=true then some (D.lst true ds) else none|_=>none)=_
  rw[h]
  show(if Aq (bs.map Af)=true then _ else _)=_
  rw[if_pos hp]
theorem jh(x y z:Int)(n most many:Nat)(hn:n<=3)(h4:4<=most)(h20:most<=20)(h2:n=2->most<=10)(hm8:8<=many)(hm40:many<=40)(hM:8<many->2*most<=many):∃(bs:List (List St2))(x' z':Int),Gg [x,y,z] [.int n,.int most,.int many]=some (.lst true (bs.map Af),[x',y,z'])/\bs.length<=most/\∀b∈bs,Sm n many b:=by
 obtain⟨r1,x1,z1,e1,p1,p2⟩:=FJ x y z ((most:Int)+1) (by omega) (by omega)
 obtain⟨r2,x2,z2,e2,p3,p4⟩:=FJ x1 y z1 most (by omega) (by omega)
 obtain⟨r3,x3,z3,e3,p5,p6⟩:=FJ x2 y z2 3 (by decide) (by decide)
 obtain⟨c,f1,hc⟩:∃c:Nat,atI [D.int r1,D.int most,D.int (1+r2)] r3=some (.int c)/\c<=most:=by
  have:r3=0∨r3=1∨r3=2:=by omega
  rcases this with rfl|rfl|rfl
  .exact⟨r1.toNat,by rw[xq,Int.toNat_of_nonneg p1],by omega⟩
  .exact⟨most,by simp,Nat.le_refl _⟩
  .exact⟨(1+r2).toNat,by rw[xg,Int.toNat_of_nonneg (by omega)],by omega⟩
 obtain⟨r4,x4,z4,e4,p7,p8⟩:=FJ x3 y z3 4 (by decide) (by decide)
 obtain⟨wd,f2,w0,w1⟩:∃wd:Int,atI [D.int 2,D.int 3,D.int 5,D.int many] r4=some (.int wd)/\0<wd/\wd<=many:=by
  have:r4=0∨r4=1∨r4=2∨r4=3:=by omega
  rcases this with rfl|rfl|rfl|rfl
  .exact⟨2,by simp,by decide,by omega⟩
  .exact⟨3,by simp,by decide,by omega⟩
  .exact⟨5,by simp,by decide,by omega⟩
  .exact⟨many,by simp,by omega,by omega⟩
 obtain⟨bs,x5,z5,R5,y7,y8,y9,y10,b1,b2,l2⟩:=ji x4 y z4 n c hn (by omega) (some (.int most)) (some (.int many)) wd w0 (by omega)
 obtain⟨kind,x6,z6,e6,_,_⟩:=FJ x5 y z5 8 (by decide) (by decide)
 have b2':∀b∈bs,Sm n many b:=fun b hb=>⟨(b2 b hb).len,fun p hp=>by have:=(b2 b hb).all p hp;omega⟩
 obtain⟨bs5,x7,z7,c1,c2,s5⟩:=jg x6 y z6 n (some (.int most)) (some (.int many)) y7 y8 y9 y10 none c (by omega) wd kind bs b1 R5 (Sm n many) b2'
 obtain⟨bs6,x8,z8,F6,w12,d0,d1,d2,s6⟩:=jf x7 y z7 n most h4 h20 (some (.int many)) y7 y8 y9 y10 none c wd kind bs5 (by omega) R5 many (by omega) c2
 obtain⟨bs7,F7,T7,g0,g1,g2,s7⟩:=je [.int x8,.int y,.int z8] n most h20 h2 (some (.int many)) y7 y8 y9 y10 w12 c wd kind F6 _ bs6 d0 d1 many (by omega) d2
 obtain⟨bs8,F8,T8,x9,z9,i0,i1,i2,s8⟩:=jd x8 y z8 n most many hn h20 hM y7 y8 y9 y10 w12 c hc wd kind F7 T7 bs7 g0 g1 g2
 refine⟨bs8,x9,z9,?_,i1,i2⟩
 have s1:(Bf 4 (eOp oIx (Bm (Aa (BW Al (Aa (Ab 0) (Aa (eOp Dh (Ab 2) (eC (.int 1))) Ae))) (Aa (Ab 2) (Aa (eOp Dh (eC (.int 1)) (BW Al (Aa (Ab 0) (Aa (Ab 2) Ae)))) Ae)))) (BW Al (Aa (Ab 0) (Aa (eC (.int 3)) Ae))))) [some (.ref 0),some (.int n),some (.int most),some (.int many),none,none,none,none,none,none,none,none,none] [some [.int x,.int y,.int z]]=some (.nx,[some (.ref 0),some (.int n),some (.int most),some (.int many),some (.int c),none,none,none,none,none,none,none,none],[some [.int x3,.int y,.int z3]]):=by
  simp[Bu,Ao,CV,BK,BR,Ak,Cr,MF,Dh,oIx,VS.listOf,CN,intsOf,den,Ck,age,Bg,BZ,Aq,-List.map_map,-Option.map_bind,e1,e2,e3,f1]
 have s2:(Bf 5 (eOp oIx (Bm (Aa (eC (.int 2)) (Aa (eC (.int 3)) (Aa (eC (.int 5)) (Aa (Ab 3) Ae))))) (BW Al (Aa (Ab 0) (Aa (eC (.int 4)) Ae))))) [some (.ref 0),some (.int n),some (.int most),some (.int many),some (.int c),none,none,none,none,none,none,none,none] [some [.int x3,.int y,.int z3]]=some (.nx,[some (.ref 0),some (.int n),some (.int most),some (.int many),some (.int c),some (.int wd),none,none,none,none,none,none,none],[some [.int x4,.int y,.int z4]]):=by
  simp[Bu,Ao,CV,BK,BR,Ak,Cr,MF,oIx,VS.listOf,CN,intsOf,den,Ck,age,Bg,BZ,Aq,-List.map_map,-Option.map_bind,e4,f2]
 have s3:(Bf 6 (Hj Ae)) [some (.ref 0),some (.int n),some (.int most),some (.int many),some (.int c),some (.int wd),none,none,none,none,none,none,none] [some [.int x4,.int y,.int z4]]=some (.nx,[some (.ref 0),some (.int n),some (.int most),some (.int many),some (.int c),some (.int wd),some (.ref 1),none,none,none,none,none,none],[some [.int x4,.int y,.int z4],some []]):=rfl
 have s4:(Bf 11 (BW Al (Aa (Ab 0) (Aa (eC (.int 8)) Ae)))) [some (.ref 0),some (.int n),some (.int most),some (.int many),some (.int c),some (.int wd),some (.ref 1),y7,y8,y9,y10,none,none] (some [.int x5,.int y,.int z5]::some (bs.map Af)::R5)=some (.nx,[some (.ref 0),some (.int n),some (.int most),some (.int many),some (.int c),some (.int wd),some (.ref 1),y7,y8,y9,y10,some (.int kind),none],some [.int x6,.int y,.int z6]::some (bs.map Af)::R5):=by
  rw[Bu,Li e6 rfl rfl];rfl
 unfold Gg
 rw[Lj]
 simp only[List.length_cons,List.length_nil,List.map_cons,List.map_nil,Nat.reduceAdd,Nat.reduceSub,List.replicate_succ,List.replicate_zero,List.cons_append,List.nil_append,if_true]
 unfold TF
 rw[BP s1,BP s2,BP s3,BP l2,BP s4,BP s5,BP s6,BP s7,BP s8,Cq]
 have v6:Ab 6 [some (.ref 0),some (.int n),some (.int most),some (.int many),some (.int c),some (.int wd),some F8,y7,y8,y9,y10,some (.int kind),w12] (some [.int x9,.int y,.int z9]::T8)=some (F8,some [.int x9,.int y,.int z9]::T8):=rfl
 rw[v6,Option.bind_some]
 show((intsOf ([x9,y,z9].map D.int)).bind fun ms=>(den 1 (some [.int x9,.int y,.int z9]::T8) F8).map fun r=>(r,ms))=_
 rw[Ip,Yw i0];rfl
end W17
end
section
namespace W17
open PySem L2 VS
def Dj(ms:List Int):D:=.lst true (ms.map .int)
def placed(mss:List (List Int))(b:List St2):List St2:=(mss.zip b).map fun q=>(q.1.getD q.2.1.toNat 0,q.1.getD q.2.2.toNat 0)
theorem S6{α β:Type}{F:α->D}{G:β->D}:∀(as:List α)(bs:List β),DX (as.map F) (bs.map G)=(as.zip bs).map fun q=>.tup [F q.1,G q.2]
 |[],_=>rfl
 |_::_,[]=>rfl
 |a::r,b::s=>by rw[List.map_cons,List.map_cons,DX,S6 r s];rfl
theorem qd(x y z:Int)(n many:Nat)(most sm:D)(hn:n<=3)(h0:8<=many)(h1:many<=40):∃(mss:List (List Int))(x' z':Int),Ly [some (.ref 0),some (.int n),some most,some (.int many),some sm,none,none,none] [some [.int x,.int y,.int z]]=some (mss.map Dj,[some [.int x',.int y,.int z']])/\mss.length=n/\∀ms∈mss,Mk many ms:=by
 have e:Et (Aa (Ab 1) Ae) [some (.ref 0),some (.int n),some most,some (.int many),some sm,none,none,none] [some [.int x,.int y,.int z]]=some ((upD 0 n,[]),[some [.int x,.int y,.int z]]):=M5 _ rfl (by simp) (by omega) (by omega)
 unfold Ly Cj
 rw[e]
 simp only[Option.bind_some]
 obtain⟨ys,S',e2,mss,x',z',hy,hS,hl,hb⟩:=Yy (w:=[]) (e0:=HS 1 [0,3] [some (.ref 0),some (.int n),some most,some (.int many),some sm,none,none,none]) (g:=Pat.sem (.nm 0)) (ds:=upD 0 n) (S:=[some [.int x,.int y,.int z]])
  (f:=(BW Gh (Aa (Ab 1) (Aa (Ab 2) Ae))))
  (fun i ys S=>∃(mss:List (List Int))(x' z':Int),ys=mss.map Dj/\S=[some [.int x',.int y,.int z']]/\mss.length=min i n/\∀ms∈mss,Mk many ms)
  ⟨[],x,z,rfl,rfl,by simp,fun n hn=>by simp at hn⟩ (fun i ys S q=>by obtain⟨ns,x',z',h1,h2,h3,h4⟩:=q;exact⟨by simp,by rw[h1,List.length_map,h3];omega⟩)
  (fun i d ys S hd q=>by
   obtain⟨mss,x',z',h1,h2,h3,h4⟩:=q
   obtain⟨hi,rfl⟩:=Q5 hd
   obtain⟨ms,x2,z2,e3,M⟩:=lC x' y z' many h0 (by assumption)
   subst h1 h2
   refine⟨[some (.int (0+i)),some (.ref 0),some (.int many)],Dj ms,[some [.int x2,.int y,.int z2]],by rw[Cg];rfl,?_,mss++[ms],x2,z2,by simp,rfl,by simp;omega,fun n hn=>?_⟩
   .exact Im (ns:=[x',y,z']) (rest:=[.int many]) (es:=[.int many]) (i:=0) (S':=[some [.int x',.int y,.int z']]) rfl rfl (by simp[Aq,BZ]) (by simp[Bg,age]) e3
   .rcases List.mem_append.mp hn with z|z
    .exact h4 n z
    .rw[List.mem_singleton.mp z];exact M)
 subst hy hS
 rw[NT,Nat.min_self] at hl
 exact⟨mss,x',z',e2,hl,hb⟩
theorem bQ{ms:List Int}{m:Nat}{v:Int}(hm:Mk m ms)(h0:0<=v)(h1:v<=m):atI (ms.map D.int) v=some (.int (ms.getD v.toNat 0)):=by
 have hl:v.toNat<ms.length:=by rw[hm.len];omega
 rw[fG (j:=v.toNat) (by omega) (by simpa using hl),List.getD_eq_getElem?_getD,List.getElem?_eq_getElem hl]
 simp
theorem qb(r:VS.Env)(S:Store)(mss:List (List Int))(b:List St2)(m n:Nat)(hn:n<=3)(hl:mss.length=n)(hM:∀ms∈mss,Mk m ms)(hb:Sm n m b)(h5:r[5]?=some (some (.lst true (mss.map Dj))))(h7:r[7]?=some (some (Af b))):Ph r S=some ((placed mss b).map Ba,S):=by
 have e:Oi (Aa (Ab 5) (Aa (Ab 7) Ae)) r S=some (((mss.zip b).map fun q=>D.tup [Dj q.1,Ba q.2],[]),S):=by
  have v5:Ab 5 r S=some (.lst true (mss.map Dj),S):=by rw[Ao,h5];rfl
  have v7:Ab 7 r S=some (Af b,S):=by rw[Ao,h7];rfl
  rw[Yn,Ak,v5,Option.bind_some,Ak,v7]
  show(some ((DX (mss.map Dj) (b.map Ba),([]:List (Nat×List D))),S))=_
  rw[S6]
 unfold Ph Cj
 rw[e]
 simp only[Option.bind_some]
 rw[J7 (by simp) (fun q:List Int×St2=>D.tup [Dj q.1,Ba q.2]) (fun q=>Ba (q.1.getD q.2.1.toNat 0,q.1.getD q.2.2.toNat 0)) (mss.zip b) (by rw[List.length_zip];omega)]
 .unfold placed;rw[List.map_map];rfl
 .intro q hq
  obtain⟨ms,p⟩:=q
  have hm:=hM ms (List.of_mem_zip hq).1
  have hp:=hb.all p (List.of_mem_zip hq).2
  have a1:=bQ hm hp.1 (by omega)
  have a2:=bQ hm (v:=p.2) (by omega) hp.2.2
  exact⟨[some (Dj ms),some (.int p.1),some (.int p.2)],by simp[HS,Cg,Hy,G7,Fe,List.replicate_succ,-List.map_map,-Option.map_bind,Ba],by simp[Ao,BK,BR,Ak,Ia,oIx,VS.listOf,CN,-List.map_map,-Option.map_bind,Dj,a1,a2,Ba]⟩
theorem Wb{mss:List (List Int)}{b:List St2}{m n:Nat}(hl:mss.length=n)(hM:∀ms∈mss,Mk m ms)(hb:Sm n m b):(placed mss b).length=n/\∀p∈placed mss b,p.1<p.2/\-1000000000<=p.1/\p.2<=1000000000:=by
 have h1:=hb.len
 refine⟨by unfold placed;rw[List.length_map,List.length_zip];omega,fun p hp=>?_⟩
 obtain⟨q,hq,rfl⟩:=List.mem_map.mp hp
 obtain⟨ms,p⟩:=q
 have hm:=hM ms (List.of_mem_zip hq).1
 have hp:=hb.all p (List.of_mem_zip hq).2
 have l1:p.1.toNat<ms.length:=by rw[hm.len];omega
 have l2:p.2.toNat<ms.length:=by rw[hm.len];omega
 simp only[List.getD_eq_getElem?_getD,List.getElem?_eq_getElem l1,List.getElem?_eq_getElem l2,Option.getD_some]
 exact⟨(List.pairwise_iff_getElem.mp hm.rise) _ _ l1 l2 (by omega),(hm.near _ (List.getElem_mem l1)).1,(hm.near _ (List.getElem_mem l2)).2⟩
end W17
end
section
namespace W17
open PySem L2 VS
structure Made(n m:Nat)(sm:List (List St2))(mss:List (List Int)):Prop where
 few:sm.length<=[0,20,10,6].getD n 0
 box:∀b∈sm,Sm n m b
 len:mss.length=n
 mks:∀ms∈mss,Mk m ms
 big:m<=40
theorem Made.good{n m:Nat}{sm:List (List St2)}{mss:List (List Int)}(h:Made n m sm mss)(hn:n=1∨n=2∨n=3):Good n (sm.map (placed mss)) :=
 ⟨hn,by rw[List.length_map];exact h.few,fun b hb=>by
  obtain⟨c,hc,rfl⟩:=List.mem_map.mp hb
  exact Wb h.len h.mks (h.box c hc)⟩
theorem qY(p:List D)(n m:Nat)(hn:n<=3)(most mn':D)(sm:List (List St2))(hsm:sm.length<=20)(hb:∀b∈sm,Sm n m b)(mss:List (List Int))(hl:mss.length=n)(hM:∀ms∈mss,Mk m ms):∃z7:Option D,
  Pg [some (.ref 0),some (.int n),some most,some mn',some (.lst true (sm.map Af)),some (.lst true (mss.map Dj)),some (.ref 1),none] [some p,some []]=some (.nx,[some (.ref 0),some (.int n),some most,some mn',some (.lst true (sm.map Af)),some (.lst true (mss.map Dj)),some (.ref 1),z7],[some p,some ((sm.map (placed mss)).map Af)]):=by
 have e:Dc (Ab 4) [some (.ref 0),some (.int n),some most,some mn',some (.lst true (sm.map Af)),some (.lst true (mss.map Dj)),some (.ref 1),none] [some p,some []]=some ((sm.map Af,[]),[some p,some []]):=rfl
 obtain⟨env',S',e2,z7,he,hS⟩:=Ej (w:=[]) (g:=Pat.sem (.nm 7)) (b:=Pj) (ds:=sm.map Af) (env:=[some (.ref 0),some (.int n),some most,some mn',some (.lst true (sm.map Af)),some (.lst true (mss.map Dj)),some (.ref 1),none]) (S:=[some p,some []])
  (fun i env S=>∃z7:Option D,env=[some (.ref 0),some (.int n),some most,some mn',some (.lst true (sm.map Af)),some (.lst true (mss.map Dj)),some (.ref 1),z7]/\S=[some p,some (((sm.take i).map (placed mss)).map Af)])
  ⟨none,rfl,rfl⟩ (fun i env S _=>by simp) (fun i d env S hd q=>by
   obtain⟨z7,he,hS⟩:=q
   subst he hS
   rw[List.getElem?_map] at hd
   obtain⟨b,hb',rfl⟩:=Option.map_eq_some_iff.mp hd
   have hi:i<sm.length:=(List.getElem?_eq_some_iff.mp hb').1
   refine⟨[some (.ref 0),some (.int n),some most,some mn',some (.lst true (sm.map Af)),some (.lst true (mss.map Dj)),some (.ref 1),some (Af b)],by rw[Cg];rfl,[some (.ref 0),some (.int n),some most,some mn',some (.lst true (sm.map Af)),some (.lst true (mss.map Dj)),some (.ref 1),some (Af b)],[some p,some (((sm.take (i+1)).map (placed mss)).map Af)],?_,_,rfl,rfl⟩
   have c2:=qb [some (.ref 0),some (.int n),some most,some mn',some (.lst true (sm.map Af)),some (.lst true (mss.map Dj)),some (.ref 1),some (Af b)] [some p,some (((sm.take i).map (placed mss)).map Af)] mss b m n hn hl hM (hb b (List.mem_of_getElem? hb')) rfl rfl
   unfold Pj
   rw[HW,J5 (d:=.ref 1) (cs:=((sm.take i).map (placed mss)).map Af) (ds:=[Af (placed mss b)]) (r:=.non) (S1:=[some p,some (((sm.take i).map (placed mss)).map Af)]) (S2:=[some p,some (((sm.take i).map (placed mss)).map Af)]) (S3:=[some p,some (((sm.take (i+1)).map (placed mss)).map Af)]) rfl rfl (by
    rw[Ak,Ew,Ak,Cr,c2];rfl) (by
    show(if (((sm.take i).map (placed mss)).map Af).length<1000000 then some (D.non,[some p,some (((sm.take i).map (placed mss)).map Af++[Af (placed mss b)])]) else none)=_
    rw[if_pos (by rw[List.length_map,List.length_map,List.length_take];omega),List.take_succ,hb',Option.toList_some,List.map_append,List.map_append]
    rfl)]
   rfl)
 subst he hS
 have:(sm.map Af).length=sm.length:=by simp
 rw[this,List.take_length] at e2
 refine⟨z7,?_⟩
 unfold Pg
 rw[Fd,e]
 exact e2
theorem Qg:∀mss:List (List Int),Aq (mss.map Dj)=true
 |[]=>rfl
 |m::r=>by rw[List.map_cons,Aq,Dj,BZ,FQ,Qg r];rfl
theorem qX(x y z:Int)(n most:Nat)(h1:n=1∨n=2∨n=3)(h4:4<=most)(hm:most<=[0,20,10,6].getD n 0):∃(m:Nat)(sm:List (List St2))(mss:List (List Int))(x' z':Int),GK [x,y,z] [.int n,.int most]=some (.tup [.lst true (sm.map Af),.lst true (mss.map Dj),Av true n (sm.map (placed mss))],[x',y,z'])/\Made n m sm mss:=by
 obtain⟨r1,x1,z1,e1,_,_⟩:=FJ x y z 3 (by decide) (by decide)
 obtain⟨m,f1,m8,m40,hM⟩:∃m:Nat,atI [D.int 8,D.int ([0,40,20,12].getD n 0:Nat)] (if r1=0 then 1 else 0)=some (.int m)/\8<=m/\m<=40/\(8<m->2*most<=m):=by
  by_cases h:r1=0
  .rw[if_pos h]
   refine⟨[0,40,20,12].getD n 0,by simp,?_⟩
   rcases h1 with rfl|rfl|rfl<;>simp at hm ⊢<;>omega
  .rw[if_neg h]
   exact⟨8,by simp,by decide,by decide,by omega⟩
 have hn3:n<=3:=by omega
 have h20:most<=20:=by rcases h1 with rfl|rfl|rfl<;>simp at hm<;>omega
 have h10:n=2->most<=10:=fun h=>by rw[h] at hm;simpa using hm
 obtain⟨sm,x2,z2,e2,s1,s2⟩:=jh x1 y z1 n most m hn3 h4 h20 h10 m8 m40 hM
 obtain⟨mss,x3,z3,e3,hl,hk⟩:=qd x2 y z2 n m (.int most) (.lst true (sm.map Af)) hn3 m8 m40
 obtain⟨z7,l1⟩:=qY [.int x3,.int y,.int z3] n m hn3 (.int most) (.int m) sm (by omega) s2 mss hl hk
 refine⟨m,sm,mss,x3,z3,?_,⟨by omega,s2,hl,hk,m40⟩⟩
 have f0:atI [D.int 0,D.int 40,D.int 20,D.int 12] (n:Int)=some (.int ([0,40,20,12].getD n 0:Nat)):=by
  rcases h1 with rfl|rfl|rfl<;>rfl
 have t1:(Bf 3 (eOp oIx (Bm (Aa (eC (.int 8)) (Aa (eOp oIx (Bm (Aa (eC (.int 0)) (Aa (eC (.int 40)) (Aa (eC (.int 20)) (Aa (eC (.int 12)) Ae))))) (Ab 1)) Ae))) (eCB PK (Aa (eOp (oEq false) (BW Al (Aa (Ab 0) (Aa (eC (.int 3)) Ae))) (eC (.int 0))) Ae)))) [some (.ref 0),some (.int n),some (.int most),none,none,none,none,none] [some [.int x,.int y,.int z]]=some (.nx,[some (.ref 0),some (.int n),some (.int most),some (.int m),none,none,none,none],[some [.int x1,.int y,.int z1]]):=by
  have a1:Bm (Aa (eC (.int 8)) (Aa (eOp oIx (Bm (Aa (eC (.int 0)) (Aa (eC (.int 40)) (Aa (eC (.int 20)) (Aa (eC (.int 12)) Ae))))) (Ab 1)) Ae)) [some (.ref 0),some (.int n),some (.int most),none,none,none,none,none] [some [.int x,.int y,.int z]]=some (.lst true [.int 8,.int ([0,40,20,12].getD n 0:Nat)],[some [.int x,.int y,.int z]]):=by
   have a2:eOp oIx (Bm (Aa (eC (.int 0)) (Aa (eC (.int 40)) (Aa (eC (.int 20)) (Aa (eC (.int 12)) Ae))))) (Ab 1) [some (.ref 0),some (.int n),some (.int most),none,none,none,none,none] [some [.int x,.int y,.int z]]=some (.int ([0,40,20,12].getD n 0:Nat),[some [.int x,.int y,.int z]]):=by
    show Option.map _ (atI [D.int 0,D.int 40,D.int 20,D.int 12] (n:Int))=_
    rw[f0];rfl
   rw[Cr,Ak,CV,Option.bind_some,Ak,a2];rfl
  have a3:eCB PK (Aa (eOp (oEq false) (BW Al (Aa (Ab 0) (Aa (eC (.int 3)) Ae))) (eC (.int 0))) Ae) [some (.ref 0),some (.int n),some (.int most),none,none,none,none,none] [some [.int x,.int y,.int z]]=some (.int (if r1=0 then 1 else 0),[some [.int x1,.int y,.int z1]]):=by
   rw[Ew,Ak,BK,Li e1 rfl rfl]
   by_cases h:r1=0<;>simp[CV,BR,oEq,PK,-List.map_map,-Option.map_bind,h]
  rw[Bu,BK,a1,Option.bind_some,a3,Option.bind_some]
  show(Option.map _ (atI [D.int 8,D.int ([0,40,20,12].getD n 0:Nat)] (if r1=0 then 1 else 0))).bind _=_
  rw[f1];rfl
 have t2:(Bf 4 (BW Gg (Aa (Ab 0) (Aa (Ab 1) (Aa (Ab 2) (Aa (Ab 3) Ae)))))) [some (.ref 0),some (.int n),some (.int most),some (.int m),none,none,none,none] [some [.int x1,.int y,.int z1]]=some (.nx,[some (.ref 0),some (.int n),some (.int most),some (.int m),some (.lst true (sm.map Af)),none,none,none],[some [.int x2,.int y,.int z2]]):=by
  rw[Bu,Im (ns:=[x1,y,z1]) (rest:=[.int n,.int most,.int m]) (es:=[.int n,.int most,.int m]) (i:=0) (S':=[some [.int x1,.int y,.int z1]]) rfl rfl (by simp[Aq,BZ]) (by simp[Bg,age]) e2];rfl
 have t3:(Bf 5 (Bm Ly)) [some (.ref 0),some (.int n),some (.int most),some (.int m),some (.lst true (sm.map Af)),none,none,none] [some [.int x2,.int y,.int z2]]=some (.nx,[some (.ref 0),some (.int n),some (.int most),some (.int m),some (.lst true (sm.map Af)),some (.lst true (mss.map Dj)),none,none],[some [.int x3,.int y,.int z3]]):=by
  rw[Bu,Cr,e3];rfl
 have t4:(Bf 6 (Hj Ae)) [some (.ref 0),some (.int n),some (.int most),some (.int m),some (.lst true (sm.map Af)),some (.lst true (mss.map Dj)),none,none] [some [.int x3,.int y,.int z3]]=some (.nx,[some (.ref 0),some (.int n),some (.int most),some (.int m),some (.lst true (sm.map Af)),some (.lst true (mss.map Dj)),some (.ref 1),none],[some [.int x3,.int y,.int z3],some []]):=rfl
 unfold GK
 rw[Lj]
 simp only[List.length_cons,List.length_nil,List.map_cons,List.map_nil,Nat.reduceAdd,Nat.reduceSub,List.replicate_succ,List.replicate_zero,List.cons_append,List.nil_append,if_true]
 unfold V9
 rw[BP t1,BP t2,BP t3,BP t4,BP l1]
 show((intsOf ([x3,y,z3].map D.int)).bind fun ms=>(den 1 [some [.int x3,.int y,.int z3],some ((sm.map (placed mss)).map Af)] (.tup [.lst true (sm.map Af),.lst true (mss.map Dj),.tup [.int n,.ref 1]])).map fun r=>(r,ms))=_
 have d1:=Cz 1 [some [.int x3,.int y,.int z3],some ((sm.map (placed mss)).map Af)] (Di (Ci sm))
 have d2:=Cz 1 [some [.int x3,.int y,.int z3],some ((sm.map (placed mss)).map Af)] (Qg mss)
 have d3:=Yw (F:=.ref 1) (T:=[some ((sm.map (placed mss)).map Af)]) (bs:=sm.map (placed mss)) (.inr ⟨0,rfl,rfl⟩) (some [.int x3,.int y,.int z3])
 generalize [some [D.int x3,D.int y,D.int z3],some ((sm.map (placed mss)).map Af)]=S at *
 have q1:den 1 S (.lst true (sm.map Af))=some (.lst true (sm.map Af)):=by rw[den,d1];rfl
 have q2:den 1 S (.lst true (mss.map Dj))=some (.lst true (mss.map Dj)):=by rw[den,d2];rfl
 have q0:den 1 S (.int n)=some (.int n):=by rw[den]
 have q3:den 1 S (.tup [.int n,.ref 1])=some (Av true n (sm.map (placed mss))):=by
  rw[den]
  simp only[Ck,q0,d3,Option.map_some,Option.bind_some,Av]
 rw[Ip,Option.bind_some,den]
 simp only[Ck,q1,q2,q3,Option.map_some,Option.bind_some]
end W17
end
section
namespace W17
open PySem L2 VS
theorem Wj{n:Nat}{bs:List (List St2)}(g:Good n bs):Wide bs (-1000000000) 2000000000 0 n (List.range bs.length):=fun i hi v _ hv=>by
 have h:=List.mem_range.mp hi
 have hb:=g.box bs[i] (List.getElem_mem h)
 have h2:v<bs[i].length:=by rw[hb.1];omega
 have e0:bs.getD i []=bs[i]:=by rw[List.getD_eq_getElem?_getD,List.getElem?_eq_getElem h];rfl
 have e:at1 bs i v=bs[i][v]:=by
  rw[at1,e0,List.getD_eq_getElem?_getD,List.getElem?_eq_getElem h2];rfl
 have:=hb.2 bs[i][v] (List.getElem_mem h2)
 rw[e]
 omega
theorem Z1{bs:List (List St2)}{A:Int}{N:Nat}:∀(k w:Nat)(ns:List Nat),Wide bs A N w k ns->∀c∈Bk bs k w ns,(∀p∈c.1,p.1<p.2/\A<=p.1/\p.2<=A+N)/\1<=c.2.length/\c.2.length<=ns.length
 |0,w,ns,_,c,h=>by
  rw[Bk] at h
  split at h
  .simp at h
  .rename_i hn
   have:c=([],ns):=by simpa using h
   rw[this]
   exact⟨fun p hp=>by simp at hp,List.length_pos_iff.mpr hn,Nat.le_refl _⟩
 |k+1,w,ns,hw,c,h=>by
  rw[Bk] at h
  split at h
  .simp at h
  .obtain⟨p,h1,h2⟩:=List.mem_flatMap.mp h
   obtain⟨d,h3,rfl⟩:=List.mem_map.mp h2
   obtain⟨q1,q2,q3⟩:=Z1 k (w+1) _ (hw.sub fun i hi=>(List.mem_filter.mp hi).1) d h3
   obtain⟨s1,s2,s3,_⟩:=RN (Ux _) p h1
   refine⟨fun p' hp=>?_,q2,Nat.le_trans q3 (List.length_filter_le ..)⟩
   rcases List.mem_cons.mp hp with z|z
   .rw[z];exact⟨s1,(Pk hw _ s2).1,(Pk hw _ s3).2⟩
   .exact q1 p' z
def cC(k:Nat)(cs:List (List St2×List Nat)):Prop:=∀c∈cs,(∀p∈c.1,p.1<p.2/\-1000000000<=p.1/\p.2<=1000000000)/\1<=c.2.length/\c.2.length<=k
theorem LK{n:Nat}{bs:List (List St2)}(g:Good n bs):cC bs.length (Bk bs n 0 (List.range bs.length)):=fun c hc=>by
 obtain⟨h1,h2,h3⟩:=Z1 n 0 _ (Wj g) c hc
 exact⟨fun p hp=>by have:=h1 p hp;omega,h2,by simpa using h3⟩
def maxLen(cs:List (List St2×List Nat)):Nat:=((MN (cs.map fun c=>(c.2.length:Int))).getD 0).toNat
theorem Oo(cs:List (List St2×List Nat)):(∀c∈cs,c.2.length<=maxLen cs)/\(maxLen cs=0∨∃c∈cs,c.2.length=maxLen cs)/\(MN (cs.map fun c=>(c.2.length:Int))).getD 0=maxLen cs:=by
 unfold maxLen
 cases h:MN (cs.map fun c=>(c.2.length:Int)) with
 |none =>
  have:cs=[]:=by
   cases cs with
   |nil=>rfl
   |cons a r=>simp[MN] at h
  subst this
  exact⟨(fun c hc=>by cases hc),.inl rfl,rfl⟩
 |some m =>
  obtain⟨g1,g2⟩:=bA h
  obtain⟨c,hc,e⟩:=List.mem_map.mp g1
  refine⟨fun d hd=>?_,.inr ⟨c,hc,?_⟩,?_⟩
  .have:=g2 _ (List.mem_map_of_mem (f:=fun c:List St2×List Nat=>(c.2.length:Int)) hd)
   show d.2.length<=m.toNat
   omega
  .show c.2.length=m.toNat
   omega
  .show m=(m.toNat:Int)
   omega
theorem Zb(cs:List (List St2×List Nat))(k:Nat)(hl:cs.length<=100000)(hf:cC k cs)(S:Store):Ke [some (.lst false (cs.map encC))] S=some ((cs.map fun c=>Cv c.1).map .int,S):=by
 have e:Dc (Ab 0) [some (.lst false (cs.map encC))] S=some ((cs.map encC,[]),S):=rfl
 unfold Ke Cj
 rw[e]
 simp only[Option.bind_some]
 rw[J7 (by simp) encC (fun c=>.int (Cv c.1)) cs (by omega),List.map_map]
 .rfl
 .intro c hc
  have h1:=Td c.1 (hf c hc).1
  rw[aU] at h1
  refine⟨[some (Af c.1),some (CZ false c.2)],by simp[HS,Cg,Hy,G7,Fe,List.replicate_succ,-List.map_map,-Option.map_bind,encC],?_⟩
  exact Df (ds:=[Af c.1]) (es:=[Af c.1]) rfl (by simp[Aq,RW]) (by simp[Bg]) h1
theorem Za(cs:List (List St2×List Nat))(k:Nat)(hl:cs.length<=100000)(hf:cC k cs):Ez [.lst false (cs.map encC)]=some (.int (cs.map fun c=>Cv c.1).sum):=by
 have c1:=Zb cs k hl hf []
 unfold Ez
 rw[Dg]
 simp only[List.length_cons,List.length_nil,List.map_cons,List.map_nil,Nat.reduceAdd,Nat.reduceSub,List.replicate_zero,List.append_nil,if_true]
 unfold Oz
 rw[Cq,Ew,Ak,Cr,c1]
 generalize (cs.map fun c=>Cv c.1)=l
 simp[BR,VS.listOf,den,-List.map_map,-Option.map_bind,Qx]
theorem Sg{acc:List Int}{i:Nat}(hi:i<acc.length):atI (acc.map D.int) (i:Int)=some (.int (acc.getD i 0)):=by
 refine Nj ?_
 rw[List.getElem?_map,List.getElem?_eq_getElem hi,List.getD_eq_getElem?_getD,List.getElem?_eq_getElem hi];rfl
theorem jT(C:D)(acc:List Int)(c:List St2×List Nat)(hc:∀p∈c.1,p.1<p.2/\-1000000000<=p.1/\p.2<=1000000000)(h1:1<=c.2.length)(h2:c.2.length<=acc.length)(z4:Option D) :
  Hu [some C,some (.ref 0),some (Af c.1),some (CZ false c.2),z4] [some (acc.map .int)]=some (.nx,[some C,some (.ref 0),some (Af c.1),some (CZ false c.2),some (.int c.2.length)],[some ((Bp acc c).map .int)]):=by
 have s1:(Bf 4 (eCB Dt (Aa (Ab 3) Ae))) [some C,some (.ref 0),some (Af c.1),some (CZ false c.2),z4] [some (acc.map .int)]=some (.nx,[some C,some (.ref 0),some (Af c.1),some (CZ false c.2),some (.int c.2.length)],[some (acc.map .int)]):=by
  simp[Bu,Ao,BR,Ak,Ew,Dt,VS.listOf,CN,-List.map_map,-Option.map_bind,CZ]
 have hs:=Td c.1 hc
 rw[aU] at hs
 have hi:c.2.length-1<acc.length:=by omega
 have e1:((c.2.length:Int)-1)=((c.2.length-1:Nat):Int):=by omega
 have i0:eOp EY (Ab 4) (eC (.int 1)) [some C,some (.ref 0),some (Af c.1),some (CZ false c.2),some (.int c.2.length)] [some (acc.map .int)]=some (.int (c.2.length-1:Nat),[some (acc.map .int)]):=by
  rw[←e1];rfl
 have v1:Ab 1 [some C,some (.ref 0),some (Af c.1),some (CZ false c.2),some (.int c.2.length)] [some (acc.map .int)]=some (.ref 0,[some (acc.map .int)]):=rfl
 have i1:eOp oIx (Ab 1) (eOp EY (Ab 4) (eC (.int 1))) [some C,some (.ref 0),some (Af c.1),some (CZ false c.2),some (.int c.2.length)] [some (acc.map .int)]=some (.int (acc.getD (c.2.length-1) 0),[some (acc.map .int)]):=by
  rw[BK,v1,Option.bind_some,i0,Option.bind_some]
  show Option.map _ (atI (acc.map D.int) ((c.2.length-1:Nat):Int))=_
  rw[Sg hi];rfl
 have c1:BJ Fq (Aa (Ab 2) Ae) [some C,some (.ref 0),some (Af c.1),some (CZ false c.2),some (.int c.2.length)] [some (acc.map .int)]=some (.int (Cv c.1),[some (acc.map .int)]) :=
  Df (ds:=[Af c.1]) (es:=[Af c.1]) rfl (by simp[Aq,RW]) (by simp[Bg]) hs
 unfold Hu
 rw[BP s1,Ja,BK,i1,Option.bind_some,c1,Option.bind_some]
 simp only[Dh,Option.map_some,Option.bind_some]
 rw[v1,Option.bind_some,i0,Option.bind_some]
 show(ixN (acc.map D.int).length ((c.2.length-1:Nat):Int)).bind _=_
 rw[List.length_map,Ng hi]
 show some (Fl.nx,_,[some ((acc.map D.int).set (c.2.length-1) (.int (acc.getD (c.2.length-1) 0+Cv c.1)))])=_
 rw[←List.map_set];rfl
end W17
end
section
namespace W17
open PySem L2 VS
theorem Yb(n:Nat):(List.replicate n [D.int 0]).flatten=(List.replicate n (0:Int)).map D.int:=by
 rw[List.map_replicate]
 induction n with
 |zero=>rfl
 |succ n ih=>rw[List.replicate_succ,List.flatten_cons,ih,List.replicate_succ];rfl
theorem e63:((2^63:Nat):Int)=(2:Int)^63:=(Int.natCast_pow 2 63).trans (congrArg (fun z:Int=>z^63) (show((2:Nat):Int)=2 from rfl))
theorem uJ{n:Nat}(hn:n<=1000):n<2^63:=Nat.lt_of_le_of_lt hn (by decide)
theorem uI{n:Nat}(hn:n<=1000):(n:Int)<(2:Int)^63:=by rw[←e63];exact Int.ofNat_lt.mpr (uJ hn)
theorem uH{n:Nat}:-(2:Int)^63<=(n:Int):=by rw[←e63];exact Int.le_trans (Int.neg_nonpos_of_nonneg (Int.natCast_nonneg _)) (Int.natCast_nonneg _)
theorem wU{n:Nat}{ds:List D}{r:Option (D×Store)}(hl:ds.length*n<=1000000)(hn:n<=1000):(if -(2^63)<=(n:Int)/\(n:Int)<2^63/\ds.length*(n:Int).toNat<=1000000 then r else none)=r:=if_pos ⟨uH,uI hn,by rw[Int.toNat_natCast];exact hl⟩
theorem dw{a b:Az}{env:VS.Env}{S S1 S2:Store}{n:Nat}{ds:List D}{d:D}(ha:a env S=some (d,S1))(hd:VS.listOf S2 d=some ds)(hb:b env S1=some (.int n,S2))(hl:ds.length*n<=1000000)(hn:n<=1000):QT a b env S=some (.ref S2.length,S2++[some (List.replicate n ds).flatten]):=by
 rw[mF,ha,Option.bind_some,hb,Option.bind_some]
 show(VS.listOf S2 d).bind _=_
 rw[hd,Option.bind_some,wU hl hn,Int.toNat_natCast]
end W17
end
section
namespace W17
open PySem L2 VS
theorem Rj:∀cs:List (List St2×List Nat),Bg (cs.map encC)=cs.map encC
 |[]=>by rw[List.map_nil,Bg]
 |c::r=>by rw[List.map_cons,Bg,mV,Rj r]
theorem jR(cs:List (List St2×List Nat))(hl:cs.length<=100000)(e1 e2 e3 e4:Option D)(S:Store):Gm [some (.lst false (cs.map encC)),e1,e2,e3,e4] S=some ((cs.map fun c=>(c.2.length:Int)).map .int,S):=by
 have e:Dc (Ab 0) [some (.lst false (cs.map encC)),e1,e2,e3,e4] S=some ((cs.map encC,[]),S):=rfl
 unfold Gm Cj
 rw[e]
 simp only[Option.bind_some]
 rw[J7 (by simp) encC (fun c=>.int c.2.length) cs (by omega),List.map_map]
 .rfl
 .intro c hc
  exact⟨[some (Af c.1),some (CZ false c.2)],by simp[HS,Cg,Hy,G7,Fe,List.replicate_succ,-List.map_map,-Option.map_bind,encC],by simp[Ao,BR,Ak,Ew,Dt,VS.listOf,CN,-List.map_map,-Option.map_bind,CZ]⟩
theorem jQ(cs:List (List St2×List Nat))(k:Nat)(hk:k<=20)(hl:cs.length<=100000)(hf:cC k cs):El [.lst false (cs.map encC)]=some (.lst true ((cs.foldl Bp (List.replicate (maxLen cs) 0)).map .int)):=by
 obtain⟨m1,m2,m3⟩:=Oo cs
 have mk:maxLen cs<=20:=by
  rcases m2 with h|⟨c,hc,h⟩
  .omega
  .have:=(hf c hc).2.2;omega
 have c1:=jR cs hl none none none none []
 have t1:Uj 0 (Bm Gm) [some (.lst false (cs.map encC)),none,none,none,none] []=some (.int (maxLen cs),[]):=by
  rw[mJ,Cr,c1]
  show((intsOf ((cs.map fun c=>(c.2.length:Int)).map D.int)).map _)=_
  rw[Ip]
  show some (D.int ((MN (cs.map fun c=>(c.2.length:Int))).getD 0),([]:Store))=_
  rw[m3]
 have t2:(Bm (Aa (eC (.int 0)) Ae)) [some (.lst false (cs.map encC)),none,none,none,none] []=some (.lst true [.int 0],[]):=rfl
 have s1:(Bf 1 (QT (Bm (Aa (eC (.int 0)) Ae)) (Uj 0 (Bm Gm)))) [some (.lst false (cs.map encC)),none,none,none,none] []=some (.nx,[some (.lst false (cs.map encC)),some (.ref 0),none,none,none],[some ((List.replicate (maxLen cs) (0:Int)).map .int)]):=by
  rw[Bu,dw t2 rfl t1 (by simp;omega) (by omega),Yb]
  rfl
 have l1:∃z2 z3 z4,Jv [some (.lst false (cs.map encC)),some (.ref 0),none,none,none] [some ((List.replicate (maxLen cs) (0:Int)).map .int)]=some (.nx,[some (.lst false (cs.map encC)),some (.ref 0),z2,z3,z4],[some ((cs.foldl Bp (List.replicate (maxLen cs) 0)).map .int)]):=by
  have e:Dc (Ab 0) [some (.lst false (cs.map encC)),some (.ref 0),none,none,none] [some ((List.replicate (maxLen cs) (0:Int)).map .int)]=some ((cs.map encC,[]),[some ((List.replicate (maxLen cs) (0:Int)).map .int)]):=rfl
  unfold Jv
  rw[Fd,e]
  obtain⟨env',S',e2,z2,z3,z4,he,hS⟩:=Ej (w:=[]) (g:=Pat.sem (.tp [(.nm 2),(.nm 3)])) (b:=Hu) (ds:=cs.map encC) (env:=[some (.lst false (cs.map encC)),some (.ref 0),none,none,none]) (S:=[some ((List.replicate (maxLen cs) (0:Int)).map .int)])
   (fun i env S=>∃z2 z3 z4,env=[some (.lst false (cs.map encC)),some (.ref 0),z2,z3,z4]/\S=[some (((cs.take i).foldl Bp (List.replicate (maxLen cs) 0)).map .int)])
   ⟨none,none,none,rfl,rfl⟩ (fun i env S _=>by simp) (fun i d env S hd q=>by
    obtain⟨z2,z3,z4,he,hS⟩:=q
    subst he hS
    rw[List.getElem?_map] at hd
    obtain⟨c,hc,rfl⟩:=Option.map_eq_some_iff.mp hd
    have hm:=List.mem_of_getElem? hc
    obtain⟨q1,q2,_⟩:=hf c hm
    refine⟨[some (.lst false (cs.map encC)),some (.ref 0),some (Af c.1),some (CZ false c.2),z4],by simp[Cg,Hy,G7,Fe,-List.map_map,-Option.map_bind,encC],_,_,jT _ _ c q1 q2 (by rw[JX,List.length_replicate];exact m1 c hm) z4,_,_,_,rfl,?_⟩
    rw[List.take_succ,hc,Option.toList_some,List.foldl_append]
    rfl)
  subst he hS
  refine⟨z2,z3,z4,e2.trans ?_⟩
  have:(cs.map encC).length=cs.length:=by simp
  rw[this,List.take_length]
 obtain⟨z2,z3,z4,l1⟩:=l1
 unfold El
 rw[Dg]
 simp only[List.length_cons,List.length_nil,List.map_cons,List.map_nil,Nat.reduceAdd,Nat.reduceSub,List.replicate_succ,List.replicate_zero,List.cons_append,List.nil_append,if_true]
 unfold Oc
 rw[BP s1,BP l1]
 generalize cs.foldl Bp (List.replicate (maxLen cs) 0)=l
 simp[Cq,Ao,den,-List.map_map,-Option.map_bind]
theorem VH{n:Nat}{bs:List (List St2)}(g:Good n bs):DR [Av false n bs]=some (.int ((Bk bs n 0 (List.range bs.length)).map fun c=>Cv c.1).sum):=by
 have few:=g.few
 have n3:=g.n3
 have hl:=NQ (bs:=bs) n 0 (List.range bs.length) (by simpa using few)
 have hp:40^n<=40^3:=Nat.pow_le_pow_right (by decide) n3.2
 have h1:=Ro (m:=false) g
 have h2:=Z0 g
 have h3:=Za _ _ (by omega) (LK g)
 have s1:(JM (BJ Em (Aa (Ab 0) Ae))) [some (Av false n bs)] []=some (.nx,[some (Av false n bs)],[]):=by
  rw[HW,Df (ds:=[Av false n bs]) (es:=[Av false n bs]) (S':=[]) rfl (by simp[Aq,BZ,Av]) (by simp[Bg,age,Av]) h1];rfl
 have c2:BJ Eb (Aa (Ab 0) Ae) [some (Av false n bs)] []=some (.lst true ((Bk bs n 0 (List.range bs.length)).map encC),[]) :=
  Df (ds:=[Av false n bs]) (es:=[Av false n bs]) (S':=[]) rfl (by simp[Aq,BZ,Av]) (by simp[Bg,age,Av]) h2
 have c3:BJ Ez (Aa (BJ Eb (Aa (Ab 0) Ae)) Ae) [some (Av false n bs)] []=some (.int ((Bk bs n 0 (List.range bs.length)).map fun c=>Cv c.1).sum,[]) :=
  Df (ds:=[.lst true ((Bk bs n 0 (List.range bs.length)).map encC)]) (es:=[.lst false ((Bk bs n 0 (List.range bs.length)).map encC)]) (S':=[]) (by rw[Ak,c2];rfl) (by rw[Aq,BZ,Jr,Aq];rfl) (by rw[Bg,age,Rj,Bg]) h3
 unfold DR
 rw[Dg]
 simp only[List.length_cons,List.length_nil,List.map_cons,List.map_nil,Nat.reduceAdd,Nat.reduceSub,List.replicate_zero,List.append_nil,if_true]
 unfold QH
 rw[BP s1,Cq,c3]
 rfl
theorem Ye{n:Nat}{bs:List (List St2)}(g:Good n bs):Ei [Av false n bs]=some (.lst true (((Bk bs n 0 (List.range bs.length)).foldl Bp (List.replicate (maxLen (Bk bs n 0 (List.range bs.length))) 0)).map .int)):=by
 have few:=g.few
 have n3:=g.n3
 have hl:=NQ (bs:=bs) n 0 (List.range bs.length) (by simpa using few)
 have hp:40^n<=40^3:=Nat.pow_le_pow_right (by decide) n3.2
 have h1:=Ro (m:=false) g
 have h2:=Z0 g
 have h3:=jQ _ _ few (by omega) (LK g)
 have s1:(JM (BJ Em (Aa (Ab 0) Ae))) [some (Av false n bs)] []=some (.nx,[some (Av false n bs)],[]):=by
  rw[HW,Df (ds:=[Av false n bs]) (es:=[Av false n bs]) (S':=[]) rfl (by simp[Aq,BZ,Av]) (by simp[Bg,age,Av]) h1];rfl
 have c2:BJ Eb (Aa (Ab 0) Ae) [some (Av false n bs)] []=some (.lst true ((Bk bs n 0 (List.range bs.length)).map encC),[]) :=
  Df (ds:=[Av false n bs]) (es:=[Av false n bs]) (S':=[]) rfl (by simp[Aq,BZ,Av]) (by simp[Bg,age,Av]) h2
 generalize Bk bs n 0 (List.range bs.length)=cs at *
 have c3:BJ El (Aa (BJ Eb (Aa (Ab 0) Ae)) Ae) [some (Av false n bs)] []=some (.lst true ((cs.foldl Bp (List.replicate (maxLen cs) 0)).map .int),[]) :=
  Df (ds:=[.lst true (cs.map encC)]) (es:=[.lst false (cs.map encC)]) (S':=[]) (by rw[Ak,c2];rfl) (by rw[Aq,BZ,Jr,Aq];rfl) (by rw[Bg,age,Rj,Bg]) h3
 unfold Ei
 rw[Dg]
 simp only[List.length_cons,List.length_nil,List.map_cons,List.map_nil,Nat.reduceAdd,Nat.reduceSub,List.replicate_zero,List.append_nil,if_true]
 unfold Qn
 rw[BP s1,Cq,c3]
 show den 0 _ (.lst true _)=_
 rw[den,Cz 0 _ (FQ _)];rfl
end W17
end
section
namespace W17
open PySem L2 VS
def encJ(ms:List Int):D:=.lst false (ms.map .int)
def Bd(s:List Nat):D:=.tup (s.map fun(k:Nat)=>D.int k)
def Du(acc:List (List Nat))(ms:List Int):List (List Nat):=acc.flatMap fun s=>(List.range (ms.length-1)).map fun k=>s++[k]
def nO(F:D)(S:Store)(ds:List D):Prop:=F=.lst true ds∨∃j,F=.ref j/\S[j]?=some (some ds)
theorem gO(r:VS.Env)(S:Store)(ms:List Int)(s:List Nat)(h1:1<=ms.length)(h2:ms.length<=1000)(hs:s.length<=10)(r2:r[2]?=some (some (encJ ms)))(r4:r[4]?=some (some (Bd s))):Mh r S=some (((List.range (ms.length-1)).map fun k=>s++[k]).map Bd,S):=by
 have v2:Ab 2 r S=some (encJ ms,S):=by rw[Ao,r2];rfl
 have e1:((ms.length:Int)-1)=((ms.length-1:Nat):Int):=by omega
 have e:Et (Aa (eOp EY (eCB Dt (Aa (Ab 2) Ae)) (eC (.int 1))) Ae) r S=some ((upD 0 (ms.length-1),[]),S):=M5 (j:=((ms.length-1:Nat):Int)) _ (by
  rw[Ak,BK,Ew,Ak,v2,←e1]
  show(some ([D.int (((ms.map D.int).length:Nat)-1)],S):Option (List D×Store))=_
  rw[List.length_map]) (by simp) (by omega) (by omega)
 have ec:HS 1 [4] r=[none,some (Bd s)]:=by simp[HS,r4]
 unfold Mh Cj
 rw[e,ec]
 simp only[Option.bind_some]
 rw[bM (by simp) (ms.length-1) (fun k=>Bd (s++[k])) (by omega) fun k hk=>⟨[some (.int k),some (Bd s)],by rw[Cg];rfl,?_⟩,List.map_map]
 .rfl
 .show(Option.map _ (if (s.map fun(k:Nat)=>D.int k).length+1<=1000000 then some (D.tup ((s.map fun(k:Nat)=>D.int k)++[D.int k])) else none))=_
  rw[if_pos (by rw[List.length_map];omega)]
  unfold Bd
  rw[List.map_append];rfl
theorem gM(M:D)(ms:List Int)(h1:1<=ms.length)(h2:ms.length<=41)(acc:List (List Nat))(hacc:acc.length<=1600)(hs:∀s∈acc,s.length<=3)(F:D)(S:Store)(hF:nO F S (acc.map Bd))(z4:Option D):∃y4,
  KC [some M,some F,some (encJ ms),some (.ref S.length),z4] (S++[some []])=some (.nx,[some M,some F,some (encJ ms),some (.ref S.length),y4],S++[some ((Du acc ms).map Bd)]):=by
 have key:∀w:List (Nat×List D),(∀a:List D,calm w (S++[some a]))->Dc (Ab 1) [some M,some F,some (encJ ms),some (.ref S.length),z4] (S++[some []])=some ((acc.map Bd,w),S++[some []])->∃y4,KC [some M,some F,some (encJ ms),some (.ref S.length),z4] (S++[some []])=some (.nx,[some M,some F,some (encJ ms),some (.ref S.length),y4],S++[some ((Du acc ms).map Bd)]):=fun w hw e=>by
  unfold KC
  rw[Fd,e]
  obtain⟨env',S',e2,y4,he,hS⟩:=Ej (w:=w) (g:=Pat.sem (.nm 4)) (b:=Mj) (ds:=acc.map Bd) (env:=[some M,some F,some (encJ ms),some (.ref S.length),z4]) (S:=S++[some []])
   (fun i env T=>∃y4,env=[some M,some F,some (encJ ms),some (.ref S.length),y4]/\T=S++[some ((Du (acc.take i) ms).map Bd)])
   ⟨z4,rfl,rfl⟩ (fun i env T q=>by obtain⟨_,_,hT⟩:=q;rw[hT];exact hw _) (fun i d env T hd q=>by
    obtain⟨y4,he,hT⟩:=q
    subst he hT
    rw[List.getElem?_map] at hd
    obtain⟨s,hs',rfl⟩:=Option.map_eq_some_iff.mp hd
    have hi:i<acc.length:=(List.getElem?_eq_some_iff.mp hs').1
    refine⟨[some M,some F,some (encJ ms),some (.ref S.length),some (Bd s)],by rw[Cg];rfl,[some M,some F,some (encJ ms),some (.ref S.length),some (Bd s)],S++[some ((Du (acc.take (i+1)) ms).map Bd)],?_,_,rfl,rfl⟩
    have c1:=gO [some M,some F,some (encJ ms),some (.ref S.length),some (Bd s)] (S++[some ((Du (acc.take i) ms).map Bd)]) ms s h1 (by omega) (by have:=hs s (List.mem_of_getElem? hs');omega) rfl rfl
    have hlen:∀l:List (List Nat),(Du l ms).length=l.length*(ms.length-1):=fun l=>by
     unfold Du
     induction l with
     |nil=>simp
     |cons a r ih=>rw[List.flatMap_cons,List.length_append,ih,List.length_map,List.length_range,List.length_cons,Nat.succ_mul];omega
    have hL:=Ti S (some ((Du (acc.take i) ms).map Bd)) []
    have b1:(acc.take i).length*(ms.length-1)<=1600*40:=Nat.mul_le_mul (by rw[List.length_take];omega) (by omega)
    unfold Mj
    rw[HW,J5 (d:=.ref S.length) (cs:=(Du (acc.take i) ms).map Bd) (ds:=[.lst true (((List.range (ms.length-1)).map fun k=>s++[k]).map Bd)]) (r:=.non) (S1:=S++[some ((Du (acc.take i) ms).map Bd)]) (S2:=S++[some ((Du (acc.take i) ms).map Bd)]) (S3:=S++[some ((Du (acc.take (i+1)) ms).map Bd)]) rfl (by rw[VS.listOf,hL];rfl) (by
     rw[Ak,Cr,c1];rfl) (by
     unfold SQ
     simp only[hL,VS.listOf]
     rw[if_pos (by rw[List.length_map,List.length_map,List.length_map,List.length_range,hlen];omega),j6,←List.map_append]
     congr 5
     unfold Du
     rw[List.take_succ,hs',Option.toList_some,List.flatMap_append]
     simp)]
    rfl)
  subst he hS
  refine⟨y4,e2.trans ?_⟩
  have:(acc.map Bd).length=acc.length:=by simp
  rw[this,List.take_length]
 rcases hF with rfl|⟨j,rfl,hj⟩
 .exact key [] (fun a=>by simp) rfl
 .have hjl:j<S.length:=(List.getElem?_eq_some_iff.mp hj).1
  have hg:∀a:List D,(S++[some a])[j]?=some (some (acc.map Bd)):=fun a=>by rw[List.getElem?_append_left hjl];exact hj
  refine key [(j,acc.map Bd)] (fun a p hp=>by rw[List.mem_singleton.mp hp];exact hg a) ?_
  have v1:Ab 1 [some M,some (.ref j),some (encJ ms),some (.ref S.length),z4] (S++[some []])=some (.ref j,S++[some []]):=rfl
  rw[Ge,v1,Option.bind_some]
  show Option.map _ (((S++[some []])[j]?).join)=_
  rw[hg];rfl
end W17
end
section
namespace W17
open PySem L2 VS
def DW(mss:List (List Int)):List (List Nat):=Tj (mss.map fun ms=>List.range (ms.length-1))
theorem Zw(mss:List (List Int)):mss.foldl Du [[]]=DW mss:=by
 have:=Wx (fun ms:List Int=>List.range (ms.length-1)) mss [[]]
 unfold DW
 rw[show mss.foldl Du [[]]=mss.foldl (fun acc E=>acc.flatMap fun s=>(List.range (E.length-1)).map fun x=>s++[x]) [[]] from rfl,this]
 simp
theorem RV(s:List Nat):BZ (Bd s)=true:=by
 have:=FQ (s.map fun(i:Nat)=>(i:Int))
 rw[List.map_map] at this
 unfold Bd
 rw[BZ];exact this
theorem Qd:∀l:List (List Nat),Aq (l.map Bd)=true
 |[]=>rfl
 |s::r=>by rw[List.map_cons,Aq,RV,Qd r];rfl
theorem cX(ms:List Int)(l:List (List Nat)):(Du l ms).length=l.length*(ms.length-1):=by
 unfold Du
 induction l with
 |nil=>simp
 |cons a r ih=>rw[List.flatMap_cons,List.length_append,ih,List.length_map,List.length_range,List.length_cons,Nat.succ_mul];omega
theorem gK(mss:List (List Int))(hn:mss.length<=3)(hm:∀ms∈mss,1<=ms.length/\ms.length<=41):Fg [.lst false (mss.map encJ)]=some (.lst true ((DW mss).map Bd)):=by
 have s1:(Bf 1 (Bm (Aa (Bl Ae) Ae))) [some (.lst false (mss.map encJ)),none,none,none,none] []=some (.nx,[some (.lst false (mss.map encJ)),some (.lst true ([[]].map Bd)),none,none,none],[]):=rfl
 have e:Dc (Ab 0) [some (.lst false (mss.map encJ)),some (.lst true ([[]].map Bd)),none,none,none] []=some ((mss.map encJ,[]),[]):=rfl
 obtain⟨env',S',e2,F,z2,z3,z4,he,hF,_,_⟩:=Ej (w:=[]) (g:=Pat.sem (.nm 2)) (b:=Mi) (ds:=mss.map encJ) (env:=[some (.lst false (mss.map encJ)),some (.lst true ([[]].map Bd)),none,none,none]) (S:=[])
  (fun i env S=>∃(F:D)(z2 z3 z4:Option D),env=[some (.lst false (mss.map encJ)),some F,z2,z3,z4]/\nO F S (((mss.take i).foldl Du [[]]).map Bd)/\((mss.take i).foldl Du [[]]).length<=40^i/\∀s∈(mss.take i).foldl Du [[]],s.length<=i)
  ⟨_,_,_,_,rfl,.inl rfl,by simp,by simp⟩ (fun i env S _=>by simp) (fun i d env S hd q=>by
   obtain⟨F,z2,z3,z4,he,hF,hl,hs⟩:=q
   subst he
   rw[List.getElem?_map] at hd
   obtain⟨ms,hms,rfl⟩:=Option.map_eq_some_iff.mp hd
   have hi:i<mss.length:=(List.getElem?_eq_some_iff.mp hms).1
   obtain⟨m1,m2⟩:=hm ms (List.mem_of_getElem? hms)
   have h16:40^i<=40^2:=Nat.pow_le_pow_right (by decide) (by omega)
   obtain⟨y4,l1⟩:=gM (.lst false (mss.map encJ)) ms m1 m2 ((mss.take i).foldl Du [[]]) (by omega) (fun s h=>by have:=hs s h;omega) F S hF z4
   have et:(mss.take (i+1)).foldl Du [[]]=Du ((mss.take i).foldl Du [[]]) ms:=by
    rw[List.take_succ,hms,Option.toList_some,List.foldl_append];rfl
   have a1:(Bf 3 (Hj Ae)) [some (.lst false (mss.map encJ)),some F,some (encJ ms),z3,z4] S=some (.nx,[some (.lst false (mss.map encJ)),some F,some (encJ ms),some (.ref S.length),z4],S++[some []]):=rfl
   refine⟨[some (.lst false (mss.map encJ)),some F,some (encJ ms),z3,z4],by rw[Cg];rfl,[some (.lst false (mss.map encJ)),some (.ref S.length),some (encJ ms),some (.ref S.length),y4],S++[some ((Du ((mss.take i).foldl Du [[]]) ms).map Bd)],?_,_,_,_,_,rfl,?_,?_,?_⟩
   .unfold Mi
    rw[BP a1,BP l1];rfl
   .rw[et];exact .inr ⟨S.length,rfl,Ti S _ []⟩
   .rw[et,cX,Nat.pow_succ]
    exact Nat.mul_le_mul hl (by omega)
   .intro s h
    rw[et] at h
    obtain⟨t,h1,h2⟩:=List.mem_flatMap.mp h
    obtain⟨k,_,rfl⟩:=List.mem_map.mp h2
    have:=hs t h1
    simp;omega)
 have:(mss.map encJ).length=mss.length:=by simp
 rw[this,List.take_length,Zw] at hF
 subst he
 have l2:Mg [some (.lst false (mss.map encJ)),some (.lst true ([[]].map Bd)),none,none,none] []=some (.nx,[some (.lst false (mss.map encJ)),some F,z2,z3,z4],S'):=by
  unfold Mg
  rw[Fd,e]
  exact e2
 unfold Fg
 rw[Dg]
 simp only[List.length_cons,List.length_nil,List.map_cons,List.map_nil,Nat.reduceAdd,Nat.reduceSub,List.replicate_succ,List.replicate_zero,List.cons_append,List.nil_append,if_true]
 unfold Rv
 rw[BP s1,BP l2]
 show den 0 S' F=_
 rcases hF with rfl|⟨j,rfl,hj⟩
 .rw[den,Cz 0 _ (Qd _)];rfl
 .rw[den,if_neg (by omega),hj]
  show(if Aq ((DW mss).map Bd)=true then _ else _)=_
  rw[if_pos (Qd _)]
def cellOf:List (List Int)->List Nat->List St2
 |ms::r,k::s=>(ms.getD k 0,ms.getD (k+1) 0)::cellOf r s
 |_,_=>[]
theorem jY:∀ms:List Int,steps ms=(List.range (ms.length-1)).map fun k=>(ms.getD k 0,ms.getD (k+1) 0):=fun ms=>by
 unfold steps
 refine List.ext_getElem (by simp) fun k h1 h2=>?_
 have hk:k<ms.length-1:=by simpa using h2
 rw[List.getElem_zip,List.getElem_map,List.getElem_range,List.getElem_tail,List.getD_eq_getElem?_getD,List.getD_eq_getElem?_getD,List.getElem?_eq_getElem (show k<ms.length by omega),List.getElem?_eq_getElem (show k+1<ms.length by omega)]
 rfl
theorem T6:∀mss:List (List Int),N6 mss=(DW mss).map (cellOf mss)
 |[]=>rfl
 |ms::r=>by
  rw[N6,T6 r,jY,List.flatMap_map]
  unfold DW
  rw[List.map_cons,Tj,List.map_flatMap]
  refine congrArg (fun g=>List.flatMap g (List.range (ms.length-1))) (funext fun k=>?_)
  rw[List.map_map,List.map_map];rfl
theorem Ra:∀(mss:List (List Int))(s:List Nat),s∈DW mss->s.length=mss.length/\∀q∈mss.zip s,q.2<q.1.length-1
 |[],s,h=>by
  have:s=[]:=by simpa [DW,Tj] using h
  subst this
  exact⟨rfl,by simp⟩
 |ms::r,s,h=>by
  unfold DW at h
  rw[List.map_cons,Tj] at h
  obtain⟨k,h1,h2⟩:=List.mem_flatMap.mp h
  obtain⟨t,h3,rfl⟩:=List.mem_map.mp h2
  obtain⟨a,b⟩:=Ra r t h3
  refine⟨by rw[List.length_cons,List.length_cons,a],fun q hq=>?_⟩
  rw[List.zip_cons_cons] at hq
  rcases List.mem_cons.mp hq with z|z
  .rw[z];exact List.mem_range.mp h1
  .exact b q z
end W17
end
section
namespace W17
open PySem L2 VS
def ok1(q:St2×Nat):Bool:=decide (q.1.1<=q.2)&&decide ((q.2:Int)<q.1.2)
def JL(b:List St2)(s:List Nat):Bool:=(b.zip s).all ok1
def DP(sm:List (List St2))(s:List Nat):List Nat:=((sm.zipIdx).filter fun q=>JL q.1 s).map fun q=>q.2
theorem Ys:∀(bs:List (List St2))(k:Nat),Kv k (bs.map Af)=(bs.zipIdx k).map fun q=>.tup [.int q.2,Af q.1]
 |[],k=>by simp[Kv]
 |b::r,k=>by simp[Kv,Ys r (k+1)]
theorem RL:∀is:List Int,Ij (is.map .int)=some (is.map .int)
 |[]=>by rw[List.map_nil,Ij];rfl
 |i::r=>by rw[List.map_cons,Ij,RL r,toP];rfl
theorem Ol(S:Store)(m:Bool)(is:List Int):DG S (.lst m (is.map .int))=some (.list (is.map .int)):=by
 rw[DG,den,Cz 0 S (FQ is)]
 show toP (.lst m (is.map .int))=_
 rw[toP,RL];rfl
theorem Tz(is:List Int):lev 1 (.list (is.map .int))=true:=by
 rw[lev,List.all_map,List.all_eq_true]
 exact fun _ _=>rfl
theorem qW(r:VS.Env)(S:Store)(b:List St2)(s:List Nat)(hb:b.length<=3)(r1:r[1]?=some (some (Bd s)))(r4:r[4]?=some (some (Af b))):Lx r S=some ((((b.zip s).filter fun q=>!ok1 q).map fun _=>(1:Int)).map .int,S):=by
 have v1:Ab 1 r S=some (Bd s,S):=by rw[Ao,r1];rfl
 have v4:Ab 4 r S=some (Af b,S):=by rw[Ao,r4];rfl
 have e:Oi (Aa (Ab 4) (Aa (Ab 1) Ae)) r S=some (((b.zip s).map fun q=>D.tup [Ba q.1,.int q.2],[]),S):=by
  rw[Yn,Ak,v4,Option.bind_some,Ak,v1]
  show(some ((DX (b.map Ba) (s.map fun(k:Nat)=>D.int k),([]:List (Nat×List D))),S))=_
  rw[S6]
 unfold Lx Cj
 rw[e]
 simp only[Option.bind_some]
 rw[Ni (by simp) (fun q:St2×Nat=>D.tup [Ba q.1,.int q.2]) (fun q=>!ok1 q) (fun _=>.int 1) _ _ (by rw[List.length_zip];simp;omega),List.map_map]
 .rfl
 .intro q _
  obtain⟨p,k⟩:=q
  refine⟨[some (.int k),some (.int p.1),some (.int p.2)],by simp[HS,Cg,Hy,G7,Fe,List.replicate_succ,-List.map_map,-Option.map_bind,Ba],?_,fun _=>rfl⟩
  have k1:Bh (eOp oLt (Ab 0) (Ab 1)) [some (.int k),some (.int p.1),some (.int p.2)] S=some (decide ((k:Int)<p.1),S):=rfl
  have k2:Bh (eOp oGe (Ab 0) (Ab 2)) [some (.int k),some (.int p.1),some (.int p.2)] S=some (decide (p.2<=(k:Int)),S):=rfl
  rw[Qz,k1,Option.bind_some]
  unfold ok1
  by_cases h1:(k:Int)<p.1
  .have:¬(p.1<=(k:Int)):=by omega
   simp[h1,this]
  .have h2:p.1<=(k:Int):=by omega
   simp only[h1,decide_false,Bool.false_eq_true,if_false,k2]
   by_cases h3:p.2<=(k:Int)
   .have:¬((k:Int)<p.2):=by omega
    simp[h2,h3,this]
   .have:(k:Int)<p.2:=by omega
    simp[h2,h3,this]
theorem qT(sm:List (List St2))(hl:sm.length<=20)(hb:∀b∈sm,b.length<=3)(s:List Nat):GJ [.lst false (sm.map Af),Bd s]=some (.lst true ((DP sm s).map fun(i:Nat)=>D.int i)):=by
 have s1:(Bf 2 (Hj Ae)) [some (.lst false (sm.map Af)),some (Bd s),none,none,none] []=some (.nx,[some (.lst false (sm.map Af)),some (Bd s),some (.ref 0),none,none],[some []]):=rfl
 have e:YB (Aa (Ab 0) Ae) [some (.lst false (sm.map Af)),some (Bd s),some (.ref 0),none,none] [some []]=some (((sm.zipIdx).map fun q=>D.tup [.int q.2,Af q.1],[]),[some []]):=by
  rw[←Ys sm 0];rfl
 obtain⟨env',S',e2,z3,z4,he,hS⟩:=Ej (w:=[]) (g:=Pat.sem (.tp [(.nm 3),(.nm 4)])) (b:=Pb) (ds:=(sm.zipIdx).map fun q=>D.tup [.int q.2,Af q.1]) (env:=[some (.lst false (sm.map Af)),some (Bd s),some (.ref 0),none,none]) (S:=[some []])
  (fun i env S=>∃z3 z4:Option D,env=[some (.lst false (sm.map Af)),some (Bd s),some (.ref 0),z3,z4]/\S=[some (((((sm.zipIdx).take i).filter fun q=>JL q.1 s).map fun q=>q.2).map fun(i:Nat)=>D.int i)])
  ⟨none,none,rfl,rfl⟩ (fun i env S _=>by simp) (fun i d env S hd q=>by
   obtain⟨z3,z4,he,hS⟩:=q
   subst he hS
   rw[List.getElem?_map] at hd
   obtain⟨q,hq,rfl⟩:=Option.map_eq_some_iff.mp hd
   have hi:i<(sm.zipIdx).length:=(List.getElem?_eq_some_iff.mp hq).1
   rw[List.length_zipIdx] at hi
   have ht:(sm.zipIdx).take (i+1)=(sm.zipIdx).take i++[q]:=by rw[List.take_succ,hq];rfl
   have hbq:q.1.length<=3:=hb _ (by
    have:=List.fst_mem_of_mem_zipIdx (List.mem_of_getElem? hq)
    exact this)
   have hL:∀l:List (List St2×Nat),((l.filter fun q=>JL q.1 s).map fun q=>q.2).length<=l.length:=fun l=>by rw[List.length_map];exact List.length_filter_le ..
   have hL2:=hL ((sm.zipIdx).take i)
   rw[List.length_take,List.length_zipIdx] at hL2
   generalize ha:(((sm.zipIdx).take i).filter fun q=>JL q.1 s).map (fun q=>q.2)=acc at *
   have c1:=qW [some (.lst false (sm.map Af)),some (Bd s),some (.ref 0),some (.int q.2),some (Af q.1)] [some (acc.map fun(i:Nat)=>D.int i)] q.1 s hbq rfl rfl
   have ts:Bh (eOp (oEq false) (Bm Lx) (Bm Ae)) [some (.lst false (sm.map Af)),some (Bd s),some (.ref 0),some (.int q.2),some (Af q.1)] [some (acc.map fun(i:Nat)=>D.int i)]=some (JL q.1 s,[some (acc.map fun(i:Nat)=>D.int i)]):=by
    have q1:=W2 (neg:=false) (S:=[some (acc.map fun(i:Nat)=>D.int i)]) (m:=true) 1 (Ol [some (acc.map fun(i:Nat)=>D.int i)] true (((q.1.zip s).filter fun q=>!ok1 q).map fun _=>(1:Int))) (Tz _) (by decide)
    rw[Ef,BK,Cr,c1]
    show(Option.map _ (eqP false [some (acc.map fun(i:Nat)=>D.int i)] (.lst true ((((q.1.zip s).filter fun q=>!ok1 q).map fun _=>(1:Int)).map .int)) (.lst true []))).bind _=_
    rw[q1]
    show some ((false ^^ ((((q.1.zip s).filter fun q=>!ok1 q).map fun _=>(1:Int)).map PyData.int).isEmpty),_)=_
    congr 2
    unfold JL
    rw[Bool.false_xor,Bool.eq_iff_iff,List.isEmpty_iff,List.map_eq_nil_iff,List.map_eq_nil_iff,List.filter_eq_nil_iff,List.all_eq_true]
    simp
   refine⟨[some (.lst false (sm.map Af)),some (Bd s),some (.ref 0),some (.int q.2),some (Af q.1)],by simp[Cg,Hy,G7,Fe,-List.map_map,-Option.map_bind],[some (.lst false (sm.map Af)),some (Bd s),some (.ref 0),some (.int q.2),some (Af q.1)],[some (((((sm.zipIdx).take (i+1)).filter fun q=>JL q.1 s).map fun q=>q.2).map fun(i:Nat)=>D.int i)],?_,_,_,rfl,rfl⟩
   rw[ht,List.filter_append,List.map_append,ha]
   unfold Pb
   cases h:JL q.1 s with
   |true =>
    rw[h] at ts
    have hfp:List.filter (fun q:List St2×Nat=>JL q.1 s) [q]=[q]:=by simp[h]
    rw[M8 ts,HW,hfp,J5 (d:=.ref 0) (cs:=acc.map fun(i:Nat)=>D.int i) (ds:=[.int q.2]) (r:=.non) (S1:=[some (acc.map fun(i:Nat)=>D.int i)]) (S2:=[some (acc.map fun(i:Nat)=>D.int i)]) (S3:=[some ((acc++[q.2]).map fun(i:Nat)=>D.int i)]) rfl rfl rfl (by
     show(if (acc.map fun(i:Nat)=>D.int i).length<1000000 then some (D.non,[some ((acc.map fun(i:Nat)=>D.int i)++[.int q.2])]) else none)=_
     rw[if_pos (by rw[List.length_map];omega),List.map_append];rfl)]
    rfl
   |false =>
    rw[h] at ts
    have hfn:List.filter (fun q:List St2×Nat=>JL q.1 s) [q]=[]:=by simp[h]
    rw[Ku ts,hfn,List.map_nil,List.append_nil];rfl)
 subst he hS
 have:((sm.zipIdx).map fun q=>D.tup [.int q.2,Af q.1]).length=(sm.zipIdx).length:=by simp
 rw[this,List.take_length] at e2
 have l1:Pa [some (.lst false (sm.map Af)),some (Bd s),some (.ref 0),none,none] [some []]=some (.nx,[some (.lst false (sm.map Af)),some (Bd s),some (.ref 0),z3,z4],[some ((DP sm s).map fun(i:Nat)=>D.int i)]):=by
  unfold Pa
  rw[Fd,e]
  exact e2
 unfold GJ
 rw[Dg]
 simp only[List.length_cons,List.length_nil,List.map_cons,List.map_nil,Nat.reduceAdd,Nat.reduceSub,List.replicate_succ,List.replicate_zero,List.cons_append,List.nil_append,if_true]
 unfold V8
 rw[BP s1,BP l1]
 show den 0 [some ((DP sm s).map fun(i:Nat)=>D.int i)] (.ref 0)=_
 have hp:Aq ((DP sm s).map fun(i:Nat)=>D.int i)=true:=by
  have:=FQ ((DP sm s).map fun(i:Nat)=>(i:Int))
  rw[List.map_map] at this
  exact this
 rw[den,if_neg (by omega)]
 show(if Aq ((DP sm s).map fun(i:Nat)=>D.int i)=true then _ else _)=_
 rw[if_pos hp]
end W17
end
section
namespace W17
open PySem L2 VS
def gap(q:List Int×Nat):Int:=q.1.getD (q.2+1) 0-q.1.getD q.2 0
theorem Wa:∀(mss:List (List Int))(s:List Nat)(z:Int),s.length=mss.length->(mss.zip s).foldl (fun z q=>z*gap q) z=z*Cv (cellOf mss s)
 |[],[],z,_=>by simp[cellOf,Cv]
 |[],_::_,_,h=>by simp at h
 |_::_,[],_,h=>by simp at h
 |ms::r,k::s,z,h=>by
  rw[List.zip_cons_cons,List.foldl_cons,Wa r s _ (by simpa using h),cellOf,Cv,Int.mul_assoc];rfl
theorem oF(mss:List (List Int))(s:List Nat)(hm:∀ms∈mss,∀x∈ms,-1000000000<=x/\x<=1000000000)(hs:s.length=mss.length)(hq:∀q∈mss.zip s,q.2<q.1.length-1):HJ [.lst false (mss.map encJ),Bd s]=some (.int (Cv (cellOf mss s))):=by
 have s1:(Bf 2 (eC (.int 1))) [some (.lst false (mss.map encJ)),some (Bd s),none,none,none] []=some (.nx,[some (.lst false (mss.map encJ)),some (Bd s),some (.int 1),none,none],[]):=rfl
 have e:Oi (Aa (Ab 0) (Aa (Ab 1) Ae)) [some (.lst false (mss.map encJ)),some (Bd s),some (.int 1),none,none] []=some (((mss.zip s).map fun q=>D.tup [encJ q.1,.int q.2],[]),[]):=by
  show(some ((DX (mss.map encJ) (s.map fun(k:Nat)=>D.int k),([]:List (Nat×List D))),([]:Store)))=_
  rw[S6]
 obtain⟨env',S',e2,hS,z3,z4,he⟩:=Ej (w:=[]) (g:=Pat.sem (.tp [(.nm 3),(.nm 4)])) (b:=PX) (ds:=(mss.zip s).map fun q=>D.tup [encJ q.1,.int q.2]) (env:=[some (.lst false (mss.map encJ)),some (Bd s),some (.int 1),none,none]) (S:=[])
  (fun i env S=>S=[]/\∃z3 z4:Option D,env=[some (.lst false (mss.map encJ)),some (Bd s),some (.int (((mss.zip s).take i).foldl (fun z q=>z*gap q) 1)),z3,z4])
  ⟨rfl,none,none,rfl⟩ (fun i env S _=>by simp) (fun i d env S hd q=>by
   obtain⟨hS,z3,z4,he⟩:=q
   subst hS he
   rw[List.getElem?_map] at hd
   obtain⟨q,hq',rfl⟩:=Option.map_eq_some_iff.mp hd
   have hm1:=List.mem_of_getElem? hq'
   have hk:=hq q hm1
   have hms:=hm q.1 (List.of_mem_zip hm1).1
   obtain⟨ms,k⟩:=q
   simp only at hk hms
   have k0:k<ms.length:=by omega
   have k1:k+1<ms.length:=by omega
   have a0:atI (ms.map D.int) (k:Int)=some (.int (ms.getD k 0)):=Sg k0
   have a1:atI (ms.map D.int) ((k:Int)+1)=some (.int (ms.getD (k+1) 0)):=by
    have:=Sg k1
    rw[show((k+1:Nat):Int)=(k:Int)+1 by omega] at this
    exact this
   have b0:-1000000000<=ms.getD k 0/\ms.getD k 0<=1000000000:=by
    rw[List.getD_eq_getElem?_getD,List.getElem?_eq_getElem k0];exact hms _ (List.getElem_mem k0)
   have b1:-1000000000<=ms.getD (k+1) 0/\ms.getD (k+1) 0<=1000000000:=by
    rw[List.getD_eq_getElem?_getD,List.getElem?_eq_getElem k1];exact hms _ (List.getElem_mem k1)
   refine⟨[some (.lst false (mss.map encJ)),some (Bd s),some (.int (((mss.zip s).take i).foldl (fun z q=>z*gap q) 1)),some (encJ ms),some (.int k)],by simp[Cg,Hy,G7,Fe,-List.map_map,-Option.map_bind],[some (.lst false (mss.map encJ)),some (Bd s),some (.int (((mss.zip s).take (i+1)).foldl (fun z q=>z*gap q) 1)),some (encJ ms),some (.int k)],[],?_,rfl,_,_,rfl⟩
   rw[List.take_succ,hq',Option.toList_some,List.foldl_append]
   generalize ((mss.zip s).take i).foldl (fun z q=>z*gap q) 1=z
   have o1:eOp EY (eOp oIx (Ab 3) (eOp Dh (Ab 4) (eC (.int 1)))) (eOp oIx (Ab 3) (Ab 4)) [some (.lst false (mss.map encJ)),some (Bd s),some (.int z),some (encJ ms),some (.int k)] []=some (.int (gap (ms,k)),[]):=by
    have i1:eOp oIx (Ab 3) (eOp Dh (Ab 4) (eC (.int 1))) [some (.lst false (mss.map encJ)),some (Bd s),some (.int z),some (encJ ms),some (.int k)] []=some (.int (ms.getD (k+1) 0),[]):=by
     show Option.map _ (atI (ms.map D.int) ((k:Int)+1))=_
     rw[a1];rfl
    have i2:eOp oIx (Ab 3) (Ab 4) [some (.lst false (mss.map encJ)),some (Bd s),some (.int z),some (encJ ms),some (.int k)] []=some (.int (ms.getD k 0),[]):=by
     show Option.map _ (atI (ms.map D.int) (k:Int))=_
     rw[a0];rfl
    rw[BK,i1,Option.bind_some,i2];rfl
   have hg:Nq z (gap (ms,k))=true:=by
    unfold Nq gap
    simp only[Bool.or_eq_true,Bool.and_eq_true,decide_eq_true_eq]
    right
    constructor
    .refine Int.lt_of_lt_of_le (b:=-2000000000) (by decide) (by omega)
    .refine Int.lt_of_le_of_lt (b:=2000000000) (by omega) (by decide)
   have v2:Ab 2 [some (.lst false (mss.map encJ)),some (Bd s),some (.int z),some (encJ ms),some (.int k)] []=some (.int z,[]):=rfl
   unfold PX
   rw[Bu,BK,v2,Option.bind_some,o1,Option.bind_some]
   show(Option.map _ (if Nq z (gap (ms,k))=true then some (D.int (z*gap (ms,k))) else none)).bind _=_
   rw[if_pos hg];rfl)
 subst hS he
 have:((mss.zip s).map fun q=>D.tup [encJ q.1,.int q.2]).length=(mss.zip s).length:=by simp
 rw[this,List.take_length,Wa mss s 1 hs,Int.one_mul] at e2
 have l1:PN [some (.lst false (mss.map encJ)),some (Bd s),some (.int 1),none,none] []=some (.nx,[some (.lst false (mss.map encJ)),some (Bd s),some (.int (Cv (cellOf mss s))),z3,z4],[]):=by
  unfold PN
  rw[Fd,e]
  exact e2
 unfold HJ
 rw[Dg]
 simp only[List.length_cons,List.length_nil,List.map_cons,List.map_nil,Nat.reduceAdd,Nat.reduceSub,List.replicate_succ,List.replicate_zero,List.cons_append,List.nil_append,if_true]
 unfold V7
 rw[BP s1,BP l1]
 rfl
theorem oK{S:Store}{is:List Int}(h:S[0]?=some (some (is.map .int))):DG S (.ref 0)=some (.list (is.map .int)):=by
 rw[DG,den,if_neg (by omega),h]
 show(if Aq (is.map D.int)=true then some (D.lst true (is.map .int)) else none).bind toP=_
 rw[if_pos (FQ is)]
 show toP (.lst true (is.map .int))=_
 rw[toP,RL];rfl
theorem YH(e0 e1 e2 z4 z5:Option D):∀(f:Nat)(l:List Int),l.length<f->Ky (Jt (Bh (eOp (oEq true) (Ab 3) (Bm Ae))) (Bh (eOp (oEq false) (eOp oIx (Ab 3) (eUn MK (eC (.int 1)))) (eC (.int 0))))) Ld f [e0,e1,e2,some (.ref 0),z4,z5] [some (l.map .int)]=some (.nx,[e0,e1,e2,some (.ref 0),z4,z5],[some ((Jg l.length l).map .int)])
 |0,l,h=>by omega
 |f+1,l,h=>by
  have t1:Bh (eOp (oEq true) (Ab 3) (Bm Ae)) [e0,e1,e2,some (.ref 0),z4,z5] [some (l.map .int)]=some (!l.isEmpty,[some (l.map .int)]):=by
   have q1:=W2 (neg:=true) (S:=[some (l.map .int)]) (m:=true) 1 (oK (S:=[some (l.map .int)]) rfl) (Tz l) (by decide)
   show(Option.map _ (eqP true [some (l.map D.int)] (.ref 0) (.lst true []))).bind _=_
   rw[q1]
   cases l<;>rfl
  unfold Ky
  rw[aP,t1]
  rcases List.eq_nil_or_concat l with rfl|⟨l',x,rfl⟩
  .rfl
  .rw[List.concat_eq_append] at h ⊢
   have ha:atI ((l'++[x]).map D.int) (-1)=some (.int x):=by rw[List.map_append];exact UL _ _
   have t2:Bh (eOp (oEq false) (eOp oIx (Ab 3) (eUn MK (eC (.int 1)))) (eC (.int 0))) [e0,e1,e2,some (.ref 0),z4,z5] [some ((l'++[x]).map .int)]=some (decide (x=0),[some ((l'++[x]).map .int)]):=by
    have i1:eOp oIx (Ab 3) (eUn MK (eC (.int 1))) [e0,e1,e2,some (.ref 0),z4,z5] [some ((l'++[x]).map .int)]=some (.int x,[some ((l'++[x]).map .int)]):=by
     show Option.map _ (atI ((l'++[x]).map D.int) (-1))=_
     rw[ha];rfl
    rw[Ef,BK,i1,Option.bind_some]
    simp[CV,oEq,-List.map_map,-Option.map_bind]
   have hne:(l'++[x]).isEmpty=false:=by cases l'<;>rfl
   rw[hne]
   simp only[Option.bind_some,Bool.not_false,if_true]
   rw[t2]
   have hlen:(l'++[x]).length=l'.length+1:=by simp
   by_cases hx:x=0
   .subst hx
    have p1:Ld [e0,e1,e2,some (.ref 0),z4,z5] [some ((l'++[0]).map .int)]=some (.nx,[e0,e1,e2,some (.ref 0),z4,z5],[some (l'.map .int)]):=by
     unfold Ld
     rw[HW,J5 (d:=.ref 0) (cs:=(l'++[0]).map .int) (ds:=[]) (r:=.int 0) (S1:=[some ((l'++[0]).map .int)]) (S2:=[some ((l'++[0]).map .int)]) (S3:=[some (l'.map .int)]) rfl rfl rfl (by
      show((((l'++[0]).map D.int)[((l'++[0]).map D.int).length-1]?).bind fun d=>some (d,[some ((l'++[0]).map D.int).dropLast]))=_
      rw[List.map_append,List.map_cons,List.map_nil,List.dropLast_concat]
      simp)]
     rfl
    simp only[decide_true,Option.bind_some,if_true,p1]
    rw[YH e0 e1 e2 z4 z5 f l' (by rw[hlen] at h;omega),hlen,Jg,if_pos ⟨by simp,by simp⟩,List.dropLast_concat]
   .rw[decide_eq_false hx,hlen,Jg,if_neg (by simp[hx])]
    rfl
end W17
end
section
namespace W17
open PySem L2 VS
def N5(sm:List (List St2))(mss:List (List Int))(s:List Nat):List St2×List Nat:=(cellOf mss s,DP sm s)
def Ht(sm:List (List St2))(mss:List (List Int))(acc:List Int)(s:List Nat):List Int:=if (DP sm s).length=0 then acc else Bp acc (N5 sm mss s)
theorem fV(sm:List (List St2))(mss:List (List Int))(acc:List Int)(s:List Nat):(Ht sm mss acc s).length=acc.length:=by
 unfold Ht
 split
 .rfl
 .exact K6 _ _
theorem Rc(sm:List (List St2))(mss:List (List Int)):∀(l:List (List Nat))(acc:List Int),(l.foldl (Ht sm mss) acc).length=acc.length
 |[],_=>rfl
 |s::r,acc=>by rw[List.foldl_cons,Rc sm mss r,fV]
theorem Yp(sm:List (List St2))(mss:List (List Int)):∀(l:List (List Nat))(acc:List Int),l.foldl (Ht sm mss) acc=((l.map (N5 sm mss)).filter fun c=>decide (1<=c.2.length)).foldl Bp acc
 |[],_=>rfl
 |s::r,acc=>by
  rw[List.foldl_cons,Yp sm mss r,List.map_cons]
  by_cases h:(DP sm s).length=0
  .have h1:Ht sm mss acc s=acc:=if_pos h
   have h2:decide (1<=(N5 sm mss s).2.length)=false:=decide_eq_false (by show ¬1<=(DP sm s).length;omega)
   rw[h1,List.filter_cons,h2];rfl
  .have h1:Ht sm mss acc s=Bp acc (N5 sm mss s):=if_neg h
   have h2:decide (1<=(N5 sm mss s).2.length)=true:=decide_eq_true (by show 1<=(DP sm s).length;omega)
   rw[h1,List.filter_cons,h2];rfl
theorem mC(sm:List (List St2))(s:List Nat):(DP sm s).length<=sm.length:=by
 unfold DP
 rw[List.length_map]
 exact Nat.le_trans (List.length_filter_le ..) (by rw[List.length_zipIdx];exact Nat.le_refl _)
theorem Ri:∀mss:List (List Int),Bg (mss.map encJ)=mss.map encJ
 |[]=>by rw[List.map_nil,Bg]
 |m::r=>by rw[List.map_cons,Bg,encJ,age,Kp,Ri r]
theorem Qf:∀mss:List (List Int),Aq (mss.map encJ)=true
 |[]=>rfl
 |m::r=>by rw[List.map_cons,Aq,encJ,BZ,FQ,Qf r];rfl
theorem Z7(s:List Nat):age (Bd s)=Bd s:=by
 have:=Kp (s.map fun(i:Nat)=>(i:Int))
 rw[List.map_map] at this
 unfold Bd
 rw[age]
 exact congrArg D.tup this
theorem qC{n m:Nat}{sm:List (List St2)}{mss:List (List Int)}(md:Made n m sm mss)(hn:n<=3)(h20:sm.length<=20)(e2 z5:Option D)(s:List Nat)(hs:s∈DW mss)(acc:List Int)(ha:acc.length=sm.length):∃y5,Le [some (.lst false (sm.map Af)),some (.lst false (mss.map encJ)),e2,some (.ref 0),some (Bd s),z5] [some (acc.map .int)]=some (.nx,[some (.lst false (sm.map Af)),some (.lst false (mss.map encJ)),e2,some (.ref 0),some (Bd s),y5],[some ((Ht sm mss acc s).map .int)]):=by
 have h1:=qT sm h20 (fun b hb=>by rw[(md.box b hb).len];exact hn) s
 obtain⟨pl,pq⟩:=Ra mss s hs
 have h2:=oF mss s (fun ms hm x hx=>(md.mks ms hm).near x hx) pl pq
 have hf:=mC sm s
 have pB:=Di (Ci sm)
 have aB:Bg (sm.map Af)=sm.map Af:=Jd (Ci sm)
 have c1:∀z5:Option D,BJ GJ (Aa (Ab 0) (Aa (Ab 4) Ae)) [some (.lst false (sm.map Af)),some (.lst false (mss.map encJ)),e2,some (.ref 0),some (Bd s),z5] [some (acc.map .int)]=some (.lst true ((DP sm s).map fun(i:Nat)=>D.int i),[some (acc.map .int)]):=fun z5 =>
  Df (ds:=[.lst false (sm.map Af),Bd s]) (es:=[.lst false (sm.map Af),Bd s]) rfl (by rw[Aq,BZ,pB,Aq,RV,Aq];rfl) (by rw[Bg,age,aB,Bg,Z7,Bg]) h1
 have s1:(Bf 5 (eCB Dt (Aa (BJ GJ (Aa (Ab 0) (Aa (Ab 4) Ae))) Ae))) [some (.lst false (sm.map Af)),some (.lst false (mss.map encJ)),e2,some (.ref 0),some (Bd s),z5] [some (acc.map .int)]=some (.nx,[some (.lst false (sm.map Af)),some (.lst false (mss.map encJ)),e2,some (.ref 0),some (Bd s),some (.int (DP sm s).length)],[some (acc.map .int)]):=by
  rw[Bu,Ew,Ak,c1]
  show some (Fl.nx,[some (D.lst false (sm.map Af)),some (.lst false (mss.map encJ)),e2,some (.ref 0),some (Bd s),some (.int (((DP sm s).map fun(i:Nat)=>D.int i).length:Nat))],[some (acc.map D.int)])=_
  rw[List.length_map]
 refine⟨some (.int (DP sm s).length),?_⟩
 have ts:Bh (eOp oGt (Ab 5) (eC (.int 0))) [some (.lst false (sm.map Af)),some (.lst false (mss.map encJ)),e2,some (.ref 0),some (Bd s),some (.int (DP sm s).length)] [some (acc.map .int)]=some (decide (0<((DP sm s).length:Int)),[some (acc.map .int)]):=rfl
 unfold Le
 rw[BP s1]
 by_cases h:(DP sm s).length=0
 .rw[show decide (0<((DP sm s).length:Int))=false from decide_eq_false (by omega)] at ts
  rw[Ku ts,show Ht sm mss acc s=acc from if_pos h];rfl
 .rw[show decide (0<((DP sm s).length:Int))=true from decide_eq_true (by omega)] at ts
  rw[M8 ts,show Ht sm mss acc s=Bp acc (N5 sm mss s) from if_neg h]
  have hi:(DP sm s).length-1<acc.length:=by omega
  have e1:(((DP sm s).length:Int)-1)=(((DP sm s).length-1:Nat):Int):=by omega
  have i0:eOp EY (Ab 5) (eC (.int 1)) [some (.lst false (sm.map Af)),some (.lst false (mss.map encJ)),e2,some (.ref 0),some (Bd s),some (.int (DP sm s).length)] [some (acc.map .int)]=some (.int ((DP sm s).length-1:Nat),[some (acc.map .int)]):=by
   rw[←e1];rfl
  have v3:Ab 3 [some (.lst false (sm.map Af)),some (.lst false (mss.map encJ)),e2,some (.ref 0),some (Bd s),some (.int (DP sm s).length)] [some (acc.map .int)]=some (.ref 0,[some (acc.map .int)]):=rfl
  have i1:eOp oIx (Ab 3) (eOp EY (Ab 5) (eC (.int 1))) [some (.lst false (sm.map Af)),some (.lst false (mss.map encJ)),e2,some (.ref 0),some (Bd s),some (.int (DP sm s).length)] [some (acc.map .int)]=some (.int (acc.getD ((DP sm s).length-1) 0),[some (acc.map .int)]):=by
   rw[BK,v3,Option.bind_some,i0,Option.bind_some]
   show Option.map _ (atI (acc.map D.int) (((DP sm s).length-1:Nat):Int))=_
   rw[Sg hi];rfl
  have c2:BJ HJ (Aa (Ab 1) (Aa (Ab 4) Ae)) [some (.lst false (sm.map Af)),some (.lst false (mss.map encJ)),e2,some (.ref 0),some (Bd s),some (.int (DP sm s).length)] [some (acc.map .int)]=some (.int (Cv (cellOf mss s)),[some (acc.map .int)]) :=
   Df (ds:=[.lst false (mss.map encJ),Bd s]) (es:=[.lst false (mss.map encJ),Bd s]) rfl (by rw[Aq,BZ,Qf,Aq,RV,Aq];rfl) (by rw[Bg,age,Ri,Bg,Z7,Bg]) h2
  rw[Ja,BK,i1,Option.bind_some,c2,Option.bind_some]
  simp only[Dh,Option.map_some,Option.bind_some]
  rw[v3,Option.bind_some,i0,Option.bind_some]
  show(ixN (acc.map D.int).length (((DP sm s).length-1:Nat):Int)).bind _=_
  rw[List.length_map,Ng hi]
  show some (Fl.nx,_,[some ((acc.map D.int).set ((DP sm s).length-1) (.int (acc.getD ((DP sm s).length-1) 0+Cv (cellOf mss s))))])=_
  rw[←List.map_set];rfl
theorem pZ{n m:Nat}{sm:List (List St2)}{mss:List (List Int)}(md:Made n m sm mss)(hn:n<=3)(h20:sm.length<=20):Fy [.lst false (sm.map Af),.lst false (mss.map encJ),.int n]=some (.lst true ((Jg sm.length ((DW mss).foldl (Ht sm mss) (List.replicate sm.length 0))).map .int)):=by
 have hm:=md.big
 have hp:=gK mss (by rw[md.len];exact hn) (fun ms h=>by rw[(md.mks ms h).len];omega)
 have t1:(eCB Dt (Aa (Ab 0) Ae)) [some (.lst false (sm.map Af)),some (.lst false (mss.map encJ)),some (.int n),none,none,none] []=some (.int sm.length,[]):=by
  show(some (D.int ((sm.map Af).length:Nat),([]:Store)):Option (D×Store))=_
  rw[List.length_map]
 have t2:(Bm (Aa (eC (.int 0)) Ae)) [some (.lst false (sm.map Af)),some (.lst false (mss.map encJ)),some (.int n),none,none,none] []=some (.lst true [.int 0],[]):=rfl
 have s1:(Bf 3 (QT (Bm (Aa (eC (.int 0)) Ae)) (eCB Dt (Aa (Ab 0) Ae)))) [some (.lst false (sm.map Af)),some (.lst false (mss.map encJ)),some (.int n),none,none,none] []=some (.nx,[some (.lst false (sm.map Af)),some (.lst false (mss.map encJ)),some (.int n),some (.ref 0),none,none],[some ((List.replicate sm.length (0:Int)).map .int)]):=by
  rw[Bu,dw t2 rfl t1 (by simp;omega) (by omega),Yb]
  rfl
 have c1:BJ Fg (Aa (Ab 1) Ae) [some (.lst false (sm.map Af)),some (.lst false (mss.map encJ)),some (.int n),some (.ref 0),none,none] [some ((List.replicate sm.length (0:Int)).map .int)]=some (.lst true ((DW mss).map Bd),[some ((List.replicate sm.length (0:Int)).map .int)]) :=
  Df (ds:=[.lst false (mss.map encJ)]) (es:=[.lst false (mss.map encJ)]) rfl (by rw[Aq,BZ,Qf,Aq];rfl) (by rw[Bg,age,Ri,Bg]) hp
 have e:Dc (BJ Fg (Aa (Ab 1) Ae)) [some (.lst false (sm.map Af)),some (.lst false (mss.map encJ)),some (.int n),some (.ref 0),none,none] [some ((List.replicate sm.length (0:Int)).map .int)]=some (((DW mss).map Bd,[]),[some ((List.replicate sm.length (0:Int)).map .int)]):=by
  rw[Ge,c1];rfl
 obtain⟨env',S',e2,z4,z5,he,hS⟩:=Ej (w:=[]) (g:=Pat.sem (.nm 4)) (b:=Le) (ds:=(DW mss).map Bd) (env:=[some (.lst false (sm.map Af)),some (.lst false (mss.map encJ)),some (.int n),some (.ref 0),none,none]) (S:=[some ((List.replicate sm.length (0:Int)).map .int)])
  (fun i env S=>∃z4 z5:Option D,env=[some (.lst false (sm.map Af)),some (.lst false (mss.map encJ)),some (.int n),some (.ref 0),z4,z5]/\S=[some ((((DW mss).take i).foldl (Ht sm mss) (List.replicate sm.length 0)).map .int)])
  ⟨none,none,rfl,rfl⟩ (fun i env S _=>by simp) (fun i d env S hd q=>by
   obtain⟨z4,z5,he,hS⟩:=q
   subst he hS
   rw[List.getElem?_map] at hd
   obtain⟨s,hs,rfl⟩:=Option.map_eq_some_iff.mp hd
   obtain⟨y5,b1⟩:=qC md hn h20 (some (.int n)) z5 s (List.mem_of_getElem? hs) (((DW mss).take i).foldl (Ht sm mss) (List.replicate sm.length 0)) (by rw[Rc,List.length_replicate])
   refine⟨[some (.lst false (sm.map Af)),some (.lst false (mss.map encJ)),some (.int n),some (.ref 0),some (Bd s),z5],by rw[Cg];rfl,_,_,b1,_,_,rfl,?_⟩
   rw[List.take_succ,hs,Option.toList_some,List.foldl_append]
   rfl)
 subst he hS
 have:((DW mss).map Bd).length=(DW mss).length:=by simp
 rw[this,List.take_length] at e2
 have l1:OJ [some (.lst false (sm.map Af)),some (.lst false (mss.map encJ)),some (.int n),some (.ref 0),none,none] [some ((List.replicate sm.length (0:Int)).map .int)]=some (.nx,[some (.lst false (sm.map Af)),some (.lst false (mss.map encJ)),some (.int n),some (.ref 0),z4,z5],[some (((DW mss).foldl (Ht sm mss) (List.replicate sm.length 0)).map .int)]):=by
  unfold OJ
  rw[Fd,e]
  exact e2
 have hlen:((DW mss).foldl (Ht sm mss) (List.replicate sm.length 0)).length=sm.length:=by rw[Rc,List.length_replicate]
 generalize (DW mss).foldl (Ht sm mss) (List.replicate sm.length 0)=l at *
 have l2:=YH (some (.lst false (sm.map Af))) (some (.lst false (mss.map encJ))) (some (.int n)) z4 z5 100000 l (by omega)
 rw[hlen] at l2
 unfold Fy
 rw[Dg]
 simp only[List.length_cons,List.length_nil,List.map_cons,List.map_nil,Nat.reduceAdd,Nat.reduceSub,List.replicate_succ,List.replicate_zero,List.cons_append,List.nil_append,if_true]
 unfold TJ Rp
 rw[BP s1,BP l1,BP l2]
 show den 0 [some ((Jg sm.length l).map D.int)] (.ref 0)=_
 rw[den,if_neg (by omega)]
 show(if Aq ((Jg sm.length l).map D.int)=true then _ else _)=_
 rw[if_pos (FQ _)]
end W17
end
section
namespace W17
open PySem L2 VS
theorem Wk{bs:List (List St2)}:∀(xs:List Int)(w:Nat)(ns:List Nat),QS bs w xs ns=ns.filter fun i=>xs.zipIdx.all fun q=>inS (at1 bs i (w+q.2)) q.1
 |[],w,ns=>by
  rw[QS]
  exact(List.filter_eq_self.mpr fun _ _=>rfl).symm
 |x::xs,w,ns=>by
  rw[QS,Wk xs (w+1),Gf,List.filter_filter]
  refine List.filter_congr fun i _=>?_
  rw[List.zipIdx_cons,List.all_cons,Nat.add_zero,Bool.and_comm,Nat.zero_add]
  congr 1
  rw[show xs.zipIdx 1=(xs.zipIdx 0).map fun q=>(q.1,q.2+1) by rw[List.zipIdx_eq_map_add];simp;intros;omega,List.all_map]
  refine congrArg (fun f=>List.all (xs.zipIdx 0) f) (funext fun q=>?_)
  simp only[Function.comp]
  rw[show w+(q.2+1)=w+1+q.2 by omega]
def Py(b:List St2)(xs:List Int):Bool:=(b.zip xs).all fun q=>inS q.1 q.2
theorem V6(b:List St2):∀(xs:List Int)(k:Nat),k+xs.length=b.length->Py (b.drop k) xs=(xs.zipIdx k).all fun q=>inS (b.getD q.2 (0,0)) q.1
 |[],k,_=>by simp[Py]
 |x::xs,k,h=>by
  have hk:k<b.length:=by simp at h;omega
  rw[List.drop_eq_getElem_cons hk,List.zipIdx_cons,List.all_cons,←V6 b xs (k+1) (by simp at h ⊢;omega)]
  unfold Py
  rw[List.zip_cons_cons,List.all_cons]
  congr 1
  rw[List.getD_eq_getElem?_getD,List.getElem?_eq_getElem hk];rfl
theorem bB{ms:List Int}{m i j:Nat}(h:Mk m ms)(hi:i<=m)(hj:j<=m):(ms.getD i 0<ms.getD j 0↔i<j)/\(ms.getD i 0<=ms.getD j 0↔i<=j):=by
 have l1:i<ms.length:=by rw[h.len];omega
 have l2:j<ms.length:=by rw[h.len];omega
 have r:=List.pairwise_iff_getElem.mp h.rise
 rw[List.getD_eq_getElem?_getD,List.getD_eq_getElem?_getD,List.getElem?_eq_getElem l1,List.getElem?_eq_getElem l2,Option.getD_some,Option.getD_some]
 rcases Nat.lt_trichotomy i j with q|q|q
 .have:=r i j l1 l2 q
  constructor<;>omega
 .subst q
  constructor<;>omega
 .have:=r j i l2 l1 q
  constructor<;>omega
theorem Wh{m:Nat}:∀(mss:List (List Int))(b:List St2)(s:List Nat),(∀ms∈mss,Mk m ms)->b.length=mss.length->s.length=mss.length->(∀p∈b,0<=p.1/\p.1<p.2/\p.2<=m)->(∀q∈mss.zip s,q.2<q.1.length-1)->Py (placed mss b) (lows (cellOf mss s))=JL b s
 |[],[],[],_,_,_,_,_=>rfl
 |[],_::_,_,_,h,_,_,_=>by simp at h
 |[],_,_::_,_,_,h,_,_=>by simp at h
 |_::_,[],_,_,h,_,_,_=>by simp at h
 |_::_,_,[],_,_,h,_,_=>by simp at h
 |ms::r,p::b,k::s,hM,h1,h2,hp,hq=>by
  have ih:=Wh r b s (fun x hx=>hM x (List.mem_cons_of_mem _ hx)) (by simpa using h1) (by simpa using h2) (fun x hx=>hp x (List.mem_cons_of_mem _ hx)) (fun x hx=>hq x (by rw[List.zip_cons_cons];exact List.mem_cons_of_mem _ hx))
  have hm:=hM ms List.mem_cons_self
  have hpp:=hp p List.mem_cons_self
  have hk:=hq (ms,k) (by rw[List.zip_cons_cons];exact List.mem_cons_self)
  simp only[hm.len] at hk
  have e1:Py (placed (ms::r) (p::b)) (lows (cellOf (ms::r) (k::s)))=(inS (ms.getD p.1.toNat 0,ms.getD p.2.toNat 0) (ms.getD k 0)&&Py (placed r b) (lows (cellOf r s))):=rfl
  have e2:JL (p::b) (k::s)=(ok1 (p,k)&&JL b s):=rfl
  rw[e1,e2,ih]
  congr 1
  rw[Bool.eq_iff_iff,SX]
  have a:=(bB hm (i:=p.1.toNat) (j:=k) (by omega) (by omega)).2
  have c:=(bB hm (i:=k) (j:=p.2.toNat) (by omega) (by omega)).1
  simp only[a,c,ok1,Bool.and_eq_true,decide_eq_true_eq]
  omega
theorem VP:∀(mss:List (List Int))(s:List Nat),s.length=mss.length->(cellOf mss s).length=mss.length
 |[],[],_=>rfl
 |[],_::_,h=>by simp at h
 |_::_,[],h=>by simp at h
 |_::r,_::s,h=>by rw[cellOf,List.length_cons,List.length_cons,VP r s (by simpa using h)]
theorem qU{n m:Nat}{sm:List (List St2)}{mss:List (List Int)}(md:Made n m sm mss)(s:List Nat)(hs:s∈DW mss):DP sm s=QS (sm.map (placed mss)) 0 (lows (cellOf mss s)) (List.range sm.length):=by
 obtain⟨pl,pq⟩:=Ra mss s hs
 rw[Wk]
 unfold DP
 have e:sm.zipIdx=(List.range sm.length).map fun i=>(sm.getD i [],i):=by
  refine List.ext_getElem (by simp) fun i h1 h2=>?_
  have hi:i<sm.length:=by simpa using h1
  simp[List.getElem?_eq_getElem hi]
 rw[e,List.filter_map,List.map_map]
 have:((fun q:List St2×Nat=>q.2)∘fun i=>(sm.getD i [],i))=id:=rfl
 rw[this,List.map_id]
 refine List.filter_congr fun i hi=>?_
 have hi':=List.mem_range.mp hi
 have hb:=md.box (sm.getD i []) (by rw[List.getD_eq_getElem?_getD,List.getElem?_eq_getElem hi'];exact List.getElem_mem hi')
 have hl:(placed mss (sm.getD i [])).length=n:=(Wb md.len md.mks hb).1
 have eb:(sm.map (placed mss)).getD i []=placed mss (sm.getD i []):=by
  rw[List.getD_eq_getElem?_getD,List.getElem?_map,List.getD_eq_getElem?_getD,List.getElem?_eq_getElem hi'];rfl
 have hx:=V6 (placed mss (sm.getD i [])) (lows (cellOf mss s)) 0 (by
  rw[hl,lows,List.length_map,VP mss s pl,md.len];omega)
 rw[List.drop_zero,Wh mss (sm.getD i []) s md.mks (by rw[hb.len,md.len]) pl hb.all pq] at hx
 show JL (sm.getD i []) s=_
 rw[hx]
 refine congrArg (fun f=>List.all ((lows (cellOf mss s)).zipIdx 0) f) (funext fun q=>?_)
 rw[Nat.zero_add]
 unfold at1
 rw[eb]
theorem Wv{n m:Nat}{sm:List (List St2)}{mss:List (List Int)}(md:Made n m sm mss):∀(k w:Nat),w+k=n->Cov (sm.map (placed mss)) (-1000000000) 2000000000 w (mss.drop w) (List.range sm.length)
 |0,w,h=>by
  rw[List.drop_of_length_le (by rw[md.len];omega)]
  trivial
 |k+1,w,h=>by
  have hw:w<mss.length:=by rw[md.len];omega
  rw[List.drop_eq_getElem_cons hw]
  have hk:=md.mks mss[w] (List.getElem_mem hw)
  refine⟨⟨hk.rise,fun i hi=>?_,fun e he=>by have:=hk.near e he;omega⟩,Wv md k (w+1) (by omega)⟩
  have hi':=List.mem_range.mp hi
  have hb:=md.box sm[i] (List.getElem_mem hi')
  have hwb:w<sm[i].length:=by rw[hb.len];omega
  have hp:=hb.all sm[i][w] (List.getElem_mem hwb)
  have e:at1 (sm.map (placed mss)) i w=(mss[w].getD sm[i][w].1.toNat 0,mss[w].getD sm[i][w].2.toNat 0):=by
   have eb:(sm.map (placed mss)).getD i []=placed mss sm[i]:=by
    rw[List.getD_eq_getElem?_getD,List.getElem?_map,List.getElem?_eq_getElem hi'];rfl
   unfold at1
   rw[eb]
   unfold placed
   rw[List.getD_eq_getElem?_getD,List.getElem?_map,List.getElem?_eq_getElem (show w<(mss.zip sm[i]).length by rw[List.length_zip];omega),List.getElem_zip]
   rfl
  rw[e]
  have l1:sm[i][w].1.toNat<mss[w].length:=by rw[hk.len];omega
  have l2:sm[i][w].2.toNat<mss[w].length:=by rw[hk.len];omega
  constructor
  .show mss[w].getD _ 0∈_
   rw[List.getD_eq_getElem?_getD,List.getElem?_eq_getElem l1];exact List.getElem_mem l1
  .show mss[w].getD _ 0∈_
   rw[List.getD_eq_getElem?_getD,List.getElem?_eq_getElem l2];exact List.getElem_mem l2
theorem mK{n m:Nat}(hn:n=1∨n=2∨n=3){sm:List (List St2)}{mss:List (List Int)}(md:Made n m sm mss) :
  Jg sm.length ((DW mss).foldl (Ht sm mss) (List.replicate sm.length 0))=(Bk (sm.map (placed mss)) n 0 (List.range sm.length)).foldl Bp (List.replicate (maxLen (Bk (sm.map (placed mss)) n 0 (List.range sm.length))) 0):=by
 have g:=md.good hn
 have hl:(sm.map (placed mss)).length=sm.length:=by simp
 have hw:=Wj g
 have hf:=LK g
 rw[hl] at hw hf
 obtain⟨m1,m2,_⟩:=Oo (Bk (sm.map (placed mss)) n 0 (List.range sm.length))
 rw[Yp]
 refine d8 (fun c hc=>⟨(hf c hc).2.1,m1 c hc,WW c.1 fun p hp=>((hf c hc).1 p hp).1⟩) m2 (fun c hc=>of_decide_eq_true (List.mem_filter.mp hc).2) (fun t=>?_) ?_
 .have e1:((DW mss).map (N5 sm mss))=PJ (sm.map (placed mss)) 0 (List.range sm.length) (N6 mss):=by
   unfold PJ
   rw[T6,List.map_map]
   refine List.map_congr_left fun s hs=>?_
   show(cellOf mss s,DP sm s)=_
   rw[qU md s hs];rfl
  have e2:((DW mss).map (N5 sm mss)).filter (fun c=>decide (1<=c.2.length))=((DW mss).map (N5 sm mss)).filter (fun c=>decide (c.2≠[])):=by
   refine List.filter_congr fun c _=>?_
   rw[Bool.eq_iff_iff,decide_eq_true_eq,decide_eq_true_eq]
   exact List.length_pos_iff
  have hg:=Wi (F:=Ft t) (YC t) mss 0 (List.range sm.length) (by rw[md.len];exact hw) (by
   have:=Wv md n 0 (by omega)
   rwa [List.drop_zero] at this)
  rw[e2,Tc (YC t),e1,hg,md.len,VN (YC t) n 0 (List.range sm.length) hw]
 .rcases m2 with h|⟨c,hc,h⟩
  .omega
  .rw[←h];exact(hf c hc).2.2
theorem jW{n:Nat}{bs:List (List St2)}(g:Good n bs):((Bk bs n 0 (List.range bs.length)).foldl Bp (List.replicate (maxLen (Bk bs n 0 (List.range bs.length))) 0)).sum=((Bk bs n 0 (List.range bs.length)).map fun c=>Cv c.1).sum:=by
 have hf:=LK g
 obtain⟨m1,_,_⟩:=Oo (Bk bs n 0 (List.range bs.length))
 rw[WL _ _ (fun c hc=>⟨(hf c hc).2.1,by rw[List.length_replicate];exact m1 c hc⟩)]
 simp
end W17
end
section
namespace W17
open PySem L2 VS
def ins(x:Int):List Int->List Int
 |[]=>[x]
 |y::r=>if x<=y then x::y::r else y::ins x r
def Ui:List Int->List Int
 |[]=>[]
 |x::r=>ins x (Ui r)
theorem U5(x:Int):∀l:List Int,(ins x l).Perm (x::l)
 |[]=>.refl _
 |y::r=>by
  rw[ins]
  split
  .exact .refl _
  .exact((U5 x r).cons y).trans (.swap ..)
theorem V5:∀l:List Int,(Ui l).Perm l
 |[]=>.refl _
 |x::r=>(U5 x _).trans ((V5 r).cons x)
theorem Ym(x:Int):∀{l:List Int},l.Pairwise (·<=·)->(ins x l).Pairwise (·<=·)
 |[],_=>by simp[ins]
 |y::r,h=>by
  obtain⟨h1,h2⟩:=List.pairwise_cons.mp h
  rw[ins]
  split
  .rename_i q
   refine List.pairwise_cons.mpr ⟨fun z hz=>?_,h⟩
   rcases List.mem_cons.mp hz with e|e
   .omega
   .have:=h1 z e;omega
  .refine List.pairwise_cons.mpr ⟨fun z hz=>?_,Ym x h2⟩
   rcases List.mem_cons.mp ((U5 x r).mem_iff.mp hz) with e|e
   .omega
   .exact h1 z e
theorem V4:∀l:List Int,(Ui l).Pairwise (·<=·)
 |[]=>.nil
 |x::r=>Ym x (V4 r)
theorem jc(ns:List Int):GX ns=Ui (SetP.once ns):=(Uw (V5 _) (V4 _)).symm
def Q0(bs:List (List St2)):Nat->Nat->List Nat->List (List St2×List Nat)
 |0,_,ns=>if ns=[] then [] else [([],ns)]
 |k+1,w,ns=>if ns=[] then [] else (steps (Ui (SetP.once (ns.map (fun i=>(at1 bs i w).1)++ns.map (fun i=>(at1 bs i w).2))))).flatMap fun p=>(Q0 bs k (w+1) (Gf bs w p.1 ns)).map fun c=>(p::c.1,c.2)
theorem Rh(bs:List (List St2)):∀(k w:Nat)(ns:List Nat),Bk bs k w ns=Q0 bs k w ns
 |0,_,_=>rfl
 |k+1,w,ns=>by
  rw[Bk,Q0,Dv,jc]
  simp only[Rh bs k]
theorem Xc(is:List Int)(hl:is.length<=1000):Dz [.lst false (is.map .int),.lst false (is.map .int)]=some (.bl true):=by
 have q1:∀S:Store,eqP true S (.lst false (is.map .int)) (.lst false (is.map .int))=some (.bl false):=fun S=>U8 1 (Ol S false is) (Ol S false is) (Tz is) (by decide)
 have c1:Hv [some (.lst false (is.map .int)),some (.lst false (is.map .int))] []=some ([],[]):=by
  have e:Dc (Ab 0) [some (.lst false (is.map .int)),some (.lst false (is.map .int))] []=some ((is.map .int,[]),[]):=rfl
  unfold Hv Cj
  rw[e]
  simp only[Option.bind_some]
  rw[Ni (by simp) D.int (fun _=>false) D.int _ _ (by simp;omega)]
  .simp
  .intro i _
   refine⟨[some (.int i)],by rw[Cg];rfl,?_,fun z=>by cases z⟩
   simp[Ao,CV,BR,Ak,Ew,Ef,Qz,NZ,-List.map_map,-Option.map_bind,noDict,isSeq]
 have k1:Bh (eCB Hl (Aa (Ab 0) (Aa (eC (.ty "list")) Ae))) [some (.lst false (is.map .int)),some (.lst false (is.map .int))] []=some (true,[]):=by
  have h1:DG [] (.lst false (is.map .int))=some (.list (is.map .int)):=Ol [] false is
  simp[Ao,CV,BR,Ak,Ew,Ef,-List.map_map,-Option.map_bind,h1,noDict,isSeq]
 have k2:Bh (eOp (oEq true) (Ab 0) (Ab 1)) [some (.lst false (is.map .int)),some (.lst false (is.map .int))] []=some (false,[]):=by
  show(Option.map _ (eqP true [] (.lst false (is.map D.int)) (.lst false (is.map D.int)))).bind _=_
  rw[q1];rfl
 have s1:(sIf (VS.tOr (VS.Hx (Bh (eCB Hl (Aa (Ab 0) (Aa (eC (.ty "list")) Ae))))) (Bh (eOp (oEq true) (Ab 0) (Ab 1)))) (Cu (eC (.bl false))) En) [some (.lst false (is.map .int)),some (.lst false (is.map .int))] []=some (.nx,[some (.lst false (is.map .int)),some (.lst false (is.map .int))],[]):=by
  rw[Ku (by
   rw[Qz,NZ,k1]
   simp only[Option.bind_some,Bool.not_true,Bool.false_eq_true,if_false]
   exact k2)]
  rfl
 have e0:∀S:Store,eqP false S (.lst true []) (.lst true [])=some (.bl true):=fun S=>W2 (l:=[]) 1 (by simp[DG,VS.den,Ck,toP,Ij]) rfl (by decide)
 unfold Dz
 rw[Dg]
 simp only[List.length_cons,List.length_nil,List.map_cons,List.map_nil,Nat.reduceAdd,Nat.reduceSub,List.replicate_zero,List.append_nil,if_true]
 unfold Od
 have k3:eOp (oEq false) (Bm Hv) (Bm Ae) [some (.lst false (is.map .int)),some (.lst false (is.map .int))] []=some (.bl true,[]):=by
  have e1:oEq false ([]:Store) (.lst true []) (.lst true [])=some (.bl true):=e0 []
  rw[BK,Cr,c1]
  simp only[Option.bind_some,Cr,BR,e1,Option.map_some]
 rw[BP s1,Cq,k3]
 rfl
theorem XS(v:Int):Ek [.int v,.int v]=some (.bl true):=by
 simp[Ek,QG,Cq,Ao,CV,BK,BR,Ak,Ew,QB,bH,oEq,Dg,den,-List.map_map,-Option.map_bind,noDict,isSeq]
theorem qZ{n:Nat}{bs:List (List St2)}(m m':Bool)(S:Store):eqP true S (Av m n bs) (Av m' n bs)=some (.bl false):=U8 4 (RT S m n bs) (RT S m' n bs) (lH 0 n bs) (by decide)
theorem Q7(n:Nat)(bs:List (List St2)):Aq [Av true n bs]=true:=by simp[Aq,BZ,Av,Di (Ci bs)]
theorem RJ(n:Nat)(bs:List (List St2)):Bg [Av true n bs]=[Av false n bs]:=by simp[Bg,age,Av]
theorem gU{n:Nat}{bs:List (List St2)}:Hq [Av false n bs]=some (Av true n bs):=by
 simp[Hq,Wn,Cq,Ao,CV,BK,BR,Ak,Ia,mH,oIx,nList,VS.listOf,CN,Dg,den,Ck,-List.map_map,-Option.map_bind,Av,Di (Ci bs)]
theorem o8{n:Nat}{bs:List (List St2)}(g:Good n bs)(P:List Int)(hP:P=(Bk bs n 0 (List.range bs.length)).foldl Bp (List.replicate (maxLen (Bk bs n 0 (List.range bs.length))) 0))(hl:P.length<=1000)(e0 e1 e2 e3 e4 e5 e6 z10 z11:Option D)(S:Store) :
  Uu [e0,e1,e2,e3,e4,e5,e6,some (Av true n bs),some (.lst true (P.map .int)),some (Av true n bs),z10,z11] S=some (.nx,[e0,e1,e2,e3,e4,e5,e6,some (Av true n bs),some (.lst true (P.map .int)),some (Av true n bs),z10,some (.ref S.length)],S++[some (P.map .int++[.int 0])]):=by
 have h1:=Ye g
 rw[←hP] at h1
 have h2:=VH g
 rw[←jW g,←hP] at h2
 have h3:=Xc P hl
 have h4:=XS P.sum
 have hS:=Ti S (some (P.map D.int)) []
 have hp:=FQ P
 have s1:(Bf 11 (Nz Ei (Aa (Ab 9) Ae))) [e0,e1,e2,e3,e4,e5,e6,some (Av true n bs),some (.lst true (P.map .int)),some (Av true n bs),z10,z11] S=some (.nx,[e0,e1,e2,e3,e4,e5,e6,some (Av true n bs),some (.lst true (P.map .int)),some (Av true n bs),z10,some (.ref S.length)],S++[some (P.map .int)]):=by
  rw[Bu,YQ (d':=.ref S.length) (cs:=P.map .int) (Df (ds:=[Av true n bs]) (es:=[Av false n bs]) (S':=S) rfl (Q7 ..) (RJ ..) h1) (by rw[MJ,if_pos (Ko P fun i _=>rfl)])]
  rfl
 have d1:den 0 (S++[some (P.map D.int)]) (.ref S.length)=some (.lst true (P.map .int)):=by
  rw[den,if_neg (by omega),hS]
  show(if Aq (P.map D.int)=true then _ else _)=_
  rw[if_pos hp]
 have d2:den 0 (S++[some (P.map D.int)]) (.lst true (P.map .int))=some (.lst true (P.map .int)):=by
  rw[den,Cz 0 _ hp];rfl
 have c2:(BJ Dz (Aa (Ab 11) (Aa (Ab 8) Ae))) [e0,e1,e2,e3,e4,e5,e6,some (Av true n bs),some (.lst true (P.map .int)),some (Av true n bs),z10,some (.ref S.length)] (S++[some (P.map .int)])=some (.bl true,S++[some (P.map .int)]) :=
  iu (ds:=[.ref S.length,.lst true (P.map .int)]) (es:=[.lst true (P.map .int),.lst true (P.map .int)]) (fs:=[.lst false (P.map .int),.lst false (P.map .int)]) rfl (by simp only[Ck,d1,d2,Option.bind_some]) (by simp only[Bg,age,Kp]) h3 rfl
 have k2:Bh (eOp (oEq true) (Ab 9) (Ab 7)) [e0,e1,e2,e3,e4,e5,e6,some (Av true n bs),some (.lst true (P.map .int)),some (Av true n bs),z10,some (.ref S.length)] (S++[some (P.map .int)])=some (false,S++[some (P.map .int)]):=by
  have he':oEq true (S++[some (P.map .int)]) (Av true n bs) (Av true n bs)=some (.bl false):=qZ true true _
  show(Option.map _ (oEq true (S++[some (P.map D.int)]) (Av true n bs) (Av true n bs))).bind _=_
  rw[he'];rfl
 have s2:(sIf (VS.tOr (VS.Hx (Bh (BJ Dz (Aa (Ab 11) (Aa (Ab 8) Ae))))) (Bh (eOp (oEq true) (Ab 9) (Ab 7)))) (Cu (eC (.bl false))) En) [e0,e1,e2,e3,e4,e5,e6,some (Av true n bs),some (.lst true (P.map .int)),some (Av true n bs),z10,some (.ref S.length)] (S++[some (P.map .int)])=some (.nx,[e0,e1,e2,e3,e4,e5,e6,some (Av true n bs),some (.lst true (P.map .int)),some (Av true n bs),z10,some (.ref S.length)],S++[some (P.map .int)]):=by
  rw[Ku (by
   rw[Qz,NZ,Ef,c2]
   simp only[Option.bind_some,Bool.not_true,Bool.false_eq_true,if_false]
   exact k2)]
  rfl
 have c3:BJ DR (Aa (Ab 9) Ae) [e0,e1,e2,e3,e4,e5,e6,some (Av true n bs),some (.lst true (P.map .int)),some (Av true n bs),z10,some (.ref S.length)] (S++[some (P.map .int)])=some (.int P.sum,S++[some (P.map .int)]) :=
  Df (ds:=[Av true n bs]) (es:=[Av false n bs]) rfl (Q7 ..) (RJ ..) h2
 have c4:eCB Qx (Aa (Ab 8) Ae) [e0,e1,e2,e3,e4,e5,e6,some (Av true n bs),some (.lst true (P.map .int)),some (Av true n bs),z10,some (.ref S.length)] (S++[some (P.map .int)])=some (.int P.sum,S++[some (P.map .int)]):=by
  show Option.map _ ((intsOf (P.map D.int)).map fun ns=>D.int ns.sum)=_
  rw[Ip];rfl
 have c5:BJ Ek (Aa (BJ DR (Aa (Ab 9) Ae)) (Aa (eCB Qx (Aa (Ab 8) Ae)) Ae)) [e0,e1,e2,e3,e4,e5,e6,some (Av true n bs),some (.lst true (P.map .int)),some (Av true n bs),z10,some (.ref S.length)] (S++[some (P.map .int)])=some (.bl true,S++[some (P.map .int)]) :=
  Df (ds:=[.int P.sum,.int P.sum]) (es:=[.int P.sum,.int P.sum]) (by rw[Ak,c3,Option.bind_some,Ak,c4];rfl) (by simp[Aq,BZ]) (by simp[Bg,age]) h4
 have s3:(sIf (VS.Hx (Bh (BJ Ek (Aa (BJ DR (Aa (Ab 9) Ae)) (Aa (eCB Qx (Aa (Ab 8) Ae)) Ae))))) (Cu (eC (.bl false))) En) [e0,e1,e2,e3,e4,e5,e6,some (Av true n bs),some (.lst true (P.map .int)),some (Av true n bs),z10,some (.ref S.length)] (S++[some (P.map .int)])=some (.nx,[e0,e1,e2,e3,e4,e5,e6,some (Av true n bs),some (.lst true (P.map .int)),some (Av true n bs),z10,some (.ref S.length)],S++[some (P.map .int)]):=by
  rw[Ku (by rw[NZ,Ef,c5];rfl)];rfl
 have s4:(JM (Ga Gd (Ab 11) (Aa (eC (.int 0)) Ae))) [e0,e1,e2,e3,e4,e5,e6,some (Av true n bs),some (.lst true (P.map .int)),some (Av true n bs),z10,some (.ref S.length)] (S++[some (P.map .int)])=some (.nx,[e0,e1,e2,e3,e4,e5,e6,some (Av true n bs),some (.lst true (P.map .int)),some (Av true n bs),z10,some (.ref S.length)],S++[some (P.map .int++[.int 0])]):=by
  rw[HW,J5 (d:=.ref S.length) (cs:=P.map .int) (ds:=[.int 0]) (r:=.non) (S1:=S++[some (P.map .int)]) (S2:=S++[some (P.map .int)]) (S3:=S++[some (P.map .int++[.int 0])]) rfl (by rw[VS.listOf,hS];rfl) rfl (by
   unfold Gd
   simp only[hS]
   rw[if_pos (by rw[List.length_map];omega),j6])]
  rfl
 unfold Uu
 rw[BP s1,BP s2,BP s3,s4]
theorem X8:∀mss:List (List Int),Bg (mss.map Dj)=mss.map encJ
 |[]=>by rw[List.map_nil,Bg];rfl
 |m::r=>by rw[List.map_cons,Bg,Dj,age,Kp,X8 r];rfl
theorem o7{n most:Nat}(hn:n=1∨n=2∨n=3)(h4:4<=most)(hm:most<=[0,20,10,6].getD n 0)(e0 e1:Option D)(x y z:Int)(i:Nat)(S:Store)(hS:S[i]?=some (some [.int x,.int y,.int z]))(z5 z6 z7 z8 z9 z10 z11:Option D):∃(x' z':Int)(S':Store)(y5 y6 y7 y8 y9 y10 y11:Option D),S'[i]?=some (some [.int x',.int y,.int z']) /\
  Ut [e0,e1,some (.ref i),some (.int n),some (.int most),z5,z6,z7,z8,z9,z10,z11] S=some (.nx,[e0,e1,some (.ref i),some (.int n),some (.int most),y5,y6,y7,y8,y9,y10,y11],S'):=by
 obtain⟨m,sm,mss,x',z',h1,md⟩:=qX x y z n most hn h4 hm
 have hn3:n<=3:=by omega
 have h20:sm.length<=20:=by have:=md.few;rcases hn with rfl|rfl|rfl<;>simp at this<;>omega
 have g:=md.good hn
 have hlo:=pZ md hn3 h20
 have hd:=mK hn md
 have hbl:(sm.map (placed mss)).length=sm.length:=by simp
 rw[←hbl] at hd
 rw[hbl] at hd
 have hil:i<S.length:=(List.getElem?_eq_some_iff.mp hS).1
 have hS1:(S.set i (some [.int x',.int y,.int z']))[i]?=some (some [.int x',.int y,.int z']):=by rw[List.getElem?_set_self hil]
 generalize hT:S.set i (some [.int x',.int y,.int z'])=T at *
 have hc:BW GK (Aa (Ab 2) (Aa (Ab 3) (Aa (Ab 4) Ae))) [e0,e1,some (.ref i),some (.int n),some (.int most),z5,z6,z7,z8,z9,z10,z11] S=some (.tup [.lst true (sm.map Af),.lst true (mss.map Dj),Av true n (sm.map (placed mss))],T):=by
  rw[Im (ns:=[x,y,z]) (rest:=[.int n,.int most]) (es:=[.int n,.int most]) (i:=i) (S':=S) rfl hS (by simp[Aq,BZ]) (by simp[Bg,age]) h1,←hT]
  rfl
 have s1:(bU (BW GK (Aa (Ab 2) (Aa (Ab 3) (Aa (Ab 4) Ae)))) (Pat.sem (.tp [(.nm 5),(.nm 6),(.nm 7)]))) [e0,e1,some (.ref i),some (.int n),some (.int most),z5,z6,z7,z8,z9,z10,z11] S=some (.nx,[e0,e1,some (.ref i),some (.int n),some (.int most),some (.lst true (sm.map Af)),some (.lst true (mss.map Dj)),some (Av true n (sm.map (placed mss))),z8,z9,z10,z11],T):=by
  rw[oM,hc]
  simp[Cg,Hy,G7,Fe,-List.map_map,-Option.map_bind]
 rw[hd] at hlo
 obtain⟨P,hP⟩:∃P:List Int,P=(Bk (sm.map (placed mss)) n 0 (List.range sm.length)).foldl Bp (List.replicate (maxLen (Bk (sm.map (placed mss)) n 0 (List.range sm.length))) 0):=⟨_,rfl⟩
 rw[←hP] at hlo
 have hPl:P.length<=1000:=by
  rw[hP,JX,List.length_replicate]
  have hf:=LK g
  rw[hbl] at hf
  obtain⟨_,m2,_⟩:=Oo (Bk (sm.map (placed mss)) n 0 (List.range sm.length))
  rcases m2 with h|⟨c,hc,h⟩
  .omega
  .have:=(hf c hc).2.2;omega
 rw[←hbl] at hP
 have c2:BJ Fy (Aa (Ab 5) (Aa (Ab 6) (Aa (Ab 3) Ae))) [e0,e1,some (.ref i),some (.int n),some (.int most),some (.lst true (sm.map Af)),some (.lst true (mss.map Dj)),some (Av true n (sm.map (placed mss))),z8,z9,z10,z11] T=some (.lst true (P.map .int),T) :=
  Df (ds:=[.lst true (sm.map Af),.lst true (mss.map Dj),.int n]) (es:=[.lst false (sm.map Af),.lst false (mss.map encJ),.int n]) rfl (by rw[Aq,BZ,Di (Ci sm),Aq,BZ,Qg];rfl) (by simp only[Bg,age,Jd (Ci sm),X8]) hlo
 have s2:(Bf 8 (BJ Fy (Aa (Ab 5) (Aa (Ab 6) (Aa (Ab 3) Ae))))) [e0,e1,some (.ref i),some (.int n),some (.int most),some (.lst true (sm.map Af)),some (.lst true (mss.map Dj)),some (Av true n (sm.map (placed mss))),z8,z9,z10,z11] T=some (.nx,[e0,e1,some (.ref i),some (.int n),some (.int most),some (.lst true (sm.map Af)),some (.lst true (mss.map Dj)),some (Av true n (sm.map (placed mss))),some (.lst true (P.map .int)),z9,z10,z11],T):=by
  rw[Bu,c2];rfl
 have s3:(Bf 9 (BJ Hq (Aa (Ab 7) Ae))) [e0,e1,some (.ref i),some (.int n),some (.int most),some (.lst true (sm.map Af)),some (.lst true (mss.map Dj)),some (Av true n (sm.map (placed mss))),some (.lst true (P.map .int)),z9,z10,z11] T=some (.nx,[e0,e1,some (.ref i),some (.int n),some (.int most),some (.lst true (sm.map Af)),some (.lst true (mss.map Dj)),some (Av true n (sm.map (placed mss))),some (.lst true (P.map .int)),some (Av true n (sm.map (placed mss))),z10,z11],T):=by
  rw[Bu,Df (ds:=[Av true n (sm.map (placed mss))]) (es:=[Av false n (sm.map (placed mss))]) (S':=T) rfl (Q7 ..) (RJ ..) gU];rfl
 generalize sm.map (placed mss)=bs at *
 have l1:∃(y10 y11:Option D)(S':Store),S'[i]?=some (some [.int x',.int y,.int z'])/\Y7 [e0,e1,some (.ref i),some (.int n),some (.int most),some (.lst true (sm.map Af)),some (.lst true (mss.map Dj)),some (Av true n bs),some (.lst true (P.map .int)),some (Av true n bs),z10,z11] T=some (.nx,[e0,e1,some (.ref i),some (.int n),some (.int most),some (.lst true (sm.map Af)),some (.lst true (mss.map Dj)),some (Av true n bs),some (.lst true (P.map .int)),some (Av true n bs),y10,y11],S'):=by
  have e:Et (Aa (eC (.int 2)) Ae) [e0,e1,some (.ref i),some (.int n),some (.int most),some (.lst true (sm.map Af)),some (.lst true (mss.map Dj)),some (Av true n bs),some (.lst true (P.map .int)),some (Av true n bs),z10,z11] T=some ((upD 0 2,[]),T):=M5 (j:=2) 2 rfl (by decide) (by decide) (by decide)
  unfold Y7
  rw[Fd,e]
  obtain⟨env',S',e2,y10,y11,he,hS'⟩:=Ej (w:=[]) (g:=Pat.sem (.nm 10)) (b:=Uu) (ds:=upD 0 2) (env:=[e0,e1,some (.ref i),some (.int n),some (.int most),some (.lst true (sm.map Af)),some (.lst true (mss.map Dj)),some (Av true n bs),some (.lst true (P.map .int)),some (Av true n bs),z10,z11]) (S:=T)
   (fun _ env S'=>∃y10 y11:Option D,env=[e0,e1,some (.ref i),some (.int n),some (.int most),some (.lst true (sm.map Af)),some (.lst true (mss.map Dj)),some (Av true n bs),some (.lst true (P.map .int)),some (Av true n bs),y10,y11]/\S'[i]?=some (some [.int x',.int y,.int z'])) ⟨z10,z11,rfl,hS1⟩ (fun i env S _=>by simp) (fun j d env S' hd q=>by
    obtain⟨y10,y11,he,hS'⟩:=q
    subst he
    refine⟨_,Cg _ _ _,_,_,o8 g P hP hPl _ _ _ _ _ _ _ _ _ S',_,_,rfl,?_⟩
    rw[List.getElem?_append_left (List.getElem?_eq_some_iff.mp hS').1];exact hS')
  subst he
  exact⟨y10,y11,S',hS',e2⟩
 obtain⟨y10,y11,S',hS',l1⟩:=l1
 refine⟨x',z',S',some (.lst true (sm.map Af)),some (.lst true (mss.map Dj)),some (Av true n bs),some (.lst true (P.map .int)),some (Av true n bs),y10,y11,hS',?_⟩
 unfold Ut
 rw[BP s1,BP s2,BP s3]
 exact l1
end W17
end
section
namespace W17
open PySem L2 VS
theorem gq(e0 e1:Option D)(x y z:Int)(i:Nat)(S:Store)(hS:S[i]?=some (some [.int x,.int y,.int z]))(z3 z4 z5 z6 z7 z8 z9 z10 z11:Option D):∃(S':Store)(y3 y4 y5 y6 y7 y8 y9 y10 y11:Option D),
  Y6 [e0,e1,some (.ref i),z3,z4,z5,z6,z7,z8,z9,z10,z11] S=some (.nx,[e0,e1,some (.ref i),y3,y4,y5,y6,y7,y8,y9,y10,y11],S'):=by
 have e:Dc (Bl (Aa (Bl (Aa (eC (.int 1)) (Aa (eC (.int 20)) Ae))) (Aa (Bl (Aa (eC (.int 2)) (Aa (eC (.int 10)) Ae))) (Aa (Bl (Aa (eC (.int 3)) (Aa (eC (.int 6)) Ae))) Ae)))) [e0,e1,some (.ref i),z3,z4,z5,z6,z7,z8,z9,z10,z11] S=some (([(1,20),(2,10),(3,6)].map (fun q:Nat×Nat=>D.tup [.int q.1,.int q.2]),[]),S):=rfl
 unfold Y6
 rw[Fd,e]
 obtain⟨env',S',e2,y3,y4,y5,y6,y7,y8,y9,y10,y11,he,_⟩:=Ej (w:=[]) (g:=Pat.sem (.tp [(.nm 3),(.nm 4)])) (b:=Ut) (ds:=[(1,20),(2,10),(3,6)].map (fun q:Nat×Nat=>D.tup [.int q.1,.int q.2])) (env:=[e0,e1,some (.ref i),z3,z4,z5,z6,z7,z8,z9,z10,z11]) (S:=S)
  (fun _ env T=>∃y3 y4 y5 y6 y7 y8 y9 y10 y11:Option D,env=[e0,e1,some (.ref i),y3,y4,y5,y6,y7,y8,y9,y10,y11]/\∃x' z':Int,T[i]?=some (some [.int x',.int y,.int z'])) ⟨z3,z4,z5,z6,z7,z8,z9,z10,z11,rfl,x,z,hS⟩ (fun i env S _=>by simp) (fun j d env T hd q=>by
   obtain⟨y3,y4,y5,y6,y7,y8,y9,y10,y11,he,x',z',hT⟩:=q
   subst he
   rw[List.getElem?_map] at hd
   obtain⟨q,hq,rfl⟩:=Option.map_eq_some_iff.mp hd
   have hm:=List.mem_of_getElem? hq
   have hq2:(q.1=1∨q.1=2∨q.1=3)/\4<=q.2/\q.2<=[0,20,10,6].getD q.1 0:=by
    simp only[List.mem_cons,List.not_mem_nil,or_false] at hm
    rcases hm with rfl|rfl|rfl<;>decide
   obtain⟨x2,z2,S2,w5,w6,w7,w8,w9,w10,w11,hS2,b2⟩:=o7 hq2.1 hq2.2.1 hq2.2.2 e0 e1 x' y z' i T hT y5 y6 y7 y8 y9 y10 y11
   exact⟨[e0,e1,some (.ref i),some (.int q.1),some (.int q.2),y5,y6,y7,y8,y9,y10,y11],by simp[Cg,Hy,G7,Fe,-List.map_map,-Option.map_bind],_,_,b2,_,_,_,_,_,_,_,_,_,rfl,x2,z2,hS2⟩)
 subst he
 exact⟨S',y3,y4,y5,y6,y7,y8,y9,y10,y11,e2⟩
theorem nu(ns:List Int)(c:Int)(z2 z3 z4 z5 z6 z7 z8 z9 z10 z11:Option D)(S:Store):∃(S':Store)(y2 y3 y4 y5 y6 y7 y8 y9 y10 y11:Option D),Us [some (.scr ns),some (.int c),z2,z3,z4,z5,z6,z7,z8,z9,z10,z11] S=some (.nx,[some (.scr ns),some (.int c),y2,y3,y4,y5,y6,y7,y8,y9,y10,y11],S'):=by
 obtain⟨x0,p0⟩:=uR c
 have s1:(Bf 2 (Nz Ho (Aa (Ab 1) Ae))) [some (.scr ns),some (.int c),z2,z3,z4,z5,z6,z7,z8,z9,z10,z11] S=some (.nx,[some (.scr ns),some (.int c),some (.ref S.length),z3,z4,z5,z6,z7,z8,z9,z10,z11],S++[some [.int x0,.int c,.int 0]]):=by
  rw[Bu,YQ (d':=.ref S.length) (cs:=[.int x0,.int c,.int 0]) (Df (ds:=[.int c]) (es:=[.int c]) (S':=S) rfl (by simp[Aq,BZ]) (by simp[Bg,age]) p0) (by simp[MJ,Eo,Dk])]
  rfl
 obtain⟨S',y3,y4,y5,y6,y7,y8,y9,y10,y11,l2⟩:=gq (some (.scr ns)) (some (.int c)) x0 c 0 S.length (S++[some [.int x0,.int c,.int 0]]) (Ti S _ []) z3 z4 z5 z6 z7 z8 z9 z10 z11
 refine⟨S',some (.ref S.length),y3,y4,y5,y6,y7,y8,y9,y10,y11,?_⟩
 unfold Us
 rw[BP s1]
 exact l2
theorem lJ:∀ns:List Int,ns.length<=63->Vt [.scr ns]=some (.bl true):=by
 intro ns hns
 obtain⟨l,e⟩:∃l:List Int,Dc (eOp Dh (eSl oSl (Ab 0) Mx (Mw (eC (.int 4)))) (Bm (Aa (eCB Dt (Aa (Ab 0) Ae)) Ae))) [some (.scr ns),none,none,none,none,none,none,none,none,none,none,none] []=some ((l.map .int,[]),[]):=by
  obtain⟨cs,hc,hl⟩:∃cs:List Int,cut (ns.map D.int) none (some 4)=cs.map D.int/\cs.length<=63:=by
   unfold cut
   rw[←List.map_drop,←List.map_take]
   exact⟨_,rfl,by rw[List.length_take,List.length_drop];omega⟩
  have hl2:cs.length+1<=1000000:=by omega
  refine⟨cs++[(ns.length:Int)],?_⟩
  have a1:eSl oSl (Ab 0) Mx (Mw (eC (.int 4))) [some (.scr ns),none,none,none,none,none,none,none,none,none,none,none] []=some (.lst true (cs.map .int),[]):=by
   show(some (D.lst true (cut (ns.map D.int) none (some 4)),([]:Store)):Option (D×Store))=_
   rw[hc]
  have a2:Bm (Aa (eCB Dt (Aa (Ab 0) Ae)) Ae) [some (.scr ns),none,none,none,none,none,none,none,none,none,none,none] []=some (.lst true ([(ns.length:Int)].map .int),[]):=by
   show(some (D.lst true [.int ((ns.map D.int).length:Nat)],([]:Store)):Option (D×Store))=_
   rw[List.length_map];rfl
  rw[Ge,BK,a1,Option.bind_some,a2,Option.bind_some]
  show(Option.map _ (if (cs.map D.int).length+1<=1000000 then some (D.lst true (cs.map D.int++[(ns.length:Int)].map D.int)) else none)).bind _=_
  rw[if_pos (by rw[List.length_map];exact hl2),←List.map_append]
  rfl
 have l1:∃env' S',Y5 [some (.scr ns),none,none,none,none,none,none,none,none,none,none,none] []=some (.nx,env',S')/\∃y1 y2 y3 y4 y5 y6 y7 y8 y9 y10 y11,env'=[some (.scr ns),y1,y2,y3,y4,y5,y6,y7,y8,y9,y10,y11]:=by
  unfold Y5
  rw[Fd,e]
  exact Ej (w:=[]) (g:=Pat.sem (.nm 1)) (b:=Us) (ds:=l.map .int) (env:=[some (.scr ns),none,none,none,none,none,none,none,none,none,none,none]) (S:=[])
   (fun _ env S=>∃y1 y2 y3 y4 y5 y6 y7 y8 y9 y10 y11,env=[some (.scr ns),y1,y2,y3,y4,y5,y6,y7,y8,y9,y10,y11]) ⟨_,_,_,_,_,_,_,_,_,_,_,rfl⟩ (fun i env S _=>by simp) (fun j d env S hd q=>by
    obtain⟨y1,y2,y3,y4,y5,y6,y7,y8,y9,y10,y11,he⟩:=q
    rw[List.getElem?_map] at hd
    obtain⟨c,hc,rfl⟩:=Option.map_eq_some_iff.mp hd
    subst he
    obtain⟨S',w2,w3,w4,w5,w6,w7,w8,w9,w10,w11,e3⟩:=nu ns c y2 y3 y4 y5 y6 y7 y8 y9 y10 y11 S
    exact⟨_,Cg _ _ _,_,_,e3,_,_,_,_,_,_,_,_,_,_,_,rfl⟩)
 obtain⟨env',S',l1,y1,y2,y3,y4,y5,y6,y7,y8,y9,y10,y11,he⟩:=l1
 subst he
 have gA:Good 1 []:=⟨.inl rfl,by simp,by simp⟩
 have gB:Good 3 [[((0:Int),(2:Int)),(0,2),(0,2)],[(1,3),(1,3),(1,3)]]:=⟨.inr (.inr rfl),by simp,by decide⟩
 have hA:=VH gA
 have hB:=Ye gB
 rw[Rh] at hA
 simp only[Rh] at hB
 have vA:((Q0 [] 1 0 (List.range ([]:List (List St2)).length)).map fun c=>Cv c.1).sum=0:=rfl
 have vB:(Q0 [[((0:Int),(2:Int)),(0,2),(0,2)],[(1,3),(1,3),(1,3)]] 3 0 (List.range [[((0:Int),(2:Int)),(0,2),(0,2)],[(1,3),(1,3),(1,3)]].length)).foldl Bp (List.replicate (maxLen (Q0 [[((0:Int),(2:Int)),(0,2),(0,2)],[(1,3),(1,3),(1,3)]] 3 0 (List.range [[((0:Int),(2:Int)),(0,2),(0,2)],[(1,3),(1,3),(1,3)]].length))) 0)=[14,1]:=by decide +kernel
 rw[vA] at hA
 rw[vB] at hB
 have cA:(BJ DR (Aa (Bl (Aa (eC (.int 1)) (Aa (Bm Ae) Ae))) Ae)) [some (.scr ns),y1,y2,y3,y4,y5,y6,y7,y8,y9,y10,y11] S'=some (.int 0,S') :=
  Df (ds:=[Av true 1 []]) (es:=[Av false 1 []]) (S':=S') rfl (Q7 ..) (RJ ..) hA
 have cB:(BJ Ei (Aa (Bl (Aa (eC (.int 3)) (Aa (Bm (Aa (eOp Gp (Bl (Aa (Bl (Aa (eC (.int 0)) (Aa (eC (.int 2)) Ae))) Ae)) (eC (.int 3))) (Aa (eOp Gp (Bl (Aa (Bl (Aa (eC (.int 1)) (Aa (eC (.int 3)) Ae))) Ae)) (eC (.int 3))) Ae))) Ae))) Ae)) [some (.scr ns),y1,y2,y3,y4,y5,y6,y7,y8,y9,y10,y11] S'=some (.lst true [.int 14,.int 1],S') :=
  Df (ds:=[Av true 3 [[((0:Int),(2:Int)),(0,2),(0,2)],[(1,3),(1,3),(1,3)]]]) (es:=[Av false 3 [[((0:Int),(2:Int)),(0,2),(0,2)],[(1,3),(1,3),(1,3)]]]) (S':=S') (by simp[CV,BK,BR,Ak,Cr,Ia,Nq,Gp,VS.listOf,List.replicate_succ,-List.map_map,-Option.map_bind,Av,Af,Ba]) (Q7 ..) (RJ ..) hB
 have qB:∀S:Store,oEq false S (.lst true [.int 14,.int 1]) (.lst true [.int 14,.int 1])=some (.bl true):=fun S=>U8 (p:=.list [.int 14,.int 1]) 1 (by simp[DG,VS.den,Ck,toP,Ij]) (by simp[DG,VS.den,Ck,toP,Ij]) rfl (by decide)
 unfold Vt
 rw[Dg]
 simp only[List.length_cons,List.length_nil,List.map_cons,List.map_nil,Nat.reduceAdd,Nat.reduceSub,List.replicate_succ,List.replicate_zero,List.cons_append,List.nil_append,if_true]
 unfold nJ
 rw[BP l1]
 have qA:∀S:Store,oEq false S (.int 0) (.int 0)=some (.bl true):=fun S=>rfl
 simp[Cq,QB,BK,CV,Cr,Ia,Ak,BR,qA,qB,cA,cB,den]
end W17
end
section
namespace W17
open PySem PySem.Spec L2 VS
theorem Kq:∀{us:List Value},us.length=1->∃a0,us=[a0]
 |[a0],_=>⟨a0,rfl⟩
theorem Nk:∀{us:List Value},us.length=2->∃a0 a1,us=[a0,a1]
 |[a0,a1],_=>⟨a0,a1,rfl⟩
theorem j5:∀{us:List Value},us.length=3->∃a0 a1 a2,us=[a0,a1,a2]
 |[a0,a1,a2],_=>⟨a0,a1,a2,rfl⟩
theorem rm:∀{us:List Value},us.length=4->∃a0 a1 a2 a3,us=[a0,a1,a2,a3]
 |[a0,a1,a2,a3],_=>⟨a0,a1,a2,a3,rfl⟩
theorem tops{l:PySem.W.OpenLaw}{w:World}{K:PySem.W.Frag}{h:Heap}{mg:Str->Option Value}{fa dM:Addr}{f1 f2 f3 f4 f5 f6 f7 f8 f9 f10 f11 f12 f13 f14 f15 f16 f17 f18 f19 f20 f21 f22 f23 f24 f25 f26 f27 f28 f29 f30 f31:Addr}(X:K.In h)(G:h.Ns mainGlobals mg)(hfa:mg "law"=some (.ref fa))
  {od1 an1 od2 an2 od3 an3 od4 an4 od5 an5 od6 an6 od7 an7 od8 an8 od9 an9 od10 an10 od11 an11 od12 an12 od13 an13 od14 an14 od15 an15 od16 an16 od17 an17 od18 an18 od19 an19 od20 an20 od21 an21 od22 an22 od23 an23 od24 an24 od25 an25 od26 an26 od27 an27 od28 an28 od29 an29 od30 an30 od31 an31:Option Addr} {sl1 sl2 sl3 sl4 sl5 sl6 sl7 sl8 sl9 sl10 sl11 sl12 sl13 sl14 sl15 sl16 sl17 sl18 sl19 sl20 sl21 sl22 sl23 sl24 sl25 sl26 sl27 sl28 sl29 sl30 sl31:Array (Option Value)} {oc1 kV1 dc1 pm1 cd1 ct1 oc2 kV2 dc2 pm2 cd2 ct2 oc3 kV3 dc3 pm3 cd3 ct3 oc4 kV4 dc4 pm4 cd4 ct4 oc5 kV5 dc5 pm5 cd5 ct5 oc6 kV6 dc6 pm6 cd6 ct6 oc7 kV7 dc7 pm7 cd7 ct7 oc8 kV8 dc8 pm8 cd8 ct8 oc9 kV9 dc9 pm9 cd9 ct9 oc10 kV10 dc10 pm10 cd10 ct10 oc11 kV11 dc11 pm11 cd11 ct11 oc12 kV12 dc12 pm12 cd12 ct12 oc13 kV13 dc13 pm13 cd13 ct13 oc14 kV14 dc14 pm14 cd14 ct14 oc15 kV15 dc15 pm15 cd15 ct15 oc16 kV16 dc16 pm16 cd16 ct16 oc17 kV17 dc17 pm17 cd17 ct17 oc18 kV18 dc18 pm18 cd18 ct18 oc19 kV19 dc19 pm19 cd19 ct19 oc20 kV20 dc20 pm20 cd20 ct20 oc21 kV21 dc21 pm21 cd21 ct21 oc22 kV22 dc22 pm22 cd22 ct22 oc23 kV23 dc23 pm23 cd23 ct23 oc24 kV24 dc24 pm24 cd24 ct24 oc25 kV25 dc25 pm25 cd25 ct25 oc26 kV26 dc26 pm26 cd26 ct26 oc27 kV27 dc27 pm27 cd27 ct27 oc28 kV28 dc28 pm28 cd28 ct28 oc29 kV29 dc29 pm29 cd29 ct29 oc30 kV30 dc30 pm30 cd30 ct30 oc31 kV31 dc31 pm31 cd31 ct31:Value}
  (a1:PySem.W.nsIn K mainGlobals "is_whole"=some (some (.ref f1))) (l1:K.lookup f1=some ⟨oc1,od1,.func (PySem.W.fnOf "is_whole" "is_whole" (Bv Jm) (Bq Jm) (Aj Jm) .none kV1 dc1 pm1 an1 cd1 ct1),sl1⟩) (c1:PySem.W.codeIn K cd1 "is_whole"=true) (k1:PySem.W.keepIn K (.ref f1)=true)
  (a2:PySem.W.nsIn K mainGlobals "are_ways"=some (some (.ref f2))) (l2:K.lookup f2=some ⟨oc2,od2,.func (PySem.W.fnOf "are_ways" "are_ways" (Bv Jq) (Bq Jq) (Aj Jq) .none kV2 dc2 pm2 an2 cd2 ct2),sl2⟩) (c2:PySem.W.codeIn K cd2 "are_ways"=true) (k2:PySem.W.keepIn K (.ref f2)=true)
  (a3:PySem.W.nsIn K mainGlobals "is_stretch"=some (some (.ref f3))) (l3:K.lookup f3=some ⟨oc3,od3,.func (PySem.W.fnOf "is_stretch" "is_stretch" (Bv Ib) (Bq Ib) (Aj Ib) .none kV3 dc3 pm3 an3 cd3 ct3),sl3⟩) (c3:PySem.W.codeIn K cd3 "is_stretch"=true) (k3:PySem.W.keepIn K (.ref f3)=true)
  (a4:PySem.W.nsIn K mainGlobals "is_box"=some (some (.ref f4))) (l4:K.lookup f4=some ⟨oc4,od4,.func (PySem.W.fnOf "is_box" "is_box" (Bv Kc) (Bq Kc) (Aj Kc) .none kV4 dc4 pm4 an4 cd4 ct4),sl4⟩) (c4:PySem.W.codeIn K cd4 "is_box"=true) (k4:PySem.W.keepIn K (.ref f4)=true)
  (a5:PySem.W.nsIn K mainGlobals "is_heap"=some (some (.ref f5))) (l5:K.lookup f5=some ⟨oc5,od5,.func (PySem.W.fnOf "is_heap" "is_heap" (Bv JZ) (Bq JZ) (Aj JZ) .none kV5 dc5 pm5 an5 cd5 ct5),sl5⟩) (c5:PySem.W.codeIn K cd5 "is_heap"=true) (k5:PySem.W.keepIn K (.ref f5)=true)
  (a6:PySem.W.nsIn K mainGlobals "need_heap"=some (some (.ref f6))) (l6:K.lookup f6=some ⟨oc6,od6,.func (PySem.W.fnOf "need_heap" "need_heap" (Bv JB) (Bq JB) (Aj JB) .none kV6 dc6 pm6 an6 cd6 ct6),sl6⟩) (c6:PySem.W.codeIn K cd6 "need_heap"=true) (k6:PySem.W.keepIn K (.ref f6)=true)
  (a7:PySem.W.nsIn K mainGlobals "box_size"=some (some (.ref f7))) (l7:K.lookup f7=some ⟨oc7,od7,.func (PySem.W.fnOf "box_size" "box_size" (Bv Jp) (Bq Jp) (Aj Jp) .none kV7 dc7 pm7 an7 cd7 ct7),sl7⟩) (c7:PySem.W.codeIn K cd7 "box_size"=true) (k7:PySem.W.keepIn K (.ref f7)=true)
  (a8:PySem.W.nsIn K mainGlobals "ends_along"=some (some (.ref f8))) (l8:K.lookup f8=some ⟨oc8,od8,.func (PySem.W.fnOf "ends_along" "ends_along" (Bv GQ) (Bq GQ) (Aj GQ) .none kV8 dc8 pm8 an8 cd8 ct8),sl8⟩) (c8:PySem.W.codeIn K cd8 "ends_along"=true) (k8:PySem.W.keepIn K (.ref f8)=true)
  (a9:PySem.W.nsIn K mainGlobals "steps_along"=some (some (.ref f9))) (l9:K.lookup f9=some ⟨oc9,od9,.func (PySem.W.fnOf "steps_along" "steps_along" (Bv Hf) (Bq Hf) (Aj Hf) .none kV9 dc9 pm9 an9 cd9 ct9),sl9⟩) (c9:PySem.W.codeIn K cd9 "steps_along"=true) (k9:PySem.W.keepIn K (.ref f9)=true)
  (a10:PySem.W.nsIn K mainGlobals "cells_from"=some (some (.ref f10))) (l10:K.lookup f10=some ⟨oc10,od10,.func (PySem.W.fnOf "cells_from" "cells_from" (Bv GR) (Bq GR) (Aj GR) .none kV10 dc10 pm10 an10 cd10 ct10),sl10⟩) (c10:PySem.W.codeIn K cd10 "cells_from"=true) (k10:PySem.W.keepIn K (.ref f10)=true)
  (a11:PySem.W.nsIn K mainGlobals "cells_of"=some (some (.ref f11))) (l11:K.lookup f11=some ⟨oc11,od11,.func (PySem.W.fnOf "cells_of" "cells_of" (Bv Jo) (Bq Jo) (Aj Jo) .none kV11 dc11 pm11 an11 cd11 ct11),sl11⟩) (c11:PySem.W.codeIn K cd11 "cells_of"=true) (k11:PySem.W.keepIn K (.ref f11)=true)
  (a12:PySem.W.nsIn K mainGlobals "size_together"=some (some (.ref f12))) (l12:K.lookup f12=some ⟨oc12,od12,.func (PySem.W.fnOf "size_together" "size_together" (Bv Fx) (Bq Fx) (Aj Fx) .none kV12 dc12 pm12 an12 cd12 ct12),sl12⟩) (c12:PySem.W.codeIn K cd12 "size_together"=true) (k12:PySem.W.keepIn K (.ref f12)=true)
  (a13:PySem.W.nsIn K mainGlobals "sizes_by_times"=some (some (.ref f13))) (l13:K.lookup f13=some ⟨oc13,od13,.func (PySem.W.fnOf "sizes_by_times" "sizes_by_times" (Bv FZ) (Bq FZ) (Aj FZ) .none kV13 dc13 pm13 an13 cd13 ct13),sl13⟩) (c13:PySem.W.codeIn K cd13 "sizes_by_times"=true) (k13:PySem.W.keepIn K (.ref f13)=true)
  (a14:PySem.W.nsIn K mainGlobals "covered_size"=some (some (.ref f14))) (l14:K.lookup f14=some ⟨oc14,od14,.func (PySem.W.fnOf "covered_size" "covered_size" (Bv Gy) (Bq Gy) (Aj Gy) .none kV14 dc14 pm14 an14 cd14 ct14),sl14⟩) (c14:PySem.W.codeIn K cd14 "covered_size"=true) (k14:PySem.W.keepIn K (.ref f14)=true)
  (a15:PySem.W.nsIn K mainGlobals "sizes_often"=some (some (.ref f15))) (l15:K.lookup f15=some ⟨oc15,od15,.func (PySem.W.fnOf "sizes_often" "sizes_often" (Bv Hg) (Bq Hg) (Aj Hg) .none kV15 dc15 pm15 an15 cd15 ct15),sl15⟩) (c15:PySem.W.codeIn K cd15 "sizes_often"=true) (k15:PySem.W.keepIn K (.ref f15)=true)
  (a16:PySem.W.nsIn K mainGlobals "_law_mixed"=some (some (.ref f16))) (l16:K.lookup f16=some ⟨oc16,od16,.func (PySem.W.fnOf "_law_mixed" "_law_mixed" (Bv JF) (Bq JF) (Aj JF) .none kV16 dc16 pm16 an16 cd16 ct16),sl16⟩) (c16:PySem.W.codeIn K cd16 "_law_mixed"=true) (k16:PySem.W.keepIn K (.ref f16)=true)
  (a17:PySem.W.nsIn K mainGlobals "_law_pot"=some (some (.ref f17))) (l17:K.lookup f17=some ⟨oc17,od17,.func (PySem.W.fnOf "_law_pot" "_law_pot" (Bv Kh) (Bq Kh) (Aj Kh) .none kV17 dc17 pm17 an17 cd17 ct17),sl17⟩) (c17:PySem.W.codeIn K cd17 "_law_pot"=true) (k17:PySem.W.keepIn K (.ref f17)=true)
  (a18:PySem.W.nsIn K mainGlobals "_law_take"=some (some (.ref f18))) (l18:K.lookup f18=some ⟨oc18,od18,.func (PySem.W.fnOf "_law_take" "_law_take" (Bv Jk) (Bq Jk) (Aj Jk) .none kV18 dc18 pm18 an18 cd18 ct18),sl18⟩) (c18:PySem.W.codeIn K cd18 "_law_take"=true) (k18:PySem.W.keepIn K (.ref f18)=true)
  (a19:PySem.W.nsIn K mainGlobals "_law_mixed_up"=some (some (.ref f19))) (l19:K.lookup f19=some ⟨oc19,od19,.func (PySem.W.fnOf "_law_mixed_up" "_law_mixed_up" (Bv G9) (Bq G9) (Aj G9) .none kV19 dc19 pm19 an19 cd19 ct19),sl19⟩) (c19:PySem.W.codeIn K cd19 "_law_mixed_up"=true) (k19:PySem.W.keepIn K (.ref f19)=true)
  (a20:PySem.W.nsIn K mainGlobals "_law_unlike"=some (some (.ref f20))) (l20:K.lookup f20=some ⟨oc20,od20,.func (PySem.W.fnOf "_law_unlike" "_law_unlike" (Bv GP) (Bq GP) (Aj GP) .none kV20 dc20 pm20 an20 cd20 ct20),sl20⟩) (c20:PySem.W.codeIn K cd20 "_law_unlike"=true) (k20:PySem.W.keepIn K (.ref f20)=true)
  (a21:PySem.W.nsIn K mainGlobals "_law_small"=some (some (.ref f21))) (l21:K.lookup f21=some ⟨oc21,od21,.func (PySem.W.fnOf "_law_small" "_law_small" (Bv Hr) (Bq Hr) (Aj Hr) .none kV21 dc21 pm21 an21 cd21 ct21),sl21⟩) (c21:PySem.W.codeIn K cd21 "_law_small"=true) (k21:PySem.W.keepIn K (.ref f21)=true)
  (a22:PySem.W.nsIn K mainGlobals "_law_marks"=some (some (.ref f22))) (l22:K.lookup f22=some ⟨oc22,od22,.func (PySem.W.fnOf "_law_marks" "_law_marks" (Bv JH) (Bq JH) (Aj JH) .none kV22 dc22 pm22 an22 cd22 ct22),sl22⟩) (c22:PySem.W.codeIn K cd22 "_law_marks"=true) (k22:PySem.W.keepIn K (.ref f22)=true)
  (a23:PySem.W.nsIn K mainGlobals "_law_heap"=some (some (.ref f23))) (l23:K.lookup f23=some ⟨oc23,od23,.func (PySem.W.fnOf "_law_heap" "_law_heap" (Bv Hh) (Bq Hh) (Aj Hh) .none kV23 dc23 pm23 an23 cd23 ct23),sl23⟩) (c23:PySem.W.codeIn K cd23 "_law_heap"=true) (k23:PySem.W.keepIn K (.ref f23)=true)
  (a24:PySem.W.nsIn K mainGlobals "_law_own"=some (some (.ref f24))) (l24:K.lookup f24=some ⟨oc24,od24,.func (PySem.W.fnOf "_law_own" "_law_own" (Bv Kl) (Bq Kl) (Aj Kl) .none kV24 dc24 pm24 an24 cd24 ct24),sl24⟩) (c24:PySem.W.codeIn K cd24 "_law_own"=true) (k24:PySem.W.keepIn K (.ref f24)=true)
  (a25:PySem.W.nsIn K mainGlobals "_law_places"=some (some (.ref f25))) (l25:K.lookup f25=some ⟨oc25,od25,.func (PySem.W.fnOf "_law_places" "_law_places" (Bv HN) (Bq HN) (Aj HN) .none kV25 dc25 pm25 an25 cd25 ct25),sl25⟩) (c25:PySem.W.codeIn K cd25 "_law_places"=true) (k25:PySem.W.keepIn K (.ref f25)=true)
  (a26:PySem.W.nsIn K mainGlobals "_law_held"=some (some (.ref f26))) (l26:K.lookup f26=some ⟨oc26,od26,.func (PySem.W.fnOf "_law_held" "_law_held" (Bv Io) (Bq Io) (Aj Io) .none kV26 dc26 pm26 an26 cd26 ct26),sl26⟩) (c26:PySem.W.codeIn K cd26 "_law_held"=true) (k26:PySem.W.keepIn K (.ref f26)=true)
  (a27:PySem.W.nsIn K mainGlobals "_law_size"=some (some (.ref f27))) (l27:K.lookup f27=some ⟨oc27,od27,.func (PySem.W.fnOf "_law_size" "_law_size" (Bv Jl) (Bq Jl) (Aj Jl) .none kV27 dc27 pm27 an27 cd27 ct27),sl27⟩) (c27:PySem.W.codeIn K cd27 "_law_size"=true) (k27:PySem.W.keepIn K (.ref f27)=true)
  (a28:PySem.W.nsIn K mainGlobals "_law_often"=some (some (.ref f28))) (l28:K.lookup f28=some ⟨oc28,od28,.func (PySem.W.fnOf "_law_often" "_law_often" (Bv JD) (Bq JD) (Aj JD) .none kV28 dc28 pm28 an28 cd28 ct28),sl28⟩) (c28:PySem.W.codeIn K cd28 "_law_often"=true) (k28:PySem.W.keepIn K (.ref f28)=true)
  (a29:PySem.W.nsIn K mainGlobals "_law_is_whole"=some (some (.ref f29))) (l29:K.lookup f29=some ⟨oc29,od29,.func (PySem.W.fnOf "_law_is_whole" "_law_is_whole" (Bv Gx) (Bq Gx) (Aj Gx) .none kV29 dc29 pm29 an29 cd29 ct29),sl29⟩) (c29:PySem.W.codeIn K cd29 "_law_is_whole"=true) (k29:PySem.W.keepIn K (.ref f29)=true)
  (a30:PySem.W.nsIn K mainGlobals "_law_are_wholes"=some (some (.ref f30))) (l30:K.lookup f30=some ⟨oc30,od30,.func (PySem.W.fnOf "_law_are_wholes" "_law_are_wholes" (Bv Fb) (Bq Fb) (Aj Fb) .none kV30 dc30 pm30 an30 cd30 ct30),sl30⟩) (c30:PySem.W.codeIn K cd30 "_law_are_wholes"=true) (k30:PySem.W.keepIn K (.ref f30)=true)
  (a31:PySem.W.nsIn K mainGlobals "law"=some (some (.ref f31))) (l31:K.lookup f31=some ⟨oc31,od31,.func (PySem.W.fnOf "law" "law" (Bv Mv) (Bq Mv) (Aj Mv) .none kV31 dc31 pm31 an31 cd31 ct31),sl31⟩) (c31:PySem.W.codeIn K cd31 "law"=true) (k31:PySem.W.keepIn K (.ref f31)=true)
  (z1:PySem.W.nsIn K mainGlobals "len"=some none)
  (z2:PySem.W.nsIn K mainGlobals "isinstance"=some none)
  (z3:PySem.W.nsIn K mainGlobals "all"=some none)
  (z4:PySem.W.nsIn K mainGlobals "sorted"=some none)
  (z5:PySem.W.nsIn K mainGlobals "min"=some none)
  (z6:PySem.W.nsIn K mainGlobals "max"=some none)
  (z7:PySem.W.nsIn K mainGlobals "abs"=some none)
  (z8:PySem.W.nsIn K mainGlobals "repr"=some none)
  (z9:PySem.W.nsIn K mainGlobals "set"=some none)
  (z10:PySem.W.nsIn K mainGlobals "list"=some none)
  (z11:PySem.W.nsIn K mainGlobals "tuple"=some none)
  (z12:PySem.W.nsIn K mainGlobals "range"=some none)
  (z13:PySem.W.nsIn K mainGlobals "int"=some none)
  (z14:PySem.W.nsIn K mainGlobals "bool"=some none)
  (z15:PySem.W.nsIn K mainGlobals "str"=some none)
  (zBz:PySem.W.nsIn K mainGlobals "zip"=some none)
  (zBe:PySem.W.nsIn K mainGlobals "enumerate"=some none)
  (zBs:PySem.W.nsIn K mainGlobals "sum"=some none)
  {ep:Nat} {h1 h2 h3:Int} {t1 t2 t3 u1 u2 u3:Tok} (aM:PySem.W.nsIn K mainGlobals "MOST_BOXES"=some (some (.ref dM))) (hM:(dM==sysModules)=false)
  (lM:K.lookup dM=some { cls:=.type "dict",data:=.dict #[⟨h1,.int 1 t1,.int 20 u1⟩,⟨h2,.int 2 t2,.int 10 u2⟩,⟨h3,.int 3 t3,.int 6 u3⟩] ep }) (e1:h1=hashInt 1) (e2:h2=hashInt 2) (e3:h3=hashInt 3)
  : ∃fd:FuncData,(∀(s:Shared)(v:Value),BindsTo s fd ⟨[v],[]⟩ [("script",v)])/\∀base:Heap,K.In base->base.Ns mainGlobals mg->Cp l.prog w K mg base CX0 9 fa fd ["script"] (Um K):=by
 have e:=hfa.symm.trans (PySem.W.mg_of X G a31)
 cases e
 have F1:=DQ (st:=Jm) l1 c1 k1
 have b1:=F1.binds (ps:=["thing"]) fun _ _ _ _ _ _ us hl=>by obtain⟨_,rfl⟩:=Kq hl;rfl
 have F2:=DQ (st:=Jq) l2 c2 k2
 have b2:=F2.binds (ps:=["thing"]) fun _ _ _ _ _ _ us hl=>by obtain⟨_,rfl⟩:=Kq hl;rfl
 have F3:=DQ (st:=Ib) l3 c3 k3
 have b3:=F3.binds (ps:=["thing"]) fun _ _ _ _ _ _ us hl=>by obtain⟨_,rfl⟩:=Kq hl;rfl
 have F4:=DQ (st:=Kc) l4 c4 k4
 have b4:=F4.binds (ps:=["ways","thing"]) fun _ _ _ _ _ _ us hl=>by obtain⟨_,_,rfl⟩:=Nk hl;rfl
 have F5:=DQ (st:=JZ) l5 c5 k5
 have b5:=F5.binds (ps:=["thing"]) fun _ _ _ _ _ _ us hl=>by obtain⟨_,rfl⟩:=Kq hl;rfl
 have F6:=DQ (st:=JB) l6 c6 k6
 have b6:=F6.binds (ps:=["heap"]) fun _ _ _ _ _ _ us hl=>by obtain⟨_,rfl⟩:=Kq hl;rfl
 have F7:=DQ (st:=Jp) l7 c7 k7
 have b7:=F7.binds (ps:=["box"]) fun _ _ _ _ _ _ us hl=>by obtain⟨_,rfl⟩:=Kq hl;rfl
 have F8:=DQ (st:=GQ) l8 c8 k8
 have b8:=F8.binds (ps:=["boxes","way"]) fun _ _ _ _ _ _ us hl=>by obtain⟨_,_,rfl⟩:=Nk hl;rfl
 have F9:=DQ (st:=Hf) l9 c9 k9
 have b9:=F9.binds (ps:=["boxes","way"]) fun _ _ _ _ _ _ us hl=>by obtain⟨_,_,rfl⟩:=Nk hl;rfl
 have F10:=DQ (st:=GR) l10 c10 k10
 have b10:=F10.binds (ps:=["boxes","numbers","way","ways"]) fun _ _ _ _ _ _ us hl=>by obtain⟨_,_,_,_,rfl⟩:=rm hl;rfl
 have F11:=DQ (st:=Jo) l11 c11 k11
 have b11:=F11.binds (ps:=["heap"]) fun _ _ _ _ _ _ us hl=>by obtain⟨_,rfl⟩:=Kq hl;rfl
 have F12:=DQ (st:=Fx) l12 c12 k12
 have b12:=F12.binds (ps:=["cells"]) fun _ _ _ _ _ _ us hl=>by obtain⟨_,rfl⟩:=Kq hl;rfl
 have F13:=DQ (st:=FZ) l13 c13 k13
 have b13:=F13.binds (ps:=["cells"]) fun _ _ _ _ _ _ us hl=>by obtain⟨_,rfl⟩:=Kq hl;rfl
 have F14:=DQ (st:=Gy) l14 c14 k14
 have b14:=F14.binds (ps:=["heap"]) fun _ _ _ _ _ _ us hl=>by obtain⟨_,rfl⟩:=Kq hl;rfl
 have F15:=DQ (st:=Hg) l15 c15 k15
 have b15:=F15.binds (ps:=["heap"]) fun _ _ _ _ _ _ us hl=>by obtain⟨_,rfl⟩:=Kq hl;rfl
 have F16:=DQ (st:=JF) l16 c16 k16
 have b16:=F16.binds (ps:=["cell","k"]) fun _ _ _ _ _ _ us hl=>by obtain⟨_,_,rfl⟩:=Nk hl;rfl
 have F17:=DQ (st:=Kh) l17 c17 k17
 have b17:=F17.binds (ps:=["cell"]) fun _ _ _ _ _ _ us hl=>by obtain⟨_,rfl⟩:=Kq hl;rfl
 have F18:=DQ (st:=Jk) l18 c18 k18
 have b18:=F18.binds (ps:=["pot","many"]) fun _ _ _ _ _ _ us hl=>by obtain⟨_,_,rfl⟩:=Nk hl;rfl
 have F19:=DQ (st:=G9) l19 c19 k19
 have b19:=F19.binds (ps:=["pot","things"]) fun _ _ _ _ _ _ us hl=>by obtain⟨_,_,rfl⟩:=Nk hl;rfl
 have F20:=DQ (st:=GP) l20 c20 k20
 have b20:=F20.binds (ps:=["pot","ways","count"]) fun _ _ _ _ _ _ us hl=>by obtain⟨_,_,_,rfl⟩:=j5 hl;rfl
 have F21:=DQ (st:=Hr) l21 c21 k21
 have b21:=F21.binds (ps:=["pot","ways","most","many"]) fun _ _ _ _ _ _ us hl=>by obtain⟨_,_,_,_,rfl⟩:=rm hl;rfl
 have F22:=DQ (st:=JH) l22 c22 k22
 have b22:=F22.binds (ps:=["pot","many"]) fun _ _ _ _ _ _ us hl=>by obtain⟨_,_,rfl⟩:=Nk hl;rfl
 have F23:=DQ (st:=Hh) l23 c23 k23
 have b23:=F23.binds (ps:=["pot","ways","most"]) fun _ _ _ _ _ _ us hl=>by obtain⟨_,_,_,rfl⟩:=j5 hl;rfl
 have F24:=DQ (st:=Kl) l24 c24 k24
 have b24:=F24.binds (ps:=["heap"]) fun _ _ _ _ _ _ us hl=>by obtain⟨_,rfl⟩:=Kq hl;rfl
 have F25:=DQ (st:=HN) l25 c25 k25
 have b25:=F25.binds (ps:=["marks"]) fun _ _ _ _ _ _ us hl=>by obtain⟨_,rfl⟩:=Kq hl;rfl
 have F26:=DQ (st:=Io) l26 c26 k26
 have b26:=F26.binds (ps:=["small","spot"]) fun _ _ _ _ _ _ us hl=>by obtain⟨_,_,rfl⟩:=Nk hl;rfl
 have F27:=DQ (st:=Jl) l27 c27 k27
 have b27:=F27.binds (ps:=["marks","spot"]) fun _ _ _ _ _ _ us hl=>by obtain⟨_,_,rfl⟩:=Nk hl;rfl
 have F28:=DQ (st:=JD) l28 c28 k28
 have b28:=F28.binds (ps:=["small","marks","ways"]) fun _ _ _ _ _ _ us hl=>by obtain⟨_,_,_,rfl⟩:=j5 hl;rfl
 have F29:=DQ (st:=Gx) l29 c29 k29
 have b29:=F29.binds (ps:=["found","due"]) fun _ _ _ _ _ _ us hl=>by obtain⟨_,_,rfl⟩:=Nk hl;rfl
 have F30:=DQ (st:=Fb) l30 c30 k30
 have b30:=F30.binds (ps:=["found","due"]) fun _ _ _ _ _ _ us hl=>by obtain⟨_,_,rfl⟩:=Nk hl;rfl
 have F31:=DQ (st:=Mv) l31 c31 k31
 have mM:=PySem.W.mg_of X G aM
 have B:Blt mg:=fun x hx=>by
  simp only[UJ,List.mem_cons,List.not_mem_nil,or_false] at hx
  rcases hx with rfl|rfl|rfl|rfl|rfl|rfl|rfl|rfl|rfl|rfl|rfl|rfl|rfl|rfl|rfl
  .exact PySem.W.mg_none_of X G z1
  .exact PySem.W.mg_none_of X G z2
  .exact PySem.W.mg_none_of X G z3
  .exact PySem.W.mg_none_of X G z4
  .exact PySem.W.mg_none_of X G z5
  .exact PySem.W.mg_none_of X G z6
  .exact PySem.W.mg_none_of X G z7
  .exact PySem.W.mg_none_of X G z8
  .exact PySem.W.mg_none_of X G z9
  .exact PySem.W.mg_none_of X G z10
  .exact PySem.W.mg_none_of X G z11
  .exact PySem.W.mg_none_of X G z12
  .exact PySem.W.mg_none_of X G z13
  .exact PySem.W.mg_none_of X G z14
  .exact PySem.W.mg_none_of X G z15
 have Bz:mg "zip"=none:=PySem.W.mg_none_of X G zBz
 have Be:mg "enumerate"=none:=PySem.W.mg_none_of X G zBe
 have Bs:mg "sum"=none:=PySem.W.mg_none_of X G zBs
 refine⟨PySem.W.fnOf "law" "law" (Bv Mv) (Bq Mv) (Aj Mv) .none kV31 dc31 pm31 an31 cd31 ct31,fun s v=>.of_eq rfl,fun base _ _=>?_⟩
 have C_is_whole:CW l.prog w K mg base "is_whole" 1 Fp:=⟨⟨["thing"],⟨_,_,Zn F1 B,b1,k1,PySem.W.mg_of X G a1⟩,fun ds r h=>DN h⟩⟩
 have C_are_ways:CW l.prog w K mg base "are_ways" 2 FP:=⟨⟨["thing"],⟨_,_,Zr F2 B mM (sE hM lM e1 e2 e3 (by decide)) C_is_whole,b2,k2,PySem.W.mg_of X G a2⟩,fun ds r h=>DN h⟩⟩
 have C_is_stretch:CW l.prog w K mg base "is_stretch" 2 Gv:=⟨⟨["thing"],⟨_,_,XQ F3 B C_is_whole,b3,k3,PySem.W.mg_of X G a3⟩,fun ds r h=>DN h⟩⟩
 have C_is_box:CW l.prog w K mg base "is_box" 3 Jj:=⟨⟨["ways","thing"],⟨_,_,gY F4 B C_are_ways C_is_stretch,b4,k4,PySem.W.mg_of X G a4⟩,fun ds r h=>DN h⟩⟩
 have C_is_heap:CW l.prog w K mg base "is_heap" 4 J8:=⟨⟨["thing"],⟨_,_,d7 F5 B mM (sE hM lM e1 e2 e3 (by decide)) C_are_ways C_is_box,b5,k5,PySem.W.mg_of X G a5⟩,fun ds r h=>DN h⟩⟩
 have C_need_heap:CW l.prog w K mg base "need_heap" 5 Em:=⟨⟨["heap"],⟨_,_,ZG F6 B C_is_heap,b6,k6,PySem.W.mg_of X G a6⟩,fun ds r h=>DN h⟩⟩
 have C_box_size:CW l.prog w K mg base "box_size" 1 Fq:=⟨⟨["box"],⟨_,_,Zq F7 B,b7,k7,PySem.W.mg_of X G a7⟩,fun ds r h=>DN h⟩⟩
 have C_ends_along:CW l.prog w K mg base "ends_along" 1 Gw:=⟨⟨["boxes","way"],⟨_,_,XR F8 B,b8,k8,PySem.W.mg_of X G a8⟩,fun ds r h=>DN h⟩⟩
 have C_steps_along:CW l.prog w K mg base "steps_along" 2 Fw:=⟨⟨["boxes","way"],⟨_,_,W6 F9 B Bz C_ends_along,b9,k9,PySem.W.mg_of X G a9⟩,fun ds r h=>DN h⟩⟩
 have C_cells_from0:CW l.prog w K mg base "cells_from" 2 (CP 0):=⟨⟨["boxes","numbers","way","ways"],⟨_,_,qw (f:=f10) rfl,b10,k10,PySem.W.mg_of X G a10⟩,fun ds r h=>by cases h⟩⟩
 have C_cells_from1:CW l.prog w K mg base "cells_from" 3 (CP 1):=⟨⟨["boxes","numbers","way","ways"],⟨_,_,K7 F10 B C_steps_along (by decide) C_cells_from0,b10,k10,PySem.W.mg_of X G a10⟩,fun ds r h=>DN h⟩⟩
 have C_cells_from2:CW l.prog w K mg base "cells_from" 4 (CP 2):=⟨⟨["boxes","numbers","way","ways"],⟨_,_,K7 F10 B C_steps_along (by decide) C_cells_from1,b10,k10,PySem.W.mg_of X G a10⟩,fun ds r h=>DN h⟩⟩
 have C_cells_from3:CW l.prog w K mg base "cells_from" 5 (CP 3):=⟨⟨["boxes","numbers","way","ways"],⟨_,_,K7 F10 B C_steps_along (by decide) C_cells_from2,b10,k10,PySem.W.mg_of X G a10⟩,fun ds r h=>DN h⟩⟩
 have C_cells_from4:CW l.prog w K mg base "cells_from" 6 (CP 4):=⟨⟨["boxes","numbers","way","ways"],⟨_,_,K7 F10 B C_steps_along (by decide) C_cells_from3,b10,k10,PySem.W.mg_of X G a10⟩,fun ds r h=>DN h⟩⟩
 have C_cells_from:=C_cells_from4
 have C_cells_of:CW l.prog w K mg base "cells_of" 7 Eb:=⟨⟨["heap"],⟨_,_,Zo F11 B C_cells_from,b11,k11,PySem.W.mg_of X G a11⟩,fun ds r h=>DN h⟩⟩
 have C_size_together:CW l.prog w K mg base "size_together" 2 Ez:=⟨⟨["cells"],⟨_,_,Ue F12 B Bs C_box_size,b12,k12,PySem.W.mg_of X G a12⟩,fun ds r h=>DN h⟩⟩
 have C_sizes_by_times:CW l.prog w K mg base "sizes_by_times" 2 El:=⟨⟨["cells"],⟨_,_,Ss F13 B C_box_size,b13,k13,PySem.W.mg_of X G a13⟩,fun ds r h=>DN h⟩⟩
 have C_covered_size:CW l.prog w K mg base "covered_size" 8 DR:=⟨⟨["heap"],⟨_,_,Vl F14 B C_need_heap C_size_together C_cells_of,b14,k14,PySem.W.mg_of X G a14⟩,fun ds r h=>DN h⟩⟩
 have C_sizes_often:CW l.prog w K mg base "sizes_often" 8 Ei:=⟨⟨["heap"],⟨_,_,W7 F15 B C_need_heap C_sizes_by_times C_cells_of,b15,k15,PySem.W.mg_of X G a15⟩,fun ds r h=>DN h⟩⟩
 have C_law_mixed:CW l.prog w K mg base "_law_mixed" 1 HX:=⟨⟨["cell","k"],⟨_,_,ZL F16 B,b16,k16,PySem.W.mg_of X G a16⟩,fun ds r h=>DN h⟩⟩
 have C_law_pot:CW l.prog w K mg base "_law_pot" 1 Ho:=⟨⟨["cell"],⟨_,_,cj F17 B,b17,k17,PySem.W.mg_of X G a17⟩,fun ds r h=>DN h⟩⟩
 have C_law_take:JQ l.prog w K mg base "_law_take" 2 Al:=⟨⟨["pot","many"],⟨_,_,Zi F18 B C_law_mixed,b18,k18,PySem.W.mg_of X G a18⟩,fun ns ds r h=>Nb h⟩⟩
 have C_law_mixed_up:JQ l.prog w K mg base "_law_mixed_up" 3 FW:=⟨⟨["pot","things"],⟨_,_,Vj F19 B C_law_take,b19,k19,PySem.W.mg_of X G a19⟩,fun ns ds r h=>Nb h⟩⟩
 have C_law_unlike:JQ l.prog w K mg base "_law_unlike" 4 G8:=⟨⟨["pot","ways","count"],⟨_,_,XJ F20 B Bz C_law_mixed_up,b20,k20,PySem.W.mg_of X G a20⟩,fun ns ds r h=>Nb h⟩⟩
 have C_law_small:JQ l.prog w K mg base "_law_small" 5 Gg:=⟨⟨["pot","ways","most","many"],⟨_,_,ZJ F21 B C_law_take C_law_unlike,b21,k21,PySem.W.mg_of X G a21⟩,fun ns ds r h=>Nb h⟩⟩
 have C_law_marks:JQ l.prog w K mg base "_law_marks" 3 Gh:=⟨⟨["pot","many"],⟨_,_,ZM F22 B C_law_take,b22,k22,PySem.W.mg_of X G a22⟩,fun ns ds r h=>Nb h⟩⟩
 have C_law_heap:JQ l.prog w K mg base "_law_heap" 6 GK:=⟨⟨["pot","ways","most"],⟨_,_,Zm F23 B Bz C_law_take C_law_small C_law_marks,b23,k23,PySem.W.mg_of X G a23⟩,fun ns ds r h=>Nb h⟩⟩
 have C_law_own:CW l.prog w K mg base "_law_own" 1 Hq:=⟨⟨["heap"],⟨_,_,cu F24 B,b24,k24,PySem.W.mg_of X G a24⟩,fun ds r h=>DN h⟩⟩
 have C_law_places:CW l.prog w K mg base "_law_places" 1 Fg:=⟨⟨["marks"],⟨_,_,XM F25 B,b25,k25,PySem.W.mg_of X G a25⟩,fun ds r h=>DN h⟩⟩
 have C_law_held:CW l.prog w K mg base "_law_held" 1 GJ:=⟨⟨["small","spot"],⟨_,_,Zk F26 B Bz Be,b26,k26,PySem.W.mg_of X G a26⟩,fun ds r h=>DN h⟩⟩
 have C_law_size:CW l.prog w K mg base "_law_size" 1 HJ:=⟨⟨["marks","spot"],⟨_,_,Zj F27 B Bz,b27,k27,PySem.W.mg_of X G a27⟩,fun ds r h=>DN h⟩⟩
 have C_law_often:CW l.prog w K mg base "_law_often" 2 Fy:=⟨⟨["small","marks","ways"],⟨_,_,ZK F28 B C_law_places C_law_held C_law_size,b28,k28,PySem.W.mg_of X G a28⟩,fun ds r h=>DN h⟩⟩
 have C_law_is_whole:CW l.prog w K mg base "_law_is_whole" 1 Ek:=⟨⟨["found","due"],⟨_,_,Vk F29 B,b29,k29,PySem.W.mg_of X G a29⟩,fun ds r h=>DN h⟩⟩
 have C_law_are_wholes:CW l.prog w K mg base "_law_are_wholes" 1 Dz:=⟨⟨["found","due"],⟨_,_,Sv F30 B,b30,k30,PySem.W.mg_of X G a30⟩,fun ds r h=>DN h⟩⟩
 exact(uo F31 B Bs C_law_pot C_law_heap C_law_often C_law_own C_sizes_often C_law_are_wholes C_law_is_whole C_covered_size).imp (v9 lJ)
theorem walk{l:PySem.W.OpenLaw}{q:Program}{loose:List Str}{XP:(Str->Option Value)->Heap->Prop}{YP:World->Heap->Prop}{d:DefRec}{K:Params->PySem.W.Frag}(hn:l.most=some 63)(hdf:d.params.defaults=[])
  (hY:∀(w:World)(h:Heap),YP w h->(K w.params).In h)
  (F:∀(w:World)(mg:Str->Option Value)(fa:Addr)(h:Heap),(K w.params).In h->h.Ns mainGlobals mg->mg d.name=some (.ref fa) ->
   ∃fd:FuncData,(∀(s:Shared)(u:Value),BindsTo s fd ⟨[u],[]⟩ [("script",u)])/\∀base:Heap,(K w.params).In base->base.Ns mainGlobals mg->Cp l.prog w (K w.params) mg base CX0 9 fa fd ["script"] (Um (K w.params))) :
  PySem.W.WalkO q loose XP YP l.row.toRowW d [] (fun f vs=>PySem.call f vs) :=
 L2.jK (n:=63) (k:=9) (x:="script") (CX:=CX0) (sp:=Um) hn (by decide) hdf ⟨rfl,by decide,by decide,rfl⟩ hY F (fun _ _ a ns hl hO hS=>⟨a,ns,rfl,hO,hl,hS,fun _=>rfl⟩) fun _ _ _ _ z=>z
end W17
open PySem PySem.W PyProof.Rows
set_option maxRecDepth 100000 in
set_option maxHeartbeats 0 in
theorem PySem.Challenge.cw_boxcover_k17_sizes_told_holds : PySem.Challenge.rw_boxcover_k17_sizes_told.Holds := by
 w_on;o_law;k_head;(case hw=>w_witness2)
 k_fill
 refine W17.walk (l := PySem.Challenge.rw_boxcover_k17_sizes_told) rfl rfl (fun w h Y => PySem.W.kIn_of Y) ?F
 case F =>
  intro w mg fa h KX G hmg
  refine' W17.tops KX G hmg ?a1 ?l1 ?c1 ?k1 ?a2 ?l2 ?c2 ?k2 ?a3 ?l3 ?c3 ?k3 ?a4 ?l4 ?c4 ?k4 ?a5 ?l5 ?c5 ?k5 ?a6 ?l6 ?c6 ?k6 ?a7 ?l7 ?c7 ?k7 ?a8 ?l8 ?c8 ?k8 ?a9 ?l9 ?c9 ?k9 ?a10 ?l10 ?c10 ?k10 ?a11 ?l11 ?c11 ?k11 ?a12 ?l12 ?c12 ?k12 ?a13 ?l13 ?c13 ?k13 ?a14 ?l14 ?c14 ?k14 ?a15 ?l15 ?c15 ?k15 ?a16 ?l16 ?c16 ?k16 ?a17 ?l17 ?c17 ?k17 ?a18 ?l18 ?c18 ?k18 ?a19 ?l19 ?c19 ?k19 ?a20 ?l20 ?c20 ?k20 ?a21 ?l21 ?c21 ?k21 ?a22 ?l22 ?c22 ?k22 ?a23 ?l23 ?c23 ?k23 ?a24 ?l24 ?c24 ?k24 ?a25 ?l25 ?c25 ?k25 ?a26 ?l26 ?c26 ?k26 ?a27 ?l27 ?c27 ?k27 ?a28 ?l28 ?c28 ?k28 ?a29 ?l29 ?c29 ?k29 ?a30 ?l30 ?c30 ?k30 ?a31 ?l31 ?c31 ?k31 ?z1 ?z2 ?z3 ?z4 ?z5 ?z6 ?z7 ?z8 ?z9 ?z10 ?z11 ?z12 ?z13 ?z14 ?z15 ?zBz ?zBe ?zBs ?aM ?hM ?lM ?e1 ?e2 ?e3
  (case a1=>k_is);(case l1=>k_is);(case c1=>k_is);(case k1=>k_is)
  (case a2=>k_is);(case l2=>k_is);(case c2=>k_is);(case k2=>k_is)
  (case a3=>k_is);(case l3=>k_is);(case c3=>k_is);(case k3=>k_is)
  (case a4=>k_is);(case l4=>k_is);(case c4=>k_is);(case k4=>k_is)
  (case a5=>k_is);(case l5=>k_is);(case c5=>k_is);(case k5=>k_is)
  (case a6=>k_is);(case l6=>k_is);(case c6=>k_is);(case k6=>k_is)
  (case a7=>k_is);(case l7=>k_is);(case c7=>k_is);(case k7=>k_is)
  (case a8=>k_is);(case l8=>k_is);(case c8=>k_is);(case k8=>k_is)
  (case a9=>k_is);(case l9=>k_is);(case c9=>k_is);(case k9=>k_is)
  (case a10=>k_is);(case l10=>k_is);(case c10=>k_is);(case k10=>k_is)
  (case a11=>k_is);(case l11=>k_is);(case c11=>k_is);(case k11=>k_is)
  (case a12=>k_is);(case l12=>k_is);(case c12=>k_is);(case k12=>k_is)
  (case a13=>k_is);(case l13=>k_is);(case c13=>k_is);(case k13=>k_is)
  (case a14=>k_is);(case l14=>k_is);(case c14=>k_is);(case k14=>k_is)
  (case a15=>k_is);(case l15=>k_is);(case c15=>k_is);(case k15=>k_is)
  (case a16=>k_is);(case l16=>k_is);(case c16=>k_is);(case k16=>k_is)
  (case a17=>k_is);(case l17=>k_is);(case c17=>k_is);(case k17=>k_is)
  (case a18=>k_is);(case l18=>k_is);(case c18=>k_is);(case k18=>k_is)
  (case a19=>k_is);(case l19=>k_is);(case c19=>k_is);(case k19=>k_is)
  (case a20=>k_is);(case l20=>k_is);(case c20=>k_is);(case k20=>k_is)
  (case a21=>k_is);(case l21=>k_is);(case c21=>k_is);(case k21=>k_is)
  (case a22=>k_is);(case l22=>k_is);(case c22=>k_is);(case k22=>k_is)
  (case a23=>k_is);(case l23=>k_is);(case c23=>k_is);(case k23=>k_is)
  (case a24=>k_is);(case l24=>k_is);(case c24=>k_is);(case k24=>k_is)
  (case a25=>k_is);(case l25=>k_is);(case c25=>k_is);(case k25=>k_is)
  (case a26=>k_is);(case l26=>k_is);(case c26=>k_is);(case k26=>k_is)
  (case a27=>k_is);(case l27=>k_is);(case c27=>k_is);(case k27=>k_is)
  (case a28=>k_is);(case l28=>k_is);(case c28=>k_is);(case k28=>k_is)
  (case a29=>k_is);(case l29=>k_is);(case c29=>k_is);(case k29=>k_is)
  (case a30=>k_is);(case l30=>k_is);(case c30=>k_is);(case k30=>k_is)
  (case a31=>k_is);(case l31=>k_is);(case c31=>k_is);(case k31=>k_is)
  (case z1=>k_is);(case z2=>k_is);(case z3=>k_is);(case z4=>k_is);(case z5=>k_is);(case z6=>k_is);(case z7=>k_is);(case z8=>k_is);(case z9=>k_is);(case z10=>k_is);(case z11=>k_is);(case z12=>k_is);(case z13=>k_is);(case z14=>k_is);(case z15=>k_is)
  (case zBz=>k_is)
  (case zBe=>k_is)
  (case zBs=>k_is)
  (case aM=>k_is);(case lM=>k_is)
  (case hM=>rfl);(case e1=>rfl);(case e2=>rfl);(case e3=>rfl)
end
